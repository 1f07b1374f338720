/-
  Lex: all tokens.
-/
import Derived.Test.YtaaiogfbohndaaaDoorCut
import Derived.Deep.RegionWith
namespace Go.Proofs.YtaaiogfbohndaaaDoor
open Go.RowKit
set_option maxRecDepth 1000000

theorem loop_ghost {P : Program} {a : Act} {w : World} {Q : Exit → Act → World → Prop} {c : Code} (I : Nat → Act → World → Prop) (m0 : Nat) (h₀ : I m0 a w)
    (round : ∀ m a w, I m a w → c.wp P (Exit.then (fun a' w' => ∃ m', m' < m ∧ I m' a' w') Q) a w) : (Code.loop c).wp P Q a w := by
  intro b k cs
  have key : ∀ n a w, I n a w →
      ∃ e a' w', Q e a' w' ∧ Arrives P (lone (b.at a (.code c :: .inLoop c :: k)) cs w) b k cs e a' w' := by
    intro n
    induction n using Nat.strongRecOn with
    | _ n ih =>
      intro a w hI
      obtain ⟨e, a₁, w₁, hq, harr⟩ := round n a w hI b (.inLoop c :: k) cs
      cases e with
      | normal =>
        obtain ⟨m', hlt, hI₁⟩ := hq
        obtain ⟨e₂, a₂, w₂, hq₂, harr₂⟩ := ih m' hlt a₁ w₁ hI₁
        exact ⟨e₂, a₂, w₂, hq₂, .of_steps (Steps.trans harr (.one step_inLoop)) harr₂⟩
      | exit id => exact ⟨.exit id, a₁, w₁, hq, fun k' hk => harr k' (by simp [exitTo, hk])⟩
      | goto l => exact ⟨.goto l, a₁, w₁, hq, fun k' hk => harr k' (by simp [gotoIn, hk])⟩
      | ret => exact ⟨_, a₁, w₁, hq, harr⟩
      | panic ch => exact ⟨_, a₁, w₁, hq, harr⟩
      | outgrown => exact ⟨_, a₁, w₁, hq, harr⟩
  obtain ⟨e, a₁, w₁, hq, harr⟩ := key m0 a w h₀
  exact ⟨e, a₁, w₁, hq, .of_steps (.one step_loop) harr⟩

theorem info48 : (Tryd.prog.info? 48).map (fun i => (i.zero, i.size, i.bytes)) = some (some (.agg #[.int .i64 0, .string ByteArray.empty, .int .i64 0]), 3, 32) := by kernel_rfl
theorem info_parts {P : Program} {e : TypeId} {z : Value} {n b : Nat} (h : (P.info? e).map (fun i => (i.zero, i.size, i.bytes)) = some (some z, n, b)) :
    ∃ i, P.info? e = some i ∧ i.zero = some z ∧ i.size = n ∧ i.bytes = b := by
  cases hi : P.info? e with
  | none => rw [hi] at h; cases h
  | some i =>
    rw [hi] at h
    simp only [Option.map_some, Option.some.injEq, Prod.mk.injEq] at h
    exact ⟨i, rfl, h.1, h.2.1, h.2.2⟩

/-- Tokens as cells. -/
def tz (s : ByteArray) (l : List Tk) : List Value := l.flatMap fun t => [.int .i64 (t.k : Nat), .string (s.extract t.a t.e), .int .i64 (t.a : Nat)]
theorem tz_push (s : ByteArray) (l : List Tk) (t : Tk) : tz s (l ++ [t]) = tz s l ++ [.int .i64 (t.k : Nat), .string (s.extract t.a t.e), .int .i64 (t.a : Nat)] := by simp [tz]

/-- What Lex answers. -/
def LxR (s : ByteArray) (w w' : World) (e : Ending) : Prop :=
  (∃ (l : List Tk) (v : Value), s.size ≤ 8000 ∧ lexS s = .ok l ∧ l.length ≤ 8001 ∧ e = .returned (.tuple #[v, .nilIface]) ∧ w'.ownsRow w.heap.size 48 3 v l.length (tz s l)) ∨
  (∃ (at1 N er : Nat), ((s.size ≤ 8000 ∧ lexS s = .no at1 ∧ er = 90) ∨ (8000 < s.size ∧ at1 = 8000 ∧ er = 102)) ∧ e = .returned (.tuple #[.slice none 0 0, .iface 32 (.pointer (some ⟨N, 0, none⟩))]) ∧ w.heap.size ≤ N ∧
    w'.heap[N]? = some (.cells #[.int .i64 (at1 : Nat), .int .i64 (er : Nat)] 36 (0, 0)))

def lxF (s : ByteArray) (at1 : Nat) (v : Value) (u : Nat → Value) : Act := { tmps := #[.string s, undef, .slice none 0 0, .nilIface, v, .int .i64 (at1 : Nat), u 6, u 7, u 8, u 9, u 10, u 11, u 12, u 13, u 14, u 15, u 16, u 17, u 18, u 19, u 20, u 21, u 22, u 23, u 24, u 25, u 26, u 27, u 28, u 29, u 30, u 31, u 32, u 33, u 34, u 35, u 36, u 37, u 38, u 39, u 40], defers := [] }
def LxI (s : ByteArray) (w0 : World) (m : Nat) (a : Act) (w : World) : Prop := Below w0.heap.size w0 w ∧ Wd w ∧ ∃ (at1 : Nat) (v : Value) (l : List Tk), a = lxF s at1 v (fun k => a.tmps.getD k undef) ∧
  w.ownsRow w0.heap.size 48 3 v l.length (tz s l) ∧ at1 ≤ s.size ∧ l.length ≤ at1 ∧ lexS s = Rs.pre l (lexA (bt s) s.size at1) ∧ m = s.size - at1
theorem lxI_open {s : ByteArray} {w0 : World} {m : Nat} {a : Act} {w : World} (h : LxI s w0 m a w) : Below w0.heap.size w0 w ∧ Wd w ∧ ∃ (at1 : Nat) (v : Value) (l : List Tk) (u : Nat → Value), a = lxF s at1 v u ∧
  w.ownsRow w0.heap.size 48 3 v l.length (tz s l) ∧ at1 ≤ s.size ∧ l.length ≤ at1 ∧ lexS s = Rs.pre l (lexA (bt s) s.size at1) ∧ m = s.size - at1 := by
  obtain ⟨h1, h2, at1, v, l, h3, h4⟩ := h
  exact ⟨h1, h2, at1, v, l, _, h3, h4⟩

theorem grown_later {w w' : World} (h : Below w.heap.size w w') : w.grownBy w' none := ⟨h.os, h.tape, h.output, h.size, fun k hk _ => h.block k hk⟩
theorem own_later {w w' : World} {b e s n : Nat} {v : Value} {xs : List Value} (h : w.ownsRow b e s v n xs) (hb : Below w.heap.size w w') : w'.ownsRow b e s v n xs :=
  h.kept (grown_later hb) (by cases v.ownBlock <;> simp)
theorem lx_cells {w w1 w2 : World} {b n : Nat} {v : Value} {xs : List Value} (h : w.ownsRow b 48 3 v n xs) (hb : w.heap.size ≤ w1.heap.size) {x y z : Value} {o : Obj}
    (hg : ((w1.alloc (.cells #[x, y, z] 48)).alloc o).grownBy w2 v.ownBlock) : w2.cell? ⟨w1.heap.size, 0, none⟩ = some x ∧ w2.cell? ⟨w1.heap.size, 1, none⟩ = some y ∧ w2.cell? ⟨w1.heap.size, 2, none⟩ = some z := by
  have hne : some w1.heap.size ≠ v.ownBlock := fun e => by
    have := (h.lt _ e.symm).2
    omega
  have hh : ((w1.alloc (.cells #[x, y, z] 48)).alloc o).heap[w1.heap.size]? = some (.cells #[x, y, z] 48 (0, 0)) := by
    rw [Below.heap_alloc _ _ _ (by simp)]
    exact Array.getElem?_push_size
  refine ⟨hg.cell (by rw [cell_of_row _ _ _ _ 48 (0, 0) hh]; rfl) hne, hg.cell (by rw [cell_of_row _ _ _ _ 48 (0, 0) hh]; rfl) hne, hg.cell (by rw [cell_of_row _ _ _ _ 48 (0, 0) hh]; rfl) hne⟩
theorem lx_below {w0 w w1 w2 : World} {n : Nat} {v : Value} {xs : List Value} (h0 : Below w0.heap.size w0 w) (h : w.ownsRow w0.heap.size 48 3 v n xs) (hb : Below w.heap.size w w1) {o o' : Obj}
    (hg : ((w1.alloc o').alloc o).grownBy w2 v.ownBlock) (hw : Wd w0) : Below w0.heap.size w0 w2 ∧ Wd w2 := by
  have h1 : Below w0.heap.size w0 ((w1.alloc o').alloc o) := ((h0.trans (hb.mono h0.size)).alloc (Nat.le_trans h0.size hb.size) o').alloc (by have := h0.size; have := hb.size; simp; omega) o
  have h2 : Below w0.heap.size w0 w2 := h1.grown hg h1.size (fun k e => (h.lt k e).1)
  exact ⟨h2, hw.below hw.lt h2⟩

def Stop (p : Prop) : Prop := p
theorem stopHere {P : Program} {ops : Array Oper} {Q : Exit → Act → World → Prop} {l : List Oper} {a : Act} {w : World} (h : Stop (wpList P ops Q l a w)) : wpList P ops Q l a w := h
set_option maxHeartbeats 8000000 in
theorem lex_any (s : ByteArray) (w0 : World) (hw : Wd w0) : Calls Tryd.prog 9 #[.string s] w0 fun e w' => Below w0.heap.size w0 w' ∧ Wd w' ∧ LxR s w0 w' e := by
  by_cases hs : s.size ≤ 8000
  case neg =>
    have hs' : 8000 < s.size := by omega
    go_enter Tryd.func9, Tryd.ntmps9
    go_wp2
    · have hb : Below w0.heap.size w0 (w0.alloc (.cells #[.int .i64 8000, .int .i64 102] 36)) := (Below.refl _ w0).alloc (Nat.le_refl _) _
      go_ret2
      exact ⟨hb, hw.below hw.lt hb, Or.inr ⟨8000, w0.heap.size, 102, Or.inr ⟨hs', rfl, rfl⟩, rfl, Nat.le_refl _, Array.getElem?_push_size⟩⟩
  case pos =>
    obtain ⟨i0, hi0, hz0, hz1, hz2⟩ := info_parts info48
    go_enter Tryd.func9, Tryd.ntmps9
    go_wp2
    refine loop_ghost (LxI s w0) s.size ⟨Below.refl _ _, hw, 0, .slice none 0 0, [], rfl, World.ownsRow_nil _ _ _ _, Nat.zero_le _, Nat.zero_le _, by rw [Rs.pre_nil]; rfl, rfl⟩ ?_
    intro m a w hI
    obtain ⟨hbl, hwd, at1, v, l, u, rfl, hown, h1, h2, h3, hm⟩ := lxI_open hI
    clear hI
    simp only [lxF]
    have cct := cut_any s at1 h1 hs w hwd
    have HO := hide hown
    have H3 := hide h3
    have HB := hide hbl
    have HW := hide hw
    have HO2 : Hid (∀ (w1 : World) (o1 o2 : Obj), Below w.heap.size w w1 → ((w1.alloc o1).alloc o2).ownsRow w0.heap.size 48 3 v l.length (tz s l)) := fun w1 o1 o2 h => ((own_later hown h).alloc o1).alloc o2
    have HS : Hid (∀ (w1 : World) (o1 o2 : Obj), Below w.heap.size w w1 → w0.heap.size ≤ ((w1.alloc o1).alloc o2).heap.size) := fun w1 o1 o2 h => by
      have := hbl.size; have := h.size; simp; omega
    clear hown h3 hbl hwd hw
    go_wp2_with (first | (go_at_call 18; refine cct.mono ?_; rintro e w1 ⟨hb1, hwd1, ⟨kd, st, en, rfl, hcd⟩ | ⟨st, rfl, hno⟩⟩) | (at_builtin; apply stopHere))
    · show wpList _ _ _ _ _ _
      refine wpList_append_lies _ rfl (.tmp 27) (.tmp 29) 25 rfl w0.heap.size 48 i0 (.agg #[.int .i64 0, .string ByteArray.empty, .int .i64 0]) 3 32 Tryd.underlying25 hi0 hz0 hz1 hz2 rfl (by decide) v l.length (tz s l) rfl (HO2.out _ _ _ (by assumption)) ⟨_ + 1, 0, none⟩ 1 1 [.int .i64 (kd : Nat), .string (s.extract st en), .int .i64 (st : Nat)] rfl rfl ?d1 ?d2 (by decide) ?d3 ?d4 (HS.out _ _ _ (by assumption)) _ rfl ?_
      case d1 =>
        intro j u hj
        have hh : ((w1.alloc (.cells #[.int .i64 (kd : Nat), .string (s.extract st en), .int .i64 (st : Nat)] 48)).alloc (.cells #[.int .i64 (kd : Nat), .string (s.extract st en), .int .i64 (st : Nat)] 48)).heap[w1.heap.size + 1]? = some (.cells #[.int .i64 (kd : Nat), .string (s.extract st en), .int .i64 (st : Nat)] 48 (0, 0)) := by
          have : w1.heap.size + 1 = (w1.alloc (.cells #[.int .i64 (kd : Nat), .string (s.extract st en), .int .i64 (st : Nat)] 48)).heap.size := by simp
          rw [this]
          exact Array.getElem?_push_size
        have hc := fun j => cell_of_row _ _ j _ 48 (0, 0) hh
        rw [← hj]
        simp only [Addr.add, Nat.zero_add]
        split
        · rename_i h0
          subst h0
          rw [hc 0]
          rfl
        · rw [hc j]
          simp
      case d2 =>
        intro u hu
        simp only [List.mem_cons, List.not_mem_nil, or_false] at hu
        rcases hu with rfl | rfl | rfl <;> rfl
      case d3 => unfold maxLen; omega
      case d4 => omega
      intro g cap w2 k1 k2 k3 k4
      obtain ⟨f0, f1, f2⟩ := lx_cells HO.out hb1.size k2
      obtain ⟨bb, bw⟩ := lx_below HB.out HO.out hb1 k2 HW.out
      have K1 := hide k1
      have KB := hide bb
      have KW := hide bw
      have hk : kd < 4 ∧ en ≤ s.size ∧ st ≤ en := ⟨by obtain ⟨_, _, _, h | h⟩ := hcd <;> omega, hcd.2.2.1, hcd.2.1⟩
      have HD := hide hcd
      clear k1 k2 k3 bb bw hcd hb1 hwd1
      go_wp2
      · rename_i g0
        simp only [beq_iff_eq] at g0
        obtain ⟨q1, q2, q3, ⟨q4, q5, q6, q7⟩ | ⟨q4, _⟩⟩ := HD.out
        · go_ret2
          refine ⟨KB.out, KW.out, Or.inl ⟨l ++ [⟨kd, st, en⟩], _, hs, ?_, by simp; omega, rfl, ?_⟩⟩
          · rw [H3.out, q7, q4, q5, q6]
            rfl
          · rw [tz_push]
            have := K1.out
            simpa using this
        · omega
      · rename_i g0
        simp only [beq_eq_false_iff_ne, ne_eq] at g0
        obtain ⟨q1, q2, q3, ⟨q4, _⟩ | ⟨q4, q5, q6, q7⟩⟩ := HD.out
        · omega
        · rw [show (st : Int) + ((en - st : Nat) : Int) = (en : Int) by omega]
          refine ⟨s.size - en, by omega, KB.out, KW.out, en, _, l ++ [⟨kd, st, en⟩], rfl, ?_, by omega, by simp; omega, ?_, rfl⟩
          · rw [tz_push]
            have := K1.out
            simpa using this
          · rw [H3.out, q7, Rs.pre_cons]
    · have HN := hide hno
      have HB1 := hide hb1
      clear hno hb1 hwd1 HO2 HS HO
      go_region
      rename_i K hK
      refine hK _ _ ?_
      go_wp2
      go_ret2
      have hs0 := HB.out.size
      have hs1 := HB1.out.size
      have hbb : Below w0.heap.size w0 ((w1.alloc (.cells #[.int .i64 0, .string ByteArray.empty, .int .i64 (st : Nat)] 48)).alloc (.cells #[.int .i64 (st : Nat), .int .i64 90] 36)).drew :=
        (((HB.out.trans (HB1.out.mono hs0)).alloc (by omega) _).alloc (by simp; omega) _).drew
      refine ⟨hbb, HW.out.below HW.out.lt hbb, Or.inr ⟨st, w1.heap.size + 1, 90, Or.inl ⟨hs, ?_, rfl⟩, rfl, by omega, ?_⟩⟩
      · rw [H3.out, HN.out]
        rfl
      · have e : w1.heap.size + 1 = (w1.alloc (.cells #[.int .i64 0, .string ByteArray.empty, .int .i64 (st : Nat)] 48)).heap.size := by simp
        rw [e]
        exact Array.getElem?_push_size
end Go.Proofs.YtaaiogfbohndaaaDoor
