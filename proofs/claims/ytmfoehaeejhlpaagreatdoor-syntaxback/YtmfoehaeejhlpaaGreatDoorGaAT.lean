import Derived.Test.YtmfoehaeejhlpaaGreatDoorGaAS
import Derived.Lib.Strings
/-
  The reader: read.
-/
namespace Go.Proofs.YtmfoehaeejhlpaaGreatDoor
open Go.RowKit Yn
set_option maxRecDepth 100000
/-- What read hands back. -/
def Got (W : World) (k : Nat) (r : R Tree) (e : Ending) (W' : World) : Prop :=
  match r with
  | .ok T _ => ∃ v, e = .returned (.tuple #[v, .pointer none]) ∧ Nd (fun q => W.heap.size ≤ q) W' T v ∧ Mv W W' (fun j => j = k)
  | .no a er => ∃ g, e = .returned (.tuple #[.pointer none, .pointer (some ⟨g, 0, none⟩)]) ∧ W.heap.size ≤ g ∧ W'.heap[g]? = some (.cells #[.int .i64 (a : Int), .int .i64 (er : Int)] 77 (0, 0)) ∧ Mv W W' (fun j => j = k)
  | .out => True
set_option maxHeartbeats 4000000 in
theorem read_any (hP : Pz) {n : Nat} (hn : n ≤ 100000) {W : World} {B k : Nat} {ws : List ByteArray} {s : S} (hR : Rd W B k ws s) {r : R Tree} (hr : r = progS ws n [] s) (hne : r ≠ .out) : Calls Tryz.prog 24 #[.pointer (some ⟨k, 0, none⟩)] W (Got W k r) := by
  have hmf : ∀ (fn : Fn) (first cap : Array Value) (w : World), (Instr.makeFunc fn first cap).run Tryz.prog w = .ok (.func fn first cap) w := fun _ _ _ _ => rfl
  have hkW := hR.lt
  obtain ⟨w0, hw0⟩ : ∃ X, X = (W.alloc (.cells #[.pointer none] 23)).alloc (.cells #[.pointer none] 61) := ⟨_, rfl⟩
  have b1 := below_alloc W (.cells #[.pointer none] 23)
  have b2 := below_alloc (W.alloc (.cells #[.pointer none] 23)) (.cells #[.pointer none] 61)
  have B0 : Below W.heap.size W w0 := hw0 ▸ below_on b1 b2
  have hs1 : (W.alloc (.cells #[.pointer none] 23)).heap.size = W.heap.size + 1 := Array.size_push ..
  have hs2 : w0.heap.size = W.heap.size + 2 := by rw [hw0]; exact (Array.size_push ..).trans (by rw [hs1])
  have ga : w0.heap[W.heap.size]? = some (.cells #[.pointer none] 23 (0, 0)) := by
    rw [hw0, b2.block _ (by rw [hs1]; omega)]
    exact heap_alloc_new W _
  have gb : w0.heap[W.heap.size + 1]? = some (.cells #[.pointer none] 61 (0, 0)) := by
    rw [hw0, ← hs1]
    exact heap_alloc_new _ _
  have GA := hide ga
  have GB := hide gb
  have M0 := hide (Mv.of_below B0 (fun j => j = k))
  have J := hide (prog_all hP hn (hR.later B0) (by rw [← hr]; exact hne))
  rw [← hr] at J
  have HNE := hide hne
  have HW0 := hide hw0
  have HS2 := hide hs2
  clear hR hr hne hw0 b1 b2 B0 hs1 hs2 ga gb
  go_enter_defers Tryz.func24, Tryz.ntmps24
  go_wp2_with fail
  rw [← HW0.out]
  cases hr : r with
  | out => exact absurd hr HNE.out
  | no a er =>
    rw [hr] at J
    refine J.out.mono ?_
    rintro e w1 ⟨g, rfl, hg1, hg2, hm⟩
    have g1 := hm.at GA.out (fun (e : W.heap.size = k) => by omega)
    have g2 := hm.at GB.out (fun (e : W.heap.size + 1 = k) => by omega)
    have q1 : w1.cell? ⟨W.heap.size, 0, none⟩ = some (.pointer none) := by rw [cell_of_row w1 W.heap.size _ _ 23 (0, 0) g1]; rfl
    have q2 : w1.frozen? ⟨W.heap.size, 0, none⟩ = false := frozen_of_row w1 W.heap.size 0 _ 23 g1
    have ms : Mv w1 (w1.setCell ⟨W.heap.size, 0, none⟩ (.pointer none)) (fun q => q = W.heap.size) := (Mv.refl w1 (fun q => q = W.heap.size)).set (g := W.heap.size) rfl _ _
    have g1' := heap_setCell_same w1 W.heap.size 0 _ 23 (.pointer none) g1
    have g3 := ms.at g2 (fun (e : W.heap.size + 1 = W.heap.size) => by omega)
    have q3 : (w1.setCell ⟨W.heap.size, 0, none⟩ (.pointer none)).cell? ⟨W.heap.size + 1, 0, none⟩ = some (.pointer none) := by rw [cell_of_row _ (W.heap.size + 1) _ _ 61 (0, 0) g3]; rfl
    have q4 : (w1.setCell ⟨W.heap.size, 0, none⟩ (.pointer none)).frozen? ⟨W.heap.size + 1, 0, none⟩ = false := frozen_of_row _ (W.heap.size + 1) 0 _ 61 g3
    have ms2 : Mv (w1.setCell ⟨W.heap.size, 0, none⟩ (.pointer none)) ((w1.setCell ⟨W.heap.size, 0, none⟩ (.pointer none)).setCell ⟨W.heap.size + 1, 0, none⟩ (.pointer (some ⟨g, 0, none⟩))) (fun q => q = W.heap.size + 1) := (Mv.refl _ (fun q => q = W.heap.size + 1)).set (g := W.heap.size + 1) rfl _ _
    have g4 := heap_setCell_same _ (W.heap.size + 1) 0 _ 61 (.pointer (some ⟨g, 0, none⟩)) g3
    have g5 := ms2.at g1' (fun (e : W.heap.size = W.heap.size + 1) => by omega)
    have hgf := ms2.at (ms.at hg2 (fun (e : g = W.heap.size) => by have := HS2.out; omega)) (fun (e : g = W.heap.size + 1) => by have := HS2.out; omega)
    have HM := hide (((M0.out.trans hm (fun _ _ e => e)).trans ms (fun q hq (e : q = W.heap.size) => by omega)).trans ms2 (fun q hq (e : q = W.heap.size + 1) => by omega))
    refine leaves_cons (f := 43) (args := #[.pointer (some ⟨W.heap.size, 0, none⟩), .pointer (some ⟨W.heap.size + 1, 0, none⟩)]) (by simp) (by simp [go_sem]) ?_
    refine (catch_panicking ⟨W.heap.size, 0, none⟩ ⟨W.heap.size + 1, 0, none⟩ (.pointer none) (.pointer none) g [] w1 q1 q2 q3 q4).mono ?_
    rintro e u' w2 ⟨rfl, rfl, rfl⟩
    obtain ⟨w3, hw3⟩ : ∃ X, X = (w1.setCell ⟨W.heap.size, 0, none⟩ (.pointer none)).setCell ⟨W.heap.size + 1, 0, none⟩ (.pointer (some ⟨g, 0, none⟩)) := ⟨_, rfl⟩
    rw [← hw3] at g4 g5 hgf HM ⊢
    have c1 : w3.drew.cell? ⟨W.heap.size, 0, none⟩ = some (.pointer none) := by rw [cell_of_row _ W.heap.size _ _ 23 (0, 0) (show w3.drew.heap[W.heap.size]? = _ from g5)]; rfl
    have c2 : w3.drew.cell? ⟨W.heap.size + 1, 0, none⟩ = some (.pointer (some ⟨g, 0, none⟩)) := by rw [cell_of_row _ (W.heap.size + 1) _ _ 61 (0, 0) (show w3.drew.heap[W.heap.size + 1]? = _ from g4)]; rfl
    have HG : Hid (Got W k (.no a er) (.returned (.tuple #[.pointer none, .pointer (some ⟨g, 0, none⟩)])) w3.drew) := ⟨g, rfl, by have := HS2.out; omega, hgf, HM.out.later (below_drew w3)⟩
    subst hr
    clear g1 g2 g1' g3 g4 g5 hgf HM hw3 ms ms2 q1 q2 q3 q4
    simp [Leaves, settle, results, Tryz.results24, go_sem, c1, c2]
    exact HG.out
  | ok T s1 =>
    rw [hr] at J
    refine J.out.mono ?_
    rintro e w1 ⟨v, rfl, hv, hR1, hm⟩
    obtain ⟨g, rfl⟩ := Nd.ptr hv
    have g1 := hm.at GA.out (fun (e : W.heap.size = k) => by omega)
    have g2 := hm.at GB.out (fun (e : W.heap.size + 1 = k) => by omega)
    have q1 : w1.cell? ⟨W.heap.size, 0, none⟩ = some (.pointer none) := by rw [cell_of_row w1 W.heap.size _ _ 23 (0, 0) g1]; rfl
    have q2 : w1.frozen? ⟨W.heap.size, 0, none⟩ = false := frozen_of_row w1 W.heap.size 0 _ 23 g1
    have ms : Mv w1 (w1.setCell ⟨W.heap.size, 0, none⟩ (.pointer (some ⟨g, 0, none⟩))) (fun q => q = W.heap.size) := (Mv.refl w1 (fun q => q = W.heap.size)).set (g := W.heap.size) rfl _ _
    have g3 := ms.at g2 (fun (e : W.heap.size + 1 = W.heap.size) => by omega)
    have q3 : (w1.setCell ⟨W.heap.size, 0, none⟩ (.pointer (some ⟨g, 0, none⟩))).cell? ⟨W.heap.size + 1, 0, none⟩ = some (.pointer none) := by rw [cell_of_row _ (W.heap.size + 1) _ _ 61 (0, 0) g3]; rfl
    have q4 : (w1.setCell ⟨W.heap.size, 0, none⟩ (.pointer (some ⟨g, 0, none⟩))).frozen? ⟨W.heap.size + 1, 0, none⟩ = false := frozen_of_row _ (W.heap.size + 1) 0 _ 61 g3
    have g1' := heap_setCell_same w1 W.heap.size 0 _ 23 (.pointer (some ⟨g, 0, none⟩)) g1
    have ms2 : Mv (w1.setCell ⟨W.heap.size, 0, none⟩ (.pointer (some ⟨g, 0, none⟩))) ((w1.setCell ⟨W.heap.size, 0, none⟩ (.pointer (some ⟨g, 0, none⟩))).setCell ⟨W.heap.size + 1, 0, none⟩ (.pointer none)) (fun q => q = W.heap.size + 1) := (Mv.refl _ (fun q => q = W.heap.size + 1)).set (g := W.heap.size + 1) rfl _ _
    have g4 := heap_setCell_same _ (W.heap.size + 1) 0 _ 61 (.pointer none) g3
    have g5 := ms2.at g1' (fun (e : W.heap.size = W.heap.size + 1) => by omega)
    have hnd := Nd.mv ms2 (fun q hq (e : q = W.heap.size + 1) => by have : w0.heap.size ≤ q := hq; have := HS2.out; omega) _ _ (Nd.mv ms (fun q hq (e : q = W.heap.size) => by have : w0.heap.size ≤ q := hq; have := HS2.out; omega) _ _ hv)
    have HM := hide (((M0.out.trans hm (fun _ _ e => e)).trans ms (fun q hq (e : q = W.heap.size) => by omega)).trans ms2 (fun q hq (e : q = W.heap.size + 1) => by omega))
    obtain ⟨w3, hw3⟩ : ∃ X, X = (w1.setCell ⟨W.heap.size, 0, none⟩ (.pointer (some ⟨g, 0, none⟩))).setCell ⟨W.heap.size + 1, 0, none⟩ (.pointer none) := ⟨_, rfl⟩
    rw [← hw3] at g4 g5 hnd HM
    have HW3 := hide hw3
    have c1 : w3.cell? ⟨W.heap.size, 0, none⟩ = some (.pointer (some ⟨g, 0, none⟩)) := by rw [cell_of_row _ W.heap.size _ _ 23 (0, 0) g5]; rfl
    have c2 : w3.cell? ⟨W.heap.size + 1, 0, none⟩ = some (.pointer none) := by rw [cell_of_row _ (W.heap.size + 1) _ _ 61 (0, 0) g4]; rfl
    have HG : Hid (Got W k (.ok T s1) (.returned (.tuple #[.pointer (some ⟨g, 0, none⟩), .pointer none])) w3) := ⟨_, rfl, Nd.mono (fun q (hq : w0.heap.size ≤ q) => by have := HS2.out; show W.heap.size ≤ q; omega) _ _ hnd, HM.out⟩
    subst hr
    clear g1 g2 g1' g3 g4 g5 hnd HM hw3 ms ms2
    go_wp2_with fail
    rw [← HW3.out]
    refine leaves_cons (f := 43) (args := #[.pointer (some ⟨W.heap.size, 0, none⟩), .pointer (some ⟨W.heap.size + 1, 0, none⟩)]) (by simp) (by simp [go_sem]) ?_
    refine (catch_idle _ _ _).mono ?_
    rintro e u' w2 ⟨rfl, rfl, rfl⟩
    simp [Leaves, settle, results, Tryz.results24, go_sem, c1, c2]
    exact HG.out
end Go.Proofs.YtmfoehaeejhlpaaGreatDoor

/-
  Parse, by what Lex and Words hand back.
-/
namespace Go.Proofs.YtmfoehaeejhlpaaGreatDoor
open Go.RowKit Yn
set_option maxRecDepth 100000
/-- What is said of lex.Lex: tokens, or a fault. -/
def Lx (Kd : World → Prop) (lx : ByteArray → Except (Nat × Nat) (List Tok)) (src : ByteArray) : Prop := ∀ W : World, Kd W → Calls Tryz.prog 22 #[.string src] W fun e W' => Below W.heap.size W W' ∧ match lx src with
  | .ok ts => ∃ v, e = .returned (.tuple #[v, .nilIface]) ∧ Tks W' v ts ∧ Gd ts ∧ ∀ j, v.ownBlock = some j → j < W'.heap.size
  | .error p => ∃ g, e = .returned (.tuple #[.slice none 0 0, .iface 61 (.pointer (some ⟨g, 0, none⟩))]) ∧ W.heap.size ≤ g ∧ W'.heap[g]? = some (.cells #[.int .i64 (p.1 : Int), .int .i64 (p.2 : Int)] 77 (0, 0))
/-- What is said of lex.Words. -/
def Wz (Kd : World → Prop) (ws : List ByteArray) : Prop := ∀ W : World, Kd W → Calls Tryz.prog 23 #[] W fun e W' => Below W.heap.size W W' ∧ ∃ v, e = .returned v ∧ Wds W' v ws ∧ ∀ j, v.ownBlock = some j → j < W'.heap.size
/-- What a source is read as. -/
def parseS (ws : List ByteArray) (lx : ByteArray → Except (Nat × Nat) (List Tok)) (n : Nat) (src : ByteArray) : R Tree := match lx src with
  | .error p => .no p.1 p.2
  | .ok ts => progS ws n [] ⟨ts, 0, 0, 0, 0⟩
/-- What Parse hands back. -/
def Prs (W : World) (r : R Tree) (e : Ending) (W' : World) : Prop := Below W.heap.size W W' ∧ match r with
  | .ok T _ => ∃ v, e = .returned (.tuple #[v, .nilIface]) ∧ Nd (fun q => W.heap.size ≤ q) W' T v
  | .no a er => ∃ g, e = .returned (.tuple #[.pointer none, .iface 61 (.pointer (some ⟨g, 0, none⟩))]) ∧ W.heap.size ≤ g ∧ W'.heap[g]? = some (.cells #[.int .i64 (a : Int), .int .i64 (er : Int)] 77 (0, 0))
  | .out => True
set_option maxHeartbeats 4000000 in
theorem parse_any (hP : Pz) {Kd : World → Prop} {lx : ByteArray → Except (Nat × Nat) (List Tok)} {ws : List ByteArray} {src : ByteArray} (hL : Lx Kd lx src) (hW : Wz Kd ws) (hKb : ∀ W W', Kd W → Below W.heap.size W W' → Kd W') {n : Nat} (hn : n ≤ 100000) (W : World) (hK : Kd W) {r : R Tree} (hr : r = parseS ws lx n src) (hne : r ≠ .out) : Calls Tryz.prog 8 #[.string src] W (Prs W r) := by
  have HP := hide hP
  have JL := hide (hL W hK)
  have HW := hide (fun W' hb => hW W' (hKb W W' hK hb))
  have HNE := hide hne
  unfold parseS at hr
  clear hP hL hW hne hK hKb
  cases hl : lx src with
  | error p =>
    rw [hl] at JL hr
    have ER : r = .no p.1 p.2 := hr
    clear hr hl
    go_enter Tryz.func8, Tryz.ntmps8
    go_wp2_with fail
    refine JL.out.mono ?_
    rintro e w1 ⟨hb, g, rfl, h1, h2⟩
    have HB := hide hb
    have H1 := hide h1
    have H2 := hide h2
    clear hb h1 h2 JL
    go_wp2_with fail
    go_ret2
    subst ER
    exact ⟨HB.out, _, rfl, H1.out, H2.out⟩
  | ok ts =>
    rw [hl] at JL hr
    have HE : Hid (r = progS ws n [] ⟨ts, 0, 0, 0, 0⟩) := hr
    clear hr hl
    go_enter Tryz.func8, Tryz.ntmps8
    go_wp2_with fail
    refine JL.out.mono ?_
    rintro e w1 ⟨hb, v1, rfl, ht1, hgd, hv1⟩
    have B1 := hide hb
    have T1 := hide ht1
    have GD := hide hgd
    have V1 := hide hv1
    obtain ⟨g1, o1, c1, rfl, -⟩ := ht1
    clear hb hgd hv1 JL
    go_wp2_with fail
    refine (HW.out w1 B1.out).mono ?_
    rintro e w2 ⟨hb, v2, rfl, ht2, hv2⟩
    have hz1 := B1.out.size
    have hz2 := hb.size
    have B2 := hide (below_on B1.out hb)
    have T2 := hide (T1.out.mv (Mv.of_below hb (fun _ => False)) (fun _ _ e => e))
    have U2 := hide ht2
    have V2 := hide hv2
    obtain ⟨g2, c2, rfl, -⟩ := ht2
    obtain ⟨w3, hw3⟩ : ∃ X, X = w2.alloc (.cells #[.slice (some ⟨g1, o1, none⟩) ts.length c1, .slice (some ⟨g2, 0, none⟩) ws.length c2, .int .i64 0, .int .i64 0, .int .i64 0, .int .i64 0] 60) := ⟨_, rfl⟩
    have b3 : Below w2.heap.size w2 w3 := hw3 ▸ below_alloc w2 _
    have R3 : Hid (Rd w3 w2.heap.size w2.heap.size ws ⟨ts, 0, 0, 0, 0⟩) := ⟨Nat.le_refl _, ⟨Nat.zero_le _, Nat.zero_le _, Nat.zero_le _, Nat.zero_le _⟩, GD.out, _, _, hw3 ▸ heap_alloc_new w2 _, T2.out.mv (Mv.of_below b3 (fun _ => False)) (fun _ _ e => e), fun j e => Nat.lt_of_lt_of_le (V1.out j e) hz2, U2.out.mv (Mv.of_below b3 (fun _ => False)) (fun _ _ e => e), fun j e => V2.out j e⟩
    have B3 := hide (below_on B2.out b3)
    have hz3 := b3.size
    have hz2' := B2.out.size
    have HW3 := hide hw3
    clear hb hv2 T1 V1 T2 U2 V2 GD hw3 b3 B1 B2
    go_wp2_with fail
    rw [← HW3.out]
    have JR := hide (read_any HP.out hn R3.out HE.out HNE.out)
    refine JR.out.mono ?_
    intro e w4 hg
    cases hx : r with
    | out => exact absurd hx HNE.out
    | no a er =>
      rw [hx] at hg
      obtain ⟨g, rfl, h1, h2, hm⟩ := hg
      have H1 := hide h1
      have H2 := hide h2
      have HB := hide (B3.out.trans (hm.below (B := W.heap.size) (by omega) (fun q (e : q = w2.heap.size) => by omega)))
      have HX := hide hx
      clear h1 h2 hm hx JR
      go_wp2_with fail
      go_ret2
      have hx := HX.out
      subst hx
      exact ⟨HB.out, g, rfl, by have := H1.out; omega, H2.out⟩
    | ok T s4 =>
      rw [hx] at hg
      obtain ⟨v, rfl, h1, hm⟩ := hg
      obtain ⟨g4, rfl⟩ := Nd.ptr h1
      have H1 := hide (Nd.mono (fun q (hq : w3.heap.size ≤ q) => show W.heap.size ≤ q by omega) _ _ h1)
      have HB := hide (B3.out.trans (hm.below (B := W.heap.size) (by omega) (fun q (e : q = w2.heap.size) => by omega)))
      have HX := hide hx
      clear h1 hm hx JR
      go_wp2_with fail
      go_ret2
      have hx := HX.out
      subst hx
      exact ⟨HB.out, _, rfl, H1.out⟩
end Go.Proofs.YtmfoehaeejhlpaaGreatDoor

namespace Go.Proofs.YtmfoehaeejhlpaaGreatDoor.Le

def isBl (c : Nat) : Bool := c == 32 || c == 9 || c == 10 || c == 13
def isLe (c : Nat) : Bool := (decide (65 ≤ c) && decide (c ≤ 90)) || (decide (97 ≤ c) && decide (c ≤ 122))
def isDi (c : Nat) : Bool := decide (48 ≤ c) && decide (c ≤ 57)
def isWo (c : Nat) : Bool := isLe c || isDi c || c == 95

/-- The first place from i on at which p does not hold, at most k further on. -/
def runE (p : Nat → Bool) : Nat → Nat → Nat
  | 0, i => i
  | k + 1, i => if p i then runE p k (i + 1) else i

/-- Behind the first star and stroke from i on. -/
def remE (f : Nat → Nat) : Nat → Nat → Option Nat
  | 0, _ => none
  | k + 1, i => if f i == 42 && f (i + 1) == 47 then some (i + 2) else remE f k (i + 1)

/-- What k digits from i on are worth, behind acc. -/
def numW (f : Nat → Nat) : Nat → Nat → Nat → Nat
  | 0, acc, _ => acc
  | k + 1, acc, i => numW f k (acc * 10 + (f i - 48)) (i + 1)
def numV (f : Nat → Nat) (acc k i : Nat) : Nat := numW f k acc i
theorem numV_zero (f : Nat → Nat) (acc i : Nat) : numV f acc 0 i = acc := by unfold numV numW; rfl
theorem numV_succ (f : Nat → Nat) (acc k i : Nat) : numV f acc (k + 1) i = numV f (acc * 10 + (f i - 48)) k (i + 1) := by
  unfold numV
  rw [numW]

def numOk (f : Nat → Nat) (a e : Nat) : Bool := (e == a + 1 || f a != 48) && decide (numV f 0 (e - a) a < 9223372036854775808)

def two (c d : Nat) : Bool := (c == 61 && d == 61) || (c == 33 && d == 61) || (c == 60 && d == 61) || (c == 62 && d == 61) || (c == 38 && d == 38) || (c == 124 && d == 124)
def one (c : Nat) : Bool := c == 43 || c == 45 || c == 42 || c == 47 || c == 37 || c == 60 || c == 62 || c == 33 || c == 61 || c == 40 || c == 41 || c == 123 || c == 125 || c == 44 || c == 59 || c == 58 || c == 63 || c == 46
def sgn (c d : Nat) : Nat := if two c d then 2 else if one c then 1 else 0

inductive St | fin | go (a : Nat) | bad (a : Nat) | tok (k a e : Nat)

/-- What stands at a place that is neither blank nor remark. -/
def tokAt (f : Nat → Nat) (n a : Nat) : St :=
  if isLe (f a) then
    if 16 < runE (fun j => isWo (f j)) (n - a) a - a then .bad a else .tok 1 a (runE (fun j => isWo (f j)) (n - a) a)
  else if isDi (f a) then
    if numOk f a (runE (fun j => isDi (f j)) (n - a) a) then
      if isWo (f (runE (fun j => isDi (f j)) (n - a) a)) then .bad (runE (fun j => isDi (f j)) (n - a) a)
      else .tok 2 a (runE (fun j => isDi (f j)) (n - a) a)
    else .bad a
  else if sgn (f a) (f (a + 1)) = 0 then .bad a
  else .tok 3 a (a + sgn (f a) (f (a + 1)))

def stepL (f : Nat → Nat) (n a : Nat) : St :=
  if n ≤ a then .fin
  else if isBl (f a) then .go (a + 1)
  else if f a = 47 ∧ f (a + 1) = 47 then .go (runE (fun j => f j != 10) (n - a) a)
  else if f a = 47 ∧ f (a + 1) = 42 then
    match remE f (n - (a + 2)) (a + 2) with
    | none => .bad a
    | some e => .go e
  else tokAt f n a

structure Tk where
  k : Nat
  a : Nat
  e : Nat

/-- Tokens, or the place of the first fault. -/
inductive Rs | ok (l : List Tk) | no (a : Nat)
def Rs.cons (t : Tk) : Rs → Rs | .ok l => .ok (t :: l) | .no a => .no a
def Rs.pre (p : List Tk) : Rs → Rs | .ok l => .ok (p ++ l) | .no a => .no a

def lexF (f : Nat → Nat) (n : Nat) : Nat → Nat → Rs
  | 0, _ => .ok []
  | j + 1, a => match stepL f n a with
    | .fin => .ok [⟨0, n, n⟩]
    | .go b => lexF f n j b
    | .bad b => .no b
    | .tok k b e => Rs.cons ⟨k, b, e⟩ (lexF f n j e)

def lexA (f : Nat → Nat) (n a : Nat) : Rs := lexF f n (n + 1 - a) a

/-- Bytes up to n alone, and each below 256. -/
def Fz (f : Nat → Nat) (n : Nat) : Prop := ∀ i, n ≤ i → f i = 0

theorem runE_ge (p : Nat → Bool) : ∀ k i, i ≤ runE p k i
  | 0, i => by simp [runE]
  | k + 1, i => by
    simp only [runE]; split
    · have := runE_ge p k (i + 1); omega
    · omega
theorem runE_le (p : Nat → Bool) : ∀ k i, runE p k i ≤ i + k
  | 0, i => by simp [runE]
  | k + 1, i => by
    simp only [runE]; split
    · have := runE_le p k (i + 1); omega
    · omega
theorem runE_all (p : Nat → Bool) : ∀ k i j, i ≤ j → j < runE p k i → p j = true
  | 0, i, j, h1, h2 => by simp [runE] at h2; omega
  | k + 1, i, j, h1, h2 => by
    simp only [runE] at h2; split at h2
    · rename_i hp
      by_cases e : j = i
      · rw [e]; exact hp
      · exact runE_all p k (i + 1) j (by omega) h2
    · omega
/-- Either it stops where p does not hold, or at the very end. -/
theorem runE_end (p : Nat → Bool) : ∀ k i, p (runE p k i) = false ∨ runE p k i = i + k
  | 0, i => by simp [runE]
  | k + 1, i => by
    simp only [runE]; split
    · rcases runE_end p k (i + 1) with h | h
      · exact Or.inl h
      · right; omega
    · rename_i hp
      left; simpa using hp
theorem runE_is (p : Nat → Bool) (k i e : Nat) (h1 : i ≤ e) (h2 : ∀ j, i ≤ j → j < e → p j = true) (h3 : p e = false ∧ e ≤ i + k ∨ e = i + k) : runE p k i = e := by
  have g1 := runE_ge p k i
  have g2 := runE_le p k i
  rcases Nat.lt_trichotomy (runE p k i) e with h | h | h
  · have := h2 _ g1 h
    rcases runE_end p k i with h' | h'
    · rw [this] at h'; cases h'
    · rcases h3 with ⟨_, h3⟩ | h3 <;> omega
  · exact h
  · have := runE_all p k i e h1 h
    rcases h3 with ⟨h3, _⟩ | h3
    · rw [this] at h3; cases h3
    · omega
theorem runE_pos (p : Nat → Bool) (k i : Nat) (h : p i = true) (hk : 0 < k) : i < runE p k i := by
  obtain ⟨k, rfl⟩ : ∃ m, k = m + 1 := ⟨k - 1, by omega⟩
  simp only [runE, h, if_true]
  have := runE_ge p k (i + 1)
  omega

theorem remE_some {f : Nat → Nat} : ∀ k i e, remE f k i = some e → i + 2 ≤ e ∧ e ≤ i + k + 1 ∧ f (e - 2) = 42 ∧ f (e - 1) = 47 ∧ ∀ j, i ≤ j → j + 2 < e → ¬(f j = 42 ∧ f (j + 1) = 47)
  | 0, i, e, h => by simp [remE] at h
  | k + 1, i, e, h => by
    simp only [remE] at h; split at h
    · rename_i hp
      simp only [Bool.and_eq_true, beq_iff_eq] at hp
      have he : i + 2 = e := by simpa using h
      subst he
      refine ⟨by omega, by omega, hp.1, by simpa using hp.2, fun j h1 h2 => by omega⟩
    · rename_i hp
      obtain ⟨h1, h2, h3, h4, h5⟩ := remE_some k (i + 1) e h
      refine ⟨by omega, by omega, h3, h4, fun j g1 g2 => ?_⟩
      by_cases e : j = i
      · subst e; intro hh; exact hp (by simp [hh.1, hh.2])
      · exact h5 j (by omega) g2
theorem sgn_le (c d : Nat) : sgn c d ≤ 2 := by unfold sgn; split <;> (try split) <;> omega
theorem two_pos {c d : Nat} (h : two c d = true) : d ≠ 0 := by
  rintro rfl
  simp [two] at h
theorem sgn_two {c d : Nat} (h : sgn c d = 2) : d ≠ 0 := by
  unfold sgn at h
  split at h
  · rename_i h'; exact two_pos h'
  · split at h <;> omega
theorem isLe_wo {c : Nat} (h : isLe c = true) : isWo c = true := by simp [isWo, h]
theorem isDi_wo {c : Nat} (h : isDi c = true) : isWo c = true := by simp [isWo, h]

theorem tokAt_tok {f : Nat → Nat} {n a k b e : Nat} (hz : Fz f n) (han : a < n) (h : tokAt f n a = .tok k b e) : b = a ∧ a < e ∧ e ≤ n ∧ 1 ≤ k ∧ k ≤ 3 := by
  unfold tokAt at h
  split at h
  · rename_i hl
    split at h
    · cases h
    · injection h with h1 h2 h3
      subst h1 h2 h3
      have := runE_pos (fun j => isWo (f j)) (n - a) a (isLe_wo hl) (by omega)
      have := runE_le (fun j => isWo (f j)) (n - a) a
      omega
  · split at h
    · rename_i hd
      split at h
      · split at h
        · cases h
        · injection h with h1 h2 h3
          subst h1 h2 h3
          have := runE_pos (fun j => isDi (f j)) (n - a) a hd (by omega)
          have := runE_le (fun j => isDi (f j)) (n - a) a
          omega
      · cases h
    · split at h
      · cases h
      · rename_i hs
        injection h with h1 h2 h3
        subst h1 h2 h3
        have := sgn_le (f a) (f (a + 1))
        refine ⟨rfl, by omega, ?_, by omega, by omega⟩
        by_cases e2 : sgn (f a) (f (a + 1)) = 2
        · have := sgn_two e2
          by_cases hlt : a + 1 < n
          · omega
          · exact absurd (hz (a + 1) (by omega)) this
        · omega
theorem tokAt_go {f : Nat → Nat} {n a b : Nat} : tokAt f n a ≠ .go b := by
  unfold tokAt
  intro h
  repeat' split at h
  all_goals cases h
theorem stepL_go {f : Nat → Nat} {n a b : Nat} (hz : Fz f n) (h : stepL f n a = .go b) : a < b ∧ b ≤ n ∧ a < n := by
  unfold stepL at h
  split at h
  · cases h
  · rename_i hn
    split at h
    · injection h with h; omega
    · split at h
      · rename_i hs
        injection h with h
        have h1 := runE_pos (fun j => f j != 10) (n - a) a (by rw [hs.1]; rfl) (by omega)
        have h2 := runE_le (fun j => f j != 10) (n - a) a
        omega
      · split at h
        · rename_i hs
          split at h
          · cases h
          · rename_i e he
            injection h with h
            obtain ⟨h1, h2, h3, h4, _⟩ := remE_some _ _ _ he
            have : e - 1 < n := by
              by_cases g : e - 1 < n
              · exact g
              · have := hz (e - 1) (by omega); omega
            omega
        · exact absurd h tokAt_go
theorem stepL_tok {f : Nat → Nat} {n a k b e : Nat} (hz : Fz f n) (h : stepL f n a = .tok k b e) : b = a ∧ a < e ∧ e ≤ n ∧ 1 ≤ k ∧ k ≤ 3 := by
  unfold stepL at h
  split at h
  · cases h
  · rename_i hn
    split at h
    · cases h
    · split at h
      · cases h
      · split at h
        · split at h <;> cases h
        · exact tokAt_tok hz (by omega) h

theorem lexF_more {f : Nat → Nat} {n : Nat} (hz : Fz f n) : ∀ j i a, n + 1 ≤ j + a → n + 1 ≤ i + a → a ≤ n → lexF f n j a = lexF f n i a
  | 0, i, a, h1, h2, h3 => by omega
  | j + 1, 0, a, h1, h2, h3 => by omega
  | j + 1, i + 1, a, h1, h2, h3 => by
    simp only [lexF]
    cases hs : stepL f n a with
    | fin => rfl
    | bad b => rfl
    | go b =>
      have := stepL_go hz hs
      exact lexF_more hz j i b (by omega) (by omega) (by omega)
    | tok k b e =>
      have := stepL_tok hz hs
      simp only []
      rw [lexF_more hz j i e (by omega) (by omega) (by omega)]

theorem lexA_unf {f : Nat → Nat} {n a : Nat} (hz : Fz f n) (h : a ≤ n) : lexA f n a = match stepL f n a with
    | .fin => .ok [⟨0, n, n⟩]
    | .go b => lexA f n b
    | .bad b => .no b
    | .tok k b e => Rs.cons ⟨k, b, e⟩ (lexA f n e) := by
  unfold lexA
  rw [show n + 1 - a = (n - a) + 1 by omega]
  simp only [lexF]
  cases hs : stepL f n a with
  | fin => rfl
  | bad b => rfl
  | go b =>
    have := stepL_go hz hs
    exact lexF_more hz _ _ b (by omega) (by omega) (by omega)
  | tok k b e =>
    have := stepL_tok hz hs
    simp only []
    rw [lexF_more hz (n - a) (n + 1 - e) e (by omega) (by omega) (by omega)]

theorem lexA_fin {f : Nat → Nat} {n : Nat} (hz : Fz f n) : lexA f n n = .ok [⟨0, n, n⟩] := by
  rw [lexA_unf hz (Nat.le_refl n)]
  have : stepL f n n = .fin := by simp [stepL]
  rw [this]
theorem lexA_go {f : Nat → Nat} {n a b : Nat} (hz : Fz f n) (h : stepL f n a = .go b) : lexA f n a = lexA f n b := by
  have := stepL_go hz h
  rw [lexA_unf hz (by omega), h]
theorem lexA_bad {f : Nat → Nat} {n a b : Nat} (hz : Fz f n) (hn : a ≤ n) (h : stepL f n a = .bad b) : lexA f n a = .no b := by
  rw [lexA_unf hz hn, h]
theorem lexA_tok {f : Nat → Nat} {n a k b e : Nat} (hz : Fz f n) (hn : a ≤ n) (h : stepL f n a = .tok k b e) : lexA f n a = Rs.cons ⟨k, b, e⟩ (lexA f n e) := by
  rw [lexA_unf hz hn, h]

/-- Neither a blank nor a remark begins. -/
def Stl (f : Nat → Nat) (a : Nat) : Prop := isBl (f a) = false ∧ ¬(f a = 47 ∧ f (a + 1) = 47) ∧ ¬(f a = 47 ∧ f (a + 1) = 42)
theorem stepL_stl {f : Nat → Nat} {n a : Nat} (hn : a < n) (h : Stl f a) : stepL f n a = tokAt f n a := by
  unfold stepL
  rw [if_neg (by omega), if_neg (by simp [h.1]), if_neg h.2.1, if_neg h.2.2]

theorem lexA_blank {f : Nat → Nat} {n p : Nat} (hz : Fz f n) (h : isBl (f p) = true) : p < n ∧ lexA f n p = lexA f n (p + 1) := by
  have hn : p < n := by
    by_cases g : p < n
    · exact g
    · rw [hz p (by omega)] at h; cases h
  exact ⟨hn, lexA_go hz (by unfold stepL; rw [if_neg (by omega), if_pos h])⟩
theorem lexA_line {f : Nat → Nat} {n p : Nat} (hz : Fz f n) (h : f p = 47 ∧ f (p + 1) = 47) : p + 1 < n ∧ lexA f n p = lexA f n (runE (fun j => f j != 10) (n - p) p) := by
  have hn : p + 1 < n := by
    by_cases g : p + 1 < n
    · exact g
    · have := hz (p + 1) (by omega); omega
  refine ⟨hn, lexA_go hz ?_⟩
  unfold stepL
  rw [if_neg (by omega), if_neg (by rw [h.1]; decide), if_pos h]
/-- Behind a remark that begins at st. -/
def remR (f : Nat → Nat) (n st : Nat) : Option Nat → Rs
  | none => .no st
  | some e => lexA f n e
theorem lexA_rem {f : Nat → Nat} {n p : Nat} (hz : Fz f n) (h : f p = 47 ∧ f (p + 1) = 42) :
    p + 1 < n ∧ lexA f n p = remR f n p (remE f (n - (p + 2)) (p + 2)) := by
  have hn : p + 1 < n := by
    by_cases g : p + 1 < n
    · exact g
    · have := hz (p + 1) (by omega); omega
  refine ⟨hn, ?_⟩
  have hs : stepL f n p = match remE f (n - (p + 2)) (p + 2) with | none => .bad p | some e => .go e := by
    unfold stepL
    rw [if_neg (by omega), if_neg (by rw [h.1]; decide), if_neg (by omega), if_pos h]
  cases hr : remE f (n - (p + 2)) (p + 2) with
  | none => rw [hr] at hs; exact lexA_bad hz (by omega) hs
  | some e => rw [hr] at hs; exact lexA_go hz hs

theorem runE_succ {p : Nat → Bool} {n i : Nat} (hi : i < n) (h : p i = true) : runE p (n - i) i = runE p (n - (i + 1)) (i + 1) := by
  rw [show n - i = (n - (i + 1)) + 1 by omega, runE, if_pos h]
theorem runE_stop {p : Nat → Bool} {n i : Nat} (h : n ≤ i ∨ p i = false) : runE p (n - i) i = i := by
  rcases h with h | h
  · rw [show n - i = 0 by omega, runE]
  · cases n - i with
    | zero => rw [runE]
    | succ k => rw [runE, if_neg (by simp [h])]
theorem remE_hit {f : Nat → Nat} {n i : Nat} (hi : i < n) (h : f i = 42 ∧ f (i + 1) = 47) : remE f (n - i) i = some (i + 2) := by
  rw [show n - i = (n - (i + 1)) + 1 by omega, remE, if_pos (by simp [h.1, h.2])]
theorem remE_miss {f : Nat → Nat} {n i : Nat} (hi : i < n) (h : ¬(f i = 42 ∧ f (i + 1) = 47)) : remE f (n - i) i = remE f (n - (i + 1)) (i + 1) := by
  rw [show n - i = (n - (i + 1)) + 1 by omega, remE, if_neg (by simpa using h)]

theorem Rs.pre_nil (r : Rs) : Rs.pre [] r = r := by cases r <;> rfl
theorem Rs.pre_cons (p : List Tk) (t : Tk) (r : Rs) : Rs.pre p (Rs.cons t r) = Rs.pre (p ++ [t]) r := by
  cases r <;> simp [Rs.pre, Rs.cons]

theorem lexA_word {f : Nat → Nat} {n a e : Nat} (hz : Fz f n) (hn : a < n) (hs : Stl f a) (hl : isLe (f a) = true) (he : runE (fun j => isWo (f j)) (n - a) a = e) :
    lexA f n a = if 16 < e - a then .no a else Rs.cons ⟨1, a, e⟩ (lexA f n e) := by
  have h := stepL_stl hn hs
  unfold tokAt at h
  rw [if_pos hl, he] at h
  split
  · rename_i g
    rw [if_pos g] at h
    exact lexA_bad hz (by omega) h
  · rename_i g
    rw [if_neg g] at h
    exact lexA_tok hz (by omega) h
theorem lexA_num {f : Nat → Nat} {n a e : Nat} (hz : Fz f n) (hn : a < n) (hs : Stl f a) (hl : isLe (f a) = false) (hd : isDi (f a) = true) (he : runE (fun j => isDi (f j)) (n - a) a = e) :
    lexA f n a = if numOk f a e then (if isWo (f e) then .no e else Rs.cons ⟨2, a, e⟩ (lexA f n e)) else .no a := by
  have h := stepL_stl hn hs
  unfold tokAt at h
  rw [if_neg (by simp [hl]), if_pos hd, he] at h
  split
  · rename_i g
    rw [if_pos g] at h
    split
    · rename_i g'
      rw [if_pos g'] at h
      exact lexA_bad hz (by omega) h
    · rename_i g'
      rw [if_neg g'] at h
      exact lexA_tok hz (by omega) h
  · rename_i g
    rw [if_neg g] at h
    exact lexA_bad hz (by omega) h
theorem lexA_sign {f : Nat → Nat} {n a : Nat} (hz : Fz f n) (hn : a < n) (hs : Stl f a) (hl : isLe (f a) = false) (hd : isDi (f a) = false) :
    lexA f n a = if sgn (f a) (f (a + 1)) = 0 then .no a else Rs.cons ⟨3, a, a + sgn (f a) (f (a + 1))⟩ (lexA f n (a + sgn (f a) (f (a + 1)))) := by
  have h := stepL_stl hn hs
  unfold tokAt at h
  rw [if_neg (by simp [hl]), if_neg (by simp [hd])] at h
  split
  · rename_i g
    rw [if_pos g] at h
    exact lexA_bad hz (by omega) h
  · rename_i g
    rw [if_neg g] at h
    exact lexA_tok hz (by omega) h
theorem sgn_fit {f : Nat → Nat} {n a : Nat} (hz : Fz f n) (hn : a < n) : a + sgn (f a) (f (a + 1)) ≤ n := by
  have := sgn_le (f a) (f (a + 1))
  by_cases e2 : sgn (f a) (f (a + 1)) = 2
  · have := sgn_two e2
    by_cases hlt : a + 1 < n
    · omega
    · exact absurd (hz (a + 1) (by omega)) this
  · omega

/-- The bytes of a text, 0 behind it. -/
def bt (s : ByteArray) (i : Nat) : Nat := (s.data.toList.getD i 0).toNat
theorem bt_z (s : ByteArray) : Fz (bt s) s.size := by
  intro i h
  unfold bt
  rw [List.getD_eq_getElem?_getD, List.getElem?_eq_none (by simpa [← ByteArray.size_data] using h)]
  rfl
theorem bt_lt (s : ByteArray) (i : Nat) : bt s i < 256 := UInt8.toNat_lt _
theorem bt_at (s : ByteArray) (i : Nat) (h : i < s.size) : bt s i = (s[i]).toNat := by
  unfold bt
  rw [List.getD_eq_getElem?_getD]
  have h' : i < s.data.size := by simpa [ByteArray.size_data] using h
  rw [Array.getElem?_toList, Array.getElem?_eq_getElem h']
  rfl

def lexS (s : ByteArray) : Rs := lexA (bt s) s.size 0

end Go.Proofs.YtmfoehaeejhlpaaGreatDoor.Le
