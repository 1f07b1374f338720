/-
  What PackPuts keeps from turn to turn: the list of what came out, each its owner's. No program in this text, but for the types' numbers.
-/
import Derived.Test.YtoccbeefmagklaaFillLaws
import Derived.Laws.CopyOwn
namespace Go.Proofs.Ytoccbeefmagklaa
open Go.RowKit
theorem wpList_copy_keep {P : Program} {w : World} {ops : Array Oper} {rest : List Oper} {o : Oper} {a : Act} {Q : Exit → Act → World → Prop} (hgd : o.guard = none) (d s : Operand) (dT sT : TypeId)
    (ho : o.op = .call { callee := .builtin .copy, args := #[d, s], argTypes := #[dT, sT] }) (elem : TypeId) (hu : P.underlying dT = some (.slice elem)) (hsz : (P.info? elem).map (·.size) = some 1)
    (dp sp : Option Addr) (dLen dCap sLen sCap : Nat) (hd : a.eval d = .slice dp dLen dCap) (hs : a.eval s = .slice sp sLen sCap)
    (g off : Nat) (cur : List Value) (t : TypeId) (hg : w.heap[g]? = some (.cells cur.toArray t (0, 0))) (cs : List Value) (hn : cs.length = Nat.min sLen dLen)
    (hpos : 0 < cs.length → dp = some ⟨g, off, none⟩ ∧ ∃ ad, sp = some ad ∧ ∀ j v, cs[j]? = some v → w.cell? (ad.add j) = some v)
    (hfit : off + cs.length ≤ cur.length) (h1 : ∀ v ∈ cs, v.oneCell' = true)
    (h : ∀ w', w'.heap[g]? = some (.cells (splice cur off cs).toArray t (0, 0)) → w.grownBy w' (some g) → wpList P ops Q rest (a.put o.dst (goInt cs.length)) w') :
    wpList P ops Q (o :: rest) a w := by
  by_cases h0 : cs.length = 0
  · obtain rfl : cs = [] := List.eq_nil_of_length_eq_zero h0
    refine wpList_copy_nothing hgd d s dT sT ho elem hu hsz dp sp dLen dCap sLen sCap hd hs (by simpa using hn.symm) ?_
    exact h w (by simpa [splice] using hg) ⟨rfl, rfl, rfl, Nat.le_refl _, fun _ _ _ => rfl⟩
  · obtain ⟨rfl, ad, rfl, hsrc⟩ := hpos (by omega)
    refine wpList_copy_own hgd d s dT sT ho elem hu hsz g off dLen dCap ad sLen sCap hd hs cur.toArray t hg cs hn hsrc (by simpa using hfit) h1 ?_
    exact h _ (by simpa [splice] using setRow_heap w g _ _ t _ hg) ⟨rfl, rfl, rfl, by simp [World.setRow], fun k _ hk => setRow_other w g k _ (fun e => hk (by rw [e]))⟩
theorem grown_set (w : World) (g k : Nat) (u : Value) : w.grownBy (w.setCell ⟨g, k, none⟩ u) (some g) :=
  ⟨rfl, rfl, rfl, by simp, fun q _ hq => heap_setCell_other w ⟨g, k, none⟩ q u (fun e => hq (by rw [e]))⟩
theorem grown_later {w w' : World} (h : Below w.heap.size w w') : w.grownBy w' none := ⟨h.os, h.tape, h.output, h.size, fun k hk _ => h.block k hk⟩
theorem lt_of_block {w : World} {g : Nat} {o : Obj} (h : w.heap[g]? = some o) : g < w.heap.size := (Array.getElem?_eq_some_iff.1 h).1

/-- What has come out up to a turn: five values a turn, each its owner's. -/
def Kp (w wr : World) (B go t : Nat) (C : Nat → List UInt8) (vs : Nat → Value) (vk : Value) : Prop :=
  wr.ownsRow B 22 1 vk (5 * t) ((List.range (5 * t)).map vs) ∧ (∀ j, j < 5 * t → wr.ownsRow B 5 1 (vs j) (C (j % 5)).length (Lib.byteCells (C (j % 5)))) ∧
  (∀ i j, i < 5 * t → j < 5 * t → i ≠ j → Ap (vs i) (vs j)) ∧ (∀ j, j < 5 * t → Ap (vs j) vk) ∧ (∀ j, j < 5 * t → (vs j).ownBlock ≠ some go) ∧ vk.ownBlock ≠ some go ∧
  wr.heap[go]? = some (.cells #[.slice none 0 0] 29 (0, 0)) ∧ Below B w wr
theorem Kp.grow {w wr w' : World} {B go t : Nat} {C : Nat → List UInt8} {vs : Nat → Value} {vk : Value} {row : Option Nat} (h : Kp w wr B go t C vs vk) (hg : wr.grownBy w' row) (hB : B ≤ wr.heap.size) (h1 : row ≠ some go) (h2 : ∀ j, j < 5 * t → (vs j).ownBlock = none ∨ (vs j).ownBlock ≠ row) (h3 : vk.ownBlock = none ∨ vk.ownBlock ≠ row) (h4 : ∀ k, row = some k → B ≤ k) : Kp w w' B go t C vs vk := by
  obtain ⟨a1, a2, a3, a4, a5, a6, a7, a8⟩ := h
  exact ⟨a1.kept hg h3, fun j hj => (a2 j hj).kept hg (h2 j hj), a3, a4, a5, a6, (hg.block go (lt_of_block a7) (Ne.symm h1)).trans a7, a8.grown hg hB h4⟩
theorem Kp.later {w wr w' : World} {B go t : Nat} {C : Nat → List UInt8} {vs : Nat → Value} {vk : Value} (h : Kp w wr B go t C vs vk) (hb : Below wr.heap.size wr w') (hB : B ≤ wr.heap.size) : Kp w w' B go t C vs vk := by
  refine h.grow (grown_later hb) hB (by simp) (fun j _ => ?_) ?_ (by simp)
  · cases (vs j).ownBlock <;> simp
  · cases vk.ownBlock <;> simp
theorem Kp.lt {w wr : World} {B go t : Nat} {C : Nat → List UInt8} {vs : Nat → Value} {vk : Value} (h : Kp w wr B go t C vs vk) : (∀ j, j < 5 * t → ∀ g, (vs j).ownBlock = some g → B ≤ g ∧ g < wr.heap.size) ∧ (∀ g, vk.ownBlock = some g → B ≤ g ∧ g < wr.heap.size) ∧ go < wr.heap.size :=
  ⟨fun j hj g hg => (h.2.1 j hj).lt g hg, fun g hg => h.1.lt g hg, lt_of_block h.2.2.2.2.2.2.1⟩
theorem range_five (t : Nat) (vs nv : Nat → Value) : (List.range (5 * (t + 1))).map (fun j => if j < 5 * t then vs j else nv (j - 5 * t)) = (List.range (5 * t)).map vs ++ [nv 0, nv 1, nv 2, nv 3, nv 4] := by
  rw [show 5 * (t + 1) = 5 * t + 5 by omega, List.range_add, List.map_append, List.map_map]
  congr 1
  · apply List.map_congr_left
    intro j hj
    rw [List.mem_range] at hj
    simp [hj]
  · simp [List.range_succ, Function.comp]
    refine ⟨?_, ?_, ?_, ?_⟩ <;> intro h <;> omega
theorem Kp.push {w wr w' : World} {B go t : Nat} {C : Nat → List UInt8} {vs nv : Nat → Value} {vk vk' : Value} {o : Obj} (h : Kp w wr B go t C vs vk) (hB : B ≤ wr.heap.size)
    (hn : ∀ i, i < 5 → wr.ownsRow B 5 1 (nv i) (C i).length (Lib.byteCells (C i))) (hvn : ∀ j i, j < 5 * t → i < 5 → Ap (vs j) (nv i)) (hnn : ∀ i k, i < 5 → k < 5 → i ≠ k → Ap (nv i) (nv k)) (hkn : ∀ i, i < 5 → Ap (nv i) vk) (hgn : ∀ i, i < 5 → (nv i).ownBlock ≠ some go)
    (hown : w'.ownsRow B 22 1 vk' (5 * t + 5) ((List.range (5 * t)).map vs ++ [nv 0, nv 1, nv 2, nv 3, nv 4])) (hg : World.grownBy (wr.alloc o) w' vk.ownBlock) (hat : vk'.ownBlock = vk.ownBlock ∨ vk'.ownBlock = some (wr.alloc o).heap.size) :
    Kp w w' B go (t + 1) C (fun j => if j < 5 * t then vs j else nv (j - 5 * t)) vk' := by
  obtain ⟨a1, a2, a3, a4, a5, a6, a7, a8⟩ := h
  have hgo := lt_of_block a7
  have hsz : (wr.alloc o).heap.size = wr.heap.size + 1 := by simp
  refine ⟨by rw [range_five]; exact hown, ?_, ?_, ?_, ?_, ?_, ?_, ?_⟩
  · intro j hj
    by_cases hjt : j < 5 * t
    · simp only [if_pos hjt]
      exact (a4 j hjt).kept (World.ownsRow.alloc (a2 j hjt) o) hg
    · simp only [if_neg hjt]
      have e : j % 5 = j - 5 * t := by omega
      rw [e]
      exact (hkn (j - 5 * t) (by omega)).kept (World.ownsRow.alloc (hn (j - 5 * t) (by omega)) o) hg
  · intro i j hi hj hne
    by_cases hit : i < 5 * t <;> by_cases hjt : j < 5 * t
    · simp only [if_pos hit, if_pos hjt]
      exact a3 i j hit hjt hne
    · simp only [if_pos hit, if_neg hjt]
      exact hvn i _ hit (by omega)
    · simp only [if_neg hit, if_pos hjt]
      exact (hvn j _ hjt (by omega)).symm
    · simp only [if_neg hit, if_neg hjt]
      exact hnn _ _ (by omega) (by omega) (by omega)
  · intro j hj
    by_cases hjt : j < 5 * t
    · simp only [if_pos hjt]
      exact (a4 j hjt).next (fun g hgg => by have := ((a2 j hjt).lt g hgg).2; omega) hat
    · simp only [if_neg hjt]
      exact (hkn _ (by omega)).next (fun g hgg => by have := ((hn (j - 5 * t) (by omega)).lt g hgg).2; omega) hat
  · intro j hj
    by_cases hjt : j < 5 * t
    · simp only [if_pos hjt]
      exact a5 j hjt
    · simp only [if_neg hjt]
      exact hgn _ (by omega)
  · intro he
    rcases hat with h | h
    · exact a6 (h ▸ he)
    · rw [h] at he
      have := Option.some.inj he
      omega
  · exact (hg.block go (by omega) (fun e => a6 e.symm)).trans ((Go.heap_alloc_old wr o hgo).trans a7)
  · exact (a8.alloc hB o).grown hg (by omega) (fun q hq => (a1.lt q hq).1)
/-- Where a turn stands: what has come out, the bytes that were lent, the row's block. -/
def Turn (w w1 wr : World) (B t gx gr : Nat) (C : Nat → List UInt8) (vs : Nat → Value) (vk : Value) (xb : List UInt8) : Prop :=
  Kp w1 wr B B t C vs vk ∧ Row wr gx xb ∧ Below w.heap.size w wr ∧ B < gr ∧ gr ≠ gx ∧ gr < wr.heap.size ∧ gx < wr.heap.size ∧ w.heap.size ≤ B ∧ (∀ j, j < 5 * t → (vs j).ownBlock ≠ some gr) ∧ vk.ownBlock ≠ some gr ∧
  (∀ j, j < 5 * t → ∀ g, (vs j).ownBlock = some g → g < gx) ∧ (∀ g, vk.ownBlock = some g → g < gx) ∧ B < gx
theorem Turn.grow {w w1 wr w' : World} {B t gx gr : Nat} {C : Nat → List UInt8} {vs : Nat → Value} {vk : Value} {xb : List UInt8} (h : Turn w w1 wr B t gx gr C vs vk xb) (hg : wr.grownBy w' (some gr)) : Turn w w1 w' B t gx gr C vs vk xb := by
  obtain ⟨a1, a2, a3, a4, a5, a6, a7, a8, a9, a10, a11, a12, a13⟩ := h
  have hs := hg.size
  exact ⟨a1.grow hg (by omega) (by simp; omega) (fun j hj => .inr (a9 j hj)) (.inr a10) (fun k hk => by have := Option.some.inj hk; omega), (hg.block gx a7 (by simp; omega)).trans a2, a3.grown hg (by omega) (fun k hk => by have := Option.some.inj hk; omega), a4, a5, by omega, by omega, a8, a9, a10, a11, a12, a13⟩
theorem Turn.later {w w1 wr w' : World} {B t gx gr : Nat} {C : Nat → List UInt8} {vs : Nat → Value} {vk : Value} {xb : List UInt8} (h : Turn w w1 wr B t gx gr C vs vk xb) (hb : Below wr.heap.size wr w') : Turn w w1 w' B t gx gr C vs vk xb := by
  obtain ⟨a1, a2, a3, a4, a5, a6, a7, a8, a9, a10, a11, a12, a13⟩ := h
  have hs := hb.size
  exact ⟨a1.later hb (by omega), (hb.block gx a7).trans a2, a3.trans (hb.mono (by omega)), a4, a5, by omega, by omega, a8, a9, a10, a11, a12, a13⟩
theorem nrow_later {w w' : World} {g : Nat} {rs : List Int} (h : Nrow w g rs) (hb : Below w.heap.size w w') : Nrow w' g rs := (hb.block g (lt_of_block h)).trans h
/-- A row's numbers as PackPuts' owner writes them over. -/
def minus (n : Nat) : List Int := (List.range n).map fun i => -7 - ((i % 2 : Nat) : Int)
theorem minus_length (n : Nat) : (minus n).length = n := by simp [minus]
theorem minus_fits (n : Nat) : Rw.AllFit (minus n) := by
  intro z hz
  simp only [minus, List.mem_map] at hz
  obtain ⟨i, _, rfl⟩ := hz
  unfold Rw.Fits
  omega
theorem add0 (g j : Nat) : (⟨g, 0, none⟩ : Addr).add j = ⟨g, j, none⟩ := by
  simp [Addr.add]
  exact fun h => h.symm
theorem reads_of {w0 w : World} {B n m : Nat} {v : Value} {xs : List Value} (h : w0.ownsRow B 5 1 v n xs) (hr : Read8 w v n m) : Reads w v m := by
  rcases h.2 with ⟨rfl, h0⟩ | ⟨g, cap, cur, rfl, h1, h2, h3, h4, h5⟩
  · exact ⟨none, 0, 0, rfl, Nat.le_refl _, Nat.zero_le _, fun k hk => by omega⟩
  · exact ⟨_, n, cap, rfl, h3, h4, fun k hk => ⟨g, rfl, hr g k rfl hk⟩⟩
/-- Five values by number. -/
def five (a b c d e : Value) : Nat → Value
  | 0 => a
  | 1 => b
  | 2 => c
  | 3 => d
  | _ => e
theorem five_all {P : Nat → Value → Prop} {a b c d e : Value} (h0 : P 0 a) (h1 : P 1 b) (h2 : P 2 c) (h3 : P 3 d) (h4 : P 4 e) : ∀ i, i < 5 → P i (five a b c d e i)
  | 0, _ => h0
  | 1, _ => h1
  | 2, _ => h2
  | 3, _ => h3
  | 4, _ => h4
  | i + 5, h => absurd h (by omega)
theorem ap_less {u v : Value} (x : Nat) (h1 : ∀ g, u.ownBlock = some g → g < x) (h2 : ∀ g, v.ownBlock = some g → x ≤ g) : Ap u v := fun g hu hv => by
  have := h1 g hu
  have := h2 g hv
  omega
/-- Five rows whose blocks lie one behind the other are apart. -/
theorem five_apart {a b c d e : Value} (x1 x2 x3 x4 : Nat) (he : ∀ g, e.ownBlock = some g → g < x1) (ha : ∀ g, a.ownBlock = some g → x1 ≤ g ∧ g < x2) (hb : ∀ g, b.ownBlock = some g → x2 ≤ g ∧ g < x3) (hc : ∀ g, c.ownBlock = some g → x3 ≤ g ∧ g < x4) (hd : ∀ g, d.ownBlock = some g → x4 ≤ g) (h12 : x1 ≤ x2) (h23 : x2 ≤ x3) (h34 : x3 ≤ x4) :
    ∀ i k, i < 5 → k < 5 → i ≠ k → Ap (five a b c d e i) (five a b c d e k) := by
  have key : ∀ i k, i < 5 → k < 5 → i < k → Ap (five a b c d e i) (five a b c d e k) := by
    intro i k hi hk hik g hu hv
    have : (i = 0 ∨ i = 1 ∨ i = 2 ∨ i = 3) ∧ (k = 1 ∨ k = 2 ∨ k = 3 ∨ k = 4) := by omega
    rcases this with ⟨rfl | rfl | rfl | rfl, rfl | rfl | rfl | rfl⟩ <;> simp only [five] at hu hv <;> first
      | omega
      | (have := ha g hu; have := hb g hv; omega)
      | (have := ha g hu; have := hc g hv; omega)
      | (have := ha g hu; have := hd g hv; omega)
      | (have := ha g hu; have := he g hv; omega)
      | (have := hb g hu; have := hc g hv; omega)
      | (have := hb g hu; have := hd g hv; omega)
      | (have := hb g hu; have := he g hv; omega)
      | (have := hc g hu; have := hd g hv; omega)
      | (have := hc g hu; have := he g hv; omega)
      | (have := hd g hu; have := he g hv; omega)
  intro i k hi hk hne
  rcases Nat.lt_or_gt_of_ne hne with h | h
  · exact key i k hi hk h
  · exact (key k i hk hi h).symm
theorem minus_get (n : Nat) (rs : List Int) {i : Nat} (h : i < n) : ((minus n).take i ++ rs.drop i).getD i 0 = rs.getD i 0 := by
  rw [List.getD_eq_getElem?_getD, List.getD_eq_getElem?_getD, List.getElem?_append_right (by simp [minus_length]; omega)]
  simp [minus_length]
  rw [Nat.min_eq_left (by omega)]
  congr 2
  omega
theorem minus_step (n : Nat) (rs : List Int) {i : Nat} (h : i < n) (hl : rs.length = n) : ((minus n).take i ++ rs.drop i).set i (-7 - ((i % 2 : Nat) : Int)) = (minus n).take (i + 1) ++ rs.drop (i + 1) := by
  have e : ((minus n).take i).length = i := by rw [List.length_take, minus_length]; omega
  rw [List.set_append_right _ _ (by omega), e, Nat.sub_self, List.drop_eq_getElem_cons (by omega), List.set_cons_zero, List.take_succ_eq_append_getElem (by rw [minus_length]; exact h), List.append_assoc]
  simp [minus]
theorem minus_all (n : Nat) (rs : List Int) (hl : rs.length = n) : (minus n).take n ++ rs.drop n = minus n := by
  rw [List.take_of_length_le (by rw [minus_length]; exact Nat.le_refl _), List.drop_eq_nil_of_le (by omega), List.append_nil]
theorem minus_take {n k : Nat} (h : k ≤ n) : (minus n).take k = minus k := by
  unfold minus
  rw [← List.map_take, List.take_range, Nat.min_eq_left h]
end Go.Proofs.Ytoccbeefmagklaa
