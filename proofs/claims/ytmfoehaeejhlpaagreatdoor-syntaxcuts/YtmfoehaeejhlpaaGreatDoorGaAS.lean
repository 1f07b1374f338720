import Derived.Test.YtmfoehaeejhlpaaGreatDoorGaAR
import Derived.Test.YtmfoehaeejhlpaaGreatDoorGaAD
/-
  What writes: a node that is read, names.
-/
namespace Go.Proofs.YtmfoehaeejhlpaaGreatDoor
open Go.RowKit Yn
set_option maxRecDepth 100000
theorem Nd.below {B : Nat} {w w' : World} {t : Tree} {v : Value} (h : Nd (fun q => q < B) w t v) (hb : Below B w w') : Nd (fun q => q < B) w' t v := Nd.mv (Z := fun q => B ≤ q) ⟨hb.os, hb.tape, hb.output, hb.size, fun k _ hn => hb.block k (by omega)⟩ (fun q h e => by omega) t v h
theorem Nds.at {X : Nat → Prop} {w : World} : ∀ {l : List Tree} {ps : List Value}, Nds X w l ps → ∀ i (h : i < l.length) (h' : i < ps.length), Nd X w l[i] ps[i]
  | [], ps, h, i, hi, _ => absurd hi (by simp)
  | t :: ts, ps, h, i, hi, hp => by
    rw [Nds] at h
    obtain ⟨p, ps', rfl, h1, h2⟩ := h
    cases i with
    | zero => exact h1
    | succ i => exact Nds.at h2 i (by simpa using hi) (by simpa using hp)
/-- Children in memory. -/
def Ch (B : Nat) (w : World) (ao : Option Addr) (l : List Tree) (gl : Nat) (gs : List Nat) : Prop := gs.length = l.length ∧ (0 < l.length → ao = some ⟨gl, 0, none⟩ ∧ gl < B) ∧ ∀ i (h : i < l.length) (h' : i < gs.length), w.cell? ⟨gl, i, none⟩ = some (.pointer (some ⟨gs[i], 0, none⟩)) ∧ Nd (fun q => q < B) w l[i] (.pointer (some ⟨gs[i], 0, none⟩))
theorem Ch.below {B : Nat} {w w' : World} {ao : Option Addr} {l : List Tree} {gl : Nat} {gs : List Nat} (h : Ch B w ao l gl gs) (hb : Below B w w') : Ch B w' ao l gl gs := ⟨h.1, h.2.1, fun i hi hg => by
  obtain ⟨h3, h4⟩ := h.2.2 i hi hg
  refine ⟨?_, h4.below hb⟩
  rw [← h3]
  unfold World.cell?
  rw [hb.block gl (h.2.1 (by omega)).2]⟩
/-- A node's own cells. -/
def Ce (B : Nat) (w : World) (g op : Nat) (t : ByteArray) (n : Int) (ao : Option Addr) (m c : Nat) : Prop := g < B ∧ w.cell? ⟨g, 0, none⟩ = some (.int .i64 (op : Int)) ∧ w.cell? ⟨g, 1, none⟩ = some (.string t) ∧ w.cell? ⟨g, 2, none⟩ = some (.int .i64 n) ∧ w.cell? ⟨g, 3, none⟩ = some (.slice ao m c)
theorem Ce.below {B : Nat} {w w' : World} {g op m c : Nat} {t : ByteArray} {n : Int} {ao : Option Addr} (h : Ce B w g op t n ao m c) (hb : Below B w w') : Ce B w' g op t n ao m c := by
  unfold Ce World.cell? at h ⊢
  rw [hb.block g h.1]
  exact h
/-- A node that is read: its cells, its children. -/
theorem nd_open {B : Nat} {w : World} {op a : Nat} {t : ByteArray} {n : Int} {l : List Tree} {v : Value} (h : Nd (fun q => q < B) w (.mk op t n l a) v) : ∃ g ao c gl gs, v = .pointer (some ⟨g, 0, none⟩) ∧ Ce B w g op t n ao l.length c ∧ (l.length ≤ c ∧ c ≤ 9223372036854775807) ∧ Ch B w ao l gl gs := by
  rw [Nd] at h
  obtain ⟨g, vl, ps, rfl, hg, hc, ho, hX, hs⟩ := h
  obtain ⟨ao, c, rfl⟩ := own_len ho
  have hpp : ∀ i (h : i < ps.length), ∃ gi, ps[i] = .pointer (some ⟨gi, 0, none⟩) := fun i hi => (hs.at i (by rw [← hs.len]; exact hi) hi).ptr
  obtain ⟨gs, hgs⟩ : ∃ gs : List Nat, ps = gs.map fun gi => Value.pointer (some ⟨gi, 0, none⟩) := by
    refine ⟨ps.map fun p => match p with | .pointer (some a) => a.block | _ => 0, ?_⟩
    rw [List.map_map]
    refine List.ext_getElem (by simp) (fun i h1 h2 => ?_)
    obtain ⟨gi, e⟩ := hpp i h1
    simp [e]
  have hgl : gs.length = l.length := by rw [← hs.len, hgs, List.length_map]
  have hao : ∃ gl, 0 < l.length → ao = some ⟨gl, 0, none⟩ ∧ gl < B := by
    rcases ho.2 with ⟨-, e0⟩ | ⟨gl, c', cur, e0, -⟩
    · exact ⟨0, fun h => by omega⟩
    · injection e0 with e0 _ _
      exact ⟨gl, fun _ => ⟨e0, hX gl (by rw [e0]; rfl)⟩⟩
  obtain ⟨gl, hao⟩ := hao
  refine ⟨g, ao, c, gl, gs, rfl, ⟨hg, ?_, ?_, ?_, ?_⟩, own_cap ho, hgl, hao, fun i hi hgi => ?_⟩
  · rw [cell_of_row w g _ _ 51 (0, 0) hc]; rfl
  · rw [cell_of_row w g _ _ 51 (0, 0) hc]; rfl
  · rw [cell_of_row w g _ _ 51 (0, 0) hc]; rfl
  · rw [cell_of_row w g _ _ 51 (0, 0) hc]; rfl
  · have hp : i < ps.length := by rw [hs.len]; exact hi
    have e : ps[i] = .pointer (some ⟨gs[i], 0, none⟩) := by simp [hgs]
    refine ⟨?_, e ▸ hs.at i hi hp⟩
    obtain ⟨e1, -⟩ := hao (by omega)
    subst e1
    rw [ho.cellAt i (by omega), List.getElem?_eq_getElem hp, e]
/-- How long what is written may be. -/
def Sz (l r : List UInt8) : Prop := l.length + r.length ≤ 140737488355328
theorem Sz.left {l a b : List UInt8} (h : Sz l (a ++ b)) : Sz l a := by
  unfold Sz at h ⊢
  rw [List.length_append] at h
  omega
theorem Sz.right {l a b : List UInt8} (h : Sz l (a ++ b)) : Sz (l ++ a) b := by
  unfold Sz at h ⊢
  rw [List.length_append] at h ⊢
  omega
def Wrt (B g : Nat) (l r : List UInt8) (w : World) (e : Ending) (w' : World) : Prop := e = .returned (.tuple #[]) ∧ Wo B g (l ++ r) w w'
theorem put1 {B g : Nat} {l : List UInt8} (a : ByteArray) {w : World} (h : Bt B g l w) (hz : Sz l a.data.toList) : Calls Tryz.prog 57 #[.pointer (some ⟨g, 0, none⟩), .slice (some ⟨w.heap.size, 0, none⟩) 1 1] (w.alloc (.cells #[.string a] 9)) (Wrt B g l a.data.toList w) := by
  have e : catB [a] = a.data.toList := by simp [catB]
  have h1 := put_lit [a] w h (by simp) (by rw [e]; exact hz)
  rw [e] at h1
  exact h1
theorem put2 {B g : Nat} {l : List UInt8} (a b : ByteArray) {w : World} (h : Bt B g l w) (hz : Sz l (a.data.toList ++ b.data.toList)) : Calls Tryz.prog 57 #[.pointer (some ⟨g, 0, none⟩), .slice (some ⟨w.heap.size, 0, none⟩) 2 2] (w.alloc (.cells #[.string a, .string b] 9)) (Wrt B g l (a.data.toList ++ b.data.toList) w) := by
  have e : catB [a, b] = a.data.toList ++ b.data.toList := by simp [catB]
  have h1 := put_lit [a, b] w h (by simp) (by rw [e]; exact hz)
  rw [e] at h1
  exact h1
theorem put3 {B g : Nat} {l : List UInt8} (a b c : ByteArray) {w : World} (h : Bt B g l w) (hz : Sz l (a.data.toList ++ b.data.toList ++ c.data.toList)) : Calls Tryz.prog 57 #[.pointer (some ⟨g, 0, none⟩), .slice (some ⟨w.heap.size, 0, none⟩) 3 3] (w.alloc (.cells #[.string a, .string b, .string c] 9)) (Wrt B g l (a.data.toList ++ b.data.toList ++ c.data.toList) w) := by
  have e : catB [a, b, c] = a.data.toList ++ b.data.toList ++ c.data.toList := by simp [catB]
  have h1 := put_lit [a, b, c] w h (by simp) (by rw [e]; exact hz)
  rw [e] at h1
  exact h1
theorem put4 {B g : Nat} {l : List UInt8} (a b c d : ByteArray) {w : World} (h : Bt B g l w) (hz : Sz l (a.data.toList ++ b.data.toList ++ c.data.toList ++ d.data.toList)) : Calls Tryz.prog 57 #[.pointer (some ⟨g, 0, none⟩), .slice (some ⟨w.heap.size, 0, none⟩) 4 4] (w.alloc (.cells #[.string a, .string b, .string c, .string d] 9)) (Wrt B g l (a.data.toList ++ b.data.toList ++ c.data.toList ++ d.data.toList) w) := by
  have e : catB [a, b, c, d] = a.data.toList ++ b.data.toList ++ c.data.toList ++ d.data.toList := by simp [catB]
  have h1 := put_lit [a, b, c, d] w h (by simp) (by rw [e]; exact hz)
  rw [e] at h1
  exact h1
def comB (i : Nat) : List UInt8 := if i = 0 then [] else [44, 32]
set_option maxHeartbeats 2000000 in
theorem comma_w {B g : Nat} {l : List UInt8} (i : Nat) {w : World} (h : Bt B g l w) (hz : Sz l (comB i)) : Calls Tryz.prog 90 #[.pointer (some ⟨g, 0, none⟩), .int .i64 (i : Int)] w (Wrt B g l (comB i) w) := by
  by_cases h0 : i = 0
  · subst h0
    have H : Hid (Wrt B g l (comB 0) w (.returned (.tuple #[])) w) := ⟨rfl, by
      have : l ++ comB 0 = l := by simp [comB]
      rw [this]
      exact Wo.refl h⟩
    go_enter Tryz.func90, Tryz.ntmps90
    go_wp2_with fail
    go_end0
    exact H.out
  · have e : comB i = [44, 32] := if_neg h0
    rw [e] at hz ⊢
    have J := hide (put1 ⟨#[44, 32]⟩ h hz)
    have hi : (0 : Int) < (i : Int) := by omega
    clear e hz h
    go_enter Tryz.func90, Tryz.ntmps90
    go_wp2_with fail
    refine J.out.mono ?_
    intro e w2 h2
    have H := hide h2
    obtain ⟨rfl, -⟩ := h2
    go_wp2_with fail
    go_end0
    exact H.out
end Go.Proofs.YtmfoehaeejhlpaaGreatDoor

/-
  What is well formed: names, texts.
-/
namespace Go.Proofs.YtmfoehaeejhlpaaGreatDoor
open Go.RowKit Yn
set_option maxRecDepth 100000
/-- The judge in memory. -/
def Jd (B : Nat) (w : World) (j gw : Nat) (k : Nat) : Prop := B ≤ j ∧ gw ≠ j ∧ w.heap[j]? = some (.cells #[.slice (some ⟨gw, 0, none⟩) 26 26, .int .i64 (k : Int)] 117 (0, 0)) ∧ w.heap[gw]? = some (.cells Le.wsL.toArray 9 (0, 0))
theorem Jd.later {B j gw k : Nat} {w w' : World} (h : Jd B w j gw k) (hb : Below w.heap.size w w') : Jd B w' j gw k := by
  obtain ⟨h1, h2, h3, h4⟩ := h
  have l1 := (Array.getElem?_eq_some_iff.1 h3).1
  have l2 := (Array.getElem?_eq_some_iff.1 h4).1
  exact ⟨h1, h2, (hb.block j l1).trans h3, (hb.block gw l2).trans h4⟩
theorem Jd.set {B j gw k : Nat} {w : World} (h : Jd B w j gw k) (k' : Nat) : Jd B (w.setCell ⟨j, 1, none⟩ (.int .i64 (k' : Int))) j gw k' := by
  obtain ⟨h1, h2, h3, h4⟩ := h
  refine ⟨h1, h2, heap_setCell_same w j 1 _ 117 _ h3, ?_⟩
  exact ((Mv.refl w (fun q => q = j)).set (g := j) rfl 1 _).at h4 h2
theorem Jd.sr {B j gw k : Nat} {w : World} (h : Jd B w j gw k) : Sr w (.slice (some ⟨gw, 0, none⟩) 26 26) wsB := by
  refine ⟨some ⟨gw, 0, none⟩, 26, rfl, by decide, by decide, fun i hi => ⟨gw, 0, rfl, ?_⟩⟩
  rw [cell_of_row _ gw _ _ 9 (0, 0) h.2.2.2, Nat.zero_add]
  show Le.wsL.toArray[i]? = _
  rw [List.getElem?_toArray]
  have e : Le.wsL = wsB.map Value.string := by
    unfold wsB Le.wsL
    rw [List.map_map]
    rfl
  rw [e, List.getElem?_map, List.getElem?_eq_getElem hi]
  rfl
/-- A name. -/
def nmOk (s : ByteArray) : Prop := (∃ t ts, lxS s = .ok (t :: ts) ∧ t.k = 1 ∧ t.t = s) ∧ s ∉ wsB
set_option maxHeartbeats 4000000 in
theorem name_j {B j gw k : Nat} {s : ByteArray} {w : World} (hj : Jd B w j gw k) (hK : Le.Wd w) (hn : nmOk s) : Calls Tryz.prog 114 #[.pointer (some ⟨j, 0, none⟩), .string s] w fun e w' => e = .returned (.bool true) ∧ Below w.heap.size w w' := by
  obtain ⟨⟨t, ts, hl, hk, ht⟩, hw⟩ := hn
  have J := lx_holds s w hK
  rw [hl] at J
  have J1 := hide J
  have JC : Hid (∀ w', Below w.heap.size w w' → w'.cell? ⟨j, 0, none⟩ = some (.slice (some ⟨gw, 0, none⟩) 26 26) ∧ Calls Tryz.prog 144 #[.slice (some ⟨gw, 0, none⟩) 26 26, .string s] w' fun e w'' => e = .returned (.bool false) ∧ w'' = w') := fun w' hb => by
    have h := hj.later hb
    refine ⟨by rw [cell_of_row _ j _ _ 117 (0, 0) h.2.2.1]; rfl, ?_⟩
    have hd : Decidable (s ∈ wsB) := Classical.propDecidable _
    have := contains_any h.sr s
    rw [decide_eq_false hw] at this
    exact this
  have zt : (t.t.toList == s.toList) = true := by rw [ht]; simp
  have ht2 : t.t = s := ht
  clear J hj hK hw hl
  go_enter Tryz.func114, Tryz.ntmps114
  go_wp2_with fail
  refine J1.out.mono ?_
  rintro e w1 ⟨hb, v, rfl, ⟨g, o, c, rfl, hc1, hc2, hc3⟩, -, -⟩
  obtain ⟨c0, c1, -⟩ := hc3 0 (by simp)
  have c0 : w1.cell? ⟨g, o, none⟩ = some (.int .i64 1) := by
    have := c0
    simp only [List.getElem_cons_zero, Nat.zero_mul, Nat.add_zero, hk] at this
    exact this
  have c1 : w1.cell? ⟨g, o + 1, none⟩ = some (.string s) := by
    have := c1
    simp only [List.getElem_cons_zero, Nat.zero_mul, Nat.add_zero, ht2] at this
    exact this
  obtain ⟨cj, hcj⟩ := JC.out w1 hb
  have J2 := hide hcj
  have HB1 := hide hb
  clear hc3
  have hln2 : 0 < (t :: ts).length := by simp
  have hln : (0 : Int) < ((t :: ts).length : Int) := by omega
  generalize (t :: ts).length = m at *
  have zs : (s.toList == s.toList) = true := by simp
  clear hb JC J1 hcj zt
  go_wp2_with fail
  refine J2.out.mono ?_
  rintro e w2 ⟨rfl, rfl⟩
  clear J2
  go_wp2_with fail
  go_ret
  exact ⟨rfl, HB1.out⟩
end Go.Proofs.YtmfoehaeejhlpaaGreatDoor
