import Derived.Test.YtmfoehaeejhlpaaGreatDoorGaAX
import Derived.Lib.Builder
import Derived.Lib.AppendStr
import Derived.Test.YtmfoehaeejhlpaaGreatDoorGaAG
/-
  What writes: the library's builder, as it lies in the writer.
-/
namespace Go.Proofs.YtmfoehaeejhlpaaGreatDoor
open Go.RowKit Yn
set_option maxRecDepth 100000
theorem size84 : (Tryz.prog.info? 84).map (fun i => i.size) = some 2 := by kernel_rfl
theorem lies86 : liesAt Tryz.prog Tryz.prog.depth 86 (2 / Tryz.prog.cellsOf 86) 0 84 1 = true := by kernel_rfl
theorem infoU8 : (Tryz.prog.info? 5).map (fun i => (i.zero, i.size, i.bytes)) = some (some (.int .u8 0), 1, 1) := by kernel_rfl
set_option maxHeartbeats 2000000 in
theorem cc_used (g : Nat) (w : World) (h0 : w.cell? ⟨g, 0, none⟩ = some (.pointer (some ⟨g, 0, none⟩))) : Calls Tryz.prog 117 #[.pointer (some ⟨g, 0, none⟩)] w fun e w' => e = .returned (.tuple #[]) ∧ w' = w := by
  obtain ⟨j, hj, _⟩ := Option.map_eq_some_iff.1 size84
  go_enter Tryz.func117, Tryz.ntmps117
  go_wp2_with fail
  rw [Lib.run_neq_ptr_same w _ Tryz.underlying81 hj]
  go_wp2_with fail
  go_end0
  exact ⟨rfl, rfl⟩
set_option maxHeartbeats 2000000 in
theorem cc_fresh (g : Nat) (w : World) (h0 : w.cell? ⟨g, 0, none⟩ = some (.pointer none)) (hsh : w.shape? g = some (86, 2)) (hfz : w.frozen? ⟨g, 0, none⟩ = false) : Calls Tryz.prog 117 #[.pointer (some ⟨g, 0, none⟩)] w fun e w' => e = .returned (.tuple #[]) ∧ w' = w.setCell ⟨g, 0, none⟩ (.pointer (some ⟨g, 0, none⟩)) := by
  obtain ⟨j, hj, hjs⟩ := Option.map_eq_some_iff.1 size84
  go_enter Tryz.func117, Tryz.ntmps117
  go_wp2_with fail
  rw [Lib.run_to_unsafe w ⟨g, 0, none⟩ Tryz.underlying81 Tryz.underlying188 hj (by rw [hjs]; decide) hsh (Nat.zero_lt_succ 1)]
  simp only [Result.andThen]
  rw [Oper.upon_value]
  go_wp2_with fail
  rw [run_callFunc_extern Tryz.func145 (by kernel_rfl) (by kernel_rfl) (by kernel_rfl) (e := Extern.AbiNoEscape.same) (by kernel_rfl)]
  rw [Lib.run_noEscape]
  simp only [Result.andThen]
  rw [Oper.upon_value]
  go_wp2_with fail
  rw [Lib.run_from_unsafe w ⟨g, 0, none⟩ Tryz.underlying188 Tryz.underlying81 hj hsh lies86]
  simp only [Result.andThen]
  rw [Oper.upon_value]
  go_wp2_with fail
  go_end0
  exact ⟨rfl, rfl⟩
/-- The writer, and what it has written. -/
def Bt (B g : Nat) (l : List UInt8) (w : World) : Prop := B ≤ w.heap.size ∧ Lib.IsBuilder 86 5 B g (Lib.byteCells l) w
/-- Its own blocks, by their kinds. -/
def T5 (g : Nat) (w : World) (j : Nat) : Prop := j = g ∨ ∃ cs q, w.heap[j]? = some (.cells cs 5 q)
theorem T5.trans {g : Nat} {w w' w2 : World} (h : Mv w w' (T5 g w)) (k : Mv w' w2 (T5 g w')) : Mv w w2 (T5 g w) := h.trans k (fun j hj e => by
  rcases e with e | ⟨cs, q, e⟩
  · exact .inl e
  · by_cases hn : T5 g w j
    · exact hn
    · rw [h.2.2.2.2 j hj hn] at e
      exact .inr ⟨cs, q, e⟩)
/-- What a piece of writing leaves. -/
def Wo (B g : Nat) (l : List UInt8) (w w' : World) : Prop := Bt B g l w' ∧ Below B w w' ∧ Mv w w' (T5 g w)
theorem Wo.trans {B g : Nat} {l l2 : List UInt8} {w w' w2 : World} (h : Wo B g l w w') (k : Wo B g l2 w' w2) : Wo B g l2 w w2 := ⟨k.1, h.2.1.trans k.2.1, T5.trans h.2.2 k.2.2⟩
theorem Wo.refl {B g : Nat} {l : List UInt8} {w : World} (h : Bt B g l w) : Wo B g l w w := ⟨h, Below.refl _ _, Mv.refl _ _⟩
theorem own_5 {w : World} {B n j : Nat} {v : Value} {xs : List Value} (h : w.ownsRow B 5 1 v n xs) (e : v.ownBlock = some j) : ∃ cs q, w.heap[j]? = some (.cells cs 5 q) := by
  rcases h.2 with ⟨rfl, -⟩ | ⟨g, c, cur, rfl, -, h2, -⟩
  · cases e
  · have : g = j := by simpa [Value.ownBlock] using e
    subst this
    exact ⟨_, _, h2⟩
theorem bytes_str (l : List UInt8) (s : ByteArray) : Lib.byteCells l ++ Lib.strCells s = Lib.byteCells (l ++ s.data.toList) := by
  unfold Lib.byteCells Lib.strCells
  rw [List.map_append]
set_option maxHeartbeats 4000000 in
theorem ws_any {B g : Nat} {l : List UInt8} (s : ByteArray) (w : World) (h : Bt B g l w) (hlen : l.length + s.size ≤ 140737488355328) : Calls Tryz.prog 87 #[.pointer (some ⟨g, 0, none⟩), .string s] w fun e w' => e = .returned (.tuple #[.int .i64 s.size, .nilIface]) ∧ Wo B g (l ++ s.data.toList) w w' := by
  obtain ⟨i0, hi, hz0, hz1, hz2⟩ := info_parts infoU8
  obtain ⟨hBw, h⟩ := h
  have hll : (Lib.byteCells l).length = l.length := by simp [Lib.byteCells]
  have CC : Calls Tryz.prog 117 #[.pointer (some ⟨g, 0, none⟩)] w fun e w' => e = .returned (.tuple #[]) ∧ Lib.BuilderAt 86 5 B g (.pointer (some ⟨g, 0, none⟩)) (Lib.byteCells l) w' ∧ Below B w w' ∧ Mv w w' (T5 g w) := by
    rcases h with h | h
    · refine (cc_fresh g w h.cell0 h.shape h.frozen0).mono ?_
      rintro e w' ⟨rfl, rfl⟩
      exact ⟨rfl, h.used _, (Below.refl B w).setCell (p := ⟨g, 0, none⟩) h.1 _, (Mv.refl w _).set (.inl rfl) 0 _⟩
    · refine (cc_used g w h.cell0).mono ?_
      rintro e w' ⟨rfl, rfl⟩
      exact ⟨rfl, h, Below.refl B _, Mv.refl _ _⟩
  clear h
  go_enter Tryz.func87, Tryz.ntmps87
  go_wp2_with fail
  refine CC.mono ?_
  rintro e w1 ⟨rfl, h1, hb1, hm1⟩
  obtain ⟨hB, v, hbk, hown, hne⟩ := h1
  have c0 : w1.cell? ⟨g, 0, none⟩ = some (.pointer (some ⟨g, 0, none⟩)) := by rw [Lib.cell_of_heap hbk]; rfl
  have c1 : w1.cell? ⟨g, 1, none⟩ = some v := by rw [Lib.cell_of_heap hbk]; rfl
  go_wp2_with (at_builtin; refine Lib.wpList_append_own_string _ rfl _ _ 82 9 rfl B 5 i0 Tryz.underlying82 Tryz.underlying9 hi hz0 hz1 hz2 _ _ _ rfl hown s rfl ?c3 ?c4 ?c5 ?_)
  case c3 => unfold maxLen; omega
  case c4 => omega
  case c5 => have := hb1.size; omega
  intro v' w2 hown' hgrow _
  have hlt : g < w1.heap.size := by
    rcases Nat.lt_or_ge g w1.heap.size with h' | h'
    · exact h'
    · simp [Array.getElem?_eq_none h'] at hbk
  have hb2 : w2.heap[g]? = some (.cells #[.pointer (some ⟨g, 0, none⟩), v] 86 (0, 0)) := by
    rw [hgrow.block g hlt (fun e => hne e.symm)]
    exact hbk
  have d0 : w2.cell? ⟨g, 0, none⟩ = some (.pointer (some ⟨g, 0, none⟩)) := by rw [Lib.cell_of_heap hb2]; rfl
  have d1 : w2.cell? ⟨g, 1, none⟩ = some v := by rw [Lib.cell_of_heap hb2]; rfl
  have f1 : w2.frozen? ⟨g, 1, none⟩ = false := Lib.frozen_of_heap hb2 1
  obtain ⟨ao, n', cap, rfl⟩ : ∃ ao n' cap, v' = .slice ao n' cap := by
    rcases hown'.2 with ⟨hv, _⟩ | ⟨g, cap, cur, hv, _⟩
    · exact ⟨_, _, _, hv⟩
    · exact ⟨_, _, _, hv⟩
  have HW : Wo B g (l ++ s.data.toList) w (w2.setCell ⟨g, 1, none⟩ (.slice ao n' cap)) := by
    refine ⟨⟨?_, .inr ?_⟩, ?_, ?_⟩
    · have := hb1.size
      have := hgrow.size
      rw [World.size_setCell]
      omega
    · rw [← bytes_str]
      exact Lib.BuilderAt.put (T := 86) (e := 5) hB hb2 (bs' := Lib.byteCells l ++ Lib.strCells s) (by rw [List.length_append, Lib.strCells_length, hll]; exact hown') (by decide)
    · exact (hb1.grown hgrow (by have := hb1.size; omega) (fun k hk => (hown.lt k hk).1)).setCell (p := ⟨g, 1, none⟩) hB _
    · refine T5.trans hm1 (((Mv.refl w1 (T5 g w1)).grown hgrow (fun k hk e => .inr (own_5 hown e))).set (.inl rfl) 1 _)
  clear hown' hgrow hown hm1 hb1 hbk hb2 CC
  go_wp2_with fail
  go_ret2
  exact ⟨rfl, HW⟩
end Go.Proofs.YtmfoehaeejhlpaaGreatDoor

/-
  What writes: several texts, one behind the other.
-/
namespace Go.Proofs.YtmfoehaeejhlpaaGreatDoor
open Go.RowKit Yn
set_option maxRecDepth 100000
theorem Bt.later {B g : Nat} {l : List UInt8} {w w' : World} (h : Bt B g l w) (hb : Below w.heap.size w w') : Bt B g l w' := by
  obtain ⟨hB, h⟩ := h
  have one : ∀ p, Lib.BuilderAt 86 5 B g p (Lib.byteCells l) w → Lib.BuilderAt 86 5 B g p (Lib.byteCells l) w' := fun p hp => by
    have hlt := hp.lt
    obtain ⟨h1, v, h2, h3, h4⟩ := hp
    exact ⟨h1, v, (hb.block g hlt).trans h2, own_later h3 hb, h4⟩
  exact ⟨Nat.le_trans hB hb.size, h.imp (one _) (one _)⟩
theorem Bt.lt {B g : Nat} {l : List UInt8} {w : World} (h : Bt B g l w) : g < w.heap.size := by
  rcases h.2 with h | h <;> exact h.lt
theorem wo_later {B g : Nat} {l : List UInt8} {w w' : World} (h : Bt B g l w) (hb : Below w.heap.size w w') : Wo B g l w w' := ⟨h.later hb, hb.mono h.1, Mv.of_below hb _⟩
def catB (ss : List ByteArray) : List UInt8 := (ss.map fun s => s.data.toList).flatten
theorem cat_take {ss : List ByteArray} {i : Nat} (hi : i < ss.length) : catB (ss.take (i + 1)) = catB (ss.take i) ++ ss[i].data.toList := by
  unfold catB
  rw [List.take_succ_eq_append_getElem hi, List.map_append, List.flatten_append]
  simp
theorem cat_le (ss : List ByteArray) (i : Nat) : (catB (ss.take i)).length ≤ (catB ss).length := by
  have : catB ss = catB (ss.take i) ++ catB (ss.drop i) := by
    unfold catB
    rw [← List.flatten_append, ← List.map_append, List.take_append_drop]
  rw [this, List.length_append]
  omega
set_option maxHeartbeats 4000000 in
theorem put_any {B g k : Nat} {l : List UInt8} (ss : List ByteArray) (w : World) (h : Bt B g l w) (hk : w.heap[k]? = some (.cells (ss.map Value.string).toArray 9 (0, 0))) (hkg : k ≠ g) (hn : ss.length ≤ 1048576) (hlen : l.length + (catB ss).length ≤ 140737488355328) : Calls Tryz.prog 57 #[.pointer (some ⟨g, 0, none⟩), .slice (some ⟨k, 0, none⟩) ss.length ss.length] w fun e w' => e = .returned (.tuple #[]) ∧ Wo B g (l ++ catB ss) w w' := by
  have H0 : Hid (Wo B g (l ++ catB (ss.take 0)) w w) := by
    have e : l ++ catB (ss.take 0) = l := by simp [catB]
    unfold Hid
    rw [e]
    exact Wo.refl h
  have CE : Hid (∀ wr l', Wo B g l' w wr → ∀ i (hi : i < ss.length), wr.cell? ⟨k, i, none⟩ = some (.string ss[i])) := fun wr l' hw i hi => by
    have hb := hw.2.2.at hk (fun e => by
      rcases e with e | ⟨cs, q, e⟩
      · exact hkg e
      · rw [hk] at e
        injection e with e
        injection e with _ e _
        exact absurd e (by decide))
    rw [cell_of_row wr k i _ 9 (0, 0) hb]
    simp [hi]
  obtain ⟨n, hnn⟩ : ∃ n, n = ss.length := ⟨_, rfl⟩
  have HNN := hide hnn
  have HL := hide hlen
  rw [← hnn] at hn
  rw [← hnn]
  clear h hk hkg hlen hnn
  go_enter Tryz.func57, Tryz.ntmps57
  go_wp2_with fail
  go_loopw [8] (fun v8 wr => ∃ i : Nat, v8 = .int .i64 (i : Int) ∧ i ≤ n ∧ Hid (Wo B g (l ++ catB (ss.take i)) w wr)) (fun v8 _ => n - (intOf v8).toNat)
  case atStart => exact ⟨0, rfl, by omega, H0.out⟩
  case round =>
    obtain ⟨i, rfl, hi1, hw⟩ := hrel
    by_cases hi2 : i < n
    · have hil : i < ss.length := by rw [← HNN.out]; exact hi2
      have c0 := CE.out wr _ hw.out i hil
      have J := hide (ws_any ss[i] wr hw.out.1 (by
        have h1 := cat_le ss (i + 1)
        rw [cat_take hil, List.length_append] at h1
        have h2 := HL.out
        have h3 : ss[i].data.toList.length = ss[i].size := by rw [Array.length_toList]; rfl
        rw [List.length_append]
        omega))
      have i9 : (i : Int) < (n : Int) := by omega
      have E1 : Hid (l ++ catB (ss.take i) ++ ss[i].data.toList = l ++ catB (ss.take (i + 1))) := by
        unfold Hid
        rw [cat_take hil, List.append_assoc]
      generalize ss[i] = t at *
      go_wp2_with fail
      refine J.out.mono ?_
      rintro e w2 ⟨rfl, h2⟩
      rw [E1.out] at h2
      have H2 := hide (hw.out.trans h2)
      clear h2 J
      go_wp2_with fail
      exact ⟨⟨i + 1, by go_num, by omega, H2.out⟩, by simp [intOf]; omega⟩
    · obtain rfl : n = i := by omega
      have H9 : Hid (Wo B g (l ++ catB ss) w wr) := by
        have h := hw.out
        rw [HNN.out, List.take_length] at h
        exact h
      go_wp2_with fail
      go_end0
      exact ⟨rfl, H9.out⟩
/-- Texts in a list of their own. -/
theorem put_lit {B g : Nat} {l : List UInt8} (ss : List ByteArray) (w : World) (h : Bt B g l w) (hn : ss.length ≤ 1048576) (hlen : l.length + (catB ss).length ≤ 140737488355328) : Calls Tryz.prog 57 #[.pointer (some ⟨g, 0, none⟩), .slice (some ⟨w.heap.size, 0, none⟩) ss.length ss.length] (w.alloc (.cells (ss.map Value.string).toArray 9)) fun e w' => e = .returned (.tuple #[]) ∧ Wo B g (l ++ catB ss) w w' := by
  have hb := below_alloc w (.cells (ss.map Value.string).toArray 9)
  refine (put_any (k := w.heap.size) ss _ (h.later hb) (heap_alloc_new w _) (by have := h.lt; omega) hn hlen).mono ?_
  rintro e w' ⟨rfl, hw⟩
  exact ⟨rfl, (wo_later h hb).trans hw⟩
end Go.Proofs.YtmfoehaeejhlpaaGreatDoor

/-
  What writes: a node that is read, names.
-/
namespace Go.Proofs.YtmfoehaeejhlpaaGreatDoor
open Go.RowKit Yn
set_option maxRecDepth 100000
theorem Nd.below {B : Nat} {w w' : World} {t : Tree} {v : Value} (h : Nd (fun q => q < B) w t v) (hb : Below B w w') : Nd (fun q => q < B) w' t v := Nd.mv (Z := fun q => B ≤ q) ⟨hb.os, hb.tape, hb.output, hb.size, fun k _ hn => hb.block k (by omega)⟩ (fun q h e => by omega) t v h
theorem Nds.at {X : Nat → Prop} {w : World} : ∀ {l : List Tree} {ps : List Value}, Nds X w l ps → ∀ i (h : i < l.length) (h' : i < ps.length), Nd X w l[i] ps[i]
  | [], ps, h, i, hi, _ => absurd hi (by simp)
  | t :: ts, ps, h, i, hi, hp => by
    rw [Nds] at h
    obtain ⟨p, ps', rfl, h1, h2⟩ := h
    cases i with
    | zero => exact h1
    | succ i => exact Nds.at h2 i (by simpa using hi) (by simpa using hp)
/-- Children in memory. -/
def Ch (B : Nat) (w : World) (ao : Option Addr) (l : List Tree) (gl : Nat) (gs : List Nat) : Prop := gs.length = l.length ∧ (0 < l.length → ao = some ⟨gl, 0, none⟩ ∧ gl < B) ∧ ∀ i (h : i < l.length) (h' : i < gs.length), w.cell? ⟨gl, i, none⟩ = some (.pointer (some ⟨gs[i], 0, none⟩)) ∧ Nd (fun q => q < B) w l[i] (.pointer (some ⟨gs[i], 0, none⟩))
theorem Ch.below {B : Nat} {w w' : World} {ao : Option Addr} {l : List Tree} {gl : Nat} {gs : List Nat} (h : Ch B w ao l gl gs) (hb : Below B w w') : Ch B w' ao l gl gs := ⟨h.1, h.2.1, fun i hi hg => by
  obtain ⟨h3, h4⟩ := h.2.2 i hi hg
  refine ⟨?_, h4.below hb⟩
  rw [← h3]
  unfold World.cell?
  rw [hb.block gl (h.2.1 (by omega)).2]⟩
/-- A node's own cells. -/
def Ce (B : Nat) (w : World) (g op : Nat) (t : ByteArray) (n : Int) (ao : Option Addr) (m c : Nat) : Prop := g < B ∧ w.cell? ⟨g, 0, none⟩ = some (.int .i64 (op : Int)) ∧ w.cell? ⟨g, 1, none⟩ = some (.string t) ∧ w.cell? ⟨g, 2, none⟩ = some (.int .i64 n) ∧ w.cell? ⟨g, 3, none⟩ = some (.slice ao m c)
theorem Ce.below {B : Nat} {w w' : World} {g op m c : Nat} {t : ByteArray} {n : Int} {ao : Option Addr} (h : Ce B w g op t n ao m c) (hb : Below B w w') : Ce B w' g op t n ao m c := by
  unfold Ce World.cell? at h ⊢
  rw [hb.block g h.1]
  exact h
/-- A node that is read: its cells, its children. -/
theorem nd_open {B : Nat} {w : World} {op a : Nat} {t : ByteArray} {n : Int} {l : List Tree} {v : Value} (h : Nd (fun q => q < B) w (.mk op t n l a) v) : ∃ g ao c gl gs, v = .pointer (some ⟨g, 0, none⟩) ∧ Ce B w g op t n ao l.length c ∧ (l.length ≤ c ∧ c ≤ 9223372036854775807) ∧ Ch B w ao l gl gs := by
  rw [Nd] at h
  obtain ⟨g, vl, ps, rfl, hg, hc, ho, hX, hs⟩ := h
  obtain ⟨ao, c, rfl⟩ := own_len ho
  have hpp : ∀ i (h : i < ps.length), ∃ gi, ps[i] = .pointer (some ⟨gi, 0, none⟩) := fun i hi => (hs.at i (by rw [← hs.len]; exact hi) hi).ptr
  obtain ⟨gs, hgs⟩ : ∃ gs : List Nat, ps = gs.map fun gi => Value.pointer (some ⟨gi, 0, none⟩) := by
    refine ⟨ps.map fun p => match p with | .pointer (some a) => a.block | _ => 0, ?_⟩
    rw [List.map_map]
    refine List.ext_getElem (by simp) (fun i h1 h2 => ?_)
    obtain ⟨gi, e⟩ := hpp i h1
    simp [e]
  have hgl : gs.length = l.length := by rw [← hs.len, hgs, List.length_map]
  have hao : ∃ gl, 0 < l.length → ao = some ⟨gl, 0, none⟩ ∧ gl < B := by
    rcases ho.2 with ⟨-, e0⟩ | ⟨gl, c', cur, e0, -⟩
    · exact ⟨0, fun h => by omega⟩
    · injection e0 with e0 _ _
      exact ⟨gl, fun _ => ⟨e0, hX gl (by rw [e0]; rfl)⟩⟩
  obtain ⟨gl, hao⟩ := hao
  refine ⟨g, ao, c, gl, gs, rfl, ⟨hg, ?_, ?_, ?_, ?_⟩, own_cap ho, hgl, hao, fun i hi hgi => ?_⟩
  · rw [cell_of_row w g _ _ 51 (0, 0) hc]; rfl
  · rw [cell_of_row w g _ _ 51 (0, 0) hc]; rfl
  · rw [cell_of_row w g _ _ 51 (0, 0) hc]; rfl
  · rw [cell_of_row w g _ _ 51 (0, 0) hc]; rfl
  · have hp : i < ps.length := by rw [hs.len]; exact hi
    have e : ps[i] = .pointer (some ⟨gs[i], 0, none⟩) := by simp [hgs]
    refine ⟨?_, e ▸ hs.at i hi hp⟩
    obtain ⟨e1, -⟩ := hao (by omega)
    subst e1
    rw [ho.cellAt i (by omega), List.getElem?_eq_getElem hp, e]
/-- How long what is written may be. -/
def Sz (l r : List UInt8) : Prop := l.length + r.length ≤ 140737488355328
theorem Sz.left {l a b : List UInt8} (h : Sz l (a ++ b)) : Sz l a := by
  unfold Sz at h ⊢
  rw [List.length_append] at h
  omega
theorem Sz.right {l a b : List UInt8} (h : Sz l (a ++ b)) : Sz (l ++ a) b := by
  unfold Sz at h ⊢
  rw [List.length_append] at h ⊢
  omega
def Wrt (B g : Nat) (l r : List UInt8) (w : World) (e : Ending) (w' : World) : Prop := e = .returned (.tuple #[]) ∧ Wo B g (l ++ r) w w'
theorem put1 {B g : Nat} {l : List UInt8} (a : ByteArray) {w : World} (h : Bt B g l w) (hz : Sz l a.data.toList) : Calls Tryz.prog 57 #[.pointer (some ⟨g, 0, none⟩), .slice (some ⟨w.heap.size, 0, none⟩) 1 1] (w.alloc (.cells #[.string a] 9)) (Wrt B g l a.data.toList w) := by
  have e : catB [a] = a.data.toList := by simp [catB]
  have h1 := put_lit [a] w h (by simp) (by rw [e]; exact hz)
  rw [e] at h1
  exact h1
theorem put2 {B g : Nat} {l : List UInt8} (a b : ByteArray) {w : World} (h : Bt B g l w) (hz : Sz l (a.data.toList ++ b.data.toList)) : Calls Tryz.prog 57 #[.pointer (some ⟨g, 0, none⟩), .slice (some ⟨w.heap.size, 0, none⟩) 2 2] (w.alloc (.cells #[.string a, .string b] 9)) (Wrt B g l (a.data.toList ++ b.data.toList) w) := by
  have e : catB [a, b] = a.data.toList ++ b.data.toList := by simp [catB]
  have h1 := put_lit [a, b] w h (by simp) (by rw [e]; exact hz)
  rw [e] at h1
  exact h1
theorem put3 {B g : Nat} {l : List UInt8} (a b c : ByteArray) {w : World} (h : Bt B g l w) (hz : Sz l (a.data.toList ++ b.data.toList ++ c.data.toList)) : Calls Tryz.prog 57 #[.pointer (some ⟨g, 0, none⟩), .slice (some ⟨w.heap.size, 0, none⟩) 3 3] (w.alloc (.cells #[.string a, .string b, .string c] 9)) (Wrt B g l (a.data.toList ++ b.data.toList ++ c.data.toList) w) := by
  have e : catB [a, b, c] = a.data.toList ++ b.data.toList ++ c.data.toList := by simp [catB]
  have h1 := put_lit [a, b, c] w h (by simp) (by rw [e]; exact hz)
  rw [e] at h1
  exact h1
theorem put4 {B g : Nat} {l : List UInt8} (a b c d : ByteArray) {w : World} (h : Bt B g l w) (hz : Sz l (a.data.toList ++ b.data.toList ++ c.data.toList ++ d.data.toList)) : Calls Tryz.prog 57 #[.pointer (some ⟨g, 0, none⟩), .slice (some ⟨w.heap.size, 0, none⟩) 4 4] (w.alloc (.cells #[.string a, .string b, .string c, .string d] 9)) (Wrt B g l (a.data.toList ++ b.data.toList ++ c.data.toList ++ d.data.toList) w) := by
  have e : catB [a, b, c, d] = a.data.toList ++ b.data.toList ++ c.data.toList ++ d.data.toList := by simp [catB]
  have h1 := put_lit [a, b, c, d] w h (by simp) (by rw [e]; exact hz)
  rw [e] at h1
  exact h1
def comB (i : Nat) : List UInt8 := if i = 0 then [] else [44, 32]
set_option maxHeartbeats 2000000 in
theorem comma_w {B g : Nat} {l : List UInt8} (i : Nat) {w : World} (h : Bt B g l w) (hz : Sz l (comB i)) : Calls Tryz.prog 90 #[.pointer (some ⟨g, 0, none⟩), .int .i64 (i : Int)] w (Wrt B g l (comB i) w) := by
  by_cases h0 : i = 0
  · subst h0
    have H : Hid (Wrt B g l (comB 0) w (.returned (.tuple #[])) w) := ⟨rfl, by
      have : l ++ comB 0 = l := by simp [comB]
      rw [this]
      exact Wo.refl h⟩
    go_enter Tryz.func90, Tryz.ntmps90
    go_wp2_with fail
    go_end0
    exact H.out
  · have e : comB i = [44, 32] := if_neg h0
    rw [e] at hz ⊢
    have J := hide (put1 ⟨#[44, 32]⟩ h hz)
    have hi : (0 : Int) < (i : Int) := by omega
    clear e hz h
    go_enter Tryz.func90, Tryz.ntmps90
    go_wp2_with fail
    refine J.out.mono ?_
    intro e w2 h2
    have H := hide h2
    obtain ⟨rfl, -⟩ := h2
    go_wp2_with fail
    go_end0
    exact H.out
end Go.Proofs.YtmfoehaeejhlpaaGreatDoor

/-
  What is well formed: names, texts.
-/
namespace Go.Proofs.YtmfoehaeejhlpaaGreatDoor
open Go.RowKit Yn
set_option maxRecDepth 100000
/-- The judge in memory. -/
def Jd (B : Nat) (w : World) (j gw : Nat) (k : Nat) : Prop := B ≤ j ∧ gw ≠ j ∧ w.heap[j]? = some (.cells #[.slice (some ⟨gw, 0, none⟩) 26 26, .int .i64 (k : Int)] 117 (0, 0)) ∧ w.heap[gw]? = some (.cells Le.wsL.toArray 9 (0, 0))
theorem Jd.later {B j gw k : Nat} {w w' : World} (h : Jd B w j gw k) (hb : Below w.heap.size w w') : Jd B w' j gw k := by
  obtain ⟨h1, h2, h3, h4⟩ := h
  have l1 := (Array.getElem?_eq_some_iff.1 h3).1
  have l2 := (Array.getElem?_eq_some_iff.1 h4).1
  exact ⟨h1, h2, (hb.block j l1).trans h3, (hb.block gw l2).trans h4⟩
theorem Jd.set {B j gw k : Nat} {w : World} (h : Jd B w j gw k) (k' : Nat) : Jd B (w.setCell ⟨j, 1, none⟩ (.int .i64 (k' : Int))) j gw k' := by
  obtain ⟨h1, h2, h3, h4⟩ := h
  refine ⟨h1, h2, heap_setCell_same w j 1 _ 117 _ h3, ?_⟩
  exact ((Mv.refl w (fun q => q = j)).set (g := j) rfl 1 _).at h4 h2
theorem Jd.sr {B j gw k : Nat} {w : World} (h : Jd B w j gw k) : Sr w (.slice (some ⟨gw, 0, none⟩) 26 26) wsB := by
  refine ⟨some ⟨gw, 0, none⟩, 26, rfl, by decide, by decide, fun i hi => ⟨gw, 0, rfl, ?_⟩⟩
  rw [cell_of_row _ gw _ _ 9 (0, 0) h.2.2.2, Nat.zero_add]
  show Le.wsL.toArray[i]? = _
  rw [List.getElem?_toArray]
  have e : Le.wsL = wsB.map Value.string := by
    unfold wsB Le.wsL
    rw [List.map_map]
    rfl
  rw [e, List.getElem?_map, List.getElem?_eq_getElem hi]
  rfl
/-- A name. -/
def nmOk (s : ByteArray) : Prop := (∃ t ts, lxS s = .ok (t :: ts) ∧ t.k = 1 ∧ t.t = s) ∧ s ∉ wsB
set_option maxHeartbeats 4000000 in
theorem name_j {B j gw k : Nat} {s : ByteArray} {w : World} (hj : Jd B w j gw k) (hK : Le.Wd w) (hn : nmOk s) : Calls Tryz.prog 114 #[.pointer (some ⟨j, 0, none⟩), .string s] w fun e w' => e = .returned (.bool true) ∧ Below w.heap.size w w' := by
  obtain ⟨⟨t, ts, hl, hk, ht⟩, hw⟩ := hn
  have J := lx_holds s w hK
  rw [hl] at J
  have J1 := hide J
  have JC : Hid (∀ w', Below w.heap.size w w' → w'.cell? ⟨j, 0, none⟩ = some (.slice (some ⟨gw, 0, none⟩) 26 26) ∧ Calls Tryz.prog 144 #[.slice (some ⟨gw, 0, none⟩) 26 26, .string s] w' fun e w'' => e = .returned (.bool false) ∧ w'' = w') := fun w' hb => by
    have h := hj.later hb
    refine ⟨by rw [cell_of_row _ j _ _ 117 (0, 0) h.2.2.1]; rfl, ?_⟩
    have hd : Decidable (s ∈ wsB) := Classical.propDecidable _
    have := contains_any h.sr s
    rw [decide_eq_false hw] at this
    exact this
  have zt : (t.t.toList == s.toList) = true := by rw [ht]; simp
  have ht2 : t.t = s := ht
  clear J hj hK hw hl
  go_enter Tryz.func114, Tryz.ntmps114
  go_wp2_with fail
  refine J1.out.mono ?_
  rintro e w1 ⟨hb, v, rfl, ⟨g, o, c, rfl, hc1, hc2, hc3⟩, -, -⟩
  obtain ⟨c0, c1, -⟩ := hc3 0 (by simp)
  have c0 : w1.cell? ⟨g, o, none⟩ = some (.int .i64 1) := by
    have := c0
    simp only [List.getElem_cons_zero, Nat.zero_mul, Nat.add_zero, hk] at this
    exact this
  have c1 : w1.cell? ⟨g, o + 1, none⟩ = some (.string s) := by
    have := c1
    simp only [List.getElem_cons_zero, Nat.zero_mul, Nat.add_zero, ht2] at this
    exact this
  obtain ⟨cj, hcj⟩ := JC.out w1 hb
  have J2 := hide hcj
  have HB1 := hide hb
  clear hc3
  have hln2 : 0 < (t :: ts).length := by simp
  have hln : (0 : Int) < ((t :: ts).length : Int) := by omega
  generalize (t :: ts).length = m at *
  have zs : (s.toList == s.toList) = true := by simp
  clear hb JC J1 hcj zt
  go_wp2_with fail
  refine J2.out.mono ?_
  rintro e w2 ⟨rfl, rfl⟩
  clear J2
  go_wp2_with fail
  go_ret
  exact ⟨rfl, HB1.out⟩
end Go.Proofs.YtmfoehaeejhlpaaGreatDoor
