/-
  The law's shown: a record that is written and read.
-/
import Derived.Test.YtkohlhnkaklnpaaWalk2
import Derived.Test.YtkohlhnkaklnpaaOne
import Derived.Test.YtkohlhnkaklnpaaNilF
import Derived.Test.YtkohlhnkaklnpaaConv
import Derived.Lib.SlBytesConst
namespace Go.Proofs.Ytkohlhnkaklnpaa
open Go.RowKit Go.Shelf
attribute [local go_sem] Oper.semAt_some

theorem mark_bs (w : World) (l : List UInt8) (fr : Nat × Nat) (hm : l.length ≤ maxLen) : Bs (w.alloc (.cells (Lib.byteCells l).toArray 5 fr)) (.slice (some ⟨w.heap.size, 0, none⟩) l.length l.length) l :=
  Bs.row (o := 0) (Nat.le_refl _) hm (fun j hj => by
    rw [Nat.zero_add, World.cell?_alloc_mark]
    simp [Lib.byteCells, hj])
theorem own_some {w : World} {B n : Nat} {v : Value} {l : List UInt8} (h : w.ownsRow B 5 1 v n (Lib.byteCells l)) (h0 : l ≠ []) : ∃ g c, v = .slice (some ⟨g, 0, none⟩) n c ∧ n ≤ c ∧ c ≤ maxLen ∧ B ≤ g ∧ ∀ j (hj : j < l.length), w.cell? ⟨g, 0 + j, none⟩ = some (.int .u8 (l[j]).toNat) := by
  have hn : n = l.length := by have := h.1; rw [Lib.byteCells_length] at this; omega
  subst hn
  rcases h.2 with ⟨rfl, hz⟩ | ⟨g, cap, cur, rfl, hb, hg, hnc, hcm, hcs, htake⟩
  · exact absurd (List.eq_nil_of_length_eq_zero hz) h0
  · refine ⟨g, cap, rfl, hnc, hcm, hb, fun j hj => ?_⟩
    rw [Nat.zero_add, h.cellAt j (by omega)]
    simp [Lib.byteCells, hj]
theorem lt_of_block {w : World} {g : Nat} {o : Obj} (h : w.heap[g]? = some o) : g < w.heap.size := (Array.getElem?_eq_some_iff.1 h).1
theorem Bs.on {w w' : World} {v : Value} {l : List UInt8} (h : Bs w v l) (hb : Below w.heap.size w w') : Bs w' v l := h.below hb (Nat.le_refl _)

/-- What the loop of shown keeps. -/
def ShI (w : World) (R C bx B : Nat) (vo v2 : Value) (B2 : Nat) (ds : List (List UInt8)) (W : World) : Prop :=
  W.heap[C]? = some (.cells #[.int .i64 (ds.length : Nat)] 3 (0, 0)) ∧ W.heap[R]? = some (.cells #[.bool false] 4 (0, 0)) ∧ Piece W B2 v2 [97, 98] ∧
  W.ownsRow B 5 1 vo 8 (Lib.byteCells [130, 2, 144, 173, 12, 249, 97, 98]) ∧ W.heap[bx]? = some (.cells #[vo] 22 (0, 0)) ∧ Below w.heap.size w W
theorem ShI.own {w : World} {R C bx B : Nat} {vo v2 : Value} {B2 N : Nat} (hN : w.heap.size ≤ N) : OwnFrom N (ShI w R C bx B vo v2 B2) := by
  intro ds W W' row ⟨h1, h2, h3, h4, h5, h6⟩ hg hr
  have hr' := fun r e => (hr r e).2
  exact ⟨heap_kept h1 rfl hg hr', heap_kept h2 rfl hg hr', h3.kept hg hr', own_kept h4 hg hr', heap_kept h5 rfl hg hr', h6.grown hg h6.size (fun k e => Nat.le_trans hN (hr k e).1)⟩

set_option maxHeartbeats 8000000 in
set_option maxRecDepth 100000 in
theorem shown_any (w : World) : Calls Try.prog 8 #[] w fun e w' => e = .returned (.bool true) ∧ Below w.heap.size w w' := by
  refine (callsIn_wide (n := 6)).1 ?_
  refine callsIn_of_wp_marks Try.func8 rfl trivial ?_ rfl
  simp only [Try.ntmps8, List.size_toArray, List.length_nil, Nat.reduceSub, Array.replicate_succ, Array.replicate_zero, List.push_toArray, List.append_toArray, List.nil_append, List.cons_append]
  have kc := fun (w : World) (C : Array Value) (n c : Nat) => Lib.run_convert_bytes_const (P := Try.prog) w 22 5 C n c Try.underlying22 Try.underlying5
  have k1 := kc (w.alloc (.cells #[.bool false] 4)) #[.int .u8 120] 1 1
  have k2 := kc ((w.alloc (.cells #[.bool false] 4)).alloc (.cells #[.int .u8 120] 5 (1, 2))) #[.int .u8 97, .int .u8 98] 2 2
  simp only [World.size_alloc, Nat.add_assoc, Nat.reduceAdd, List.size_toArray, List.length_cons, List.length_nil] at k1 k2
  clear kc
  gi_wp2_with fail
  have hb0 : Below w.heap.size w (((w.alloc (.cells #[.bool false] 4)).alloc (.cells #[.int .u8 120] 5 (1, 2))).alloc (.cells #[.int .u8 97, .int .u8 98] 5 (2, 3))) := (((Below.refl _ w).alloc (Nat.le_refl _) _).alloc (by simp) _).alloc (by simp; omega) _
  have hR0 : (((w.alloc (.cells #[.bool false] 4)).alloc (.cells #[.int .u8 120] 5 (1, 2))).alloc (.cells #[.int .u8 97, .int .u8 98] 5 (2, 3))).heap[w.heap.size]? = some (.cells #[.bool false] 4 (0, 0)) := ((heap_alloc_old _ _ (by simp; omega)).trans (heap_alloc_old _ _ (by simp))).trans (heap_alloc_new w _)
  have hx0 : Bs (((w.alloc (.cells #[.bool false] 4)).alloc (.cells #[.int .u8 120] 5 (1, 2))).alloc (.cells #[.int .u8 97, .int .u8 98] 5 (2, 3))) (.slice (some ⟨w.heap.size + 1, 0, none⟩) 1 1) [120] := by
    have := (mark_bs (w.alloc (.cells #[.bool false] 4)) [120] (1, 2) (by decide)).below ((Below.refl _ _).alloc (Nat.le_refl _) (.cells #[.int .u8 97, .int .u8 98] 5 (2, 3))) (Nat.le_refl _)
    simpa [Lib.byteCells] using this
  have hy0 : Bs (((w.alloc (.cells #[.bool false] 4)).alloc (.cells #[.int .u8 120] 5 (1, 2))).alloc (.cells #[.int .u8 97, .int .u8 98] 5 (2, 3))) (.slice (some ⟨w.heap.size + 2, 0, none⟩) 2 2) [97, 98] := by
    have := mark_bs ((w.alloc (.cells #[.bool false] 4)).alloc (.cells #[.int .u8 120] 5 (1, 2))) [97, 98] (2, 3) (by decide)
    simpa [Nat.add_assoc, Lib.byteCells] using this
  have hs0 : w.heap.size < (((w.alloc (.cells #[.bool false] 4)).alloc (.cells #[.int .u8 120] 5 (1, 2))).alloc (.cells #[.int .u8 97, .int .u8 98] 5 (2, 3))).heap.size := by simp; omega
  clear k1 k2
  generalize ((w.alloc (.cells #[.bool false] 4)).alloc (.cells #[.int .u8 120] 5 (1, 2))).alloc (.cells #[.int .u8 97, .int .u8 98] 5 (2, 3)) = w0 at *
  have hput := rput_good _ _ [120] [97, 98] w0 hx0 (.inr ⟨_, _, _, rfl⟩) hy0 (.inr ⟨_, _, _, rfl⟩) ⟨by simp, by simp⟩ (by simp)
  rw [Rc.shown_made] at hput
  refine ⟨trivial, (callsIn_wide.2 hput).mono ?_⟩
  rintro e w1 ⟨v1, rfl, ho1, hb1⟩
  obtain ⟨g, c, rfl, hc1, hc2, hg1, hcell⟩ := own_some ho1 (by simp)
  have hR1 : w1.heap[w.heap.size]? = some (.cells #[.bool false] 4 (0, 0)) := (hb1.block _ hs0).trans hR0
  have hbw1 : Below w.heap.size w w1 := hb0.trans (hb1.mono hb0.size)
  have hgl := World.block_lt_of_cell? w1 _ (hcell 0 (by simp))
  have c0 : w1.cell? ⟨g, 0, none⟩ = some (.int .u8 120) := hcell 0 (by simp)
  have c1 : w1.cell? ⟨g, 1, none⟩ = some (.int .u8 130) := hcell 1 (by simp)
  have c2 : w1.cell? ⟨g, 2, none⟩ = some (.int .u8 2) := hcell 2 (by simp)
  have c7 : w1.cell? ⟨g, 7, none⟩ = some (.int .u8 97) := hcell 7 (by simp)
  have c8 : w1.cell? ⟨g, 8, none⟩ = some (.int .u8 98) := hcell 8 (by simp)
  have hrec : Bs w1 (.slice (some ⟨g, 1, none⟩) 8 (c - 1)) [130, 2, 144, 173, 12, 249, 97, 98] := Bs.row (l := [130, 2, 144, 173, 12, 249, 97, 98]) (g := g) (o := 1) (by simp at hc1 ⊢; omega) (by omega) (fun j hj => by
    have := hcell (1 + j) (by simp at hj ⊢; omega)
    rw [List.getElem_append_right (by simp)] at this
    simpa using this)
  have hcc : ¬ c = 1 := by simp at hc1; omega
  have hcm : c ≤ 9223372036854775807 := by unfold maxLen at hc2; omega
  have hc9 : (9 : Int) ≤ (c : Int) := by simp at hc1; omega
  clear hput ho1 hcell hx0 hy0 hR0 hc1 hc2
  gi_wp2_with fail
  have hget := rget_any _ _ w1 hrec
  rw [Rc.shown_get] at hget
  refine ⟨trivial, (callsIn_wide.2 hget).mono ?_⟩
  rintro e w2 ⟨v2, rfl, hp2, hb2⟩
  have hR2 : w2.heap[w.heap.size]? = some (.cells #[.bool false] 4 (0, 0)) := (hb2.block _ (by have := hb1.size; omega)).trans hR1
  have hbw2 : Below w.heap.size w w2 := hbw1.trans (hb2.mono hbw1.size)
  have hrec2 := hrec.on hb2
  have hd2 := hp2.bs
  have hlt2 : w.heap.size < w2.heap.size := (Array.getElem?_eq_some_iff.1 hR2).1
  have hv2 : ∀ g, v2.ownBlock = some g → g < w2.heap.size := fun g hg => (hp2.lt g hg).2
  clear hget hrec c0 c1 c2 c7 c8 hb2 hR1 hbw1 hd2
  gi_wp2_with fail
  have hscan := scan_any _ _ w2 hrec2 (.inr ⟨_, _, _, rfl⟩) (by simp)
  refine ⟨trivial, (callsIn_wide.2 hscan).mono ?_⟩
  rintro e w3 ⟨v3, ds, k, rfl, ht, hz, hsc, hb3⟩
  obtain ⟨rfl, rfl⟩ := Rc.told_one_end Rc.shown_get (by simp) ht hz
  obtain ⟨vs, hown, _, _⟩ := hsc
  obtain ⟨ao3, c3, rfl⟩ := own_len hown
  have hR3 : w3.heap[w.heap.size]? = some (.cells #[.bool false] 4 (0, 0)) := (hb3.block _ hlt2).trans hR2
  have hbw3 : Below w.heap.size w w3 := hbw2.trans (hb3.mono hbw2.size)
  have hrec3 := hrec2.on hb3
  have hd3 := hp2.later hb3
  have hv3 : ∀ g, v2.ownBlock = some g → g < w3.heap.size := fun g hg => Nat.lt_of_lt_of_le (hv2 g hg) hb3.size
  have hlt3 : w.heap.size < w3.heap.size := (Array.getElem?_eq_some_iff.1 hR3).1
  clear hscan ht hz hown hrec2 hp2 hv2 hb3 hR2 hbw2
  gi_wp2_with fail
  have ha := (Below.refl w3.heap.size w3).alloc (Nat.le_refl _) (.cells #[.int .i64 0] 3)
  have hC4 := heap_alloc_new w3 (.cells #[.int .i64 0] 3)
  have hsa : (w3.alloc (.cells #[.int .i64 0] 3)).heap.size = w3.heap.size + 1 := by simp
  have hR4 := (ha.block _ hlt3).trans hR3
  have hbw4 : Below w.heap.size w (w3.alloc (.cells #[.int .i64 0] 3)) := hbw3.trans (ha.mono hbw3.size)
  have hrec4 := hrec3.on ha
  have hd4 := hd3.later ha
  have hwalk := walk_any _ _ _ hrec4 (.inr ⟨_, _, _, rfl⟩) (by simp)
  generalize w3.alloc (.cells #[.int .i64 0] 3) = w4 at *
  refine ⟨trivial, (callsIn_wide.2 hwalk).mono ?_⟩
  rintro e w5 ⟨bx, vo, rfl, hbx, hbo, hown, hb5⟩
  have hC5 := (hb5.block w3.heap.size (by omega)).trans hC4
  have hR5 := (hb5.block w.heap.size (by omega)).trans hR4
  have hbw5 : Below w.heap.size w w5 := hbw4.trans (hb5.mono hbw4.size)
  have hd5 := hd4.later hb5
  have hs5 := hb5.size
  clear hwalk hrec3 hrec4 ha hC4 hR4 hbw4 hd4 hd3 hb5 hR3 hbw3
  have hq := run_func_nil
  gi_wp2_with fail
  have hI5 : ShI w w.heap.size w3.heap.size bx w4.heap.size vo v2 w1.heap.size [] w5 := ⟨hC5, hR5, hd5, hown, hbo, hbw5⟩
  have hvo : ∀ ds W, ShI w w.heap.size w3.heap.size bx w4.heap.size vo v2 w1.heap.size ds W → Bs W vo [130, 2, 144, 173, 12, 249, 97, 98] ∧ W.cell? ⟨bx, 0, none⟩ = some vo := fun ds W h => ⟨own_bs h.2.2.2.1, by rw [cell_of_row W bx 0 _ 22 (0, 0) h.2.2.2.2.1]; rfl⟩
  have hvl := hown.lt
  have hnil := own_nilOr hown
  have hbl := (Array.getElem?_eq_some_iff.1 hbo).1
  have HSA := hide hsa
  have hw5 : w.heap.size ≤ w5.heap.size := by omega
  have hw3 : w3.heap.size < bx := by omega
  clear hC5 hR5 hd5 hown hbo hbw5 hq hsa
  apply range_told bx vo [130, 2, 144, 173, 12, 249, 97, 98] rfl rfl hnil (ShI w w.heap.size w3.heap.size bx w4.heap.size vo v2 w1.heap.size) (fun _ _ _ => False) hvo (ShI.own hw5) (fun _ _ _ _ _ h _ _ => h) hI5
  case hassign =>
    intro l k v W K hK
    gi_wp2
    exact hK
  case hbody =>
    intro l ds k v W1 W hl hnc hi hgr ht hz hp
    have hiW := ShI.own (N := w5.heap.size) hw5 ds W1 W (some l) hi hgr (fun r e => by cases e; exact ⟨hl, hnc⟩)
    rcases Rc.told_one Rc.shown_get ht with ⟨rfl, rfl⟩ | ⟨rfl, rfl⟩
    · rw [List.drop_zero, Rc.shown_get] at hp ⊢
      obtain ⟨hC, hR, hpc, how, hbo, hbw⟩ := hiW
      have hcv := conv_bs hp.bs
      have hcc : W.cell? ⟨w3.heap.size, 0, none⟩ = some (.int .i64 0) := by rw [cell_of_row W _ 0 _ 3 (0, 0) hC]; rfl
      have hcf := frozen_of_row W w3.heap.size 0 _ 3 hC
      have H := hide (And.intro hC (And.intro hR (And.intro hpc (And.intro how (And.intro hbo hbw)))))
      clear hC hR hpc how hbo hbw hi hgr hp hnc ht hz
      gi_wp2_with fail
      obtain ⟨hC, hR, hpc, how, hbo, hbw⟩ := H.out
      have hgs := grown_set W w3.heap.size 0 (.int .i64 1)
      refine ⟨KeepsOthers.setCell _ _ _, trivial, ?_, (hgs.block _ (lt_of_block hR) (by simp; omega)).trans hR, hpc.grow hgs (fun g hg e => by have := hv3 g hg; have := Option.some.inj e; omega), how.kept hgs (.inr (fun e => by have := (hvl _ e).1; have := HSA.out; omega)), (hgs.block _ (lt_of_block hbo) (by simp; omega)).trans hbo, hbw.setCell (by show w.heap.size ≤ w3.heap.size; omega) _⟩
      have := heap_setCell_same W w3.heap.size 0 _ 3 (.int .i64 1) hC
      simpa using this
    · exact absurd rfl hz
  case hdone =>
    intro D ds k W hD ht hz hi hdef
    obtain ⟨rfl, rfl⟩ := Rc.told_one_end Rc.shown_get (by simp) ht hz
    obtain ⟨hC, hR, hpc, how, hbo, hbw⟩ := hi
    have hcc : W.cell? ⟨w3.heap.size, 0, none⟩ = some (.int .i64 1) := by rw [cell_of_row W _ 0 _ 3 (0, 0) hC]; rfl
    have hcv := conv_bs hpc.bs
    have hrc : W.cell? ⟨w.heap.size, 0, none⟩ = some (.bool false) := by rw [cell_of_row W _ 0 _ 4 (0, 0) hR]; rfl
    have hrf := frozen_of_row W w.heap.size 0 _ 4 hR
    have HR := hide hR
    have HB := hide hbw
    have HD := hide hdef
    clear hR hC hpc how hbo hbw hdef ht hz
    gi_wp2_with fail
    have hset := heap_setCell_same W w.heap.size 0 _ 4 (.bool true) HR.out
    have hdl := lt_of_block HD.out
    have hK : (W.setCell ⟨w.heap.size, 0, none⟩ (.bool true)).heap[D]? = some (.deferred (some [])) := (heap_setCell_other W ⟨w.heap.size, 0, none⟩ D _ (by simp; omega)).trans HD.out
    refine ⟨by simp, .inl ⟨_, _, rfl, run_takeDeferred hK, ?_⟩⟩
    have hc5 : ((W.setCell ⟨w.heap.size, 0, none⟩ (.bool true)).putObj D (.deferred none)).cell? ⟨w.heap.size, 0, none⟩ = some (.bool true) := by
      rw [cell_of_row _ w.heap.size 0 #[.bool true] 4 (0, 0) ((World.putObj_heap_other (by omega)).trans (by simpa using hset))]
      rfl
    refine ⟨.bool true, ?_, rfl, (HB.out.setCell (Nat.le_refl _) _).grown (grownBy_putObj' _ D _) (by simp; omega) (fun k e => by cases e; omega)⟩
    simp [results, go_sem, hc5]
  case hstop =>
    intro D c ds W _ h _
    exact h.elim
end Go.Proofs.Ytkohlhnkaklnpaa
