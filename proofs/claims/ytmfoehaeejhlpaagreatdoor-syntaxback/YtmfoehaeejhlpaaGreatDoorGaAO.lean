import Derived.Test.YtmfoehaeejhlpaaGreatDoorGaAN
import Derived.Laws.EntriesVeiled
import Derived.Laws.CopyOwn
/-
  The reader: which way a word begins.
-/
namespace Go.Proofs.YtmfoehaeejhlpaaGreatDoor
open Go.RowKit Yn
set_option maxRecDepth 100000
/-- The ways: the word, the op, the function. -/
def wayF : List (ByteArray × Nat × Nat) := [(⟨#[108, 101, 116]⟩, 10, 184), (⟨#[105, 102]⟩, 13, 185), (⟨#[119, 104, 105, 108, 101]⟩, 14, 186), (⟨#[114, 101, 112, 101, 97, 116]⟩, 15, 186), (⟨#[101, 109, 105, 116]⟩, 16, 187), (⟨#[115, 112, 97, 119, 110]⟩, 17, 188), (⟨#[97, 100, 100]⟩, 18, 189), (⟨#[114, 101, 109, 111, 118, 101]⟩, 19, 190), (⟨#[100, 105, 101]⟩, 20, 191), (⟨#[115, 116, 111, 112]⟩, 21, 191), (⟨#[114, 101, 116, 117, 114, 110]⟩, 22, 192)]
def wayAt (i : Nat) : ByteArray × Nat × Nat := wayF.getD i (⟨#[]⟩, 11, 193)
/-- The place of a word's way; eleven if it has none. -/
def wayI (t : ByteArray) : Nat := wayF.findIdx (fun p => decide (p.1 = t))
def wayV (p : ByteArray × Nat × Nat) : Value := .agg #[.string p.1, .int .i64 (p.2.1 : Int), .func (.func p.2.2) #[] #[]]
theorem ix_way (i : Nat) (h : i < 11) (w : World) : (Instr.index 221 (.agg #[.string ⟨#[108, 101, 116]⟩, .int .i64 10, .func (.func 184) #[] #[], .string ⟨#[105, 102]⟩, .int .i64 13, .func (.func 185) #[] #[], .string ⟨#[119, 104, 105, 108, 101]⟩, .int .i64 14, .func (.func 186) #[] #[], .string ⟨#[114, 101, 112, 101, 97, 116]⟩, .int .i64 15, .func (.func 186) #[] #[], .string ⟨#[101, 109, 105, 116]⟩, .int .i64 16, .func (.func 187) #[] #[], .string ⟨#[115, 112, 97, 119, 110]⟩, .int .i64 17, .func (.func 188) #[] #[], .string ⟨#[97, 100, 100]⟩, .int .i64 18, .func (.func 189) #[] #[], .string ⟨#[114, 101, 109, 111, 118, 101]⟩, .int .i64 19, .func (.func 190) #[] #[], .string ⟨#[100, 105, 101]⟩, .int .i64 20, .func (.func 191) #[] #[], .string ⟨#[115, 116, 111, 112]⟩, .int .i64 21, .func (.func 191) #[] #[], .string ⟨#[114, 101, 116, 117, 114, 110]⟩, .int .i64 22, .func (.func 192) #[] #[]]) (.int .i64 (i : Int))).run Tryz.prog w = .ok (.agg #[.string (wayAt i).1, .int .i64 ((wayAt i).2.1 : Int), .func (.func (wayAt i).2.2) #[] #[]]) w := by
  obtain rfl | rfl | rfl | rfl | rfl | rfl | rfl | rfl | rfl | rfl | rfl : i = 0 ∨ i = 1 ∨ i = 2 ∨ i = 3 ∨ i = 4 ∨ i = 5 ∨ i = 6 ∨ i = 7 ∨ i = 8 ∨ i = 9 ∨ i = 10 := by omega
  all_goals kernel_rfl
theorem und215 : (Tryz.prog.underlying 215).map (fun d => match d with | .struct _ | .array _ _ => true | _ => false) = some true := by kernel_rfl
theorem res_way {fn : Func} {p : Tmp} (hr : fn.results = #[.cell p 215]) {tmps : Array Value} {W : World} {g : Nat} {x : ByteArray} {o f : Nat} (hp : tmps.getD p undef = .pointer (some ⟨g, 0, none⟩)) (hg : W.heap[g]? = some (.cells #[.string x, .int .i64 (o : Int), .func (.func f) #[] #[]] 215 (0, 0))) : (results fn tmps).run Tryz.prog W = .ok (wayV (x, o, f)) W := by
  obtain ⟨d, hu, hd⟩ := Option.map_eq_some_iff.1 und215
  exact results_cell_row hr tmps W g 215 _ (0, 0) d hp hg hu (by cases d <;> first | rfl | cases hd) (by kernel_rfl)
theorem way_get {i : Nat} (h : i < 11) : ∃ h2 : i < wayF.length, wayAt i = wayF[i] := by
  have h2 : i < wayF.length := h
  refine ⟨h2, ?_⟩
  unfold wayAt
  rw [List.getD_eq_getElem?_getD, List.getElem?_eq_getElem h2, Option.getD_some]
theorem way_at {i : Nat} {t : ByteArray} (h : i < 11) (hx : (wayAt i).1 = t) (hi : i ≤ wayI t) : wayI t = i := by
  obtain ⟨h2, e⟩ := way_get h
  refine Nat.le_antisymm ?_ hi
  unfold wayI
  refine Nat.le_of_not_lt (fun hlt => ?_)
  have := List.not_of_lt_findIdx hlt
  rw [← e] at this
  rw [decide_eq_false_iff_not] at this
  exact this hx
theorem way_next {i : Nat} {t : ByteArray} (h : i < 11) (hx : ¬ (wayAt i).1 = t) (hi : i ≤ wayI t) : i + 1 ≤ wayI t := by
  obtain ⟨h2, e⟩ := way_get h
  rcases Nat.lt_or_ge i (wayI t) with c | c
  · exact c
  · exfalso
    have ei : wayI t = i := Nat.le_antisymm c hi
    have hl : wayF.findIdx (fun p => decide (p.1 = t)) < wayF.length := by
      have : wayF.findIdx (fun p => decide (p.1 = t)) = i := ei
      omega
    have := List.findIdx_getElem (w := hl)
    have e3 : wayF[wayF.findIdx (fun p => decide (p.1 = t))] = wayF[i] := by
      congr 1
    rw [e3, ← e] at this
    exact hx (of_decide_eq_true this)
theorem way_none {t : ByteArray} (h : 11 ≤ wayI t) : wayI t = 11 := Nat.le_antisymm (List.findIdx_le_length (xs := wayF)) h
set_option maxHeartbeats 4000000 in
theorem wayOf_any (t : ByteArray) (W : World) : Calls Tryz.prog 179 #[.string t] W fun e W' => e = .returned (wayV (wayAt (wayI t))) ∧ Below W.heap.size W W' := by
  obtain ⟨w0, hw0⟩ : ∃ X, X = W.alloc (.cells #[.string ⟨#[]⟩, .int .i64 0, .nilFunc] 215) := ⟨_, rfl⟩
  have B0 : Hid (Below W.heap.size W w0) := hw0 ▸ below_alloc W _
  have G0 : Hid (w0.heap[W.heap.size]? = some (.cells #[.string ⟨#[]⟩, .int .i64 0, .nilFunc] 215 (0, 0))) := hw0 ▸ heap_alloc_new W _
  have HW := hide hw0
  clear hw0
  go_enter Tryz.func179, Tryz.ntmps179
  go_wp2_with fail
  rw [← HW.out]
  clear HW
  go_loopw [17] (fun v17 Wr => ∃ i : Nat, i ≤ 11 ∧ v17 = .int .i64 (i : Int) ∧ Hid (i ≤ wayI t) ∧ Hid (Below W.heap.size W Wr) ∧ Hid (Wr.heap[W.heap.size]? = some (.cells #[.string ⟨#[]⟩, .int .i64 0, .nilFunc] 215 (0, 0)))) (fun v17 _ => 11 - (intOf v17).toNat)
  case atStart => exact ⟨0, Nat.zero_le _, rfl, Nat.zero_le _, B0, G0⟩
  case round =>
    clear B0 G0
    obtain ⟨i, hil, rfl, HN, HB, HG⟩ := hrel
    by_cases hlt : i < 11
    · have t1 : (i : Int) < 11 := by omega
      have hix := ix_way i hlt
      have hG2 := HB.out.size
      have hgl := lt_of_block HG.out
      by_cases hx : (wayAt i).1 = t
      · have hx2 : ((wayAt i).1.toList == t.toList) = true := by rw [beq_list]; exact decide_eq_true hx
        have hI : wayI t = i := way_at hlt hx HN.out
        have HII := hide hI
        have b0 := HB.out
        have h0 := HG.out
        have q0 : (wr).cell? ⟨W.heap.size, 0, none⟩ = some (.string ⟨#[]⟩) := by rw [cell_of_row _ W.heap.size _ _ 215 (0, 0) h0]; rfl
        have e0 : (wr).frozen? ⟨W.heap.size, 0, none⟩ = false := frozen_of_row _ W.heap.size 0 _ 215 h0
        have h1 := heap_setCell_same (wr) W.heap.size 0 _ 215 (.string (wayAt i).1) h0
        have b1 : Below W.heap.size W ((wr).setCell ⟨W.heap.size, 0, none⟩ (.string (wayAt i).1)) := b0.grown (grown_set _ _ _ _) b0.size (fun q e => by cases e; exact Nat.le_refl _)
        have q1 : ((wr).setCell ⟨W.heap.size, 0, none⟩ (.string (wayAt i).1)).cell? ⟨W.heap.size, 1, none⟩ = some (.int .i64 0) := by rw [cell_of_row _ W.heap.size _ _ 215 (0, 0) h1]; rfl
        have e1 : ((wr).setCell ⟨W.heap.size, 0, none⟩ (.string (wayAt i).1)).frozen? ⟨W.heap.size, 1, none⟩ = false := frozen_of_row _ W.heap.size 1 _ 215 h1
        have h2 := heap_setCell_same ((wr).setCell ⟨W.heap.size, 0, none⟩ (.string (wayAt i).1)) W.heap.size 1 _ 215 (.int .i64 ((wayAt i).2.1 : Int)) h1
        have b2 : Below W.heap.size W (((wr).setCell ⟨W.heap.size, 0, none⟩ (.string (wayAt i).1)).setCell ⟨W.heap.size, 1, none⟩ (.int .i64 ((wayAt i).2.1 : Int))) := b1.grown (grown_set _ _ _ _) b1.size (fun q e => by cases e; exact Nat.le_refl _)
        have q2 : (((wr).setCell ⟨W.heap.size, 0, none⟩ (.string (wayAt i).1)).setCell ⟨W.heap.size, 1, none⟩ (.int .i64 ((wayAt i).2.1 : Int))).cell? ⟨W.heap.size, 2, none⟩ = some (.nilFunc) := by rw [cell_of_row _ W.heap.size _ _ 215 (0, 0) h2]; rfl
        have e2 : (((wr).setCell ⟨W.heap.size, 0, none⟩ (.string (wayAt i).1)).setCell ⟨W.heap.size, 1, none⟩ (.int .i64 ((wayAt i).2.1 : Int))).frozen? ⟨W.heap.size, 2, none⟩ = false := frozen_of_row _ W.heap.size 2 _ 215 h2
        have h3 := heap_setCell_same (((wr).setCell ⟨W.heap.size, 0, none⟩ (.string (wayAt i).1)).setCell ⟨W.heap.size, 1, none⟩ (.int .i64 ((wayAt i).2.1 : Int))) W.heap.size 2 _ 215 (.func (.func (wayAt i).2.2) #[] #[]) h2
        have b3 : Below W.heap.size W ((((wr).setCell ⟨W.heap.size, 0, none⟩ (.string (wayAt i).1)).setCell ⟨W.heap.size, 1, none⟩ (.int .i64 ((wayAt i).2.1 : Int))).setCell ⟨W.heap.size, 2, none⟩ (.func (.func (wayAt i).2.2) #[] #[])) := b2.grown (grown_set _ _ _ _) b2.size (fun q e => by cases e; exact Nat.le_refl _)
        have HB2 := hide (b3.alloc b3.size (.cells #[.string (wayAt i).1, .int .i64 ((wayAt i).2.1 : Int), .func (.func (wayAt i).2.2) #[] #[]] 215))
        have H3 := hide (((below_alloc _ (.cells #[.string (wayAt i).1, .int .i64 ((wayAt i).2.1 : Int), .func (.func (wayAt i).2.2) #[] #[]] 215)).block _ (lt_of_block h3)).trans h3)
        clear hx hI b0 b1 b2 b3 h0 h1 h2 h3
        go_wp2_with fail
        try simp only [Exit.inBlock, Exit.then]
        refine bodyPost_ret (v := wayV (wayAt i)) ?_ rfl ⟨by rw [HII.out], HB2.out⟩
        exact res_way (x := (wayAt i).1) (o := (wayAt i).2.1) (f := (wayAt i).2.2) rfl rfl H3.out
      · have hx2 : ((wayAt i).1.toList == t.toList) = false := by rw [beq_list]; exact decide_eq_false hx
        have HI := hide (way_next hlt hx HN.out)
        clear hx
        go_wp2_with fail
        refine ⟨⟨i + 1, by omega, by go_num, HI, HB.out.alloc HB.out.size _, ((below_alloc wr _).block _ hgl).trans HG.out⟩, ?_⟩
        simp [intOf]
        omega
    · obtain rfl : i = 11 := by omega
      have hI : wayI t = 11 := way_none HN.out
      have hgl := lt_of_block HG.out
      have HII := hide hI
      have b0 := HB.out
      have h0 := HG.out
      have q0 : (wr).cell? ⟨W.heap.size, 0, none⟩ = some (.string ⟨#[]⟩) := by rw [cell_of_row _ W.heap.size _ _ 215 (0, 0) h0]; rfl
      have e0 : (wr).frozen? ⟨W.heap.size, 0, none⟩ = false := frozen_of_row _ W.heap.size 0 _ 215 h0
      have h1 := heap_setCell_same (wr) W.heap.size 0 _ 215 (.string ⟨#[]⟩) h0
      have b1 : Below W.heap.size W ((wr).setCell ⟨W.heap.size, 0, none⟩ (.string ⟨#[]⟩)) := b0.grown (grown_set _ _ _ _) b0.size (fun q e => by cases e; exact Nat.le_refl _)
      have q1 : ((wr).setCell ⟨W.heap.size, 0, none⟩ (.string ⟨#[]⟩)).cell? ⟨W.heap.size, 1, none⟩ = some (.int .i64 0) := by rw [cell_of_row _ W.heap.size _ _ 215 (0, 0) h1]; rfl
      have e1 : ((wr).setCell ⟨W.heap.size, 0, none⟩ (.string ⟨#[]⟩)).frozen? ⟨W.heap.size, 1, none⟩ = false := frozen_of_row _ W.heap.size 1 _ 215 h1
      have h2 := heap_setCell_same ((wr).setCell ⟨W.heap.size, 0, none⟩ (.string ⟨#[]⟩)) W.heap.size 1 _ 215 (.int .i64 11) h1
      have b2 : Below W.heap.size W (((wr).setCell ⟨W.heap.size, 0, none⟩ (.string ⟨#[]⟩)).setCell ⟨W.heap.size, 1, none⟩ (.int .i64 11)) := b1.grown (grown_set _ _ _ _) b1.size (fun q e => by cases e; exact Nat.le_refl _)
      have q2 : (((wr).setCell ⟨W.heap.size, 0, none⟩ (.string ⟨#[]⟩)).setCell ⟨W.heap.size, 1, none⟩ (.int .i64 11)).cell? ⟨W.heap.size, 2, none⟩ = some (.nilFunc) := by rw [cell_of_row _ W.heap.size _ _ 215 (0, 0) h2]; rfl
      have e2 : (((wr).setCell ⟨W.heap.size, 0, none⟩ (.string ⟨#[]⟩)).setCell ⟨W.heap.size, 1, none⟩ (.int .i64 11)).frozen? ⟨W.heap.size, 2, none⟩ = false := frozen_of_row _ W.heap.size 2 _ 215 h2
      have h3 := heap_setCell_same (((wr).setCell ⟨W.heap.size, 0, none⟩ (.string ⟨#[]⟩)).setCell ⟨W.heap.size, 1, none⟩ (.int .i64 11)) W.heap.size 2 _ 215 (.func (.func 193) #[] #[]) h2
      have b3 : Below W.heap.size W ((((wr).setCell ⟨W.heap.size, 0, none⟩ (.string ⟨#[]⟩)).setCell ⟨W.heap.size, 1, none⟩ (.int .i64 11)).setCell ⟨W.heap.size, 2, none⟩ (.func (.func 193) #[] #[])) := b2.grown (grown_set _ _ _ _) b2.size (fun q e => by cases e; exact Nat.le_refl _)
      have HB2 := hide b3
      have H3 := hide h3
      clear hI b0 b1 b2 b3 h0 h1 h2 h3
      go_wp2_with fail
      try simp only [Exit.inBlock, Exit.then]
      refine bodyPost_ret (v := wayV (wayAt 11)) ?_ rfl ⟨by rw [HII.out], HB2.out⟩
      exact res_way (x := ⟨#[]⟩) (o := 11) (f := 193) rfl rfl H3.out
end Go.Proofs.YtmfoehaeejhlpaaGreatDoor

/-
  The reader: statements.
-/
namespace Go.Proofs.YtmfoehaeejhlpaaGreatDoor
open Go.RowKit Yn
set_option maxRecDepth 100000
theorem Rd.up {W : World} {B k : Nat} {ws : List ByteArray} {s : S} (h : Rd W B k ws s) (hst : s.st ≠ 200) : Rd (W.setCell ⟨k, 4, none⟩ (.int .i64 ((s.st + 1 : Nat) : Int))) B k ws (Yn.up s) ∧ Mv W (W.setCell ⟨k, 4, none⟩ (.int .i64 ((s.st + 1 : Nat) : Int))) (fun j => j = k) := h.setSt (s.st + 1) (by have := h.2.1.2.2.1; omega)
section
variable {W : World} {B k : Nat} {ws : List ByteArray} {s : S} {f o : Nat} {x : ByteArray} {r : R Tree}
set_option maxHeartbeats 8000000 in
theorem stmt_word_any (hx : x ≠ bs []) (hi : wayAt (wayI (hd s).t) = (x, o, f)) (htx : (hd s).t = x) (hst : s.st ≠ 200) (hR : Rd W B k ws s) (hne : r ≠ .out) (hcf : ∀ xs w, (callFunc f xs).run Tryz.prog w = .ok (.enter f xs) w)
    (hway : ∀ W1 g, Mv W W1 (fun j => j = k) → Rd W1 B k ws (nx (Yn.up s)) → Np W.heap.size W1 g o (bs []) 0 [] (hd s).a → Calls Tryz.prog f #[.pointer (some ⟨k, 0, none⟩), .pointer (some ⟨g, 0, none⟩)] W1 (Out (isNode W.heap.size g) W B k ws r)) :
    Calls Tryz.prog 163 #[.pointer (some ⟨k, 0, none⟩)] W (Out (isTree W) W B k ws r) := by
  have H := hide hR
  have hk0 := hR.lt
  have HWY := hide hway
  have HNE := hide hne
  have HTX := hide htx
  have HX := hide hx
  have hx2 : x.toList.isEmpty = false := by
    rw [Bool.eq_false_iff]
    intro e
    rw [List.isEmpty_iff, ByteArray.toList_eq] at e
    exact hx (text_inj e)
  have f1 := fld1
  have JN := hide (now_any hR)
  unfold tokV at JN
  have HI := hide hi
  clear hR hway hne htx hi hx
  go_enter Tryz.func163, Tryz.ntmps163
  go_wp2_with fail
  refine JN.out.mono ?_
  rintro e w1 ⟨rfl, hb1⟩
  have R1 := hide (H.out.later hb1)
  have M1 := hide (Mv.of_below hb1 (fun j => j = k))
  have JW := hide (wayOf_any (hd s).t w1)
  rw [HI.out] at JW
  unfold wayV at JW
  clear hb1 JN
  go_wp2_with fail
  refine JW.out.mono ?_
  rintro e w2 ⟨rfl, hb2⟩
  have R2 := hide (R1.out.later hb2)
  have M2 := hide (M1.out.later hb2)
  clear hb2 JW R1 M1
  obtain ⟨w3, hw3⟩ : ∃ X, X = w2.alloc (.cells #[.string x, .int .i64 (o : Int), .func (.func f) #[] #[]] 215) := ⟨_, rfl⟩
  have b3 : Below w2.heap.size w2 w3 := hw3 ▸ below_alloc w2 _
  have G3 : Hid (w3.heap[w2.heap.size]? = some (.cells #[.string x, .int .i64 (o : Int), .func (.func f) #[] #[]] 215 (0, 0))) := hw3 ▸ heap_alloc_new w2 _
  have R3 := hide (R2.out.later b3)
  have M3 := hide (M2.out.later b3)
  have hz2 := M2.out.size
  have HW3 := hide hw3
  clear hw3 b3 R2 M2
  go_upto_region 4 with fail
  rw [← HW3.out]
  clear HW3
  obtain ⟨g3, hg3⟩ : ∃ q, q = w2.heap.size := ⟨_, rfl⟩
  rw [← hg3] at G3 ⊢
  have hg3k : k < g3 := by omega
  clear hg3
  go_wp2_with fail
  have JC := hide (count_any R3.out ⟨k, 4, none⟩ s.st 200 R3.out.cells.1.2.2.1 (R3.out.cells.2 4) (by have := R3.out.2.1.2.2.1; omega) rfl)
  simp only [if_neg hst] at JC
  refine JC.out.mono ?_
  rintro e _ ⟨rfl, rfl⟩
  have hu := R3.out.up hst
  have R4 := hide hu.1
  have M4 := hide (M3.out.trans hu.2 (fun _ _ e => e))
  have G4 := hide (hu.2.at G3.out (fun (e : g3 = k) => by omega))
  obtain ⟨w4, hw4⟩ : ∃ X, X = w3.setCell ⟨k, 4, none⟩ (.int .i64 ((s.st + 1 : Nat) : Int)) := ⟨_, rfl⟩
  rw [← hw4] at R4 M4 G4 ⊢
  have c4 : w4.cell? ⟨g3, 1, none⟩ = some (.int .i64 (o : Int)) := by rw [cell_of_row w4 g3 _ _ 215 (0, 0) G4.out]; rfl
  clear hu hw4 JC R3 M3 G3
  go_wp2_with fail
  refine (node_any R4.out o).mono ?_
  rintro e w5 ⟨g, rfl, hg, hg5, hb5⟩
  have hg5' : w5.heap[g]? = some (.cells #[.int .i64 (o : Int), .string (bs []), .int .i64 0, .slice none 0 0, .int .i64 ((hd s).a : Int)] 51 (0, 0)) := hg5
  have hz4 := M4.out.size
  have N5 := hide (Np.fresh (lo := W.heap.size) (by omega) hg5')
  have R5 := hide (R4.out.later hb5)
  have M5 := hide (M4.out.later hb5)
  have G5 := hide ((hb5.block g3 (lt_of_block G4.out)).trans G4.out)
  have c5 : w5.cell? ⟨g3, 0, none⟩ = some (.string x) := by rw [cell_of_row w5 g3 _ _ 215 (0, 0) G5.out]; rfl
  clear hg5 hg5' hb5 c4 R4 M4 G4
  go_wp2_with fail
  have ET : take x (Yn.up s) = .ok (hd s) (nx (Yn.up s)) := by
    unfold take isAt
    rw [if_pos (decide_eq_true (show (hd (Yn.up s)).t = x from HTX.out))]
    rfl
  have JT := hide (take_any R5.out x HX.out)
  rw [ET] at JT
  refine JT.out.mono ?_
  rintro e w6 ⟨v6, rfl, hv6, hR6, hm6⟩
  obtain rfl := hv6
  have R6 := hide hR6
  have M6 := hide (M5.out.trans hm6 (fun _ _ e => e))
  have N6 := hide (N5.out.mvk hm6 hk0)
  have G6 := hide (hm6.at G5.out (fun (e : g3 = k) => by omega))
  have c6 : w6.cell? ⟨g3, 2, none⟩ = some (.func (.func f) #[] #[]) := by rw [cell_of_row w6 g3 _ _ 215 (0, 0) G6.out]; rfl
  unfold tokV
  clear hR6 hm6 JT ET c5 R5 M5 N5 G5
  go_wp2_with fail
  have JY := hide (HWY.out w6 g M6.out R6.out N6.out)
  refine JY.out.mono ?_
  intro e w7 ho
  cases hr : r with
  | out => exact absurd hr HNE.out
  | no a er =>
    rw [hr] at ho
    have hp2 := ho
    obtain ⟨q, hq1, -⟩ := ho
    subst hq1
    subst hr
    exact ⟨rfl, hp2⟩
  | ok T s7 =>
    rw [hr] at ho
    obtain ⟨v7, rfl, ⟨hv7, hn7⟩, hR7, hM7⟩ := ho
    subst hv7
    have N7 : Hid (Nd (fun q => W.heap.size ≤ q) w7 T (.pointer (some ⟨g, 0, none⟩))) := by
      cases T
      exact Np.done hn7
    have R7 := hide hR7
    have M7 := hide hM7
    have HR := hide hr
    clear hn7 hR7 hM7 hr JY c6
    go_wp2_with fail
    go_ret
    have hr := HR.out
    subst hr
    exact ⟨_, rfl, N7.out, R7.out, M7.out⟩
set_option maxHeartbeats 8000000 in
theorem stmt_name_any (hi : wayAt (wayI (hd s).t) = (bs [], o, f)) (hn : isName ws s = true) (hst : s.st ≠ 200) (hR : Rd W B k ws s) (hne : r ≠ .out) (hcf : ∀ xs w, (callFunc f xs).run Tryz.prog w = .ok (.enter f xs) w)
    (hway : ∀ W1 g, Mv W W1 (fun j => j = k) → Rd W1 B k ws (Yn.up s) → Np W.heap.size W1 g o (bs []) 0 [] (hd s).a → Calls Tryz.prog f #[.pointer (some ⟨k, 0, none⟩), .pointer (some ⟨g, 0, none⟩)] W1 (Out (isNode W.heap.size g) W B k ws r)) :
    Calls Tryz.prog 163 #[.pointer (some ⟨k, 0, none⟩)] W (Out (isTree W) W B k ws r) := by
  have H := hide hR
  have hk0 := hR.lt
  have HWY := hide hway
  have HNE := hide hne
  have hx2 : (bs []).toList.isEmpty = true := by rw [ByteArray.toList_eq]; rfl
  have f1 := fld1
  have JN := hide (now_any hR)
  unfold tokV at JN
  have HI := hide hi
  have HN := hide hn
  clear hR hway hne hi hn
  go_enter Tryz.func163, Tryz.ntmps163
  go_wp2_with fail
  refine JN.out.mono ?_
  rintro e w1 ⟨rfl, hb1⟩
  have R1 := hide (H.out.later hb1)
  have M1 := hide (Mv.of_below hb1 (fun j => j = k))
  have JW := hide (wayOf_any (hd s).t w1)
  rw [HI.out] at JW
  unfold wayV at JW
  clear hb1 JN
  go_wp2_with fail
  refine JW.out.mono ?_
  rintro e w2 ⟨rfl, hb2⟩
  have R2 := hide (R1.out.later hb2)
  have M2 := hide (M1.out.later hb2)
  clear hb2 JW R1 M1
  obtain ⟨w3, hw3⟩ : ∃ X, X = w2.alloc (.cells #[.string (bs []), .int .i64 (o : Int), .func (.func f) #[] #[]] 215) := ⟨_, rfl⟩
  have b3 : Below w2.heap.size w2 w3 := hw3 ▸ below_alloc w2 _
  have G3 : Hid (w3.heap[w2.heap.size]? = some (.cells #[.string (bs []), .int .i64 (o : Int), .func (.func f) #[] #[]] 215 (0, 0))) := hw3 ▸ heap_alloc_new w2 _
  have R3 := hide (R2.out.later b3)
  have M3 := hide (M2.out.later b3)
  have hz2 := M2.out.size
  have HW3 := hide hw3
  clear hw3 b3 R2 M2
  go_wp2_with fail
  rw [← HW3.out]
  have JQ := hide (needName_any R3.out)
  unfold needName at JQ
  rw [HN.out] at JQ
  refine JQ.out.mono ?_
  rintro e w3p ⟨v3, rfl, hv3, hR3, hm3⟩
  obtain rfl := hv3
  obtain ⟨g3, hg3⟩ : ∃ q, q = w2.heap.size := ⟨_, rfl⟩
  rw [← hg3] at G3 ⊢
  have hg3k : k < g3 := by omega
  have R3p := hide hR3
  have M3p := hide (M3.out.trans hm3 (fun _ _ e => e))
  have G3p := hide (hm3.at G3.out (fun (e : g3 = k) => by omega))
  clear HW3 hg3 R3 M3 G3 hR3 hm3 JQ
  go_wp2_with fail
  have JC := hide (count_any R3p.out ⟨k, 4, none⟩ s.st 200 R3p.out.cells.1.2.2.1 (R3p.out.cells.2 4) (by have := R3p.out.2.1.2.2.1; omega) rfl)
  simp only [if_neg hst] at JC
  refine JC.out.mono ?_
  rintro e _ ⟨rfl, rfl⟩
  have hu := R3p.out.up hst
  have R4 := hide hu.1
  have M4 := hide (M3p.out.trans hu.2 (fun _ _ e => e))
  have G4 := hide (hu.2.at G3p.out (fun (e : g3 = k) => by omega))
  obtain ⟨w4, hw4⟩ : ∃ X, X = w3p.setCell ⟨k, 4, none⟩ (.int .i64 ((s.st + 1 : Nat) : Int)) := ⟨_, rfl⟩
  rw [← hw4] at R4 M4 G4 ⊢
  have c4 : w4.cell? ⟨g3, 1, none⟩ = some (.int .i64 (o : Int)) := by rw [cell_of_row w4 g3 _ _ 215 (0, 0) G4.out]; rfl
  clear hu hw4 JC R3p M3p G3p
  go_wp2_with fail
  refine (node_any R4.out o).mono ?_
  rintro e w5 ⟨g, rfl, hg, hg5, hb5⟩
  have hg5' : w5.heap[g]? = some (.cells #[.int .i64 (o : Int), .string (bs []), .int .i64 0, .slice none 0 0, .int .i64 ((hd s).a : Int)] 51 (0, 0)) := hg5
  have hz4 := M4.out.size
  have N5 := hide (Np.fresh (lo := W.heap.size) (by omega) hg5')
  have R5 := hide (R4.out.later hb5)
  have M5 := hide (M4.out.later hb5)
  have G5 := hide ((hb5.block g3 (lt_of_block G4.out)).trans G4.out)
  have c5 : w5.cell? ⟨g3, 0, none⟩ = some (.string (bs [])) := by rw [cell_of_row w5 g3 _ _ 215 (0, 0) G5.out]; rfl
  clear hg5 hg5' hb5 c4 R4 M4 G4
  have c6 : w5.cell? ⟨g3, 2, none⟩ = some (.func (.func f) #[] #[]) := by rw [cell_of_row w5 g3 _ _ 215 (0, 0) G5.out]; rfl
  go_wp2_with fail
  have JY := hide (HWY.out w5 g M5.out R5.out N5.out)
  refine JY.out.mono ?_
  intro e w7 ho
  cases hr : r with
  | out => exact absurd hr HNE.out
  | no a er =>
    rw [hr] at ho
    have hp2 := ho
    obtain ⟨q, hq1, -⟩ := ho
    subst hq1
    subst hr
    exact ⟨rfl, hp2⟩
  | ok T s7 =>
    rw [hr] at ho
    obtain ⟨v7, rfl, ⟨hv7, hn7⟩, hR7, hM7⟩ := ho
    subst hv7
    have N7 : Hid (Nd (fun q => W.heap.size ≤ q) w7 T (.pointer (some ⟨g, 0, none⟩))) := by
      cases T
      exact Np.done hn7
    have R7 := hide hR7
    have M7 := hide hM7
    have HR := hide hr
    clear hn7 hR7 hM7 hr JY c6
    go_wp2_with fail
    go_ret
    have hr := HR.out
    subst hr
    exact ⟨_, rfl, N7.out, R7.out, M7.out⟩
end
end Go.Proofs.YtmfoehaeejhlpaaGreatDoor

/-
  The reader: statements, whole.
-/
namespace Go.Proofs.YtmfoehaeejhlpaaGreatDoor
open Go.RowKit Yn
set_option maxRecDepth 100000
section
variable {W : World} {B k : Nat} {ws : List ByteArray} {s : S} {f o : Nat} {x : ByteArray}
set_option maxHeartbeats 8000000 in
theorem stmt_word_full (hx : x ≠ bs []) (hi : wayAt (wayI (hd s).t) = (x, o, f)) (hst : s.st = 200) (hR : Rd W B k ws s) :
    Calls Tryz.prog 163 #[.pointer (some ⟨k, 0, none⟩)] W (Out (isTree W) W B k ws (Yn.fail s 102)) := by
  have H := hide hR
  have hk0 := hR.lt
  have hx2 : x.toList.isEmpty = false := by
    rw [Bool.eq_false_iff]
    intro e
    rw [List.isEmpty_iff, ByteArray.toList_eq] at e
    exact hx (text_inj e)
  have f1 := fld1
  have JN := hide (now_any hR)
  unfold tokV at JN
  have HI := hide hi
  clear hR hi hx
  go_enter Tryz.func163, Tryz.ntmps163
  go_wp2_with fail
  refine JN.out.mono ?_
  rintro e w1 ⟨rfl, hb1⟩
  have R1 := hide (H.out.later hb1)
  have M1 := hide (Mv.of_below hb1 (fun j => j = k))
  have JW := hide (wayOf_any (hd s).t w1)
  rw [HI.out] at JW
  unfold wayV at JW
  clear hb1 JN
  go_wp2_with fail
  refine JW.out.mono ?_
  rintro e w2 ⟨rfl, hb2⟩
  have R2 := hide (R1.out.later hb2)
  have M2 := hide (M1.out.later hb2)
  clear hb2 JW R1 M1
  obtain ⟨w3, hw3⟩ : ∃ X, X = w2.alloc (.cells #[.string x, .int .i64 (o : Int), .func (.func f) #[] #[]] 215) := ⟨_, rfl⟩
  have b3 : Below w2.heap.size w2 w3 := hw3 ▸ below_alloc w2 _
  have G3 : Hid (w3.heap[w2.heap.size]? = some (.cells #[.string x, .int .i64 (o : Int), .func (.func f) #[] #[]] 215 (0, 0))) := hw3 ▸ heap_alloc_new w2 _
  have R3 := hide (R2.out.later b3)
  have M3 := hide (M2.out.later b3)
  have hz2 := M2.out.size
  have HW3 := hide hw3
  clear hw3 b3 R2 M2
  go_upto_region 4 with fail
  rw [← HW3.out]
  clear HW3
  obtain ⟨g3, hg3⟩ : ∃ q, q = w2.heap.size := ⟨_, rfl⟩
  rw [← hg3] at G3 ⊢
  have hg3k : k < g3 := by omega
  clear hg3
  go_wp2_with fail
  have JC := hide (count_any R3.out ⟨k, 4, none⟩ s.st 200 R3.out.cells.1.2.2.1 (R3.out.cells.2 4) (by have := R3.out.2.1.2.2.1; omega) rfl)
  simp only [if_pos hst] at JC
  refine JC.out.mono ?_
  rintro e w4 hp
  have hp2 := Pn.from hp M3.out
  obtain ⟨q, rfl, -⟩ := hp
  exact ⟨rfl, hp2⟩
set_option maxHeartbeats 8000000 in
theorem stmt_full_any (hi : wayAt (wayI (hd s).t) = (bs [], o, f)) (hn : isName ws s = true) (hst : s.st = 200) (hR : Rd W B k ws s) :
    Calls Tryz.prog 163 #[.pointer (some ⟨k, 0, none⟩)] W (Out (isTree W) W B k ws (Yn.fail s 102)) := by
  have H := hide hR
  have hk0 := hR.lt
  have hx2 : (bs []).toList.isEmpty = true := by rw [ByteArray.toList_eq]; rfl
  have f1 := fld1
  have JN := hide (now_any hR)
  unfold tokV at JN
  have HI := hide hi
  have HN := hide hn
  clear hR hi hn
  go_enter Tryz.func163, Tryz.ntmps163
  go_wp2_with fail
  refine JN.out.mono ?_
  rintro e w1 ⟨rfl, hb1⟩
  have R1 := hide (H.out.later hb1)
  have M1 := hide (Mv.of_below hb1 (fun j => j = k))
  have JW := hide (wayOf_any (hd s).t w1)
  rw [HI.out] at JW
  unfold wayV at JW
  clear hb1 JN
  go_wp2_with fail
  refine JW.out.mono ?_
  rintro e w2 ⟨rfl, hb2⟩
  have R2 := hide (R1.out.later hb2)
  have M2 := hide (M1.out.later hb2)
  clear hb2 JW R1 M1
  obtain ⟨w3, hw3⟩ : ∃ X, X = w2.alloc (.cells #[.string (bs []), .int .i64 (o : Int), .func (.func f) #[] #[]] 215) := ⟨_, rfl⟩
  have b3 : Below w2.heap.size w2 w3 := hw3 ▸ below_alloc w2 _
  have G3 : Hid (w3.heap[w2.heap.size]? = some (.cells #[.string (bs []), .int .i64 (o : Int), .func (.func f) #[] #[]] 215 (0, 0))) := hw3 ▸ heap_alloc_new w2 _
  have R3 := hide (R2.out.later b3)
  have M3 := hide (M2.out.later b3)
  have hz2 := M2.out.size
  have HW3 := hide hw3
  clear hw3 b3 R2 M2
  go_wp2_with fail
  rw [← HW3.out]
  have JQ := hide (needName_any R3.out)
  unfold needName at JQ
  rw [HN.out] at JQ
  refine JQ.out.mono ?_
  rintro e w3p ⟨v3, rfl, hv3, hR3, hm3⟩
  obtain rfl := hv3
  obtain ⟨g3, hg3⟩ : ∃ q, q = w2.heap.size := ⟨_, rfl⟩
  rw [← hg3] at G3 ⊢
  have hg3k : k < g3 := by omega
  have R3p := hide hR3
  have M3p := hide (M3.out.trans hm3 (fun _ _ e => e))
  have G3p := hide (hm3.at G3.out (fun (e : g3 = k) => by omega))
  clear HW3 hg3 R3 M3 G3 hR3 hm3 JQ
  go_wp2_with fail
  have JC := hide (count_any R3p.out ⟨k, 4, none⟩ s.st 200 R3p.out.cells.1.2.2.1 (R3p.out.cells.2 4) (by have := R3p.out.2.1.2.2.1; omega) rfl)
  simp only [if_pos hst] at JC
  refine JC.out.mono ?_
  rintro e w4 hp
  have hp2 := Pn.from hp M3p.out
  obtain ⟨q, rfl, -⟩ := hp
  exact ⟨rfl, hp2⟩
set_option maxHeartbeats 8000000 in
theorem stmt_none_any (hi : wayAt (wayI (hd s).t) = (bs [], o, f)) (hn : isName ws s = false)  (hR : Rd W B k ws s) :
    Calls Tryz.prog 163 #[.pointer (some ⟨k, 0, none⟩)] W (Out (isTree W) W B k ws (Yn.fail s 100)) := by
  have H := hide hR
  have hk0 := hR.lt
  have hx2 : (bs []).toList.isEmpty = true := by rw [ByteArray.toList_eq]; rfl
  have f1 := fld1
  have JN := hide (now_any hR)
  unfold tokV at JN
  have HI := hide hi
  have HN := hide hn
  clear hR hi hn
  go_enter Tryz.func163, Tryz.ntmps163
  go_wp2_with fail
  refine JN.out.mono ?_
  rintro e w1 ⟨rfl, hb1⟩
  have R1 := hide (H.out.later hb1)
  have M1 := hide (Mv.of_below hb1 (fun j => j = k))
  have JW := hide (wayOf_any (hd s).t w1)
  rw [HI.out] at JW
  unfold wayV at JW
  clear hb1 JN
  go_wp2_with fail
  refine JW.out.mono ?_
  rintro e w2 ⟨rfl, hb2⟩
  have R2 := hide (R1.out.later hb2)
  have M2 := hide (M1.out.later hb2)
  clear hb2 JW R1 M1
  obtain ⟨w3, hw3⟩ : ∃ X, X = w2.alloc (.cells #[.string (bs []), .int .i64 (o : Int), .func (.func f) #[] #[]] 215) := ⟨_, rfl⟩
  have b3 : Below w2.heap.size w2 w3 := hw3 ▸ below_alloc w2 _
  have G3 : Hid (w3.heap[w2.heap.size]? = some (.cells #[.string (bs []), .int .i64 (o : Int), .func (.func f) #[] #[]] 215 (0, 0))) := hw3 ▸ heap_alloc_new w2 _
  have R3 := hide (R2.out.later b3)
  have M3 := hide (M2.out.later b3)
  have hz2 := M2.out.size
  have HW3 := hide hw3
  clear hw3 b3 R2 M2
  go_wp2_with fail
  rw [← HW3.out]
  have JQ := hide (needName_any R3.out)
  unfold needName at JQ
  rw [HN.out] at JQ
  refine JQ.out.mono ?_
  rintro e w4 hp
  have hp2 := Pn.from hp M3.out
  obtain ⟨q, rfl, -⟩ := hp
  exact ⟨rfl, hp2⟩
end
theorem way_word {t : ByteArray} (h : wayI t < 11) : (wayAt (wayI t)).1 = t := by
  obtain ⟨h2, e⟩ := way_get h
  rw [e]
  exact of_decide_eq_true (List.findIdx_getElem (w := h2))
theorem way_name {t : ByteArray} (h : ∀ p ∈ Yn.ways, p.1 ≠ t) : wayAt (wayI t) = (bs [], 11, 193) := by
  rcases Nat.lt_or_ge (wayI t) 11 with c | c
  · exfalso
    have hw := way_word c
    obtain ⟨i, hi⟩ : ∃ i, i = wayI t := ⟨_, rfl⟩
    rw [← hi] at hw c
    have hm : ∀ j, j < 11 → ∃ p ∈ Yn.ways, p.1 = (wayAt j).1 := by
      intro j hj
      have hj2 : j < Yn.ways.length := hj
      refine ⟨Yn.ways[j]'hj2, List.getElem_mem _, ?_⟩
      obtain rfl | rfl | rfl | rfl | rfl | rfl | rfl | rfl | rfl | rfl | rfl : j = 0 ∨ j = 1 ∨ j = 2 ∨ j = 3 ∨ j = 4 ∨ j = 5 ∨ j = 6 ∨ j = 7 ∨ j = 8 ∨ j = 9 ∨ j = 10 := by omega
      all_goals rfl
    obtain ⟨p, hp, e⟩ := hm i c
    exact h p hp (e.trans hw)
  · rw [way_none c]
    rfl
theorem stmt_step (hP : Pz) {n : Nat} (hn : n ≤ 1000000) (hb : Cbk n) (hs : Cst n) : Cst (n + 1) := by
  intro W B k ws s hR hne
  have hc : Cc n := cond_all hP hn
  have hk0 := hR.lt
  by_cases hst : s.st = 200
  · rcases wayOf_cases (hd s).t with ⟨hw, hno⟩ | ⟨p, hp, hpt, hw⟩
    · cases hnm : isName ws s with
      | false =>
        rw [stmt_name_no hw hnm]
        exact stmt_none_any (way_name hno) hnm hR
      | true =>
        rw [stmt_name_full hw hnm hst]
        exact stmt_full_any (way_name hno) hnm hst hR
    · rw [Yn.ways] at hp
      simp only [List.mem_cons, List.not_mem_nil, or_false] at hp
      rcases hp with rfl | rfl | rfl | rfl | rfl | rfl | rfl | rfl | rfl | rfl | rfl
      · rw [stmt_word hw (by decide) hst]
        exact stmt_word_full (x := bs [108, 101, 116]) (o := 10) (f := 184) (by decide) (by rw [← hpt]; rfl) hst hR
      · rw [stmt_word hw (by decide) hst]
        exact stmt_word_full (x := bs [105, 102]) (o := 13) (f := 185) (by decide) (by rw [← hpt]; rfl) hst hR
      · rw [stmt_word hw (by decide) hst]
        exact stmt_word_full (x := bs [119, 104, 105, 108, 101]) (o := 14) (f := 186) (by decide) (by rw [← hpt]; rfl) hst hR
      · rw [stmt_word hw (by decide) hst]
        exact stmt_word_full (x := bs [114, 101, 112, 101, 97, 116]) (o := 15) (f := 186) (by decide) (by rw [← hpt]; rfl) hst hR
      · rw [stmt_word hw (by decide) hst]
        exact stmt_word_full (x := bs [101, 109, 105, 116]) (o := 16) (f := 187) (by decide) (by rw [← hpt]; rfl) hst hR
      · rw [stmt_word hw (by decide) hst]
        exact stmt_word_full (x := bs [115, 112, 97, 119, 110]) (o := 17) (f := 188) (by decide) (by rw [← hpt]; rfl) hst hR
      · rw [stmt_word hw (by decide) hst]
        exact stmt_word_full (x := bs [97, 100, 100]) (o := 18) (f := 189) (by decide) (by rw [← hpt]; rfl) hst hR
      · rw [stmt_word hw (by decide) hst]
        exact stmt_word_full (x := bs [114, 101, 109, 111, 118, 101]) (o := 19) (f := 190) (by decide) (by rw [← hpt]; rfl) hst hR
      · rw [stmt_word hw (by decide) hst]
        exact stmt_word_full (x := bs [100, 105, 101]) (o := 20) (f := 191) (by decide) (by rw [← hpt]; rfl) hst hR
      · rw [stmt_word hw (by decide) hst]
        exact stmt_word_full (x := bs [115, 116, 111, 112]) (o := 21) (f := 191) (by decide) (by rw [← hpt]; rfl) hst hR
      · rw [stmt_word hw (by decide) hst]
        exact stmt_word_full (x := bs [114, 101, 116, 117, 114, 110]) (o := 22) (f := 192) (by decide) (by rw [← hpt]; rfl) hst hR
  · rcases wayOf_cases (hd s).t with ⟨hw, hno⟩ | ⟨p, hp, hpt, hw⟩
    · cases hnm : isName ws s with
      | false =>
        rw [stmt_name_no hw hnm]
        exact stmt_none_any (way_name hno) hnm hR
      | true =>
        exact stmt_name_any (way_name hno) hnm hst hR hne Tryz.call193 (fun W1 g hM1 hR1 hN1 => set_any hc hk0 hM1 hR1 hN1 (by simp) (by simp) (stmt_set hw hnm hst) hne)
    · rw [Yn.ways] at hp
      simp only [List.mem_cons, List.not_mem_nil, or_false] at hp
      rcases hp with rfl | rfl | rfl | rfl | rfl | rfl | rfl | rfl | rfl | rfl | rfl
      · exact stmt_word_any (x := bs [108, 101, 116]) (o := 10) (f := 184) (by decide) (by rw [← hpt]; rfl) hpt.symm hst hR hne Tryz.call184 (fun W1 g hM1 hR1 hN1 => let_any hc hk0 hM1 hR1 hN1 (by simp) (stmt_let hst hw) hne)
      · exact stmt_word_any (x := bs [105, 102]) (o := 13) (f := 185) (by decide) (by rw [← hpt]; rfl) hpt.symm hst hR hne Tryz.call185 (fun W1 g hM1 hR1 hN1 => branch_any hc hb hs hk0 hM1 hR1 hN1 (by simp) (by simp) (stmt_if hst hw) hne)
      · exact stmt_word_any (x := bs [119, 104, 105, 108, 101]) (o := 14) (f := 186) (by decide) (by rw [← hpt]; rfl) hpt.symm hst hR hne Tryz.call186 (fun W1 g hM1 hR1 hN1 => while_any hc hb hk0 hM1 hR1 hN1 (by simp) (stmt_while hst hw) hne)
      · exact stmt_word_any (x := bs [114, 101, 112, 101, 97, 116]) (o := 15) (f := 186) (by decide) (by rw [← hpt]; rfl) hpt.symm hst hR hne Tryz.call186 (fun W1 g hM1 hR1 hN1 => while_any hc hb hk0 hM1 hR1 hN1 (by simp) (stmt_repeat hst hw) hne)
      · exact stmt_word_any (x := bs [101, 109, 105, 116]) (o := 16) (f := 187) (by decide) (by rw [← hpt]; rfl) hpt.symm hst hR hne Tryz.call187 (fun W1 g hM1 hR1 hN1 => emit_any hc hk0 hM1 hR1 hN1 (by simp) (by simp) (stmt_emit hst hw) hne)
      · exact stmt_word_any (x := bs [115, 112, 97, 119, 110]) (o := 17) (f := 188) (by decide) (by rw [← hpt]; rfl) hpt.symm hst hR hne Tryz.call188 (fun W1 g hM1 hR1 hN1 => spawn_any hn (parts_all hP hn) hk0 hM1 hR1 hN1 (by simp) (stmt_spawn hst hw) hne)
      · exact stmt_word_any (x := bs [97, 100, 100]) (o := 18) (f := 189) (by decide) (by rw [← hpt]; rfl) hpt.symm hst hR hne Tryz.call189 (fun W1 g hM1 hR1 hN1 => add_any (parts_all hP hn n (Nat.le_refl _)) hk0 hM1 hR1 hN1 (by simp) (stmt_add hst hw) hne)
      · exact stmt_word_any (x := bs [114, 101, 109, 111, 118, 101]) (o := 19) (f := 190) (by decide) (by rw [← hpt]; rfl) hpt.symm hst hR hne Tryz.call190 (fun W1 g hM1 hR1 hN1 => remove_any hk0 hM1 hR1 hN1 (by simp) (stmt_remove hst hw) hne)
      · exact stmt_word_any (x := bs [100, 105, 101]) (o := 20) (f := 191) (by decide) (by rw [← hpt]; rfl) hpt.symm hst hR hne Tryz.call191 (fun W1 g hM1 hR1 hN1 => done_any hk0 hM1 hR1 hN1 (by simp) (stmt_die hst hw) hne)
      · exact stmt_word_any (x := bs [115, 116, 111, 112]) (o := 21) (f := 191) (by decide) (by rw [← hpt]; rfl) hpt.symm hst hR hne Tryz.call191 (fun W1 g hM1 hR1 hN1 => done_any hk0 hM1 hR1 hN1 (by simp) (stmt_stop hst hw) hne)
      · exact stmt_word_any (x := bs [114, 101, 116, 117, 114, 110]) (o := 22) (f := 192) (by decide) (by rw [← hpt]; rfl) hpt.symm hst hR hne Tryz.call192 (fun W1 g hM1 hR1 hN1 => return_any hc hk0 hM1 hR1 hN1 (by simp) (stmt_return hst hw) hne)
end Go.Proofs.YtmfoehaeejhlpaaGreatDoor
