import Derived.Test.YtpolajoephjdhaaGreatDoorCoR
import Derived.Laws.CopyOwn
import Derived.OwnWalk
import Derived.BigQuiet
/-
  Copies of lists whose elements have several cells; the law's lent.
-/
namespace Go.Proofs.YtpolajoephjdhaaGreatDoor
open Go.RowKit
set_option maxRecDepth 100000
theorem run_copy_rowS {P : Program} (w : World) (dT sT ty elem : TypeId) (sz g o dLen dCap : Nat) (a : Addr) (sLen sCap : Nat) (cur : Array Value) (t : TypeId) (cs : List Value)
    (hu : P.underlying dT = some (.slice elem)) (hs : (P.info? elem).map (·.size) = some sz)
    (hg : w.heap[g]? = some (.cells cur t (0, 0))) (hn : cs.length = Nat.min sLen dLen * sz)
    (hsrc : ∀ j v, cs[j]? = some v → w.cell? (a.add j) = some v) (hfit : o + cs.length ≤ cur.size) (h1 : ∀ v ∈ cs, v.oneCell' = true) :
    (Builtin.copy_ #[dT, sT] ty #[.slice (some ⟨g, o, none⟩) dLen dCap, .slice (some a) sLen sCap]).run P w =
      .ok (goInt (Nat.min sLen dLen)) (w.setRow g (cur.toList.take o ++ cs ++ cur.toList.drop (o + cs.length)).toArray) := by
  have hl := run_loadCells_list (P := P) w a cs hsrc
  have hst := run_storeCells_at P g o t cs 0 cur w hg (by simpa using hfit) h1
  cases hq : P.info? elem with
  | none => simp [hq] at hs
  | some i =>
    have hi : i.size = sz := by simpa [hq] using hs
    simp [Builtin.copy_, run_underlying hu, Builtin.lenOf, Builtin.firstCells, Go.sizeOf, typeInfo, hq, hi, ← hn, hl, hst]
theorem run_copy_noneS {P : Program} (w : World) (dT sT ty elem : TypeId) (sz : Nat) (d a : Option Addr) (dLen dCap sLen sCap : Nat) (hu : P.underlying dT = some (.slice elem)) (hs : (P.info? elem).map (·.size) = some sz) (hn : Nat.min sLen dLen = 0) :
    (Builtin.copy_ #[dT, sT] ty #[.slice d dLen dCap, .slice a sLen sCap]).run P w = .ok (goInt 0) w := by
  cases hq : P.info? elem with
  | none => simp [hq] at hs
  | some i =>
    have hl : ∀ (x : Addr), (loadCells x 0).run P w = .ok #[] w := fun x => by simpa using run_loadCells_list (P := P) w x [] (by simp)
    cases d <;> cases a <;> simp [Builtin.copy_, run_underlying hu, Builtin.lenOf, Builtin.firstCells, Go.sizeOf, typeInfo, hq, hn, storeCells, hl]
theorem wpList_copy_S {P : Program} {w : World} {ops : Array Oper} {rest : List Oper} {o : Oper} {a : Act} {Q : Exit → Act → World → Prop} (hgd : o.guard = none) (d s : Operand) (dT sT : TypeId)
    (ho : o.op = .call { callee := .builtin .copy, args := #[d, s], argTypes := #[dT, sT] }) (elem : TypeId) (sz : Nat) (hu : P.underlying dT = some (.slice elem)) (hsz : (P.info? elem).map (·.size) = some sz) (h0 : 0 < sz)
    (dp sp : Option Addr) (dLen dCap sLen sCap : Nat) (hd : a.eval d = .slice dp dLen dCap) (hs : a.eval s = .slice sp sLen sCap)
    (g off : Nat) (cur : List Value) (t : TypeId) (hg : w.heap[g]? = some (.cells cur.toArray t (0, 0))) (cs : List Value) (hn : cs.length = Nat.min sLen dLen * sz)
    (hpos : 0 < cs.length → dp = some ⟨g, off, none⟩ ∧ ∃ ad, sp = some ad ∧ ∀ j v, cs[j]? = some v → w.cell? (ad.add j) = some v)
    (hfit : off + cs.length ≤ cur.length) (h1 : ∀ v ∈ cs, v.oneCell' = true)
    (h : ∀ w', w'.heap[g]? = some (.cells (splice cur off cs).toArray t (0, 0)) → w.grownBy w' (some g) → wpList P ops Q rest (a.put o.dst (goInt (Nat.min sLen dLen))) w') :
    wpList P ops Q (o :: rest) a w := by
  refine wpList_plain hgd fun K hK => ?_
  by_cases hz : cs.length = 0
  · obtain rfl : cs = [] := List.eq_nil_of_length_eq_zero hz
    have hm : Nat.min sLen dLen = 0 := by
      rcases Nat.eq_zero_or_pos (Nat.min sLen dLen) with e | e
      · exact e
      · have := Nat.mul_pos e h0
        simp at hn
        omega
    have hrun := run_copy_noneS (P := P) w dT sT o.type elem sz dp sp dLen dCap sLen sCap hu hsz hm
    unfold Oper.wp
    simp [execOp, ho, resolve, invoke, builtin, hd, hs, hrun, Result.andThen]
    refine hK _ _ ?_
    have := h w (by simpa [splice] using hg) ⟨rfl, rfl, rfl, Nat.le_refl _, fun _ _ _ => rfl⟩
    rwa [hm] at this
  · obtain ⟨rfl, ad, rfl, hsrc⟩ := hpos (by omega)
    have hrun := run_copy_rowS (P := P) w dT sT o.type elem sz g off dLen dCap ad sLen sCap cur.toArray t cs hu hsz hg hn hsrc (by simpa using hfit) h1
    unfold Oper.wp
    simp [execOp, ho, resolve, invoke, builtin, hd, hs, hrun, Result.andThen]
    exact hK _ _ (h _ (by simpa [splice] using setRow_heap w g _ _ t _ hg) ⟨rfl, rfl, rfl, by simp [World.setRow], fun k _ hk => setRow_other w g k _ (fun e => hk (by rw [e]))⟩)
/-! ### A block that is a list of instructions -/
def RwI (w : World) (g : Nat) (l : List Ins) : Prop := w.heap[g]? = some (.cells (insC l).toArray 56 (0, 0))
theorem insC_set : ∀ (l : List Ins) (k : Nat) (x : Ins), k < l.length → insC (l.set k x) = ((insC l).set (k * 2) (.int .i64 x.op)).set (k * 2 + 1) (.int .i64 x.a)
  | i :: l, 0, x, _ => rfl
  | i :: l, k + 1, x, h => by
    have e : ∀ (j : Ins) (m : List Ins), insC (j :: m) = .int .i64 j.op :: .int .i64 j.a :: insC m := fun _ _ => rfl
    rw [List.set_cons_succ, e, e, insC_set l k x (by simpa using h), show (k + 1) * 2 = k * 2 + 2 by omega, show k * 2 + 2 + 1 = k * 2 + 1 + 2 by omega]
    rfl
theorem RwI.lt {w : World} {g : Nat} {l : List Ins} (h : RwI w g l) : g < w.heap.size := lt_of_block h
theorem RwI.cell {w : World} {g : Nat} {l : List Ins} (h : RwI w g l) {k : Nat} (hk : k < l.length) : w.cell? ⟨g, k * 2, none⟩ = some (.int .i64 l[k].op) ∧ w.cell? ⟨g, k * 2 + 1, none⟩ = some (.int .i64 l[k].a) := by
  obtain ⟨a, b⟩ := insC_at l k hk
  refine ⟨?_, ?_⟩ <;> rw [cell_of_row w _ _ _ 56 (0, 0) h]
  · simpa using a
  · simpa using b
theorem RwI.frozen {w : World} {g : Nat} {l : List Ins} (h : RwI w g l) (q : Nat) : w.frozen? ⟨g, q, none⟩ = false := frozen_of_row w g q _ 56 h
theorem RwI.set {w : World} {g : Nat} {l : List Ins} (h : RwI w g l) {k : Nat} (hk : k < l.length) (x : Ins) : RwI ((w.setCell ⟨g, k * 2, none⟩ (.int .i64 x.op)).setCell ⟨g, k * 2 + 1, none⟩ (.int .i64 x.a)) g (l.set k x) := by
  unfold RwI
  rw [insC_set l k x hk]
  have a := heap_setCell_same w g (k * 2) _ 56 (.int .i64 x.op) h
  have b := heap_setCell_same _ g (k * 2 + 1) _ 56 (.int .i64 x.a) a
  rw [b]
  simp
theorem RwI.mv {w w' : World} {g : Nat} {l : List Ins} {S : Nat → Prop} (h : RwI w g l) (hm : Mv w w' S) (hs : ¬ S g) : RwI w' g l := hm.at h hs
theorem RwI.later {w w' : World} {g : Nat} {l : List Ins} (h : RwI w g l) (hb : Below w.heap.size w w') : RwI w' g l := h.mv (Mv.of_below hb (fun _ => False)) (fun e => e)
theorem RwI.il {w : World} {g n c : Nat} {l : List Ins} (h : RwI w g l) (hn : n ≤ l.length) (hc : n ≤ c) (hm : c ≤ maxLen) (h6 : ∀ i ∈ l, I6 i.op ∧ I6 i.a) : Il (fun j => j = g) w (.slice (some ⟨g, 0, none⟩) n c) (l.take n) := by
  have e : (l.take n).length = n := by rw [List.length_take]; omega
  refine ⟨_, c, by rw [e], by rw [e]; exact hc, hm, fun _ => ⟨g, 0, rfl, rfl, fun i hi => ?_⟩⟩
  rw [e] at hi
  obtain ⟨a, b⟩ := h.cell (k := i) (by omega)
  have g6 := h6 l[i] (List.getElem_mem _)
  simp only [List.getElem_take, Nat.zero_add]
  exact ⟨g6.1, g6.2, a, b⟩
theorem setR_mv {w : World} {g k : Nat} (x y : Value) : Mv w ((w.setCell ⟨g, k * 2, none⟩ x).setCell ⟨g, k * 2 + 1, none⟩ y) (fun j => j = g) := ((Mv.refl w (fun j => j = g)).set (g := g) rfl _ _).set (g := g) rfl _ _
theorem made_ins (n : Nat) : (madeCells #[Value.int .i64 0, Value.int .i64 0] (n * 2)).toList = insC (List.replicate n ⟨0, 0⟩) := by
  apply List.ext_getElem
  · rw [insC_len, Array.length_toList, size_madeCells, List.length_replicate]
  · intro j h1 h2
    have h3 : ∀ (m k : Nat) (hk : k < (insC (List.replicate m (⟨0, 0⟩ : Ins))).length), (insC (List.replicate m (⟨0, 0⟩ : Ins)))[k] = Value.int .i64 0 := by
      intro m k hk
      have : ∀ v ∈ insC (List.replicate m (⟨0, 0⟩ : Ins)), v = Value.int .i64 0 := by
        intro v hv
        unfold insC at hv
        rw [List.mem_flatMap] at hv
        obtain ⟨x, hx, hv⟩ := hv
        rw [List.mem_replicate] at hx
        obtain ⟨-, rfl⟩ := hx
        simpa using hv
      exact this _ (List.getElem_mem hk)
    rw [h3]
    simp only [madeCells, Array.getElem_toList, Array.getElem_map, Array.getElem_range]
    rcases Nat.mod_two_eq_zero_or_one j with e | e
    · simp [e]
    · simp [e]
theorem own_blockI {w : World} {base g n : Nat} {l : List Ins} (h : w.ownsRow base 56 2 (.slice (some ⟨g, 0, none⟩) n n) n (insC l)) : RwI w g l := by
  obtain ⟨hl, ⟨e, -⟩ | ⟨g', cap, cur, e, hB, hg, h1, h2, h3, h4⟩⟩ := h
  · cases e
  · injection e with e1 e2 e3
    simp only [Option.some.injEq, Addr.mk.injEq, and_true] at e1
    subst e1 e3
    have : cur = (insC l).toArray := by
      rw [← h4, List.take_of_length_le (by rw [Array.length_toList, h3]; exact Nat.le_refl _)]
    unfold RwI
    rw [hg, this]
/-! ### lent -/
def mkI : Ins := ⟨-7, 0⟩
def filI (l : List Ins) (k : Nat) : List Ins := l ++ (List.replicate k mkI ++ List.replicate (80 - k) ⟨0, 0⟩)
theorem filI_len (l : List Ins) (k : Nat) (hk : k ≤ 80) : (filI l k).length = l.length + 80 := by simp [filI]; omega
theorem filI_set (l : List Ins) (k : Nat) (hk : k < 80) : (filI l k).set (l.length + k) mkI = filI l (k + 1) := by
  unfold filI
  rw [List.set_append_right _ _ (by omega), show l.length + k - l.length = k by omega, List.set_append_right _ _ (by simp), show 80 - k = (80 - (k + 1)) + 1 by omega, List.replicate_succ]
  simp [List.replicate_succ', List.append_assoc]
theorem filI_end (l : List Ins) : filI l 80 = l ++ List.replicate 80 mkI := by simp [filI]
theorem insC_append (a b : List Ins) : insC (a ++ b) = insC a ++ insC b := by simp [insC]
theorem insC_drop : ∀ (l : List Ins) (n : Nat), (insC l).drop (n * 2) = insC (l.drop n)
  | l, 0 => rfl
  | [], n + 1 => by simp [insC]
  | i :: l, n + 1 => by
    rw [show (n + 1) * 2 = n * 2 + 2 by omega]
    exact insC_drop l n
theorem splice_I (l : List Ins) : splice (insC (List.replicate (l.length + 80) ⟨0, 0⟩)) 0 (insC l) = insC (filI l 0) := by
  unfold splice filI
  rw [insC_append, Nat.zero_add, insC_len, insC_drop, List.drop_replicate]
  simp
theorem sizeI : (Tryz.prog.info? 56).map (·.size) = some 2 := by kernel_rfl
theorem insC_one (l : List Ins) : ∀ v ∈ insC l, v.oneCell' = true := fun v hv => by
  unfold insC at hv
  rw [List.mem_flatMap] at hv
  obtain ⟨x, -, hv⟩ := hv
  simp at hv
  rcases hv with rfl | rfl <;> rfl
theorem Il.src {Q : Nat → Prop} {w w' : World} {ao : Option Addr} {c : Nat} {l : List Ins} (h : Il Q w (.slice ao l.length c) l) (hb : Below w.heap.size w w') : 0 < (insC l).length → ∃ ad, ao = some ad ∧ ∀ j v, (insC l)[j]? = some v → w'.cell? (ad.add j) = some v := by
  intro h0
  rw [insC_len] at h0
  obtain ⟨g, o, rfl, -⟩ := (h.later hb).nth (k := 0) (by omega)
  refine ⟨_, rfl, fun j v hv => ?_⟩
  have hj : j < l.length * 2 := by
    have := (List.getElem?_eq_some_iff.1 hv).1
    rwa [insC_len] at this
  obtain ⟨g', o', e, -, d0, d1, -, -⟩ := (h.later hb).nth (k := j / 2) (by omega)
  simp only [Option.some.injEq, Addr.mk.injEq, and_true] at e
  obtain ⟨rfl, rfl⟩ := e
  obtain ⟨a, b⟩ := insC_at l (j / 2) (by omega)
  rw [show (⟨g, o, none⟩ : Addr).add j = ⟨g, o + j, none⟩ by simp [Addr.add]]
  rcases Nat.mod_two_eq_zero_or_one j with e | e
  · rw [show j / 2 * 2 = j by omega] at a d0
    rw [a] at hv
    rw [d0, hv]
  · rw [show j / 2 * 2 + 1 = j by omega] at b
    rw [show o + j / 2 * 2 + 1 = o + j by omega] at d1
    rw [b] at hv
    rw [d1, hv]
end Go.Proofs.YtpolajoephjdhaaGreatDoor

/-
  The law's lent.
-/
namespace Go.Proofs.YtpolajoephjdhaaGreatDoor
open Go.RowKit
set_option maxRecDepth 100000
set_option maxHeartbeats 4000000 in
theorem lent_at {Q : Nat → Prop} {W : World} {n c : Nat} {ao : Option Addr} (nm : ByteArray) (pa lo : Int) (code : List Ins) (hn : n = code.length) (_hc1 : n ≤ c) (_hc2 : c ≤ 9223372036854775807) (h : Il Q W (.slice ao n c) code) (hz : n ≤ 1048576) : Calls Tryz.prog 12 #[.agg #[.string nm, .int .i64 pa, .int .i64 lo, .slice ao n c]] W fun e w' => ∃ g, e = .returned (.tuple #[.agg #[.string nm, .int .i64 pa, .int .i64 lo, .slice (some ⟨g, 0, none⟩) n (n + 80)], .slice (some ⟨g, 0, none⟩) (n + 80) (n + 80)]) ∧ W.heap.size ≤ g ∧ RwI w' g (code ++ List.replicate 80 mkI) ∧ Below W.heap.size W w' := by
  obtain ⟨w0, hw0⟩ : ∃ X, X = W.alloc (.cells #[.string nm, .int .i64 pa, .int .i64 lo, .slice ao n c] 45) := ⟨_, rfl⟩
  obtain ⟨w1, hw1⟩ : ∃ X, X = w0.alloc (.cells #[.string ⟨#[]⟩, .int .i64 0, .int .i64 0, .slice none 0 0] 45) := ⟨_, rfl⟩
  have B0 : Below W.heap.size W w0 := hw0 ▸ below_alloc W _
  have B1 : Below w0.heap.size w0 w1 := hw1 ▸ below_alloc w0 _
  obtain ⟨B, hB⟩ : ∃ B, B = W.heap.size := ⟨_, rfl⟩
  obtain ⟨C, hC⟩ : ∃ C, C = w0.heap.size := ⟨_, rfl⟩
  have e0 : w0.heap.size = W.heap.size + 1 := by rw [hw0]; exact Array.size_push ..
  have n0 : w0.heap[B]? = some (.cells #[.string nm, .int .i64 pa, .int .i64 lo, .slice ao n c] 45 (0, 0)) := by rw [hw0, hB]; exact heap_alloc_new W _
  have n1 : w1.heap[C]? = some (.cells #[.string ⟨#[]⟩, .int .i64 0, .int .i64 0, .slice none 0 0] 45 (0, 0)) := by rw [hw1, hC]; exact heap_alloc_new w0 _
  have n2 := (B1.block B (lt_of_block n0)).trans n0
  have N1 := hide n1
  have N2 := hide n2
  have HCB : Hid (C = B + 1 ∧ W.heap.size = B) := ⟨by omega, hB.symm⟩
  have Y1 := hide (below_on B0 B1)
  have H1 := hide ((h.later B0).later B1)
  have HN := hide hn
  obtain ⟨c0, c1, c2, c3⟩ := row4 n2
  obtain ⟨ic, hi, hz0, hz1, hz2⟩ := info_parts infoI
  clear n0 n1 n2 B0 B1 h hn
  go_enter Tryz.func12, Tryz.ntmps12
  go_upto_region 1 with fail
  rw [← e0, ← hB, ← hC, ← hw0, ← hw1]
  clear hw0 hw1 e0 hB hC
  go_wp2_with (at_make; refine wpList_make_full _ rfl _ _ 43 rfl w1.heap.size 56 ic (.agg #[.int .i64 0, .int .i64 0]) 2 Tryz.underlying43 hi hz0 hz1 .i64 .i64 _ _ (n + 80) rfl rfl ?c1 ?c2 ?c3 ?c4 ?c5 ?_)
  case c1 => omega
  case c2 => omega
  case c3 => rw [hz2]; omega
  case c4 => unfold maxLen; omega
  case c5 => omega
  intro w2 hown hgrow
  rw [made_ins] at hown
  have R2 := hide (own_blockI hown)
  obtain ⟨g, hg⟩ : ∃ g, g = w1.heap.size := ⟨_, rfl⟩
  rw [← hg] at R2 ⊢
  have HG : Hid (C < g ∧ B < g) := by
    have := lt_of_block N1.out
    have := lt_of_block N2.out
    exact ⟨by omega, by omega⟩
  have b2 : Below w1.heap.size w1 w2 := (Below.refl _ _).grown hgrow (Nat.le_refl _) (by intro k hk; cases hk)
  have X2 := hide b2
  have N3 := hide ((b2.block C (lt_of_block N1.out)).trans N1.out)
  have N4 := hide ((b2.block B (lt_of_block N2.out)).trans N2.out)
  have H2 := hide (H1.out.later b2)
  rw [HN.out] at H2
  have HS := hide (H2.out.src (Below.refl _ _))
  have X1s : Hid (g = w1.heap.size) := hg
  clear c0 c1 c2 c3 hown hgrow N1 N2 H1 b2 hg hi hz0 hz1 hz2
  obtain ⟨c0, c1, c2, c3⟩ := row4 N4.out
  go_wp2_with (refine wpList_copy_S rfl _ _ 43 43 rfl 56 2 Tryz.underlying43 sizeI (by omega) _ _ _ _ _ _ rfl rfl g 0 (insC (List.replicate (n + 80) ⟨0, 0⟩)) 56 R2.out (insC code) ?d1 ?d2 ?d3 (insC_one code) ?_)
  case d1 => rw [insC_len, ← HN.out]; show n * 2 = min n (n + 80) * 2; rw [Nat.min_eq_left (by omega)]
  case d2 => intro h0; first | exact ⟨rfl, HS.out h0⟩ | exact HS.out h0
  case d3 => rw [insC_len, insC_len, List.length_replicate, ← HN.out]; omega
  intro w3 hr3 hg3
  have hsp := splice_I code
  rw [← HN.out] at hsp
  rw [hsp] at hr3
  have R3 : Hid (RwI w3 g (filI code 0)) := hr3
  have X3 : Hid (Below w1.heap.size w1 w3) := X2.out.grown hg3 X2.out.size (fun k e => by
    cases e
    have h1 := R2.out.lt
    have h2 := HG.out
    have h3 := HCB.out
    have := X1s.out
    omega)
  have mg : Mv w2 w3 (fun j => j = g) := (Mv.refl w2 (fun j => j = g)).grown hg3 (fun k _ e => by cases e; rfl)
  have N5 := hide (mg.at N3.out (by have := HG.out; omega))
  have N6 := hide (mg.at N4.out (by have := HG.out; omega))
  clear c0 c1 c2 c3 hr3 hg3 mg N3 N4 H2 HS R2 X2 hsp
  obtain ⟨c0, c1, c2, c3⟩ := row4 N6.out
  have HL : Hid (∀ k, k ≤ 80 → (filI code k).length = n + 80) := fun k hk => by rw [filI_len code k hk, HN.out]
  go_wp2_with fail
  go_loopw [5] (fun v wr => ∃ k : Nat, v = .int .i64 ((n + k : Nat) : Int) ∧ k ≤ 80 ∧ Hid (RwI wr g (filI code k)) ∧ Hid (Below w1.heap.size w1 wr) ∧ Hid (Mv w3 wr (fun j => j = g))) (fun v _ => n + 80 - (intOf v).toNat)
  case atStart => exact ⟨0, rfl, by omega, R3.out, X3.out, Mv.refl _ _⟩
  case round =>
    obtain ⟨k, rfl, hk, hr, hb, hm⟩ := hrel
    by_cases hlt : k < 80
    · obtain ⟨y0, y1⟩ := hr.out.cell (k := n + k) (by rw [HL.out k hk]; omega)
      have hf := hr.out.frozen
      have NX : Hid (RwI ((wr.setCell ⟨g, (n + k) * 2, none⟩ (.int .i64 (-7))).setCell ⟨g, (n + k) * 2 + 1, none⟩ (.int .i64 0)) g (filI code (k + 1))) := by
        have := hr.out.set (k := n + k) (by rw [HL.out k hk]; omega) mkI
        rw [HN.out, filI_set code k hlt, ← HN.out] at this
        exact this
      have MX : Hid (Mv w3 ((wr.setCell ⟨g, (n + k) * 2, none⟩ (.int .i64 (-7))).setCell ⟨g, (n + k) * 2 + 1, none⟩ (.int .i64 0)) (fun j => j = g)) := hm.out.trans (setR_mv _ _) (fun _ _ e => e)
      have BX : Hid (Below w1.heap.size w1 ((wr.setCell ⟨g, (n + k) * 2, none⟩ (.int .i64 (-7))).setCell ⟨g, (n + k) * 2 + 1, none⟩ (.int .i64 0))) := by
        have := X1s.out
        exact (hb.out.setCell (p := ⟨g, (n + k) * 2, none⟩) (by show w1.heap.size ≤ g; omega) _).setCell (p := ⟨g, (n + k) * 2 + 1, none⟩) (by show w1.heap.size ≤ g; omega) _
      go_wp2_with fail
      exact ⟨⟨k + 1, by go_num, by omega, NX.out, BX.out, MX.out⟩, by simp [intOf]; omega⟩
    · obtain rfl : k = 80 := by omega
      have hgC := HG.out
      have hcb := HCB.out
      have N7 := hide (hm.out.at N6.out (by omega))
      have N8 := hide (hm.out.at N5.out (by omega))
      clear c0 c1 c2 c3
      obtain ⟨c0, c1, c2, c3⟩ := row4 N7.out
      obtain ⟨d0, d1, d2, d3⟩ := row4 N8.out
      have zB : ∀ q, wr.frozen? ⟨B, q, none⟩ = false := fun q => frozen_of_row wr B q _ 45 N7.out
      have zC : ∀ q, wr.frozen? ⟨C, q, none⟩ = false := fun q => frozen_of_row wr C q _ 45 N8.out
      have hBC : B ≠ C := by omega
      have hCB : C ≠ B := by omega
      have HW := hide hcb.2
      have HCC := hide hcb.1
      clear hgC hcb
      go_wp2_with fail
      have m1 := (Mv.refl wr (fun j => j = B)).set (g := B) rfl 3 (.slice (some ⟨g, 0, none⟩) n (n + 80))
      have m2 := w4s_mv (wr.setCell ⟨B, 3, none⟩ (.slice (some ⟨g, 0, none⟩) n (n + 80))) C (.string nm) (.int .i64 pa) (.int .i64 lo) (.slice (some ⟨g, 0, none⟩) n (n + 80))
      have rC := m1.at N8.out hCB
      have hr' := hr.out
      rw [filI_end] at hr'
      refine bodyPost_ret (res_rt rfl rfl rfl (w4s_row _ _ _ _ rC)) rfl ⟨g, rfl, ?_, ?_, ?_⟩
      · have := HG.out; have := HW.out; omega
      · exact (hr'.mv m1 (by have := HG.out; omega)).mv m2 (by have := HG.out; omega)
      · exact w4s_below _ _ _ _ ((below_on Y1.out hb.out).setCell (p := ⟨B, 3, none⟩) (by show W.heap.size ≤ B; have := HW.out; omega) _) (by have := HW.out; have := HCC.out; omega)
theorem lent_any {Q : Nat → Prop} {W : World} {vc : Value} (r : Rt) (h : Il Q W vc r.code) (hz : r.code.length ≤ 1048576) : Calls Tryz.prog 12 #[rtV r vc] W fun e w' => ∃ g, e = .returned (.tuple #[.agg #[.string r.name, .int .i64 r.pa, .int .i64 r.lo, .slice (some ⟨g, 0, none⟩) r.code.length (r.code.length + 80)], .slice (some ⟨g, 0, none⟩) (r.code.length + 80) (r.code.length + 80)]) ∧ W.heap.size ≤ g ∧ RwI w' g (r.code ++ List.replicate 80 mkI) ∧ Below W.heap.size W w' := by
  obtain ⟨ao, c, rfl, hc1, hc2⟩ := h.at
  exact lent_at r.name r.pa r.lo r.code rfl hc1 hc2 h hz
end Go.Proofs.YtpolajoephjdhaaGreatDoor

/-
  The law's still.
-/
namespace Go.Proofs.YtpolajoephjdhaaGreatDoor
open Go.RowKit
set_option maxRecDepth 100000
def mk8 : Ins := ⟨-8, 0⟩
def overI (l : List Ins) (k : Nat) : List Ins := List.replicate k mk8 ++ l.drop k
theorem overI_len (l : List Ins) (k : Nat) (hk : k ≤ l.length) : (overI l k).length = l.length := by simp [overI]; omega
theorem overI_set (l : List Ins) (k : Nat) (hk : k < l.length) : (overI l k).set k mk8 = overI l (k + 1) := by
  unfold overI
  rw [List.set_append_right _ _ (by simp), List.length_replicate, Nat.sub_self, List.drop_eq_getElem_cons hk, List.set_cons_zero, List.replicate_succ', List.append_assoc]
  rfl
theorem overI_at (l : List Ins) (k : Nat) (hk : k < l.length) : (overI l k)[k]? = some l[k] := by
  unfold overI
  rw [List.getElem?_append_right (by simp), List.length_replicate, Nat.sub_self, List.getElem?_drop, Nat.add_zero, List.getElem?_eq_getElem hk]
theorem overI_end (l : List Ins) : overI l l.length = List.replicate l.length mk8 := by simp [overI]
set_option maxHeartbeats 4000000 in
theorem still_at {Q : Nat → Prop} {W : World} {n c g : Nat} {ao : Option Addr} (nm : ByteArray) (pa lo : Int) (code : List Ins) (hn : n = code.length) (_hc1 : n ≤ c) (_hc2 : c ≤ 9223372036854775807) (h : Il Q W (.slice ao n c) code) (hr : RwI W g (code ++ List.replicate 80 mkI)) (hq : ¬ Q g) (hz : n ≤ 1048576) : Calls Tryz.prog 16 #[.slice (some ⟨g, 0, none⟩) (n + 80) (n + 80), .agg #[.string nm, .int .i64 pa, .int .i64 lo, .slice ao n c]] W fun e w' => e = .returned (.bool true) ∧ RwI w' g (List.replicate (n + 80) mk8) ∧ Mv W w' (fun j => j = g) := by
  obtain ⟨w0, hw0⟩ : ∃ X, X = W.alloc (.cells #[.string nm, .int .i64 pa, .int .i64 lo, .slice ao n c] 45) := ⟨_, rfl⟩
  have B0 : Below W.heap.size W w0 := hw0 ▸ below_alloc W _
  obtain ⟨B, hB⟩ : ∃ B, B = W.heap.size := ⟨_, rfl⟩
  have n0 : w0.heap[B]? = some (.cells #[.string nm, .int .i64 pa, .int .i64 lo, .slice ao n c] 45 (0, 0)) := by rw [hw0, hB]; exact heap_alloc_new W _
  have N0 := hide n0
  have HG : Hid (g < B) := by have := hr.lt; unfold Hid; omega
  have R0 := hide (hr.later B0)
  have H0 := hide (h.later B0)
  have M0 := hide (Mv.of_below B0 (fun j => j = g))
  have HN := hide hn
  have HQ : Hid (∀ j, Q j → ¬ j = g) := fun j e e2 => hq (e2 ▸ e)
  obtain ⟨L, hL⟩ : ∃ L, L = code ++ List.replicate 80 mkI := ⟨_, rfl⟩
  rw [← hL] at R0
  have HL := hide hL
  have LL : Hid (L.length = n + 80) := by unfold Hid; rw [hL, hn]; simp
  have L1 : Hid (∀ k (hk : k < code.length), L[k]? = some code[k]) := fun k hk => by rw [hL, List.getElem?_append_left hk, List.getElem?_eq_getElem hk]
  have L2 : Hid (∀ k, n ≤ k → k < n + 80 → L[k]? = some mkI) := fun k h1 h2 => by
    rw [hL, List.getElem?_append_right (by omega), List.getElem?_replicate, if_pos (by omega)]
  clear n0 B0 h hr hn hq hL
  go_enter Tryz.func16, Tryz.ntmps16
  go_upto_region 1 with fail
  rw [← hB, ← hw0]
  clear hw0 hB
  go_wp2_with fail
  go_loopw [6, 5] (fun v v5 wr => ∃ k : Nat, v = .int .i64 (k : Int) ∧ v5 = .bool true ∧ k ≤ n + 80 ∧ Hid (RwI wr g (overI L k)) ∧ Hid (Mv w0 wr (fun j => j = g))) (fun v _ _ => n + 80 - (intOf v).toNat)
  case atStart => exact ⟨0, rfl, rfl, by omega, R0.out, Mv.refl _ _⟩
  case round =>
    obtain ⟨k, rfl, rfl, hk, hr, hm⟩ := hrel
    obtain ⟨c0, c1, c2, c3⟩ := row4 (hm.out.at N0.out (by have := HG.out; omega))
    by_cases hlt : k < n + 80
    · have hkl : k < L.length := by rw [LL.out]; exact hlt
      have hko : k < (overI L k).length := by rw [overI_len L k (by omega)]; exact hkl
      obtain ⟨y0, y1⟩ := hr.out.cell hko
      have hat := overI_at L k hkl
      rw [List.getElem?_eq_getElem hko] at hat
      have hf := hr.out.frozen
      by_cases hkn : k < n
      · have hkc : k < code.length := by rw [← HN.out]; exact hkn
        have hx := L1.out k hkc
        rw [List.getElem?_eq_getElem hkl] at hx
        obtain ⟨g', o, rfl, -, d0, d1, -, -⟩ := (H0.out.mv hm.out HQ.out).nth hkc
        have ex : (overI L k)[k] = code[k] := Option.some.inj (hat.trans hx)
        rw [ex] at y0 y1
        have hkn' : (k : Int) < (n : Int) := by omega
        generalize code[k] = x at *
        obtain ⟨xo, xa⟩ := x
        dsimp only at y0 y1 d0 d1
        clear hat hx ex
        go_upto_region 5 with fail
        go_quiet (fail)
        obtain ⟨w5, hw5⟩ : ∃ X, X = wr.drewN nq := ⟨_, rfl⟩
        have b5 : Below wr.heap.size wr w5 := by rw [hw5]; exact below_drawn wr nq
        have r5 := hr.out.later b5
        have hm5 := hide (hm.out.later b5)
        rw [← hw5]
        clear y0 y1 hf hw5 c0 c1 c2 c3 d0 d1
        obtain ⟨y0, y1⟩ := r5.cell hko
        have hf := r5.frozen
        have NX : Hid (RwI ((w5.setCell ⟨g, k * 2, none⟩ (.int .i64 (-8))).setCell ⟨g, k * 2 + 1, none⟩ (.int .i64 0)) g (overI L (k + 1))) := by
          have := r5.set hko mk8
          rw [overI_set L k hkl] at this
          exact this
        have MX : Hid (Mv w0 ((w5.setCell ⟨g, k * 2, none⟩ (.int .i64 (-8))).setCell ⟨g, k * 2 + 1, none⟩ (.int .i64 0)) (fun j => j = g)) := hm5.out.trans (setR_mv _ _) (fun _ _ e => e)
        clear r5 b5
        go_wp2_with fail
        exact ⟨⟨k + 1, by go_num, rfl, by omega, NX.out, MX.out⟩, by simp [intOf]; omega⟩
      · have hx := L2.out k (by omega) hlt
        rw [List.getElem?_eq_getElem hkl] at hx
        have ex : (overI L k)[k] = mkI := Option.some.inj (hat.trans hx)
        rw [ex] at y0 y1
        have dk : decide (k < n) = false := decide_eq_false hkn
        have dk2 : decide (n ≤ k) = true := decide_eq_true (by omega)
        clear hkn
        unfold mkI at y0 y1
        dsimp only at y0 y1
        clear hat hx ex
        go_upto_region 5 with fail
        go_quiet (fail)
        obtain ⟨w5, hw5⟩ : ∃ X, X = wr.drewN nq := ⟨_, rfl⟩
        have b5 : Below wr.heap.size wr w5 := by rw [hw5]; exact below_drawn wr nq
        have r5 := hr.out.later b5
        have hm5 := hide (hm.out.later b5)
        rw [← hw5]
        clear y0 y1 hf hw5 c0 c1 c2 c3
        obtain ⟨y0, y1⟩ := r5.cell hko
        have hf := r5.frozen
        have NX : Hid (RwI ((w5.setCell ⟨g, k * 2, none⟩ (.int .i64 (-8))).setCell ⟨g, k * 2 + 1, none⟩ (.int .i64 0)) g (overI L (k + 1))) := by
          have := r5.set hko mk8
          rw [overI_set L k hkl] at this
          exact this
        have MX : Hid (Mv w0 ((w5.setCell ⟨g, k * 2, none⟩ (.int .i64 (-8))).setCell ⟨g, k * 2 + 1, none⟩ (.int .i64 0)) (fun j => j = g)) := hm5.out.trans (setR_mv _ _) (fun _ _ e => e)
        clear r5 b5
        go_wp2_with fail
        exact ⟨⟨k + 1, by go_num, rfl, by omega, NX.out, MX.out⟩, by simp [intOf]; omega⟩
    · obtain rfl : k = n + 80 := by omega
      have FR : Hid (RwI wr g (List.replicate (n + 80) mk8)) := by
        have := hr.out
        rw [← LL.out, overI_end, LL.out] at this
        exact this
      clear c0 c1 c2 c3
      go_wp2_with fail
      go_ret
      exact ⟨rfl, FR.out, M0.out.trans hm.out (fun _ _ e => e)⟩
theorem still_any {Q : Nat → Prop} {W : World} {vc : Value} {g : Nat} (r : Rt) (h : Il Q W vc r.code) (hr : RwI W g (r.code ++ List.replicate 80 mkI)) (hq : ¬ Q g) (hz : r.code.length ≤ 1048576) : Calls Tryz.prog 16 #[.slice (some ⟨g, 0, none⟩) (r.code.length + 80) (r.code.length + 80), rtV r vc] W fun e w' => e = .returned (.bool true) ∧ RwI w' g (List.replicate (r.code.length + 80) mk8) ∧ Mv W w' (fun j => j = g) := by
  obtain ⟨ao, c, rfl, hc1, hc2⟩ := h.at
  exact still_at r.name r.pa r.lo r.code rfl hc1 hc2 h hr hq hz
end Go.Proofs.YtpolajoephjdhaaGreatDoor
