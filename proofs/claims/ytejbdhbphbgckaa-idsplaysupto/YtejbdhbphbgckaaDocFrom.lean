/-
  The document's From.
-/
import Derived.Test.YtejbdhbphbgckaaDocGive
namespace Go.Proofs.Ytejbdhbphbgckaa
open Go.RowKit
theorem hs_add (gs : List Nat) (x : Nat) : hsOf gs ++ [min x 1000000] = hsOf (gs ++ [x]) := by simp [hsOf]
theorem os_add (gs : List Nat) (x : Nat) : osOf gs [] ++ [decide (x ≤ 1000000)] = osOf (gs ++ [x]) [] := by
  apply List.ext_getElem
  · simp [osOf_len]
  · intro j h1 h2
    have hj : j < gs.length + 1 := by simpa [osOf_len] using h1
    rw [osOf_at _ _ j (by simpa using hj)]
    by_cases hij : gs.length = j
    · subst hij
      rw [List.getElem_append_right (by simp [osOf_len])]
      simp [on]
    · have hj' : j < gs.length := by omega
      rw [List.getElem_append_left (by simpa [osOf_len] using hj'), osOf_at _ _ j hj']
      simp [on, List.getD_eq_getElem?_getD, List.getElem?_append_left hj']
/-- A pool of the document's in the making: its free row is its own. -/
def Do (w : World) (B g n : Nat) (gs fr : List Nat) : Prop :=
  ∃ vg vo vf, Dm w g n vg vo vf (hsOf gs) (osOf gs fr) fr ∧ w.ownsRow 0 3 1 vf fr.length (ic fr) ∧ (∀ k, k = g ∨ vg.ownBlock = some k ∨ vo.ownBlock = some k ∨ vf.ownBlock = some k → B ≤ k) ∧ Ok n gs fr
theorem Do.dl {w : World} {B g n : Nat} {gs fr : List Nat} (h : Do w B g n gs fr) : Dl w (fun k => B ≤ k) g n gs fr := by
  obtain ⟨vg, vo, vf, h1, -, h3, h4⟩ := h
  exact ⟨⟨vg, vo, vf, h1, h3 _ (.inl rfl), fun k e => h3 k (.inr (.inl e)), fun k e => h3 k (.inr (.inr (.inl e))), fun k e => h3 k (.inr (.inr (.inr e)))⟩, h4⟩
def DGot (w : World) (most : Int) (G F : List Int) (e : Ending) (w' : World) : Prop :=
  Below w.heap.size w w' ∧ ((e = .returned (.tuple #[.pointer none, .int .i64 1]) ∧ ¬ Good most G F) ∨ ∃ g n gs fr, e = .returned (.tuple #[.pointer (some ⟨g, 0, none⟩), .int .i64 0]) ∧ most = (n : Nat) ∧ G = up gs ∧ F = up fr ∧ Dl w' (fun k => w.heap.size ≤ k) g n gs fr)
set_option maxHeartbeats 4000000 in
set_option maxRecDepth 100000 in
theorem dfrom_bad (most : Int) (v1 v2 : Value) (G F : List Int) (w : World) (h1 : Is w v1 G) (h2 : Is w v2 F) (hm : most < 1 ∨ most > 200 ∨ (G.length : Int) > most) :
    Calls Try.prog 34 #[.int .i64 most, v1, v2] w (DGot w most G F) := by
  obtain ⟨ao1, c1, rfl, a1, a2, -⟩ := h1
  obtain ⟨ao2, c2, rfl, b1, b2, -⟩ := h2
  have HG : Hid (¬ Good most G F) := fun ⟨n, gs, fr, e1, e2, e3, e4⟩ => by
    have := e4.1
    have := e4.2.1
    have := e4.2.2.1
    have : G.length = gs.length := by rw [e2]; simp [up]
    omega
  by_cases hb : most < 1 ∨ most > 200
  · have HN := hide (dnew_bad most w hb)
    clear hm hb
    go_enter Try.func34, Try.ntmps34
    go_wp2_with fail
    refine HN.out.mono ?_
    rintro e w1 ⟨rfl, rfl⟩
    clear HN
    go_wp2_with fail
    go_ret2
    exact ⟨Below.refl _ _, .inl ⟨rfl, HG.out⟩⟩
  · obtain ⟨n, rfl⟩ : ∃ n : Nat, most = (n : Int) := ⟨most.toNat, by omega⟩
    have HN := hide (dnew_any n w (by omega) (by omega))
    have t1 : (G.length : Int) > (n : Int) := by omega
    clear hm hb
    go_enter Try.func34, Try.ntmps34
    go_wp2_with fail
    refine HN.out.mono ?_
    rintro e w1 ⟨rfl, -, hb⟩
    have HB := hide hb
    clear HN hb
    go_wp2_with fail
    go_ret2
    exact ⟨HB.out, .inl ⟨rfl, HG.out⟩⟩
/-- A generation is put down: the row of generations first. -/
theorem Do.gens {w W W' : World} {B g n g9 c9 x : Nat} {vg vo vf : Value} {hs fr : List Nat} {os : List Bool} (h : Dm w g n vg vo vf hs os fr) (hb : Below w.heap.size w W) (ho : W'.ownsRow 0 3 1 (.slice (some ⟨g9, 0, none⟩) (hs.length + 1) c9) (hs.length + 1) (ic hs ++ [.int .i64 (x : Int)])) (hg : W.grownBy W' vg.ownBlock) (ha : vg.ownBlock = some g9 ∨ g9 = W.heap.size) (hf : w.ownsRow 0 3 1 vf fr.length (ic fr)) (hB : ∀ k, k = g ∨ vg.ownBlock = some k ∨ vo.ownBlock = some k ∨ vf.ownBlock = some k → B ≤ k) :
    (W'.heap[g]? = some (.cells #[.int .i64 (n : Int), vg, vo, vf] 62 (0, 0))) ∧ Hid (Dm (W'.setCell ⟨g, 1, none⟩ (.slice (some ⟨g9, 0, none⟩) (hs.length + 1) c9)) g n (.slice (some ⟨g9, 0, none⟩) (hs.length + 1) c9) vo vf (hs ++ [x]) os fr ∧ (W'.setCell ⟨g, 1, none⟩ (.slice (some ⟨g9, 0, none⟩) (hs.length + 1) c9)).ownsRow 0 3 1 vf fr.length (ic fr) ∧ (∀ k, k = g ∨ (Value.slice (some ⟨g9, 0, none⟩) (hs.length + 1) c9).ownBlock = some k ∨ vo.ownBlock = some k ∨ vf.ownBlock = some k → B ≤ k) ∧ Below B w (W'.setCell ⟨g, 1, none⟩ (.slice (some ⟨g9, 0, none⟩) (hs.length + 1) c9))) := by
  obtain ⟨p1, p2, p3, p4⟩ := h.grow_gens hb ho hg ha
  have hBw : B ≤ w.heap.size := Nat.le_trans (hB g (.inl rfl)) (Nat.le_of_lt h.lt)
  refine ⟨p1, p2, p4.own hf (fun k e1 e2 => ?_), fun k e => ?_, p4.below hBw (fun k e => ?_)⟩
  · rcases e2 with rfl | e2
    · exact h.2.2.2.2.1.2.2 e1
    · exact h.2.2.2.2.2.2.1 k e2 e1
  · rcases e with e | e | e | e
    · exact hB k (.inl e)
    · rcases p3 k e with h' | h'
      · exact hB k (.inr (.inl h'))
      · omega
    · exact hB k (.inr (.inr (.inl e)))
    · exact hB k (.inr (.inr (.inr e)))
  · rcases e with e | e
    · exact hB k (.inl e)
    · exact hB k (.inr (.inl e))
theorem Do.ons {w W W' : World} {B g n g9 c9 : Nat} {x : Bool} {vg vo vf : Value} {hs fr : List Nat} {os : List Bool} (h : Dm w g n vg vo vf hs os fr) (hb : Below w.heap.size w W) (ho : W'.ownsRow 0 4 1 (.slice (some ⟨g9, 0, none⟩) (os.length + 1) c9) (os.length + 1) (bc os ++ [.bool x])) (hg : W.grownBy W' vo.ownBlock) (ha : vo.ownBlock = some g9 ∨ g9 = W.heap.size) (hf : w.ownsRow 0 3 1 vf fr.length (ic fr)) (hB : ∀ k, k = g ∨ vg.ownBlock = some k ∨ vo.ownBlock = some k ∨ vf.ownBlock = some k → B ≤ k) :
    (W'.heap[g]? = some (.cells #[.int .i64 (n : Int), vg, vo, vf] 62 (0, 0))) ∧ Hid (Dm (W'.setCell ⟨g, 2, none⟩ (.slice (some ⟨g9, 0, none⟩) (os.length + 1) c9)) g n vg (.slice (some ⟨g9, 0, none⟩) (os.length + 1) c9) vf hs (os ++ [x]) fr ∧ (W'.setCell ⟨g, 2, none⟩ (.slice (some ⟨g9, 0, none⟩) (os.length + 1) c9)).ownsRow 0 3 1 vf fr.length (ic fr) ∧ (∀ k, k = g ∨ vg.ownBlock = some k ∨ (Value.slice (some ⟨g9, 0, none⟩) (os.length + 1) c9).ownBlock = some k ∨ vf.ownBlock = some k → B ≤ k) ∧ Below B w (W'.setCell ⟨g, 2, none⟩ (.slice (some ⟨g9, 0, none⟩) (os.length + 1) c9))) := by
  obtain ⟨p1, p2, p3, p4⟩ := h.grow_ons hb ho hg ha
  have hBw : B ≤ w.heap.size := Nat.le_trans (hB g (.inl rfl)) (Nat.le_of_lt h.lt)
  refine ⟨p1, p2, p4.own hf (fun k e1 e2 => ?_), fun k e => ?_, p4.below hBw (fun k e => ?_)⟩
  · rcases e2 with rfl | e2
    · exact h.2.2.2.2.1.2.2 e1
    · exact h.2.2.2.2.2.2.2 k e2 e1
  · rcases e with e | e | e | e
    · exact hB k (.inl e)
    · exact hB k (.inr (.inl e))
    · rcases p3 k e with h' | h'
      · exact hB k (.inr (.inr (.inl h')))
      · omega
    · exact hB k (.inr (.inr (.inr e)))
  · rcases e with e | e
    · exact hB k (.inl e)
    · exact hB k (.inr (.inr (.inl e)))
theorem Do.frees {w W W' : World} {B g n g9 c9 x : Nat} {vg vo vf : Value} {hs fr : List Nat} {os : List Bool} (h : Dm w g n vg vo vf hs os fr) (hf : w.ownsRow 0 3 1 vf fr.length (ic fr)) (hb : Below w.heap.size w W) (ho : W'.ownsRow 0 3 1 (.slice (some ⟨g9, 0, none⟩) (fr.length + 1) c9) (fr.length + 1) (ic fr ++ [.int .i64 (x : Int)])) (hg : W.grownBy W' vf.ownBlock) (ha : vf.ownBlock = some g9 ∨ g9 = W.heap.size) (hB : ∀ k, k = g ∨ vg.ownBlock = some k ∨ vo.ownBlock = some k ∨ vf.ownBlock = some k → B ≤ k) :
    (W'.heap[g]? = some (.cells #[.int .i64 (n : Int), vg, vo, vf] 62 (0, 0))) ∧ Hid (Dm (W'.setCell ⟨g, 3, none⟩ (.slice (some ⟨g9, 0, none⟩) (fr.length + 1) c9)) g n vg vo (.slice (some ⟨g9, 0, none⟩) (fr.length + 1) c9) hs os (fr ++ [x]) ∧ (W'.setCell ⟨g, 3, none⟩ (.slice (some ⟨g9, 0, none⟩) (fr.length + 1) c9)).ownsRow 0 3 1 (.slice (some ⟨g9, 0, none⟩) (fr.length + 1) c9) (fr ++ [x]).length (ic (fr ++ [x])) ∧ (∀ k, k = g ∨ vg.ownBlock = some k ∨ vo.ownBlock = some k ∨ (Value.slice (some ⟨g9, 0, none⟩) (fr.length + 1) c9).ownBlock = some k → B ≤ k) ∧ Below B w (W'.setCell ⟨g, 3, none⟩ (.slice (some ⟨g9, 0, none⟩) (fr.length + 1) c9))) := by
  have hBw : B ≤ w.heap.size := Nat.le_trans (hB g (.inl rfl)) (Nat.le_of_lt h.lt)
  have hW := h.later hb
  have hsz := hb.size
  have hlt := hW.lt
  have hfl := (own_later hf hb).lt
  obtain ⟨a1, a2, a3, a4, ⟨a5, a6, a7⟩, a8, a9, a10⟩ := hW
  have hg1 := (hg.block g hlt (fun e => a7 e.symm)).trans a1
  have ne := grow_ne a7 hlt ha
  have k2 : W'.ownsRow 0 3 1 vg hs.length (ic hs) := own_kept a2 hg (fun k e1 e2 => a9 k e1 e2)
  have k3 : W'.ownsRow 0 4 1 vo os.length (bc os) := own_kept a3 hg (fun k e1 e2 => a10 k e1 e2)
  have ap1 : Ap (.slice (some ⟨g9, 0, none⟩) (fr.length + 1) c9) vg := grow_ap a9.symm (fun k e => (a2.lt k e).2) ha
  have ap2 : Ap (.slice (some ⟨g9, 0, none⟩) (fr.length + 1) c9) vo := grow_ap a10.symm (fun k e => (a3.lt k e).2) ha
  have n1 : (Value.slice (some ⟨g9, 0, none⟩) (fr.length + 1) c9).ownBlock ≠ some g := fun e => ne (by simpa [Value.ownBlock] using e)
  have ho' : W'.ownsRow 0 3 1 (.slice (some ⟨g9, 0, none⟩) (fr.length + 1) c9) (fr ++ [x]).length (ic (fr ++ [x])) := by
    rw [List.length_append, ic_append]
    exact ho
  have hfw : Fw W' (.slice (some ⟨g9, 0, none⟩) (fr.length + 1) c9) (fr ++ [x]) := own_fw ho'
  have hm : Mv w (W'.setCell ⟨g, 3, none⟩ (.slice (some ⟨g9, 0, none⟩) (fr.length + 1) c9)) (fun k => k = g ∨ vf.ownBlock = some k) := ((Mv.of_below hb _).grown hg (fun k _ e => .inr e)).set (.inl rfl) _ _
  refine ⟨hg1, ⟨?_, own_set k2 a5, own_set k3 a6, hfw.set n1, ⟨a5, a6, n1⟩, a8, ap1.symm, ap2.symm⟩, own_set ho' n1, fun k e => ?_, hm.below hBw (fun k e => ?_)⟩
  · rw [heap_setCell_same W' g 3 _ 62 _ hg1]
    rfl
  · rcases e with e | e | e | e
    · exact hB k (.inl e)
    · exact hB k (.inr (.inl e))
    · exact hB k (.inr (.inr (.inl e)))
    · simp only [Value.ownBlock, Option.some.injEq] at e
      subst e
      rcases ha with h' | h'
      · exact hB _ (.inr (.inr (.inr h')))
      · omega
  · rcases e with e | e
    · exact hB k (.inl e)
    · exact hB k (.inr (.inr (.inr e)))
set_option maxHeartbeats 8000000 in
set_option maxRecDepth 100000 in
theorem dfrom_walk (n : Nat) (v1 v2 : Value) (G F : List Int) (w : World) (h1 : Is w v1 G) (h2 : Is w v2 F) (hn1 : 1 ≤ n) (hn2 : n ≤ 200) (hl : G.length ≤ n) :
    Calls Try.prog 34 #[.int .i64 (n : Int), v1, v2] w (DGot w n G F) := by
  obtain ⟨i3, hi3, hx0, hx1, hx2⟩ := info_parts info3
  obtain ⟨i4, hi4, hy0, hy1, hy2⟩ := info_parts info4
  have H1 := hide h1
  have H2 := hide h2
  obtain ⟨ao1, c1, rfl, a1, a2, -⟩ := h1
  obtain ⟨ao2, c2, rfl, b1, b2, -⟩ := h2
  unfold maxLen at a2 b2
  have HN := hide (dnew_any n w hn1 hn2)
  have t1 : ¬ (G.length : Int) > (n : Int) := by omega
  have t0 : decide (n < G.length) = false := by simp; omega
  go_enter Try.func34, Try.ntmps34
  go_wp2_with fail
  refine HN.out.mono ?_
  rintro e w1 ⟨rfl, hp, hb⟩
  have HP : Hid (Do w1 w.heap.size w.heap.size n [] []) := by
    obtain ⟨⟨vg, vo, vf, q1, q2, q3, q4, q5⟩, q6⟩ := hp
    refine ⟨vg, vo, vf, q1, ?_, fun k e => ?_, q6⟩
    · rcases q1.2.2.2.1 with ⟨rfl, -⟩ | ⟨gx, o, c, rfl, -, -, -, -⟩
      · exact World.ownsRow_nil _ _ _ _
      · exact absurd (by simpa [Value.ownBlock] using q5 gx rfl) (fun e => q1.2.2.2.2.1.2.2 (by rw [e]; rfl))
    · rcases e with e | e | e | e
      · omega
      · have := q3 k e; omega
      · have := q4 k e; omega
      · have := q5 k e; omega
  have HB := hide hb
  clear hp hb HN
  go_wp2_with fail
  go_loopw [10] (fun v10 wr => ∃ (i : Nat) (gs : List Nat), i ≤ G.length ∧ v10 = .int .i64 (i : Int) ∧ Hid (up gs = G.take i) ∧ Hid (Below w.heap.size w wr) ∧ Hid (Do wr w.heap.size w.heap.size n gs [])) (fun v10 _ => G.length - (intOf v10).toNat)
  case atStart => exact ⟨0, [], Nat.zero_le _, rfl, rfl, HB, HP⟩
  case round =>
    clear HP HB
    obtain ⟨i, gs, hi, rfl, HU, HB, HP⟩ := hrel
    have hgl := up_len HU.out hi
    by_cases hlt : i < G.length
    · have t2 : (i : Int) < (G.length : Int) := by omega
      have HI1 := hide (H1.out.on HB.out)
      obtain ⟨_, _, ee, -, -, hcs⟩ := id HI1.out
      simp only [Value.slice.injEq] at ee
      obtain ⟨rfl, -, rfl⟩ := ee
      obtain ⟨g1, o1, rfl, hc⟩ := hcs i hlt
      clear hcs
      obtain ⟨x, hx⟩ : ∃ x, x = G[i] := ⟨_, rfl⟩
      rw [← hx] at hc
      by_cases hbad : x < 1 ∨ x > 1000001
      · have HG : Hid (¬ Good (n : Int) G F) := fun ⟨n', gs', fr', e1, e2, e3, e4⟩ => by
          subst e2
          rw [up_at] at hx
          have := e4.2.2.2.1 _ (List.getElem_mem (by simpa [up] using hlt : i < gs'.length))
          omega
        clear hx
        by_cases hx1 : x < 1
        · clear hbad
          go_wp2_with fail
          go_ret2
          exact ⟨HB.out, .inl ⟨rfl, HG.out⟩⟩
        · have hx2 : x > 1000001 := by omega
          clear hbad
          go_wp2_with fail
          go_ret2
          exact ⟨HB.out, .inl ⟨rfl, HG.out⟩⟩
      · obtain ⟨y, rfl⟩ : ∃ y : Nat, x = (y : Int) := ⟨x.toNat, by omega⟩
        have t3 : ¬ (y : Int) < 1 := by omega
        have t4 : ¬ (y : Int) > 1000001 := by omega
        have HU1 := hide (up_take HU.out hlt hx.symm)
        obtain ⟨m, hm⟩ : ∃ m, m = min y 1000000 := ⟨_, rfl⟩
        have CG : Hid (∀ W, Below w.heap.size w W → W.cell? ⟨g1, o1 + i, none⟩ = some (.int .i64 (y : Int))) := fun W hW => by
          obtain ⟨_, _, ee, -, -, hcs⟩ := H1.out.on hW
          simp only [Value.slice.injEq] at ee
          obtain ⟨rfl, -, rfl⟩ := ee
          obtain ⟨g1', o1', ee, hc'⟩ := hcs i hlt
          simp only [Option.some.injEq, Addr.mk.injEq, and_true] at ee
          obtain ⟨rfl, rfl⟩ := ee
          rw [hx]
          exact hc'
        have hok := HP.out.dl.2
        have HOK := hide (ok_add hok (by omega) (by omega : 1 ≤ y) (by omega))
        have HMM := hide hm
        obtain ⟨w2, rfl⟩ : ∃ x, x = wr := ⟨_, rfl⟩
        have hgb : gs.length ≤ 200 := by omega
        clear hx hbad HU HI1 hok hgl
        go_upto_if 51 with fail
        go_cut [11] (fun v11 wx => v11 = .int .i64 (m : Int) ∧ wx = w2)
        case first =>
          by_cases hle : y ≤ 1000000
          · have t5 : ¬ (y : Int) > 1000000 := by omega
            obtain rfl : m = y := by omega
            clear hm
            go_wp2_with fail
            go_meet
            exact ⟨rfl, rfl⟩
          · have t5 : (y : Int) > 1000000 := by omega
            obtain rfl : m = 1000000 := by omega
            clear hm
            go_wp2_with fail
            go_meet
            exact ⟨rfl, rfl⟩
        obtain ⟨rfl, rfl⟩ := hcut
        obtain ⟨w3, rfl⟩ : ∃ x, x = wc := ⟨_, rfl⟩
        obtain ⟨vg, vo, vf, q1, q2, q3, q4⟩ := HP.out
        obtain ⟨aog, cg, hvg⟩ := own_len q1.2.1
        obtain ⟨aoo, co, hvo⟩ := own_len q1.2.2.1
        rw [hsOf_len] at hvg
        rw [osOf_len] at hvo
        subst hvg
        subst hvo
        have hl1 : (hsOf gs).length = gs.length := hsOf_len gs
        have hl2 : (osOf gs []).length = gs.length := osOf_len gs []
        obtain ⟨-, d1, d2, d3⟩ := q1.cell
        have Q1 := hide q1
        have Q2 := hide q2
        have Q3 := hide q3
        have RG : Hid ((w3.alloc (.cells #[.int .i64 (m : Int)] 3)).ownsRow 0 3 1 (.slice aog gs.length cg) gs.length (ic (hsOf gs))) := by
          have := q1.2.1.alloc (.cells #[.int .i64 (m : Int)] 3)
          rw [hl1] at this
          exact this
        have hwm : w.heap.size ≤ w3.heap.size := HB.out.size
        clear q1 q2 q3 q4 HP hm hc
        go_wp2_with (at_builtin; refine wpList_append_lies _ rfl _ _ 33 rfl 0 3 i3 (.int .i64 0) 1 8 Try.underlying33 hi3 hx0 hx1 hx2 rfl (by decide) _ _ _ rfl RG.out ⟨w3.heap.size, 0, none⟩ 1 1 [.int .i64 (m : Int)] rfl rfl ?kk1 ?kk2 (by omega) (by unfold maxLen; omega) (by omega) (Nat.zero_le _) _ rfl ?_)
        case kk2 => rfl
        intro g9 c9 w9 ho9 hg9 ha9 _
        obtain ⟨p1, P2⟩ := Do.gens (x := m) Q1.out (below_alloc w3 (.cells #[.int .i64 (m : Int)] 3)) (by rw [hl1]; exact ho9) hg9 (by simpa using ha9) Q2.out Q3.out
        rw [hl1] at P2
        have x1 : w9.cell? ⟨w.heap.size, 1, none⟩ = some (.slice aog gs.length cg) := (cell_of_row w9 w.heap.size 1 _ 62 (0, 0) p1).trans rfl
        have y1 : w9.frozen? ⟨w.heap.size, 1, none⟩ = false := frozen_of_row w9 w.heap.size 1 _ 62 p1
        clear ho9 hg9 ha9 p1 d1 d2 d3 Q1 Q2 Q3 RG
        go_upto_region 13 with fail
        obtain ⟨w4, hw4⟩ : ∃ X, X = w9.setCell ⟨w.heap.size, 1, none⟩ (.slice (some ⟨g9, 0, none⟩) (gs.length + 1) c9) := ⟨_, rfl⟩
        rw [← hw4] at P2 ⊢
        clear hw4 x1 y1
        have HB4 := hide (HB.out.trans P2.out.2.2.2)
        obtain ⟨-, d1, d2, d3⟩ := P2.out.1.cell
        have e1 := CG.out w4 HB4.out
        have k2 : ∀ o, (w4.alloc o).cell? ⟨w.heap.size, 2, none⟩ = some (.slice aoo gs.length co) := fun o => (P2.out.1.later (below_alloc w4 o)).cell.2.2.1
        have RO : Hid ((w4.drew.alloc (.cells #[.bool (decide (y ≤ 1000000))] 4)).ownsRow 0 4 1 (.slice aoo gs.length co) gs.length (bc (osOf gs []))) := by
          have := own_later P2.out.1.2.2.1 (below_on (below_drew w4) (below_alloc _ (.cells #[.bool (decide (y ≤ 1000000))] 4)))
          rw [hl2] at this
          exact this
        have K : Hid (∀ (g8 c8 : Nat) (w8 : World), w8.ownsRow 0 4 1 (.slice (some ⟨g8, 0, none⟩) (gs.length + 1) c8) (gs.length + 1) (bc (osOf gs []) ++ [.bool (decide (y ≤ 1000000))]) → (w4.drew.alloc (.cells #[.bool (decide (y ≤ 1000000))] 4)).grownBy w8 (Value.slice aoo gs.length co).ownBlock → ((Value.slice aoo gs.length co).ownBlock = some g8 ∨ g8 = (w4.drew.alloc (.cells #[.bool (decide (y ≤ 1000000))] 4)).heap.size) → (w8.heap[w.heap.size]? = some (.cells #[.int .i64 (n : Int), .slice (some ⟨g9, 0, none⟩) (gs.length + 1) c9, .slice aoo gs.length co, vf] 62 (0, 0))) ∧ Hid (Do (w8.setCell ⟨w.heap.size, 2, none⟩ (.slice (some ⟨g8, 0, none⟩) (gs.length + 1) c8)) w.heap.size w.heap.size n (gs ++ [y]) [] ∧ Below w.heap.size w (w8.setCell ⟨w.heap.size, 2, none⟩ (.slice (some ⟨g8, 0, none⟩) (gs.length + 1) c8)))) := fun g8 c8 w8 r1 r2 r3 => by
          obtain ⟨z1, z2⟩ := Do.ons (x := decide (y ≤ 1000000)) P2.out.1 (below_on (below_drew w4) (below_alloc _ (.cells #[.bool (decide (y ≤ 1000000))] 4))) (by rw [hl2]; exact r1) r2 r3 P2.out.2.1 P2.out.2.2.1
          rw [hl2] at z2
          obtain ⟨z3, z4, z5, z6⟩ := z2.out
          rw [HMM.out, hs_add, os_add] at z3
          exact ⟨z1, ⟨_, _, _, z3, z4, z5, HOK.out⟩, HB4.out.trans z6⟩
        have dc : decide ((y : Int) ≤ 1000000) = decide (y ≤ 1000000) := by
          by_cases hle : y ≤ 1000000
          · simp [hle]; omega
          · simp [hle]; omega
        obtain ⟨by', hby⟩ : ∃ b, b = decide (y ≤ 1000000) := ⟨_, rfl⟩
        rw [← hby] at RO K dc
        clear hby HB P2 HMM HOK
        go_region_law (refine step_append_lies _ rfl (.tmp 66) (.tmp 72) 60 rfl 0 4 i4 (.bool false) 1 1 Try.underlying60 hi4 hy0 hy1 hy2 rfl (by decide) (.slice aoo gs.length co) gs.length (bc (osOf gs [])) (by simp [Act.eval]) RO.out ⟨w4.heap.size, 0, none⟩ 1 1 [.bool by'] (by simp [Act.eval]) rfl (by intro j u hj; match j, hj with | 0, hj => simp at hj; subst hj; simp [Addr.add]) (by intro u hu; simp at hu; subst hu; rfl) (by omega) (by unfold maxLen; omega) (by omega) (Nat.zero_le _) _ rfl ?_; intro g8 c8 w8 r1 r2 r3 _; obtain ⟨z1, Z2⟩ := K.out g8 c8 w8 r1 r2 r3; have x2 : w8.cell? ⟨w.heap.size, 2, none⟩ = some (.slice aoo gs.length co) := (cell_of_row w8 w.heap.size 2 _ 62 (0, 0) z1).trans rfl; have y2 : w8.frozen? ⟨w.heap.size, 2, none⟩ = false := frozen_of_row w8 w.heap.size 2 _ 62 z1; clear r1 r2 r3 z1)
        all_goals
          go_wp2_with fail
          go_roundw
          case rel => exact ⟨i + 1, gs ++ [y], by omega, by go_num, HU1, Z2.out.2, Z2.out.1⟩
          case measure => simp [intOf]; omega
    · obtain rfl : i = G.length := by omega
      have HU1 : Hid (G = up gs) := by
        have := HU.out
        rw [List.take_length] at this
        exact this.symm
      have t2 : ¬ (G.length : Int) < (G.length : Int) := by omega
      have hgb : gs.length ≤ 200 := by omega
      have HGL := hide hgl
      clear HU hgl
      go_wp2_with fail
      go_loopw [12] (fun v12 wr => ∃ (k : Nat) (fr : List Nat), k ≤ F.length ∧ v12 = .int .i64 (k : Int) ∧ Hid (up fr = F.take k) ∧ Hid (Below w.heap.size w wr) ∧ Hid (Do wr w.heap.size w.heap.size n gs fr)) (fun v12 _ => F.length - (intOf v12).toNat)
      case atStart => exact ⟨0, [], Nat.zero_le _, rfl, rfl, HB, HP⟩
      case round =>
        clear HP HB
        obtain ⟨k, fr, hk, rfl, HU, HB, HP⟩ := hrel
        by_cases hlt2 : k < F.length
        · have t3 : (k : Int) < (F.length : Int) := by omega
          obtain ⟨_, _, ee, -, -, hcs⟩ := id (H2.out.on HB.out)
          simp only [Value.slice.injEq] at ee
          obtain ⟨rfl, -, rfl⟩ := ee
          obtain ⟨g2, o2, rfl, hc⟩ := hcs k hlt2
          clear hcs
          have HNG := hide (not_good (n := n) (k := k) HU1.out HU.out hlt2)
          obtain ⟨x, hx⟩ : ∃ x, x = F[k] := ⟨_, rfl⟩
          rw [← hx] at hc HNG
          by_cases hx0' : x < 0
          · have HG := hide (HNG.out (.inl (by simp [isOn]; omega)))
            clear hx HNG HP
            go_wp2_with fail
            go_ret2
            exact ⟨HB.out, .inl ⟨rfl, HG.out⟩⟩
          · obtain ⟨y, rfl⟩ : ∃ y : Nat, x = (y : Int) := ⟨x.toNat, by omega⟩
            by_cases hyl : y < G.length
            · have hyg : y < gs.length := by have := HGL.out; omega
              have t4 : (y : Int) < (G.length : Int) := by omega
              have t5 : ¬ (G.length : Int) ≤ (y : Int) := by omega
              obtain ⟨_, _, ee, -, -, hcs⟩ := id (H1.out.on HB.out)
              simp only [Value.slice.injEq] at ee
              obtain ⟨rfl, -, rfl⟩ := ee
              obtain ⟨g1, o1, rfl, hc1⟩ := hcs y hyl
              clear hcs
              have hgy : G[y] = ((gs.getD y 0 : Nat) : Int) := by
                have : ∀ (h : y < (up gs).length), (up gs)[y] = ((gs.getD y 0 : Nat) : Int) := fun h => by
                  rw [up_at]
                  simp [hyg]
                have h2 := HU1.out
                subst h2
                exact this _
              rw [hgy] at hc1
              by_cases hbig : gs.getD y 0 < 1000000
              · have t6 : ¬ ((gs.getD y 0 : Nat) : Int) ≥ 1000000 := by omega
                obtain ⟨vg, vo, vf, q1, q2, q3, q4⟩ := HP.out
                have HFR := hide (dfree_any y q1)
                by_cases hmem : y ∈ fr
                · have HG := hide (HNG.out (.inl (by simp [isOn, on, hmem])))
                  have hd : decide (y ∈ fr) = true := by simp [hmem]
                  rw [hd] at HFR
                  generalize gs.getD y 0 = z at *
                  clear hx HNG HP q1 q2 q3 q4 hgy hmem hd
                  go_wp2_with fail
                  refine HFR.out.mono ?_
                  rintro e wq ⟨rfl, rfl⟩
                  go_wp2_with fail
                  go_ret2
                  exact ⟨HB.out, .inl ⟨rfl, HG.out⟩⟩
                · have hd : decide (y ∈ fr) = false := by simp [hmem]
                  rw [hd] at HFR
                  have hos := os_give (fr := fr) hyg
                  have hok := ok_give q4 hyg (by omega) hmem
                  rw [if_neg (by omega), if_neg (by omega)] at hos hok
                  have HOS := hide hos
                  have HOK := hide hok
                  have HU2 := hide (up_take HU.out hlt2 hx.symm)
                  obtain ⟨go, co, rfl, -, -⟩ := own_form q1.2.2.1 (by rw [osOf_len]; omega)
                  obtain ⟨aof, cf, rfl⟩ := own_len q2
                  have hl2 : (osOf gs fr).length = gs.length := osOf_len gs fr
                  have e2 := own_bool q1.2.2.1 y (by rw [osOf_len]; exact hyg)
                  have f2 := q1.2.2.1.frozenAt y
                  have q5 := q1.set_on y false
                  have q6 := own_set (g := go) (k := y) (u := .bool false) q2 (fun e => q1.2.2.2.2.2.2.2 go rfl e)
                  obtain ⟨-, c1', c2', c3'⟩ := q1.cell
                  rw [hl2] at c2'
                  have u1 : (y : Int) < (gs.length : Int) := by omega
                  have hlt3 := q1.lt
                  have hfl : fr.length ≤ 200 := by have := q4.free_len; omega
                  have hbw : Below w.heap.size wr (wr.setCell ⟨go, y, none⟩ (.bool false)) := (Below.refl _ wr).grown (grown_set wr go y _) HB.out.size (fun q e => by cases e; exact q3 go (.inr (.inr (.inl rfl))))
                  have Q5 := hide q5
                  have Q6 := hide q6
                  have Q3 := hide q3
                  have HB5 := hide (HB.out.trans hbw)
                  generalize gs.getD y 0 = z at *
                  clear hx HNG HP q1 q2 q3 q4 q5 q6 hgy hmem hd hos hok HU hbw
                  go_wp2_with fail
                  refine HFR.out.mono ?_
                  rintro e wq ⟨rfl, rfl⟩
                  clear HFR
                  go_upto_region 24 with fail
                  obtain ⟨w6, hw6⟩ : ∃ X, X = wq.setCell ⟨go, y, none⟩ (.bool false) := ⟨_, rfl⟩
                  rw [← hw6] at Q5 Q6 HB5 ⊢
                  clear hw6 c1' c2' c3' e2 f2
                  obtain ⟨-, d1, d2, d3⟩ := Q5.out.cell
                  go_wp2_with (at_builtin; refine wpList_append_lies _ rfl _ _ 33 rfl 0 3 i3 (.int .i64 0) 1 8 Try.underlying33 hi3 hx0 hx1 hx2 rfl (by decide) _ _ _ rfl (Q6.out.alloc _) ⟨w6.heap.size, 0, none⟩ 1 1 [.int .i64 (y : Int)] rfl rfl ?m1 ?m2 (by omega) (by unfold maxLen; omega) (by omega) (Nat.zero_le _) _ rfl ?_)
                  case m1 =>
                    intro j u hj
                    match j, hj with
                    | 0, hj => simp at hj; subst hj; simp [Addr.add]
                  case m2 =>
                    intro u hu
                    simp at hu
                    subst hu
                    rfl
                  intro g9 c9 w9 ho9 hg9 ha9 _
                  obtain ⟨p1, P2⟩ := Do.frees (x := y) Q5.out Q6.out (below_alloc w6 (.cells #[.int .i64 (y : Int)] 3)) ho9 hg9 (by simpa using ha9) Q3.out
                  have x1 : w9.cell? ⟨w.heap.size, 3, none⟩ = some (.slice aof fr.length cf) := (cell_of_row w9 w.heap.size 3 _ 62 (0, 0) p1).trans rfl
                  have y1 : w9.frozen? ⟨w.heap.size, 3, none⟩ = false := frozen_of_row w9 w.heap.size 3 _ 62 p1
                  have HF1 : Hid (Do (w9.setCell ⟨w.heap.size, 3, none⟩ (.slice (some ⟨g9, 0, none⟩) (fr.length + 1) c9)) w.heap.size w.heap.size n gs (fr ++ [y]) ∧ Below w.heap.size w (w9.setCell ⟨w.heap.size, 3, none⟩ (.slice (some ⟨g9, 0, none⟩) (fr.length + 1) c9))) := by
                    obtain ⟨r1, r2, r3, r4⟩ := P2.out
                    rw [HOS.out] at r1
                    exact ⟨⟨_, _, _, r1, r2, r3, HOK.out⟩, HB5.out.trans r4⟩
                  clear ho9 hg9 ha9 p1 P2 d1 d2 d3 Q5 Q6 Q3 HB5 HOS HOK
                  go_wp2_with fail
                  go_roundw
                  case rel => exact ⟨k + 1, fr ++ [y], by omega, by go_num, HU2, HF1.out.2, HF1.out.1⟩
                  case measure => simp [intOf]; omega
              · have HG : Hid (¬ Good (n : Int) G F) := by
                  refine HNG.out ?_
                  by_cases h6 : gs.getD y 0 = 1000000
                  · exact .inr (by simpa using h6)
                  · refine .inl ?_
                    simp only [isOn, on, Int.toNat_natCast, Bool.and_eq_false_iff, decide_eq_false_iff_not]
                    exact .inr (.inl (by omega))
                have t6 : ((gs.getD y 0 : Nat) : Int) ≥ 1000000 := by omega
                generalize gs.getD y 0 = z at *
                clear hx HNG HP hgy
                go_wp2_with fail
                go_ret2
                exact ⟨HB.out, .inl ⟨rfl, HG.out⟩⟩
            · have t4 : (G.length : Int) ≤ (y : Int) := by omega
              have HG := hide (HNG.out (.inl (by simp [isOn]; intro h; have := HGL.out; omega)))
              clear hx HNG HP
              go_wp2_with fail
              go_ret2
              exact ⟨HB.out, .inl ⟨rfl, HG.out⟩⟩
        · obtain rfl : k = F.length := by omega
          have HU2 : Hid (F = up fr) := by
            have := HU.out
            rw [List.take_length] at this
            exact this.symm
          have t3 : ¬ (F.length : Int) < (F.length : Int) := by omega
          clear HU
          go_wp2_with fail
          go_ret2
          exact ⟨HB.out, .inr ⟨_, n, gs, fr, rfl, rfl, HU1.out, HU2.out, HP.out.dl⟩⟩
theorem dfrom_any (most : Int) (v1 v2 : Value) (G F : List Int) (w : World) (h1 : Is w v1 G) (h2 : Is w v2 F) : Calls Try.prog 34 #[.int .i64 most, v1, v2] w (DGot w most G F) := by
  by_cases hb : most < 1 ∨ most > 200 ∨ (G.length : Int) > most
  · exact dfrom_bad most v1 v2 G F w h1 h2 hb
  · obtain ⟨n, rfl⟩ : ∃ n : Nat, most = (n : Int) := ⟨most.toNat, by omega⟩
    exact dfrom_walk n v1 v2 G F w h1 h2 (by omega) (by omega) (by omega)
end Go.Proofs.Ytejbdhbphbgckaa
