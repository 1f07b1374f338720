import Derived.Test.YtpolajoephjdhaaGreatDoorEdM
import Derived.Test.YtpolajoephjdhaaGreatDoorLsL
import Derived.Test.YtpolajoephjdhaaGreatDoorLpA
import Derived.Test.YtpolajoephjdhaaGreatDoorOwA
import Derived.Test.YtpolajoephjdhaaGreatDoorBkJ
import Derived.Deep.AppendLies
/-
  Numbers in a block of their own; the law's set.
-/
namespace Go.Proofs.YtpolajoephjdhaaGreatDoor
open Go.RowKit
set_option maxRecDepth 100000
def RwN (w : World) (g : Nat) (l : List Int) : Prop := w.heap[g]? = some (.cells (intC l).toArray 3 (0, 0))
theorem RwN.lt {w : World} {g : Nat} {l : List Int} (h : RwN w g l) : g < w.heap.size := lt_of_block h
theorem RwN.cell {w : World} {g : Nat} {l : List Int} (h : RwN w g l) {k : Nat} (hk : k < l.length) : w.cell? ⟨g, k, none⟩ = some (.int .i64 l[k]) := by
  rw [cell_of_row w g k _ 3 (0, 0) h]
  simp [intC, hk]
theorem RwN.frozen {w : World} {g : Nat} {l : List Int} (h : RwN w g l) (q : Nat) : w.frozen? ⟨g, q, none⟩ = false := frozen_of_row w g q _ 3 h
theorem RwN.set {w : World} {g : Nat} {l : List Int} (h : RwN w g l) (k : Nat) (x : Int) : RwN (w.setCell ⟨g, k, none⟩ (.int .i64 x)) g (l.set k x) := by
  have := heap_setCell_same w g k _ 3 (.int .i64 x) h
  unfold RwN
  rw [this]
  simp [intC, List.map_set]
theorem RwN.mv {w w' : World} {g : Nat} {l : List Int} {S : Nat → Prop} (h : RwN w g l) (hm : Mv w w' S) (hs : ¬ S g) : RwN w' g l := hm.at h hs
theorem RwN.later {w w' : World} {g : Nat} {l : List Int} (h : RwN w g l) (hb : Below w.heap.size w w') : RwN w' g l := (hb.block g h.lt).trans h
theorem RwN.nl {w : World} {g n c : Nat} {l r : List Int} (h : RwN w g (l ++ r)) (hn : n = l.length) (hc : n ≤ c) (hc2 : c ≤ maxLen) (h6 : ∀ i ∈ l, I6 i) : Nl Qt w (.slice (some ⟨g, 0, none⟩) n c) l := by
  subst hn
  refine ⟨_, c, rfl, hc, hc2, fun _ => ⟨g, 0, rfl, trivial, fun i hi => ⟨h6 _ (List.getElem_mem hi), ?_⟩⟩⟩
  rw [Nat.zero_add, h.cell (by rw [List.length_append]; omega), List.getElem_append_left hi]
def wid7 (l : List Int) : List Int := l ++ List.replicate 80 (-7)
def filN (l : List Int) (k : Nat) : List Int := l ++ (List.replicate k (-7) ++ List.replicate (80 - k) 0)
theorem filN_len (l : List Int) (k : Nat) (hk : k ≤ 80) : (filN l k).length = l.length + 80 := by simp [filN]; omega
theorem filN_set (l : List Int) (k : Nat) (hk : k < 80) : (filN l k).set (l.length + k) (-7) = filN l (k + 1) := by
  unfold filN
  rw [List.set_append_right _ _ (by omega), show l.length + k - l.length = k by omega, List.set_append_right _ _ (by simp), show 80 - k = (80 - (k + 1)) + 1 by omega, List.replicate_succ]
  simp [List.replicate_succ', List.append_assoc]
theorem filN_end (l : List Int) : filN l 80 = wid7 l := by simp [filN, wid7]
theorem made_ints (n : Nat) : (madeCells #[Value.int IntKind.i64 0] n).toList = intC (List.replicate n 0) := by
  rw [toList_madeCells_one]
  simp [intC]
theorem sizeN : (Tryz.prog.info? 3).map (·.size) = some 1 := by kernel_rfl
theorem splice_N (l : List Int) : splice (intC (List.replicate (l.length + 80) 0)) 0 (intC l) = intC (filN l 0) := by
  unfold splice filN
  simp [intC]
theorem intC_one (l : List Int) : ∀ v ∈ intC l, v.oneCell' = true := fun v hv => by
  unfold intC at hv
  obtain ⟨x, -, rfl⟩ := List.mem_map.1 hv
  rfl
theorem Nl.src {Q : Nat → Prop} {w w' : World} {ao : Option Addr} {n c : Nat} {l : List Int} (h : Nl Q w (.slice ao n c) l) (hb : Below w.heap.size w w') : 0 < (intC l).length → ∃ ad, ao = some ad ∧ ∀ j v, (intC l)[j]? = some v → w'.cell? (ad.add j) = some v := by
  intro h0
  have hl : (intC l).length = l.length := by simp [intC]
  obtain ⟨g, o, rfl, -⟩ := (h.later hb).nth (k := 0) (by omega)
  refine ⟨_, rfl, fun j v hv => ?_⟩
  have hj : j < l.length := by
    have := (List.getElem?_eq_some_iff.1 hv).1
    omega
  obtain ⟨g', o', e, -, d0, -⟩ := (h.later hb).nth (k := j) hj
  simp only [Option.some.injEq, Addr.mk.injEq, and_true] at e
  obtain ⟨rfl, rfl⟩ := e
  rw [show (⟨g, o, none⟩ : Addr).add j = ⟨g, o + j, none⟩ by simp [Addr.add], d0]
  simpa [intC, hj] using hv
set_option maxHeartbeats 4000000 in
theorem lset_at {Q : Nat → Prop} {W : World} {n c N kn : Nat} {ao : Option Addr} {vk : Value} {ks : List Value} (l : List Int) (h : Nl Q W (.slice ao n c) l) (hz : n ≤ 1048576) (hk : W.ownsRow N 42 1 vk kn ks) (hN : N ≤ W.heap.size) (hkn : kn ≤ 1000000000) : Calls Tryz.prog 13 #[.slice ao n c, vk] W fun e w' => ∃ g vk', e = .returned (.tuple #[.slice (some ⟨g, 0, none⟩) n (n + 80), vk']) ∧ W.heap.size ≤ g ∧ RwN w' g (wid7 l) ∧ w'.ownsRow N 42 1 vk' (kn + 1) (ks ++ [.slice (some ⟨g, 0, none⟩) (n + 80) (n + 80)]) ∧ Mv W w' (fun j => vk.ownBlock = some j) ∧ (∀ j, vk'.ownBlock = some j → W.heap.size ≤ j ∨ vk.ownBlock = some j) := by
  have hn := nl_len h
  have hcc : n ≤ c ∧ c ≤ 9223372036854775807 := by
    obtain ⟨a9, c', e, h1, h2, -⟩ := h
    injection e with _ e2 e3
    unfold maxLen at h2
    omega
  obtain ⟨hc1, hc2⟩ := hcc
  have H := hide h
  have HN := hide hn
  have HK := hide hk
  have NN := hide hN
  obtain ⟨ak, ck, rfl⟩ := own_len hk
  obtain ⟨ic, hi, hz0, hz1, hz2⟩ := info_parts infoN
  clear h hn hk hN
  go_enter Tryz.func13, Tryz.ntmps13
  go_wp2_with (at_make; refine wpList_make_full _ rfl _ _ 42 rfl W.heap.size 3 ic (.int .i64 0) 1 Tryz.underlying42 hi hz0 hz1 .i64 .i64 _ _ (n + 80) rfl rfl ?c1 ?c2 ?c3 ?c4 ?c5 ?_)
  case c1 => omega
  case c2 => omega
  case c3 => rw [hz2]; omega
  case c4 => unfold maxLen; omega
  case c5 => omega
  intro w2 hown hgrow
  rw [made_ints] at hown
  have hb2 : Below W.heap.size W w2 := (Below.refl _ _).grown hgrow (Nat.le_refl _) (by intro k hk; cases hk)
  have hr2 := (own_block hown).1
  have HS := hide (H.out.src hb2)
  obtain ⟨g, hg⟩ : ∃ g, g = W.heap.size := ⟨_, rfl⟩
  rw [← hg] at hr2 ⊢
  have HG : Hid (g = W.heap.size) := hg
  clear hown hgrow hg
  go_wp2_with (refine wpList_copy_splice rfl _ _ 42 42 rfl 3 Tryz.underlying42 sizeN _ _ _ _ _ _ rfl rfl g 0 (intC (List.replicate (n + 80) 0)) 3 hr2 (intC l) ?d1 ?d2 ?d3 (intC_one l) W.heap.size W hb2 (by rw [HG.out]; exact Nat.le_refl _) ?_)
  case d1 => rw [intC_len, ← HN.out]; show n = min n (n + 80); omega
  case d2 => intro h0; first | exact ⟨rfl, HS.out h0⟩ | exact HS.out h0
  case d3 => rw [intC_len, intC_len, List.length_replicate, ← HN.out]; omega
  intro w3 hr3 hb3
  have R3 : Hid (RwN w3 g (filN l 0)) := by
    have := hr3.out
    rw [HN.out, splice_N] at this
    exact this
  have X3 := hide hb3
  have HL : Hid (∀ k, k ≤ 80 → (filN l k).length = n + 80) := fun k hk => by rw [filN_len l k hk, HN.out]
  clear hr2 hb2 hr3 hb3 HS hi hz0 hz1 hz2
  go_wp2_with fail
  go_loopw [7] (fun v wr => ∃ k : Nat, v = .int .i64 ((n + k : Nat) : Int) ∧ k ≤ 80 ∧ Hid (RwN wr g (filN l k)) ∧ Hid (Below W.heap.size W wr)) (fun v _ => n + 80 - (intOf v).toNat)
  case atStart => exact ⟨0, rfl, by omega, R3.out, X3.out⟩
  case round =>
    obtain ⟨k, rfl, hk, hr, hb⟩ := hrel
    by_cases hlt : k < 80
    · have y0 := hr.out.cell (k := n + k) (by rw [HL.out k hk]; omega)
      have hf := hr.out.frozen (n + k)
      generalize (filN l k)[n + k]'(by rw [HL.out k hk]; omega) = old at y0
      have NX : Hid (RwN (wr.setCell ⟨g, n + k, none⟩ (.int .i64 (-7))) g (filN l (k + 1))) := by
        have := hr.out.set (n + k) (-7)
        rw [HN.out, filN_set l k hlt, ← HN.out] at this
        exact this
      have BX : Hid (Below W.heap.size W (wr.setCell ⟨g, n + k, none⟩ (.int .i64 (-7)))) := hb.out.setCell (p := ⟨g, n + k, none⟩) (by show W.heap.size ≤ g; rw [HG.out]; exact Nat.le_refl _) _
      go_wp2_with fail
      exact ⟨⟨k + 1, by go_num, by omega, NX.out, BX.out⟩, by simp [intOf]; omega⟩
    · obtain rfl : k = 80 := by omega
      have R4 : Hid (RwN wr g (wid7 l)) := by
        have := hr.out
        rw [filN_end] at this
        exact this
      have O4 := hide (own_later HK.out hb.out)
      have X4 := hide hb.out
      obtain ⟨il, ki, kz0, kz1, kz2⟩ := info_parts infoLN
      have cast : ((n + 80 : Nat) : Int) = (n : Int) + 80 := by omega
      have O5 : Hid (∀ w', Below wr.heap.size wr w' → w'.ownsRow N 42 1 (.slice ak kn ck) kn ks) := fun w' hb => own_later O4.out hb
      have hNs : N ≤ wr.heap.size := Nat.le_trans NN.out X4.out.size
      have hlg := R4.out.lt
      have hle : (n : Int) ≤ (n : Int) + 80 := by omega
      clear hr hb R3 X3 H
      go_upto_region 7 with fail
      refine wp_region_noPanic ?_
      refine wp_region_held_drew (S := (fun _ => True)) (by kernel_rfl) (trivial) (fun hHeld => ?_)
      refine' wpAnyH_take (i := 0) (oi := { dst := some 26, op := Go.Op.move (Go.Operand.tmp 6), type := 42, pos := "code.go:261", after := #[], guard := none }) (v := _) rfl (by kernel_rfl) (by kernel_rfl) (by kernel_rfl) (fun _ _ _ h => h) (Or.inl ⟨by rfl, ?hyr5_0⟩) (by assumption) ?rer5_0
      case hyr5_0 => (intro W hSw; (try dsimp only at hSw); go_simp; try with_reducible rfl)
      try simp only [Act.put, List.setIfInBounds_toArray, List.set_cons_zero, List.set_cons_succ]
      refine' wpAnyH_take (i := 1) (oi := { dst := some 27, op := Go.Op.move (Go.Operand.tmp 0), type := 42, pos := "code.go:261", after := #[], guard := none }) (v := _) rfl (by kernel_rfl) (by kernel_rfl) (by kernel_rfl) (fun _ _ _ h => h) (Or.inl ⟨by rfl, ?hyr5_1⟩) (by assumption) ?rer5_1
      case hyr5_1 => (intro W hSw; (try dsimp only at hSw); go_simp; try with_reducible rfl)
      try simp only [Act.put, List.setIfInBounds_toArray, List.set_cons_zero, List.set_cons_succ]
      refine' wpAnyH_take (i := 2) (oi := { dst := some 28, op := Go.Op.call { callee := Go.Callee.builtin Go.Builtin.len, args := #[Go.Operand.tmp 27], argTypes := #[42] }, type := 3, pos := "code.go:261", after := #[{ on := 1, ground := Go.Ground.data }], guard := none }) (v := _) rfl (by kernel_rfl) (by kernel_rfl) (by kernel_rfl) (fun _ _ _ h => h) (Or.inl ⟨by rfl, ?hyr5_2⟩) (by assumption) ?rer5_2
      case hyr5_2 => (intro W hSw; (try dsimp only at hSw); go_simp; try with_reducible rfl)
      try simp only [Act.put, List.setIfInBounds_toArray, List.set_cons_zero, List.set_cons_succ]
      refine' wpAnyH_take (i := 3) (oi := { dst := some 29, op := Go.Op.slice 42 (Go.Operand.tmp 26) none (some (Go.Operand.tmp 28)) none, type := 42, pos := "code.go:261", after := #[{ on := 0, ground := Go.Ground.data }, { on := 2, ground := Go.Ground.data }], guard := none }) (v := _) rfl (by kernel_rfl) (by kernel_rfl) (by kernel_rfl) (fun _ _ _ h => h) (Or.inl ⟨by rfl, ?hyr5_3⟩) (by assumption) ?rer5_3
      case hyr5_3 => (intro W hSw; (try dsimp only at hSw); go_simp; try with_reducible rfl)
      try simp only [Act.put, List.setIfInBounds_toArray, List.set_cons_zero, List.set_cons_succ]
      refine' wpAnyH_take (i := 4) (oi := { dst := some 30, op := Go.Op.move (Go.Operand.tmp 1), type := 41, pos := "code.go:261", after := #[], guard := none }) (v := _) rfl (by kernel_rfl) (by kernel_rfl) (by kernel_rfl) (fun _ _ _ h => h) (Or.inl ⟨by rfl, ?hyr5_4⟩) (by assumption) ?rer5_4
      case hyr5_4 => (intro W hSw; (try dsimp only at hSw); go_simp; try with_reducible rfl)
      try simp only [Act.put, List.setIfInBounds_toArray, List.set_cons_zero, List.set_cons_succ]
      refine' wpAnyH_take (i := 5) (oi := { dst := some 31, op := Go.Op.move (Go.Operand.tmp 6), type := 42, pos := "code.go:261", after := #[], guard := none }) (v := _) rfl (by kernel_rfl) (by kernel_rfl) (by kernel_rfl) (fun _ _ _ h => h) (Or.inl ⟨by rfl, ?hyr5_5⟩) (by assumption) ?rer5_5
      case hyr5_5 => (intro W hSw; (try dsimp only at hSw); go_simp; try with_reducible rfl)
      try simp only [Act.put, List.setIfInBounds_toArray, List.set_cons_zero, List.set_cons_succ]
      refine wpAnyH_ready (rs := [6]) (by kernel_rfl) (by simp) ?_
      refine AllReadyH.cons (o := { dst := some 32, op := Go.Op.buildSlice 41 1 #[(0, Go.Operand.tmp 31)], type := 41, pos := "code.go:261", after := #[{ on := 5, ground := Go.Ground.data }], guard := none }) rfl (fun K hK => ?_) AllReadyH.nil
      clear hHeld
      go_simp
      refine hK.out _ _ trivial (fun hHeld => ?_)
      clear hK K
      try simp only [Act.put, List.setIfInBounds_toArray, List.set_cons_zero, List.set_cons_succ]
      refine wpAnyH_ready (rs := [7]) (by kernel_rfl) (by simp) ?_
      refine AllReadyH.cons (o := { dst := some 33, op := Go.Op.call { callee := Go.Callee.builtin Go.Builtin.append, args := #[Go.Operand.tmp 30, Go.Operand.tmp 32], argTypes := #[41, 41] }, type := 41, pos := "code.go:261", after := #[{ on := 4, ground := Go.Ground.data }, { on := 6, ground := Go.Ground.data }], guard := none }) rfl (fun K hK => ?_) AllReadyH.nil
      refine step_append_lies _ rfl (.tmp 30) (.tmp 32) 41 rfl N 42 il (.slice none 0 0) 1 24 Tryz.underlying41 ki kz0 kz1 kz2 rfl (by decide) (.slice ak kn ck) kn ks (by simp [Act.eval]) (O5.out _ (below_on (below_drew wr) (below_alloc _ _))) ⟨wr.heap.size, 0, none⟩ 1 1 [.slice (some ⟨g, 0, none⟩) (n + 80) (n + 80)] (by simp [Act.eval]) rfl (by intro j u hj; match j, hj with | 0, hj => simp at hj; subst hj; simp [Addr.add]) (by intro u hu; simp at hu; subst hu; rfl) (by omega) (by unfold maxLen; omega) (by omega) (by simp; omega) _ rfl ?_
      intro g9 c9 w9 ho9 hg9 ha9 _
      have m9 := (Mv.of_below (below_on (below_drew wr) (below_alloc _ (.cells #[.slice (some ⟨g, 0, none⟩) (n + 80) (n + 80)] 42))) (fun j => (Value.slice ak kn ck).ownBlock = some j)).grown hg9 (fun j _ e => e)
      have M9 := hide m9
      have O9 := hide ho9
      have A9 : Hid ((Value.slice ak kn ck).ownBlock = some g9 ∨ wr.heap.size ≤ g9) := by
        rcases ha9 with e | e
        · exact .inl e
        · refine .inr ?_
          rw [e]
          simp
      clear ho9 hg9 ha9 m9
      refine hK.out _ _ trivial (fun hHeld => ?_)
      clear hK K
      try simp only [Act.put, List.setIfInBounds_toArray, List.set_cons_zero, List.set_cons_succ]
      refine' wpAnyH_take (i := 8) (oi := { dst := some 4, op := Go.Op.assign (Go.Operand.tmp 29), type := 42, pos := "code.go:261", after := #[{ on := 3, ground := Go.Ground.data }, { on := 7, ground := Go.Ground.chain }, { on := 0, ground := Go.Ground.phase }, { on := 1, ground := Go.Ground.phase }, { on := 2, ground := Go.Ground.phase }, { on := 3, ground := Go.Ground.phase }, { on := 4, ground := Go.Ground.textOnly Go.Departure.lateStores }, { on := 5, ground := Go.Ground.textOnly Go.Departure.lateStores }, { on := 6, ground := Go.Ground.textOnly Go.Departure.lateStores }, { on := 7, ground := Go.Ground.textOnly Go.Departure.lateStoresUnsure }], guard := none }) (v := _) rfl (by kernel_rfl) (by kernel_rfl) (by kernel_rfl) (fun _ _ _ h => h) (Or.inl ⟨by rfl, ?hyr5_8⟩) (by assumption) ?rer5_8
      case hyr5_8 => (intro W hSw; (try dsimp only at hSw); go_simp; try with_reducible rfl)
      try simp only [Act.put, List.setIfInBounds_toArray, List.set_cons_zero, List.set_cons_succ]
      refine' wpAnyH_take (i := 9) (oi := { dst := some 5, op := Go.Op.assign (Go.Operand.tmp 33), type := 41, pos := "code.go:261", after := #[{ on := 7, ground := Go.Ground.data }, { on := 8, ground := Go.Ground.chain }, { on := 0, ground := Go.Ground.phase }, { on := 1, ground := Go.Ground.phase }, { on := 2, ground := Go.Ground.phase }, { on := 3, ground := Go.Ground.phase }, { on := 4, ground := Go.Ground.phase }, { on := 5, ground := Go.Ground.phase }, { on := 6, ground := Go.Ground.phase }, { on := 7, ground := Go.Ground.phase }, { on := 8, ground := Go.Ground.phase }], guard := none }) (v := _) rfl (by kernel_rfl) (by kernel_rfl) (by kernel_rfl) (fun _ _ _ h => h) (Or.inl ⟨by rfl, ?hyr5_9⟩) (by assumption) ?rer5_9
      case hyr5_9 => (intro W hSw; (try dsimp only at hSw); go_simp; try with_reducible rfl)
      try simp only [Act.put, List.setIfInBounds_toArray, List.set_cons_zero, List.set_cons_succ]
      refine wpAnyH_done (by kernel_rfl) ?_ _

      clear hHeld
      refine NoPanic.normal ?_
      go_wp2_with fail
      go_ret2
      refine ⟨g, _, rfl, ?_, ?_, O9.out, ?_, ?_⟩
      · rw [HG.out]
        exact Nat.le_refl _
      · exact R4.out.mv M9.out (fun e => own_not O4.out R4.out (by decide) e)
      · exact (Mv.of_below X4.out _).trans M9.out (fun j _ e => e)
      · intro j e
        have : g9 = j := by simpa [Value.ownBlock] using e
        subst this
        rcases A9.out with e | e
        · exact .inr e
        · exact .inl (Nat.le_trans X4.out.size e)
end Go.Proofs.YtpolajoephjdhaaGreatDoor

/-
  CodeEncodes: programs that are lent, list by list.
-/
namespace Go.Proofs.YtpolajoephjdhaaGreatDoor
open Go.RowKit
set_option maxRecDepth 100000
/-- A slice, as far as it reaches. -/
def wideV (v : Value) : Value := match v with
  | .slice a _ c => .slice a c c
  | x => x
def SetIn (w : World) (N : Nat) (l : List Int) (v : Value) : Prop := ∃ g, v = .slice (some ⟨g, 0, none⟩) l.length (l.length + 80) ∧ N ≤ g ∧ RwN w g (wid7 l)
def CodIn (w : World) (N n : Nat) (X : List Ins) (v : Value) : Prop := ∃ g, v = .slice (some ⟨g, 0, none⟩) n (n + 80) ∧ N ≤ g ∧ X.length = n + 80 ∧ RwI w g X
theorem SetIn.mv {w w' : World} {N : Nat} {l : List Int} {v : Value} {S : Nat → Prop} (h : SetIn w N l v) (hm : Mv w w' S) (hs : ∀ j, v.ownBlock = some j → ¬ S j) : SetIn w' N l v := by
  obtain ⟨g, rfl, h1, h2⟩ := h
  exact ⟨g, rfl, h1, h2.mv hm (hs g rfl)⟩
theorem CodIn.mv {w w' : World} {N n : Nat} {X : List Ins} {v : Value} {S : Nat → Prop} (h : CodIn w N n X v) (hm : Mv w w' S) (hs : ∀ j, v.ownBlock = some j → ¬ S j) : CodIn w' N n X v := by
  obtain ⟨g, rfl, h1, h2, h3⟩ := h
  exact ⟨g, rfl, h1, h2, h3.mv hm (hs g rfl)⟩
theorem SetIn.blk {w : World} {N : Nat} {l : List Int} {v : Value} (h : SetIn w N l v) : ∀ j, v.ownBlock = some j → N ≤ j ∧ j < w.heap.size ∧ ∃ cs, w.heap[j]? = some (.cells cs 3 (0, 0)) := fun j e => by
  obtain ⟨g, rfl, h1, h2⟩ := h
  have : g = j := by simpa [Value.ownBlock] using e
  subst this
  exact ⟨h1, h2.lt, _, h2⟩
theorem CodIn.blk {w : World} {N n : Nat} {X : List Ins} {v : Value} (h : CodIn w N n X v) : ∀ j, v.ownBlock = some j → N ≤ j ∧ j < w.heap.size ∧ ∃ cs, w.heap[j]? = some (.cells cs 56 (0, 0)) := fun j e => by
  obtain ⟨g, rfl, h1, -, h2⟩ := h
  have : g = j := by simpa [Value.ownBlock] using e
  subst this
  exact ⟨h1, h2.lt, _, h2⟩
/-- Codes in blocks of their own, apart; ct tells what stands in the i-th. -/
def CD (w : World) (N : Nat) (cv : List Value) (cl : List (List Ins)) (ct : Nat → List Ins → List Ins) : Prop := cv.length = cl.length ∧ cv.Pairwise Ap ∧ ∀ i (h : i < cv.length) (h' : i < cl.length), CodIn w N cl[i].length (ct i cl[i]) cv[i]
theorem CD.mv {w w' : World} {N : Nat} {cv : List Value} {cl : List (List Ins)} {ct : Nat → List Ins → List Ins} {S : Nat → Prop} (h : CD w N cv cl ct) (hm : Mv w w' S) (hs : ∀ v ∈ cv, ∀ j, v.ownBlock = some j → ¬ S j) : CD w' N cv cl ct := ⟨h.1, h.2.1, fun i a b => (h.2.2 i a b).mv hm (hs _ (List.getElem_mem a))⟩
theorem CD.later {w w' : World} {N : Nat} {cv : List Value} {cl : List (List Ins)} {ct : Nat → List Ins → List Ins} (h : CD w N cv cl ct) (hb : Below w.heap.size w w') : CD w' N cv cl ct := h.mv (Mv.of_below hb (fun _ => False)) (fun _ _ _ _ e => e)
theorem CD.ext {w : World} {N : Nat} {cv : List Value} {cl : List (List Ins)} {ct ct' : Nat → List Ins → List Ins} (h : CD w N cv cl ct) (he : ∀ i c, i < cl.length → ct i c = ct' i c) : CD w N cv cl ct' := ⟨h.1, h.2.1, fun i a b => by rw [← he i _ b]; exact h.2.2 i a b⟩
theorem CD.next {w w' : World} {N k : Nat} {cv : List Value} {cl : List (List Ins)} {A B : List Ins → List Ins} (h : CD w N cv cl (fun i c => if i < k then B c else A c)) (hk : k < cv.length) (hk' : k < cl.length) (hm : Mv w w' (fun j => (cv[k]).ownBlock = some j)) (hc : CodIn w' N cl[k].length (B cl[k]) cv[k]) : CD w' N cv cl (fun i c => if i < k + 1 then B c else A c) := by
  refine ⟨h.1, h.2.1, fun i a b => ?_⟩
  by_cases e : i = k
  · subst e
    have : (if i < i + 1 then B cl[i] else A cl[i]) = B cl[i] := if_pos (by omega)
    show CodIn w' N cl[i].length (if i < i + 1 then B cl[i] else A cl[i]) cv[i]
    rw [this]
    exact hc
  · have h1 : CodIn w' N cl[i].length (if i < k then B cl[i] else A cl[i]) cv[i] := (h.2.2 i a b).mv hm (fun j e1 e2 => pair_at h.2.1 i k a hk e j e1 e2)
    show CodIn w' N cl[i].length (if i < k + 1 then B cl[i] else A cl[i]) cv[i]
    have e3 : (i < k + 1) = (i < k) := by rw [eq_iff_iff]; omega
    simp only [e3]
    exact h1
theorem CD.snoc {w w' : World} {N : Nat} {cv : List Value} {cl : List (List Ins)} {ct : Nat → List Ins → List Ins} {v : Value} {c : List Ins} (h : CD w N cv cl ct) (h' : CD w' N cv cl ct) (hc : CodIn w' N c.length (ct cl.length c) v) (hv : ∀ j, v.ownBlock = some j → w.heap.size ≤ j) : CD w' N (cv ++ [v]) (cl ++ [c]) ct := by
  refine ⟨by simp [h.1], ?_, fun i a b => ?_⟩
  · rw [List.pairwise_append]
    refine ⟨h.2.1, by simp, ?_⟩
    intro u hu v' hv' g e1 e2
    obtain rfl : v' = v := by simpa using hv'
    obtain ⟨i, hi, rfl⟩ := List.mem_iff_getElem.1 hu
    have := (h.2.2 i hi (by rw [← h.1]; exact hi)).blk g e1
    have := hv g e2
    omega
  · by_cases e : i < cv.length
    · have e' : i < cl.length := by rw [← h.1]; exact e
      rw [List.getElem_append_left e, List.getElem_append_left e']
      exact h'.2.2 i e e'
    · have e2 : i = cl.length := by simp at b; have := h.1; omega
      subst e2
      have f1 : (cl ++ [c])[cl.length]'b = c := by simp
      have f2 : (cv ++ [v])[cl.length]'a = v := by
        rw [List.getElem_append_right (by omega)]
        simp
      rw [f1, f2]
      exact hc
/-- The sets of some systems, one behind the other. -/
def klOf (l : List Sy) : List (List Int) := l.flatMap fun s => [s.wi, s.wo, s.re, s.wr]
theorem flat4 (R : List Int → Value → Prop) : ∀ (ls : List (Sy × Sv)), (∀ p ∈ ls, R p.1.wi p.2.v1 ∧ R p.1.wo p.2.v2 ∧ R p.1.re p.2.v3 ∧ R p.1.wr p.2.v4) → (intsOf ls).length = (klOf (ls.map Prod.fst)).length ∧ ∀ i (h : i < (intsOf ls).length) (h' : i < (klOf (ls.map Prod.fst)).length), R (klOf (ls.map Prod.fst))[i] (intsOf ls)[i]
  | [], _ => ⟨rfl, fun i h => absurd h (by simp [intsOf])⟩
  | p :: t, hp => by
    obtain ⟨h1, h2⟩ := flat4 R t (fun q hq => hp q (List.mem_cons_of_mem _ hq))
    obtain ⟨a, b, c, d⟩ := hp p (List.mem_cons_self ..)
    have key : ∀ i (h : i < (p.2.v1 :: p.2.v2 :: p.2.v3 :: p.2.v4 :: intsOf t).length) (h' : i < (p.1.wi :: p.1.wo :: p.1.re :: p.1.wr :: klOf (t.map Prod.fst)).length), R (p.1.wi :: p.1.wo :: p.1.re :: p.1.wr :: klOf (t.map Prod.fst))[i] (p.2.v1 :: p.2.v2 :: p.2.v3 :: p.2.v4 :: intsOf t)[i] := by
      intro i h h'
      match i, h, h' with
      | 0, _, _ => exact a
      | 1, _, _ => exact b
      | 2, _, _ => exact c
      | 3, _, _ => exact d
      | k + 4, hk, hk' => exact h2 k (by simp at hk; omega) (by simp at hk'; omega)
    refine ⟨?_, fun i h h' => key i h h'⟩
    show (p.2.v1 :: p.2.v2 :: p.2.v3 :: p.2.v4 :: intsOf t).length = (p.1.wi :: p.1.wo :: p.1.re :: p.1.wr :: klOf (t.map Prod.fst)).length
    simp [h1]
/-- A system's lists, as they are read. -/
def SyRd (w : World) (p : Sy × Sv) : Prop := I6 p.1.run.pa ∧ I6 p.1.run.lo ∧ (Nl Qt w p.2.v1 p.1.wi ∧ Nl Qt w p.2.v2 p.1.wo ∧ Nl Qt w p.2.v3 p.1.re ∧ Nl Qt w p.2.v4 p.1.wr) ∧ Il Qt w p.2.vc p.1.run.code
def RtRd (w : World) (p : Rt × Value) : Prop := I6 p.1.pa ∧ I6 p.1.lo ∧ Il Qt w p.2 p.1.code
theorem sys_of {w : World} {N : Nat} {ls : List (Sy × Sv)} {vs : Value} (h : w.ownsRow N 47 8 vs ls.length (sysC ls)) (hp : ∀ p ∈ ls, SyRd w p) : Sys Qt w vs (ls.map Prod.fst) := by
  obtain ⟨ao, c, rfl⟩ := own_len h
  have hc := own_cap h
  refine ⟨ao, c, by rw [List.length_map], by rw [List.length_map]; exact hc.1, by unfold maxLen; omega, fun h0 => ?_⟩
  rw [List.length_map] at h0
  obtain ⟨g, c', e, hcell⟩ := own_some h h0
  injection e with e1 e2 e3
  refine ⟨g, 0, e1, trivial, fun i hi => ?_⟩
  rw [List.length_map] at hi
  obtain ⟨i1, i2, ⟨n1, n2, n3, n4⟩, n5⟩ := hp _ (List.getElem_mem hi)
  have key : ∀ j, j < 8 → w.cell? ⟨g, i * 8 + j, none⟩ = (svC ls[i])[j]? := fun j hj => (hcell _ (by omega)).trans (svC_at ls i hi j hj)
  rw [List.getElem_map, Nat.zero_add]
  exact ⟨i1, i2, _, _, _, _, _, key 0 (by omega), key 1 (by omega), key 2 (by omega), key 3 (by omega), key 4 (by omega), key 5 (by omega), key 6 (by omega), key 7 (by omega), n1, n2, n3, n4, n5⟩
theorem rts_of {w : World} {N : Nat} {lf : List (Rt × Value)} {vf : Value} (h : w.ownsRow N 45 4 vf lf.length (rtsC lf)) (hp : ∀ p ∈ lf, RtRd w p) : Rts Qt w vf (lf.map Prod.fst) := by
  obtain ⟨ao, c, rfl⟩ := own_len h
  have hc := own_cap h
  refine ⟨ao, c, by rw [List.length_map], by rw [List.length_map]; exact hc.1, by unfold maxLen; omega, fun h0 => ?_⟩
  rw [List.length_map] at h0
  obtain ⟨g, c', e, hcell⟩ := own_some h h0
  injection e with e1 e2 e3
  refine ⟨g, 0, e1, trivial, fun i hi => ?_⟩
  rw [List.length_map] at hi
  obtain ⟨i1, i2, n5⟩ := hp _ (List.getElem_mem hi)
  have key : ∀ j, j < 4 → w.cell? ⟨g, i * 4 + j, none⟩ = (rvC lf[i])[j]? := fun j hj => (hcell _ (by omega)).trans (rvC_at lf i hi j hj)
  rw [List.getElem_map, Nat.zero_add]
  exact ⟨i1, i2, _, key 0 (by omega), key 1 (by omega), key 2 (by omega), key 3 (by omega), n5⟩
/-- A program with other code in it. -/
def codS (F : List Ins → List Ins) (s : Sy) : Sy := ⟨s.wi, s.wo, s.re, s.wr, ⟨s.run.name, s.run.pa, s.run.lo, F s.run.code⟩⟩
def codR (F : List Ins → List Ins) (r : Rt) : Rt := ⟨r.name, r.pa, r.lo, F r.code⟩
def codP (F : List Ins → List Ins) (p : Pg) : Pg := ⟨p.sys.map (codS F), p.fns.map (codR F)⟩
theorem codP_id (p : Pg) : codP (fun c => c) p = p := by
  have e1 : codS (fun c => c) = id := by funext s; rfl
  have e2 : codR (fun c => c) = id := by funext s; rfl
  unfold codP
  rw [e1, e2, List.map_id, List.map_id]
def reS (F : List Ins → List Ins) (ls : List (Sy × Sv)) : List (Sy × Sv) := ls.map fun p => (codS F p.1, p.2)
def reR (F : List Ins → List Ins) (lf : List (Rt × Value)) : List (Rt × Value) := lf.map fun p => (codR F p.1, p.2)
theorem reS_C (F : List Ins → List Ins) (ls : List (Sy × Sv)) : sysC (reS F ls) = sysC ls := by
  induction ls with
  | nil => rfl
  | cons p t ih =>
    show svC (codS F p.1, p.2) ++ sysC (reS F t) = svC p ++ sysC t
    rw [ih]
    rfl
theorem reR_C (F : List Ins → List Ins) (ls : List (Rt × Value)) : rtsC (reR F ls) = rtsC ls := by
  induction ls with
  | nil => rfl
  | cons p t ih =>
    show rvC (codR F p.1, p.2) ++ rtsC (reR F t) = rvC p ++ rtsC t
    rw [ih]
    rfl
/-- What is said of numbers within a program. -/
def Six (p : Pg) : Prop := (∀ s ∈ p.sys, I6 s.run.pa ∧ I6 s.run.lo ∧ (∀ i ∈ s.wi, I6 i) ∧ (∀ i ∈ s.wo, I6 i) ∧ (∀ i ∈ s.re, I6 i) ∧ (∀ i ∈ s.wr, I6 i) ∧ ∀ i ∈ s.run.code, I6 i.op ∧ I6 i.a) ∧ ∀ r ∈ p.fns, I6 r.pa ∧ I6 r.lo ∧ ∀ i ∈ r.code, I6 i.op ∧ I6 i.a
theorem SetIn.nl {w : World} {N : Nat} {l : List Int} {v : Value} (h : SetIn w N l v) (h6 : ∀ i ∈ l, I6 i) (hz : l.length ≤ 1048576) : Nl Qt w v l := by
  obtain ⟨g, rfl, -, h2⟩ := h
  exact h2.nl rfl (by omega) (by unfold maxLen; omega) h6
theorem CodIn.il {w : World} {N n : Nat} {c r : List Ins} {v : Value} (h : CodIn w N n (c ++ r) v) (hn : n = c.length) (h6 : ∀ i ∈ c, I6 i.op ∧ I6 i.a) (hz : n ≤ 1048576) : Il Qt w v c := by
  obtain ⟨g, rfl, -, h1, h2⟩ := h
  subst hn
  refine ⟨_, _, rfl, by omega, by unfold maxLen; omega, fun _ => ⟨g, 0, rfl, trivial, fun i hi => ?_⟩⟩
  obtain ⟨a, b⟩ := h6 _ (List.getElem_mem hi)
  obtain ⟨d0, d1⟩ := h2.cell (k := i) (by rw [List.length_append]; omega)
  rw [List.getElem_append_left hi] at d0 d1
  rw [Nat.zero_add]
  exact ⟨a, b, d0, d1⟩
/-- The lent program, as it is read. -/
theorem pgm_of {w : World} {N : Nat} {ls : List (Sy × Sv)} {lf : List (Rt × Value)} {vs vf : Value} (F : List Ins → List Ins) (m : Ins) (h1 : w.ownsRow N 47 8 vs ls.length (sysC ls)) (h2 : w.ownsRow N 45 4 vf lf.length (rtsC lf)) (h3 : ∀ p ∈ ls, SetIn w N p.1.wi p.2.v1 ∧ SetIn w N p.1.wo p.2.v2 ∧ SetIn w N p.1.re p.2.v3 ∧ SetIn w N p.1.wr p.2.v4) (hc : CD w N (codesS ls ++ codesR lf) (codLs ls lf) (fun _ c => F c ++ List.replicate 80 m)) (hF : ∀ c, (F c).length = c.length) (h6 : Six (codP F ⟨ls.map Prod.fst, lf.map Prod.fst⟩)) (hz1 : ∀ p ∈ ls, p.1.wi.length ≤ 1048576 ∧ p.1.wo.length ≤ 1048576 ∧ p.1.re.length ≤ 1048576 ∧ p.1.wr.length ≤ 1048576 ∧ p.1.run.code.length ≤ 1048576) (hz2 : ∀ p ∈ lf, p.1.code.length ≤ 1048576) : Pgm Qt w vs vf (codP F ⟨ls.map Prod.fst, lf.map Prod.fst⟩) := by
  have e1 : (codP F ⟨ls.map Prod.fst, lf.map Prod.fst⟩).sys = (reS F ls).map Prod.fst := by simp [codP, reS]
  have e2 : (codP F ⟨ls.map Prod.fst, lf.map Prod.fst⟩).fns = (reR F lf).map Prod.fst := by simp [codP, reR]
  have l1 : (codesS ls).length = ls.length := by simp [codesS]
  refine ⟨?_, ?_⟩
  · rw [e1]
    refine sys_of (N := N) (by rw [reS_C, show (reS F ls).length = ls.length by simp [reS]]; exact h1) fun q hq => ?_
    obtain ⟨p, hp, rfl⟩ := List.mem_map.1 hq
    obtain ⟨i1, i2, s1, s2, s3, s4, s5⟩ := h6.1 (codS F p.1) (by rw [e1]; exact List.mem_map.2 ⟨_, hq, rfl⟩)
    obtain ⟨t1, t2, t3, t4⟩ := h3 p hp
    obtain ⟨z1, z2, z3, z4, z5⟩ := hz1 p hp
    refine ⟨i1, i2, ⟨t1.nl s1 z1, t2.nl s2 z2, t3.nl s3 z3, t4.nl s4 z4⟩, ?_⟩
    obtain ⟨i, hi, rfl⟩ := List.mem_iff_getElem.1 hp
    have hx := hc.2.2 i (by rw [List.length_append]; omega) (by rw [← hc.1, List.length_append]; omega)
    have f1 : (codesS ls ++ codesR lf)[i]'(by rw [List.length_append]; omega) = (ls[i]).2.vc := by rw [List.getElem_append_left (by omega)]; simp [codesS]
    have f2 : (codLs ls lf)[i]'(by rw [← hc.1, List.length_append]; omega) = (ls[i]).1.run.code := (List.getElem_append_left (by simpa using hi)).trans (by simp)
    rw [f1, f2] at hx
    exact hx.il (hF _).symm s5 z5
  · rw [e2]
    refine rts_of (N := N) (by rw [reR_C, show (reR F lf).length = lf.length by simp [reR]]; exact h2) fun q hq => ?_
    obtain ⟨p, hp, rfl⟩ := List.mem_map.1 hq
    obtain ⟨i1, i2, s5⟩ := h6.2 (codR F p.1) (by rw [e2]; exact List.mem_map.2 ⟨_, hq, rfl⟩)
    refine ⟨i1, i2, ?_⟩
    obtain ⟨i, hi, rfl⟩ := List.mem_iff_getElem.1 hp
    have hl2 : (codesR lf).length = lf.length := by simp [codesR]
    have hj : ls.length + i < (codesS ls ++ codesR lf).length := by rw [List.length_append]; omega
    have hx := hc.2.2 (ls.length + i) hj (by rw [← hc.1]; exact hj)
    have f1 : (codesS ls ++ codesR lf)[ls.length + i] = (lf[i]).2 := by rw [List.getElem_append_right (by omega)]; simp [codesR, l1]
    have f2 : (codLs ls lf)[ls.length + i]'(by rw [← hc.1]; exact hj) = (lf[i]).1.code := (List.getElem_append_right (by simp)).trans (by simp)
    rw [f1, f2] at hx
    exact hx.il (hF _).symm s5 (hz2 _ (List.getElem_mem hi))
/-- A program that comes in, list by list. -/
theorem sys_list {Q : Nat → Prop} {W : World} {ao : Option Addr} {n c : Nat} {sys : List Sy} (h : Sys Q W (.slice ao n c) sys) : ∃ lp : List (Sy × Sv), lp.map Prod.fst = sys ∧ ∀ i (hi : i < lp.length), I6 lp[i].1.run.pa ∧ I6 lp[i].1.run.lo ∧ (∃ g o, ao = some ⟨g, o, none⟩ ∧ Q g ∧ ∀ j, j < 8 → W.cell? ⟨g, o + i * 8 + j, none⟩ = (svC lp[i])[j]?) ∧ (Nl Q W lp[i].2.v1 lp[i].1.wi ∧ Nl Q W lp[i].2.v2 lp[i].1.wo ∧ Nl Q W lp[i].2.v3 lp[i].1.re ∧ Nl Q W lp[i].2.v4 lp[i].1.wr) ∧ Il Q W lp[i].2.vc lp[i].1.run.code := by
  have hex : ∀ i : Fin sys.length, ∃ sv : Sv, I6 sys[i].run.pa ∧ I6 sys[i].run.lo ∧ (∃ g o, ao = some ⟨g, o, none⟩ ∧ Q g ∧ ∀ j, j < 8 → W.cell? ⟨g, o + i * 8 + j, none⟩ = (svC (sys[i], sv))[j]?) ∧ (Nl Q W sv.v1 sys[i].wi ∧ Nl Q W sv.v2 sys[i].wo ∧ Nl Q W sv.v3 sys[i].re ∧ Nl Q W sv.v4 sys[i].wr) ∧ Il Q W sv.vc sys[i].run.code := fun i => by
    obtain ⟨g, o, e, hq, i1, i2, v1, v2, v3, v4, vc, d0, d1, d2, d3, d4, d5, d6, d7, n1, n2, n3, n4, n5⟩ := h.nth i.2
    refine ⟨⟨v1, v2, v3, v4, vc⟩, i1, i2, ⟨g, o, e, hq, fun j hj => ?_⟩, ⟨n1, n2, n3, n4⟩, n5⟩
    match j, hj with
    | 0, _ => exact d0
    | 1, _ => exact d1
    | 2, _ => exact d2
    | 3, _ => exact d3
    | 4, _ => exact d4
    | 5, _ => exact d5
    | 6, _ => exact d6
    | 7, _ => exact d7
  refine ⟨List.ofFn fun i : Fin sys.length => (sys[i], Classical.choose (hex i)), ?_, fun i hi => ?_⟩
  · apply List.ext_getElem
    · simp
    · intro k h1 h2
      simp
  · have hi' : i < sys.length := by simpa using hi
    have := Classical.choose_spec (hex ⟨i, hi'⟩)
    rw [List.getElem_ofFn]
    exact this
theorem rts_list {Q : Nat → Prop} {W : World} {ao : Option Addr} {n c : Nat} {fns : List Rt} (h : Rts Q W (.slice ao n c) fns) : ∃ lq : List (Rt × Value), lq.map Prod.fst = fns ∧ ∀ i (hi : i < lq.length), I6 lq[i].1.pa ∧ I6 lq[i].1.lo ∧ (∃ g o, ao = some ⟨g, o, none⟩ ∧ Q g ∧ ∀ j, j < 4 → W.cell? ⟨g, o + i * 4 + j, none⟩ = (rvC lq[i])[j]?) ∧ Il Q W lq[i].2 lq[i].1.code := by
  have hex : ∀ i : Fin fns.length, ∃ vc : Value, I6 fns[i].pa ∧ I6 fns[i].lo ∧ (∃ g o, ao = some ⟨g, o, none⟩ ∧ Q g ∧ ∀ j, j < 4 → W.cell? ⟨g, o + i * 4 + j, none⟩ = (rvC (fns[i], vc))[j]?) ∧ Il Q W vc fns[i].code := fun i => by
    obtain ⟨g, o, e, hq, i1, i2, vc, d0, d1, d2, d3, n5⟩ := h.nth i.2
    refine ⟨vc, i1, i2, ⟨g, o, e, hq, fun j hj => ?_⟩, n5⟩
    match j, hj with
    | 0, _ => exact d0
    | 1, _ => exact d1
    | 2, _ => exact d2
    | 3, _ => exact d3
  refine ⟨List.ofFn fun i : Fin fns.length => (fns[i], Classical.choose (hex i)), ?_, fun i hi => ?_⟩
  · apply List.ext_getElem
    · simp
    · intro k h1 h2
      simp
  · have hi' : i < fns.length := by simpa using hi
    have := Classical.choose_spec (hex ⟨i, hi'⟩)
    rw [List.getElem_ofFn]
    exact this
end Go.Proofs.YtpolajoephjdhaaGreatDoor

/-
  CodeEncodes: the lent program while it is made.
-/
namespace Go.Proofs.YtpolajoephjdhaaGreatDoor
open Go.RowKit
set_option maxRecDepth 100000
def fA (_ : Nat) (c : List Ins) : List Ins := c ++ List.replicate 80 mkI
structure LX (W w : World) (N Qb : Nat) (ls : List (Sy × Sv)) (vs v5 v6 v7 vf : Value) (cv : List Value) (cl : List (List Ins)) (x5 x6 x7 : List Value) : Prop where
  qb : w.heap[Qb]? = some (.cells #[vs, vf] 27 (0, 0))
  rs : w.ownsRow N 47 8 vs ls.length (sysC ls)
  st : ∀ p ∈ ls, SetIn w N p.1.wi p.2.v1 ∧ SetIn w N p.1.wo p.2.v2 ∧ SetIn w N p.1.re p.2.v3 ∧ SetIn w N p.1.wr p.2.v4
  cd : CD w N cv cl fA
  r5 : w.ownsRow N 43 1 v5 x5.length x5
  r6 : w.ownsRow N 42 1 v6 x6.length x6
  r7 : w.ownsRow N 42 1 v7 x7.length x7
  ap : Ap v6 v7
  be : Below N W w
  nw : N ≤ W.heap.size
  nq : N ≤ Qb
section
variable {W w w' : World} {N Qb : Nat} {ls : List (Sy × Sv)} {vs v5 v6 v7 vf : Value} {cv : List Value} {cl : List (List Ins)} {x5 x6 x7 : List Value}
theorem LX.codBlk (h : LX W w N Qb ls vs v5 v6 v7 vf cv cl x5 x6 x7) : ∀ v ∈ cv, ∀ j, v.ownBlock = some j → N ≤ j ∧ j < w.heap.size ∧ ∃ cs, w.heap[j]? = some (.cells cs 56 (0, 0)) := fun v hv j e => by
  obtain ⟨i, hi, rfl⟩ := List.mem_iff_getElem.1 hv
  exact (h.cd.2.2 i hi (by rw [← h.cd.1]; exact hi)).blk j e
/-- What turns is a block of another type than all that is here but, perhaps, one of the three rows. -/
theorem LX.mvT {S : Nat → Prop} {T : Nat} (h : LX W w N Qb ls vs v5 v6 v7 vf cv cl x5 x6 x7) (hm : Mv w w' S) (hS : ∀ j, S j → N ≤ j ∧ j ≠ Qb) (hvs : ∀ j, vs.ownBlock = some j → ¬ S j) (hT : ∀ j, S j → ∀ cs T', w.heap[j]? = some (.cells cs T' (0, 0)) → T' = T) (t1 : T ≠ 3) (t2 : T ≠ 56) (h5 : ∀ j, v5.ownBlock = some j → ¬ S j) (h6 : ∀ j, v6.ownBlock = some j → ¬ S j) (h7 : ∀ j, v7.ownBlock = some j → ¬ S j) : LX W w' N Qb ls vs v5 v6 v7 vf cv cl x5 x6 x7 := by
  have s1 : ∀ {l : List Int} {v : Value}, SetIn w N l v → SetIn w' N l v := fun hh => hh.mv hm (fun j e hs => by
    obtain ⟨-, -, cs, hc⟩ := hh.blk j e
    exact t1 (hT j hs cs _ hc).symm)
  refine ⟨hm.at h.qb (fun e => (hS _ e).2 rfl), hm.own h.rs hvs, fun p hp => ?_, h.cd.mv hm (fun v hv j e hs => ?_), hm.own h.r5 h5, hm.own h.r6 h6, hm.own h.r7 h7, h.ap, h.be.trans (hm.below (Nat.le_trans h.nw h.be.size) (fun j hj => (hS j hj).1)), h.nw, h.nq⟩
  · obtain ⟨a, b, c, d⟩ := h.st p hp
    exact ⟨s1 a, s1 b, s1 c, s1 d⟩
  · obtain ⟨-, -, cs, hc⟩ := h.codBlk v hv j e
    exact t2 (hT j hs cs _ hc).symm
theorem LX.later (h : LX W w N Qb ls vs v5 v6 v7 vf cv cl x5 x6 x7) (hb : Below w.heap.size w w') : LX W w' N Qb ls vs v5 v6 v7 vf cv cl x5 x6 x7 :=
  h.mvT (T := 47) (Mv.of_below hb (fun _ => False)) (fun _ e => e.elim) (fun _ _ e => e) (fun _ e => e.elim) (by decide) (by decide) (fun _ _ e => e) (fun _ _ e => e) (fun _ _ e => e)
theorem own_T {e s n : Nat} {v : Value} {xs : List Value} (h : w.ownsRow N e s v n xs) {j : Nat} (hj : v.ownBlock = some j) (cs : Array Value) (T' : Nat) (hc : w.heap[j]? = some (.cells cs T' (0, 0))) : T' = e := by
  obtain ⟨-, ⟨rfl, -⟩ | ⟨g, cap, cur, rfl, hB, hg, -⟩⟩ := h
  · cases hj
  · have : g = j := by simpa [Value.ownBlock] using hj
    subst this
    rw [hg] at hc
    simp at hc
    exact hc.2.symm
theorem LX.qn (h : LX W w N Qb ls vs v5 v6 v7 vf cv cl x5 x6 x7) {e s n : Nat} {v : Value} {xs : List Value} (ho : w.ownsRow N e s v n xs) (he : 27 ≠ e) {j : Nat} (hj : v.ownBlock = some j) : j ≠ Qb := fun e2 => by
  subst e2
  exact he (own_T ho hj _ _ h.qb)
/-- The row of what was lent grows. -/
theorem LX.turn7 {v7' : Value} {y7 : List Value} (h : LX W w N Qb ls vs v5 v6 v7 vf cv cl x5 x6 x7) (hm : Mv w w' (fun j => v7.ownBlock = some j)) (ho : w'.ownsRow N 42 1 v7' y7.length y7) (hb : ∀ j, v7'.ownBlock = some j → w.heap.size ≤ j ∨ v7.ownBlock = some j) : LX W w' N Qb ls vs v5 v6 v7' vf cv cl x5 x6 y7 := by
  have k : LX W w N Qb ls vs v5 v6 (.slice none 0 0) vf cv cl x5 x6 [] := ⟨h.qb, h.rs, h.st, h.cd, h.r5, h.r6, World.ownsRow_nil _ _ _ _, fun g _ e => (by cases e), h.be, h.nw, h.nq⟩
  have k2 := k.mvT (T := 42) hm (fun j e => ⟨(h.r7.lt j e).1, h.qn h.r7 (by decide) e⟩) (fun j e1 e2 => own_types h.rs h.r7 (by decide) j e1 e2) (fun j e cs T' hc => own_T h.r7 e cs T' hc) (by decide) (by decide) (fun j e1 e2 => own_types h.r5 h.r7 (by decide) j e1 e2) (fun j e1 e2 => h.ap j e1 e2) (fun j e => by cases e)
  exact ⟨k2.qb, k2.rs, k2.st, k2.cd, k2.r5, k2.r6, ho, fun g e1 e2 => by
    rcases hb g e2 with e | e
    · have := (h.r6.lt g e1).2
      omega
    · exact h.ap g e1 e, k2.be, h.nw, h.nq⟩
theorem LX.turn6 {v6' : Value} {y6 : List Value} (h : LX W w N Qb ls vs v5 v6 v7 vf cv cl x5 x6 x7) (hm : Mv w w' (fun j => v6.ownBlock = some j)) (ho : w'.ownsRow N 42 1 v6' y6.length y6) (hb : ∀ j, v6'.ownBlock = some j → w.heap.size ≤ j ∨ v6.ownBlock = some j) : LX W w' N Qb ls vs v5 v6' v7 vf cv cl x5 y6 x7 := by
  have k : LX W w N Qb ls vs v5 (.slice none 0 0) v7 vf cv cl x5 [] x7 := ⟨h.qb, h.rs, h.st, h.cd, h.r5, World.ownsRow_nil _ _ _ _, h.r7, fun g e _ => (by cases e), h.be, h.nw, h.nq⟩
  have k2 := k.mvT (T := 42) hm (fun j e => ⟨(h.r6.lt j e).1, h.qn h.r6 (by decide) e⟩) (fun j e1 e2 => own_types h.rs h.r6 (by decide) j e1 e2) (fun j e cs T' hc => own_T h.r6 e cs T' hc) (by decide) (by decide) (fun j e1 e2 => own_types h.r5 h.r6 (by decide) j e1 e2) (fun j e => by cases e) (fun j e1 e2 => h.ap j e2 e1)
  exact ⟨k2.qb, k2.rs, k2.st, k2.cd, k2.r5, ho, k2.r7, fun g e1 e2 => by
    rcases hb g e1 with e | e
    · have := (h.r7.lt g e2).2
      omega
    · exact h.ap g e e2, k2.be, h.nw, h.nq⟩
theorem LX.turn5 {v5' : Value} {y5 : List Value} (h : LX W w N Qb ls vs v5 v6 v7 vf cv cl x5 x6 x7) (hm : Mv w w' (fun j => v5.ownBlock = some j)) (ho : w'.ownsRow N 43 1 v5' y5.length y5) : LX W w' N Qb ls vs v5' v6 v7 vf cv cl y5 x6 x7 := by
  have k : LX W w N Qb ls vs (.slice none 0 0) v6 v7 vf cv cl [] x6 x7 := ⟨h.qb, h.rs, h.st, h.cd, World.ownsRow_nil _ _ _ _, h.r6, h.r7, h.ap, h.be, h.nw, h.nq⟩
  have k2 := k.mvT (T := 43) hm (fun j e => ⟨(h.r5.lt j e).1, h.qn h.r5 (by decide) e⟩) (fun j e1 e2 => own_types h.rs h.r5 (by decide) j e1 e2) (fun j e cs T' hc => own_T h.r5 e cs T' hc) (by decide) (by decide) (fun j e => by cases e) (fun j e1 e2 => own_types h.r6 h.r5 (by decide) j e1 e2) (fun j e1 e2 => own_types h.r7 h.r5 (by decide) j e1 e2)
  exact ⟨k2.qb, k2.rs, k2.st, k2.cd, ho, k2.r6, k2.r7, h.ap, k2.be, h.nw, h.nq⟩
/-- A system that stands for itself is written. -/
theorem LX.turnT {T : Nat} {cs : Array Value} {ty : Nat} (h : LX W w N Qb ls vs v5 v6 v7 vf cv cl x5 x6 x7) (hT : w.heap[T]? = some (.cells cs ty (0, 0))) (hty : ty = 47 ∨ ty = 45) (hN : N ≤ T) (hvs : ∀ j, vs.ownBlock = some j → j ≠ T) (hm : Mv w w' (fun j => j = T)) : LX W w' N Qb ls vs v5 v6 v7 vf cv cl x5 x6 x7 := by
  have hp : ty ≠ 27 := by rcases hty with rfl | rfl <;> decide
  have hi : ty ≠ 3 := by rcases hty with rfl | rfl <;> decide
  have hin : ty ≠ 56 := by rcases hty with rfl | rfl <;> decide
  have hl : ty ≠ 42 := by rcases hty with rfl | rfl <;> decide
  have hl2 : ty ≠ 43 := by rcases hty with rfl | rfl <;> decide
  refine h.mvT (T := ty) hm (fun j e => ⟨by omega, fun e2 => ?_⟩) (fun j e1 e2 => hvs j e1 e2) (fun j e cs' T' hc => ?_) hi hin (fun j e1 e2 => ?_) (fun j e1 e2 => ?_) (fun j e1 e2 => ?_)
  · subst e2
    subst e
    have := h.qb
    rw [hT] at this
    simp at this
    exact hp this.2
  · subst e
    rw [hT] at hc
    simp at hc
    exact hc.2.symm
  · subst e2
    exact own_not h.r5 hT hl2 e1
  · subst e2
    exact own_not h.r6 hT hl e1
  · subst e2
    exact own_not h.r7 hT hl e1
/-- One system more. -/
theorem LX.turnS {vs' vc : Value} {p : Sy × Sv} {c : List Ins} (h : LX W w N Qb ls vs v5 v6 v7 vf cv cl x5 x6 x7) (hm : Mv w w' (fun j => vs.ownBlock = some j)) (ho : w'.ownsRow N 47 8 vs' (ls ++ [p]).length (sysC (ls ++ [p]))) (hs : SetIn w' N p.1.wi p.2.v1 ∧ SetIn w' N p.1.wo p.2.v2 ∧ SetIn w' N p.1.re p.2.v3 ∧ SetIn w' N p.1.wr p.2.v4) (hc : CodIn w N c.length (fA cl.length c) vc) (hv : ∀ u ∈ cv, Ap u vc) : LX W (w'.setCell ⟨Qb, 0, none⟩ vs') N Qb (ls ++ [p]) vs' v5 v6 v7 vf (cv ++ [vc]) (cl ++ [c]) x5 x6 x7 := by
  have t : ∀ {j : Nat} {cs : Array Value} {T : Nat}, w.heap[j]? = some (.cells cs T (0, 0)) → T ≠ 47 → ¬ vs.ownBlock = some j := fun hc ht e => own_not h.rs hc ht e
  have s1 : ∀ {l : List Int} {v : Value}, SetIn w N l v → SetIn w' N l v := fun hh => hh.mv hm (fun j e => by
    obtain ⟨-, -, cs, hc⟩ := hh.blk j e
    exact t hc (by decide))
  have q1 := hm.at h.qb (t h.qb (by decide))
  have hm2 : Mv w' (w'.setCell ⟨Qb, 0, none⟩ vs') (fun j => j = Qb) := (Mv.refl w' (fun j => j = Qb)).set (g := Qb) rfl 0 vs'
  have nq : ∀ {e s n : Nat} {v : Value} {xs : List Value}, w'.ownsRow N e s v n xs → 27 ≠ e → ∀ j, v.ownBlock = some j → ¬ j = Qb := fun ho' he j e1 e2 => by
    subst e2
    exact own_not ho' q1 he e1
  have s2 : ∀ {l : List Int} {v : Value}, SetIn w' N l v → SetIn (w'.setCell ⟨Qb, 0, none⟩ vs') N l v := fun hh => hh.mv hm2 (fun j e e2 => by
    obtain ⟨-, -, cs, hc⟩ := hh.blk j e
    subst e2
    rw [q1] at hc
    simp at hc)
  have c2 : ∀ {n : Nat} {X : List Ins} {v : Value}, CodIn w N n X v → CodIn (w'.setCell ⟨Qb, 0, none⟩ vs') N n X v := fun hh => by
    have h1 := hh.mv hm (fun j e => by
      obtain ⟨-, -, cs, hc⟩ := hh.blk j e
      exact t hc (by decide))
    exact h1.mv hm2 (fun j e e2 => by
      obtain ⟨-, -, cs, hc⟩ := h1.blk j e
      subst e2
      rw [q1] at hc
      simp at hc)
  have o5 := hm.own h.r5 (fun j e1 e2 => own_types h.rs h.r5 (by decide) j e2 e1)
  have o6 := hm.own h.r6 (fun j e1 e2 => own_types h.rs h.r6 (by decide) j e2 e1)
  have o7 := hm.own h.r7 (fun j e1 e2 => own_types h.rs h.r7 (by decide) j e2 e1)
  have b1 : Below N W w' := h.be.trans (hm.below (Nat.le_trans h.nw h.be.size) (fun j hj => (h.rs.lt j hj).1))
  have hQN := h.nq
  refine ⟨by rw [heap_setCell_same w' Qb 0 _ 27 vs' q1]; rfl, hm2.own ho (nq ho (by decide)), fun q hq => ?_, ⟨by simp [h.cd.1], ?_, fun i a b => ?_⟩, hm2.own o5 (nq o5 (by decide)), hm2.own o6 (nq o6 (by decide)), hm2.own o7 (nq o7 (by decide)), h.ap, b1.trans (hm2.below (Nat.le_trans h.nw b1.size) (fun j hj => by rw [hj]; exact hQN)), h.nw, h.nq⟩
  · rw [List.mem_append, List.mem_singleton] at hq
    rcases hq with hq | rfl
    · obtain ⟨a, b, c, d⟩ := h.st q hq
      exact ⟨s2 (s1 a), s2 (s1 b), s2 (s1 c), s2 (s1 d)⟩
    · obtain ⟨a, b, c, d⟩ := hs
      exact ⟨s2 a, s2 b, s2 c, s2 d⟩
  · rw [List.pairwise_append]
    refine ⟨h.cd.2.1, by simp, ?_⟩
    intro u hu v' hv'
    obtain rfl : v' = vc := by simpa using hv'
    exact hv u hu
  · by_cases e : i < cv.length
    · have e' : i < cl.length := by rw [← h.cd.1]; exact e
      rw [List.getElem_append_left e, List.getElem_append_left e']
      exact c2 (h.cd.2.2 i e e')
    · have e2 : i = cl.length := by simp at b; have := h.cd.1; omega
      subst e2
      have f1 : (cl ++ [c])[cl.length]'b = c := by simp
      have f2 : (cv ++ [vc])[cl.length]'a = vc := by
        rw [List.getElem_append_right (by omega)]
        simp
      rw [f1, f2]
      exact c2 hc
end
/-- What is new in a round: the system, its routine, its lists. -/
structure NP (w : World) (N T T1 : Nat) (x1 x2 x3 x4 x5 x6 x7 x8 y1 y2 y3 vc : Value) (n : Nat) (X : List Ins) (ss : List (List Int × Value)) : Prop where
  nt : w.heap[T]? = some (.cells #[x1, x2, x3, x4, x5, x6, x7, x8] 47 (0, 0))
  n1 : w.heap[T1]? = some (.cells #[y1, y2, y3, vc] 45 (0, 0))
  ci : CodIn w N n X vc
  si : ∀ q ∈ ss, SetIn w N q.1 q.2
section
variable {w w' : World} {N T T1 n : Nat} {x1 x2 x3 x4 x5 x6 x7 x8 y1 y2 y3 vc : Value} {X : List Ins} {ss : List (List Int × Value)}
theorem NP.mv {S : Nat → Prop} (h : NP w N T T1 x1 x2 x3 x4 x5 x6 x7 x8 y1 y2 y3 vc n X ss) (hm : Mv w w' S) (a : ¬ S T) (b : ¬ S T1) (c : ∀ j, vc.ownBlock = some j → ¬ S j) (d : ∀ q ∈ ss, ∀ j, q.2.ownBlock = some j → ¬ S j) : NP w' N T T1 x1 x2 x3 x4 x5 x6 x7 x8 y1 y2 y3 vc n X ss :=
  ⟨hm.at h.nt a, hm.at h.n1 b, h.ci.mv hm c, fun q hq => (h.si q hq).mv hm (d q hq)⟩
theorem NP.later (h : NP w N T T1 x1 x2 x3 x4 x5 x6 x7 x8 y1 y2 y3 vc n X ss) (hb : Below w.heap.size w w') : NP w' N T T1 x1 x2 x3 x4 x5 x6 x7 x8 y1 y2 y3 vc n X ss := h.mv (Mv.of_below hb (fun _ => False)) (fun e => e) (fun e => e) (fun _ _ e => e) (fun _ _ _ _ e => e)
/-- A row of headers turns. -/
theorem NP.row {e s m : Nat} {v : Value} {xs : List Value} (h : NP w N T T1 x1 x2 x3 x4 x5 x6 x7 x8 y1 y2 y3 vc n X ss) (ho : w.ownsRow N e s v m xs) (t1 : 47 ≠ e) (t2 : 45 ≠ e) (t3 : 56 ≠ e) (t4 : 3 ≠ e) (hm : Mv w w' (fun j => v.ownBlock = some j)) : NP w' N T T1 x1 x2 x3 x4 x5 x6 x7 x8 y1 y2 y3 vc n X ss :=
  h.mv hm (fun e1 => own_not ho h.nt t1 e1) (fun e1 => own_not ho h.n1 t2 e1) (fun j e1 e2 => by
    obtain ⟨-, -, cs, hc⟩ := h.ci.blk j e1
    exact own_not ho hc t3 e2) (fun q hq j e1 e2 => by
    obtain ⟨-, -, cs, hc⟩ := (h.si q hq).blk j e1
    exact own_not ho hc t4 e2)
theorem NP.setT {i : Nat} {v z1 z2 z3 z4 z5 z6 z7 z8 : Value} (h : NP w N T T1 x1 x2 x3 x4 x5 x6 x7 x8 y1 y2 y3 vc n X ss) (he : (#[x1, x2, x3, x4, x5, x6, x7, x8] : Array Value).setIfInBounds i v = #[z1, z2, z3, z4, z5, z6, z7, z8]) : NP (w.setCell ⟨T, i, none⟩ v) N T T1 z1 z2 z3 z4 z5 z6 z7 z8 y1 y2 y3 vc n X ss := by
  have hm : Mv w (w.setCell ⟨T, i, none⟩ v) (fun j => j = T) := (Mv.refl w (fun j => j = T)).set (g := T) rfl i v
  have hT := h.nt
  refine ⟨by rw [heap_setCell_same w T i _ 47 v h.nt, he], hm.at h.n1 (fun e => ?_), h.ci.mv hm (fun j e1 e2 => ?_), fun q hq => (h.si q hq).mv hm (fun j e1 e2 => ?_)⟩
  · have := h.n1
    rw [e, hT] at this
    simp at this
  · obtain ⟨-, -, cs, hc⟩ := h.ci.blk j e1
    rw [e2, hT] at hc
    simp at hc
  · obtain ⟨-, -, cs, hc⟩ := (h.si q hq).blk j e1
    rw [e2, hT] at hc
    simp at hc
end
end Go.Proofs.YtpolajoephjdhaaGreatDoor

/-
  CodeEncodes: a program that comes in, system by system.
-/
namespace Go.Proofs.YtpolajoephjdhaaGreatDoor
open Go.RowKit
set_option maxRecDepth 100000
/-- The k-th system of a program that came in: its values, its cells. -/
def LpAt (w : World) (ao : Option Addr) (p : Sy × Sv) (k : Nat) : Prop := ∃ g o a1 m1 q1 a2 m2 q2 a3 m3 q3 a4 m4 q4 a5 m5 q5, ao = some ⟨g, o, none⟩ ∧ p.2 = ⟨.slice a1 m1 q1, .slice a2 m2 q2, .slice a3 m3 q3, .slice a4 m4 q4, .slice a5 m5 q5⟩ ∧ (m1 = p.1.wi.length ∧ m2 = p.1.wo.length ∧ m3 = p.1.re.length ∧ m4 = p.1.wr.length ∧ m5 = p.1.run.code.length) ∧ (w.cell? ⟨g, o + k * 8, none⟩ = some (.slice a1 m1 q1) ∧ w.cell? ⟨g, o + k * 8 + 1, none⟩ = some (.slice a2 m2 q2) ∧ w.cell? ⟨g, o + k * 8 + 2, none⟩ = some (.slice a3 m3 q3) ∧ w.cell? ⟨g, o + k * 8 + 3, none⟩ = some (.slice a4 m4 q4) ∧ w.cell? ⟨g, o + k * 8 + 4, none⟩ = some (.string p.1.run.name) ∧ w.cell? ⟨g, o + k * 8 + 5, none⟩ = some (.int .i64 p.1.run.pa) ∧ w.cell? ⟨g, o + k * 8 + 6, none⟩ = some (.int .i64 p.1.run.lo) ∧ w.cell? ⟨g, o + k * 8 + 7, none⟩ = some (.slice a5 m5 q5)) ∧ (Nl Qt w (.slice a1 m1 q1) p.1.wi ∧ Nl Qt w (.slice a2 m2 q2) p.1.wo ∧ Nl Qt w (.slice a3 m3 q3) p.1.re ∧ Nl Qt w (.slice a4 m4 q4) p.1.wr) ∧ Il Qt w (.slice a5 m5 q5) p.1.run.code ∧ (m5 ≤ q5 ∧ q5 ≤ 9223372036854775807)
theorem il_qt {Q : Nat → Prop} {W : World} {v : Value} {l : List Ins} (h : Il Q W v l) : Il Qt W v l := by
  obtain ⟨ao, c, h1, h2, h3, h4⟩ := h
  refine ⟨ao, c, h1, h2, h3, fun h0 => ?_⟩
  obtain ⟨g, o, h5, -, h7⟩ := h4 h0
  exact ⟨g, o, h5, trivial, h7⟩
theorem nl_qt {Q : Nat → Prop} {W : World} {v : Value} {l : List Int} (h : Nl Q W v l) : Nl Qt W v l := h.mono (fun _ _ => trivial)
theorem sys_qt {Q : Nat → Prop} {W : World} {v : Value} {l : List Sy} (h : Sys Q W v l) : Sys Qt W v l := by
  obtain ⟨ao, c, h1, h2, h3, h4⟩ := h
  refine ⟨ao, c, h1, h2, h3, fun h0 => ?_⟩
  obtain ⟨g, o, h5, -, h7⟩ := h4 h0
  refine ⟨g, o, h5, trivial, fun i hi => ?_⟩
  obtain ⟨i1, i2, v1, v2, v3, v4, vc, d0, d1, d2, d3, d4, d5, d6, d7, n1, n2, n3, n4, n5⟩ := h7 i hi
  exact ⟨i1, i2, v1, v2, v3, v4, vc, d0, d1, d2, d3, d4, d5, d6, d7, nl_qt n1, nl_qt n2, nl_qt n3, nl_qt n4, il_qt n5⟩
theorem rts_qt {Q : Nat → Prop} {W : World} {v : Value} {l : List Rt} (h : Rts Q W v l) : Rts Qt W v l := by
  obtain ⟨ao, c, h1, h2, h3, h4⟩ := h
  refine ⟨ao, c, h1, h2, h3, fun h0 => ?_⟩
  obtain ⟨g, o, h5, -, h7⟩ := h4 h0
  refine ⟨g, o, h5, trivial, fun i hi => ?_⟩
  obtain ⟨i1, i2, vc, d0, d1, d2, d3, n5⟩ := h7 i hi
  exact ⟨i1, i2, vc, d0, d1, d2, d3, il_qt n5⟩
theorem lp_at {Q : Nat → Prop} {W w : World} {ao : Option Addr} {p : Sy × Sv} {k : Nat} (h : I6 p.1.run.pa ∧ I6 p.1.run.lo ∧ (∃ g o, ao = some ⟨g, o, none⟩ ∧ Q g ∧ ∀ j, j < 8 → W.cell? ⟨g, o + k * 8 + j, none⟩ = (svC p)[j]?) ∧ (Nl Q W p.2.v1 p.1.wi ∧ Nl Q W p.2.v2 p.1.wo ∧ Nl Q W p.2.v3 p.1.re ∧ Nl Q W p.2.v4 p.1.wr) ∧ Il Q W p.2.vc p.1.run.code) (hb : Below W.heap.size W w) : LpAt w ao p k := by
  obtain ⟨-, -, ⟨g, o, e, -, hc⟩, ⟨n1, n2, n3, n4⟩, n5⟩ := h
  obtain ⟨a1, c1, e1, -, -⟩ := n1.at
  obtain ⟨a2, c2, e2, -, -⟩ := n2.at
  obtain ⟨a3, c3, e3, -, -⟩ := n3.at
  obtain ⟨a4, c4, e4, -, -⟩ := n4.at
  obtain ⟨a5, c5, e5, f5, g5⟩ := n5.at
  obtain ⟨sy, v1, v2, v3, v4, vc⟩ := p
  dsimp only at *
  subst e1 e2 e3 e4 e5
  have cc : ∀ j x, j < 8 → (svC (sy, ⟨.slice a1 sy.wi.length c1, .slice a2 sy.wo.length c2, .slice a3 sy.re.length c3, .slice a4 sy.wr.length c4, .slice a5 sy.run.code.length c5⟩))[j]? = some x → w.cell? ⟨g, o + k * 8 + j, none⟩ = some x := fun j x hj hx => by
    have h1 := (hc j hj).trans hx
    exact (hb.cell (World.block_lt_of_cell? W _ h1)).trans h1
  exact ⟨g, o, a1, _, c1, a2, _, c2, a3, _, c3, a4, _, c4, a5, _, c5, e, rfl, ⟨rfl, rfl, rfl, rfl, rfl⟩, ⟨cc 0 _ (by omega) rfl, cc 1 _ (by omega) rfl, cc 2 _ (by omega) rfl, cc 3 _ (by omega) rfl, cc 4 _ (by omega) rfl, cc 5 _ (by omega) rfl, cc 6 _ (by omega) rfl, cc 7 _ (by omega) rfl⟩, ⟨nl_qt (n1.later hb), nl_qt (n2.later hb), nl_qt (n3.later hb), nl_qt (n4.later hb)⟩, il_qt (n5.later hb), f5, g5⟩
def LqAt (w : World) (ao : Option Addr) (p : Rt × Value) (k : Nat) : Prop := ∃ g o a5 m5 q5, ao = some ⟨g, o, none⟩ ∧ p.2 = .slice a5 m5 q5 ∧ m5 = p.1.code.length ∧ (w.cell? ⟨g, o + k * 4, none⟩ = some (.string p.1.name) ∧ w.cell? ⟨g, o + k * 4 + 1, none⟩ = some (.int .i64 p.1.pa) ∧ w.cell? ⟨g, o + k * 4 + 2, none⟩ = some (.int .i64 p.1.lo) ∧ w.cell? ⟨g, o + k * 4 + 3, none⟩ = some (.slice a5 m5 q5)) ∧ Il Qt w (.slice a5 m5 q5) p.1.code ∧ (m5 ≤ q5 ∧ q5 ≤ 9223372036854775807)
theorem lq_at {Q : Nat → Prop} {W w : World} {ao : Option Addr} {p : Rt × Value} {k : Nat} (h : I6 p.1.pa ∧ I6 p.1.lo ∧ (∃ g o, ao = some ⟨g, o, none⟩ ∧ Q g ∧ ∀ j, j < 4 → W.cell? ⟨g, o + k * 4 + j, none⟩ = (rvC p)[j]?) ∧ Il Q W p.2 p.1.code) (hb : Below W.heap.size W w) : LqAt w ao p k := by
  obtain ⟨-, -, ⟨g, o, e, -, hc⟩, n5⟩ := h
  obtain ⟨a5, c5, e5, f5, g5⟩ := n5.at
  obtain ⟨r, vc⟩ := p
  dsimp only at *
  subst e5
  have cc : ∀ j x, j < 4 → (rvC (r, .slice a5 r.code.length c5))[j]? = some x → w.cell? ⟨g, o + k * 4 + j, none⟩ = some x := fun j x hj hx => by
    have h1 := (hc j hj).trans hx
    exact (hb.cell (World.block_lt_of_cell? W _ h1)).trans h1
  exact ⟨g, o, a5, _, c5, e, rfl, rfl, ⟨cc 0 _ (by omega) rfl, cc 1 _ (by omega) rfl, cc 2 _ (by omega) rfl, cc 3 _ (by omega) rfl⟩, il_qt (n5.later hb), f5, g5⟩
theorem six_of {Q : Nat → Prop} {W : World} {vs vf : Value} {sys : List Sy} {fns : List Rt} (h1 : Sys Q W vs sys) (h2 : Rts Q W vf fns) : Six ⟨sys, fns⟩ := by
  obtain ⟨ao, c, rfl, -⟩ := id h1
  obtain ⟨ao', c', rfl, -⟩ := id h2
  have nn : ∀ {l : List Int} {v : Value}, Nl Q W v l → ∀ i ∈ l, I6 i := fun {l v} h i hi => by
    obtain ⟨k, hk, rfl⟩ := List.mem_iff_getElem.1 hi
    obtain ⟨a, b, -, -, -, h4⟩ := h
    obtain ⟨g, o, -, -, h7⟩ := h4 (by omega)
    exact (h7 k hk).1
  have ni : ∀ {l : List Ins} {v : Value}, Il Q W v l → ∀ i ∈ l, I6 i.op ∧ I6 i.a := fun {l v} h i hi => by
    obtain ⟨k, hk, rfl⟩ := List.mem_iff_getElem.1 hi
    obtain ⟨a, b, -, -, -, h4⟩ := h
    obtain ⟨g, o, -, -, h7⟩ := h4 (by omega)
    exact ⟨(h7 k hk).1, (h7 k hk).2.1⟩
  refine ⟨fun s hs => ?_, fun r hr => ?_⟩
  · obtain ⟨k, hk, rfl⟩ := List.mem_iff_getElem.1 hs
    obtain ⟨g, o, -, -, i1, i2, v1, v2, v3, v4, vc, -, -, -, -, -, -, -, -, n1, n2, n3, n4, n5⟩ := h1.nth hk
    exact ⟨i1, i2, nn n1, nn n2, nn n3, nn n4, ni n5⟩
  · obtain ⟨k, hk, rfl⟩ := List.mem_iff_getElem.1 hr
    obtain ⟨g, o, -, -, i1, i2, vc, -, -, -, -, n5⟩ := h2.nth hk
    exact ⟨i1, i2, ni n5⟩
theorem NP.push {w : World} {N T T1 n : Nat} {x1 x2 x3 x4 x5 x6 x7 x8 y1 y2 y3 vc v : Value} {X : List Ins} {ss : List (List Int × Value)} {l : List Int} (h : NP w N T T1 x1 x2 x3 x4 x5 x6 x7 x8 y1 y2 y3 vc n X ss) (hs : SetIn w N l v) : NP w N T T1 x1 x2 x3 x4 x5 x6 x7 x8 y1 y2 y3 vc n X (ss ++ [(l, v)]) := ⟨h.nt, h.n1, h.ci, fun q hq => by
  rcases List.mem_append.1 hq with hq | hq
  · exact h.si q hq
  · rw [List.mem_singleton] at hq
    subst hq
    exact hs⟩
section
variable {W w w' : World} {N Qb : Nat} {ls : List (Sy × Sv)} {vs v5 v6 v7 vf : Value} {cv : List Value} {cl : List (List Ins)} {x5 x6 x7 : List Value}
/-- One function more. -/
theorem LX.turnF {vf' vc : Value} {c : List Ins} {n : Nat} {xs : List Value} (h : LX W w N Qb ls vs v5 v6 v7 vf cv cl x5 x6 x7) (hf : w.ownsRow N 45 4 vf n xs) (hm : Mv w w' (fun j => vf.ownBlock = some j)) (hc : CodIn w N c.length (fA cl.length c) vc) (hv : ∀ u ∈ cv, Ap u vc) : LX W (w'.setCell ⟨Qb, 1, none⟩ vf') N Qb ls vs v5 v6 v7 vf' (cv ++ [vc]) (cl ++ [c]) x5 x6 x7 := by
  have h1 := h.mvT (T := 45) hm (fun j e => ⟨(hf.lt j e).1, h.qn hf (by decide) e⟩) (fun j e1 e2 => own_types h.rs hf (by decide) j e1 e2) (fun j e cs T' hc => own_T hf e cs T' hc) (by decide) (by decide) (fun j e1 e2 => own_types h.r5 hf (by decide) j e1 e2) (fun j e1 e2 => own_types h.r6 hf (by decide) j e1 e2) (fun j e1 e2 => own_types h.r7 hf (by decide) j e1 e2)
  have hc1 : CodIn w' N c.length (fA cl.length c) vc := hc.mv hm (fun j e e2 => by
    obtain ⟨-, -, cs, hc'⟩ := hc.blk j e
    exact own_not hf hc' (by decide) e2)
  have q1 := h1.qb
  have hm2 : Mv w' (w'.setCell ⟨Qb, 1, none⟩ vf') (fun j => j = Qb) := (Mv.refl w' (fun j => j = Qb)).set (g := Qb) rfl 1 vf'
  have nq : ∀ {e s n : Nat} {v : Value} {xs : List Value}, w'.ownsRow N e s v n xs → 27 ≠ e → ∀ j, v.ownBlock = some j → ¬ j = Qb := fun ho' he j e1 e2 => by
    subst e2
    exact own_not ho' q1 he e1
  have s2 : ∀ {l : List Int} {v : Value}, SetIn w' N l v → SetIn (w'.setCell ⟨Qb, 1, none⟩ vf') N l v := fun hh => hh.mv hm2 (fun j e e2 => by
    obtain ⟨-, -, cs, hc⟩ := hh.blk j e
    subst e2
    rw [q1] at hc
    simp at hc)
  have c2 : ∀ {n : Nat} {X : List Ins} {v : Value}, CodIn w' N n X v → CodIn (w'.setCell ⟨Qb, 1, none⟩ vf') N n X v := fun hh => hh.mv hm2 (fun j e e2 => by
    obtain ⟨-, -, cs, hc⟩ := hh.blk j e
    subst e2
    rw [q1] at hc
    simp at hc)
  refine ⟨by rw [heap_setCell_same w' Qb 1 _ 27 vf' q1]; rfl, hm2.own h1.rs (nq h1.rs (by decide)), fun q hq => ?_, ⟨by simp [h.cd.1], ?_, fun i a b => ?_⟩, hm2.own h1.r5 (nq h1.r5 (by decide)), hm2.own h1.r6 (nq h1.r6 (by decide)), hm2.own h1.r7 (nq h1.r7 (by decide)), h.ap, h1.be.trans (hm2.below (Nat.le_trans h.nw h1.be.size) (fun j hj => by rw [hj]; exact h.nq)), h.nw, h.nq⟩
  · obtain ⟨a, b, c, d⟩ := h1.st q hq
    exact ⟨s2 a, s2 b, s2 c, s2 d⟩
  · rw [List.pairwise_append]
    refine ⟨h.cd.2.1, by simp, ?_⟩
    intro u hu v' hv'
    obtain rfl : v' = vc := by simpa using hv'
    exact hv u hu
  · by_cases e : i < cv.length
    · have e' : i < cl.length := by rw [← h.cd.1]; exact e
      rw [List.getElem_append_left e, List.getElem_append_left e']
      exact c2 (h1.cd.2.2 i e e')
    · have e2 : i = cl.length := by simp at b; have := h.cd.1; omega
      subst e2
      have f1 : (cl ++ [c])[cl.length]'b = c := by simp
      have f2 : (cv ++ [vc])[cl.length]'a = vc := by
        have := h.cd.1
        rw [List.getElem_append_right (by omega)]
        simp
      rw [f1, f2]
      exact c2 hc1
theorem LX.pgm {lf : List (Rt × Value)} (h : LX W w N Qb ls vs v5 v6 v7 vf (codesS ls ++ codesR lf) (codLs ls lf) x5 x6 x7) (hf : w.ownsRow N 45 4 vf lf.length (rtsC lf)) (h6 : Six ⟨ls.map Prod.fst, lf.map Prod.fst⟩) (hz1 : ∀ p ∈ ls, p.1.wi.length ≤ 1048576 ∧ p.1.wo.length ≤ 1048576 ∧ p.1.re.length ≤ 1048576 ∧ p.1.wr.length ≤ 1048576 ∧ p.1.run.code.length ≤ 1048576) (hz2 : ∀ p ∈ lf, p.1.code.length ≤ 1048576) : Pgm Qt w vs vf ⟨ls.map Prod.fst, lf.map Prod.fst⟩ := by
  have := pgm_of (fun c => c) mkI h.rs hf h.st h.cd (fun _ => rfl) (by rw [codP_id]; exact h6) hz1 hz2
  rw [codP_id] at this
  exact this
end
theorem codLs_snoc (ls : List (Sy × Sv)) (lf : List (Rt × Value)) (p : Rt × Value) : codLs ls (lf ++ [p]) = codLs ls lf ++ [p.1.code] := by simp [codLs]
end Go.Proofs.YtpolajoephjdhaaGreatDoor
