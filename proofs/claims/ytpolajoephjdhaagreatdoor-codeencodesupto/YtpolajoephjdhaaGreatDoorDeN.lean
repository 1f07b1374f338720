import Derived.Test.YtpolajoephjdhaaGreatDoorDeM
import Derived.Test.YtpolajoephjdhaaGreatDoorCoLate
import Derived.Test.YtpolajoephjdhaaGreatDoorCoR
/-
  The reader: routine.
-/
namespace Go.Proofs.YtpolajoephjdhaaGreatDoor
open Go.RowKit
set_option maxRecDepth 100000
def codeG (b : List UInt8) : Nat → Rs → Rs
  | 0, s => s
  | n + 1, s => codeG b n (insR b s)
def codeVv (b : List UInt8) : Nat → Rs → List Ins
  | 0, _ => []
  | n + 1, s => insVv b s :: codeVv b n (insR b s)
def rtS1 (b : List UInt8) (s : Rs) : Rs := nmR b s
def rtS2 (b : List UInt8) (s : Rs) : Rs := numR b 0 4 (rtS1 b s)
def rtP (b : List UInt8) (s : Rs) : Nat := numV b 0 4 (rtS1 b s)
def rtS3 (b : List UInt8) (s : Rs) : Rs := numR b (rtP b s) 32 (rtS2 b s)
def rtL (b : List UInt8) (s : Rs) : Nat := numV b (rtP b s) 32 (rtS2 b s)
def rtS4 (b : List UInt8) (s : Rs) : Rs := numR b 0 (rtS3 b s).left (rtS3 b s)
def rtC (b : List UInt8) (s : Rs) : Nat := numV b 0 (rtS3 b s).left (rtS3 b s)
def rtS5 (b : List UInt8) (s : Rs) : Rs := ⟨(rtS4 b s).at', (rtS4 b s).left - rtC b s, (rtS4 b s).bad⟩
def rtnR (b : List UInt8) (s : Rs) : Rs := codeG b (rtC b s) (rtS5 b s)
def rtnV (b : List UInt8) (s : Rs) : Rt := ⟨bs (nmV b s), (rtP b s : Int), (rtL b s : Int), codeVv b (rtC b s) (rtS5 b s)⟩
theorem insR_left (b : List UInt8) (s : Rs) : (insR b s).left = s.left := by
  unfold insR
  split
  · unfold sgnR numR; rw [passR_left, passR_left]
  · unfold numR; rw [passR_left]
section
variable {W W' : World} {B k : Nat} {b : List UInt8} {s : Rs}
theorem undRt1 : (Tryz.prog.underlying 45).map (fun d => match d with | .struct _ | .array _ _ => true | _ => false) = some true := by kernel_rfl
theorem res_rt1 {fn : Func} {p : Tmp} (hr : fn.results = #[.cell p 45]) {tmps : Array Value} {W : World} {g : Nat} {x y z t : Value} (hp : tmps.getD p undef = .pointer (some ⟨g, 0, none⟩)) (hg : W.heap[g]? = some (.cells #[x, y, z, t] 45 (0, 0))) : (results fn tmps).run Tryz.prog W = .ok (.agg #[x, y, z, t]) W := by
  obtain ⟨d, hu, hd⟩ := Option.map_eq_some_iff.1 undRt1
  exact results_cell_row hr tmps W g 45 _ (0, 0) d hp hg hu (by cases d <;> first | rfl | cases hd) (by kernel_rfl)
/-- While a routine is read: what comes out, the one that is filled, the reader. -/
def Lc (W w : World) (B k : Nat) (b : List UInt8) (s : Rs) (r2 r3 : Nat) (x y z t : Value) : Prop :=
  w.heap[r2]? = some (.cells #[.string ⟨#[]⟩, .int .i64 0, .int .i64 0, .slice none 0 0] 45 (0, 0)) ∧ w.heap[r3]? = some (.cells #[x, y, z, t] 45 (0, 0)) ∧ Rdr w B k b s ∧ Mv W w (fun j => j = k) ∧ k < r2 ∧ r2 < r3 ∧ W.heap.size ≤ r2 ∧ Tb w ∧ 0 < B
theorem Lc.call {w w' : World} {s' : Rs} {r2 r3 : Nat} {x y z t : Value} (h : Lc W w B k b s r2 r3 x y z t) (hr : Rdr w' B k b s') (hm : Mv w w' (fun j => j = k)) : Lc W w' B k b s' r2 r3 x y z t := by
  obtain ⟨h1, h2, h3, h4, h5, h6, h7, h8, h9⟩ := h
  have := h3.1
  exact ⟨hm.at h1 (by omega), hm.at h2 (by omega), hr, h4.trans hm (fun _ _ e => e), h5, h6, h7, h8.mv hm (by omega), h9⟩
theorem Lc.set {w : World} {r2 r3 i : Nat} {x y z t x' y' z' t' v : Value} (h : Lc W w B k b s r2 r3 x y z t) (he : (#[x, y, z, t] : Array Value).setIfInBounds i v = #[x', y', z', t']) : Lc W (w.setCell ⟨r3, i, none⟩ v) B k b s r2 r3 x' y' z' t' := by
  obtain ⟨h1, h2, h3, h4, h5, h6, h7, h8, h9⟩ := h
  have hk := h3.1
  have m := (Mv.refl w (fun j => j = r3)).set (g := r3) rfl i v
  have e := heap_setCell_same w r3 i _ 45 v h2
  rw [he] at e
  exact ⟨m.at h1 (by omega), e, h3.mv m (fun j e => by omega), h4.trans m (fun j hj e => by omega), h5, h6, h7, h8.mv m (by omega), h9⟩
theorem Lc.grow {w w' : World} {r2 r3 : Nat} {x y z t : Value} (h : Lc W w B k b s r2 r3 x y z t) (hm : Mv w w' (fun j => r3 + 1 ≤ j)) : Lc W w' B k b s r2 r3 x y z t := by
  obtain ⟨h1, h2, h3, h4, h5, h6, h7, h8, h9⟩ := h
  have := h3.1
  exact ⟨hm.at h1 (by omega), hm.at h2 (by omega), h3.mv hm (fun j e => by omega), h4.trans hm (fun j hj e => by omega), h5, h6, h7, h8.mv hm (by omega), h9⟩
theorem Lc.row {w : World} {r2 r3 : Nat} {x y z t : Value} (h : Lc W w B k b s r2 r3 x y z t) : (w.cell? ⟨r3, 0, none⟩ = some x ∧ w.cell? ⟨r3, 1, none⟩ = some y ∧ w.cell? ⟨r3, 2, none⟩ = some z ∧ w.cell? ⟨r3, 3, none⟩ = some t) ∧ ∀ q, w.frozen? ⟨r3, q, none⟩ = false := ⟨row4 h.2.1, fun q => frozen_of_row w r3 q _ 45 h.2.1⟩
set_option maxHeartbeats 4000000 in
theorem routine_at (h : Rdr W B k b s) (hB : 0 < B) (ht : Tb W) : Calls Tryz.prog 61 #[.pointer (some ⟨k, 0, none⟩)] W fun e w' => ∃ vc, e = .returned (rtV (rtnV b s) vc) ∧ w'.ownsRow W.heap.size 56 2 vc (rtnV b s).code.length (insC (rtnV b s).code) ∧ Rdr w' B k b (rtnR b s) ∧ Mv W w' (fun j => j = k) := by
  obtain ⟨w0, hw0⟩ : ∃ X, X = W.alloc (.cells #[.string ⟨#[]⟩, .int .i64 0, .int .i64 0, .slice none 0 0] 45) := ⟨_, rfl⟩
  obtain ⟨w1, hw1⟩ : ∃ X, X = w0.alloc (.cells #[.string ⟨#[]⟩, .int .i64 0, .int .i64 0, .slice none 0 0] 45) := ⟨_, rfl⟩
  have B0 : Below W.heap.size W w0 := hw0 ▸ below_alloc W _
  have B1 : Below w0.heap.size w0 w1 := hw1 ▸ below_alloc w0 _
  have n1 : w0.heap[W.heap.size]? = some (.cells #[.string ⟨#[]⟩, .int .i64 0, .int .i64 0, .slice none 0 0] 45 (0, 0)) := by rw [hw0]; exact heap_alloc_new W _
  have n2 : w1.heap[w0.heap.size]? = some (.cells #[.string ⟨#[]⟩, .int .i64 0, .int .i64 0, .slice none 0 0] 45 (0, 0)) := by rw [hw1]; exact heap_alloc_new w0 _
  have e0 : w0.heap.size = W.heap.size + 1 := by rw [hw0]; exact Array.size_push ..
  obtain ⟨r2, hr2⟩ : ∃ r, r = W.heap.size := ⟨_, rfl⟩
  obtain ⟨r3, hr3⟩ : ∃ r, r = W.heap.size + 1 := ⟨_, rfl⟩
  rw [e0, ← hr3] at n2
  rw [← hr2] at n1
  have L1 : Hid (Lc W w1 B k b s r2 r3 (.string ⟨#[]⟩) (.int .i64 0) (.int .i64 0) (.slice none 0 0)) := by
    have hk := h.lt
    exact ⟨(B1.block r2 (lt_of_block n1)).trans n1, n2, (h.later B0).later B1, Mv.of_below (below_on B0 B1) _, by omega, by omega, by omega, (ht.later B0).later B1, hB⟩
  have J1 := hide (rname_at L1.out.2.2.1)
  obtain ⟨x, hx⟩ : ∃ x, x = rtnR b s := ⟨_, rfl⟩
  obtain ⟨v, hv⟩ : ∃ v, v = rtnV b s := ⟨_, rfl⟩
  rw [← hx, ← hv]
  unfold rtnR at hx
  unfold rtnV at hv
  have K2 : Hid (∀ w, Rdr w B k b (rtS1 b s) → Calls Tryz.prog 59 #[.pointer (some ⟨k, 0, none⟩), .int .i64 0, .int .i64 4] w fun e w' => e = .returned (.int .i64 (rtP b s : Int)) ∧ Rdr w' B k b (rtS2 b s) ∧ Mv w w' (fun j => j = k)) := fun w hw => number_at hw 0 4 (by omega) (by omega)
  have hpl : rtP b s ≤ 4 := numV_le _ _ _ _
  have K3 : Hid (∀ w, Rdr w B k b (rtS2 b s) → Calls Tryz.prog 59 #[.pointer (some ⟨k, 0, none⟩), .int .i64 (rtP b s : Int), .int .i64 32] w fun e w' => e = .returned (.int .i64 (rtL b s : Int)) ∧ Rdr w' B k b (rtS3 b s) ∧ Mv w w' (fun j => j = k)) := fun w hw => number_at hw (rtP b s) 32 (by omega) (by omega)
  have K4 : Hid (∀ w, Rdr w B k b (rtS3 b s) → Calls Tryz.prog 59 #[.pointer (some ⟨k, 0, none⟩), .int .i64 0, .int .i64 ((rtS3 b s).left : Int)] w fun e w' => e = .returned (.int .i64 (rtC b s : Int)) ∧ Rdr w' B k b (rtS4 b s) ∧ Mv w w' (fun j => j = k)) := fun w hw => number_at hw 0 (rtS3 b s).left (by omega) (by have := hw.2.2.1; omega)
  have hcl : rtC b s ≤ (rtS3 b s).left := numV_le _ _ _ _
  have hlf : (rtS4 b s).left = (rtS3 b s).left := by unfold rtS4 numR; exact passR_left _ _ _
  have e5 : rtS5 b s = ⟨(rtS4 b s).at', (rtS4 b s).left - rtC b s, (rtS4 b s).bad⟩ := rfl
  have e1 : rtS1 b s = nmR b s := rfl
  rw [e1] at K2
  generalize rtC b s = cn at *
  generalize rtS5 b s = s5 at *
  generalize rtS4 b s = s4 at *
  generalize rtS3 b s = s3 at *
  generalize rtL b s = lo at *
  generalize rtP b s = pa at *
  generalize rtS2 b s = s2 at *
  generalize nmR b s = s1 at *
  generalize bs (nmV b s) = nm at *
  have HX := hide hx
  have HV := hide hv
  have E5 := hide e5
  have HLF := hide hlf
  have ER2 := hide hr2
  have ER3 := hide hr3
  clear h ht hx hv e5 e1 B0 B1 n1 n2 e0 hlf
  go_enter Tryz.func61, Tryz.ntmps61
  go_upto_region 2 with fail
  rw [← hw0, ← hw1, ← hr3, ← hr2]
  clear hw0 hw1 hr2 hr3
  go_wp2_with fail
  refine J1.out.mono ?_
  rintro e w2 ⟨rfl, hr, hm⟩
  have L2 := L1.out.call hr hm
  obtain ⟨⟨a0, a1, a2, a3⟩, z⟩ := L2.row
  have L3 := hide (L2.set (i := 0) (v := .string nm) rfl)
  clear hr hm L2 J1
  go_wp2_with fail
  refine (K2.out _ L3.out.2.2.1).mono ?_
  rintro e w3 ⟨rfl, hr, hm⟩
  have L4 := L3.out.call hr hm
  clear a0 a1 a2 a3 z
  obtain ⟨⟨a0, a1, a2, a3⟩, z⟩ := L4.row
  have L5 := hide (L4.set (i := 1) (v := .int .i64 (pa : Int)) rfl)
  have c1 := L5.out.row.1.2.1
  clear hr hm L4
  go_wp2_with fail
  refine (K3.out _ L5.out.2.2.1).mono ?_
  rintro e w4 ⟨rfl, hr, hm⟩
  have L6 := L5.out.call hr hm
  clear a0 a1 a2 a3 z c1
  obtain ⟨⟨a0, a1, a2, a3⟩, z⟩ := L6.row
  have L7 := hide (L6.set (i := 2) (v := .int .i64 (lo : Int)) rfl)
  obtain ⟨w5, hw5⟩ : ∃ X, X = w4.setCell ⟨r3, 2, none⟩ (.int .i64 (lo : Int)) := ⟨_, rfl⟩
  clear hr hm L6
  go_upto_region 5 with fail
  rw [← hw5] at L7 ⊢
  clear a0 a1 a2 a3 z hw5
  obtain ⟨-, -, hlt3, -, vb, hvb, -⟩ := L7.out.2.2.1
  have d2 : w5.cell? ⟨k, 2, none⟩ = some (.int .i64 (s3.left : Int)) := by rw [cell_of_row w5 _ _ _ 72 (0, 0) hvb]; rfl
  clear hvb
  go_wp2_with fail
  refine (K4.out _ L7.out.2.2.1).mono ?_
  rintro e w6 ⟨rfl, hr, hm⟩
  have L8 := hide (L7.out.call hr hm)
  clear hr hm d2
  have R8 := L8.out.2.2.1
  obtain ⟨g1, g2, g3, g4, vb2, hvb2, g6, g7⟩ := R8
  have d2 : w6.cell? ⟨k, 2, none⟩ = some (.int .i64 (s4.left : Int)) := by rw [cell_of_row w6 _ _ _ 72 (0, 0) hvb2]; rfl
  have zk : ∀ q, w6.frozen? ⟨k, q, none⟩ = false := fun q => frozen_of_row w6 k q _ 72 hvb2
  have L9 : Hid (Lc W (w6.setCell ⟨k, 2, none⟩ (.int .i64 ((s4.left - cn : Nat) : Int))) B k b s5 r2 r3 (.string nm) (.int .i64 (pa : Int)) (.int .i64 (lo : Int)) (.slice none 0 0)) := by
    have m := (Mv.refl w6 (fun j => j = k)).set (g := k) rfl 2 (.int .i64 ((s4.left - cn : Nat) : Int))
    refine L8.out.call ?_ m
    rw [E5.out]
    exact ⟨g1, g2, by show s4.left - cn ≤ 2000; omega, g4, vb2, heap_setCell_same w6 k 2 _ 72 _ hvb2, g6.mv m (fun j hp e e2 => by have := g7 j hp e; omega), g7⟩
  have hcl4 : cn ≤ s4.left := by have := HLF.out; omega
  have ew : (s4.left : Int) - (cn : Int) = ((s4.left - cn : Nat) : Int) := by omega
  have EW := hide ew
  obtain ⟨w7, hw7⟩ : ∃ X, X = w6.setCell ⟨k, 2, none⟩ (.int .i64 ((s4.left - cn : Nat) : Int)) := ⟨_, rfl⟩
  have hc2 : cn ≤ 2000 := by omega
  clear hvb2 g6 g7 ew
  go_upto_region 7 with fail
  rw [EW.out, ← hw7]
  rw [← hw7] at L9
  clear hw7 d2 zk
  go_wp2_with fail
  go_loopw [31] (fun va wr => ∃ (j : Nat) (st : Rs) (dn : List Ins) (vc : Value), va = .int .i64 (j : Int) ∧ j ≤ cn ∧ dn.length = j ∧ Hid (x = codeG b (cn - j) st) ∧ Hid (v = ⟨nm, (pa : Int), (lo : Int), dn ++ codeVv b (cn - j) st⟩) ∧ Hid (wr.ownsRow (r3 + 1) 56 2 vc dn.length (insC dn)) ∧ Hid (Lc W wr B k b st r2 r3 (.string nm) (.int .i64 (pa : Int)) (.int .i64 (lo : Int)) vc)) (fun va _ => cn - (intOf va).toNat)
  case atStart => exact ⟨0, s5, [], .slice none 0 0, rfl, by omega, rfl, HX.out, HV.out, ⟨rfl, .inl ⟨rfl, rfl⟩⟩, L9.out⟩
  case round =>
    obtain ⟨j, st, dn, vc, rfl, hj, hdn, hx, hv, hown, hlc⟩ := hrel
    obtain ⟨ao, c, rfl⟩ := own_len hown.out
    have hcap := own_cap hown.out
    by_cases hlt : j < cn
    · have J2 := hide (instr_at (hlc.out.call (hlc.out.2.2.1.later (below_drew wr)) (Mv.of_below (below_drew wr) _)).2.2.1 hlc.out.2.2.2.2.2.2.2.2 (hlc.out.2.2.2.2.2.2.2.1.later (below_drew wr)))
      obtain ⟨q, hq⟩ : ∃ q, cn - j = q + 1 := ⟨cn - j - 1, by omega⟩
      have hq' : cn - (j + 1) = q := by omega
      have HX2 : Hid (x = codeG b (cn - (j + 1)) (insR b st)) := by unfold Hid; rw [hx.out, hq, hq']; rfl
      have HV2 : Hid (v = ⟨nm, (pa : Int), (lo : Int), (dn ++ [insVv b st]) ++ codeVv b (cn - (j + 1)) (insR b st)⟩) := by unfold Hid; rw [hv.out, hq, hq', codeVv]; simp
      generalize insVv b st = iv at *
      generalize insR b st = st2 at *
      obtain ⟨⟨a0, a1, a2, a3⟩, z⟩ := hlc.out.row
      have hs3 := hlc.out.2.2.2.2.2.1
      have hs2 := hlc.out.2.2.2.2.1
      have hwl := hlc.out.2.2.2.2.2.2.1
      clear hx hv hq hq'
      unfold insV at J2
      go_upto_region 9 with fail
      have HDN := hide hdn
      have hdl : dn.length ≤ 2000 := by omega
      clear hdn
      obtain ⟨ic, hi, hz0, hz1, hz2⟩ := info_parts infoI
      have hL0 := hlc.out.call (hlc.out.2.2.1.later (below_drew wr)) (Mv.of_below (below_drew wr) _)
      have hO0 := own_later hown.out (below_drew wr)
      refine wp_region_late (J := fun i => i != 7) (S := (fun Wq => Wq.cell? ⟨r3, 3, none⟩ = some (.slice ao dn.length c))) (by kernel_rfl) (a3) (fun hHeld => ?_)
      refine' wpAnyJ_takeW (i := 0) (oi := { dst := some 33, op := Go.Op.fieldAddr 45 (Go.Operand.tmp 3) 3, type := 0, pos := "bytes.go:112", after := #[], guard := none }) (v := _) rfl (by kernel_rfl) (by kernel_rfl) (by kernel_rfl) (fun _ _ _ h => h) (Or.inl ⟨by rfl, ?hyj11⟩) ?rej11
      case hyj11 => (intro W hSw; (try dsimp only at hSw); go_simp; try with_reducible rfl)
      try simp only [Act.put, List.setIfInBounds_toArray, List.set_cons_zero, List.set_cons_succ]
      refine' wpAnyJ_take (i := 1) (oi := { dst := some 34, op := Go.Op.load 43 (Go.Operand.tmp 33), type := 43, pos := "bytes.go:112", after := #[{ on := 0, ground := Go.Ground.data }], guard := none }) (v := _) rfl (by kernel_rfl) (by kernel_rfl) (by kernel_rfl) (by kernel_rfl) (fun _ _ _ h => h) (Or.inl ⟨by rfl, ?hyj12⟩) (by assumption) ?rej12
      case hyj12 => (intro W hSw; (try dsimp only at hSw); go_simp; try with_reducible rfl)
      try simp only [Act.put, List.setIfInBounds_toArray, List.set_cons_zero, List.set_cons_succ]
      refine' wpAnyJ_takeW (i := 2) (oi := { dst := some 35, op := Go.Op.move (Go.Operand.tmp 0), type := 70, pos := "bytes.go:112", after := #[], guard := none }) (v := _) rfl (by kernel_rfl) (by kernel_rfl) (by kernel_rfl) (fun _ _ _ h => h) (Or.inl ⟨by rfl, ?hyj13⟩) ?rej13
      case hyj13 => (intro W hSw; (try dsimp only at hSw); go_simp; try with_reducible rfl)
      try simp only [Act.put, List.setIfInBounds_toArray, List.set_cons_zero, List.set_cons_succ]
      refine wpAnyJ_ready (rs := [3]) (by kernel_rfl) (by simp) ?_
      refine AllReadyJ.cons (o := { dst := some 36, op := Go.Op.call { callee := Go.Callee.value (Go.Operand.func 92), args := #[Go.Operand.tmp 35], argTypes := #[70] }, type := 56, pos := "bytes.go:112", after := #[{ on := 2, ground := Go.Ground.data }], guard := none }) rfl (fun K hK => ?_) AllReadyJ.nil
      clear hHeld
      go_simp
      go_at_call 92
      refine J2.out.mono ?_
      rintro e w8 ⟨rfl, hr8, hm8⟩
      have L8 := hL0.call hr8 hm8
      have O8 := hm8.own hO0 (fun g e1 e2 => by have := (hown.out.lt g e1).1; omega)
      have C8 := L8.row.1.2.2.2
      have CB := (L8.call (L8.2.2.1.later (below_alloc w8 (.cells #[.int .i64 iv.op, .int .i64 iv.a] 56))) (Mv.of_below (below_alloc w8 (.cells #[.int .i64 iv.op, .int .i64 iv.a] 56)) _)).row.1.2.2.2
      have hsz8 := lt_of_block L8.2.1
      refine hK.out _ _ (fun _ _ => C8) ?_
      clear hK K
      try simp only [Act.put, List.setIfInBounds_toArray, List.set_cons_zero, List.set_cons_succ]
      refine wpAnyJ_ready (rs := [4]) (by kernel_rfl) (by simp) ?_
      refine AllReadyJ.cons (o := { dst := some 37, op := Go.Op.buildSlice 43 1 #[(0, Go.Operand.tmp 36)], type := 43, pos := "bytes.go:112", after := #[{ on := 3, ground := Go.Ground.data }], guard := none }) rfl (fun K hK => ?_) AllReadyJ.nil
      go_simp
      refine hK.out _ _ (fun _ _ => CB) ?_
      clear hK K
      try simp only [Act.put, List.setIfInBounds_toArray, List.set_cons_zero, List.set_cons_succ]
      refine wpAnyJ_ready (rs := [5]) (by kernel_rfl) (by simp) ?_
      refine AllReadyJ.cons (o := { dst := some 38, op := Go.Op.call { callee := Go.Callee.builtin Go.Builtin.append, args := #[Go.Operand.tmp 34, Go.Operand.tmp 37], argTypes := #[43, 43] }, type := 43, pos := "bytes.go:112", after := #[{ on := 1, ground := Go.Ground.data }, { on := 4, ground := Go.Ground.data }, { on := 3, ground := Go.Ground.chain }], guard := none }) rfl (fun K hK => ?_) AllReadyJ.nil
      refine step_append_lies _ rfl (.tmp 34) (.tmp 37) 43 rfl (r3 + 1) 56 ic (.agg #[.int .i64 0, .int .i64 0]) 2 16 Tryz.underlying43 hi hz0 hz1 hz2 rfl (by decide) (.slice ao dn.length c) dn.length (insC dn) (by simp [Act.eval]) (O8.alloc _) ⟨w8.heap.size, 0, none⟩ 1 1 [.int .i64 iv.op, .int .i64 iv.a] (by simp [Act.eval]) rfl (by intro j u hj; match j, hj with | 0, hj => simp at hj; subst hj; simp [Addr.add] | 1, hj => simp at hj; subst hj; simp [Addr.add]) (by intro u hu; simp at hu; rcases hu with rfl | rfl <;> rfl) (by omega) (by unfold maxLen; omega) (by omega) (by simp; omega) _ rfl ?_
      intro g9 c9 w9 ho9 hg9 _ _
      have m9 : Mv w8 w9 (fun j => r3 + 1 ≤ j) := ((Mv.refl w8 (fun j => r3 + 1 ≤ j)).alloc _).grown hg9 (fun g _ e => (O8.lt g e).1)
      have L9b := L8.grow m9
      have CA := L9b.row.1.2.2.2
      have ZA := L9b.row.2
      refine hK.out _ _ (fun _ _ => CA) ?_
      clear hK K
      try simp only [Act.put, List.setIfInBounds_toArray, List.set_cons_zero, List.set_cons_succ]
      refine' wpAnyJ_takeW (i := 6) (oi := { dst := some 39, op := Go.Op.fieldAddr 45 (Go.Operand.tmp 3) 3, type := 0, pos := "bytes.go:112", after := #[{ on := 0, ground := Go.Ground.phase }, { on := 1, ground := Go.Ground.phase }, { on := 2, ground := Go.Ground.phase }, { on := 3, ground := Go.Ground.phase }, { on := 4, ground := Go.Ground.phase }, { on := 5, ground := Go.Ground.phase }], guard := none }) (v := _) rfl (by kernel_rfl) (by kernel_rfl) (by kernel_rfl) (fun _ _ _ h => h) (Or.inl ⟨by rfl, ?hyj14⟩) ?rej14
      case hyj14 => (intro W hSw; (try dsimp only at hSw); go_simp; try with_reducible rfl)
      try simp only [Act.put, List.setIfInBounds_toArray, List.set_cons_zero, List.set_cons_succ]
      refine wpAnyJ_ready (rs := [7]) (by kernel_rfl) (by simp) ?_
      refine AllReadyJ.cons (o := { dst := none, op := Go.Op.store 43 (Go.Operand.tmp 39) (Go.Operand.tmp 38), type := 0, pos := "bytes.go:112", after := #[{ on := 6, ground := Go.Ground.data }, { on := 5, ground := Go.Ground.data }, { on := 5, ground := Go.Ground.chain }, { on := 0, ground := Go.Ground.phase }, { on := 1, ground := Go.Ground.phase }, { on := 2, ground := Go.Ground.phase }, { on := 3, ground := Go.Ground.phase }, { on := 4, ground := Go.Ground.phase }, { on := 5, ground := Go.Ground.phase }], guard := none }) rfl (fun K hK => ?_) AllReadyJ.nil
      go_simp
      refine hK.out _ _ (fun h => absurd h (by decide)) ?_
      clear hK K
      try simp only [Act.put, List.setIfInBounds_toArray, List.set_cons_zero, List.set_cons_succ]
      refine wpAnyJ_done (by kernel_rfl) ?_ _
      have el : (dn ++ [iv]).length = dn.length + 1 := by simp
      have L10 := hide (L9b.set (i := 3) (v := .slice (some ⟨g9, 0, none⟩) (dn.length + 1) c9) rfl)
      have O10 : Hid ((w9.setCell ⟨r3, 3, none⟩ (.slice (some ⟨g9, 0, none⟩) (dn.length + 1) c9)).ownsRow (r3 + 1) 56 2 (.slice (some ⟨g9, 0, none⟩) (dn.length + 1) c9) (dn ++ [iv]).length (insC (dn ++ [iv]))) := by
        unfold Hid
        rw [el, insC_snoc]
        exact ((Mv.refl w9 (fun j => j = r3)).set (g := r3) rfl 3 _).own ho9 (fun g e1 e2 => by have := (ho9.lt g e1).1; omega)
      have hd2 : (dn ++ [iv]).length = j + 1 := by rw [el, HDN.out]
      have HD2 := hide hd2
      clear ho9 hg9 m9 L9b CA ZA L8 O8 C8 CB hL0 hO0 el hd2
      go_wp2_with fail
      go_roundw
      case rel => exact ⟨j + 1, st2, dn ++ [iv], _, by go_num, by omega, HD2.out, HX2.out, HV2.out, O10.out, L10.out⟩
      case measure => simp [intOf]; omega
    · obtain rfl : j = cn := by omega
      obtain rfl : x = st := by rw [hx.out, Nat.sub_self]; rfl
      have hv2 : v = ⟨nm, (pa : Int), (lo : Int), dn⟩ := by rw [hv.out, Nat.sub_self, codeVv]; simp
      have HV2 := hide hv2
      obtain ⟨⟨a0, a1, a2, a3⟩, z3⟩ := hlc.out.row
      obtain ⟨q0, q1, q2, q3⟩ := row4 hlc.out.1
      have z : ∀ q, wr.frozen? ⟨r2, q, none⟩ = false := fun q => frozen_of_row wr r2 q _ 45 hlc.out.1
      have hs3 := hlc.out.2.2.2.2.2.1
      have hs2 := hlc.out.2.2.2.2.1
      have hwl := hlc.out.2.2.2.2.2.2.1
      have hkB := hlc.out.2.2.1.1
      have F := hide (w4s_row (.string nm) (.int .i64 (pa : Int)) (.int .i64 (lo : Int)) (.slice ao dn.length c) hlc.out.1)
      have MM := w4s_mv wr r2 (.string nm) (.int .i64 (pa : Int)) (.int .i64 (lo : Int)) (.slice ao dn.length c)
      have F2 := hide (hlc.out.2.2.1.mv MM (fun j e => by omega))
      have F3 := hide (hlc.out.2.2.2.1.trans MM (fun j hj e => by omega))
      have F4 := hide (own_lower (MM.own hown.out (fun g e1 e2 => by have := (hown.out.lt g e1).1; omega)) (show W.heap.size ≤ r3 + 1 by omega))
      clear hx hv hv2 MM hdn
      go_wp2_with fail
      refine bodyPost_ret (res_rt1 rfl rfl F.out) rfl ⟨.slice ao dn.length c, ?_, ?_, F2.out, F3.out⟩
      · rw [HV2.out]; rfl
      · rw [HV2.out]; exact F4.out
end
end Go.Proofs.YtpolajoephjdhaaGreatDoor

/-
  The reader: system.
-/
namespace Go.Proofs.YtpolajoephjdhaaGreatDoor
open Go.RowKit
set_option maxRecDepth 100000
def syS1 (b : List UInt8) (s : Rs) : Rs := setR b s
def syS2 (b : List UInt8) (s : Rs) : Rs := setR b (syS1 b s)
def syS3 (b : List UInt8) (s : Rs) : Rs := setR b (syS2 b s)
def syS4 (b : List UInt8) (s : Rs) : Rs := setR b (syS3 b s)
def sysR (b : List UInt8) (s : Rs) : Rs := rtnR b (syS4 b s)
def sysV (b : List UInt8) (s : Rs) : Sy := ⟨setV b s, setV b (syS1 b s), setV b (syS2 b s), setV b (syS3 b s), rtnV b (syS4 b s)⟩
/-- A system's lists, each of the owner's own, and apart from one another. -/
def SyOwn (N : Nat) (w : World) (s : Sy) (v1 v2 v3 v4 vc : Value) : Prop :=
  (w.ownsRow N 3 1 v1 s.wi.length (intC s.wi) ∧ w.ownsRow N 3 1 v2 s.wo.length (intC s.wo) ∧ w.ownsRow N 3 1 v3 s.re.length (intC s.re) ∧ w.ownsRow N 3 1 v4 s.wr.length (intC s.wr) ∧ w.ownsRow N 56 2 vc s.run.code.length (insC s.run.code)) ∧ Ap v1 v2 ∧ Ap v1 v3 ∧ Ap v1 v4 ∧ Ap v2 v3 ∧ Ap v2 v4 ∧ Ap v3 v4
theorem SyOwn.mv {N : Nat} {w w' : World} {s : Sy} {v1 v2 v3 v4 vc : Value} {S : Nat → Prop} (h : SyOwn N w s v1 v2 v3 v4 vc) (hm : Mv w w' S) (hs : ∀ v ∈ [v1, v2, v3, v4, vc], ∀ j, v.ownBlock = some j → ¬ S j) : SyOwn N w' s v1 v2 v3 v4 vc := by
  obtain ⟨⟨h1, h2, h3, h4, h5⟩, h6⟩ := h
  exact ⟨⟨hm.own h1 (hs v1 (by simp)), hm.own h2 (hs v2 (by simp)), hm.own h3 (hs v3 (by simp)), hm.own h4 (hs v4 (by simp)), hm.own h5 (hs vc (by simp))⟩, h6⟩
theorem SyOwn.lower {N M : Nat} {w : World} {s : Sy} {v1 v2 v3 v4 vc : Value} (h : SyOwn N w s v1 v2 v3 v4 vc) (hM : M ≤ N) : SyOwn M w s v1 v2 v3 v4 vc := by
  obtain ⟨⟨h1, h2, h3, h4, h5⟩, h6⟩ := h
  exact ⟨⟨own_lower h1 hM, own_lower h2 hM, own_lower h3 hM, own_lower h4 hM, own_lower h5 hM⟩, h6⟩
theorem SyOwn.block {N : Nat} {w : World} {s : Sy} {v1 v2 v3 v4 vc : Value} (h : SyOwn N w s v1 v2 v3 v4 vc) : ∀ v ∈ [v1, v2, v3, v4, vc], ∀ j, v.ownBlock = some j → N ≤ j ∧ j < w.heap.size := by
  obtain ⟨⟨h1, h2, h3, h4, h5⟩, -⟩ := h
  intro v hv j hj
  simp only [List.mem_cons, List.not_mem_nil, or_false] at hv
  rcases hv with rfl | rfl | rfl | rfl | rfl
  · exact h1.lt j hj
  · exact h2.lt j hj
  · exact h3.lt j hj
  · exact h4.lt j hj
  · exact h5.lt j hj
theorem ap_new {w w' : World} {N M e s n e' s' n' : Nat} {u v : Value} {xs ys : List Value} (h : w.ownsRow N e s u n xs) (h' : w'.ownsRow M e' s' v n' ys) (hM : w.heap.size ≤ M) : Ap u v := fun g h1 h2 => by
  have := (h.lt g h1).2
  have := (h'.lt g h2).1
  omega
section
variable {W W' : World} {B k : Nat} {b : List UInt8} {s : Rs}
theorem undSy1 : (Tryz.prog.underlying 47).map (fun d => match d with | .struct _ | .array _ _ => true | _ => false) = some true := by kernel_rfl
theorem res_sy1 {fn : Func} {p : Tmp} (hr : fn.results = #[.cell p 47]) {tmps : Array Value} {W : World} {g : Nat} {x1 x2 x3 x4 x5 x6 x7 x8 : Value} (hp : tmps.getD p undef = .pointer (some ⟨g, 0, none⟩)) (hg : W.heap[g]? = some (.cells #[x1, x2, x3, x4, x5, x6, x7, x8] 47 (0, 0))) : (results fn tmps).run Tryz.prog W = .ok (.agg #[x1, x2, x3, x4, x5, x6, x7, x8]) W := by
  obtain ⟨d, hu, hd⟩ := Option.map_eq_some_iff.1 undSy1
  exact results_cell_row hr tmps W g 47 _ (0, 0) d hp hg hu (by cases d <;> first | rfl | cases hd) (by kernel_rfl)
/-- Eight cells, written over. -/
def w8s (w : World) (B : Nat) (x1 x2 x3 x4 x5 x6 x7 x8 : Value) : World := (((((((w.setCell ⟨B, 0, none⟩ x1).setCell ⟨B, 1, none⟩ x2).setCell ⟨B, 2, none⟩ x3).setCell ⟨B, 3, none⟩ x4).setCell ⟨B, 4, none⟩ x5).setCell ⟨B, 5, none⟩ x6).setCell ⟨B, 6, none⟩ x7).setCell ⟨B, 7, none⟩ x8
theorem w8s_row {w : World} {B : Nat} {a1 a2 a3 a4 a5 a6 a7 a8 : Value} (x1 x2 x3 x4 x5 x6 x7 x8 : Value) (h : w.heap[B]? = some (.cells #[a1, a2, a3, a4, a5, a6, a7, a8] 47 (0, 0))) : (w8s w B x1 x2 x3 x4 x5 x6 x7 x8).heap[B]? = some (.cells #[x1, x2, x3, x4, x5, x6, x7, x8] 47 (0, 0)) := by
  have h1 := heap_setCell_same _ B 0 #[a1, a2, a3, a4, a5, a6, a7, a8] 47 x1 h
  have h2 := heap_setCell_same _ B 1 #[x1, a2, a3, a4, a5, a6, a7, a8] 47 x2 h1
  have h3 := heap_setCell_same _ B 2 #[x1, x2, a3, a4, a5, a6, a7, a8] 47 x3 h2
  have h4 := heap_setCell_same _ B 3 #[x1, x2, x3, a4, a5, a6, a7, a8] 47 x4 h3
  have h5 := heap_setCell_same _ B 4 #[x1, x2, x3, x4, a5, a6, a7, a8] 47 x5 h4
  have h6 := heap_setCell_same _ B 5 #[x1, x2, x3, x4, x5, a6, a7, a8] 47 x6 h5
  have h7 := heap_setCell_same _ B 6 #[x1, x2, x3, x4, x5, x6, a7, a8] 47 x7 h6
  have h8 := heap_setCell_same _ B 7 #[x1, x2, x3, x4, x5, x6, x7, a8] 47 x8 h7
  exact h8
theorem w8s_mv (w : World) (B : Nat) (x1 x2 x3 x4 x5 x6 x7 x8 : Value) : Mv w (w8s w B x1 x2 x3 x4 x5 x6 x7 x8) (fun j => j = B) := by
  unfold w8s
  exact ((((((((Mv.refl w (fun j => j = B)).set (g := B) rfl _ _).set (g := B) rfl _ _).set (g := B) rfl _ _).set (g := B) rfl _ _).set (g := B) rfl _ _).set (g := B) rfl _ _).set (g := B) rfl _ _).set (g := B) rfl _ _
/-- While a system is read. -/
def Ls (W w : World) (B k : Nat) (b : List UInt8) (s : Rs) (r2 r3 : Nat) (x1 x2 x3 x4 x5 x6 x7 x8 : Value) : Prop :=
  w.heap[r2]? = some (.cells #[.slice none 0 0, .slice none 0 0, .slice none 0 0, .slice none 0 0, .string ⟨#[]⟩, .int .i64 0, .int .i64 0, .slice none 0 0] 47 (0, 0)) ∧ w.heap[r3]? = some (.cells #[x1, x2, x3, x4, x5, x6, x7, x8] 47 (0, 0)) ∧ Rdr w B k b s ∧ Mv W w (fun j => j = k) ∧ k < r2 ∧ r2 < r3 ∧ W.heap.size ≤ r2 ∧ Tb w ∧ 0 < B
theorem Ls.call {w w' : World} {s' : Rs} {r2 r3 : Nat} {x1 x2 x3 x4 x5 x6 x7 x8 : Value} (h : Ls W w B k b s r2 r3 x1 x2 x3 x4 x5 x6 x7 x8) (hr : Rdr w' B k b s') (hm : Mv w w' (fun j => j = k)) : Ls W w' B k b s' r2 r3 x1 x2 x3 x4 x5 x6 x7 x8 := by
  obtain ⟨h1, h2, h3, h4, h5, h6, h7, h8, h9⟩ := h
  have := h3.1
  exact ⟨hm.at h1 (by omega), hm.at h2 (by omega), hr, h4.trans hm (fun _ _ e => e), h5, h6, h7, h8.mv hm (by omega), h9⟩
theorem Ls.set {w : World} {r2 r3 i : Nat} {x1 x2 x3 x4 x5 x6 x7 x8 y1 y2 y3 y4 y5 y6 y7 y8 v : Value} (h : Ls W w B k b s r2 r3 x1 x2 x3 x4 x5 x6 x7 x8) (he : (#[x1, x2, x3, x4, x5, x6, x7, x8] : Array Value).setIfInBounds i v = #[y1, y2, y3, y4, y5, y6, y7, y8]) : Ls W (w.setCell ⟨r3, i, none⟩ v) B k b s r2 r3 y1 y2 y3 y4 y5 y6 y7 y8 := by
  obtain ⟨h1, h2, h3, h4, h5, h6, h7, h8, h9⟩ := h
  have hk := h3.1
  have m := (Mv.refl w (fun j => j = r3)).set (g := r3) rfl i v
  have e := heap_setCell_same w r3 i _ 47 v h2
  rw [he] at e
  exact ⟨m.at h1 (by omega), e, h3.mv m (fun j e => by omega), h4.trans m (fun j hj e => by omega), h5, h6, h7, h8.mv m (by omega), h9⟩
theorem Ls.row {w : World} {r2 r3 : Nat} {x1 x2 x3 x4 x5 x6 x7 x8 : Value} (h : Ls W w B k b s r2 r3 x1 x2 x3 x4 x5 x6 x7 x8) : (w.cell? ⟨r3, 0, none⟩ = some x1 ∧ w.cell? ⟨r3, 1, none⟩ = some x2 ∧ w.cell? ⟨r3, 2, none⟩ = some x3 ∧ w.cell? ⟨r3, 3, none⟩ = some x4 ∧ w.cell? ⟨r3, 4, none⟩ = some x5 ∧ w.cell? ⟨r3, 5, none⟩ = some x6 ∧ w.cell? ⟨r3, 6, none⟩ = some x7 ∧ w.cell? ⟨r3, 7, none⟩ = some x8) ∧ ∀ q, w.frozen? ⟨r3, q, none⟩ = false := ⟨row8 h.2.1, fun q => frozen_of_row w r3 q _ 47 h.2.1⟩
theorem own_by {w w' : World} {N e s n r k : Nat} {v : Value} {xs : List Value} {x : Value} {i : Nat} (h : w.ownsRow N e s v n xs) (hr : r < N) (hk : k < N) (hm : Mv (w.setCell ⟨r, i, none⟩ x) w' (fun j => j = k)) : w'.ownsRow N e s v n xs :=
  hm.own (((Mv.refl w (fun j => j = r)).set (g := r) rfl i x).own h (fun g e1 e2 => by have := (h.lt g e1).1; omega)) (fun g e1 e2 => by have := (h.lt g e1).1; omega)
set_option maxHeartbeats 4000000 in
theorem system_at (h : Rdr W B k b s) (hB : 0 < B) (ht : Tb W) : Calls Tryz.prog 60 #[.pointer (some ⟨k, 0, none⟩)] W fun e w' => ∃ v1 v2 v3 v4 vc, e = .returned (syV (sysV b s) v1 v2 v3 v4 vc) ∧ SyOwn W.heap.size w' (sysV b s) v1 v2 v3 v4 vc ∧ Rdr w' B k b (sysR b s) ∧ Mv W w' (fun j => j = k) := by
  obtain ⟨w0, hw0⟩ : ∃ X, X = W.alloc (.cells #[.slice none 0 0, .slice none 0 0, .slice none 0 0, .slice none 0 0, .string ⟨#[]⟩, .int .i64 0, .int .i64 0, .slice none 0 0] 47) := ⟨_, rfl⟩
  obtain ⟨w1, hw1⟩ : ∃ X, X = w0.alloc (.cells #[.slice none 0 0, .slice none 0 0, .slice none 0 0, .slice none 0 0, .string ⟨#[]⟩, .int .i64 0, .int .i64 0, .slice none 0 0] 47) := ⟨_, rfl⟩
  have B0 : Below W.heap.size W w0 := hw0 ▸ below_alloc W _
  have B1 : Below w0.heap.size w0 w1 := hw1 ▸ below_alloc w0 _
  have n1 : w0.heap[W.heap.size]? = some (.cells #[.slice none 0 0, .slice none 0 0, .slice none 0 0, .slice none 0 0, .string ⟨#[]⟩, .int .i64 0, .int .i64 0, .slice none 0 0] 47 (0, 0)) := by rw [hw0]; exact heap_alloc_new W _
  have n2 : w1.heap[w0.heap.size]? = some (.cells #[.slice none 0 0, .slice none 0 0, .slice none 0 0, .slice none 0 0, .string ⟨#[]⟩, .int .i64 0, .int .i64 0, .slice none 0 0] 47 (0, 0)) := by rw [hw1]; exact heap_alloc_new w0 _
  have e0 : w0.heap.size = W.heap.size + 1 := by rw [hw0]; exact Array.size_push ..
  obtain ⟨r2, hr2⟩ : ∃ r, r = W.heap.size := ⟨_, rfl⟩
  obtain ⟨r3, hr3⟩ : ∃ r, r = W.heap.size + 1 := ⟨_, rfl⟩
  rw [e0, ← hr3] at n2
  rw [← hr2] at n1
  have L1 : Hid (Ls W w1 B k b s r2 r3 (.slice none 0 0) (.slice none 0 0) (.slice none 0 0) (.slice none 0 0) (.string ⟨#[]⟩) (.int .i64 0) (.int .i64 0) (.slice none 0 0)) := by
    have hk := h.lt
    exact ⟨(B1.block r2 (lt_of_block n1)).trans n1, n2, (h.later B0).later B1, Mv.of_below (below_on B0 B1) _, by omega, by omega, by omega, (ht.later B0).later B1, hB⟩
  have J1 : Hid (Calls Tryz.prog 90 #[.pointer (some ⟨k, 0, none⟩)] w1 fun e w' => ∃ v, e = .returned v ∧ w'.ownsRow w1.heap.size 3 1 v (setV b s).length (intC (setV b s)) ∧ Rdr w' B k b (syS1 b s) ∧ Mv w1 w' (fun j => j = k)) := set_at L1.out.2.2.1
  have h23 : r2 < r3 := L1.out.2.2.2.2.2.1
  have hr3l := lt_of_block n2
  have hk2 : k < r2 := L1.out.2.2.2.2.1
  have K : Hid (∀ (w : World) (st : Rs), Rdr w B k b st → Calls Tryz.prog 90 #[.pointer (some ⟨k, 0, none⟩)] w fun e w' => ∃ v, e = .returned v ∧ w'.ownsRow w.heap.size 3 1 v (setV b st).length (intC (setV b st)) ∧ Rdr w' B k b (setR b st) ∧ Mv w w' (fun j => j = k)) := fun w st hw => set_at hw
  have KR : Hid (∀ (w : World) (st : Rs), Rdr w B k b st → Tb w → Calls Tryz.prog 61 #[.pointer (some ⟨k, 0, none⟩)] w fun e w' => ∃ vc, e = .returned (rtV (rtnV b st) vc) ∧ w'.ownsRow w.heap.size 56 2 vc (rtnV b st).code.length (insC (rtnV b st).code) ∧ Rdr w' B k b (rtnR b st) ∧ Mv w w' (fun j => j = k)) := fun w st hw ht => routine_at hw hB ht
  obtain ⟨x, hx⟩ : ∃ x, x = sysR b s := ⟨_, rfl⟩
  obtain ⟨v, hv⟩ : ∃ v, v = sysV b s := ⟨_, rfl⟩
  rw [← hx, ← hv]
  have HX : Hid (x = rtnR b (syS4 b s)) := hx
  have HV : Hid (v = ⟨setV b s, setV b (syS1 b s), setV b (syS2 b s), setV b (syS3 b s), rtnV b (syS4 b s)⟩) := hv
  have K2 : Hid (∀ w, Rdr w B k b (syS1 b s) → Calls Tryz.prog 90 #[.pointer (some ⟨k, 0, none⟩)] w fun e w' => ∃ v, e = .returned v ∧ w'.ownsRow w.heap.size 3 1 v (setV b (syS1 b s)).length (intC (setV b (syS1 b s))) ∧ Rdr w' B k b (syS2 b s) ∧ Mv w w' (fun j => j = k)) := fun w hw => K.out w _ hw
  have K3 : Hid (∀ w, Rdr w B k b (syS2 b s) → Calls Tryz.prog 90 #[.pointer (some ⟨k, 0, none⟩)] w fun e w' => ∃ v, e = .returned v ∧ w'.ownsRow w.heap.size 3 1 v (setV b (syS2 b s)).length (intC (setV b (syS2 b s))) ∧ Rdr w' B k b (syS3 b s) ∧ Mv w w' (fun j => j = k)) := fun w hw => K.out w _ hw
  have K4 : Hid (∀ w, Rdr w B k b (syS3 b s) → Calls Tryz.prog 90 #[.pointer (some ⟨k, 0, none⟩)] w fun e w' => ∃ v, e = .returned v ∧ w'.ownsRow w.heap.size 3 1 v (setV b (syS3 b s)).length (intC (setV b (syS3 b s))) ∧ Rdr w' B k b (syS4 b s) ∧ Mv w w' (fun j => j = k)) := fun w hw => K.out w _ hw
  have K5 : Hid (∀ w, Rdr w B k b (syS4 b s) → Tb w → Calls Tryz.prog 61 #[.pointer (some ⟨k, 0, none⟩)] w fun e w' => ∃ vc, e = .returned (rtV (rtnV b (syS4 b s)) vc) ∧ w'.ownsRow w.heap.size 56 2 vc (rtnV b (syS4 b s)).code.length (insC (rtnV b (syS4 b s)).code) ∧ Rdr w' B k b (rtnR b (syS4 b s)) ∧ Mv w w' (fun j => j = k)) := fun w hw ht => KR.out w _ hw ht
  generalize setV b s = l1 at *
  generalize setV b (syS1 b s) = l2 at *
  generalize setV b (syS2 b s) = l3 at *
  generalize setV b (syS3 b s) = l4 at *
  generalize rtnV b (syS4 b s) = rt at *
  generalize rtnR b (syS4 b s) = s5 at *
  generalize syS4 b s = s4 at *
  generalize syS3 b s = s3 at *
  generalize syS2 b s = s2 at *
  generalize syS1 b s = s1 at *
  have ER2 := hide hr2
  have ER3 := hide hr3
  clear h ht hx hv B0 B1 n1 n2 e0 K KR
  go_enter Tryz.func60, Tryz.ntmps60
  go_upto_region 2 with fail
  rw [← hw0, ← hw1, ← hr3, ← hr2]
  clear hw0 hw1 hr2 hr3
  go_wp2_with fail
  refine J1.out.mono ?_
  rintro e w2 ⟨v1, rfl, o1, hr, hm⟩
  obtain ⟨b1, c1, rfl⟩ := own_len o1
  have L2 := L1.out.call hr hm
  obtain ⟨⟨a0, a1, a2, a3, a4, a5, a6, a7⟩, z⟩ := L2.row
  have L3 := hide (L2.set (i := 0) (v := .slice b1 l1.length c1) rfl)
  have O1 := hide o1
  have hs2 := hm.size
  clear hr hm L2 J1 o1
  go_wp2_with fail
  refine (K2.out _ L3.out.2.2.1).mono ?_
  rintro e w3 ⟨v2, rfl, o2, hr, hm⟩
  obtain ⟨b2, c2, rfl⟩ := own_len o2
  rw [show (w2.setCell ⟨r3, 0, none⟩ (.slice b1 l1.length c1)).heap.size = w2.heap.size by simp] at o2
  have L4 := L3.out.call hr hm
  clear a0 a1 a2 a3 a4 a5 a6 a7 z
  obtain ⟨⟨a0, a1, a2, a3, a4, a5, a6, a7⟩, z⟩ := L4.row
  have L5 := hide (L4.set (i := 1) (v := .slice b2 l2.length c2) rfl)
  have O1' := hide (own_by O1.out (by omega) (by omega) hm)
  have O2 := hide o2
  have A12 := hide (ap_new O1.out O2.out (Nat.le_refl _))
  clear O1
  have O1 := O1'
  clear O1'
  have hs3 := hm.size
  rw [show (w2.setCell ⟨r3, 0, none⟩ (.slice b1 l1.length c1)).heap.size = w2.heap.size by simp] at hs3
  clear hr hm L4 o2
  go_wp2_with fail
  refine (K3.out _ L5.out.2.2.1).mono ?_
  rintro e w4 ⟨v3, rfl, o3, hr, hm⟩
  obtain ⟨b3, c3, rfl⟩ := own_len o3
  rw [show (w3.setCell ⟨r3, 1, none⟩ (.slice b2 l2.length c2)).heap.size = w3.heap.size by simp] at o3
  have L6 := L5.out.call hr hm
  clear a0 a1 a2 a3 a4 a5 a6 a7 z
  obtain ⟨⟨a0, a1, a2, a3, a4, a5, a6, a7⟩, z⟩ := L6.row
  have L7 := hide (L6.set (i := 2) (v := .slice b3 l3.length c3) rfl)
  have O1' := hide (own_by O1.out (by omega) (by omega) hm)
  have O2' := hide (own_by O2.out (by omega) (by omega) hm)
  have O3 := hide o3
  have A13 := hide (ap_new O1.out O3.out (Nat.le_refl _))
  clear O1
  have O1 := O1'
  clear O1'
  have A23 := hide (ap_new O2.out O3.out (Nat.le_refl _))
  clear O2
  have O2 := O2'
  clear O2'
  have hs4 := hm.size
  rw [show (w3.setCell ⟨r3, 1, none⟩ (.slice b2 l2.length c2)).heap.size = w3.heap.size by simp] at hs4
  clear hr hm L6 o3
  go_wp2_with fail
  refine (K4.out _ L7.out.2.2.1).mono ?_
  rintro e w5 ⟨v4, rfl, o4, hr, hm⟩
  obtain ⟨b4, c4, rfl⟩ := own_len o4
  rw [show (w4.setCell ⟨r3, 2, none⟩ (.slice b3 l3.length c3)).heap.size = w4.heap.size by simp] at o4
  have L8 := L7.out.call hr hm
  clear a0 a1 a2 a3 a4 a5 a6 a7 z
  obtain ⟨⟨a0, a1, a2, a3, a4, a5, a6, a7⟩, z⟩ := L8.row
  have L9 := hide (L8.set (i := 3) (v := .slice b4 l4.length c4) rfl)
  have O1' := hide (own_by O1.out (by omega) (by omega) hm)
  have O2' := hide (own_by O2.out (by omega) (by omega) hm)
  have O3' := hide (own_by O3.out (by omega) (by omega) hm)
  have O4 := hide o4
  have A14 := hide (ap_new O1.out O4.out (Nat.le_refl _))
  clear O1
  have O1 := O1'
  clear O1'
  have A24 := hide (ap_new O2.out O4.out (Nat.le_refl _))
  clear O2
  have O2 := O2'
  clear O2'
  have A34 := hide (ap_new O3.out O4.out (Nat.le_refl _))
  clear O3
  have O3 := O3'
  clear O3'
  have hs5 := hm.size
  rw [show (w4.setCell ⟨r3, 2, none⟩ (.slice b3 l3.length c3)).heap.size = w4.heap.size by simp] at hs5
  clear hr hm L8 o4
  go_wp2_with fail
  refine (K5.out _ L9.out.2.2.1 L9.out.2.2.2.2.2.2.2.1).mono ?_
  rintro e w6 ⟨vc, rfl, o5, hr, hm⟩
  obtain ⟨b5, c5, rfl⟩ := own_len o5
  rw [show (w5.setCell ⟨r3, 3, none⟩ (.slice b4 l4.length c4)).heap.size = w5.heap.size by simp] at o5
  have L10 := L9.out.call hr hm
  clear a0 a1 a2 a3 a4 a5 a6 a7 z
  obtain ⟨⟨a0, a1, a2, a3, a4, a5, a6, a7⟩, z⟩ := L10.row
  obtain ⟨nm, pa, lo, cd⟩ := rt
  dsimp only at o5 HV
  unfold rtV
  dsimp only
  have L11 := hide (L10.set (i := 4) (v := .string nm) rfl)
  have L12 := hide (L11.out.set (i := 5) (v := .int .i64 pa) rfl)
  have L13 := hide (L12.out.set (i := 6) (v := .int .i64 lo) rfl)
  have L14 := hide (L13.out.set (i := 7) (v := .slice b5 cd.length c5) rfl)
  have O1' := hide (own_by O1.out (by omega) (by omega) hm)
  have O2' := hide (own_by O2.out (by omega) (by omega) hm)
  have O3' := hide (own_by O3.out (by omega) (by omega) hm)
  have O4' := hide (own_by O4.out (by omega) (by omega) hm)
  have O5' := hide o5
  obtain ⟨w7, hw7⟩ : ∃ X, X = (((w6.setCell ⟨r3, 4, none⟩ (.string nm)).setCell ⟨r3, 5, none⟩ (.int .i64 pa)).setCell ⟨r3, 6, none⟩ (.int .i64 lo)).setCell ⟨r3, 7, none⟩ (.slice b5 cd.length c5) := ⟨_, rfl⟩
  have m7 : Mv w6 w7 (fun j => j = r3) := by
    rw [hw7]
    exact ((((Mv.refl w6 (fun j => j = r3)).set (g := r3) rfl _ _).set (g := r3) rfl _ _).set (g := r3) rfl _ _).set (g := r3) rfl _ _
  have L15 : Hid (Ls W w7 B k b s5 r2 r3 (.slice b1 l1.length c1) (.slice b2 l2.length c2) (.slice b3 l3.length c3) (.slice b4 l4.length c4) (.string nm) (.int .i64 pa) (.int .i64 lo) (.slice b5 cd.length c5)) := by rw [hw7]; exact L14.out
  have SO : Hid (SyOwn W.heap.size w7 ⟨l1, l2, l3, l4, ⟨nm, pa, lo, cd⟩⟩ (.slice b1 l1.length c1) (.slice b2 l2.length c2) (.slice b3 l3.length c3) (.slice b4 l4.length c4) (.slice b5 cd.length c5)) := by
    have hW : W.heap.size ≤ w1.heap.size := L1.out.2.2.2.1.size
    have go : ∀ {N e s n : Nat} {v : Value} {xs : List Value}, w6.ownsRow N e s v n xs → r3 < N → W.heap.size ≤ N → w7.ownsRow W.heap.size e s v n xs := fun h1 h2 h3 => own_lower (m7.own h1 (fun g e1 e2 => by have := (h1.lt g e1).1; omega)) h3
    exact ⟨⟨go O1'.out (by omega) (by omega), go O2'.out (by omega) (by omega), go O3'.out (by omega) (by omega), go O4'.out (by omega) (by omega), go O5'.out (by omega) (by omega)⟩, A12.out, A13.out, A14.out, A23.out, A24.out, A34.out⟩
  have hs6 := hm.size
  clear hr hm L10 o5 O1 O2 O3 O4 O1' O2' O3' O4' O5' L11 L12 L13 L14
  go_upto_region 7 with fail
  rw [← hw7]
  clear hw7 a0 a1 a2 a3 a4 a5 a6 a7 z m7
  obtain ⟨⟨a0, a1, a2, a3, a4, a5, a6, a7⟩, z⟩ := L15.out.row
  obtain ⟨q0, q1, q2, q3, q4, q5, q6, q7⟩ := row8 L15.out.1
  have zz : ∀ q, w7.frozen? ⟨r2, q, none⟩ = false := fun q => frozen_of_row w7 r2 q _ 47 L15.out.1
  have hkB := L15.out.2.2.1.1
  have hWr := L15.out.2.2.2.2.2.2.1
  have F := hide (w8s_row (.slice b1 l1.length c1) (.slice b2 l2.length c2) (.slice b3 l3.length c3) (.slice b4 l4.length c4) (.string nm) (.int .i64 pa) (.int .i64 lo) (.slice b5 cd.length c5) L15.out.1)
  have MM := w8s_mv w7 r2 (.slice b1 l1.length c1) (.slice b2 l2.length c2) (.slice b3 l3.length c3) (.slice b4 l4.length c4) (.string nm) (.int .i64 pa) (.int .i64 lo) (.slice b5 cd.length c5)
  have F2 := hide (L15.out.2.2.1.mv MM (fun j e => by omega))
  have F3 := hide (L15.out.2.2.2.1.trans MM (fun j hj e => by omega))
  have F4 : Hid (SyOwn W.heap.size (w8s w7 r2 (.slice b1 l1.length c1) (.slice b2 l2.length c2) (.slice b3 l3.length c3) (.slice b4 l4.length c4) (.string nm) (.int .i64 pa) (.int .i64 lo) (.slice b5 cd.length c5)) ⟨l1, l2, l3, l4, ⟨nm, pa, lo, cd⟩⟩ (.slice b1 l1.length c1) (.slice b2 l2.length c2) (.slice b3 l3.length c3) (.slice b4 l4.length c4) (.slice b5 cd.length c5)) := by
    refine SO.out.mv MM (fun v hv j hj e => ?_)
    obtain ⟨⟨p1, p2, p3, p4, p5⟩, -⟩ := SO.out
    have nt : ∀ {e s n : Nat} {v : Value} {xs : List Value}, w7.ownsRow W.heap.size e s v n xs → 47 ≠ e → v.ownBlock ≠ some r2 := fun h1 h2 => own_not h1 L15.out.1 h2
    subst e
    simp only [List.mem_cons, List.not_mem_nil, or_false] at hv
    rcases hv with rfl | rfl | rfl | rfl | rfl
    · exact nt p1 (by decide) hj
    · exact nt p2 (by decide) hj
    · exact nt p3 (by decide) hj
    · exact nt p4 (by decide) hj
    · exact nt p5 (by decide) hj
  obtain rfl : x = s5 := HX.out
  have hv := HV.out
  subst hv
  clear MM SO
  go_wp2_with fail
  exact bodyPost_ret (res_sy1 rfl rfl F.out) rfl ⟨_, _, _, _, _, rfl, F4.out, F2.out, F3.out⟩
end
end Go.Proofs.YtpolajoephjdhaaGreatDoor
