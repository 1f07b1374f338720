/-
  The reader: instr, set.
-/
import Derived.Test.YtpolajoephjdhaaDoorDeC
namespace Go.Proofs.YtpolajoephjdhaaDoor
open Go.RowKit
set_option maxRecDepth 100000
def insNm (b : List UInt8) (s : Rs) : Bool := numb (opk (numV b 1 39 s : Int))
def insR (b : List UInt8) (s : Rs) : Rs := if insNm b s then sgnR b (numR b 1 39 s) else numR b 1 39 s
def insVv (b : List UInt8) (s : Rs) : Ins := ⟨(numV b 1 39 s : Int), if insNm b s then sgnV b (numR b 1 39 s) else 0⟩
section
variable {W W' : World} {B k : Nat} {b : List UInt8} {s : Rs}
theorem undIns1 : (Tryd.prog.underlying 23).map (fun d => match d with | .struct _ | .array _ _ => true | _ => false) = some true := by kernel_rfl
theorem res_ins1 {fn : Func} {p : Tmp} (hr : fn.results = #[.cell p 23]) {tmps : Array Value} {W : World} {g : Nat} {x y : Value} (hp : tmps.getD p undef = .pointer (some ⟨g, 0, none⟩)) (hg : W.heap[g]? = some (.cells #[x, y] 23 (0, 0))) : (results fn tmps).run Tryd.prog W = .ok (.agg #[x, y]) W := by
  obtain ⟨d, hu, hd⟩ := Option.map_eq_some_iff.1 undIns1
  exact results_cell_row hr tmps W g 23 _ (0, 0) d hp hg hu (by cases d <;> first | rfl | cases hd) (by kernel_rfl)
set_option maxHeartbeats 2000000 in
theorem instr_at (h : Rdr W B k b s) (hB : 0 < B) (ht : Tb W) : Calls Tryd.prog 63 #[.pointer (some ⟨k, 0, none⟩)] W fun e w' => e = .returned (insV (insVv b s)) ∧ Rdr w' B k b (insR b s) ∧ Mv W w' (fun j => j = k) := by
  obtain ⟨w0, hw0⟩ : ∃ X, X = W.alloc (.cells #[.int .i64 0, .int .i64 0] 23) := ⟨_, rfl⟩
  have B0 : Below W.heap.size W w0 := hw0 ▸ below_alloc W _
  have n1 : w0.heap[W.heap.size]? = some (.cells #[.int .i64 0, .int .i64 0] 23 (0, 0)) := by rw [hw0]; exact heap_alloc_new W _
  obtain ⟨t, htt⟩ : ∃ B, B = W.heap.size := ⟨_, rfl⟩
  rw [← htt] at n1
  have hkt : k < t := htt ▸ h.lt
  have hBk := h.1
  have J1 := hide (number_at (h.later B0) 1 39 (by omega) (by omega))
  have HT := hide (ht.later B0)
  have HB := hide B0
  have N1 := hide n1
  have ET := hide htt
  have f1 := fldR1 (opk (numV b 1 39 s : Int))
  obtain ⟨nm, hnm⟩ : ∃ q, q = insNm b s := ⟨_, rfl⟩
  have e1 : numb (opk (numV b 1 39 s : Int)) = nm := hnm.symm
  obtain ⟨x, hx⟩ : ∃ x, x = insR b s := ⟨_, rfl⟩
  obtain ⟨v, hv⟩ : ∃ v, v = insVv b s := ⟨_, rfl⟩
  rw [← hx, ← hv]
  unfold insR at hx
  unfold insVv at hv
  rw [← hnm] at hx hv
  have HX := hide hx
  have HV := hide hv
  have JR : Hid (∀ w, Tb w → Calls Tryd.prog 19 #[.int .i64 (numV b 1 39 s : Int)] w fun e w' => e = .returned (rowV (opk (numV b 1 39 s : Int))) ∧ Below w.heap.size w w') := fun w hw => row_any _ w hw
  have JS : Hid (∀ w, Rdr w B k b (numR b 1 39 s) → Calls Tryd.prog 71 #[.pointer (some ⟨k, 0, none⟩)] w fun e w' => e = .returned (.int .i64 (sgnV b (numR b 1 39 s))) ∧ Rdr w' B k b (sgnR b (numR b 1 39 s)) ∧ Mv w w' (fun j => j = k)) := fun w hw => signed_at hw
  generalize numV b 1 39 s = op at *
  generalize numR b 1 39 s = s1 at *
  generalize sgnV b s1 = a at *
  generalize sgnR b s1 = s2 at *
  have E1 := hide e1
  clear h ht hx hv hnm B0 n1 e1
  unfold insV
  go_enter Tryd.func63, Tryd.ntmps63
  go_upto_region 1 with fail
  rw [← hw0, ← htt]
  clear hw0 htt
  go_wp2_with fail
  refine J1.out.mono ?_
  rintro e w1 ⟨rfl, hr1, hm1⟩
  have n2 := hm1.at N1.out (by omega)
  have T1 := hide (HT.out.mv hm1 (by omega))
  have R1 := hide hr1
  have N2 := hide n2
  have M1 := hide ((Mv.of_below HB.out (fun j => j = k)).trans hm1 (fun _ _ e => e))
  clear hr1 hm1 n2 J1
  go_wp2_with fail
  refine (JR.out _ T1.out).mono ?_
  rintro e w2 ⟨rfl, hb2⟩
  have n3 := (hb2.block t (lt_of_block N2.out)).trans N2.out
  have R2 := hide (R1.out.later hb2)
  have M2 := hide (M1.out.later hb2)
  have N3 := hide n3
  obtain ⟨ql, hql⟩ : ∃ q, q = opk (op : Int) := ⟨_, rfl⟩
  rw [← hql] at f1 E1 ⊢
  have e1 := E1.out
  rw [e1] at f1
  unfold rowV
  cases nm with
  | false =>
    obtain rfl : x = s1 := HX.out
    obtain rfl : v = ⟨(op : Int), 0⟩ := HV.out
    have z : ∀ q, w2.frozen? ⟨t, q, none⟩ = false := fun q => frozen_of_row w2 t q _ 23 n3
    have y0 : w2.cell? ⟨t, 0, none⟩ = some (.int .i64 0) := by rw [cell_of_row w2 _ _ _ 23 (0, 0) n3]; rfl
    have y1 : w2.cell? ⟨t, 1, none⟩ = some (.int .i64 0) := by rw [cell_of_row w2 _ _ _ 23 (0, 0) n3]; rfl
    clear hb2 n3 hql
    go_wp2_with fail
    have m := ((Mv.refl w2 (fun j => j = t)).set (g := t) rfl 0 (.int .i64 (op : Int))).set (g := t) rfl 1 (.int .i64 0)
    have hn : ((w2.setCell ⟨t, 0, none⟩ (.int .i64 (op : Int))).setCell ⟨t, 1, none⟩ (.int .i64 0)).heap[t]? = some (.cells #[.int .i64 (op : Int), .int .i64 0] 23 (0, 0)) := heap_setCell_same _ t 1 _ 23 _ (heap_setCell_same w2 t 0 _ 23 _ N3.out)
    refine bodyPost_ret (res_ins1 rfl rfl hn) rfl ⟨rfl, R2.out.mv m (fun j e => ?_), M2.out.trans m (fun j hj e => ?_)⟩
    · omega
    · have := ET.out; omega
  | true =>
    obtain rfl : x = s2 := HX.out
    obtain rfl : v = ⟨(op : Int), a⟩ := HV.out
    clear hb2 n3 hql
    go_wp2_with fail
    refine (JS.out _ R2.out).mono ?_
    rintro e w3 ⟨rfl, hr3, hm3⟩
    have n4 := hm3.at N3.out (by omega)
    have R3 := hide hr3
    have M3 := hide (M2.out.trans hm3 (fun _ _ e => e))
    have z : ∀ q, w3.frozen? ⟨t, q, none⟩ = false := fun q => frozen_of_row w3 t q _ 23 n4
    have y0 : w3.cell? ⟨t, 0, none⟩ = some (.int .i64 0) := by rw [cell_of_row w3 _ _ _ 23 (0, 0) n4]; rfl
    have y1 : w3.cell? ⟨t, 1, none⟩ = some (.int .i64 0) := by rw [cell_of_row w3 _ _ _ 23 (0, 0) n4]; rfl
    have N4 := hide n4
    clear hr3 hm3 n4
    go_wp2_with fail
    have m := ((Mv.refl w3 (fun j => j = t)).set (g := t) rfl 0 (.int .i64 (op : Int))).set (g := t) rfl 1 (.int .i64 a)
    have hn : ((w3.setCell ⟨t, 0, none⟩ (.int .i64 (op : Int))).setCell ⟨t, 1, none⟩ (.int .i64 a)).heap[t]? = some (.cells #[.int .i64 (op : Int), .int .i64 a] 23 (0, 0)) := heap_setCell_same _ t 1 _ 23 _ (heap_setCell_same w3 t 0 _ 23 _ N4.out)
    refine bodyPost_ret (res_ins1 rfl rfl hn) rfl ⟨rfl, R3.out.mv m (fun j e => ?_), M3.out.trans m (fun j hj e => ?_)⟩
    · omega
    · have := ET.out; omega
end
def setG (b : List UInt8) : Nat → Nat → Rs → Rs
  | 0, _, s => s
  | n + 1, last, s => setG b n (numV b (last + 1) 12 s) (numR b (last + 1) 12 s)
def setL (b : List UInt8) : Nat → Nat → Rs → List Int
  | 0, _, _ => []
  | n + 1, last, s => (numV b (last + 1) 12 s : Int) :: setL b n (numV b (last + 1) 12 s) (numR b (last + 1) 12 s)
def setR (b : List UInt8) (s : Rs) : Rs := setG b (numV b 0 12 s) 0 (numR b 0 12 s)
def setV (b : List UInt8) (s : Rs) : List Int := setL b (numV b 0 12 s) 0 (numR b 0 12 s)
def intC (l : List Int) : List Value := l.map fun n => Value.int .i64 n
theorem intC_snoc (l : List Int) (n : Int) : intC (l ++ [n]) = intC l ++ [.int .i64 n] := by simp [intC]
theorem infoN : (Tryd.prog.info? 3).map (fun i => (i.zero, i.size, i.bytes)) = some (some (.int .i64 0), 1, 8) := by kernel_rfl
section
variable {W W' : World} {B k : Nat} {b : List UInt8} {s : Rs}
set_option maxHeartbeats 2000000 in
theorem set_at (h : Rdr W B k b s) : Calls Tryd.prog 61 #[.pointer (some ⟨k, 0, none⟩)] W fun e w' => ∃ v, e = .returned v ∧ w'.ownsRow W.heap.size 3 1 v (setV b s).length (intC (setV b s)) ∧ Rdr w' B k b (setR b s) ∧ Mv W w' (fun j => j = k) := by
  have hk := h.lt
  have hBk := h.1
  have J1 := hide (number_at h 0 12 (by omega) (by omega))
  obtain ⟨x, hx⟩ : ∃ x, x = setR b s := ⟨_, rfl⟩
  obtain ⟨v, hv⟩ : ∃ v, v = setV b s := ⟨_, rfl⟩
  rw [← hx, ← hv]
  unfold setR at hx
  unfold setV at hv
  have HX := hide hx
  have HV := hide hv
  have hn := numV_le b 0 12 s
  generalize numV b 0 12 s = n at *
  generalize numR b 0 12 s = s1 at *
  clear h hx hv
  go_enter Tryd.func61, Tryd.ntmps61
  go_wp2_with fail
  refine J1.out.mono ?_
  rintro e w1 ⟨rfl, hr1, hm1⟩
  have R1 := hide hr1
  have M1 := hide hm1
  clear hr1 hm1 J1
  go_wp2_with fail
  go_loopw [7, 4, 3] (fun va vl vs wr => ∃ (j last : Nat) (st : Rs) (dn : List Int), va = .int .i64 (j : Int) ∧ vl = .int .i64 (last : Int) ∧ j ≤ n ∧ last ≤ 12 ∧ dn.length = j ∧ Hid (x = setG b (n - j) last st) ∧ Hid (v = dn ++ setL b (n - j) last st) ∧ Hid (wr.ownsRow W.heap.size 3 1 vs dn.length (intC dn)) ∧ Hid (Rdr wr B k b st) ∧ Hid (Mv W wr (fun j => j = k))) (fun va _ _ _ => n - (intOf va).toNat)
  case atStart => exact ⟨0, 0, s1, [], rfl, rfl, by omega, by omega, rfl, HX.out, HV.out, ⟨rfl, .inl ⟨rfl, rfl⟩⟩, R1.out, M1.out⟩
  case round =>
    obtain ⟨j, last, st, dn, rfl, rfl, hj, hl, hdn, hx, hv, hown, hrd, hmv⟩ := hrel
    by_cases hlt : j < n
    · have J2 := hide (number_at hrd.out (last + 1) 12 (by omega) (by omega))
      obtain ⟨q, hq⟩ : ∃ q, n - j = q + 1 := ⟨n - j - 1, by omega⟩
      have hq' : n - (j + 1) = q := by omega
      have HX2 : Hid (x = setG b (n - (j + 1)) (numV b (last + 1) 12 st) (numR b (last + 1) 12 st)) := by unfold Hid; rw [hx.out, hq, hq']; rfl
      have HV2 : Hid (v = (dn ++ [(numV b (last + 1) 12 st : Int)]) ++ setL b (n - (j + 1)) (numV b (last + 1) 12 st) (numR b (last + 1) 12 st)) := by unfold Hid; rw [hv.out, hq, hq', setL]; simp
      have hl2 := numV_le b (last + 1) 12 st
      generalize numV b (last + 1) 12 st = nl at *
      generalize numR b (last + 1) 12 st = st2 at *
      clear hx hv hq hq'
      go_wp2_with fail
      refine J2.out.mono ?_
      rintro e w2 ⟨rfl, hr2, hm2⟩
      obtain ⟨ic, hi, hz0, hz1, hz2⟩ := info_parts infoN
      have O2 := hm2.own hown.out (fun g e1 e2 => by have := (hown.out.lt g e1).1; omega)
      have R2 := hide hr2
      have M2 := hide (hmv.out.trans hm2 (fun _ _ e => e))
      have hsz := M2.out.size
      clear hr2 hm2 J2
      go_wp2_with (at_builtin; refine wpList_append_own _ rfl _ _ 67 rfl W.heap.size 3 ic (.int .i64 0) 1 8 Tryd.underlying67 hi hz0 hz1 hz2 rfl (by decide) _ _ _ rfl (O2.alloc _) ⟨w2.heap.size, 0, none⟩ 1 1 [.int .i64 (nl : Int)] rfl rfl ?c1 ?c2 ?c3 ?c4 ?c5 ?_)
      case c1 =>
        intro j u hj
        match j, hj with
        | 0, hj => simp at hj; subst hj; simp [Addr.add]
      case c2 => intro u hu; simp at hu; subst hu; rfl
      case c3 => unfold maxLen; omega
      case c4 => omega
      case c5 => simp; omega
      intro v3 w3 ho3 hg3 _
      have m3 : Mv w2 w3 (fun j => W.heap.size ≤ j) := ((Mv.refl w2 (fun j => W.heap.size ≤ j)).alloc _).grown hg3 (fun g _ e => (O2.lt g e).1)
      rw [← intC_snoc] at ho3
      have O3 : Hid (w3.ownsRow W.heap.size 3 1 v3 (dn ++ [(nl : Int)]).length (intC (dn ++ [(nl : Int)]))) := by unfold Hid; rw [List.length_append, hdn]; exact ho3
      have R3 := hide (R2.out.mv m3 (fun j e => ⟨by omega, by omega⟩))
      have M3 := hide (M2.out.trans m3 (fun j hj e => by omega))
      clear ho3 hg3 m3 O2
      go_wp2_with fail
      go_roundw
      case rel => exact ⟨j + 1, nl, st2, dn ++ [(nl : Int)], by go_num, rfl, by omega, hl2, by simp [hdn], HX2.out, HV2.out, O3.out, R3.out, M3.out⟩
      case measure => simp [intOf]; omega
    · obtain rfl : j = n := by omega
      obtain rfl : x = st := by rw [hx.out, Nat.sub_self]; rfl
      obtain rfl : v = dn := by rw [hv.out, Nat.sub_self, setL]; simp
      go_wp2_with fail
      go_ret
      exact ⟨_, rfl, hown.out, hrd.out, hmv.out⟩
end
end Go.Proofs.YtpolajoephjdhaaDoor
