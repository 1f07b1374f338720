import Derived.Test.YtmfoehaeejhlpaaGreatDoorGaAZ
import Derived.MapKept
import Derived.Carry
import Derived.LaidEqlPtr
import Derived.Test.YtmfoehaeejhlpaaGreatDoorGaBH
import Derived.Test.YtmfoehaeejhlpaaGreatDoorGaAX
import Derived.Test.YtmfoehaeejhlpaaGreatDoorGaBG
/-
  Same, of a tree and itself, and of two whose heads differ.
-/
namespace Go.Proofs.YtmfoehaeejhlpaaGreatDoor
open Go.RowKit Yn
set_option maxRecDepth 100000
theorem look_none {w : World} {gm g : Nat} (hm : w.heap[gm]? = some (.map #[] 0)) : (Instr.lookup 89 (.map (some gm)) (.pointer (some ⟨g, 0, none⟩)) true).run Tryz.prog w = .ok (.tuple #[.pointer none, .bool false]) w := by
  have hg : (getObj gm).run Tryz.prog w = .ok (.map #[] 0) w := by simp [getObj, Sem.run, hm]
  have hk : (Instr.checkKey true 10000 23 (.pointer (some ⟨g, 0, none⟩))).run Tryz.prog w = .ok () w := by kernel_rfl
  have hf : (Instr.findKey 23 (.pointer (some ⟨g, 0, none⟩)) []).run Tryz.prog w = .ok none w := by kernel_rfl
  simp [Instr.lookup, hg, hk, hf, Result.andThen]
/-- What gathers, while nothing is gathered. -/
def Sa (w : World) (s gm : Nat) (v : Value) : Prop := w.heap[s]? = some (.cells #[.map (some gm), v] 94 (0, 0)) ∧ w.heap[gm]? = some (.map #[] 0)
theorem Sa.later {w w' : World} {s gm : Nat} {v : Value} (h : Sa w s gm v) (hb : Below w.heap.size w w') : Sa w' s gm v := ⟨(hb.block s (Array.getElem?_eq_some_iff.1 h.1).1).trans h.1, (hb.block gm (Array.getElem?_eq_some_iff.1 h.2).1).trans h.2⟩
set_option maxHeartbeats 2000000 in
theorem leader_w {w : World} {s gm g : Nat} {v : Value} (h : Sa w s gm v) : Calls Tryz.prog 61 #[.pointer (some ⟨s, 0, none⟩), .pointer (some ⟨g, 0, none⟩)] w fun e w' => e = .returned (.pointer (some ⟨g, 0, none⟩)) ∧ w' = w := by
  have c0 : w.cell? ⟨s, 0, none⟩ = some (.map (some gm)) := by rw [cell_of_row w s _ _ 94 (0, 0) h.1]; rfl
  have hl := look_none (g := g) h.2
  clear h
  go_enter Tryz.func61, Tryz.ntmps61
  go_wp2_with fail
  go_loopw [1] (fun v1 wr => v1 = .pointer (some ⟨g, 0, none⟩) ∧ wr = w) (fun _ _ => 0)
  case atStart => exact ⟨rfl, rfl⟩
  case round =>
    obtain ⟨rfl, rfl⟩ := hrel
    go_wp2_with fail
    go_ret
    exact ⟨rfl, rfl⟩
theorem und91 : (Tryz.prog.underlying 91).map (fun d => match d with | .struct _ | .array _ _ => true | _ => false) = some true := by kernel_rfl
theorem res_pair {fn : Func} {p : Tmp} (hr : fn.results = #[.cell p 91]) {tmps : Array Value} {W : World} {g : Nat} {a b : Value} (hp : tmps.getD p undef = .pointer (some ⟨g, 0, none⟩)) (hg : W.heap[g]? = some (.cells #[a, b] 91 (0, 0))) : (results fn tmps).run Tryz.prog W = .ok (.agg #[a, b]) W := by
  obtain ⟨d, hu, hd⟩ := Option.map_eq_some_iff.1 und91
  exact results_cell_row hr tmps W g 91 _ (0, 0) d hp hg hu (by cases d <;> first | rfl | cases hd) (by kernel_rfl)
set_option maxHeartbeats 4000000 in
theorem pop_w {w : World} {s gm q a b : Nat} (h : Sa w s gm (.slice (some ⟨q, 0, none⟩) 1 1)) (hq : w.heap[q]? = some (.cells #[.pointer (some ⟨a, 0, none⟩), .pointer (some ⟨b, 0, none⟩)] 91 (0, 0))) (_hqs : q ≠ s) : Calls Tryz.prog 36 #[.pointer (some ⟨s, 0, none⟩)] w fun e w' => e = .returned (.agg #[.pointer (some ⟨a, 0, none⟩), .pointer (some ⟨b, 0, none⟩)]) ∧ Sa w' s gm (.slice (some ⟨q, 0, none⟩) 0 1) ∧ Mv w w' (fun x => x = s) := by
  have c0 : w.cell? ⟨s, 0, none⟩ = some (.map (some gm)) := by rw [cell_of_row w s _ _ 94 (0, 0) h.1]; rfl
  have c1 : w.cell? ⟨s, 1, none⟩ = some (.slice (some ⟨q, 0, none⟩) 1 1) := by rw [cell_of_row w s _ _ 94 (0, 0) h.1]; rfl
  have cf : w.frozen? ⟨s, 1, none⟩ = false := frozen_of_row w s 1 _ 94 h.1
  have q0 : w.cell? ⟨q, 0, none⟩ = some (.pointer (some ⟨a, 0, none⟩)) := by rw [cell_of_row w q _ _ 91 (0, 0) hq]; rfl
  have q1 : w.cell? ⟨q, 1, none⟩ = some (.pointer (some ⟨b, 0, none⟩)) := by rw [cell_of_row w q _ _ 91 (0, 0) hq]; rfl
  have hsl := (Array.getElem?_eq_some_iff.1 h.1).1
  have hql := (Array.getElem?_eq_some_iff.1 hq).1
  have hgl := (Array.getElem?_eq_some_iff.1 h.2).1
  obtain ⟨n1, n2, n3⟩ := two_new (w.setCell ⟨s, 1, none⟩ (.slice (some ⟨q, 0, none⟩) 0 1)) (.cells #[.pointer (some ⟨a, 0, none⟩), .pointer (some ⟨b, 0, none⟩)] 91) (.cells #[.pointer (some ⟨a, 0, none⟩), .pointer (some ⟨b, 0, none⟩)] 91)
  have hsz : (w.setCell ⟨s, 1, none⟩ (.slice (some ⟨q, 0, none⟩) 0 1)).heap.size = w.heap.size := World.size_setCell ..
  have hms : gm ≠ s := fun e => by
    have := h.2
    rw [e, h.1] at this
    cases this
  have m1 := (Mv.refl w (fun x => x = s)).set (g := s) rfl 1 (.slice (some ⟨q, 0, none⟩) 0 1)
  have S1 : Sa (w.setCell ⟨s, 1, none⟩ (.slice (some ⟨q, 0, none⟩) 0 1)) s gm (.slice (some ⟨q, 0, none⟩) 0 1) := ⟨heap_setCell_same w s 1 _ 94 _ h.1, m1.at h.2 hms⟩
  have S2 := hide (S1.later n3)
  have M2 := hide (m1.later n3)
  rw [hsz] at n1
  have N1 := hide n1
  clear n1 n2 n3 S1 m1 hsz h hq
  go_enter Tryz.func36, Tryz.ntmps36
  go_wp2_with fail
  exact bodyPost_ret (v := .agg #[.pointer (some ⟨a, 0, none⟩), .pointer (some ⟨b, 0, none⟩)]) (res_pair rfl rfl N1.out) rfl ⟨rfl, S2.out, M2.out⟩
theorem size51 : ∃ j, Tryz.prog.info? 51 = some j := by
  have h : (Tryz.prog.info? 51).isSome = true := by kernel_rfl
  exact Option.isSome_iff_exists.1 h
theorem eql_same (a : Addr) (w : World) : (binOp .eql 23 (.pointer (some a)) (.pointer (some a))).run Tryz.prog w = .ok (.bool true) w := by
  obtain ⟨j, hj⟩ := size51
  exact run_eql_ptr_same w a Tryz.underlying23 hj
theorem size51z : (Tryz.prog.info? 51).map (fun i => i.size) = some 5 := by kernel_rfl
set_option maxHeartbeats 4000000 in
theorem join_same {w : World} {s gm a : Nat} {v : Value} (h : Sa w s gm v) : Calls Tryz.prog 35 #[.pointer (some ⟨s, 0, none⟩), .agg #[.pointer (some ⟨a, 0, none⟩), .pointer (some ⟨a, 0, none⟩)]] w fun e w' => e = .returned (.bool true) ∧ Below w.heap.size w w' := by
  have LD : Hid (∀ g w', Below w.heap.size w w' → Calls Tryz.prog 61 #[.pointer (some ⟨s, 0, none⟩), .pointer (some ⟨g, 0, none⟩)] w' fun e w'' => e = .returned (.pointer (some ⟨g, 0, none⟩)) ∧ w'' = w') := fun g w' hb => leader_w (h.later hb)
  obtain ⟨w1, hw1⟩ : ∃ X, X = w.alloc (.cells #[.pointer (some ⟨a, 0, none⟩), .pointer (some ⟨a, 0, none⟩)] 91) := ⟨_, rfl⟩
  obtain ⟨P, hP⟩ : ∃ X, X = w.heap.size := ⟨_, rfl⟩
  have N1 : w1.heap[P]? = some (.cells #[.pointer (some ⟨a, 0, none⟩), .pointer (some ⟨a, 0, none⟩)] 91 (0, 0)) := by rw [hw1, hP]; exact heap_alloc_new w _
  have B1 : Below w.heap.size w w1 := by rw [hw1]; exact below_alloc w _
  have BD : Hid (Below w.heap.size w w1.drew) := B1.trans ((below_drew w1).mono B1.size)
  have CS : Hid (w1.drew.cell? ⟨P, 0, none⟩ = some (.pointer (some ⟨a, 0, none⟩)) ∧ w1.drew.cell? ⟨P, 1, none⟩ = some (.pointer (some ⟨a, 0, none⟩))) := by
    have N2 : w1.drew.heap[P]? = some (.cells #[.pointer (some ⟨a, 0, none⟩), .pointer (some ⟨a, 0, none⟩)] 91 (0, 0)) := N1
    constructor
    · rw [cell_of_row _ P _ _ 91 (0, 0) N2]; rfl
    · rw [cell_of_row _ P _ _ 91 (0, 0) N2]; rfl
  have he := eql_same (⟨a, 0, none⟩ : Addr)
  clear N1 B1 h
  go_enter Tryz.func35, Tryz.ntmps35
  go_upto_region 1 with fail
  rw [← hw1, ← hP]
  clear hw1 hP
  go_region_held3 (fun V => V.cell? ⟨P, 0, none⟩ = some (.pointer (some ⟨a, 0, none⟩)) ∧ V.cell? ⟨P, 1, none⟩ = some (.pointer (some ⟨a, 0, none⟩))) (exact CS.out) ((go_at_call 61; refine (LD.out _ _ BD.out).mono ?_; rintro e w2 ⟨rfl, rfl⟩))
  all_goals
    go_wp2_with fail
    go_ret
    exact ⟨rfl, BD.out⟩
set_option maxHeartbeats 4000000 in
theorem join_other {w : World} {s gm a b : Nat} {v : Value} {ca cb : Array Value} {oa ob : Int} (h : Sa w s gm v) (ha : w.heap[a]? = some (.cells ca 51 (0, 0))) (hb : w.heap[b]? = some (.cells cb 51 (0, 0))) (ha0 : ca[0]? = some (.int .i64 oa)) (hb0 : cb[0]? = some (.int .i64 ob)) (hne : oa ≠ ob) : Calls Tryz.prog 35 #[.pointer (some ⟨s, 0, none⟩), .agg #[.pointer (some ⟨a, 0, none⟩), .pointer (some ⟨b, 0, none⟩)]] w fun e w' => e = .returned (.bool false) ∧ Below w.heap.size w w' := by
  have LD : Hid (∀ g w', Below w.heap.size w w' → Calls Tryz.prog 61 #[.pointer (some ⟨s, 0, none⟩), .pointer (some ⟨g, 0, none⟩)] w' fun e w'' => e = .returned (.pointer (some ⟨g, 0, none⟩)) ∧ w'' = w') := fun g w' hb => leader_w (h.later hb)
  obtain ⟨w1, hw1⟩ : ∃ X, X = w.alloc (.cells #[.pointer (some ⟨a, 0, none⟩), .pointer (some ⟨b, 0, none⟩)] 91) := ⟨_, rfl⟩
  obtain ⟨P, hP⟩ : ∃ X, X = w.heap.size := ⟨_, rfl⟩
  have N1 : w1.heap[P]? = some (.cells #[.pointer (some ⟨a, 0, none⟩), .pointer (some ⟨b, 0, none⟩)] 91 (0, 0)) := by rw [hw1, hP]; exact heap_alloc_new w _
  have B1 : Below w.heap.size w w1 := by rw [hw1]; exact below_alloc w _
  have BD : Hid (Below w.heap.size w w1.drew) := B1.trans ((below_drew w1).mono B1.size)
  have CS : Hid (w1.drew.cell? ⟨P, 0, none⟩ = some (.pointer (some ⟨a, 0, none⟩)) ∧ w1.drew.cell? ⟨P, 1, none⟩ = some (.pointer (some ⟨b, 0, none⟩))) := by
    have N2 : w1.drew.heap[P]? = some (.cells #[.pointer (some ⟨a, 0, none⟩), .pointer (some ⟨b, 0, none⟩)] 91 (0, 0)) := N1
    constructor
    · rw [cell_of_row _ P _ _ 91 (0, 0) N2]; rfl
    · rw [cell_of_row _ P _ _ 91 (0, 0) N2]; rfl
  have hab : a ≠ b := fun e => by
    rw [e, hb] at ha
    injection ha with ha
    injection ha with ha _ _
    rw [← ha, hb0] at ha0
    injection ha0 with ha0
    injection ha0 with _ ha0
    exact hne ha0.symm
  obtain ⟨j5, hj5, hjs⟩ := Option.map_eq_some_iff.1 size51z
  have he : (binOp .eql 23 (.pointer (some ⟨a, 0, none⟩)) (.pointer (some ⟨b, 0, none⟩))).run Tryz.prog w1.drew = .ok (.bool false) w1.drew := run_eql_ptr_other w1.drew Tryz.underlying23 hj5 (by rw [hjs]; decide) (fun e => by injection e with e _ _; exact hab e) ((BD.out.block a (Array.getElem?_eq_some_iff.1 ha).1).trans ha) ((BD.out.block b (Array.getElem?_eq_some_iff.1 hb).1).trans hb)
  have JA : Hid (Calls Tryz.prog 62 #[.pointer (some ⟨a, 0, none⟩), .pointer (some ⟨b, 0, none⟩)] w1.drew fun e w' => e = .returned (.bool false) ∧ Below w1.drew.heap.size w1.drew w') := alike_no (by rw [cell_of_row _ a _ _ 51 (0, 0) ((BD.out.block a (Array.getElem?_eq_some_iff.1 ha).1).trans ha)]; exact ha0) (by rw [cell_of_row _ b _ _ 51 (0, 0) ((BD.out.block b (Array.getElem?_eq_some_iff.1 hb).1).trans hb)]; exact hb0) hne
  clear N1 B1 h ha hb ha0 hb0
  go_enter Tryz.func35, Tryz.ntmps35
  go_upto_region 1 with fail
  rw [← hw1, ← hP]
  clear hw1 hP
  go_region_held3 (fun V => V.cell? ⟨P, 0, none⟩ = some (.pointer (some ⟨a, 0, none⟩)) ∧ V.cell? ⟨P, 1, none⟩ = some (.pointer (some ⟨b, 0, none⟩))) (exact CS.out) ((go_at_call 61; refine (LD.out _ _ BD.out).mono ?_; rintro e w2 ⟨rfl, rfl⟩))
  all_goals
    go_wp2_with fail
    refine JA.out.mono ?_
    rintro e w3 ⟨rfl, h3⟩
    have HF : Hid (Below w.heap.size w w3) := BD.out.trans (h3.mono BD.out.size)
    clear h3
    go_wp2_with fail
    go_ret
    exact ⟨rfl, HF.out⟩
def lenC (w : World) (s : Nat) : Nat := match w.cell? ⟨s, 1, none⟩ with | some (.slice _ n _) => n | _ => 0
/-- What Same begins with. -/
theorem same_start (w : World) (a b : Nat) : Sa (((w.alloc (.map #[] 0)).alloc (.cells #[.pointer (some ⟨a, 0, none⟩), .pointer (some ⟨b, 0, none⟩)] 91)).alloc (.cells #[.map (some w.heap.size), .slice (some ⟨w.heap.size + 1, 0, none⟩) 1 1] 94)) (w.heap.size + 2) w.heap.size (.slice (some ⟨w.heap.size + 1, 0, none⟩) 1 1) ∧ (((w.alloc (.map #[] 0)).alloc (.cells #[.pointer (some ⟨a, 0, none⟩), .pointer (some ⟨b, 0, none⟩)] 91)).alloc (.cells #[.map (some w.heap.size), .slice (some ⟨w.heap.size + 1, 0, none⟩) 1 1] 94)).heap[w.heap.size + 1]? = some (.cells #[.pointer (some ⟨a, 0, none⟩), .pointer (some ⟨b, 0, none⟩)] 91 (0, 0)) ∧ Below w.heap.size w (((w.alloc (.map #[] 0)).alloc (.cells #[.pointer (some ⟨a, 0, none⟩), .pointer (some ⟨b, 0, none⟩)] 91)).alloc (.cells #[.map (some w.heap.size), .slice (some ⟨w.heap.size + 1, 0, none⟩) 1 1] 94)) := by
  obtain ⟨n1, n2, n3⟩ := two_new w (.map #[] 0) (.cells #[.pointer (some ⟨a, 0, none⟩), .pointer (some ⟨b, 0, none⟩)] 91)
  have hs : ((w.alloc (.map #[] 0)).alloc (.cells #[.pointer (some ⟨a, 0, none⟩), .pointer (some ⟨b, 0, none⟩)] 91)).heap.size = w.heap.size + 2 := by
    have h1 : (w.alloc (.map #[] 0)).heap.size = w.heap.size + 1 := Array.size_push ..
    have h2 : ((w.alloc (.map #[] 0)).alloc (.cells #[.pointer (some ⟨a, 0, none⟩), .pointer (some ⟨b, 0, none⟩)] 91)).heap.size = (w.alloc (.map #[] 0)).heap.size + 1 := Array.size_push ..
    omega
  have b3 := below_alloc ((w.alloc (.map #[] 0)).alloc (.cells #[.pointer (some ⟨a, 0, none⟩), .pointer (some ⟨b, 0, none⟩)] 91)) (.cells #[.map (some w.heap.size), .slice (some ⟨w.heap.size + 1, 0, none⟩) 1 1] 94)
  have n4 := heap_alloc_new ((w.alloc (.map #[] 0)).alloc (.cells #[.pointer (some ⟨a, 0, none⟩), .pointer (some ⟨b, 0, none⟩)] 91)) (.cells #[.map (some w.heap.size), .slice (some ⟨w.heap.size + 1, 0, none⟩) 1 1] 94)
  rw [hs] at n4 b3
  exact ⟨⟨n4, (b3.block _ (by omega)).trans n1⟩, (b3.block _ (by omega)).trans n2, n3.trans (b3.mono (by omega))⟩
end Go.Proofs.YtmfoehaeejhlpaaGreatDoor

/-
  Same, of a tree and itself, and of two whose heads differ: the walk.
-/
namespace Go.Proofs.YtmfoehaeejhlpaaGreatDoor
open Go.RowKit Yn
set_option maxRecDepth 100000
theorem lenC_of {w : World} {s gm n c : Nat} {x : Option Addr} (h : Sa w s gm (.slice x n c)) : lenC w s = n := by
  have c1 : w.cell? ⟨s, 1, none⟩ = some (.slice x n c) := by rw [cell_of_row w s _ _ 94 (0, 0) h.1]; rfl
  unfold lenC
  rw [c1]
set_option maxHeartbeats 4000000 in
theorem same_self {w : World} {a : Nat} : Calls Tryz.prog 17 #[.pointer (some ⟨a, 0, none⟩), .pointer (some ⟨a, 0, none⟩)] w fun e w' => e = .returned (.bool true) ∧ Below w.heap.size w w' := by
  have hmm := @run_makeMap Tryz.prog
  obtain ⟨S1, Q1, B1⟩ := same_start w a a
  obtain ⟨w1, hw1⟩ : ∃ X, X = (((w.alloc (.map #[] 0)).alloc (.cells #[.pointer (some ⟨a, 0, none⟩), .pointer (some ⟨a, 0, none⟩)] 91)).alloc (.cells #[.map (some w.heap.size), .slice (some ⟨w.heap.size + 1, 0, none⟩) 1 1] 94)) := ⟨_, rfl⟩
  rw [← hw1] at S1 Q1 B1
  have HS := hide S1
  have HQ := hide Q1
  have HB := hide B1
  have JP := hide (pop_w S1 Q1 (by omega))
  have JJ : Hid (∀ w', Sa w' (w.heap.size + 2) w.heap.size (.slice (some ⟨w.heap.size + 1, 0, none⟩) 0 1) → Below w.heap.size w w' → Calls Tryz.prog 35 #[.pointer (some ⟨w.heap.size + 2, 0, none⟩), .agg #[.pointer (some ⟨a, 0, none⟩), .pointer (some ⟨a, 0, none⟩)]] w' fun e w'' => e = .returned (.bool true) ∧ Below w'.heap.size w' w'') := fun w' hs hb => join_same hs
  have MB : Hid (∀ w', Mv w1 w' (fun x => x = w.heap.size + 2) → Below w.heap.size w w') := fun w' hm => B1.trans (hm.below B1.size (fun x e => by omega))
  clear S1 Q1 B1
  go_enter Tryz.func17, Tryz.ntmps17
  go_upto_region 2 with fail
  rw [← hw1, show w.heap.size + 1 + 1 = w.heap.size + 2 from rfl]
  clear hw1 hmm
  generalize w.heap.size + 2 = s at *
  generalize w.heap.size + 1 = q at *
  go_loopw [15] (fun _ wr => ∃ k : Nat, k ≤ 1 ∧ Hid (Sa wr s w.heap.size (.slice (some ⟨q, 0, none⟩) k 1)) ∧ Hid (Below w.heap.size w wr) ∧ Hid (k = 1 → wr = w1)) (fun _ wr => lenC wr s)
  case atStart => exact ⟨1, by omega, HS.out, HB.out, fun _ => rfl⟩
  case round =>
    obtain ⟨k, hk, hS, hB, hK⟩ := hrel
    have c1 : wr.cell? ⟨s, 1, none⟩ = some (.slice (some ⟨q, 0, none⟩) k 1) := by rw [cell_of_row wr s _ _ 94 (0, 0) hS.out.1]; rfl
    by_cases h1 : k = 1
    · have e := hK.out h1
      subst e
      subst h1
      have L1 : Hid (lenC wr s = 1) := lenC_of hS.out
      go_wp2_with fail
      refine JP.out.mono ?_
      rintro e w2 ⟨rfl, s2, m2⟩
      have S2 := hide s2
      have B2 := hide (MB.out w2 m2)
      have J := hide (JJ.out w2 s2 B2.out)
      clear s2 m2 JP JJ
      go_wp2_with fail
      refine J.out.mono ?_
      rintro e w3 ⟨rfl, h3⟩
      have S3 := hide (S2.out.later h3)
      have B3 : Hid (Below w.heap.size w w3) := B2.out.trans (h3.mono B2.out.size)
      clear h3 J S2 B2
      go_wp2_with fail
      go_roundw
      case measure => rw [lenC_of S3.out, L1.out]; omega
      case rel => exact ⟨0, by omega, S3.out, B3.out, fun e => by omega⟩
    · obtain rfl : k = 0 := by omega
      go_wp2_with fail
      go_ret
      exact ⟨rfl, hB.out⟩
set_option maxHeartbeats 4000000 in
theorem same_other {w : World} {a b : Nat} {ca cb : Array Value} {oa ob : Int} (ha : w.heap[a]? = some (.cells ca 51 (0, 0))) (hb : w.heap[b]? = some (.cells cb 51 (0, 0))) (ha0 : ca[0]? = some (.int .i64 oa)) (hb0 : cb[0]? = some (.int .i64 ob)) (hne : oa ≠ ob) : Calls Tryz.prog 17 #[.pointer (some ⟨a, 0, none⟩), .pointer (some ⟨b, 0, none⟩)] w fun e w' => e = .returned (.bool false) ∧ Below w.heap.size w w' := by
  have hmm := @run_makeMap Tryz.prog
  obtain ⟨S1, Q1, B1⟩ := same_start w a b
  obtain ⟨w1, hw1⟩ : ∃ X, X = (((w.alloc (.map #[] 0)).alloc (.cells #[.pointer (some ⟨a, 0, none⟩), .pointer (some ⟨b, 0, none⟩)] 91)).alloc (.cells #[.map (some w.heap.size), .slice (some ⟨w.heap.size + 1, 0, none⟩) 1 1] 94)) := ⟨_, rfl⟩
  rw [← hw1] at S1 Q1 B1
  have HS := hide S1
  have HQ := hide Q1
  have HB := hide B1
  have JP := hide (pop_w S1 Q1 (by omega))
  have JJ : Hid (∀ w', Sa w' (w.heap.size + 2) w.heap.size (.slice (some ⟨w.heap.size + 1, 0, none⟩) 0 1) → Below w.heap.size w w' → Calls Tryz.prog 35 #[.pointer (some ⟨w.heap.size + 2, 0, none⟩), .agg #[.pointer (some ⟨a, 0, none⟩), .pointer (some ⟨b, 0, none⟩)]] w' fun e w'' => e = .returned (.bool false) ∧ Below w'.heap.size w' w'') := fun w' hs hb' => join_other hs ((hb'.block a (Array.getElem?_eq_some_iff.1 ha).1).trans ha) ((hb'.block b (Array.getElem?_eq_some_iff.1 hb).1).trans hb) ha0 hb0 hne
  have MB : Hid (∀ w', Mv w1 w' (fun x => x = w.heap.size + 2) → Below w.heap.size w w') := fun w' hm => B1.trans (hm.below B1.size (fun x e => by omega))
  clear S1 Q1 B1
  go_enter Tryz.func17, Tryz.ntmps17
  go_upto_region 2 with fail
  rw [← hw1, show w.heap.size + 1 + 1 = w.heap.size + 2 from rfl]
  clear hw1 hmm
  generalize w.heap.size + 2 = s at *
  generalize w.heap.size + 1 = q at *
  go_loopw [15] (fun _ wr => ∃ k : Nat, k = 1 ∧ Hid (Sa wr s w.heap.size (.slice (some ⟨q, 0, none⟩) k 1)) ∧ Hid (Below w.heap.size w wr) ∧ Hid (k = 1 → wr = w1)) (fun _ wr => lenC wr s)
  case atStart => exact ⟨1, by omega, HS.out, HB.out, fun _ => rfl⟩
  case round =>
    obtain ⟨k, hk, hS, hB, hK⟩ := hrel
    have c1 : wr.cell? ⟨s, 1, none⟩ = some (.slice (some ⟨q, 0, none⟩) k 1) := by rw [cell_of_row wr s _ _ 94 (0, 0) hS.out.1]; rfl
    by_cases h1 : k = 1
    · have e := hK.out h1
      subst e
      subst h1
      have L1 : Hid (lenC wr s = 1) := lenC_of hS.out
      go_wp2_with fail
      refine JP.out.mono ?_
      rintro e w2 ⟨rfl, s2, m2⟩
      have S2 := hide s2
      have B2 := hide (MB.out w2 m2)
      have J := hide (JJ.out w2 s2 B2.out)
      clear s2 m2 JP JJ
      go_wp2_with fail
      refine J.out.mono ?_
      rintro e w3 ⟨rfl, h3⟩
      have S3 := hide (S2.out.later h3)
      have B3 : Hid (Below w.heap.size w w3) := B2.out.trans (h3.mono B2.out.size)
      clear h3 J S2 B2
      go_wp2_with fail
      go_ret
      exact ⟨rfl, B3.out⟩
    · exact absurd hk h1
end Go.Proofs.YtmfoehaeejhlpaaGreatDoor

/-
  The law's fault.
-/
namespace Go.Proofs.YtmfoehaeejhlpaaGreatDoor
open Go.RowKit Yn
set_option maxRecDepth 100000
theorem ta_is (p : Value) (w : World) : (Instr.typeAssert (.iface 61 p) 25 61 true).run Tryz.prog w = .ok (.tuple #[p, .bool true]) w := by
  simp [Instr.typeAssert, run_underlying Tryz.underlying61, go_sem, Result.andThen]
set_option maxHeartbeats 2000000 in
theorem fault_some {W : World} {g a er : Nat} (hg : W.heap[g]? = some (.cells #[.int .i64 (a : Int), .int .i64 (er : Int)] 77 (0, 0))) (her : er ≠ 0) : Calls Tryz.prog 10 #[.iface 61 (.pointer (some ⟨g, 0, none⟩))] W fun e W' => e = .returned (.tuple #[.int .i64 (a : Int), .int .i64 (er : Int), .bool true]) ∧ Below W.heap.size W W' := by
  have ta := ta_is (.pointer (some ⟨g, 0, none⟩))
  have c0 : W.cell? ⟨g, 0, none⟩ = some (.int .i64 (a : Int)) := by rw [cell_of_row W g _ _ 77 (0, 0) hg]; rfl
  have c1 : W.cell? ⟨g, 1, none⟩ = some (.int .i64 (er : Int)) := by rw [cell_of_row W g _ _ 77 (0, 0) hg]; rfl
  have t2 : Hid (((er : Int) != 0) = true) := by unfold Hid; rw [bne_iff_ne]; omega
  clear hg
  go_enter Tryz.func10, Tryz.ntmps10
  go_upto_region 6 with fail
  go_region
  all_goals go_wp2_with fail
  all_goals go_ret3
  all_goals (refine ⟨?_, below_drew W⟩; show Ending.returned (.tuple #[.int .i64 (a : Int), .int .i64 (er : Int), .bool ((er : Int) != 0)]) = _; rw [t2.out])
end Go.Proofs.YtmfoehaeejhlpaaGreatDoor

/-
  The law's shown.
-/
namespace Go.Proofs.YtmfoehaeejhlpaaGreatDoor
open Go.RowKit Yn
set_option maxRecDepth 1000000
theorem nd_head {X : Nat → Prop} {w : World} {op a g : Nat} {t : ByteArray} {n : Int} {l : List Tree} (h : Nd X w (.mk op t n l a) (.pointer (some ⟨g, 0, none⟩))) : ∃ ca, w.heap[g]? = some (.cells ca 51 (0, 0)) ∧ ca[0]? = some (.int .i64 (op : Int)) := by
  rw [Nd] at h
  obtain ⟨g', vl, ps, e, -, hc, -⟩ := h
  injection e with e
  injection e with e
  injection e with e _ _
  rw [e]
  exact ⟨_, hc, rfl⟩
theorem exout_eq : ((ByteArray.mk exOut.toArray).toList == exOut) = true := by simp
set_option maxHeartbeats 8000000 in
theorem shown_any (W : World) (hK : Kd W) (hpf : Pf W.heap.size W) : Calls Tryz.prog 7 #[] W fun e w' => e = .returned (.bool true) ∧ Below W.heap.size W w' := by
  have J0 := parse_all exSrc W hK
  rw [ex_ok] at J0
  have J0 := hide J0
  have JB : Hid (∀ w', Below W.heap.size W w' → Calls Tryz.prog 8 #[.string exBad] w' fun e w'' => Below w'.heap.size w' w'' ∧ ∃ g, e = .returned (.tuple #[.pointer none, .iface 61 (.pointer (some ⟨g, 0, none⟩))]) ∧ w''.heap[g]? = some (.cells #[.int .i64 19, .int .i64 100] 77 (0, 0))) := fun w' hb => by
    have := parse_all exBad w' (hK.below hb)
    rw [ex_bad] at this
    refine this.mono ?_
    rintro e w'' ⟨h1, g, h2, -, h3⟩
    exact ⟨h1, g, h2, h3⟩
  have HK := hide hK
  have HP := hide hpf
  clear hK hpf
  unfold exSrc at J0
  unfold exBad at JB
  go_enter Tryz.func7, Tryz.ntmps7
  go_wp2_with fail
  refine J0.out.mono ?_
  rintro e w1 ⟨b1, v, rfl, hnd⟩
  have hnd : Nd (fun q => W.heap.size ≤ q) w1 exT v := hnd
  have hnd1 : Nd (fun q => q < w1.heap.size) w1 exT v := Nd.mono (fun q h => h.2) _ _ (Nd.tight _ _ hnd)
  have B1 := hide b1
  obtain ⟨gn, ao, c, gl, gs, rfl, hce, hcap, hch⟩ := nd_open hnd1
  obtain ⟨rfl, -⟩ := hch.2.1 (by decide)
  obtain ⟨g0, k0⟩ := ch_at hch 0 (by decide)
  have ND : Hid (∀ w', Below w1.heap.size w1 w' → Nd (fun q => q < w'.heap.size) w' exT (.pointer (some ⟨gn, 0, none⟩))) := fun w' h => Nd.mono (fun q hq => Nat.lt_of_lt_of_le hq h.size) _ _ (hnd1.below h)
  have J := hide (JB.out w1 b1)
  clear J0 JB b1 hnd
  go_wp2_with fail
  refine J.out.mono ?_
  rintro e w2 ⟨b2, gf, rfl, hgf⟩
  have B2 := hide b2
  have J := hide (fault_some (er := 100) (a := 19) hgf (by decide))
  clear b2 hgf
  go_wp2_with fail
  refine J.out.mono ?_
  rintro e w3 ⟨rfl, b3⟩
  have B3 : Hid (Below w1.heap.size w1 w3) := B2.out.trans (b3.mono B2.out.size)
  have CE : Hid (∀ w', Below w1.heap.size w1 w' → Ce w1.heap.size w' gn 1 (bs []) 0 (some ⟨gl, 0, none⟩) 2 c) := fun w' h => hce.below h
  have BW : Hid (∀ w', Below w1.heap.size w1 w' → Below W.heap.size W w') := fun w' h => B1.out.trans (h.mono B1.out.size)
  have JPR := hide (ex_print (ND.out w3 B3.out) (HK.out.below (BW.out w3 B3.out)) (fun w' h => HP.out w' ((BW.out w3 B3.out).trans (h.mono (BW.out w3 B3.out).size))))
  obtain ⟨-, d0, d1, d2, d3⟩ := CE.out w3 B3.out
  clear b3 J
  have SS : Hid (∀ w', Below w1.heap.size w1 w' → Calls Tryz.prog 17 #[.pointer (some ⟨gn, 0, none⟩), .pointer (some ⟨g0, 0, none⟩)] w' fun e w'' => e = .returned (.bool false) ∧ Below w'.heap.size w' w'') := fun w' h => by
    obtain ⟨ca, h1, h2⟩ := nd_head (hnd1.below h)
    obtain ⟨cb, h3, h4⟩ := nd_head (k0 w' h).2
    exact same_other h1 h3 h2 h4 (by decide)
  have K0 : Hid (∀ w', Below w1.heap.size w1 w' → w'.cell? ⟨gl, 0, none⟩ = some (.pointer (some ⟨g0, 0, none⟩))) := fun w' h => (k0 w' h).1
  clear hce hcap hch k0 hnd1 HK HP
  go_wp2_with fail
  refine JPR.out.mono ?_
  rintro e w4 ⟨rfl, b4⟩
  have B4 : Hid (Below w1.heap.size w1 w4) := B3.out.trans (b4.mono B3.out.size)
  clear b4 JPR d0 d1 d2 d3
  have J := hide (same_self (w := w4) (a := gn))
  go_wp2_with fail
  refine J.out.mono ?_
  rintro e w5 ⟨rfl, b5⟩
  have B5 : Hid (Below w1.heap.size w1 w5) := B4.out.trans (b5.mono B4.out.size)
  clear b5 J
  obtain ⟨-, d0, d1, d2, d3⟩ := CE.out w5 B5.out
  have x0 := K0.out w5 B5.out
  have J := hide (SS.out w5 B5.out)
  clear SS
  go_wp2_with fail
  refine J.out.mono ?_
  rintro e w6 ⟨rfl, b6⟩
  have BF : Hid (Below W.heap.size W w6) := BW.out w6 (B5.out.trans (b6.mono B5.out.size))
  have z := exout_eq
  unfold exOut at z ⊢
  clear b6 J d0 d1 d2 d3 x0
  go_wp2_with fail
  go_ret
  exact ⟨by first | rfl | simp, BF.out⟩
end Go.Proofs.YtmfoehaeejhlpaaGreatDoor
