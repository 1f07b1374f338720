/-
  The reader: program.
-/
import Derived.Test.YtpolajoephjdhaaGreatDoorDeG
namespace Go.Proofs.YtpolajoephjdhaaGreatDoor
open Go.RowKit
set_option maxRecDepth 100000
section
variable {W W' : World} {B k : Nat} {b : List UInt8} {s : Rs}
set_option maxHeartbeats 8000000 in
theorem program_at (h : Rdr W B k b s) (hB : 0 < B) (ht : Tb W) : Calls Tryz.prog 26 #[.pointer (some ⟨k, 0, none⟩)] W fun e w' => ∃ vs vf, e = .returned (.agg #[vs, vf]) ∧ PgOwn W.heap.size w' (pgV b s) vs vf ∧ Rdr w' B k b (pgR b s) ∧ Mv W w' (fun j => j = k) := by
  obtain ⟨w0, hw0⟩ : ∃ X, X = W.alloc (.cells #[.slice none 0 0, .slice none 0 0] 27) := ⟨_, rfl⟩
  obtain ⟨w1, hw1⟩ : ∃ X, X = w0.alloc (.cells #[.slice none 0 0, .slice none 0 0] 27) := ⟨_, rfl⟩
  have B0 : Below W.heap.size W w0 := hw0 ▸ below_alloc W _
  have B1 : Below w0.heap.size w0 w1 := hw1 ▸ below_alloc w0 _
  have n1 : w0.heap[W.heap.size]? = some (.cells #[.slice none 0 0, .slice none 0 0] 27 (0, 0)) := by rw [hw0]; exact heap_alloc_new W _
  have n2 : w1.heap[w0.heap.size]? = some (.cells #[.slice none 0 0, .slice none 0 0] 27 (0, 0)) := by rw [hw1]; exact heap_alloc_new w0 _
  have e0 : w0.heap.size = W.heap.size + 1 := by rw [hw0]; exact Array.size_push ..
  obtain ⟨r2, hr2⟩ : ∃ r, r = W.heap.size := ⟨_, rfl⟩
  obtain ⟨r3, hr3⟩ : ∃ r, r = W.heap.size + 1 := ⟨_, rfl⟩
  rw [e0, ← hr3] at n2
  rw [← hr2] at n1
  have L1 : Hid (Lp W w1 B k b s r2 r3 (.slice none 0 0) (.slice none 0 0)) := by
    have hk := h.lt
    exact ⟨(B1.block r2 (lt_of_block n1)).trans n1, n2, (h.later B0).later B1, Mv.of_below (below_on B0 B1) _, by omega, by omega, by omega, (ht.later B0).later B1, hB⟩
  have J1 : Hid (Calls Tryz.prog 59 #[.pointer (some ⟨k, 0, none⟩), .int .i64 0, .int .i64 16] w1 fun e w' => e = .returned (.int .i64 (pgN1 b s : Int)) ∧ Rdr w' B k b (pgS1 b s) ∧ Mv w1 w' (fun j => j = k)) := number_at L1.out.2.2.1 0 16 (by omega) (by omega)
  have K2 : Hid (∀ w, Rdr w B k b (pgS2 b s) → Calls Tryz.prog 59 #[.pointer (some ⟨k, 0, none⟩), .int .i64 0, .int .i64 16] w fun e w' => e = .returned (.int .i64 (pgN2 b s : Int)) ∧ Rdr w' B k b (pgS3 b s) ∧ Mv w w' (fun j => j = k)) := fun w hw => number_at hw 0 16 (by omega) (by omega)
  have hn1 : pgN1 b s ≤ 16 := numV_le _ _ _ _
  have hn2 : pgN2 b s ≤ 16 := numV_le _ _ _ _
  have ES2 : Hid (pgS2 b s = sysG b (pgN1 b s) (pgS1 b s)) := rfl
  obtain ⟨x, hx⟩ : ∃ x, x = pgR b s := ⟨_, rfl⟩
  obtain ⟨v, hv⟩ : ∃ v, v = pgV b s := ⟨_, rfl⟩
  rw [← hx, ← hv]
  have HX : Hid (x = rtsG b (pgN2 b s) (pgS3 b s)) := hx
  have HV : Hid (v = ⟨sysL b (pgN1 b s) (pgS1 b s), rtsL b (pgN2 b s) (pgS3 b s)⟩) := hv
  generalize pgN1 b s = m1 at *
  generalize pgS1 b s = s1 at *
  generalize pgN2 b s = m2 at *
  generalize pgS3 b s = s3 at *
  generalize pgS2 b s = s2 at *
  have h23 : r2 < r3 := L1.out.2.2.2.2.2.1
  have hk2 : k < r2 := L1.out.2.2.2.2.1
  have hW2 : W.heap.size ≤ r2 := L1.out.2.2.2.2.2.2.1
  have ER2 := hide hr2
  have ER3 := hide hr3
  clear h ht hx hv B0 B1 n1 n2 e0
  go_enter Tryz.func26, Tryz.ntmps26
  go_upto_region 2 with fail
  rw [← hw0, ← hw1, ← hr3, ← hr2]
  clear hw0 hw1 hr2 hr3
  go_wp2_with fail
  refine J1.out.mono ?_
  rintro e w2 ⟨rfl, hr, hm⟩
  have L2 := hide (L1.out.call hr hm)
  clear hr hm J1
  go_wp2_with fail
  go_loopw [6] (fun va wr => ∃ (j : Nat) (st : Rs) (ls : List (Sy × Sv)) (vs : Value), va = .int .i64 (j : Int) ∧ j ≤ m1 ∧ Hid (ls.length = j) ∧ Hid (s2 = sysG b (m1 - j) st) ∧ Hid (v.sys = ls.map Prod.fst ++ sysL b (m1 - j) st) ∧ Hid (wr.ownsRow (r3 + 1) 47 8 vs ls.length (sysC ls)) ∧ Hid (SysOwn (r3 + 1) wr ls) ∧ Hid (Lp W wr B k b st r2 r3 vs (.slice none 0 0))) (fun va _ => m1 - (intOf va).toNat)
  case atStart => exact ⟨0, s1, [], .slice none 0 0, rfl, by omega, rfl, ES2.out, by unfold Hid; rw [HV.out]; rfl, ⟨rfl, .inl ⟨rfl, rfl⟩⟩, ⟨fun p hp => absurd hp (by simp), List.Pairwise.nil, List.Pairwise.nil⟩, L2.out⟩
  case round =>
    obtain ⟨j, st, ls, vs, rfl, hj, hdn, hx, hv, hown, hso, hlc⟩ := hrel
    obtain ⟨ao, c, rfl⟩ := own_len hown.out
    have hcap := own_cap hown.out
    by_cases hlt : j < m1
    · have hL0 := hlc.out.later (below_drew wr)
      have hO0 := own_later hown.out (below_drew wr)
      have hS0 : SysOwn (r3 + 1) wr.drew ls := hso.out.mv (Mv.of_below (below_drew wr) (fun _ => False)) (fun _ _ _ _ _ _ _ _ e => e)
      have J2 := hide (system_at hL0.2.2.1 hB hL0.2.2.2.2.2.2.2.1)
      obtain ⟨q, hq⟩ : ∃ q, m1 - j = q + 1 := ⟨m1 - j - 1, by omega⟩
      have hq' : m1 - (j + 1) = q := by omega
      have HX2 : Hid (s2 = sysG b (m1 - (j + 1)) (sysR b st)) := by unfold Hid; rw [hx.out, hq, hq']; rfl
      have HV2 : Hid (v.sys = ls.map Prod.fst ++ [sysV b st] ++ sysL b (m1 - (j + 1)) (sysR b st)) := by unfold Hid; rw [hv.out, hq, hq', sysL]; simp
      generalize sysV b st = sv at *
      generalize sysR b st = st2 at *
      have a3 := (row2 hlc.out.2.1).1
      have hdl : ls.length ≤ 16 := by have := hdn.out; omega
      have hszr := lt_of_block hlc.out.2.1
      clear hx hv hq hq'
      unfold syV at J2
      obtain ⟨ic, hi, hz0, hz1, hz2⟩ := info_parts infoS
      go_upto_region 4 with fail
      refine wp_region_late (J := fun i => i != 7) (S := (fun Wq => Wq.cell? ⟨r3, 0, none⟩ = some (.slice ao ls.length c))) (by kernel_rfl) (a3) (fun hHeld => ?_)
      refine' wpAnyJ_takeW (i := 0) (oi := { dst := some 8, op := Go.Op.fieldAddr 27 (Go.Operand.tmp 3) 0, type := 0, pos := "bytes.go:76", after := #[], guard := none }) (v := _) rfl (by kernel_rfl) (by kernel_rfl) (by kernel_rfl) (fun _ _ _ h => h) (Or.inl ⟨by rfl, ?hyj21⟩) ?rej21
      case hyj21 => (intro W hSw; (try dsimp only at hSw); go_simp; try with_reducible rfl)
      try simp only [Act.put, List.setIfInBounds_toArray, List.set_cons_zero, List.set_cons_succ]
      refine' wpAnyJ_take (i := 1) (oi := { dst := some 9, op := Go.Op.load 24 (Go.Operand.tmp 8), type := 24, pos := "bytes.go:76", after := #[{ on := 0, ground := Go.Ground.data }], guard := none }) (v := _) rfl (by kernel_rfl) (by kernel_rfl) (by kernel_rfl) (by kernel_rfl) (fun _ _ _ h => h) (Or.inl ⟨by rfl, ?hyj22⟩) (by assumption) ?rej22
      case hyj22 => (intro W hSw; (try dsimp only at hSw); go_simp; try with_reducible rfl)
      try simp only [Act.put, List.setIfInBounds_toArray, List.set_cons_zero, List.set_cons_succ]
      refine' wpAnyJ_takeW (i := 2) (oi := { dst := some 10, op := Go.Op.move (Go.Operand.tmp 0), type := 70, pos := "bytes.go:76", after := #[], guard := none }) (v := _) rfl (by kernel_rfl) (by kernel_rfl) (by kernel_rfl) (fun _ _ _ h => h) (Or.inl ⟨by rfl, ?hyj23⟩) ?rej23
      case hyj23 => (intro W hSw; (try dsimp only at hSw); go_simp; try with_reducible rfl)
      try simp only [Act.put, List.setIfInBounds_toArray, List.set_cons_zero, List.set_cons_succ]
      refine wpAnyJ_ready (rs := [3]) (by kernel_rfl) (by simp) ?_
      refine AllReadyJ.cons (o := { dst := some 11, op := Go.Op.call { callee := Go.Callee.value (Go.Operand.func 60), args := #[Go.Operand.tmp 10], argTypes := #[70] }, type := 47, pos := "bytes.go:76", after := #[{ on := 2, ground := Go.Ground.data }], guard := none }) rfl (fun K hK => ?_) AllReadyJ.nil
      clear hHeld
      go_simp
      go_at_call 60
      refine J2.out.mono ?_
      rintro e w8 ⟨u1, u2, u3, u4, u5, rfl, so8, hr8, hm8⟩
      have L8 := hL0.call hr8 hm8
      have O8 := hm8.own hO0 (fun g e1 e2 => by have := (hown.out.lt g e1).1; omega)
      have S8 : SysOwn (r3 + 1) w8 ls := hS0.mv hm8 (fun jj h1 _ p hp vv hvv hb e => by omega)
      have N8 : SysOwn (r3 + 1) w8 (ls ++ [(sv, ⟨u1, u2, u3, u4, u5⟩)]) := hS0.snoc S8 so8 (show r3 + 1 ≤ wr.heap.size by omega)
      have C8 := (row2 L8.2.1).1
      obtain ⟨⟨p1, p2, p3, p4, p5⟩, -⟩ := so8
      obtain ⟨q1, d1, rfl⟩ := own_len p1
      obtain ⟨q2, d2, rfl⟩ := own_len p2
      obtain ⟨q3, d3, rfl⟩ := own_len p3
      obtain ⟨q4, d4, rfl⟩ := own_len p4
      obtain ⟨q5, d5, rfl⟩ := own_len p5
      have hsz8 := lt_of_block L8.2.1
      obtain ⟨nb, hnb⟩ : ∃ X, X = Obj.cells #[.slice q1 sv.wi.length d1, .slice q2 sv.wo.length d2, .slice q3 sv.re.length d3, .slice q4 sv.wr.length d4, .string sv.run.name, .int .i64 sv.run.pa, .int .i64 sv.run.lo, .slice q5 sv.run.code.length d5] 47 (0, 0) := ⟨_, rfl⟩
      have CB := (row2 (L8.later (below_alloc w8 nb)).2.1).1
      have CN : ∀ jj u, (svC (sv, ⟨.slice q1 sv.wi.length d1, .slice q2 sv.wo.length d2, .slice q3 sv.re.length d3, .slice q4 sv.wr.length d4, .slice q5 sv.run.code.length d5⟩))[jj]? = some u → (w8.alloc nb).cell? ((⟨w8.heap.size, 0, none⟩ : Addr).add jj) = some u := by
        intro jj u hu
        rw [add_at, cell_of_row (w8.alloc nb) w8.heap.size jj #[.slice q1 sv.wi.length d1, .slice q2 sv.wo.length d2, .slice q3 sv.re.length d3, .slice q4 sv.wr.length d4, .string sv.run.name, .int .i64 sv.run.pa, .int .i64 sv.run.lo, .slice q5 sv.run.code.length d5] 47 (0, 0) (by rw [hnb]; exact heap_alloc_new w8 _), ← hu, List.getElem?_toArray]
        rfl
      rw [hnb] at CB CN
      clear hnb
      refine hK.out _ _ (fun _ _ => C8) ?_
      clear hK K
      try simp only [Act.put, List.setIfInBounds_toArray, List.set_cons_zero, List.set_cons_succ]
      refine wpAnyJ_ready (rs := [4]) (by kernel_rfl) (by simp) ?_
      refine AllReadyJ.cons (o := { dst := some 12, op := Go.Op.buildSlice 24 1 #[(0, Go.Operand.tmp 11)], type := 24, pos := "bytes.go:76", after := #[{ on := 3, ground := Go.Ground.data }], guard := none }) rfl (fun K hK => ?_) AllReadyJ.nil
      go_simp
      refine hK.out _ _ (fun _ _ => CB) ?_
      clear hK K
      try simp only [Act.put, List.setIfInBounds_toArray, List.set_cons_zero, List.set_cons_succ]
      refine wpAnyJ_ready (rs := [5]) (by kernel_rfl) (by simp) ?_
      refine AllReadyJ.cons (o := { dst := some 13, op := Go.Op.call { callee := Go.Callee.builtin Go.Builtin.append, args := #[Go.Operand.tmp 9, Go.Operand.tmp 12], argTypes := #[24, 24] }, type := 24, pos := "bytes.go:76", after := #[{ on := 1, ground := Go.Ground.data }, { on := 4, ground := Go.Ground.data }, { on := 3, ground := Go.Ground.chain }], guard := none }) rfl (fun K hK => ?_) AllReadyJ.nil
      refine step_append_lies _ rfl (.tmp 9) (.tmp 12) 24 rfl (r3 + 1) 47 ic (.agg #[.slice none 0 0, .slice none 0 0, .slice none 0 0, .slice none 0 0, .string ByteArray.empty, .int .i64 0, .int .i64 0, .slice none 0 0]) 8 152 Tryz.underlying24 hi hz0 hz1 hz2 rfl (by decide) (.slice ao ls.length c) ls.length (sysC ls) (by simp [Act.eval]) (O8.alloc _) ⟨w8.heap.size, 0, none⟩ 1 1 (svC (sv, ⟨.slice q1 sv.wi.length d1, .slice q2 sv.wo.length d2, .slice q3 sv.re.length d3, .slice q4 sv.wr.length d4, .slice q5 sv.run.code.length d5⟩)) (by simp [Act.eval]) rfl CN (by intro u hu; simp [svC] at hu; rcases hu with rfl | rfl | rfl | rfl | rfl | rfl | rfl | rfl <;> rfl) (by omega) (by unfold maxLen; omega) (by omega) (by simp; omega) _ rfl ?_
      intro g9 c9 w9 ho9 hg9 _ _
      have m9 : Mv w8 w9 (fun j => (Value.slice ao ls.length c).ownBlock = some j) := ((Mv.refl w8 (fun j => (Value.slice ao ls.length c).ownBlock = some j)).alloc _).grown hg9 (fun g _ e => e)
      have L9b := L8.grow m9 (fun j e => (O8.lt j e).1)
      have CA := (row2 L9b.2.1).1
      have ZA : ∀ q, w9.frozen? ⟨r3, q, none⟩ = false := fun q => frozen_of_row w9 r3 q _ 27 L9b.2.1
      have N9 : SysOwn (r3 + 1) w9 (ls ++ [(sv, ⟨.slice q1 sv.wi.length d1, .slice q2 sv.wo.length d2, .slice q3 sv.re.length d3, .slice q4 sv.wr.length d4, .slice q5 sv.run.code.length d5⟩)]) := N8.mv m9 (fun jj h1 h2 p hp vv hvv hb eS => by
        obtain ⟨⟨t1, t2, t3, t4, t5⟩, -⟩ := N8.1 p hp
        have bt := fun {e s n : Nat} {v : Value} {xs : List Value} (h1 : w8.ownsRow (r3 + 1) e s v n xs) (h2 : 47 ≠ e) => own_types O8 h1 h2 jj
        simp only [List.mem_cons, List.not_mem_nil, or_false] at hvv
        rcases hvv with rfl | rfl | rfl | rfl | rfl
        · exact bt t1 (by decide) eS hb
        · exact bt t2 (by decide) eS hb
        · exact bt t3 (by decide) eS hb
        · exact bt t4 (by decide) eS hb
        · exact bt t5 (by decide) eS hb)
      refine hK.out _ _ (fun _ _ => CA) ?_
      clear hK K
      try simp only [Act.put, List.setIfInBounds_toArray, List.set_cons_zero, List.set_cons_succ]
      refine' wpAnyJ_takeW (i := 6) (oi := { dst := some 14, op := Go.Op.fieldAddr 27 (Go.Operand.tmp 3) 0, type := 0, pos := "bytes.go:76", after := #[{ on := 0, ground := Go.Ground.phase }, { on := 1, ground := Go.Ground.phase }, { on := 2, ground := Go.Ground.phase }, { on := 3, ground := Go.Ground.phase }, { on := 4, ground := Go.Ground.phase }, { on := 5, ground := Go.Ground.phase }], guard := none }) (v := _) rfl (by kernel_rfl) (by kernel_rfl) (by kernel_rfl) (fun _ _ _ h => h) (Or.inl ⟨by rfl, ?hyj24⟩) ?rej24
      case hyj24 => (intro W hSw; (try dsimp only at hSw); go_simp; try with_reducible rfl)
      try simp only [Act.put, List.setIfInBounds_toArray, List.set_cons_zero, List.set_cons_succ]
      refine wpAnyJ_ready (rs := [7]) (by kernel_rfl) (by simp) ?_
      refine AllReadyJ.cons (o := { dst := none, op := Go.Op.store 24 (Go.Operand.tmp 14) (Go.Operand.tmp 13), type := 0, pos := "bytes.go:76", after := #[{ on := 6, ground := Go.Ground.data }, { on := 5, ground := Go.Ground.data }, { on := 5, ground := Go.Ground.chain }, { on := 0, ground := Go.Ground.phase }, { on := 1, ground := Go.Ground.phase }, { on := 2, ground := Go.Ground.phase }, { on := 3, ground := Go.Ground.phase }, { on := 4, ground := Go.Ground.phase }, { on := 5, ground := Go.Ground.phase }], guard := none }) rfl (fun K hK => ?_) AllReadyJ.nil
      go_simp
      refine hK.out _ _ (fun h => absurd h (by decide)) ?_
      clear hK K
      try simp only [Act.put, List.setIfInBounds_toArray, List.set_cons_zero, List.set_cons_succ]
      refine wpAnyJ_done (by kernel_rfl) ?_ _
      obtain ⟨ne, hne⟩ : ∃ x : Sy × Sv, x = (sv, ⟨.slice q1 sv.wi.length d1, .slice q2 sv.wo.length d2, .slice q3 sv.re.length d3, .slice q4 sv.wr.length d4, .slice q5 sv.run.code.length d5⟩) := ⟨_, rfl⟩
      rw [← hne] at ho9 N9
      have ef : ne.1 = sv := by rw [hne]
      have el : (ls ++ [ne]).length = ls.length + 1 := by simp
      have L10 := hide (L9b.set (i := 0) (v := .slice (some ⟨g9, 0, none⟩) (ls.length + 1) c9) rfl)
      have O10 : Hid ((w9.setCell ⟨r3, 0, none⟩ (.slice (some ⟨g9, 0, none⟩) (ls.length + 1) c9)).ownsRow (r3 + 1) 47 8 (.slice (some ⟨g9, 0, none⟩) (ls.length + 1) c9) (ls ++ [ne]).length (sysC (ls ++ [ne]))) := by
        unfold Hid
        rw [el, sysC_snoc]
        exact ((Mv.refl w9 (fun j => j = r3)).set (g := r3) rfl 0 _).own ho9 (fun g e1 e2 => by have := (ho9.lt g e1).1; omega)
      have N10 := hide (N9.mv ((Mv.refl w9 (fun j => j = r3)).set (g := r3) rfl 0 (.slice (some ⟨g9, 0, none⟩) (ls.length + 1) c9)) (fun jj h1 _ _ _ _ _ _ e => by omega))
      have HD2 : Hid ((ls ++ [ne]).length = j + 1) := by unfold Hid; rw [el, hdn.out]
      have HV3 : Hid (v.sys = (ls ++ [ne]).map Prod.fst ++ sysL b (m1 - (j + 1)) st2) := by unfold Hid; rw [HV2.out, List.map_append, List.map_singleton, ef]
      clear ho9 hg9 m9 L9b CA ZA L8 O8 C8 CB hL0 hO0 hS0 S8 N8 N9 el ef hne CN p1 p2 p3 p4 p5 HV2
      go_wp2_with fail
      go_roundw
      case rel => exact ⟨j + 1, st2, ls ++ [ne], _, by go_num, by omega, HD2.out, HX2.out, HV3.out, O10.out, N10.out, L10.out⟩
      case measure => simp [intOf]; omega
    · obtain rfl : j = m1 := by omega
      have hx2 : s2 = st := by rw [hx.out, Nat.sub_self]; rfl
      have hv2 : v.sys = ls.map Prod.fst := by rw [hv.out, Nat.sub_self, sysL, List.append_nil]
      have HVS := hide hv2
      subst hx2
      have J3 := hide (K2.out wr hlc.out.2.2.1)
      have hvf : v.fns = rtsL b m2 s3 := by rw [HV.out]
      have HVF := hide hvf
      have hszr := lt_of_block hlc.out.2.1
      obtain ⟨wq, hwq⟩ : ∃ X, X = wr := ⟨_, rfl⟩
      subst hwq
      clear hx hv hv2 hvf HV hdn
      go_wp2_with fail
      refine J3.out.mono ?_
      rintro e w3 ⟨rfl, hr, hm⟩
      have L3 := hide (hlc.out.call hr hm)
      have O3 := hide (hm.own hown.out (fun g e1 e2 => by have := (hown.out.lt g e1).1; omega))
      have S3 := hide (hso.out.mv hm (fun jj h1 _ _ _ _ _ _ e => by omega))
      clear hr hm J3
      go_wp2_with fail
      go_loopw [18] (fun va wr => ∃ (i : Nat) (st : Rs) (lf : List (Rt × Value)) (vf : Value), va = .int .i64 (i : Int) ∧ i ≤ m2 ∧ Hid (lf.length = i) ∧ Hid (x = rtsG b (m2 - i) st) ∧ Hid (v.fns = lf.map Prod.fst ++ rtsL b (m2 - i) st) ∧ Hid (wr.ownsRow (r3 + 1) 47 8 (.slice ao ls.length c) ls.length (sysC ls)) ∧ Hid (wr.ownsRow (r3 + 1) 45 4 vf lf.length (rtsC lf)) ∧ Hid (SysOwn (r3 + 1) wr ls) ∧ Hid (RtsOwn (r3 + 1) wr lf) ∧ Hid (∀ p ∈ ls, ∀ q ∈ lf, Ap p.2.vc q.2) ∧ Hid (Lp W wr B k b st r2 r3 (.slice ao ls.length c) vf)) (fun va _ => m2 - (intOf va).toNat)
      case atStart => exact ⟨0, s3, [], .slice none 0 0, rfl, by omega, rfl, HX.out, by unfold Hid; rw [HVF.out]; rfl, O3.out, ⟨rfl, .inl ⟨rfl, rfl⟩⟩, S3.out, ⟨fun p hp => absurd hp (by simp), List.Pairwise.nil⟩, fun p _ q hq => absurd hq (by simp), L3.out⟩
      case round =>
        obtain ⟨i, st, lf, vf, rfl, hi', hdn, hx, hv, howS, howF, hsS, hsF, hcr, hlp⟩ := hrel
        obtain ⟨af, cf, rfl⟩ := own_len howF.out
        have hcap2 := own_cap howF.out
        by_cases hlt2 : i < m2
        · have hL0 := hlp.out.later (below_drew wr)
          have hO0 := own_later howF.out (below_drew wr)
          have hOS := own_later howS.out (below_drew wr)
          have hS0 : SysOwn (r3 + 1) wr.drew ls := hsS.out.mv (Mv.of_below (below_drew wr) (fun _ => False)) (fun _ _ _ _ _ _ _ _ e => e)
          have hF0 : RtsOwn (r3 + 1) wr.drew lf := hsF.out.mv (Mv.of_below (below_drew wr) (fun _ => False)) (fun _ _ _ _ _ e => e)
          have J2 := hide (routine_at hL0.2.2.1 hB hL0.2.2.2.2.2.2.2.1)
          obtain ⟨q, hq⟩ : ∃ q, m2 - i = q + 1 := ⟨m2 - i - 1, by omega⟩
          have hq' : m2 - (i + 1) = q := by omega
          have HX2 : Hid (x = rtsG b (m2 - (i + 1)) (rtnR b st)) := by unfold Hid; rw [hx.out, hq, hq']; rfl
          have HV2 : Hid (v.fns = lf.map Prod.fst ++ [rtnV b st] ++ rtsL b (m2 - (i + 1)) (rtnR b st)) := by unfold Hid; rw [hv.out, hq, hq', rtsL]; simp
          generalize rtnV b st = rv at *
          generalize rtnR b st = st2 at *
          have a3 := (row2 hlp.out.2.1).2
          have hdl : lf.length ≤ 16 := by have := hdn.out; omega
          have hszr := lt_of_block hlp.out.2.1
          clear hx hv hq hq'
          unfold rtV at J2
          obtain ⟨ic, hi, hz0, hz1, hz2⟩ := info_parts infoR
          go_upto_region 8 with fail
          refine wp_region_late (J := fun i => i != 7) (S := (fun Wq => Wq.cell? ⟨r3, 1, none⟩ = some (.slice af lf.length cf))) (by kernel_rfl) (a3) (fun hHeld => ?_)
          refine' wpAnyJ_takeW (i := 0) (oi := { dst := some 20, op := Go.Op.fieldAddr 27 (Go.Operand.tmp 3) 1, type := 0, pos := "bytes.go:79", after := #[], guard := none }) (v := _) rfl (by kernel_rfl) (by kernel_rfl) (by kernel_rfl) (fun _ _ _ h => h) (Or.inl ⟨by rfl, ?hyj31⟩) ?rej31
          case hyj31 => (intro W hSw; (try dsimp only at hSw); go_simp; try with_reducible rfl)
          try simp only [Act.put, List.setIfInBounds_toArray, List.set_cons_zero, List.set_cons_succ]
          refine' wpAnyJ_take (i := 1) (oi := { dst := some 21, op := Go.Op.load 25 (Go.Operand.tmp 20), type := 25, pos := "bytes.go:79", after := #[{ on := 0, ground := Go.Ground.data }], guard := none }) (v := _) rfl (by kernel_rfl) (by kernel_rfl) (by kernel_rfl) (by kernel_rfl) (fun _ _ _ h => h) (Or.inl ⟨by rfl, ?hyj32⟩) (by assumption) ?rej32
          case hyj32 => (intro W hSw; (try dsimp only at hSw); go_simp; try with_reducible rfl)
          try simp only [Act.put, List.setIfInBounds_toArray, List.set_cons_zero, List.set_cons_succ]
          refine' wpAnyJ_takeW (i := 2) (oi := { dst := some 22, op := Go.Op.move (Go.Operand.tmp 0), type := 70, pos := "bytes.go:79", after := #[], guard := none }) (v := _) rfl (by kernel_rfl) (by kernel_rfl) (by kernel_rfl) (fun _ _ _ h => h) (Or.inl ⟨by rfl, ?hyj33⟩) ?rej33
          case hyj33 => (intro W hSw; (try dsimp only at hSw); go_simp; try with_reducible rfl)
          try simp only [Act.put, List.setIfInBounds_toArray, List.set_cons_zero, List.set_cons_succ]
          refine wpAnyJ_ready (rs := [3]) (by kernel_rfl) (by simp) ?_
          refine AllReadyJ.cons (o := { dst := some 23, op := Go.Op.call { callee := Go.Callee.value (Go.Operand.func 61), args := #[Go.Operand.tmp 22], argTypes := #[70] }, type := 45, pos := "bytes.go:79", after := #[{ on := 2, ground := Go.Ground.data }], guard := none }) rfl (fun K hK => ?_) AllReadyJ.nil
          clear hHeld
          go_simp
          go_at_call 61
          refine J2.out.mono ?_
          rintro e w8 ⟨u5, rfl, so8, hr8, hm8⟩
          have L8 := hL0.call hr8 hm8
          have O8 := hm8.own hO0 (fun g e1 e2 => by have := (howF.out.lt g e1).1; omega)
          have Q8 := hm8.own hOS (fun g e1 e2 => by have := (howS.out.lt g e1).1; omega)
          have S8 : SysOwn (r3 + 1) w8 ls := hS0.mv hm8 (fun jj h1 _ p hp vv hvv hb e => by omega)
          have F8 : RtsOwn (r3 + 1) w8 lf := hF0.mv hm8 (fun p hp jj h1 hb e => by omega)
          have N8 : RtsOwn (r3 + 1) w8 (lf ++ [(rv, u5)]) := hF0.snoc F8 so8 (show r3 + 1 ≤ wr.heap.size by omega)
          have X8 : ∀ p ∈ ls, ∀ q ∈ lf ++ [(rv, u5)], Ap p.2.vc q.2 := fun p hp q hq => by
            rw [List.mem_append, List.mem_singleton] at hq
            rcases hq with hq | rfl
            · exact hcr.out p hp q hq
            · intro g e1 e2
              have t1 : g < wr.heap.size := ((hS0.1 p hp).1.2.2.2.2.lt g e1).2
              have t2 : wr.heap.size ≤ g := (so8.lt g e2).1
              omega
          have C8 := (row2 L8.2.1).2
          obtain ⟨q5, d5, rfl⟩ := own_len so8
          have hsz8 := lt_of_block L8.2.1
          obtain ⟨nb, hnb⟩ : ∃ X, X = Obj.cells #[.string rv.name, .int .i64 rv.pa, .int .i64 rv.lo, .slice q5 rv.code.length d5] 45 (0, 0) := ⟨_, rfl⟩
          have CB := (row2 (L8.later (below_alloc w8 nb)).2.1).2
          have CN : ∀ jj u, (rvC (rv, .slice q5 rv.code.length d5))[jj]? = some u → (w8.alloc nb).cell? ((⟨w8.heap.size, 0, none⟩ : Addr).add jj) = some u := by
            intro jj u hu
            rw [add_at, cell_of_row (w8.alloc nb) w8.heap.size jj #[.string rv.name, .int .i64 rv.pa, .int .i64 rv.lo, .slice q5 rv.code.length d5] 45 (0, 0) (by rw [hnb]; exact heap_alloc_new w8 _), ← hu, List.getElem?_toArray]
            rfl
          rw [hnb] at CB CN
          clear hnb
          refine hK.out _ _ (fun _ _ => C8) ?_
          clear hK K
          try simp only [Act.put, List.setIfInBounds_toArray, List.set_cons_zero, List.set_cons_succ]
          refine wpAnyJ_ready (rs := [4]) (by kernel_rfl) (by simp) ?_
          refine AllReadyJ.cons (o := { dst := some 24, op := Go.Op.buildSlice 25 1 #[(0, Go.Operand.tmp 23)], type := 25, pos := "bytes.go:79", after := #[{ on := 3, ground := Go.Ground.data }], guard := none }) rfl (fun K hK => ?_) AllReadyJ.nil
          go_simp
          refine hK.out _ _ (fun _ _ => CB) ?_
          clear hK K
          try simp only [Act.put, List.setIfInBounds_toArray, List.set_cons_zero, List.set_cons_succ]
          refine wpAnyJ_ready (rs := [5]) (by kernel_rfl) (by simp) ?_
          refine AllReadyJ.cons (o := { dst := some 25, op := Go.Op.call { callee := Go.Callee.builtin Go.Builtin.append, args := #[Go.Operand.tmp 21, Go.Operand.tmp 24], argTypes := #[25, 25] }, type := 25, pos := "bytes.go:79", after := #[{ on := 1, ground := Go.Ground.data }, { on := 4, ground := Go.Ground.data }, { on := 3, ground := Go.Ground.chain }], guard := none }) rfl (fun K hK => ?_) AllReadyJ.nil
          refine step_append_lies _ rfl (.tmp 21) (.tmp 24) 25 rfl (r3 + 1) 45 ic (.agg #[.string ByteArray.empty, .int .i64 0, .int .i64 0, .slice none 0 0]) 4 56 Tryz.underlying25 hi hz0 hz1 hz2 rfl (by decide) (.slice af lf.length cf) lf.length (rtsC lf) (by simp [Act.eval]) (O8.alloc _) ⟨w8.heap.size, 0, none⟩ 1 1 (rvC (rv, .slice q5 rv.code.length d5)) (by simp [Act.eval]) rfl CN (by intro u hu; simp [rvC] at hu; rcases hu with rfl | rfl | rfl | rfl <;> rfl) (by omega) (by unfold maxLen; omega) (by omega) (by simp; omega) _ rfl ?_
          intro g9 c9 w9 ho9 hg9 _ _
          have m9 : Mv w8 w9 (fun j => (Value.slice af lf.length cf).ownBlock = some j) := ((Mv.refl w8 (fun j => (Value.slice af lf.length cf).ownBlock = some j)).alloc _).grown hg9 (fun g _ e => e)
          have L9b := L8.grow m9 (fun j e => (O8.lt j e).1)
          have CA := (row2 L9b.2.1).2
          have ZA : ∀ q, w9.frozen? ⟨r3, q, none⟩ = false := fun q => frozen_of_row w9 r3 q _ 27 L9b.2.1
          have Q9 := m9.own Q8 (fun g e1 e2 => own_types O8 Q8 (by decide) g e2 e1)
          have S9 : SysOwn (r3 + 1) w9 ls := S8.mv m9 (fun jj h1 h2 p hp vv hvv hb eS => by
            obtain ⟨⟨t1, t2, t3, t4, t5⟩, -⟩ := S8.1 p hp
            have bt := fun {e s n : Nat} {v : Value} {xs : List Value} (h1 : w8.ownsRow (r3 + 1) e s v n xs) (h2 : 45 ≠ e) => own_types O8 h1 h2 jj
            simp only [List.mem_cons, List.not_mem_nil, or_false] at hvv
            rcases hvv with rfl | rfl | rfl | rfl | rfl
            · exact bt t1 (by decide) eS hb
            · exact bt t2 (by decide) eS hb
            · exact bt t3 (by decide) eS hb
            · exact bt t4 (by decide) eS hb
            · exact bt t5 (by decide) eS hb)
          have N9 : RtsOwn (r3 + 1) w9 (lf ++ [(rv, .slice q5 rv.code.length d5)]) := N8.mv m9 (fun p hp jj h1 hb eS => own_types O8 (N8.1 p hp) (by decide) jj eS hb)
          refine hK.out _ _ (fun _ _ => CA) ?_
          clear hK K
          try simp only [Act.put, List.setIfInBounds_toArray, List.set_cons_zero, List.set_cons_succ]
          refine' wpAnyJ_takeW (i := 6) (oi := { dst := some 26, op := Go.Op.fieldAddr 27 (Go.Operand.tmp 3) 1, type := 0, pos := "bytes.go:79", after := #[{ on := 0, ground := Go.Ground.phase }, { on := 1, ground := Go.Ground.phase }, { on := 2, ground := Go.Ground.phase }, { on := 3, ground := Go.Ground.phase }, { on := 4, ground := Go.Ground.phase }, { on := 5, ground := Go.Ground.phase }], guard := none }) (v := _) rfl (by kernel_rfl) (by kernel_rfl) (by kernel_rfl) (fun _ _ _ h => h) (Or.inl ⟨by rfl, ?hyj34⟩) ?rej34
          case hyj34 => (intro W hSw; (try dsimp only at hSw); go_simp; try with_reducible rfl)
          try simp only [Act.put, List.setIfInBounds_toArray, List.set_cons_zero, List.set_cons_succ]
          refine wpAnyJ_ready (rs := [7]) (by kernel_rfl) (by simp) ?_
          refine AllReadyJ.cons (o := { dst := none, op := Go.Op.store 25 (Go.Operand.tmp 26) (Go.Operand.tmp 25), type := 0, pos := "bytes.go:79", after := #[{ on := 6, ground := Go.Ground.data }, { on := 5, ground := Go.Ground.data }, { on := 5, ground := Go.Ground.chain }, { on := 0, ground := Go.Ground.phase }, { on := 1, ground := Go.Ground.phase }, { on := 2, ground := Go.Ground.phase }, { on := 3, ground := Go.Ground.phase }, { on := 4, ground := Go.Ground.phase }, { on := 5, ground := Go.Ground.phase }], guard := none }) rfl (fun K hK => ?_) AllReadyJ.nil
          go_simp
          refine hK.out _ _ (fun h => absurd h (by decide)) ?_
          clear hK K
          try simp only [Act.put, List.setIfInBounds_toArray, List.set_cons_zero, List.set_cons_succ]
          refine wpAnyJ_done (by kernel_rfl) ?_ _
          obtain ⟨ne, hne⟩ : ∃ x : Rt × Value, x = (rv, .slice q5 rv.code.length d5) := ⟨_, rfl⟩
          rw [← hne] at ho9 N9 X8
          have ef : ne.1 = rv := by rw [hne]
          have el : (lf ++ [ne]).length = lf.length + 1 := by simp
          have mz := (Mv.refl w9 (fun j => j = r3)).set (g := r3) rfl 1 (.slice (some ⟨g9, 0, none⟩) (lf.length + 1) c9)
          have L10 := hide (L9b.set (i := 1) (v := .slice (some ⟨g9, 0, none⟩) (lf.length + 1) c9) rfl)
          have O10 : Hid ((w9.setCell ⟨r3, 1, none⟩ (.slice (some ⟨g9, 0, none⟩) (lf.length + 1) c9)).ownsRow (r3 + 1) 45 4 (.slice (some ⟨g9, 0, none⟩) (lf.length + 1) c9) (lf ++ [ne]).length (rtsC (lf ++ [ne]))) := by
            unfold Hid
            rw [el, rtsC_snoc]
            exact mz.own ho9 (fun g e1 e2 => by have := (ho9.lt g e1).1; omega)
          have Q10 := hide (mz.own Q9 (fun g e1 e2 => by have := (Q9.lt g e1).1; omega))
          have S10 := hide (S9.mv mz (fun jj h1 _ _ _ _ _ _ e => by omega))
          have N10 := hide (N9.mv mz (fun _ _ jj h1 _ e => by omega))
          have X10 := hide X8
          have HD2 : Hid ((lf ++ [ne]).length = i + 1) := by unfold Hid; rw [el, hdn.out]
          have HV3 : Hid (v.fns = (lf ++ [ne]).map Prod.fst ++ rtsL b (m2 - (i + 1)) st2) := by unfold Hid; rw [HV2.out, List.map_append, List.map_singleton, ef]
          clear ho9 hg9 m9 L9b CA ZA L8 O8 C8 CB hL0 hO0 hS0 hF0 hOS S8 F8 N8 N9 S9 Q8 Q9 X8 mz el ef hne CN so8 HV2
          go_wp2_with fail
          go_roundw
          case rel => exact ⟨i + 1, st2, lf ++ [ne], _, by go_num, by omega, HD2.out, HX2.out, HV3.out, Q10.out, O10.out, S10.out, N10.out, X10.out, L10.out⟩
          case measure => simp [intOf]; omega
        · obtain rfl : i = m2 := by omega
          obtain rfl : x = st := by rw [hx.out, Nat.sub_self]; rfl
          have hv2 : v.fns = lf.map Prod.fst := by rw [hv.out, Nat.sub_self, rtsL, List.append_nil]
          have HV2 := hide hv2
          obtain ⟨a0, a1⟩ := row2 hlp.out.2.1
          obtain ⟨q0, q1⟩ := row2 hlp.out.1
          have z : ∀ q, wr.frozen? ⟨r2, q, none⟩ = false := fun q => frozen_of_row wr r2 q _ 27 hlp.out.1
          have hkB := hlp.out.2.2.1.1
          have mz := ((Mv.refl wr (fun j => j = r2)).set (g := r2) rfl 0 (.slice ao ls.length c)).set (g := r2) rfl 1 (.slice af lf.length cf)
          have F : Hid (((wr.setCell ⟨r2, 0, none⟩ (.slice ao ls.length c)).setCell ⟨r2, 1, none⟩ (.slice af lf.length cf)).heap[r2]? = some (.cells #[.slice ao ls.length c, .slice af lf.length cf] 27 (0, 0))) := heap_setCell_same _ r2 1 _ 27 _ (heap_setCell_same wr r2 0 _ 27 _ hlp.out.1)
          have F2 := hide (hlp.out.2.2.1.mv mz (fun j e => by omega))
          have F3 := hide (hlp.out.2.2.2.1.trans mz (fun j hj e => by omega))
          have G1 := hide (own_lower (mz.own howS.out (fun g e1 e2 => by have := (howS.out.lt g e1).1; omega)) (show W.heap.size ≤ r3 + 1 by omega))
          have G2 := hide (own_lower (mz.own howF.out (fun g e1 e2 => by have := (howF.out.lt g e1).1; omega)) (show W.heap.size ≤ r3 + 1 by omega))
          have G3 := hide ((hsS.out.mv mz (fun jj h1 _ _ _ _ _ _ e => by omega)).lower (show W.heap.size ≤ r3 + 1 by omega))
          have g4 := hsF.out.mv mz (fun _ _ jj h1 _ e => by omega)
          have G4 : Hid (RtsOwn W.heap.size ((wr.setCell ⟨r2, 0, none⟩ (.slice ao ls.length c)).setCell ⟨r2, 1, none⟩ (.slice af lf.length cf)) lf) := ⟨fun p hp => own_lower (g4.1 p hp) (show W.heap.size ≤ r3 + 1 by omega), g4.2⟩
          clear hx hv hv2 mz g4
          go_wp2_with fail
          exact bodyPost_ret (res_pg1 rfl rfl F.out) rfl ⟨_, _, rfl, ⟨ls, lf, HVS.out, HV2.out, G1.out, G2.out, G3.out, G4.out, hcr.out⟩, F2.out, F3.out⟩
end
end Go.Proofs.YtpolajoephjdhaaGreatDoor
