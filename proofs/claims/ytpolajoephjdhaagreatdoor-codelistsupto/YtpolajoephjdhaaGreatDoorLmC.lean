import Derived.Test.YtpolajoephjdhaaGreatDoorLmB
import Derived.Test.YtpolajoephjdhaaGreatDoorCoR
import Derived.Test.YtpolajoephjdhaaGreatDoorLmA
import Derived.Test.YtpolajoephjdhaaGreatDoorCoK
/-
  The document's Read: what it hands back; ends of lines.
-/
namespace Go.Proofs.YtpolajoephjdhaaGreatDoor
open Go.RowKit
set_option maxRecDepth 100000
theorem results_ctt {fn : Func} {p u v : Tmp} {ty : TypeId} (h : fn.results = #[.cell p ty, .tmp u, .tmp v]) (tmps : Array Value) (P : Program) (w : World) :
    (results fn tmps).run P w = ((asAddr (tmps.getD p undef)).run P w).andThen fun a w₁ => ((loadVar ty a).run P w₁).andThen fun x w₂ => .ok (.tuple #[x, tmps.getD u undef, tmps.getD v undef]) w₂ := by
  simp only [results, h]
  simp [Sem.run_bind, Result.andThen]
theorem res_rt3 {fn : Func} {p u u' : Tmp} (hr : fn.results = #[.cell p 45, .tmp u, .tmp u']) {tmps : Array Value} {W : World} {g : Nat} {x y z t v v' : Value} (hp : tmps.getD p undef = .pointer (some ⟨g, 0, none⟩)) (hv : tmps.getD u undef = v) (hv' : tmps.getD u' undef = v') (hg : W.heap[g]? = some (.cells #[x, y, z, t] 45 (0, 0))) : (results fn tmps).run Tryz.prog W = .ok (.tuple #[.agg #[x, y, z, t], v, v']) W := by
  obtain ⟨d, hu, hd⟩ := Option.map_eq_some_iff.1 undRt
  rw [← hv, ← hv', results_ctt hr]
  have hp' : tmps[p]?.getD undef = .pointer (some ⟨g, 0, none⟩) := by simpa using hp
  simp [hp', asAddr, run_loadVar_row W g 45 45 #[x, y, z, t] (0, 0) d hg hu (by cases d <;> first | rfl | cases hd) (by kernel_rfl), Result.andThen]
/-- What the document's Read hands back. -/
def DrOut (W : World) (r : Nat ⊕ Rt) (e : Ending) (w' : World) : Prop :=
  Below W.heap.size W w' ∧ match r with
  | .inl a => e = .returned (.tuple #[.agg #[.string ⟨#[]⟩, .int .i64 0, .int .i64 0, .slice none 0 0], .int .i64 (a : Int), .int .i64 130])
  | .inr r => ∃ vc, e = .returned (.tuple #[rtV r vc, .int .i64 0, .int .i64 0]) ∧ w'.ownsRow W.heap.size 56 2 vc r.code.length (insC r.code)
/-- Where the end of a line is looked for. -/
def EnAt (L : List UInt8) (a e : Nat) : Prop := a ≤ e ∧ e ≤ L.length ∧ 10 ∉ (L.take e).drop a
theorem en_start {L : List UInt8} {a : Nat} (h : a ≤ L.length) : EnAt L a a := ⟨Nat.le_refl _, h, by rw [List.drop_eq_nil_of_le (by rw [List.length_take]; omega)]; simp⟩
theorem en_go {L : List UInt8} {a e : Nat} {c : UInt8} (h : EnAt L a e) (hc : L[e]? = some c) (hn : c ≠ 10) : EnAt L a (e + 1) := by
  obtain ⟨h1, h2, h3⟩ := h
  have hl := (List.getElem?_eq_some_iff.1 hc).1
  refine ⟨by omega, by omega, ?_⟩
  rw [take_snoc h1 hc, List.mem_append, List.mem_singleton]
  rintro (h | h)
  · exact h3 h
  · exact hn h.symm
theorem en_end {L : List UInt8} {a e : Nat} (h : EnAt L a e) (he : e = L.length) : hasC 10 (L.drop a) = false := by
  obtain ⟨h1, h2, h3⟩ := h
  subst he
  rw [List.take_length] at h3
  exact (cut_none 10 _ h3).2.2
theorem en_nl {L : List UInt8} {a e : Nat} (h : EnAt L a e) (hc : L[e]? = some 10) : bef 10 (L.drop a) = (L.take e).drop a ∧ aft 10 (L.drop a) = L.drop (e + 1) ∧ hasC 10 (L.drop a) = true := by
  obtain ⟨h1, h2, h3⟩ := h
  have hl := (List.getElem?_eq_some_iff.1 hc).1
  have e1 : L.drop a = (L.take e).drop a ++ 10 :: L.drop (e + 1) := by
    rw [drop_split h1 h2, List.drop_eq_getElem_cons hl, (List.getElem?_eq_some_iff.1 hc).2]
  rw [e1]
  exact cut_at 10 _ _ h3
end Go.Proofs.YtpolajoephjdhaaGreatDoor

/-
  The document's Read.
-/
namespace Go.Proofs.YtpolajoephjdhaaGreatDoor
open Go.RowKit
set_option maxRecDepth 100000
/-- At the head of the turns: the first line, or another one. -/
def DrAt (W wr : World) (B g tot : Nat) (L : List UInt8) (R : Nat ⊕ Rt) (ln a : Nat) : Prop :=
  (ln = 0 ∧ a = 0 ∧ wr.heap[B]? = some (.cells #[.string ⟨#[]⟩, .int .i64 0, .int .i64 0, .slice none 0 0] 45 (0, 0)) ∧ wr.heap[g]? = some (.cells #[.string ⟨#[]⟩, .int .i64 0, .int .i64 0, .slice none 0 0] 45 (0, 0)) ∧ Below W.heap.size W wr) ∨
  (0 < ln ∧ a ≤ tot ∧ ∃ f hd done vc, RdAt W wr B g tot f hd R (L.drop a) done vc ∧ done.length + 1 = ln)
theorem w4z_row {w : World} {B : Nat} {a b c d : Value} (h : w.heap[B]? = some (.cells #[a, b, c, d] 45 (0, 0))) : (w4s w B (.string ⟨#[]⟩) (.int .i64 0) (.int .i64 0) (.slice none 0 0)).heap[B]? = some (.cells #[.string ⟨#[]⟩, .int .i64 0, .int .i64 0, .slice none 0 0] 45 (0, 0)) := w4s_row _ _ _ _ h
set_option maxHeartbeats 8000000 in
theorem dread_any (s : ByteArray) (hs : s.size ≤ 1048576) (W : World) : Calls Tryz.prog 20 #[.string s] W (DrOut W (readF s.data.toList)) := by
  obtain ⟨w0, hw0⟩ : ∃ X, X = W.alloc (.cells #[.string ⟨#[]⟩, .int .i64 0, .int .i64 0, .slice none 0 0] 45) := ⟨_, rfl⟩
  obtain ⟨w1, hw1⟩ : ∃ X, X = w0.alloc (.cells #[.string ⟨#[]⟩, .int .i64 0, .int .i64 0, .slice none 0 0] 45) := ⟨_, rfl⟩
  have B0 : Below W.heap.size W w0 := hw0 ▸ below_alloc W _
  have B1 : Below w0.heap.size w0 w1 := hw1 ▸ below_alloc w0 _
  obtain ⟨B, hB⟩ : ∃ B, B = W.heap.size := ⟨_, rfl⟩
  obtain ⟨g, hg⟩ : ∃ g, g = w0.heap.size := ⟨_, rfl⟩
  have e0 : w0.heap.size = W.heap.size + 1 := by rw [hw0]; exact Array.size_push ..
  have HGB : Hid (g = B + 1) := by unfold Hid; omega
  have n0 : w0.heap[B]? = some (.cells #[.string ⟨#[]⟩, .int .i64 0, .int .i64 0, .slice none 0 0] 45 (0, 0)) := by rw [hw0, hB]; exact heap_alloc_new W _
  have n1 : w1.heap[g]? = some (.cells #[.string ⟨#[]⟩, .int .i64 0, .int .i64 0, .slice none 0 0] 45 (0, 0)) := by rw [hw1, hg]; exact heap_alloc_new w0 _
  have n2 := (B1.block B (lt_of_block n0)).trans n0
  have hBs : W.heap.size ≤ B := by omega
  obtain ⟨N, hN⟩ : ∃ N, N = s.size := ⟨_, rfl⟩
  have LN : Hid (s.data.toList.length = N) := by unfold Hid; rw [Array.length_toList, hN]; rfl
  obtain ⟨R, hR⟩ : ∃ R, R = readF s.data.toList := ⟨_, rfl⟩
  rw [← hR]
  have HR := hide hR
  have ST : Hid (DrAt W w1 B g N s.data.toList R 0 0) := .inl ⟨rfl, rfl, n2, n1, below_on B0 B1⟩
  clear hR n0 n1 n2 B0 B1
  go_enter Tryz.func20, Tryz.ntmps20
  go_upto_region 2 with fail
  rw [← e0, ← hB, ← hg, ← hw0, ← hw1]
  clear hw0 hw1 e0 hB hg
  go_wp2_with fail
  go_loopw [7, 6] (fun vl va wr => ∃ ln a : Nat, vl = .int .i64 (ln : Int) ∧ va = .int .i64 (a : Int) ∧ a ≤ N ∧ ln ≤ 2001 ∧ Hid (DrAt W wr B g N s.data.toList R ln a)) (fun _ va _ => N - (intOf va).toNat)
  case atStart => exact ⟨0, 0, rfl, rfl, by omega, by omega, ST.out⟩
  case round =>
    obtain ⟨ln, a, rfl, rfl, ha, hln, hst⟩ := hrel
    have HLN : Hid (ln ≤ 2001) := hln
    rcases hst.out with ⟨l0, a0, n1, n2, hb⟩ | ⟨hl0, -, f, hd, done, vc, hr, hdl⟩
    · have HL0 := hide l0
      have HA0 := hide a0
      have lz : ((ln : Int) == 0) = true := by rw [beq_iff_eq]; omega
      have N1 := hide n1
      have N2 := hide n2
      have K1 := hide hb
      clear n1 n2 hb hst l0 a0
      by_cases hlt : a < s.size
      · skip
        go_upto_region 6 with fail
        go_wp2_with fail
        go_loop [8] (fun ve => ∃ e : Nat, ve = .int .i64 (e : Int) ∧ e ≤ N ∧ a ≤ e ∧ Hid (EnAt s.data.toList a e)) (fun ve => N - (intOf ve).toNat)
        case atStart => exact ⟨a, rfl, by omega, by omega, en_start (by rw [LN.out]; exact ha)⟩
        case round =>
          obtain ⟨e, rfl, he, hae, hen⟩ := hrel
          by_cases hel : e < s.size
          · have hc := hide (seen_at s e hel)
            by_cases h10 : s[e] = 10
            · have n10 : ((s[e].toNat : Int) != 10) = false := by rw [h10]; rfl
              have NL := hide (en_nl hen.out (by rw [hc.out, h10]))
              have EX := hide (ext_list s a e)
              have hb1 : ((e : Int) == (s.size : Int)) = false := by rw [beq_eq_false_iff_ne]; omega
              have XS : Hid ((s.extract a e).size ≤ 1048576) := by
                unfold Hid
                rw [EX.out, bs_size, List.length_drop, List.length_take, LN.out]
                omega
              have XL : Hid ((s.extract a e).data.toList = bef 10 (s.data.toList.drop a)) := by
                unfold Hid
                rw [EX.out, toList_bs, NL.out.1]
              have J := hide (dfirst_any (s.extract a e) XS.out wr)
              rw [XL.out] at J
              have h2k : ¬ (2000 : Int) < (ln : Int) := by have := HL0.out; omega
              go_wp2_with fail
              refine J.out.mono ?_
              rintro e' w2 ⟨nm, pa, lo, rfl, hv, b2⟩
              have N3 := hide ((b2.block B (lt_of_block N1.out)).trans N1.out)
              have N4 := hide ((b2.block g (lt_of_block N2.out)).trans N2.out)
              have K2 := hide (below_on K1.out b2)
              have HV := hide hv
              obtain ⟨r0, r1, r2, r3⟩ := row4 N4.out
              have zr : ∀ q, w2.frozen? ⟨g, q, none⟩ = false := fun q => frozen_of_row w2 g q _ 45 N4.out
              clear J hv b2
              obtain ⟨w3, hw3⟩ : ∃ X, X = w4s w2 g (.string nm) (.int .i64 pa) (.int .i64 lo) (.slice none 0 0) := ⟨_, rfl⟩
              have m3 : Mv w2 w3 (fun j => j = g) := hw3 ▸ w4s_mv w2 g _ _ _ _
              have N5 := hide (m3.at N3.out (by have := HGB.out; omega))
              have N6 : Hid (w3.heap[g]? = some (.cells #[.string nm, .int .i64 pa, .int .i64 lo, .slice none 0 0] 45 (0, 0))) := by unfold Hid; rw [hw3]; exact w4s_row _ _ _ _ N4.out
              have K3 : Hid (Below W.heap.size W w3) := by unfold Hid; rw [hw3]; exact w4s_below _ _ _ _ K2.out (by have := HGB.out; omega)
              go_upto_region 17 with fail
              unfold w4s at hw3
              rw [← hw3]
              clear hw3 r0 r1 r2 r3 zr m3
              cases hok : headRd (bef 10 (s.data.toList.drop a)) with
              | false =>
                obtain ⟨q0, q1, q2, q3⟩ := row4 N5.out
                have zq : ∀ q, w3.frozen? ⟨B, q, none⟩ = false := fun q => frozen_of_row w3 B q _ 45 N5.out
                have EQ : Hid (R = .inl a) := by
                                  unfold Hid
                                  have := HA0.out
                                  subst this
                                  rw [HR.out]
                                  unfold readF
                                  rw [List.drop_zero] at hok
                                  rw [hok]
                                  simp
                go_wp2_with fail
                rw [EQ.out]
                exact bodyPost_ret (res_rt3 rfl rfl rfl rfl (w4z_row N5.out)) rfl ⟨w4s_below _ _ _ _ K3.out hBs, rfl⟩
              | true =>
                have HD := hide (HV.out hok)
                have NX : Hid (DrAt W w3 B g N s.data.toList R (ln + 1) (e + 1)) := by
                  refine .inr ⟨by omega, by omega, N, ⟨nm, pa, lo, []⟩, [], .slice none 0 0, ⟨N5.out, N6.out, ⟨rfl, .inl ⟨rfl, rfl⟩⟩, K3.out, ?_, ?_, by simp, ?_⟩, by have := HL0.out; simp; omega⟩
                  · have h1 := HA0.out
                    subst h1
                    obtain ⟨k1, k2, k3⟩ := NL.out
                    rw [List.drop_zero] at k1 k2 k3 hok HD
                    rw [HR.out]
                    unfold readF
                    rw [k3, hok, k2, HD.out, LN.out]
                    rfl
                  · rw [List.length_drop, LN.out]; omega
                  · rw [List.length_drop, LN.out]; omega
                go_wp2_with fail
                go_roundw
                case rel => exact ⟨ln + 1, e + 1, by go_num, by go_num, by omega, by have := HL0.out; omega, NX.out⟩
                case measure => simp [intOf]; omega
            · have n10 : ((s[e].toNat : Int) != 10) = true := by
                rw [bne_iff_ne]
                intro h
                exact h10 (UInt8.toNat_inj.1 (by show s[e].toNat = 10; omega))
              have NX := hide (en_go hen.out hc.out h10)
              go_wp2_with fail
              exact ⟨⟨e + 1, by go_num, by omega, by omega, NX.out⟩, by simp [intOf]; omega⟩
          · have NE := hide (en_end hen.out (by rw [LN.out]; omega))
            have hb1 : ((e : Int) == (s.size : Int)) = true := by rw [beq_iff_eq]; omega
            obtain ⟨q0, q1, q2, q3⟩ := row4 N1.out
            have zq : ∀ q, wr.frozen? ⟨B, q, none⟩ = false := fun q => frozen_of_row wr B q _ 45 N1.out
            have EQ : Hid (R = .inl a) := by
                          unfold Hid
                          have h1 := HA0.out
                          subst h1
                          rw [HR.out]
                          unfold readF
                          have h2 := NE.out
                          rw [List.drop_zero] at h2
                          rw [h2]
                          simp
            go_wp2_with fail
            rw [EQ.out]
            exact bodyPost_ret (res_rt3 rfl rfl rfl rfl (w4z_row N1.out)) rfl ⟨w4s_below _ _ _ _ K1.out hBs, rfl⟩
      · skip
        go_upto_region 6 with fail
        go_wp2_with fail
        go_loop [8] (fun ve => ∃ e : Nat, ve = .int .i64 (e : Int) ∧ e ≤ N ∧ a ≤ e ∧ Hid (EnAt s.data.toList a e)) (fun ve => N - (intOf ve).toNat)
        case atStart => exact ⟨a, rfl, by omega, by omega, en_start (by rw [LN.out]; exact ha)⟩
        case round =>
          obtain ⟨e, rfl, he, hae, hen⟩ := hrel
          have NE := hide (en_end hen.out (by rw [LN.out]; omega))
          have hel : ¬ e < s.size := by omega
          have hb1 : ((e : Int) == (s.size : Int)) = true := by rw [beq_iff_eq]; omega
          obtain ⟨q0, q1, q2, q3⟩ := row4 N1.out
          have zq : ∀ q, wr.frozen? ⟨B, q, none⟩ = false := fun q => frozen_of_row wr B q _ 45 N1.out
          have EQ : Hid (R = .inl a) := by
                      unfold Hid
                      have h1 := HA0.out
                      subst h1
                      rw [HR.out]
                      unfold readF
                      have h2 := NE.out
                      rw [List.drop_zero] at h2
                      rw [h2]
                      simp
          go_wp2_with fail
          rw [EQ.out]
          exact bodyPost_ret (res_rt3 rfl rfl rfl rfl (w4z_row N1.out)) rfl ⟨w4s_below _ _ _ _ K1.out hBs, rfl⟩
    · have HRD := hide hr
      have HDL := hide hdl
      have lz : ((ln : Int) == 0) = false := by rw [beq_eq_false_iff_ne]; omega
      clear hr hst hdl
      by_cases hlt : a < s.size
      · have RN : Hid (s.data.toList.drop a ≠ []) := fun h => by
          have := congrArg List.length h
          rw [List.length_drop, LN.out] at this
          simp at this
          omega
        go_upto_region 6 with fail
        go_wp2_with fail
        go_loop [8] (fun ve => ∃ e : Nat, ve = .int .i64 (e : Int) ∧ e ≤ N ∧ a ≤ e ∧ Hid (EnAt s.data.toList a e)) (fun ve => N - (intOf ve).toNat)
        case atStart => exact ⟨a, rfl, by omega, by omega, en_start (by rw [LN.out]; exact ha)⟩
        case round =>
          obtain ⟨e, rfl, he, hae, hen⟩ := hrel
          by_cases hel : e < s.size
          · have hc := hide (seen_at s e hel)
            by_cases h10 : s[e] = 10
            · have n10 : ((s[e].toNat : Int) != 10) = false := by rw [h10]; rfl
              have NL := hide (en_nl hen.out (by rw [hc.out, h10]))
              have EX := hide (ext_list s a e)
              have hb1 : ((e : Int) == (s.size : Int)) = false := by rw [beq_eq_false_iff_ne]; omega
              have XS : Hid ((s.extract a e).size ≤ 1048576) := by
                unfold Hid
                rw [EX.out, bs_size, List.length_drop, List.length_take, LN.out]
                omega
              have XL : Hid ((s.extract a e).data.toList = bef 10 (s.data.toList.drop a)) := by
                unfold Hid
                rw [EX.out, toList_bs, NL.out.1]
              have G0 := hide (fun h => rdC_bad (tot := N) (f := f) (k := done.length) (rest := s.data.toList.drop a) (by have := HRD.out.2.2.2.2.2.1; exact this) RN.out h)
              by_cases h2 : done.length = 2000
              · have h2k : (2000 : Int) < (ln : Int) := by have := HDL.out; omega
                obtain ⟨q0, q1, q2, q3⟩ := row4 HRD.out.1
                have zq : ∀ q, wr.frozen? ⟨B, q, none⟩ = false := fun q => frozen_of_row wr B q _ 45 HRD.out.1
                have EQ : Hid (R = .inl a) := by
                                  unfold Hid
                                  rw [HRD.out.2.2.2.2.1, G0.out (.inr (.inr h2))]
                                  show Sum.inl (N - (s.data.toList.drop a).length) = Sum.inl a
                                  rw [List.length_drop, LN.out]
                                  congr 1
                                  omega
                go_wp2_with fail
                rw [EQ.out]
                exact bodyPost_ret (res_rt3 rfl rfl rfl rfl (w4z_row HRD.out.1)) rfl ⟨w4s_below _ _ _ _ HRD.out.2.2.2.1 hBs, rfl⟩
              · have h2k : ¬ (2000 : Int) < (ln : Int) := by have := HDL.out; have := HRD.out.2.2.2.2.2.2.1; omega
                have J := hide (dinstr_any (s.extract a e) XS.out wr)
                rw [XL.out] at J
                have G1 := hide (fun h => rdC_go (tot := N) (f := f) (k := done.length) (rest := s.data.toList.drop a) HRD.out.2.2.2.2.2.1 RN.out NL.out.2.2 h h2 hd done)
                go_wp2_with fail
                refine J.out.mono ?_
                rintro e' w2 ⟨x, rfl, x1, x2, hv, b2⟩
                have HV := hide hv
                have HX := hide (And.intro x1 x2)
                obtain ⟨xo, xa⟩ := x
                unfold insV
                dsimp only
                obtain ⟨w3, hw3⟩ : ∃ X, X = w2.alloc (.cells #[.int .i64 xo, .int .i64 xa] 56) := ⟨_, rfl⟩
                have b3 : Below w2.heap.size w2 w3 := hw3 ▸ below_alloc w2 _
                obtain ⟨C, hC⟩ : ∃ C, C = w2.heap.size := ⟨_, rfl⟩
                have n3 : w3.heap[C]? = some (.cells #[.int .i64 xo, .int .i64 xa] 56 (0, 0)) := by rw [hw3, hC]; exact heap_alloc_new w2 _
                obtain ⟨d0, d1⟩ := row2 n3
                have ST3 := hide ((HRD.out.later b2).later b3)
                clear J hv x1 x2 b2 b3
                go_upto_region 15 with fail
                rw [← hw3, ← hC]
                clear hw3 hC
                obtain ⟨s1, s2, s3, s4, s5, s6, s7, s8⟩ := ST3.out
                obtain ⟨ic, hi, hz0, hz1, hz2⟩ := info_parts infoI
                obtain ⟨x0, x1, x2, x3⟩ := row4 s2
                obtain ⟨ao, c, rfl⟩ := own_len s3
                have bg := lt_of_block s2
                have S1 := hide s1
                have S2 := hide s2
                have S3 := hide s3
                have S4 := hide s4
                have S5 := hide s5
                clear s1 s2 s4 s5 n3
                go_wp2_with (at_builtin; refine wpList_append_own _ rfl _ _ 43 rfl (g + 1) 56 ic (.agg #[.int .i64 0, .int .i64 0]) 2 16 Tryz.underlying43 hi hz0 hz1 hz2 rfl (by decide) _ _ _ rfl (s3.alloc _) ⟨w3.heap.size, 0, none⟩ 1 1 [.int .i64 xo, .int .i64 xa] rfl rfl ?c1 ?c2 ?c3 ?c4 ?c5 ?_)
                case c2 => exact ⟨rfl, rfl⟩
                case c3 => unfold maxLen; omega
                case c4 => omega
                case c5 => omega
                intro v' w8 hown' hgrow _
                have hm8 := (Mv.of_below (below_alloc w3 (.cells #[.int .i64 xo, .int .i64 xa] 56)) (fun j => (Value.slice ao done.length c).ownBlock = some j)).grown hgrow (fun k _ e => e)
                have hgb := HGB.out
                have r1 : w8.heap[B]? = _ := hm8.at S1.out (fun e => by have := (S3.out.lt B e).1; omega)
                have r2 : w8.heap[g]? = _ := hm8.at S2.out (fun e => by have := (S3.out.lt g e).1; omega)
                obtain ⟨v0, v1, v2, v3⟩ := row4 r2
                have zf : ∀ q, w8.frozen? ⟨g, q, none⟩ = false := fun q => frozen_of_row w8 g q _ 45 r2
                obtain ⟨ao', c', rfl⟩ := own_len hown'
                have hb8 : Below W.heap.size W w8 := S4.out.trans (hm8.below S4.out.size (fun k e => by have := (S3.out.lt k e).1; omega))
                obtain ⟨w9, hw9⟩ : ∃ X, X = w8.setCell ⟨g, 3, none⟩ (.slice ao' (done.length + 1) c') := ⟨_, rfl⟩
                have mv : Mv w8 w9 (fun j => j = g) := by rw [hw9]; exact (Mv.refl w8 (fun j => j = g)).set (g := g) rfl 3 _
                have T1 := hide (mv.at r1 (by omega))
                have T2 : Hid (w9.heap[g]? = some (.cells #[.string hd.name, .int .i64 hd.pa, .int .i64 hd.lo, .slice ao' (done.length + 1) c'] 45 (0, 0))) := by unfold Hid; rw [hw9]; exact heap_setCell_same w8 g 3 _ 45 _ r2
                have T3 : Hid (w9.ownsRow (g + 1) 56 2 (.slice ao' (done.length + 1) c') (done ++ [(⟨xo, xa⟩ : Ins)]).length (insC (done ++ [(⟨xo, xa⟩ : Ins)]))) := by
                  unfold Hid
                  rw [show (done ++ [(⟨xo, xa⟩ : Ins)]).length = done.length + 1 by simp, insC_snoc]
                  exact mv.own hown' (fun k e1 e2 => by have := (hown'.lt k e1).1; omega)
                have T4 : Hid (Below W.heap.size W w9) := by unfold Hid; rw [hw9]; exact hb8.setCell (p := ⟨g, 3, none⟩) (by show W.heap.size ≤ g; omega) _
                clear hm8 r1 r2 hb8 hown' hgrow mv d0 d1 x0 x1 x2 x3 hgb
                go_upto_region 17 with fail
                rw [← hw9]
                clear hw9 v0 v1 v2 v3 zf
                cases hok : insRd (bef 10 (s.data.toList.drop a)) with
                | false =>
                  obtain ⟨q0, q1, q2, q3⟩ := row4 T1.out
                  have zq : ∀ q, w9.frozen? ⟨B, q, none⟩ = false := fun q => frozen_of_row w9 B q _ 45 T1.out
                  have EQ : Hid (R = .inl a) := by
                                      unfold Hid
                                      rw [S5.out, G0.out (.inr (.inl hok))]
                                      show Sum.inl (N - (s.data.toList.drop a).length) = Sum.inl a
                                      rw [List.length_drop, LN.out]
                                      congr 1
                                      omega
                  go_wp2_with fail
                  rw [EQ.out]
                  exact bodyPost_ret (res_rt3 rfl rfl rfl rfl (w4z_row T1.out)) rfl ⟨w4s_below _ _ _ _ T4.out hBs, rfl⟩
                | true =>
                  have HD := hide (HV.out hok)
                  have NX : Hid (DrAt W w9 B g N s.data.toList R (ln + 1) (e + 1)) := by
                    refine .inr ⟨by omega, by omega, f - 1, hd, done ++ [⟨xo, xa⟩], _, ⟨T1.out, T2.out, T3.out, T4.out, ?_, ?_, ?_, ?_⟩, ?_⟩
                    · rw [S5.out, G1.out hok, ← HD.out, NL.out.2.1]
                      simp
                    · rw [List.length_drop] at s6 ⊢
                      rw [LN.out] at s6 ⊢
                      omega
                    · have := HDL.out
                      simp
                      omega
                    · rw [List.length_drop, LN.out]; omega
                    · have := HDL.out
                      simp
                      omega
                  go_wp2_with fail
                  go_roundw
                  case rel => exact ⟨ln + 1, e + 1, by go_num, by go_num, by omega, by have := HDL.out; omega, NX.out⟩
                  case measure => simp [intOf]; omega
            · have n10 : ((s[e].toNat : Int) != 10) = true := by
                rw [bne_iff_ne]
                intro h
                exact h10 (UInt8.toNat_inj.1 (by show s[e].toNat = 10; omega))
              have NX := hide (en_go hen.out hc.out h10)
              go_wp2_with fail
              exact ⟨⟨e + 1, by go_num, by omega, by omega, NX.out⟩, by simp [intOf]; omega⟩
          · have NE := hide (en_end hen.out (by rw [LN.out]; omega))
            have hb1 : ((e : Int) == (s.size : Int)) = true := by rw [beq_iff_eq]; omega
            obtain ⟨q0, q1, q2, q3⟩ := row4 HRD.out.1
            have zq : ∀ q, wr.frozen? ⟨B, q, none⟩ = false := fun q => frozen_of_row wr B q _ 45 HRD.out.1
            have EQ : Hid (R = .inl a) := by
                          unfold Hid
                          rw [HRD.out.2.2.2.2.1, rdC_bad HRD.out.2.2.2.2.2.1 RN.out (.inl NE.out)]
                          show Sum.inl (N - (s.data.toList.drop a).length) = Sum.inl a
                          rw [List.length_drop, LN.out]
                          congr 1
                          omega
            go_wp2_with fail
            rw [EQ.out]
            exact bodyPost_ret (res_rt3 rfl rfl rfl rfl (w4z_row HRD.out.1)) rfl ⟨w4s_below _ _ _ _ HRD.out.2.2.2.1 hBs, rfl⟩
      · have RN : s.data.toList.drop a = [] := List.drop_eq_nil_of_le (by rw [LN.out]; omega)
        obtain ⟨s1, s2, s3, s4, s5, s6, s7, s8⟩ := HRD.out
        rw [RN, rdC_end] at s5
        obtain ⟨q0, q1, q2, q3⟩ := row4 s1
        obtain ⟨x0, x1, x2, x3⟩ := row4 s2
        obtain ⟨ao, c, rfl⟩ := own_len s3
        have zq : ∀ q, wr.frozen? ⟨B, q, none⟩ = false := fun q => frozen_of_row wr B q _ 45 s1
        have S1 := hide s1
        have S3 := hide s3
        have S4 := hide s4
        have S5 := hide s5
        clear s1 s2 s3 s4 s5
        go_wp2_with fail
        rw [S5.out]
        have mv := w4s_mv wr B (.string hd.name) (.int .i64 hd.pa) (.int .i64 hd.lo) (.slice ao done.length c)
        have hgb := HGB.out
        have ow := own_lower (mv.own S3.out (fun k e1 e2 => by have := (S3.out.lt k e1).1; omega)) (show W.heap.size ≤ g + 1 by omega)
        refine bodyPost_ret (res_rt3 rfl rfl rfl rfl (w4s_row _ _ _ _ S1.out)) rfl ⟨w4s_below _ _ _ _ S4.out hBs, _, rfl, ?_⟩
        show (w4s wr B (.string hd.name) (.int .i64 hd.pa) (.int .i64 hd.lo) (.slice ao done.length c)).ownsRow W.heap.size 56 2 (.slice ao done.length c) (done ++ []).length (insC (done ++ []))
        rw [List.append_nil]
        exact ow
end Go.Proofs.YtpolajoephjdhaaGreatDoor

/-
  The document's List.
-/
namespace Go.Proofs.YtpolajoephjdhaaGreatDoor
open Go.RowKit
set_option maxRecDepth 100000
theorem head_cat (nm : ByteArray) (pa lo : Int) : nm ++ ⟨#[32]⟩ ++ itB pa ++ ⟨#[32]⟩ ++ itB lo ++ ⟨#[10]⟩ = bs (headL nm pa lo) := by
  refine bs_ext ?_
  rw [ByteArray.data_append, Array.toList_append, toList_bs]
  rfl
set_option maxHeartbeats 4000000 in
theorem dlist_at {Q : Nat → Prop} {W : World} {n c : Nat} {ao : Option Addr} (nm : ByteArray) (pa lo : Int) (code : List Ins) (hn : n = code.length) (hc1 : n ≤ c) (hc2 : c ≤ 9223372036854775807) (h : Il Q W (.slice ao n c) code) (i1 : I6 pa) (i2 : I6 lo) (hs : nm.size ≤ 9223372036854775807) : Calls Tryz.prog 18 #[.agg #[.string nm, .int .i64 pa, .int .i64 lo, .slice ao n c]] W fun e w' => e = .returned (.string (listB ⟨nm, pa, lo, code⟩)) ∧ Below W.heap.size W w' := by
  obtain ⟨w0, hw0⟩ : ∃ X, X = W.alloc (.cells #[.string nm, .int .i64 pa, .int .i64 lo, .slice ao n c] 45) := ⟨_, rfl⟩
  have B0 : Below W.heap.size W w0 := hw0 ▸ below_alloc W _
  have n1 : w0.heap[W.heap.size]? = some (.cells #[.string nm, .int .i64 pa, .int .i64 lo, .slice ao n c] 45 (0, 0)) := by rw [hw0]; exact heap_alloc_new W _
  obtain ⟨B, hB⟩ : ∃ B, B = W.heap.size := ⟨_, rfl⟩
  rw [← hB] at n1
  have AT : Hid (∀ w', Below w0.heap.size w0 w' → w'.cell? ⟨B, 0, none⟩ = some (.string nm) ∧ w'.cell? ⟨B, 1, none⟩ = some (.int .i64 pa) ∧ w'.cell? ⟨B, 2, none⟩ = some (.int .i64 lo) ∧ w'.cell? ⟨B, 3, none⟩ = some (.slice ao n c)) := fun w' hb => row4 ((hb.block B (lt_of_block n1)).trans n1)
  have J := hide (dlisted_at nm pa lo code hn hc1 hc2 (h.later B0) hs)
  obtain ⟨te, hte⟩ : ∃ t, t = listB ⟨nm, pa, lo, code⟩ := ⟨_, rfl⟩
  rw [← hte]
  have TE := hide hte
  have HB := hide B0
  have H := hide (h.later B0)
  have HN := hide hn
  have I1 := hide i1
  have I2 := hide i2
  have H6 := hide h.i6
  have HO : Hid (lstOk ⟨nm, pa, lo, code⟩ = true → nm.size ≤ 16 ∧ code.length ≤ 2000) := fun h => ⟨(rtOk_name (lstOk_rt h)).2, rtOk_code (lstOk_rt h)⟩
  clear hte n1 B0 h hn i1 i2
  unfold listB listL at TE
  dsimp only at TE
  generalize lstOk ⟨nm, pa, lo, code⟩ = q at *
  go_enter Tryz.func18, Tryz.ntmps18
  go_upto_region 1 with fail
  rw [← hw0, ← hB]
  clear hw0 hB
  obtain ⟨c0, c1, c2, c3⟩ := AT.out w0 (Below.refl _ _)
  cases q with
  | false =>
    obtain rfl : te = ⟨#[]⟩ := by rw [TE.out]; rfl
    go_wp2_with fail
    refine J.out.mono ?_
    rintro e w2 ⟨rfl, hb2⟩
    go_wp2_with fail
    go_ret
    exact ⟨rfl, below_on HB.out hb2⟩
  | true =>
    obtain ⟨hz, hl⟩ := HO.out rfl
    rw [if_pos rfl] at TE
    go_wp2_with fail
    refine J.out.mono ?_
    rintro e w2 ⟨rfl, hb2⟩
    have X2 := hide hb2
    clear c0 c1 c2 c3 hb2 J
    obtain ⟨c0, c1, c2, c3⟩ := AT.out w2 X2.out
    have z1 := itB_size I1.out
    have z2 := itB_size I2.out
    have k1 := cat_any nm ⟨#[32]⟩ (by show _ + 1 ≤ _; omega)
    have k2 := cat_any (nm ++ ⟨#[32]⟩) (itB pa) (by rw [ByteArray.size_append]; show _ + 1 + _ ≤ _; omega)
    have k3 := cat_any (nm ++ ⟨#[32]⟩ ++ itB pa) ⟨#[32]⟩ (by rw [ByteArray.size_append, ByteArray.size_append]; show _ + 1 + _ + 1 ≤ _; omega)
    have k4 := cat_any (nm ++ ⟨#[32]⟩ ++ itB pa ++ ⟨#[32]⟩) (itB lo) (by rw [ByteArray.size_append, ByteArray.size_append, ByteArray.size_append]; show _ + 1 + _ + 1 + _ ≤ _; omega)
    have k5 := cat_any (nm ++ ⟨#[32]⟩ ++ itB pa ++ ⟨#[32]⟩ ++ itB lo) ⟨#[10]⟩ (by rw [ByteArray.size_append, ByteArray.size_append, ByteArray.size_append, ByteArray.size_append]; show _ + 1 + _ + 1 + _ + 1 ≤ _; omega)
    go_upto_region 4 with fail
    go_quiet (exact Calls.quiet_of_same (decimal_any _ (by first | exact I1.out | exact I2.out) _))
    obtain ⟨w3, hw3⟩ : ∃ X, X = w2.drewN nq := ⟨_, rfl⟩
    have X3 : Hid (Below w0.heap.size w0 w3) := by unfold Hid; rw [hw3]; exact below_on X2.out (below_drawn w2 nq)
    rw [← hw3, head_cat]
    have SZ : Hid (∀ k, (headL nm pa lo ++ codeL (code.take k)).length ≤ 57000) := fun k => by
      have a1 := headL_len (nm := nm) I1.out I2.out
      have a2 := codeL_len (l := code.take k) (fun i hi => H6.out i (List.mem_of_mem_take hi))
      have a3 : (code.take k).length ≤ 2000 := by rw [List.length_take]; omega
      rw [List.length_append]
      omega
    have E0 : Hid (bs (headL nm pa lo) = bs (headL nm pa lo ++ codeL (code.take 0))) := by
      unfold Hid
      simp [codeL]
    obtain ⟨Y0, hY0⟩ : ∃ Y, Y = bs (headL nm pa lo) := ⟨_, rfl⟩
    rw [← hY0]
    have HY0 : Hid (Y0 = bs (headL nm pa lo ++ codeL (code.take 0))) := hY0.trans E0.out
    clear hw3 X2 c0 c1 c2 c3 k1 k2 k3 k4 k5 z1 z2 E0 hY0
    go_wp2_with fail
    go_loopw [5, 4] (fun v5 v4 wr => ∃ k : Nat, v5 = .int .i64 (k : Int) ∧ v4 = .string (bs (headL nm pa lo ++ codeL (code.take k))) ∧ k ≤ n ∧ Hid (Below w0.heap.size w0 wr)) (fun v5 _ _ => n - (intOf v5).toNat)
    case atStart => exact ⟨0, rfl, by rw [HY0.out], by omega, X3.out⟩
    case round =>
      obtain ⟨k, rfl, rfl, hk, hb⟩ := hrel
      obtain ⟨c0, c1, c2, c3⟩ := AT.out wr hb.out
      by_cases hlt : k < n
      · have hlt' : k < code.length := by rw [← HN.out]; exact hlt
        obtain ⟨g, o, rfl, -, d0, d1, -, -⟩ := (H.out.later hb.out).nth hlt'
        have NT : Hid (∀ w', Below wr.heap.size wr w' → w'.cell? ⟨g, o + k * 2, none⟩ = some (.int .i64 code[k].op) ∧ w'.cell? ⟨g, o + k * 2 + 1, none⟩ = some (.int .i64 code[k].a)) := fun w' hb' => ⟨(hb'.cell (World.block_lt_of_cell? wr _ d0)).trans d0, (hb'.cell (World.block_lt_of_cell? wr _ d1)).trans d1⟩
        have EN : Hid (headL nm pa lo ++ codeL (code.take (k + 1)) = headL nm pa lo ++ codeL (code.take k) ++ lineL code[k]) := by unfold Hid; rw [codeL_snoc hlt', List.append_assoc]
        have SX := SZ.out k
        have I6A := hide (H6.out code[k] (List.getElem_mem hlt'))
        have LB := hide (lineB_list code[k])
        obtain ⟨X', hX'⟩ : ∃ X', X' = headL nm pa lo ++ codeL (code.take (k + 1)) := ⟨_, rfl⟩
        rw [← hX'] at EN
        have HX' := hide hX'
        clear hX'
        generalize headL nm pa lo ++ codeL (code.take k) = X at *
        generalize code[k] = x at *
        obtain ⟨xo, xa⟩ := x
        unfold lineL at EN
        rw [LB.out] at EN
        dsimp only at EN d0 d1 NT I6A
        clear LB
        have i1 := hide (dname_any xo wr)
        have i2 := hide (fun w => dhasa_any xo w)
        have hwd := wd_size (opk xo)
        have hit := itB_size I6A.out
        have hbx := bs_size X
        have WL : Hid (bs (wdL (opk xo)) = wd (opk xo)) := rfl
        generalize hwk : wd (opk xo) = wk at *
        generalize hwl : wdL (opk xo) = wl at *
        generalize numb (opk xo) = has at *
        have q1 := cat_any (bs X) wk (by omega)
        have q2 := cat_any (bs X ++ wk) ⟨#[32]⟩ (by rw [ByteArray.size_append]; show _ + _ + 1 ≤ _; omega)
        have q3 := cat_any (bs X ++ wk ++ ⟨#[32]⟩) (itB xa) (by rw [ByteArray.size_append, ByteArray.size_append]; show _ + _ + 1 + _ ≤ _; omega)
        have q4 := cat_any (bs X ++ wk ++ ⟨#[32]⟩ ++ itB xa) ⟨#[10]⟩ (by rw [ByteArray.size_append, ByteArray.size_append, ByteArray.size_append]; show _ + _ + 1 + _ + 1 ≤ _; omega)
        have q5 := cat_any (bs X ++ wk) ⟨#[10]⟩ (by rw [ByteArray.size_append]; show _ + _ + 1 ≤ _; omega)
        have J := hide (fun w => decimal_any xa I6A.out w)
        go_wp2_with fail
        refine i1.out.mono ?_
        rintro e w4 ⟨rfl, b4⟩
        have X4 := hide b4
        obtain ⟨e0, e1⟩ := NT.out w4 X4.out
        have Y4 := hide (below_on hb.out X4.out)
        clear c0 c1 c2 c3 d0 d1 i1 b4
        obtain ⟨c0, c1, c2, c3⟩ := AT.out w4 Y4.out
        go_wp2_with fail
        refine (i2.out _).mono ?_
        rintro e w5 ⟨rfl, b5⟩
        have X5 := hide (below_on X4.out b5)
        have Y5 := hide (below_on hb.out X5.out)
        clear c0 c1 c2 c3 e0 e1 i2 b5
        obtain ⟨e0, e1⟩ := NT.out w5 X5.out
        obtain ⟨c0, c1, c2, c3⟩ := AT.out w5 Y5.out
        cases has with
        | true =>
          rw [if_pos rfl] at EN
          have FIN : Hid (bs X ++ wk ++ ⟨#[32]⟩ ++ itB xa ++ ⟨#[10]⟩ = bs X') := by
            unfold Hid
            rw [EN.out, ← WL.out]
            refine bs_ext ?_
            simp only [ByteArray.data_append, Array.toList_append, toList_bs, itB]
            simp
          go_wp2_with fail
          refine (J.out _).mono ?_
          rintro e w6 ⟨rfl, rfl⟩
          go_wp2_with fail
          go_roundw
          case rel => exact ⟨k + 1, by go_num, by rw [← HX'.out, FIN.out], by omega, Y5.out⟩
          case measure => simp [intOf]; omega
        | false =>
          rw [if_neg (by simp)] at EN
          have FIN : Hid (bs X ++ wk ++ ⟨#[10]⟩ = bs X') := by
            unfold Hid
            rw [EN.out, ← WL.out]
            refine bs_ext ?_
            simp only [ByteArray.data_append, Array.toList_append, toList_bs]
            simp
          go_wp2_with fail
          go_roundw
          case rel => exact ⟨k + 1, by go_num, by rw [← HX'.out, FIN.out], by omega, Y5.out⟩
          case measure => simp [intOf]; omega
      · obtain rfl : k = n := by omega
        have FIN : Hid (bs (headL nm pa lo ++ codeL (code.take k)) = te) := by
          unfold Hid
          rw [TE.out, HN.out, List.take_length]
          rfl
        rw [FIN.out]
        go_wp2_with fail
        go_ret
        exact ⟨rfl, below_on HB.out hb.out⟩
theorem dlist_any {Q : Nat → Prop} {W : World} {vc : Value} (r : Rt) (h : Il Q W vc r.code) (i1 : I6 r.pa) (i2 : I6 r.lo) (hs : r.name.size ≤ 9223372036854775807) : Calls Tryz.prog 18 #[rtV r vc] W fun e w' => e = .returned (.string (listB r)) ∧ Below W.heap.size W w' := by
  obtain ⟨ao, c, rfl, hc1, hc2⟩ := h.at
  exact dlist_at r.name r.pa r.lo r.code rfl hc1 hc2 h i1 i2 hs
end Go.Proofs.YtpolajoephjdhaaGreatDoor
