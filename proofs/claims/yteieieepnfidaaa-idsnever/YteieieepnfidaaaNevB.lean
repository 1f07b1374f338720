/-
  IdsNever's walk: one is given back, or taken.
-/
import Derived.Test.YteieieepnfidaaaNevA
namespace Go.Proofs.Yteieieepnfidaaa
open Go.RowKit
set_option maxHeartbeats 20000000 in
set_option maxRecDepth 1000000 in
theorem never_if (w w4 : World) {n i g g1 o1 na ca c9 c10 : Nat} {ao9 ao10 : Option Addr} {gs fr : List Nat} {alive all : List (Nat × Nat)} {x : Int} {b : Bool} {s0 s2 s3 s4 s5 s8 s12 s13 s14 s15 s16 s17 s18 s19 s20 s21 s22 s23 s24 s25 s26 s27 s28 s29 s30 s31 s32 s33 s34 s35 s36 s37 s38 s39 s40 s41 s42 s43 s44 s45 s46 s47 s48 s49 s50 s51 s52 s53 s54 s55 s56 s57 s58 s59 s60 s61 s62 s63 s64 s65 s66 s68 s69 s70 s71 s72 s73 s74 s75 s76 s77 s78 s79 s80 s81 s82 s83 s84 s85 s86 s87 s88 s89 s90 s91 s92 s93 s94 s95 s96 s97 s98 s99 s100 s101 s102 s103 s104 s105 s106 s107 s108 s109 s110 s111 s112 s113 s114 s115 s116 s117 s118 s119 s120 s121 s122 s123 s124 s125 s126 s127 s128 s129 s130 s131 s132 s133 s134 s135 s136 s137 s138 s139 s140 s141 s142 s143 s144 s145 s146 s147 s148 s149 s150 s151 s152 s153 s154 s155 s156 s157 s158 s159 s160 s161 s162 s163 s164 s165 s166 s167 s168 s169 s170 s171 s172 s173 s174 s175 s176 s177 s178 s179 s180 s181 s182 s183 s184 s185 s186 s187 s188 s189 s190 s191 s192 s193 s194 s195 s196 s197 s198 s199 s200 s201 s202 s203 s204 s205 s206 s207 s208 s209 s210 s211 s212 s213 s214 s215 s216 s217 s218 s219 s220 s221 s222 s223 s224 s225 s226 s227 s228 s229 s230 s231 s232 s233 s234 s235 s236 s237 s238 s239 s240 s241 s242 s243 s244 s245 s246 s247 s248 s249 s250 s251 s252 s253 s254 s255 s256 s257 s258 s259 s260 s261 s262 : Value} {Q : Exit → Act → World → Prop}
    (hc : w4.cell? ⟨g1, o1 + i, none⟩ = some (.int .i64 x)) (hx : -9223372036854775808 ≤ x ∧ x ≤ 9223372036854775807) (t1 : (i : Int) < (na : Int)) (hlt4 : i < 400) (hn2 : n ≤ 12) (_ha1 : na ≤ ca) (_ha2 : ca ≤ 9223372036854775807) (h91 : alive.length ≤ c9) (h92 : c9 ≤ 9223372036854775807) (h101 : all.length ≤ c10) (h102 : c10 ≤ 9223372036854775807)
    (HV1 : Hid (Inv w.heap.size n i (.slice ao9 alive.length c9) (.slice ao10 all.length c10) g gs fr alive all w4)) (HB : Hid (Below w.heap.size w w4)) (hb : b = true → 0 < alive.length)
    (hQ : ∀ (u4 u12 u13 u14 u15 u16 u17 u18 u68 u69 u70 u71 u72 u73 u74 u75 u76 u77 u78 u79 u80 u81 u82 u83 u84 u85 u86 u87 u88 u89 u90 u91 u92 u93 u94 u95 u96 u97 u98 u99 u100 u101 u102 u103 u104 u105 u106 u107 u108 u109 u110 u111 u112 u113 u114 u115 u116 u117 u118 u119 u120 u121 u122 u123 u124 u125 u126 u127 u128 u129 u130 u131 u132 u133 u134 u135 u136 u137 u138 u139 u140 u141 u142 v9 v10 : Value) (wx : World), Hid (∃ x1 x2 x3 x4, Inv w.heap.size n (i + 1) v9 v10 g x1 x2 x3 x4 wx) ∧ Hid (Below w.heap.size w wx) → Q .normal ⟨#[s0, .slice (some ⟨g1, o1, none⟩) na ca, s2, s3, u4, s5, .int .i64 (n : Int), .pointer (some ⟨g, 0, none⟩), s8, v9, v10, .int .i64 (i : Int), u12, u13, u14, u15, u16, u17, u18, s19, s20, s21, s22, s23, s24, s25, s26, s27, s28, s29, s30, s31, s32, s33, s34, s35, s36, s37, s38, s39, s40, s41, s42, s43, s44, s45, s46, s47, s48, s49, s50, s51, s52, s53, s54, s55, s56, s57, s58, s59, s60, s61, s62, s63, s64, s65, s66, .bool b, u68, u69, u70, u71, u72, u73, u74, u75, u76, u77, u78, u79, u80, u81, u82, u83, u84, u85, u86, u87, u88, u89, u90, u91, u92, u93, u94, u95, u96, u97, u98, u99, u100, u101, u102, u103, u104, u105, u106, u107, u108, u109, u110, u111, u112, u113, u114, u115, u116, u117, u118, u119, u120, u121, u122, u123, u124, u125, u126, u127, u128, u129, u130, u131, u132, u133, u134, u135, u136, u137, u138, u139, u140, u141, u142, s143, s144, s145, s146, s147, s148, s149, s150, s151, s152, s153, s154, s155, s156, s157, s158, s159, s160, s161, s162, s163, s164, s165, s166, s167, s168, s169, s170, s171, s172, s173, s174, s175, s176, s177, s178, s179, s180, s181, s182, s183, s184, s185, s186, s187, s188, s189, s190, s191, s192, s193, s194, s195, s196, s197, s198, s199, s200, s201, s202, s203, s204, s205, s206, s207, s208, s209, s210, s211, s212, s213, s214, s215, s216, s217, s218, s219, s220, s221, s222, s223, s224, s225, s226, s227, s228, s229, s230, s231, s232, s233, s234, s235, s236, s237, s238, s239, s240, s241, s242, s243, s244, s245, s246, s247, s248, s249, s250, s251, s252, s253, s254, s255, s256, s257, s258, s259, s260, s261, s262], []⟩ wx) :
    Code.wp Try.prog ifCode Q ⟨#[s0, .slice (some ⟨g1, o1, none⟩) na ca, s2, s3, s4, s5, .int .i64 (n : Int), .pointer (some ⟨g, 0, none⟩), s8, .slice ao9 alive.length c9, .slice ao10 all.length c10, .int .i64 (i : Int), s12, s13, s14, s15, s16, s17, s18, s19, s20, s21, s22, s23, s24, s25, s26, s27, s28, s29, s30, s31, s32, s33, s34, s35, s36, s37, s38, s39, s40, s41, s42, s43, s44, s45, s46, s47, s48, s49, s50, s51, s52, s53, s54, s55, s56, s57, s58, s59, s60, s61, s62, s63, s64, s65, s66, .bool b, s68, s69, s70, s71, s72, s73, s74, s75, s76, s77, s78, s79, s80, s81, s82, s83, s84, s85, s86, s87, s88, s89, s90, s91, s92, s93, s94, s95, s96, s97, s98, s99, s100, s101, s102, s103, s104, s105, s106, s107, s108, s109, s110, s111, s112, s113, s114, s115, s116, s117, s118, s119, s120, s121, s122, s123, s124, s125, s126, s127, s128, s129, s130, s131, s132, s133, s134, s135, s136, s137, s138, s139, s140, s141, s142, s143, s144, s145, s146, s147, s148, s149, s150, s151, s152, s153, s154, s155, s156, s157, s158, s159, s160, s161, s162, s163, s164, s165, s166, s167, s168, s169, s170, s171, s172, s173, s174, s175, s176, s177, s178, s179, s180, s181, s182, s183, s184, s185, s186, s187, s188, s189, s190, s191, s192, s193, s194, s195, s196, s197, s198, s199, s200, s201, s202, s203, s204, s205, s206, s207, s208, s209, s210, s211, s212, s213, s214, s215, s216, s217, s218, s219, s220, s221, s222, s223, s224, s225, s226, s227, s228, s229, s230, s231, s232, s233, s234, s235, s236, s237, s238, s239, s240, s241, s242, s243, s244, s245, s246, s247, s248, s249, s250, s251, s252, s253, s254, s255, s256, s257, s258, s259, s260, s261, s262], []⟩ w4 := by
  conv => arg 2; whnf
  refine Code.wp_mono NoPanic.imp ?_
  cases b with
  | true =>
    have hal := hb rfl
    clear hb
    obtain ⟨k, hk⟩ : ∃ k, k = pk (x.tdiv 2) alive.length := ⟨_, rfl⟩
    have hkl : k < alive.length := hk ▸ pk_lt _ hal
    have HPK : Hid (Calls Try.prog 11 #[.int .i64 (x.tdiv 2), .int .i64 (alive.length : Int)] w4 fun e w' => e = .returned (.int .i64 (k : Int)) ∧ w' = w4) := by
      have := pick_any (x.tdiv 2) alive.length w4 (tdiv2 hx).1 (tdiv2 hx).2 hal (by omega)
      rw [← hk] at this
      exact this
    clear hk
    go_wp2_with fail
    refine HPK.out.mono ?_
    rintro e w5 ⟨rfl, rfl⟩
    obtain ⟨ga, c9', ee, -, -⟩ := HV1.out.2.1.form hal
    simp only [Value.slice.injEq] at ee
    obtain ⟨rfl, -, rfl⟩ := ee
    obtain ⟨e1, e2⟩ := HV1.out.2.1.at k hkl
    have t4 : (k : Int) < (alive.length : Int) := by omega
    have HG := hide (inv_give HV1.out (by omega) hkl)
    unfold ev at HG
    clear HPK
    go_wp2_with fail
    refine HG.out.mono ?_
    rintro e w6 ⟨rfl, H6, c60, c61⟩
    have hst : ∃ S, Pl w6 S g n gs (fr ++ [alive[k].1]) := by obtain ⟨S, h, -⟩ := H6.out.1; exact ⟨S, h⟩
    obtain ⟨S6, hs6⟩ := hst
    have HG2 := hide (give_stale _ _ hs6 H6.out.2.2.2.2)
    clear hs6 HG
    go_wp2_with fail
    refine HG2.out.mono ?_
    rintro e w7 ⟨rfl, hb7⟩
    have H7 : Hid (Pf w.heap.size (N2 (.slice (some ⟨ga, 0, none⟩) alive.length c9) (.slice ao10 all.length c10)) w7 g n gs (fr ++ [alive[k].1]) ∧ Ew w7 (.slice (some ⟨ga, 0, none⟩) alive.length c9) alive ∧ Ew w7 (.slice ao10 all.length c10) all ∧ Below w.heap.size w w7) := ⟨H6.out.1.later hb7, H6.out.2.1.later hb7, H6.out.2.2.1.later hb7, (HB.out.trans H6.out.2.2.2.1).trans (hb7.mono (HB.out.trans H6.out.2.2.2.1).size)⟩
    have hlen : alive.length ≤ 1000000 := by
      have := HV1.out.2.2.2.2.2.len
      have := lx_le gs fr
      have := H7.out.1.ok.2.2.1
      omega
    have t5 : (k : Int) ≤ (c9 : Int) := by omega
    have t6 : (k : Int) + 1 ≤ (alive.length : Int) := by omega
    have HNV := hide (HV1.out.2.2.2.2.2.give HV1.out.1.ok (by omega) k hkl).1
    have K : Hid (∀ (v' : Value) (W' : World), Ew W' v' (alive.take k ++ alive.drop (k + 1)) → w7.drew.grownBy W' (some ga) → (v'.ownBlock = some ga ∨ v'.ownBlock = some w7.heap.size) → (∃ x1 x2 x3 x4, Inv w.heap.size n (i + 1) v' (.slice ao10 all.length c10) g x1 x2 x3 x4 W') ∧ Below w.heap.size w W') := fun v' W' q1 q2 q3 => by
      obtain ⟨r1, r2, r3, r4⟩ := H7.out
      obtain ⟨z1, z2, z3, z4, z5⟩ := turn_first (r1.later (below_drew w7)) (r3.later (below_drew w7)) HV1.out.2.2.2.1 HV1.out.2.2.2.2.1 q2 q1 q3
      exact ⟨⟨gs, _, _, all, z1, z2, z3, z4, z5, HNV.out⟩, (below_on r4 (below_drew w7)).grown q2 (Nat.le_trans HB.out.size (by have := r4.size; have := H6.out.2.2.2.1.size; have := hb7.size; simp; omega)) (fun k e => HV1.out.2.2.2.2.1 k (.inl e))⟩
    have t7 : IntKind.i64.wrap ((k : Int) + 1) = (k : Int) + 1 := by rw [IntKind.wrap_i64]; omega
    have t8 : (0 : Int) ≤ (k : Int) + 1 := by omega
    have t9 : ((k : Int) + 1).toNat = k + 1 := by omega
    have t10 : (k : Int) + 1 ≤ (c9 : Int) := by omega
    have CUT := hide ((H7.out.2.1.later (below_drew w7)).cut (Nat.le_of_lt hkl))
    have NEWS : Hid (∀ j u, (ec (alive.drop (k + 1)))[j]? = some u → w7.drew.cell? ((⟨ga, (k + 1) * 2, none⟩ : Addr).add j) = some u) := fun j u hj => by
      rw [WideShapes.add_plain]
      rw [ec_drop, List.getElem?_drop] at hj
      exact H7.out.2.1.cells _ _ hj
    clear H6 HG2 hb7 c60 c61 e1 e2
    go_upto_region 18 with fail
    by_cases hc9 : c9 = k + 1
    · have t11 : (k : Int) ≤ (k : Int) + 1 := by omega
      have hd : alive.drop (k + 1) = [] := List.drop_eq_nil_of_le (by omega)
      have hnl : alive.length - (k + 1) = 0 := by omega
      go_region_law (refine step_append_ew _ rfl (.tmp 95) (.tmp 99) rfl (.slice (some ⟨ga, 0, none⟩) k k) (alive.take k) (by simp [Act.eval, Act.put]) CUT.out ⟨ga, 0, none⟩ 0 (c9 - (k + 1)) (alive.drop (k + 1)) (by simp [Act.eval, Act.put, hc9]) (by rw [hd]; rfl) (by rw [hd]; intro j u hj; simp [ec] at hj) (by rw [List.length_take]; omega) ?_; intro v' W' q1 q2 q3; obtain ⟨z1, z2⟩ := K.out v' W' q1 q2 q3; have Z1 := hide z1; have Z2 := hide z2; clear q1 q2 q3 z1 z2)
      all_goals
        go_wp2_with fail
        refine hQ _ _ _ _ _ _ _ _ _ _ _ _ _ _ _ _ _ _ _ _ _ _ _ _ _ _ _ _ _ _ _ _ _ _ _ _ _ _ _ _ _ _ _ _ _ _ _ _ _ _ _ _ _ _ _ _ _ _ _ _ _ _ _ _ _ _ _ _ _ _ _ _ _ _ _ _ _ _ _ _ _ _ _ _ _ _ ?_
        exact ⟨Z1, Z2⟩
    · go_region_law (refine step_append_ew _ rfl (.tmp 95) (.tmp 99) rfl (.slice (some ⟨ga, 0, none⟩) k k) (alive.take k) (by simp [Act.eval, Act.put]) CUT.out ⟨ga, (k + 1) * 2, none⟩ (alive.length - (k + 1)) (c9 - (k + 1)) (alive.drop (k + 1)) (by simp [Act.eval, Act.put]) (by simp) NEWS.out (by rw [List.length_take]; omega) ?_; intro v' W' q1 q2 q3; obtain ⟨z1, z2⟩ := K.out v' W' q1 q2 q3; have Z1 := hide z1; have Z2 := hide z2; clear q1 q2 q3 z1 z2)
      all_goals
        go_wp2_with fail
        refine hQ _ _ _ _ _ _ _ _ _ _ _ _ _ _ _ _ _ _ _ _ _ _ _ _ _ _ _ _ _ _ _ _ _ _ _ _ _ _ _ _ _ _ _ _ _ _ _ _ _ _ _ _ _ _ _ _ _ _ _ _ _ _ _ _ _ _ _ _ _ _ _ _ _ _ _ _ _ _ _ _ _ _ _ _ _ _ ?_
        exact ⟨Z1, Z2⟩
  | false =>
    clear hb
    have HT := hide (inv_take HV1.out (by omega))
    go_wp2_with fail
    refine HT.out.mono ?_
    rintro e w5 ⟨hb5, hcase⟩
    clear HT
    rcases hcase with ⟨p, rfl, hln, hpa, H5⟩ | ⟨rfl, hln, H5⟩
    · skip
      obtain ⟨pa, pb⟩ := p
      have t3 : ((alive.length : Int) == (n : Int)) = false := by rw [beq_eq_false_iff_ne]; omega
      obtain ⟨gs', fr', q1, q2, q3, q4⟩ := H5.out
      have hlen : alive.length ≤ 1000 ∧ all.length ≤ 1000 := by
        have y1 := q4.len
        have y2 := lx_le gs' fr'
        have y3 := q1.ok.2.2.1
        have y4 := q4.2.2.2.2
        rw [List.length_append, List.length_singleton] at y1 y4
        omega
      obtain ⟨m1, m2⟩ := hlen
      have hba := below_alloc w5 (.cells #[.int .i64 (pa : Int), .int .i64 (pb : Int)] 41)
      have H6 : Hid (Pf w.heap.size (N2 (.slice ao9 alive.length c9) (.slice ao10 all.length c10)) (w5.alloc (.cells #[.int .i64 (pa : Int), .int .i64 (pb : Int)] 41)) g n gs' fr' ∧ Ew (w5.alloc (.cells #[.int .i64 (pa : Int), .int .i64 (pb : Int)] 41)) (.slice ao9 alive.length c9) alive ∧ Ew (w5.alloc (.cells #[.int .i64 (pa : Int), .int .i64 (pb : Int)] 41)) (.slice ao10 all.length c10) all) := ⟨q1.later hba, q2.later hba, q3.later hba⟩
      have HNV := hide q4
      have HB6 := hide (below_on (HB.out.trans hb5.out) hba)
      have VX : Hid (Vx (w5.alloc (.cells #[.int .i64 (pa : Int), .int .i64 (pb : Int)] 41)) w5.heap.size (pa, pb)) := Vx.mk w5 (pa, pb)
      have HFN := hide q1.fenced
      clear H5 q1 q2 q3 q4 hba hb5
      unfold ev
      go_upto_block 2 with fail
      obtain ⟨w6, hw6⟩ : ∃ X, X = w5.alloc (.cells #[.int .i64 (pa : Int), .int .i64 (pb : Int)] 41) := ⟨_, rfl⟩
      have hbx : ∀ k, (Value.slice ao10 all.length c10).ownBlock = some k ∨ (Value.slice ao9 alive.length c9).ownBlock = some k → k ≠ w5.heap.size := fun k e => by
        have hq1 : ∀ k, N2 (.slice ao9 alive.length c9) (.slice ao10 all.length c10) k → k < w5.heap.size := HFN.out
        have := hq1 k e.symm
        omega
      rw [← hw6] at H6 HB6 VX ⊢
      have HBX := hide hbx
      clear hw6 hbx HFN
      go_wp2_with fail
      go_loopw [18] (fun v18 wr => ∃ k : Nat, k ≤ all.length ∧ v18 = .int .i64 (k : Int) ∧ Hid (Below w6.heap.size w6 wr)) (fun v18 _ => all.length - (intOf v18).toNat)
      case atStart => exact ⟨0, Nat.zero_le _, rfl, Below.refl _ _⟩
      case round =>
        obtain ⟨k, hk, rfl, HBL⟩ := hrel
        by_cases hkl : k < all.length
        · have t4 : (k : Int) < (all.length : Int) := by omega
          have hea := H6.out.2.2.later HBL.out
          obtain ⟨gb, c10', ee, -, -⟩ := hea.form (by omega)
          simp only [Value.slice.injEq] at ee
          obtain ⟨rfl, -, rfl⟩ := ee
          obtain ⟨e1, e2⟩ := hea.at k hkl
          obtain ⟨e3, e4⟩ := (show Vx wr w5.heap.size (pa, pb) from (HBL.out.block _ VX.out.lt).trans VX.out).cell
          have hne : ¬ ((all[k]).1 = pa ∧ (all[k]).2 = pb) := fun h => hpa (by
            have : all[k] = (pa, pb) := Prod.ext h.1 h.2
            rw [← this]
            exact List.getElem_mem hkl)
          generalize all[k] = q at e1 e2 hne
          obtain ⟨qa, qb⟩ := q
          simp only at e1 e2 e3 e4 hne
          clear hea
          by_cases hqa : qa = pa
          · have hqb : ¬ qb = pb := fun h => hne ⟨hqa, h⟩
            subst hqa
            clear hne
            go_wp2_with fail
            go_quiet (fail)
            go_wp2_with fail
            go_roundw
            case rel => exact ⟨k + 1, by omega, by go_num, below_on HBL.out (below_drawn _ _)⟩
            case measure => simp [intOf]; omega
          · clear hne
            go_wp2_with fail
            go_quiet (fail)
            go_wp2_with fail
            go_roundw
            case rel => exact ⟨k + 1, by omega, by go_num, below_on HBL.out (below_drawn _ _)⟩
            case measure => simp [intOf]; omega
        · obtain rfl : k = all.length := by omega
          have t4 : ¬ (all.length : Int) < (all.length : Int) := by omega
          obtain ⟨e3, e4⟩ := (show Vx wr w5.heap.size (pa, pb) from (HBL.out.block _ VX.out.lt).trans VX.out).cell
          simp only at e3 e4
          have hba := below_alloc wr (.cells #[.int .i64 (pa : Int), .int .i64 (pb : Int)] 41)
          have hbo := below_on HBL.out hba
          have H7 : Hid (Pf w.heap.size (N2 (.slice ao9 alive.length c9) (.slice ao10 all.length c10)) (wr.alloc (.cells #[.int .i64 (pa : Int), .int .i64 (pb : Int)] 41)) g n gs' fr' ∧ Ew (wr.alloc (.cells #[.int .i64 (pa : Int), .int .i64 (pb : Int)] 41)) (.slice ao9 alive.length c9) alive ∧ Ew (wr.alloc (.cells #[.int .i64 (pa : Int), .int .i64 (pb : Int)] 41)) (.slice ao10 all.length c10) all) := ⟨H6.out.1.later hbo, H6.out.2.1.later hbo, H6.out.2.2.later hbo⟩
          have HB7 := hide (below_on HB6.out hbo)
          have VX7 : Hid (Vx (wr.alloc (.cells #[.int .i64 (pa : Int), .int .i64 (pb : Int)] 41)) w5.heap.size (pa, pb)) := (hbo.block _ VX.out.lt).trans VX.out
          clear hba hbo H6 HB6 VX HBL
          go_wp2_with (at_builtin; refine wpList_append_ew _ rfl _ _ rfl _ all rfl H7.out.2.2 ⟨wr.heap.size, 0, none⟩ 1 1 [(pa, pb)] rfl rfl ?c1 (by omega) ?_)
          case c1 =>
            intro j u hj
            match j, hj with
            | 0, hj => simp [ec] at hj; subst hj; simp
            | 1, hj => simp [ec] at hj; subst hj; simp
          intro v' w7 z1 z2 z3
          obtain ⟨y1, y2, y3, y4, y5⟩ := turn_second H7.out.1 H7.out.2.1 HV1.out.2.2.2.1 HV1.out.2.2.2.2.1 z2 z1 (by simpa using z3)
          have hb8 : Below w.heap.size w w7 := HB7.out.grown z2 (Nat.le_trans HB7.out.size (Nat.le_refl _)) (fun k e => HV1.out.2.2.2.2.1 k (.inr e))
          obtain ⟨e5, e6⟩ := (show Vx w7 w5.heap.size (pa, pb) from (z2.block _ VX7.out.lt (fun e => HBX.out _ (.inl e.symm) rfl)).trans VX7.out).cell
          simp only at e5 e6
          have H8 : Hid (Pf w.heap.size (N2 (.slice ao9 alive.length c9) v') (w7.alloc (.cells #[.int .i64 (pa : Int), .int .i64 (pb : Int)] 41)) g n gs' fr' ∧ Ew (w7.alloc (.cells #[.int .i64 (pa : Int), .int .i64 (pb : Int)] 41)) (.slice ao9 alive.length c9) alive ∧ Ew (w7.alloc (.cells #[.int .i64 (pa : Int), .int .i64 (pb : Int)] 41)) v' (all ++ [(pa, pb)]) ∧ Ap (.slice ao9 alive.length c9) v' ∧ (∀ k, N2 (.slice ao9 alive.length c9) v' k → w.heap.size ≤ k)) := ⟨y1.later (below_alloc w7 _), y2.later (below_alloc w7 _), y3.later (below_alloc w7 _), y4, y5⟩
          have HB8 := hide (below_on hb8 (below_alloc w7 (.cells #[.int .i64 (pa : Int), .int .i64 (pb : Int)] 41)))
          clear z1 z2 z3 y1 y2 y3 y4 y5 hb8 H7 HB7 VX7 e3 e4
          go_wp2_with (at_builtin; refine wpList_append_ew _ rfl _ _ rfl _ alive rfl H8.out.2.1 ⟨w7.heap.size, 0, none⟩ 1 1 [(pa, pb)] rfl rfl ?d1 (by omega) ?_)
          case d1 =>
            intro j u hj
            match j, hj with
            | 0, hj => simp [ec] at hj; subst hj; simp [Addr.add]
            | 1, hj => simp [ec] at hj; subst hj; simp [Addr.add]
          intro v'' w8 z1 z2 z3
          obtain ⟨y1, y2, y3, y4, y5⟩ := turn_first H8.out.1 H8.out.2.2.1 H8.out.2.2.2.1 H8.out.2.2.2.2 z2 z1 (by simpa using z3)
          have HB9 := hide (HB8.out.grown z2 HB8.out.size (fun k e => H8.out.2.2.2.2 k (.inl e)))
          have H9 : Hid (∃ x1 x2 x3 x4, Inv w.heap.size n (i + 1) v'' v' g x1 x2 x3 x4 w8) := ⟨_, _, _, _, y1, y2, y3, y4, y5, HNV.out⟩
          clear z1 z2 z3 y1 y2 y3 y4 y5 H8 HB8 e5 e6
          go_wp2_with fail
          refine hQ _ _ _ _ _ _ _ _ _ _ _ _ _ _ _ _ _ _ _ _ _ _ _ _ _ _ _ _ _ _ _ _ _ _ _ _ _ _ _ _ _ _ _ _ _ _ _ _ _ _ _ _ _ _ _ _ _ _ _ _ _ _ _ _ _ _ _ _ _ _ _ _ _ _ _ _ _ _ _ _ _ _ _ _ _ _ ?_
          exact ⟨H9, HB9⟩
    · skip
      have t3 : ((alive.length : Int) == (n : Int)) = true := by rw [hln]; simp
      have H6 : Hid (∃ x1 x2 x3 x4, Inv w.heap.size n (i + 1) (.slice ao9 alive.length c9) (.slice ao10 all.length c10) g x1 x2 x3 x4 (w5.alloc (.cells #[.int .i64 0, .int .i64 0] 41))) := by
        obtain ⟨x1, x2, x3, x4, hv⟩ := H5.out
        exact ⟨x1, x2, x3, x4, hv.later (below_alloc w5 _)⟩
      have HB6 := hide (below_on (HB.out.trans hb5.out) (below_alloc w5 (.cells #[.int .i64 0, .int .i64 0] 41)))
      clear hln H5 hb5
      unfold ev
      go_wp2_with fail
      refine hQ _ _ _ _ _ _ _ _ _ _ _ _ _ _ _ _ _ _ _ _ _ _ _ _ _ _ _ _ _ _ _ _ _ _ _ _ _ _ _ _ _ _ _ _ _ _ _ _ _ _ _ _ _ _ _ _ _ _ _ _ _ _ _ _ _ _ _ _ _ _ _ _ _ _ _ _ _ _ _ _ _ _ _ _ _ _ ?_
      exact ⟨H6, HB6⟩
end Go.Proofs.Yteieieepnfidaaa
