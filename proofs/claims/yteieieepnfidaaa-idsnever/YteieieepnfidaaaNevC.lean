/-
  IdsNever's walk: all that live.
-/
import Derived.Test.YteieieepnfidaaaNevA
namespace Go.Proofs.Yteieieepnfidaaa
open Go.RowKit
set_option maxHeartbeats 20000000 in
set_option maxRecDepth 1000000 in
theorem never_rest (w w5 : World) {n i g : Nat} {v9 v10 : Value} {s0 s1 s2 s3 s4 s5 s8 s12 s13 s14 s15 s16 s17 s18 s19 s20 s21 s22 s23 s24 s25 s26 s27 s28 s29 s30 s31 s32 s33 s34 s35 s36 s37 s38 s39 s40 s41 s42 s43 s44 s45 s46 s47 s48 s49 s50 s51 s52 s53 s54 s55 s56 s57 s58 s59 s60 s61 s62 s63 s64 s65 s66 s67 s68 s69 s70 s71 s72 s73 s74 s75 s76 s77 s78 s79 s80 s81 s82 s83 s84 s85 s86 s87 s88 s89 s90 s91 s92 s93 s94 s95 s96 s97 s98 s99 s100 s101 s102 s103 s104 s105 s106 s107 s108 s109 s110 s111 s112 s113 s114 s115 s116 s117 s118 s119 s120 s121 s122 s123 s124 s125 s126 s127 s128 s129 s130 s131 s132 s133 s134 s135 s136 s137 s138 s139 s140 s141 s142 s143 s144 s145 s146 s147 s148 s149 s150 s151 s152 s153 s154 s155 s156 s157 s158 s159 s160 s161 s162 s163 s164 s165 s166 s167 s168 s169 s170 s171 s172 s173 s174 s175 s176 s177 s178 s179 s180 s181 s182 s183 s184 s185 s186 s187 s188 s189 s190 s191 s192 s193 s194 s195 s196 s197 s198 s199 s200 s201 s202 s203 s204 s205 s206 s207 s208 s209 s210 s211 s212 s213 s214 s215 s216 s217 s218 s219 s220 s221 s222 s223 s224 s225 s226 s227 s228 s229 s230 s231 s232 s233 s234 s235 s236 s237 s238 s239 s240 s241 s242 s243 s244 s245 s246 s247 s248 s249 s250 s251 s252 s253 s254 s255 s256 s257 s258 s259 s260 s261 s262 : Value} {Q : Exit → Act → World → Prop}
    (_hn1 : 1 ≤ n) (_hn2 : n ≤ 12) (hlt4 : i < 400) (HV2 : Hid (∃ x1 x2 x3 x4, Inv w.heap.size n (i + 1) v9 v10 g x1 x2 x3 x4 w5)) (HB2 : Hid (Below w.heap.size w w5))
    (hQ : ∀ (u4 u19 u20 u21 u22 u23 u24 u25 u26 u27 u28 u143 u144 u145 u146 u147 u148 u149 u150 u151 u152 u153 u154 u155 u156 u157 u158 u159 u160 u161 u162 u163 u164 u165 u166 u167 u168 u169 u170 u171 u172 u173 u174 u175 u176 u177 u178 u179 u180 u181 u182 u183 u184 u185 u186 u187 u188 u189 u190 u191 u192 u193 u194 u195 u196 u197 u198 u199 u200 u201 u202 u203 u204 u205 u206 u207 u208 u209 u210 u211 u212 u213 u214 u215 u216 u217 u218 u219 u220 u221 u222 u223 u224 u225 u226 u227 u228 u229 u230 : Value) (g' : Nat) (wx : World), (Hid (∃ x1 x2 x3 x4, Inv w.heap.size n (i + 1) v9 v10 g' x1 x2 x3 x4 wx) ∧ Hid (Below w.heap.size w wx)) → Q .normal ⟨#[s0, s1, s2, s3, u4, s5, .int .i64 (n : Int), .pointer (some ⟨g', 0, none⟩), s8, v9, v10, .int .i64 (i : Int), s12, s13, s14, s15, s16, s17, s18, u19, u20, u21, u22, u23, u24, u25, u26, u27, u28, s29, s30, s31, s32, s33, s34, s35, s36, s37, s38, s39, s40, s41, s42, s43, s44, s45, s46, s47, s48, s49, s50, s51, s52, s53, s54, s55, s56, s57, s58, s59, s60, s61, s62, s63, s64, s65, s66, s67, s68, s69, s70, s71, s72, s73, s74, s75, s76, s77, s78, s79, s80, s81, s82, s83, s84, s85, s86, s87, s88, s89, s90, s91, s92, s93, s94, s95, s96, s97, s98, s99, s100, s101, s102, s103, s104, s105, s106, s107, s108, s109, s110, s111, s112, s113, s114, s115, s116, s117, s118, s119, s120, s121, s122, s123, s124, s125, s126, s127, s128, s129, s130, s131, s132, s133, s134, s135, s136, s137, s138, s139, s140, s141, s142, u143, u144, u145, u146, u147, u148, u149, u150, u151, u152, u153, u154, u155, u156, u157, u158, u159, u160, u161, u162, u163, u164, u165, u166, u167, u168, u169, u170, u171, u172, u173, u174, u175, u176, u177, u178, u179, u180, u181, u182, u183, u184, u185, u186, u187, u188, u189, u190, u191, u192, u193, u194, u195, u196, u197, u198, u199, u200, u201, u202, u203, u204, u205, u206, u207, u208, u209, u210, u211, u212, u213, u214, u215, u216, u217, u218, u219, u220, u221, u222, u223, u224, u225, u226, u227, u228, u229, u230, s231, s232, s233, s234, s235, s236, s237, s238, s239, s240, s241, s242, s243, s244, s245, s246, s247, s248, s249, s250, s251, s252, s253, s254, s255, s256, s257, s258, s259, s260, s261, s262], []⟩ wx) :
    Code.wp Try.prog restCode Q ⟨#[s0, s1, s2, s3, s4, s5, .int .i64 (n : Int), .pointer (some ⟨g, 0, none⟩), s8, v9, v10, .int .i64 (i : Int), s12, s13, s14, s15, s16, s17, s18, s19, s20, s21, s22, s23, s24, s25, s26, s27, s28, s29, s30, s31, s32, s33, s34, s35, s36, s37, s38, s39, s40, s41, s42, s43, s44, s45, s46, s47, s48, s49, s50, s51, s52, s53, s54, s55, s56, s57, s58, s59, s60, s61, s62, s63, s64, s65, s66, s67, s68, s69, s70, s71, s72, s73, s74, s75, s76, s77, s78, s79, s80, s81, s82, s83, s84, s85, s86, s87, s88, s89, s90, s91, s92, s93, s94, s95, s96, s97, s98, s99, s100, s101, s102, s103, s104, s105, s106, s107, s108, s109, s110, s111, s112, s113, s114, s115, s116, s117, s118, s119, s120, s121, s122, s123, s124, s125, s126, s127, s128, s129, s130, s131, s132, s133, s134, s135, s136, s137, s138, s139, s140, s141, s142, s143, s144, s145, s146, s147, s148, s149, s150, s151, s152, s153, s154, s155, s156, s157, s158, s159, s160, s161, s162, s163, s164, s165, s166, s167, s168, s169, s170, s171, s172, s173, s174, s175, s176, s177, s178, s179, s180, s181, s182, s183, s184, s185, s186, s187, s188, s189, s190, s191, s192, s193, s194, s195, s196, s197, s198, s199, s200, s201, s202, s203, s204, s205, s206, s207, s208, s209, s210, s211, s212, s213, s214, s215, s216, s217, s218, s219, s220, s221, s222, s223, s224, s225, s226, s227, s228, s229, s230, s231, s232, s233, s234, s235, s236, s237, s238, s239, s240, s241, s242, s243, s244, s245, s246, s247, s248, s249, s250, s251, s252, s253, s254, s255, s256, s257, s258, s259, s260, s261, s262], []⟩ w5 := by
  conv => arg 2; whnf
  refine Code.wp_mono NoPanic.imp ?_
  obtain ⟨gs, fr, alive, all, hv⟩ := HV2.out
  obtain ⟨ao9, c9, rfl, h91, h92⟩ := hv.2.1.len
  obtain ⟨ao10, c10, rfl, h101, h102⟩ := hv.2.2.1.len
  have HV1 := hide hv
  have hst : ∃ S, Pl w5 S g n gs fr := by obtain ⟨S, h, -⟩ := hv.1; exact ⟨S, h⟩
  obtain ⟨S5, hs5⟩ := hst
  have HAL := hide (all_any hs5)
  have HLN : Hid ((Lx gs fr).length = alive.length) := hv.2.2.2.2.2.len.symm
  clear hv HV2 hs5
  go_wp2_with fail
  refine HAL.out.mono ?_
  rintro e w6 ⟨v19, rfl, ho6, hb6⟩
  have HE6 : Hid (Ew w6 v19 (Lx gs fr)) := own_ew ho6
  obtain ⟨ao19, c19, rfl, h191, h192⟩ := HE6.out.len
  have HV6 := hide (HV1.out.later hb6)
  have HB6 := hide (below_on HB2.out hb6)
  have t3 : (((Lx gs fr).length : Int) == (alive.length : Int)) = true := by rw [HLN.out]; simp
  have t4 : (((Lx gs fr).length : Int) != (alive.length : Int)) = false := by rw [HLN.out]; simp
  clear HAL ho6 hb6 HV1 HB2
  go_upto_block 4 with fail
  have HQ : Hid (∀ k (hk : k < (Lx gs fr).length), isOn gs fr ((Lx gs fr)[k].1 : Int) = true ∧ atOf gs fr ((Lx gs fr)[k].1 : Int) = (Lx gs fr)[k] ∧ livesOf gs fr ((Lx gs fr)[k].1 : Int) ((Lx gs fr)[k].2 : Int) = true ∧ (Lx gs fr)[k].1 < n ∧ lastOf (Lx gs fr) k < ((Lx gs fr)[k].1 : Int) ∧ lastOf (Lx gs fr) (k + 1) = ((Lx gs fr)[k].1 : Int)) := fun k hk => lx_all HV6.out.1.ok k hk
  generalize Lx gs fr = L at *
  go_wp2_with fail
  go_loopw [20, 21] (fun v20 v21 wr => ∃ k : Nat, k ≤ L.length ∧ v21 = .int .i64 (k : Int) ∧ v20 = .int .i64 (lastOf L k) ∧ Hid (Below w6.heap.size w6 wr)) (fun _ v21 _ => L.length - (intOf v21).toNat)
  case atStart => exact ⟨0, Nat.zero_le _, rfl, rfl, Below.refl _ _⟩
  case round =>
    obtain ⟨k, hk, rfl, rfl, HBL⟩ := hrel
    by_cases hkl : k < L.length
    · have t5 : (k : Int) < (L.length : Int) := by omega
      have hel := HE6.out.later HBL.out
      obtain ⟨gl, c19', ee, -, -⟩ := hel.form (by omega)
      simp only [Value.slice.injEq] at ee
      obtain ⟨rfl, -, rfl⟩ := ee
      obtain ⟨e1, e2⟩ := hel.at k hkl
      obtain ⟨f1, f2, f3, f4, f5, f6⟩ := HQ.out k hkl
      have CL : Hid (∀ W, Below wr.heap.size wr W → W.cell? ⟨gl, k * 2, none⟩ = some (.int .i64 (L[k].1 : Int)) ∧ W.cell? ⟨gl, k * 2 + 1, none⟩ = some (.int .i64 (L[k].2 : Int))) := fun W hW => (hel.later hW).at k hkl
      generalize L[k] = q at *
      obtain ⟨qa, qb⟩ := q
      simp only at e1 e2 f1 f2 f3 f4 f5 f6 CL
      obtain ⟨lst, hlst⟩ : ∃ x, x = lastOf L k := ⟨_, rfl⟩
      rw [← hlst] at f5 ⊢
      have hst : ∃ S, Pl wr S g n gs fr := by obtain ⟨S, h, -⟩ := HV6.out.1.later HBL.out; exact ⟨S, h⟩
      obtain ⟨S7, hs7⟩ := hst
      have HAT := hide (at_any (qa : Int) hs7)
      rw [f1, f2] at HAT
      simp only [ev, if_true] at HAT
      have HLV : Hid (∀ W, Below wr.heap.size wr W → Calls Try.prog 16 #[.pointer (some ⟨g, 0, none⟩), .agg #[.int .i64 (qa : Int), .int .i64 (qb : Int)]] W fun e w' => e = .returned (.bool true) ∧ Below W.heap.size W w') := fun W hW => by
        have := lives_any (qa : Int) (qb : Int) (hs7.later hW)
        rw [f3] at this
        exact this
      have d1 : decide ((qa : Int) ≤ lst) = false := by simp; omega
      have d2 : decide ((n : Int) ≤ (qa : Int)) = false := by simp; omega
      have d3 : decide (n ≤ qa) = false := by simp; omega
      have F6 := hide f6
      clear hel f1 f2 f3 f4 f5 f6 hs7 hlst
      go_wp2_with fail
      refine HAT.out.mono ?_
      rintro e w7 ⟨rfl, hb7⟩
      have u1 : ∀ o, (w7.alloc o).cell? ⟨gl, k * 2, none⟩ = some (.int .i64 (qa : Int)) := fun o => (CL.out _ (below_on hb7 (below_alloc w7 o))).1
      have u2 : ∀ o, (w7.alloc o).cell? ⟨gl, k * 2 + 1, none⟩ = some (.int .i64 (qb : Int)) := fun o => (CL.out _ (below_on hb7 (below_alloc w7 o))).2
      have HLW := hide (HLV.out _ (below_on hb7 (below_alloc w7 (.cells #[.int .i64 (qa : Int), .int .i64 (qb : Int)] 41))))
      have HB7 := hide hb7
      clear HAT HLV hb7 e1 e2
      go_wp2_with fail
      refine HLW.out.mono ?_
      rintro e w8 ⟨rfl, hb8⟩
      have hb9 := below_on (below_on HB7.out (below_alloc w7 _)) hb8
      obtain ⟨e1, e2⟩ := CL.out w8 hb9
      obtain ⟨e3, e4⟩ := (show Vx w8 w7.heap.size (qa, qb) from (hb8.block _ (by simp)).trans (Vx.mk w7 (qa, qb))).cell
      simp only at e3 e4
      have HB9 := hide (below_on HBL.out hb9)
      clear HLW hb8 hb9 HB7 u1 u2 CL
      go_wp2_with fail
      go_quiet (fail)
      go_wp2_with fail
      go_roundw
      case rel => exact ⟨k + 1, by omega, by go_num, by rw [F6.out], below_on HB9.out (below_drawn _ _)⟩
      case measure => simp [intOf]; omega
    · obtain rfl : k = L.length := by omega
      have t5 : ¬ (L.length : Int) < (L.length : Int) := by omega
      have HV7 := hide (HV6.out.later HBL.out)
      have HB7 := hide (below_on HB6.out HBL.out)
      clear HV6 HB6 HBL HE6 HQ
      by_cases h7 : i % 7 = 3
      · have z1 : ((i : Int) % 7 == 3) = true := by simp; omega
        have hst : ∃ S, Pl wr S g n gs fr := by obtain ⟨S, h, -⟩ := HV7.out.1; exact ⟨S, h⟩
        obtain ⟨S7, hs7⟩ := hst
        have HST := hide (state_any hs7)
        clear hs7
        go_wp2_with fail
        refine HST.out.mono ?_
        rintro e w7 ⟨x1, x2, rfl, ho1, ho2, -, hb7⟩
        have HFR := hide (from_any (n : Int) x1 x2 (up gs) (up fr) w7 (own_is ho1) (own_is ho2))
        have HV8 := hide (HV7.out.later hb7)
        have HB8 := hide (below_on HB7.out hb7)
        clear HST ho1 ho2 hb7 HV7 HB7
        go_wp2_with fail
        refine HFR.out.mono ?_
        rintro e w8 ⟨hb8, hgot⟩
        rcases hgot with ⟨-, hno⟩ | ⟨g', n', gs', fr', rfl, hn', hg', hf', hp'⟩
        · exact absurd ⟨n, gs, fr, rfl, rfl, rfl, HV8.out.1.ok⟩ hno
        · obtain rfl : n = n' := by omega
          obtain rfl := up_inj hg'
          obtain rfl := up_inj hf'
          have HV9 : Hid (∃ y1 y2 y3 y4, Inv w.heap.size n (i + 1) (.slice ao9 alive.length c9) (.slice ao10 all.length c10) g' y1 y2 y3 y4 w8) := ⟨_, _, _, _, inv_from HV8.out hb8 hp'⟩
          have HB9 := hide (below_on HB8.out hb8)
          clear HFR HV8 HB8 hb8 hp' hg' hf' hn'
          go_wp2_with fail
          refine hQ _ _ _ _ _ _ _ _ _ _ _ _ _ _ _ _ _ _ _ _ _ _ _ _ _ _ _ _ _ _ _ _ _ _ _ _ _ _ _ _ _ _ _ _ _ _ _ _ _ _ _ _ _ _ _ _ _ _ _ _ _ _ _ _ _ _ _ _ _ _ _ _ _ _ _ _ _ _ _ _ _ _ _ _ _ _ _ _ _ _ _ _ _ _ _ _ _ _ _ _ _ ?_
          exact ⟨HV9, HB9⟩
      · have z1 : ((i : Int) % 7 == 3) = false := by rw [beq_eq_false_iff_ne]; omega
        have HV9 : Hid (∃ y1 y2 y3 y4, Inv w.heap.size n (i + 1) (.slice ao9 alive.length c9) (.slice ao10 all.length c10) g y1 y2 y3 y4 wr) := ⟨_, _, _, _, HV7.out⟩
        clear HV7
        go_wp2_with fail
        refine hQ _ _ _ _ _ _ _ _ _ _ _ _ _ _ _ _ _ _ _ _ _ _ _ _ _ _ _ _ _ _ _ _ _ _ _ _ _ _ _ _ _ _ _ _ _ _ _ _ _ _ _ _ _ _ _ _ _ _ _ _ _ _ _ _ _ _ _ _ _ _ _ _ _ _ _ _ _ _ _ _ _ _ _ _ _ _ _ _ _ _ _ _ _ _ _ _ _ _ _ _ _ ?_
        exact ⟨HV9, HB7⟩
end Go.Proofs.Yteieieepnfidaaa
