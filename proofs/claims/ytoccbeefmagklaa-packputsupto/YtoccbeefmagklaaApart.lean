/-
  The law's apart (function 30): two rows that are owned, written over and grown, read so.
-/
import Derived.Test.YtoccbeefmagklaaLawRow
import Derived.Test.YtoccbeefmagklaaKeep
import Derived.OneCell
namespace Go.Proofs.Ytoccbeefmagklaa
open Go.RowKit

/-- A row of one number alone, owned. -/
def Full (w : World) (B : Nat) (v : Value) (m : Nat) (z : Int) : Prop := w.ownsRow B 2 1 v m (List.replicate m (Value.int .i64 z))
theorem Full.form {w : World} {B m : Nat} {v : Value} {z : Int} (h : Full w B v m z) (hm : 0 < m) : ∃ g cap, v = .slice (some ⟨g, 0, none⟩) m cap ∧ B ≤ g ∧ m ≤ cap ∧ cap ≤ maxLen ∧ ∀ j, j < m → w.cell? ⟨g, j, none⟩ = some (.int .i64 z) := by
  have h' := h
  rcases h.2 with ⟨_, h0⟩ | ⟨g, cap, cur, rfl, hb, hg, hnc, hcm, hcs, htake⟩
  · omega
  · refine ⟨g, cap, rfl, hb, hnc, hcm, fun j hj => ?_⟩
    rw [World.ownsRow.cellAt h' j (by omega)]
    simp [hj]
theorem Full.snoc {w : World} {B m : Nat} {v : Value} {z : Int} (h : w.ownsRow B 2 1 v (m + 1) (List.replicate m (Value.int .i64 z) ++ [Value.int .i64 z])) : Full w B v (m + 1) z := by
  unfold Full
  rw [List.replicate_succ']
  exact h
theorem fill_step (zs : List Int) (z : Int) {i : Nat} (h : i < zs.length) : ((List.replicate i z ++ zs.drop i).map (Value.int .i64)).set i (.int .i64 z) = (List.replicate (i + 1) z ++ zs.drop (i + 1)).map (Value.int .i64) := by
  rw [← List.map_set, List.set_append_right _ _ (by simp), List.length_replicate, Nat.sub_self, List.drop_eq_getElem_cons h, List.set_cons_zero, List.replicate_succ']
  simp
theorem fill_all {w : World} {B : Nat} {v : Value} {zs : List Int} {z : Int} (h : w.ownsRow B 2 1 v zs.length ((List.replicate zs.length z ++ zs.drop zs.length).map (Value.int .i64))) : Full w B v zs.length z := by
  unfold Full
  simpa using h
theorem Full.cells {w : World} {B m g j : Nat} {v : Value} {z : Int} (h : Full w B v m z) (hg : v.ownBlock = some g) (hj : j < m) : w.cell? ⟨g, j, none⟩ = some (.int .i64 z) := by
  obtain ⟨g', cap, rfl, _, _, _, hc⟩ := h.form (by omega)
  have : g' = g := by simpa [Value.ownBlock] using hg
  subst this
  exact hc j hj
/-- The first so many read so. -/
def Read7 (w : World) (v : Value) (n : Nat) (z : Int) : Prop := ∀ g j, v.ownBlock = some g → j < n → w.cell? ⟨g, j, none⟩ = some (.int .i64 z)
theorem Read7.alloc {w : World} {v : Value} {n : Nat} {z : Int} (h : Read7 w v n z) (o : Obj) : Read7 (w.alloc o) v n z := fun g j hg hj =>
  (((Below.refl _ _).alloc (Nat.le_refl _) o).cell (World.block_lt_of_cell? w _ (h g j hg hj))).trans (h g j hg hj)
/-- Their blocks are not one. -/
def Ap (u v : Value) : Prop := ∀ g, u.ownBlock = some g → v.ownBlock ≠ some g
theorem Ap.symm {u v : Value} (h : Ap u v) : Ap v u := fun g hv hu => h g hu hv
theorem Ap.next {u v v' : Value} {H : Nat} (h : Ap u v) (hu : ∀ g, u.ownBlock = some g → g < H) (hv : v'.ownBlock = v.ownBlock ∨ v'.ownBlock = some H) : Ap u v' := by
  intro g hg he
  rcases hv with hv | hv
  · exact h g hg (hv ▸ he)
  · rw [hv] at he
    have := hu g hg
    have := Option.some.inj he
    omega
theorem Ap.kept {w w' : World} {B e size n : Nat} {u v : Value} {xs : List Value} (h : Ap u v) (ho : w.ownsRow B e size u n xs) (hg : w.grownBy w' v.ownBlock) : w'.ownsRow B e size u n xs := by
  refine ho.kept hg ?_
  cases hu : u.ownBlock with
  | none => exact .inl rfl
  | some g => exact .inr (fun he => h g hu (by rw [← he]))

set_option maxHeartbeats 4000000 in
set_option maxRecDepth 100000 in
theorem apart_any (va vb : Value) (zs zs' : List Int) (B : Nat) (w : World) (ha : Nown w B va zs) (hb : Nown w B vb zs') (hB : B ≤ w.heap.size) (hd : Ap va vb) (hl : zs.length ≤ 1048576) (hl' : zs'.length ≤ 1048576) :
    Calls Try.prog 30 #[va, vb] w fun e w' => e = .returned (.bool true) ∧ Below B w w' := by
  obtain ⟨i0, hi0, hz0, hz1, hz2⟩ := info_parts info2
  have HA := hide ha
  have HB := hide hb
  have HD := hide hd
  have LA := hide ha.lt
  have LB := hide hb.lt
  obtain ⟨aoa, ca, hva, ha1, ha2, ha3⟩ := ha.shape
  obtain ⟨aob, cb, hvb, hb1, hb2, hb3⟩ := hb.shape
  unfold maxLen at ha2 hb2
  have SA : Hid (0 < zs.length → ∃ g, aoa = some ⟨g, 0, none⟩ ∧ B ≤ g) := fun h => by obtain ⟨g, h1, h2, _⟩ := ha3 h; exact ⟨g, h1, h2⟩
  have SB : Hid (0 < zs'.length → ∃ g, aob = some ⟨g, 0, none⟩ ∧ B ≤ g) := fun h => by obtain ⟨g, h1, h2, _⟩ := hb3 h; exact ⟨g, h1, h2⟩
  clear ha hb hd ha3 hb3
  subst hva
  subst hvb
  go_enter Try.func30, Try.ntmps30
  go_wp2
  go_loopw [5] (fun vi wr => ∃ i : Nat, i ≤ zs.length ∧ vi = .int .i64 i ∧ Hid (wr.ownsRow B 2 1 (.slice aoa zs.length ca) zs.length ((List.replicate i 7 ++ zs.drop i).map (Value.int .i64))) ∧ Hid (Nown wr B (.slice aob zs'.length cb) zs') ∧ Hid (Below B w wr)) (fun vi _ => zs.length - (intOf vi).toNat)
  case atStart => exact ⟨0, Nat.zero_le _, rfl, by rw [List.replicate_zero, List.nil_append, List.drop_zero]; exact HA.out, HB.out, Below.refl _ _⟩
  case round =>
    obtain ⟨i, hi, rfl, O1, O2, O3⟩ := hrel
    by_cases hlt : i < zs.length
    · obtain ⟨ga, rfl, hga⟩ := SA.out (by omega)
      have hcl := O1.out.cellAt i (by omega)
      have hfz := O1.out.frozenAt i
      obtain ⟨y, hy⟩ : ∃ y, ((List.replicate i 7 ++ zs.drop i).map (Value.int .i64))[i]? = some y := ⟨_, List.getElem?_eq_getElem (by simp; omega)⟩
      rw [hy] at hcl
      have hst := hide (O1.out.stored i (.int .i64 7)).1
      rw [fill_step zs 7 hlt] at hst
      have e1 : (i : Int) < (zs.length : Int) := by omega
      have O2' := hide (ownsRow_setCell_other O2.out (a := ⟨ga, i, none⟩) (HD.out ga rfl) (.int .i64 7))
      have O3' := hide (O3.out.setCell (p := ⟨ga, i, none⟩) hga (.int .i64 7))
      clear hy O1 O2 O3
      go_wp2
      go_roundw
      case rel => exact ⟨i + 1, by omega, by go_num, hst.out, O2'.out, O3'.out⟩
      case measure => simp [intOf]; omega
    · obtain rfl : zs.length = i := by omega
      have F1 := hide (fill_all O1.out)
      have W1 := O3.out.size
      clear O1
      have HH : Hid (∀ g, (Value.slice aoa zs.length ca).ownBlock = some g → g < wr.heap.size) := fun g hg => Nat.lt_of_lt_of_le (LA.out g hg).2 W1
      go_wp2
      generalize hwr : wr = W1 at *
      clear hwr
      go_loopw [6] (fun vi wr => ∃ i : Nat, i ≤ zs'.length ∧ vi = .int .i64 i ∧ Hid (wr.ownsRow B 2 1 (.slice aob zs'.length cb) zs'.length ((List.replicate i 8 ++ zs'.drop i).map (Value.int .i64))) ∧ Hid (Full wr B (.slice aoa zs.length ca) zs.length 7) ∧ Hid (Below B w wr)) (fun vi _ => zs'.length - (intOf vi).toNat)
      case atStart => exact ⟨0, Nat.zero_le _, rfl, by rw [List.replicate_zero, List.nil_append, List.drop_zero]; exact O2.out, F1.out, O3.out⟩
      case round =>
        clear O2 O3 F1 HH W1
        obtain ⟨i, hi, rfl, O1, O2, O3⟩ := hrel
        by_cases hlt : i < zs'.length
        · obtain ⟨gb, rfl, hgb⟩ := SB.out (by omega)
          have hcl := O1.out.cellAt i (by omega)
          have hfz := O1.out.frozenAt i
          obtain ⟨y, hy⟩ : ∃ y, ((List.replicate i 8 ++ zs'.drop i).map (Value.int .i64))[i]? = some y := ⟨_, List.getElem?_eq_getElem (by simp; omega)⟩
          rw [hy] at hcl
          have hst := hide (O1.out.stored i (.int .i64 8)).1
          rw [fill_step zs' 8 hlt] at hst
          have e1 : (i : Int) < (zs'.length : Int) := by omega
          have O2' := hide (ownsRow_setCell_other O2.out (a := ⟨gb, i, none⟩) (HD.out.symm gb rfl) (.int .i64 8))
          have O3' := hide (O3.out.setCell (p := ⟨gb, i, none⟩) hgb (.int .i64 8))
          clear hy O1 O2 O3
          go_wp2
          go_roundw
          case rel => exact ⟨i + 1, by omega, by go_num, hst.out, O2'.out, O3'.out⟩
          case measure => simp [intOf]; omega
        · obtain rfl : zs'.length = i := by omega
          have F2 := hide (fill_all O1.out)
          have hsz := O3.out.size
          have HLA : Hid (∀ g, (Value.slice aoa zs.length ca).ownBlock = some g → g < wr.heap.size) := fun g hg => Nat.lt_of_lt_of_le (LA.out g hg).2 hsz
          have HLB : Hid (∀ g, (Value.slice aob zs'.length cb).ownBlock = some g → g < wr.heap.size) := fun g hg => Nat.lt_of_lt_of_le (LB.out g hg).2 hsz
          clear O1
          generalize hn : zs.length = n at *
          generalize hn' : zs'.length = n' at *
          clear hn hn'
          go_wp2
          go_loopw [7, 9] (fun vx vk wr => ∃ k : Nat, k ≤ 70 ∧ vk = .int .i64 k ∧ Hid (Full wr B vx (n + k) 7) ∧ Hid (Read7 wr (.slice aoa n ca) n 7) ∧ Hid (Full wr B (.slice aob n' cb) n' 8) ∧ Hid (Ap (.slice aob n' cb) vx) ∧ Hid (Below B w wr) ∧ Hid (∀ g, (Value.slice aob n' cb).ownBlock = some g → g < wr.heap.size) ∧ Hid (∀ g, (Value.slice aoa n ca).ownBlock = some g → g < wr.heap.size)) (fun _ vk _ => 70 - (intOf vk).toNat)
          case atStart => exact ⟨0, by omega, rfl, O2.out, fun g j hg hj => O2.out.cells hg hj, F2.out, HD.out.symm, O3.out, HLB.out, HLA.out⟩
          case round =>
            clear O2 O3 F2 HLA HLB
            obtain ⟨k, hk, rfl, hF, hR, hG, hP, hBl, hLB, hLA⟩ := hrel
            have hsz := hBl.out.size
            by_cases hlt : k < 70
            · have e1 : (k : Int) < 70 := by omega
              have hF1 : wr.ownsRow B 2 1 _ (n + k) (List.replicate (n + k) (Value.int .i64 7)) := hF.out
              go_wp2_with (at_builtin; refine wpList_append_keep rfl _ _ 24 rfl B 2 i0 (.int .i64 0) 1 8 Try.underlying24 hi0 hz0 hz1 hz2 rfl (by decide) _ _ _ rfl (hF1.alloc _) ⟨wr.heap.size, 0, none⟩ 1 1 [Value.int .i64 7] rfl rfl ?c1 ?c2 ?c3 ?c4 ?c5 ?_)
              case c1 => first | exact cell_one_new _ _ _ | (intro j u hj; match j, hj with | 0, hj => simp at hj; subst hj; simp [Addr.add])
              case c2 => first | rfl | (intro u hu; simp at hu; subst hu; rfl) | simp [Value.oneCell']
              case c3 => unfold maxLen; omega
              case c4 => omega
              case c5 => simp; omega
              intro vx' w1 hown' hgrow hat hkeep
              have G1 := hide (Full.snoc hown')
              have G2 : Hid (Read7 w1 (.slice aoa n ca) n 7) := fun g j hg hj => by
                have h1 := hR.out.alloc (.cells #[.int .i64 7] 2) g j hg hj
                by_cases hsame : Value.ownBlock u7 = some g
                · rw [hkeep g j hsame (by omega)]
                  exact h1
                · exact hgrow.cell h1 (fun he => hsame he.symm)
              have G3 : Hid (Full w1 B (.slice aob n' cb) n' 8) := hP.out.kept (World.ownsRow.alloc hG.out _) hgrow
              have G4 : Hid (Ap (.slice aob n' cb) vx') := hP.out.next (fun g hg => by have := hLB.out g hg; simp; omega) hat
              have G5 : Hid (Below B w w1) := (hBl.out.alloc (by omega) _).grown hgrow (by simp; omega) (fun q hq => (hF1.lt q hq).1)
              have G6 : Hid (∀ g, (Value.slice aob n' cb).ownBlock = some g → g < w1.heap.size) := fun g hg => Nat.lt_of_lt_of_le (hLB.out g hg) (Nat.le_trans (by simp) hgrow.size)
              have G7 : Hid (∀ g, (Value.slice aoa n ca).ownBlock = some g → g < w1.heap.size) := fun g hg => Nat.lt_of_lt_of_le (hLA.out g hg) (Nat.le_trans (by simp) hgrow.size)
              clear hF hF1 hR hG hP hBl hLB hLA hown' hgrow hat hkeep
              go_wp2
              go_roundw
              case rel => exact ⟨k + 1, by omega, by go_num, G1.out, G2.out, G3.out, G4.out, G5.out, G6.out, G7.out⟩
              case measure => simp [intOf]; omega
            · obtain rfl : k = 70 := by omega
              rw [show ((70 : Nat) : Int) = 70 from rfl]
              go_wp2
              go_loopw [8, 10] (fun vy vk wr => ∃ k : Nat, k ≤ 70 ∧ vk = .int .i64 k ∧ Hid (Full wr B vy (n' + k) 8) ∧ Hid (Read7 wr (.slice aob n' cb) n' 8) ∧ Hid (Full wr B u7 (n + 70) 7) ∧ Hid (Ap u7 vy) ∧ Hid (Below B w wr) ∧ Hid (Read7 wr (.slice aoa n ca) n 7) ∧ Hid (Ap (.slice aoa n ca) vy) ∧ Hid (∀ g, (Value.slice aoa n ca).ownBlock = some g → g < wr.heap.size)) (fun _ vk _ => 70 - (intOf vk).toNat)
              case atStart => exact ⟨0, by omega, rfl, hG.out, fun g j hg hj => hG.out.cells hg hj, hF.out, hP.out.symm, hBl.out, hR.out, HD.out, hLA.out⟩
              case round =>
                clear hF hR hG hP hBl hLB hLA
                obtain ⟨k, hk, rfl, hF, hR, hG, hP, hBl, hRA, hPA, hLA⟩ := hrel
                have hsz := hBl.out.size
                by_cases hlt : k < 70
                · have e1 : (k : Int) < 70 := by omega
                  have hF1 : wr.ownsRow B 2 1 _ (n' + k) (List.replicate (n' + k) (Value.int .i64 8)) := hF.out
                  go_wp2_with (at_builtin; refine wpList_append_keep rfl _ _ 24 rfl B 2 i0 (.int .i64 0) 1 8 Try.underlying24 hi0 hz0 hz1 hz2 rfl (by decide) _ _ _ rfl (hF1.alloc _) ⟨wr.heap.size, 0, none⟩ 1 1 [Value.int .i64 8] rfl rfl ?c1 ?c2 ?c3 ?c4 ?c5 ?_)
                  case c1 => first | exact cell_one_new _ _ _ | (intro j u hj; match j, hj with | 0, hj => simp at hj; subst hj; simp [Addr.add])
                  case c2 => first | rfl | (intro u hu; simp at hu; subst hu; rfl) | simp [Value.oneCell']
                  case c3 => unfold maxLen; omega
                  case c4 => omega
                  case c5 => simp; omega
                  intro vy' w1 hown' hgrow hat hkeep
                  have G1 := hide (Full.snoc hown')
                  have G2 : Hid (Read7 w1 (.slice aob n' cb) n' 8) := fun g j hg hj => by
                    have h1 := hR.out.alloc (.cells #[.int .i64 8] 2) g j hg hj
                    by_cases hsame : Value.ownBlock u8 = some g
                    · rw [hkeep g j hsame (by omega)]
                      exact h1
                    · exact hgrow.cell h1 (fun he => hsame he.symm)
                  have G3 : Hid (Full w1 B u7 (n + 70) 7) := hP.out.kept (World.ownsRow.alloc hG.out _) hgrow
                  have G4 : Hid (Ap u7 vy') := hP.out.next (fun g hg => by have := (World.ownsRow.lt hG.out g hg).2; simp; omega) hat
                  have G5 : Hid (Below B w w1) := (hBl.out.alloc (by omega) _).grown hgrow (by simp; omega) (fun q hq => (hF1.lt q hq).1)
                  have G6 : Hid (Read7 w1 (.slice aoa n ca) n 7) := fun g j hg hj => hgrow.cell (hRA.out.alloc (.cells #[.int .i64 8] 2) g j hg hj) (fun he => hPA.out g hg he.symm)
                  have G7 : Hid (Ap (.slice aoa n ca) vy') := hPA.out.next (fun g hg => by have := hLA.out g hg; simp; omega) hat
                  have G8 : Hid (∀ g, (Value.slice aoa n ca).ownBlock = some g → g < w1.heap.size) := fun g hg => Nat.lt_of_lt_of_le (hLA.out g hg) (Nat.le_trans (by simp) hgrow.size)
                  clear hF hF1 hR hG hP hBl hRA hPA hLA hown' hgrow hat hkeep
                  go_wp2
                  go_roundw
                  case rel => exact ⟨k + 1, by omega, by go_num, G1.out, G2.out, G3.out, G4.out, G5.out, G6.out, G7.out, G8.out⟩
                  case measure => simp [intOf]; omega
                · obtain rfl : k = 70 := by omega
                  rw [show ((70 : Nat) : Int) = 70 from rfl]
                  obtain ⟨gx, capx, rfl, hx1, hx2, hx3, hxc⟩ := hG.out.form (by omega)
                  obtain ⟨gy, capy, hvy, hy1, hy2, hy3, hyc⟩ := hF.out.form (by omega)
                  subst hvy
                  unfold maxLen at hx3 hy3
                  have HXC := hide hxc
                  have HYC := hide hyc
                  clear hxc hyc hF hG hP hPA hLA
                  go_wp2
                  go_loopw [11] (fun vi wr' => ∃ i : Nat, i ≤ n + 70 ∧ vi = .int .i64 i ∧ wr' = wr) (fun vi _ => n + 70 - (intOf vi).toNat)
                  case atStart => exact ⟨0, by omega, rfl, rfl⟩
                  case round =>
                    obtain ⟨i, hi, rfl, rfl⟩ := hrel
                    by_cases hlt : i < n + 70
                    · have c1 := HXC.out i hlt
                      have e1 : (i : Int) < (n : Int) + 70 := by omega
                      by_cases hin : i < n
                      · obtain ⟨ga, rfl, hga⟩ := SA.out (by omega)
                        have c2 := hRA.out ga i rfl hin
                        have e2 : (i : Int) < (n : Int) := by omega
                        go_wp2
                        go_roundw
                        case rel => exact ⟨i + 1, by omega, by go_num, by trivial⟩
                        case measure => simp [intOf]; omega
                      · have e2 : ¬ (i : Int) < (n : Int) := by omega
                        go_wp2
                        go_roundw
                        case rel => exact ⟨i + 1, by omega, by go_num, by trivial⟩
                        case measure => simp [intOf]; omega
                    · obtain rfl : n + 70 = i := by omega
                      rw [show ((n + 70 : Nat) : Int) = (n : Int) + 70 from rfl]
                      go_wp2
                      go_loopw [12] (fun vi wr' => ∃ i : Nat, i ≤ n' + 70 ∧ vi = .int .i64 i ∧ wr' = wr) (fun vi _ => n' + 70 - (intOf vi).toNat)
                      case atStart => exact ⟨0, by omega, rfl, rfl⟩
                      case round =>
                        obtain ⟨i, hi, rfl, rfl⟩ := hrel
                        by_cases hlt : i < n' + 70
                        · have c1 := HYC.out i hlt
                          have e1 : (i : Int) < (n' : Int) + 70 := by omega
                          by_cases hin : i < n'
                          · obtain ⟨gb, rfl, hgb⟩ := SB.out (by omega)
                            have c2 := hR.out gb i rfl hin
                            have e2 : (i : Int) < (n' : Int) := by omega
                            go_wp2
                            go_roundw
                            case rel => exact ⟨i + 1, by omega, by go_num, by trivial⟩
                            case measure => simp [intOf]; omega
                          · have e2 : ¬ (i : Int) < (n' : Int) := by omega
                            go_wp2
                            go_roundw
                            case rel => exact ⟨i + 1, by omega, by go_num, by trivial⟩
                            case measure => simp [intOf]; omega
                        · go_wp2
                          go_ret
                          exact ⟨rfl, hBl.out⟩
end Go.Proofs.Ytoccbeefmagklaa
