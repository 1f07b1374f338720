/-
  PackPuts (function 3), walked.
-/
import Derived.Test.YtoccbeefmagklaaSumsWalk
import Derived.Test.YtoccbeefmagklaaRefPutMore
import Derived.Test.YtoccbeefmagklaaFill
import Derived.Test.YtoccbeefmagklaaPutsLaws
import Derived.Deep.RegionHeld3
import Derived.Deep.CutRange
import Derived.Test.YtoccbeefmagklaaMore
namespace Go.Proofs.Ytoccbeefmagklaa
open Go.RowKit

/-- What comes out in a turn. -/
def Cs (b : List UInt8) (n : Nat) (m : Int) (s : ByteArray) (zs : List Int) : Nat → List UInt8
  | 0 => b ++ Lib.uvarint n
  | 1 => b ++ Lib.uvarint (Lib.zigzag m)
  | 2 => b ++ Lib.uvarint s.size ++ s.data.toList
  | 3 => b ++ Rw.rowB zs
  | _ => b ++ List.replicate 80 201

theorem rowB_length {zs : List Int} (hz : Rw.AllFit zs) (hzl : zs.length ≤ 1048576) : (Rw.rowB zs).length ≤ 20 * zs.length + 40 := by
  have l3 := Lib.uvarint_length64 (x := zs.length) (by omega)
  have l5 := Rw.formB_length hz hzl (Rw.best zs)
  unfold Rw.rowB
  split
  · simp
  · rw [List.length_append, List.length_cons]
    omega
theorem info22 : (Try.prog.info? 22).map (fun i => (i.zero, i.size, i.bytes)) = some (some (.slice none 0 0), 1, 24) := by kernel_rfl

set_option maxHeartbeats 8000000 in
set_option maxRecDepth 100000 in
theorem puts_walk (v vl : Value) (b : List UInt8) (n : Nat) (m : Int) (s : ByteArray) (zs : List Int) (w : World) (h : Bs w v b) (hv : NilOr v) (hb : b.length ≤ 1048576) (hn : n < 18446744073709551616) (hm0 : -9223372036854775808 ≤ m) (hm1 : m ≤ 9223372036854775807) (hs : s.size ≤ 1048576) (hl : Ns w vl zs) (hz : Rw.AllFit zs) (hzl : zs.length ≤ 1048576) :
    Calls Try.prog 3 #[v, .int .u64 n, .int .i64 m, .string s, vl] w fun e w' => e = .returned (.bool true) ∧ Below w.heap.size w w' := by
  obtain ⟨i2, hi2, h20, h21, h22⟩ := info_parts info2
  obtain ⟨i5, hi5, h50, h51, h52⟩ := info_parts info5
  have H := hide h
  have HL := hide hl
  have HZ := hide hz
  have HV := hide hv
  have hsh := shown_any w
  obtain ⟨ao, c, hvv, hlc, hm, hcc⟩ := h
  obtain ⟨aol, cl, hvl, hllc, hlm, hlcc⟩ := hl
  unfold maxLen at hm hlm
  clear hcc hlcc
  subst hvv
  subst hvl
  have hCl : Hid (∀ j, (Cs b n m s zs j).length ≤ 140737488351232) := fun j => by
    have l1 := Lib.uvarint_length64 hn
    have l2 := Lib.uvarint_length64 (Lib.zigzag_lt hm0 hm1)
    have l3 := Lib.uvarint_length64 (x := s.size) (by omega)
    have l4 : (Rw.rowB zs).length ≤ 20 * zs.length + 40 := rowB_length hz hzl
    match j with
    | 0 => show (b ++ Lib.uvarint n).length ≤ _; rw [List.length_append]; omega
    | 1 => show (b ++ Lib.uvarint (Lib.zigzag m)).length ≤ _; rw [List.length_append]; omega
    | 2 =>
      show (b ++ Lib.uvarint s.size ++ s.data.toList).length ≤ _
      rw [List.length_append, List.length_append]
      have : s.data.toList.length = s.size := rfl
      omega
    | 3 => show (b ++ Rw.rowB zs).length ≤ _; rw [List.length_append]; omega
    | k + 4 => show (b ++ List.replicate 80 (201 : UInt8)).length ≤ _; rw [List.length_append, List.length_replicate]; omega
  clear hz hv
  go_enter Try.func3, Try.ntmps3
  go_wp2_with fail
  refine hsh.mono ?_
  rintro e w1 ⟨rfl, hb1⟩
  have B1 := hide hb1
  have hz1' := hb1.size
  clear hsh hb1
  have KP0 : Hid (Kp w1 (w1.alloc (.cells #[.slice none 0 0] 29)) w1.heap.size w1.heap.size 0 (Cs b n m s zs) (fun _ => .slice none 0 0) (.slice none 0 0)) :=
    ⟨World.ownsRow_nil _ _ _ _, fun j hj => by omega, fun i j hi => by omega, fun j hj => by omega, fun j hj => by omega, by simp [Value.ownBlock], heap_alloc_new w1 _, (Below.refl _ _).alloc (Nat.le_refl _) _⟩
  go_wp2
  have S0 : w1.heap.size < (w1.alloc (.cells #[.slice none 0 0] 29)).heap.size := by simp
  generalize hW1 : w1.alloc (.cells #[.slice none 0 0] 29) = W1 at *
  clear hW1
  generalize w1.heap.size = B at *
  go_loopw [13, 14, 15] (fun vk vr vt wr => ∃ (t : Nat) (vs : Nat → Value), t ≤ 3 ∧ vt = .int .i64 t ∧ Hid (Kp w1 wr B B t (Cs b n m s zs) vs vk) ∧ B < wr.heap.size ∧ Hid ((t = 0 ∧ vr = .slice none 0 0) ∨ (t ≠ 0 ∧ ∃ gr rs, vr = .slice (some ⟨gr, 0, none⟩) (zs.length + 80) (zs.length + 80) ∧ Nrow wr gr rs ∧ rs.length = zs.length + 80 ∧ B < gr ∧ (∀ j, j < 5 * t → (vs j).ownBlock ≠ some gr) ∧ vk.ownBlock ≠ some gr))) (fun _ _ vt _ => 3 - (intOf vt).toNat)
  case atStart => exact ⟨0, _, Nat.zero_le _, rfl, KP0.out, S0, .inl ⟨rfl, rfl⟩⟩
  case round =>
    clear KP0 S0
    obtain ⟨t, vs, ht, rfl, KP, hBw, RO⟩ := hrel
    have BW : Hid (Below w.heap.size w wr) := B1.out.trans (KP.out.2.2.2.2.2.2.2.mono hz1')
    by_cases hlt : t < 3
    · have e1 : (t : Int) < 3 := by omega
      have hle := hide (lent_any _ b wr (H.out.below BW.out (Nat.le_refl _)) (by omega))
      go_wp2_with fail
      refine hle.out.mono ?_
      rintro e w2 ⟨rfl, hrow, hb2⟩
      have KP2 := hide (KP.out.later hb2 (by omega))
      have BW2 : Hid (Below w.heap.size w w2) := BW.out.trans (hb2.mono BW.out.size)
      have HX := hide hrow
      have hx2 := hrow.lt
      have LT := hide KP.out.lt
      have RO2 : Hid ((t = 0 ∧ u14 = .slice none 0 0) ∨ (t ≠ 0 ∧ ∃ gr rs, u14 = .slice (some ⟨gr, 0, none⟩) (zs.length + 80) (zs.length + 80) ∧ Nrow w2 gr rs ∧ rs.length = zs.length + 80 ∧ B < gr ∧ gr < wr.heap.size ∧ (∀ j, j < 5 * t → (vs j).ownBlock ≠ some gr) ∧ u13.ownBlock ≠ some gr)) := by
        rcases RO.out with h | ⟨h0, gr, rs, h1, h2, h3, h4, h5, h6⟩
        · exact .inl h
        · have hgl := lt_of_block h2
          exact .inr ⟨h0, gr, rs, h1, (hb2.block gr hgl).trans h2, h3, h4, hgl, h5, h6⟩
      clear hle hrow hb2 RO KP BW
      generalize wr.heap.size = gx at *
      go_upto_if 46 with fail
      go_cut [14] from 35 to 196 (fun vr wx => ∃ gr rs, vr = .slice (some ⟨gr, 0, none⟩) (zs.length + 80) (zs.length + 80) ∧ Hid (Nrow wx gr rs) ∧ rs.length = zs.length + 80 ∧ Hid (Turn w w1 wx B t gx gr (Cs b n m s zs) vs u13 (b ++ List.replicate 80 201)))
      case first =>
        rcases RO2.out with ⟨h0, hr⟩ | ⟨h0, gr, rs, h1, h2, h3, h4, h5, h6, h7⟩
        · have z0 : ((t : Int) == 0) = true := by simp [h0]
          have H0 := hide h0
          clear h0
          go_wp2_with (at_make; refine wpList_make_full _ rfl _ _ 24 rfl w2.heap.size 2 i2 (.int .i64 0) 1 Try.underlying24 hi2 h20 h21 .i64 .i64 _ _ (zs.length + 80) rfl rfl ?c1 ?c2 ?c3 ?c4 ?c5 ?_)
          case c1 => omega
          case c2 => omega
          case c3 => rw [h22]; omega
          case c4 => unfold maxLen; omega
          case c5 => omega
          intro w3 hown hgrow
          have hb3 : Below w2.heap.size w2 w3 := (Below.refl _ _).grown hgrow (Nat.le_refl _) (by intro k hk; cases hk)
          have hr1 := (own_block hown).1
          have hr2 : Nrow w3 w2.heap.size (List.replicate (zs.length + 80) 0) := by
            unfold Nrow
            rw [hr1, toList_madeCells_one]
            simp
          have hs3 := lt_of_block hr2
          have TT : Hid (Turn w w1 w3 B t gx w2.heap.size (Cs b n m s zs) vs u13 (b ++ List.replicate 80 201)) :=
            ⟨KP2.out.later hb3 (by omega), (hb3.block gx hx2).trans HX.out, BW2.out.trans (hb3.mono BW2.out.size), by omega, by omega, hs3, by omega, hz1', fun j hj => by have := H0.out; omega, fun he => by have := (LT.out.2.1 _ he).2; omega, fun j hj g hg => (LT.out.1 j hj g hg).2, fun g hg => (LT.out.2.1 g hg).2, hBw⟩
          have HR2 := hide hr2
          clear hown hgrow hr1 hr2 hb3
          go_wp2
          go_meet
          case rel => exact ⟨_, _, rfl, HR2.out, by simp, TT.out⟩
        · have z0 : ((t : Int) == 0) = false := by simp [h0]
          have TT : Hid (Turn w w1 w2 B t gx gr (Cs b n m s zs) vs u13 (b ++ List.replicate 80 201)) :=
            ⟨KP2.out, HX.out, BW2.out, h4, by omega, by omega, hx2, hz1', h6, h7, fun j hj g hg => (LT.out.1 j hj g hg).2, fun g hg => (LT.out.2.1 g hg).2, hBw⟩
          have HR2 := hide h2
          have HU := hide h1
          clear h2 h1
          go_wp2
          go_meet
          case rel => exact ⟨_, _, HU.out, HR2.out, h3, TT.out⟩
      case rest =>
        clear RO2 KP2 HX BW2
        obtain ⟨gr, rs, rfl, HR, hrl, TT⟩ := hcut
        go_wp2
        generalize wc = WC at *
        go_loopw [18] (fun vi wr => ∃ (k : Nat) (rs : List Int), k ≤ 80 ∧ vi = .int .i64 ((zs.length + k : Nat) : Int) ∧ Hid (Nrow wr gr rs) ∧ rs.length = zs.length + 80 ∧ Hid (∀ j, j < k → rs.getD (zs.length + j) 1 = 0) ∧ Hid (Turn w w1 wr B t gx gr (Cs b n m s zs) vs u13 (b ++ List.replicate 80 201))) (fun vi _ => zs.length + 80 - (intOf vi).toNat)
        case atStart => exact ⟨0, rs, Nat.zero_le _, rfl, HR.out, hrl, fun j hj => by omega, TT.out⟩
        case round =>
          clear HR hrl TT
          clear rs
          obtain ⟨k, rs, hk, rfl, HR, hrl, HZ0, TT⟩ := hrel
          by_cases hk8 : k < 80
          · have hfz := HR.out.frozen (zs.length + k)
            have hcl := HR.out.cells (zs.length + k) (by omega)
            rw [Nat.zero_add] at hcl
            generalize rs.getD (zs.length + k) 0 = y0 at hcl
            have e2 : (zs.length : Int) + k < (zs.length : Int) + 80 := by omega
            have HR' := hide (HR.out.set (zs.length + k) 0)
            have TT' := hide (TT.out.grow (grown_set wr gr (zs.length + k) (.int .i64 0)))
            have HZ1 : Hid (∀ j, j < k + 1 → (rs.set (zs.length + k) 0).getD (zs.length + j) 1 = 0) := fun j hj => by
              by_cases hjk : j = k
              · subst hjk
                rw [List.getD_eq_getElem?_getD, List.getElem?_set_self (by omega)]
                rfl
              · have := HZ0.out j (by omega)
                rw [List.getD_eq_getElem?_getD] at this ⊢
                rw [List.getElem?_set_ne (by omega)]
                exact this
            clear HR TT HZ0
            go_wp2
            go_roundw
            case rel => exact ⟨k + 1, _, by omega, by go_num, HR'.out, by simp [hrl], HZ1.out, TT'.out⟩
            case measure => simp [intOf]; omega
          · obtain rfl : k = 80 := by omega
            have hdrop : Hid (rs.drop zs.length = List.replicate 80 0) := by
              apply List.ext_getElem
              · simp [hrl]
              · intro j h1 h2
                simp at h1 h2
                have := HZ0.out j h2
                rw [List.getD_eq_getElem?_getD, List.getElem?_eq_getElem (by omega)] at this
                rw [List.getElem_drop, List.getElem_replicate]
                exact this
            have LN : Hid (Ns wr (.slice aol zs.length cl) zs) := HL.out.below TT.out.2.2.1 (Nat.le_refl _)
            have HR2 : wr.heap[gr]? = some (.cells (rs.map (Value.int .i64)).toArray 2 (0, 0)) := HR.out
            have size2 : (Try.prog.info? 2).map (·.size) = some 1 := by kernel_rfl
            have hsrc : Hid (0 < zs.length → ∃ ad, aol = some ad ∧ ∀ (j : Nat) (x : Int), zs[j]? = some x → wr.cell? (ad.add j) = some (.int .i64 x)) := fun h0 => by
              obtain ⟨gl, ol, hh⟩ := ns_some LN.out h0
              refine ⟨_, hh, fun j x hx => ?_⟩
              subst hh
              obtain ⟨hjl, hjx⟩ := List.getElem?_eq_some_iff.1 hx
              have := ns_cell LN.out hjl
              rw [show (⟨gl, ol, none⟩ : Addr).add j = ⟨gl, ol + j, none⟩ by simp [Addr.add], this, List.getD_eq_getElem?_getD, hx]
              rfl
            have e2 : ¬ (zs.length : Int) + 80 < (zs.length : Int) + 80 := by omega
            rw [show ((zs.length + 80 : Nat) : Int) = (zs.length : Int) + 80 from rfl]
            go_wp2_with (refine wpList_copy_keep rfl _ _ 24 24 rfl 2 Try.underlying24 size2 _ _ _ _ _ _ rfl rfl gr 0 (rs.map (Value.int .i64)) 2 HR2 (zs.map (Value.int .i64)) ?d1 ?d2 ?d3 ?d4 ?_)
            case d2 => exact hsrc.out
            case d4 => intro u hu; first | rfl | (obtain ⟨x, _, rfl⟩ := hu; rfl) | (obtain ⟨x, _, rfl⟩ := List.mem_map.1 hu; rfl)
            intro w4 hr4 hg4
            have HR4 : Hid (Nrow w4 gr (zs ++ List.replicate 80 0)) := by
              show w4.heap[gr]? = _
              rw [hr4]
              unfold splice
              simp only [List.take_zero, List.nil_append, Nat.zero_add, List.length_map, ← List.map_drop, hdrop.out, List.map_append]
            have T4 := hide (TT.out.grow hg4)
            clear HR HR2 TT HZ0 hdrop LN hsrc hr4 hg4 hrl
            have s4 := T4.out.2.2.2.2.2.1
            have s4x := T4.out.2.2.2.2.2.2.1
            have hin := T4.out.2.1.bs (n := b.length) (c := b.length + 80) (by simp) (by omega) (by simp [maxLen]; omega)
            rw [List.take_left] at hin
            have IN4 := hide hin
            have k1 := hide (put_any _ b n w4 hin hn (by omega))
            clear hin
            go_wp2_with fail
            refine k1.out.mono ?_
            rintro e w5 ⟨vp, rfl, op, hb5⟩
            have OP5 := hide op
            have X5 := hide hb5
            have IN5 := hide (IN4.out.below hb5 (Nat.le_refl _))
            have k2 := hide (putInt_any _ b m w5 IN5.out hm0 hm1 (by omega))
            clear op hb5 k1
            go_wp2_with fail
            refine k2.out.mono ?_
            rintro e w6 ⟨vq, rfl, oq, hb6⟩
            have OQ6 := hide oq
            have X6 := hide hb6
            have IN6 := hide (IN5.out.below hb6 (Nat.le_refl _))
            have k3 := hide (putText_any _ b s w6 IN6.out (by omega))
            clear oq hb6 k2
            go_wp2_with fail
            refine k3.out.mono ?_
            rintro e w7 ⟨vt, rfl, ot, hb7⟩
            have OT7 := hide ot
            have X7 := hide hb7
            have IN7 := hide (IN6.out.below hb7 (Nat.le_refl _))
            have T7 := hide (((T4.out.later X5.out).later X6.out).later hb7)
            have HR7 := hide (nrow_later (nrow_later (nrow_later HR4.out X5.out) X6.out) hb7)
            have NR7 : Hid (Ns w7 (.slice (some ⟨gr, 0, none⟩) zs.length (zs.length + 80)) zs) := Ns.row (by omega) (by unfold maxLen; omega) (fun j hj => by
              have := HR7.out.cells j (by simp; omega)
              rw [this, List.getD_eq_getElem?_getD, List.getD_eq_getElem?_getD, List.getElem?_append_left hj])
            have k4 := hide (putRow_any _ _ b zs w7 IN7.out NR7.out HZ.out hzl (by omega))
            clear ot hb7 k3
            go_wp2_with fail
            refine k4.out.mono ?_
            rintro e w8 ⟨vu, rfl, ou, hb8⟩
            have OU8 := hide ou
            have X8 := hide hb8
            clear ou hb8 k4
            obtain ⟨L0, hL0⟩ : ∃ L, L = Cs b n m s zs 0 := ⟨_, rfl⟩
            obtain ⟨L1, hL1⟩ : ∃ L, L = Cs b n m s zs 1 := ⟨_, rfl⟩
            obtain ⟨L2, hL2⟩ : ∃ L, L = Cs b n m s zs 2 := ⟨_, rfl⟩
            obtain ⟨L3, hL3⟩ : ∃ L, L = Cs b n m s zs 3 := ⟨_, rfl⟩
            have BP8 : Hid (Bs w8 vp L0) := by rw [hL0]; exact (((own_bs OP5.out).below X6.out (Nat.le_refl _)).below X7.out (Nat.le_refl _)).below X8.out (Nat.le_refl _)
            have BQ8 : Hid (Bs w8 vq L1) := by rw [hL1]; exact ((own_bs OQ6.out).below X7.out (Nat.le_refl _)).below X8.out (Nat.le_refl _)
            have BT8 : Hid (Bs w8 vt L2) := by rw [hL2]; exact (own_bs OT7.out).below X8.out (Nat.le_refl _)
            have BU8 : Hid (Bs w8 vu L3) := by rw [hL3]; exact own_bs OU8.out
            have T8 := hide (T7.out.later X8.out)
            have SS : Hid (∀ W : World, Below w8.heap.size w8 W → (Below w8.heap.size w8 W ∧ (convert 22 9 vp).run Try.prog W = .ok (.string ⟨L0.toArray⟩) W ∧ (convert 22 9 vq).run Try.prog W = .ok (.string ⟨L1.toArray⟩) W ∧ (convert 22 9 vt).run Try.prog W = .ok (.string ⟨L2.toArray⟩) W ∧ (convert 22 9 vu).run Try.prog W = .ok (.string ⟨L3.toArray⟩) W)) := fun W hW =>
              ⟨hW, conv_bs (BP8.out.below hW (Nat.le_refl _)), conv_bs (BQ8.out.below hW (Nat.le_refl _)), conv_bs (BT8.out.below hW (Nat.le_refl _)), conv_bs (BU8.out.below hW (Nat.le_refl _))⟩
            have VB : Hid (∀ W : World, Below w8.heap.size w8 W → Bs W (.slice ao b.length c) b ∧ NilOr (.slice ao b.length c)) := fun W hW => ⟨H.out.below (T8.out.2.2.1.trans (hW.mono T8.out.2.2.1.size)) (Nat.le_refl _), HV.out⟩
            have c14 : Hid (∀ W : World, Below w8.heap.size w8 W → Calls Try.prog 14 #[.slice ao b.length c, .int .u64 n] W fun e W' => ∃ v', e = .returned v' ∧ (Bs W' v' L0 ∧ NilOr v') ∧ Below W.heap.size W W') := fun W hW => by rw [hL0]; exact rput_bs n (VB.out W hW) hn (by omega)
            have c15 : Hid (∀ W : World, Below w8.heap.size w8 W → Calls Try.prog 15 #[.slice ao b.length c, .int .i64 m] W fun e W' => ∃ v', e = .returned v' ∧ (Bs W' v' L1 ∧ NilOr v') ∧ Below W.heap.size W W') := fun W hW => by rw [hL1]; exact rputInt_bs m (VB.out W hW) ⟨hm0, hm1⟩ (by omega)
            have c16 : Hid (∀ W : World, Below w8.heap.size w8 W → Calls Try.prog 16 #[.slice ao b.length c, .string s] W fun e W' => ∃ v', e = .returned v' ∧ (Bs W' v' L2 ∧ NilOr v') ∧ Below W.heap.size W W') := fun W hW => by rw [hL2, show Cs b n m s zs 2 = b ++ (Lib.uvarint s.size ++ s.data.toList) from List.append_assoc _ _ _]; exact rputText_bs s (VB.out W hW) (by omega)
            have c17 : Hid (∀ W : World, Below w8.heap.size w8 W → Calls Try.prog 17 #[.slice ao b.length c, .slice aol zs.length cl] W fun e W' => ∃ v', e = .returned v' ∧ (Bs W' v' L3 ∧ NilOr v') ∧ Below W.heap.size W W') := fun W hW => by rw [hL3]; exact rputRow_bs (VB.out W hW) (HL.out.below (T8.out.2.2.1.trans (hW.mono T8.out.2.2.1.size)) (Nat.le_refl _)) HZ.out hzl (by omega)
            have HL0 := hide hL0
            have HL1 := hide hL1
            have HL2 := hide hL2
            have HL3 := hide hL3
            clear hL0 hL1 hL2 hL3
            go_upto_region 21 with fail
            go_cut [23] from 35 to 196 (fun v23 wx => v23 = .bool true ∧ Hid (Below w8.heap.size w8 wx))
            case first =>
              as_aux_lemma =>
                rename_i J21 K21 hJ21 hK21
                refine wp_region_noPanic ?_
                refine wp_region_held_drew (S := (fun W => Below w8.heap.size w8 W ∧ (convert 22 9 vp).run Try.prog W = .ok (.string ⟨L0.toArray⟩) W ∧ (convert 22 9 vq).run Try.prog W = .ok (.string ⟨L1.toArray⟩) W ∧ (convert 22 9 vt).run Try.prog W = .ok (.string ⟨L2.toArray⟩) W ∧ (convert 22 9 vu).run Try.prog W = .ok (.string ⟨L3.toArray⟩) W)) (by kernel_rfl) (SS.out _ ⟨rfl, rfl, rfl, Nat.le_refl _, fun _ _ => rfl⟩) (fun hHeld => ?_)
                refine' wpAnyH_take (i := 0) (oi := { dst := some 80, op := Op.move (Operand.tmp 19), type := 22, pos := "pack.go:107", after := #[], guard := none }) (v := _) rfl (by kernel_rfl) (by kernel_rfl) (by kernel_rfl) (fun _ _ _ h => h) (Or.inl ⟨by rfl, ?hya_0⟩) (by assumption) ?rea_0
                case hya_0 => (intro W hSw; (try dsimp only at hSw); go_simp; try with_reducible rfl)
                try simp only [Act.put, List.setIfInBounds_toArray, List.set_cons_zero, List.set_cons_succ]
                refine' wpAnyH_take (i := 1) (oi := { dst := some 81, op := Op.convert 22 9 (Operand.tmp 80), type := 9, pos := "pack.go:107", after := #[{ on := 0, ground := Ground.data }], guard := none }) (v := _) rfl (by kernel_rfl) (by kernel_rfl) (by kernel_rfl) (fun _ _ _ h => h) (Or.inl ⟨by rfl, ?hya_1⟩) (by assumption) ?rea_1
                case hya_1 => (intro W hSw; (try dsimp only at hSw); go_simp; try with_reducible rfl)
                try simp only [Act.put, List.setIfInBounds_toArray, List.set_cons_zero, List.set_cons_succ]
                refine' wpAnyH_take (i := 2) (oi := { dst := some 82, op := Op.move (Operand.tmp 0), type := 22, pos := "pack.go:107", after := #[], guard := none }) (v := _) rfl (by kernel_rfl) (by kernel_rfl) (by kernel_rfl) (fun _ _ _ h => h) (Or.inl ⟨by rfl, ?hya_2⟩) (by assumption) ?rea_2
                case hya_2 => (intro W hSw; (try dsimp only at hSw); go_simp; try with_reducible rfl)
                try simp only [Act.put, List.setIfInBounds_toArray, List.set_cons_zero, List.set_cons_succ]
                refine' wpAnyH_take (i := 3) (oi := { dst := some 83, op := Op.move (Operand.tmp 1), type := 23, pos := "pack.go:107", after := #[], guard := none }) (v := _) rfl (by kernel_rfl) (by kernel_rfl) (by kernel_rfl) (fun _ _ _ h => h) (Or.inl ⟨by rfl, ?hya_3⟩) (by assumption) ?rea_3
                case hya_3 => (intro W hSw; (try dsimp only at hSw); go_simp; try with_reducible rfl)
                try simp only [Act.put, List.setIfInBounds_toArray, List.set_cons_zero, List.set_cons_succ]
                refine wpAnyH_ready (rs := [4]) (by kernel_rfl) (by simp) ?_
                refine AllReadyH.cons (o := { dst := some 84, op := Op.call { callee := Callee.value (Operand.func 14), args := #[Operand.tmp 82, Operand.tmp 83], argTypes := #[22, 23] }, type := 22, pos := "pack.go:107", after := #[{ on := 2, ground := Ground.data }, { on := 3, ground := Ground.data }], guard := none }) rfl (fun K hK => ?_) AllReadyH.nil
                go_simp
                go_at_call 14
                refine (c14.out w8.drew ⟨rfl, rfl, rfl, Nat.le_refl _, fun _ _ => rfl⟩).mono ?_
                clear hHeld
                rintro e w9 ⟨v9, rfl, dw9, bw9⟩
                try go_wp2_with fail
                have Xw9 : Hid (Below w8.heap.size w8 w9) := ⟨bw9.os, bw9.tape, bw9.output, bw9.size, bw9.block⟩
                have BWw9 : Hid (Below w8.heap.size w8 w9) := Xw9.out
                have SSw9 : Hid (∀ W : World, Below w9.heap.size w9 W → (Below w9.heap.size w9 W ∧ (convert 22 9 v9).run Try.prog W = .ok (.string ⟨L0.toArray⟩) W ∧ (convert 22 9 vp).run Try.prog W = .ok (.string ⟨L0.toArray⟩) W ∧ (convert 22 9 vq).run Try.prog W = .ok (.string ⟨L1.toArray⟩) W ∧ (convert 22 9 vt).run Try.prog W = .ok (.string ⟨L2.toArray⟩) W ∧ (convert 22 9 vu).run Try.prog W = .ok (.string ⟨L3.toArray⟩) W)) := fun W hW => ⟨hW, conv_bs (dw9.1.below hW (Nat.le_refl _)), (SS.out W (Xw9.out.trans (hW.mono Xw9.out.size))).2⟩
                refine hK.out _ _ (SS.out w9 Xw9.out) (fun _ => ?_)
                refine wpAnyH_more (S' := fun W => Below w9.heap.size w9 W ∧ (convert 22 9 v9).run Try.prog W = .ok (.string ⟨L0.toArray⟩) W ∧ (convert 22 9 vp).run Try.prog W = .ok (.string ⟨L0.toArray⟩) W ∧ (convert 22 9 vq).run Try.prog W = .ok (.string ⟨L1.toArray⟩) W ∧ (convert 22 9 vt).run Try.prog W = .ok (.string ⟨L2.toArray⟩) W ∧ (convert 22 9 vu).run Try.prog W = .ok (.string ⟨L3.toArray⟩) W) (fun W hW => SS.out W (Xw9.out.trans (hW.1.mono Xw9.out.size))) _ _ _ _ ?_
                have hHeld := SSw9.out w9 (Below.refl _ _)
                clear hK K dw9 bw9
                try simp only [Act.put, List.setIfInBounds_toArray, List.set_cons_zero, List.set_cons_succ]
                refine' wpAnyH_take (i := 5) (oi := { dst := some 85, op := Op.convert 22 9 (Operand.tmp 84), type := 9, pos := "pack.go:107", after := #[{ on := 4, ground := Ground.data }], guard := none }) (v := _) rfl (by kernel_rfl) (by kernel_rfl) (by kernel_rfl) (fun _ _ _ h => h) (Or.inl ⟨by rfl, ?hya_5⟩) (by assumption) ?rea_5
                case hya_5 => (intro W hSw; (try dsimp only at hSw); go_simp; try with_reducible rfl)
                try simp only [Act.put, List.setIfInBounds_toArray, List.set_cons_zero, List.set_cons_succ]
                refine' wpAnyH_take (i := 6) (oi := { dst := some 86, op := Op.binOp BinOp.eql 9 (Operand.tmp 81) (Operand.tmp 85) 9, type := 4, pos := "pack.go:107", after := #[{ on := 1, ground := Ground.data }, { on := 5, ground := Ground.data }], guard := none }) (v := _) rfl (by kernel_rfl) (by kernel_rfl) (by kernel_rfl) (fun _ _ _ h => h) (Or.inl ⟨by rfl, ?hya_6⟩) (by assumption) ?rea_6
                case hya_6 => (intro W hSw; (try dsimp only at hSw); go_simp; try with_reducible rfl)
                try simp only [Act.put, List.setIfInBounds_toArray, List.set_cons_zero, List.set_cons_succ]
                refine' wpAnyH_take (i := 7) (oi := { dst := some 87, op := Op.move (Operand.tmp 86), type := 4, pos := "pack.go:107", after := #[{ on := 6, ground := Ground.data }, { on := 4, ground := Ground.chain }], guard := none }) (v := _) rfl (by kernel_rfl) (by kernel_rfl) (by kernel_rfl) (fun _ _ _ h => h) (Or.inl ⟨by rfl, ?hya_7⟩) (by assumption) ?rea_7
                case hya_7 => (intro W hSw; (try dsimp only at hSw); go_simp; try with_reducible rfl)
                try simp only [Act.put, List.setIfInBounds_toArray, List.set_cons_zero, List.set_cons_succ]
                refine' wpAnyH_take (i := 8) (oi := { dst := some 88, op := Op.move (Operand.tmp 20), type := 22, pos := "pack.go:107", after := #[{ on := 7, ground := Ground.guard }], guard := some (7, true) }) (v := _) rfl (by kernel_rfl) (by kernel_rfl) (by kernel_rfl) (fun _ _ _ h => h) (Or.inl ⟨by rfl, ?hya_8⟩) (by assumption) ?rea_8
                case hya_8 => (intro W hSw; (try dsimp only at hSw); go_simp; try with_reducible rfl)
                try simp only [Act.put, List.setIfInBounds_toArray, List.set_cons_zero, List.set_cons_succ]
                refine' wpAnyH_take (i := 9) (oi := { dst := some 89, op := Op.convert 22 9 (Operand.tmp 88), type := 9, pos := "pack.go:107", after := #[{ on := 8, ground := Ground.data }, { on := 7, ground := Ground.guard }], guard := some (7, true) }) (v := _) rfl (by kernel_rfl) (by kernel_rfl) (by kernel_rfl) (fun _ _ _ h => h) (Or.inl ⟨by rfl, ?hya_9⟩) (by assumption) ?rea_9
                case hya_9 => (intro W hSw; (try dsimp only at hSw); go_simp; try with_reducible rfl)
                try simp only [Act.put, List.setIfInBounds_toArray, List.set_cons_zero, List.set_cons_succ]
                refine' wpAnyH_take (i := 10) (oi := { dst := some 90, op := Op.move (Operand.tmp 0), type := 22, pos := "pack.go:107", after := #[{ on := 7, ground := Ground.guard }], guard := some (7, true) }) (v := _) rfl (by kernel_rfl) (by kernel_rfl) (by kernel_rfl) (fun _ _ _ h => h) (Or.inl ⟨by rfl, ?hya_10⟩) (by assumption) ?rea_10
                case hya_10 => (intro W hSw; (try dsimp only at hSw); go_simp; try with_reducible rfl)
                try simp only [Act.put, List.setIfInBounds_toArray, List.set_cons_zero, List.set_cons_succ]
                refine' wpAnyH_take (i := 11) (oi := { dst := some 91, op := Op.move (Operand.tmp 2), type := 2, pos := "pack.go:107", after := #[{ on := 7, ground := Ground.guard }], guard := some (7, true) }) (v := _) rfl (by kernel_rfl) (by kernel_rfl) (by kernel_rfl) (fun _ _ _ h => h) (Or.inl ⟨by rfl, ?hya_11⟩) (by assumption) ?rea_11
                case hya_11 => (intro W hSw; (try dsimp only at hSw); go_simp; try with_reducible rfl)
                try simp only [Act.put, List.setIfInBounds_toArray, List.set_cons_zero, List.set_cons_succ]
                refine wpAnyH_ready (rs := [12]) (by kernel_rfl) (by simp) ?_
                refine AllReadyH.cons (o := { dst := some 92, op := Op.call { callee := Callee.value (Operand.func 15), args := #[Operand.tmp 90, Operand.tmp 91], argTypes := #[22, 2] }, type := 22, pos := "pack.go:107", after := #[{ on := 10, ground := Ground.data }, { on := 11, ground := Ground.data }, { on := 7, ground := Ground.chain }, { on := 7, ground := Ground.guard }], guard := some (7, true) }) rfl (fun K hK => ?_) AllReadyH.nil
                go_simp
                go_at_call 15
                refine (c15.out w9 BWw9.out).mono ?_
                clear hHeld
                rintro e w10 ⟨v10, rfl, dw10, bw10⟩
                try go_wp2_with fail
                have Xw10 : Hid (Below w9.heap.size w9 w10) := ⟨bw10.os, bw10.tape, bw10.output, bw10.size, bw10.block⟩
                have BWw10 : Hid (Below w8.heap.size w8 w10) := BWw9.out.trans (Xw10.out.mono BWw9.out.size)
                have SSw10 : Hid (∀ W : World, Below w10.heap.size w10 W → (Below w10.heap.size w10 W ∧ (convert 22 9 v10).run Try.prog W = .ok (.string ⟨L1.toArray⟩) W ∧ (convert 22 9 v9).run Try.prog W = .ok (.string ⟨L0.toArray⟩) W ∧ (convert 22 9 vp).run Try.prog W = .ok (.string ⟨L0.toArray⟩) W ∧ (convert 22 9 vq).run Try.prog W = .ok (.string ⟨L1.toArray⟩) W ∧ (convert 22 9 vt).run Try.prog W = .ok (.string ⟨L2.toArray⟩) W ∧ (convert 22 9 vu).run Try.prog W = .ok (.string ⟨L3.toArray⟩) W)) := fun W hW => ⟨hW, conv_bs (dw10.1.below hW (Nat.le_refl _)), (SSw9.out W (Xw10.out.trans (hW.mono Xw10.out.size))).2⟩
                refine hK.out _ _ (SSw9.out w10 Xw10.out) (fun _ => ?_)
                refine wpAnyH_more (S' := fun W => Below w10.heap.size w10 W ∧ (convert 22 9 v10).run Try.prog W = .ok (.string ⟨L1.toArray⟩) W ∧ (convert 22 9 v9).run Try.prog W = .ok (.string ⟨L0.toArray⟩) W ∧ (convert 22 9 vp).run Try.prog W = .ok (.string ⟨L0.toArray⟩) W ∧ (convert 22 9 vq).run Try.prog W = .ok (.string ⟨L1.toArray⟩) W ∧ (convert 22 9 vt).run Try.prog W = .ok (.string ⟨L2.toArray⟩) W ∧ (convert 22 9 vu).run Try.prog W = .ok (.string ⟨L3.toArray⟩) W) (fun W hW => SSw9.out W (Xw10.out.trans (hW.1.mono Xw10.out.size))) _ _ _ _ ?_
                have hHeld := SSw10.out w10 (Below.refl _ _)
                clear hK K dw10 bw10
                try simp only [Act.put, List.setIfInBounds_toArray, List.set_cons_zero, List.set_cons_succ]
                refine' wpAnyH_take (i := 13) (oi := { dst := some 93, op := Op.convert 22 9 (Operand.tmp 92), type := 9, pos := "pack.go:107", after := #[{ on := 12, ground := Ground.data }, { on := 7, ground := Ground.guard }], guard := some (7, true) }) (v := _) rfl (by kernel_rfl) (by kernel_rfl) (by kernel_rfl) (fun _ _ _ h => h) (Or.inl ⟨by rfl, ?hya_13⟩) (by assumption) ?rea_13
                case hya_13 => (intro W hSw; (try dsimp only at hSw); go_simp; try with_reducible rfl)
                try simp only [Act.put, List.setIfInBounds_toArray, List.set_cons_zero, List.set_cons_succ]
                refine' wpAnyH_take (i := 14) (oi := { dst := some 94, op := Op.binOp BinOp.eql 9 (Operand.tmp 89) (Operand.tmp 93) 9, type := 4, pos := "pack.go:107", after := #[{ on := 9, ground := Ground.data }, { on := 13, ground := Ground.data }, { on := 7, ground := Ground.guard }], guard := some (7, true) }) (v := _) rfl (by kernel_rfl) (by kernel_rfl) (by kernel_rfl) (fun _ _ _ h => h) (Or.inl ⟨by rfl, ?hya_14⟩) (by assumption) ?rea_14
                case hya_14 => (intro W hSw; (try dsimp only at hSw); go_simp; try with_reducible rfl)
                try simp only [Act.put, List.setIfInBounds_toArray, List.set_cons_zero, List.set_cons_succ]
                refine' wpAnyH_take (i := 15) (oi := { dst := some 95, op := Op.pick (Operand.tmp 87) (Operand.tmp 94) (Operand.const (Value.bool false)), type := 4, pos := "pack.go:107", after := #[{ on := 7, ground := Ground.data }, { on := 14, ground := Ground.data }], guard := none }) (v := _) rfl (by kernel_rfl) (by kernel_rfl) (by kernel_rfl) (fun _ _ _ h => h) (Or.inl ⟨by rfl, ?hya_15⟩) (by assumption) ?rea_15
                case hya_15 => (intro W hSw; (try dsimp only at hSw); go_simp; try with_reducible rfl)
                try simp only [Act.put, List.setIfInBounds_toArray, List.set_cons_zero, List.set_cons_succ]
                refine' wpAnyH_take (i := 16) (oi := { dst := some 96, op := Op.move (Operand.tmp 95), type := 4, pos := "pack.go:107", after := #[{ on := 15, ground := Ground.data }, { on := 12, ground := Ground.chain }], guard := none }) (v := _) rfl (by kernel_rfl) (by kernel_rfl) (by kernel_rfl) (fun _ _ _ h => h) (Or.inl ⟨by rfl, ?hya_16⟩) (by assumption) ?rea_16
                case hya_16 => (intro W hSw; (try dsimp only at hSw); go_simp; try with_reducible rfl)
                try simp only [Act.put, List.setIfInBounds_toArray, List.set_cons_zero, List.set_cons_succ]
                refine' wpAnyH_take (i := 17) (oi := { dst := some 97, op := Op.move (Operand.tmp 21), type := 22, pos := "pack.go:107", after := #[{ on := 16, ground := Ground.guard }], guard := some (16, true) }) (v := _) rfl (by kernel_rfl) (by kernel_rfl) (by kernel_rfl) (fun _ _ _ h => h) (Or.inl ⟨by rfl, ?hya_17⟩) (by assumption) ?rea_17
                case hya_17 => (intro W hSw; (try dsimp only at hSw); go_simp; try with_reducible rfl)
                try simp only [Act.put, List.setIfInBounds_toArray, List.set_cons_zero, List.set_cons_succ]
                refine' wpAnyH_take (i := 18) (oi := { dst := some 98, op := Op.convert 22 9 (Operand.tmp 97), type := 9, pos := "pack.go:107", after := #[{ on := 17, ground := Ground.data }, { on := 16, ground := Ground.guard }], guard := some (16, true) }) (v := _) rfl (by kernel_rfl) (by kernel_rfl) (by kernel_rfl) (fun _ _ _ h => h) (Or.inl ⟨by rfl, ?hya_18⟩) (by assumption) ?rea_18
                case hya_18 => (intro W hSw; (try dsimp only at hSw); go_simp; try with_reducible rfl)
                try simp only [Act.put, List.setIfInBounds_toArray, List.set_cons_zero, List.set_cons_succ]
                refine' wpAnyH_take (i := 19) (oi := { dst := some 99, op := Op.move (Operand.tmp 0), type := 22, pos := "pack.go:107", after := #[{ on := 16, ground := Ground.guard }], guard := some (16, true) }) (v := _) rfl (by kernel_rfl) (by kernel_rfl) (by kernel_rfl) (fun _ _ _ h => h) (Or.inl ⟨by rfl, ?hya_19⟩) (by assumption) ?rea_19
                case hya_19 => (intro W hSw; (try dsimp only at hSw); go_simp; try with_reducible rfl)
                try simp only [Act.put, List.setIfInBounds_toArray, List.set_cons_zero, List.set_cons_succ]
                refine' wpAnyH_take (i := 20) (oi := { dst := some 100, op := Op.move (Operand.tmp 3), type := 9, pos := "pack.go:107", after := #[{ on := 16, ground := Ground.guard }], guard := some (16, true) }) (v := _) rfl (by kernel_rfl) (by kernel_rfl) (by kernel_rfl) (fun _ _ _ h => h) (Or.inl ⟨by rfl, ?hya_20⟩) (by assumption) ?rea_20
                case hya_20 => (intro W hSw; (try dsimp only at hSw); go_simp; try with_reducible rfl)
                try simp only [Act.put, List.setIfInBounds_toArray, List.set_cons_zero, List.set_cons_succ]
                refine wpAnyH_ready (rs := [21]) (by kernel_rfl) (by simp) ?_
                refine AllReadyH.cons (o := { dst := some 101, op := Op.call { callee := Callee.value (Operand.func 16), args := #[Operand.tmp 99, Operand.tmp 100], argTypes := #[22, 9] }, type := 22, pos := "pack.go:107", after := #[{ on := 19, ground := Ground.data }, { on := 20, ground := Ground.data }, { on := 16, ground := Ground.chain }, { on := 16, ground := Ground.guard }], guard := some (16, true) }) rfl (fun K hK => ?_) AllReadyH.nil
                go_simp
                go_at_call 16
                refine (c16.out w10 BWw10.out).mono ?_
                clear hHeld
                rintro e w11 ⟨v11, rfl, dw11, bw11⟩
                try go_wp2_with fail
                have Xw11 : Hid (Below w10.heap.size w10 w11) := ⟨bw11.os, bw11.tape, bw11.output, bw11.size, bw11.block⟩
                have BWw11 : Hid (Below w8.heap.size w8 w11) := BWw10.out.trans (Xw11.out.mono BWw10.out.size)
                have SSw11 : Hid (∀ W : World, Below w11.heap.size w11 W → (Below w11.heap.size w11 W ∧ (convert 22 9 v11).run Try.prog W = .ok (.string ⟨L2.toArray⟩) W ∧ (convert 22 9 v10).run Try.prog W = .ok (.string ⟨L1.toArray⟩) W ∧ (convert 22 9 v9).run Try.prog W = .ok (.string ⟨L0.toArray⟩) W ∧ (convert 22 9 vp).run Try.prog W = .ok (.string ⟨L0.toArray⟩) W ∧ (convert 22 9 vq).run Try.prog W = .ok (.string ⟨L1.toArray⟩) W ∧ (convert 22 9 vt).run Try.prog W = .ok (.string ⟨L2.toArray⟩) W ∧ (convert 22 9 vu).run Try.prog W = .ok (.string ⟨L3.toArray⟩) W)) := fun W hW => ⟨hW, conv_bs (dw11.1.below hW (Nat.le_refl _)), (SSw10.out W (Xw11.out.trans (hW.mono Xw11.out.size))).2⟩
                refine hK.out _ _ (SSw10.out w11 Xw11.out) (fun _ => ?_)
                refine wpAnyH_more (S' := fun W => Below w11.heap.size w11 W ∧ (convert 22 9 v11).run Try.prog W = .ok (.string ⟨L2.toArray⟩) W ∧ (convert 22 9 v10).run Try.prog W = .ok (.string ⟨L1.toArray⟩) W ∧ (convert 22 9 v9).run Try.prog W = .ok (.string ⟨L0.toArray⟩) W ∧ (convert 22 9 vp).run Try.prog W = .ok (.string ⟨L0.toArray⟩) W ∧ (convert 22 9 vq).run Try.prog W = .ok (.string ⟨L1.toArray⟩) W ∧ (convert 22 9 vt).run Try.prog W = .ok (.string ⟨L2.toArray⟩) W ∧ (convert 22 9 vu).run Try.prog W = .ok (.string ⟨L3.toArray⟩) W) (fun W hW => SSw10.out W (Xw11.out.trans (hW.1.mono Xw11.out.size))) _ _ _ _ ?_
                have hHeld := SSw11.out w11 (Below.refl _ _)
                clear hK K dw11 bw11
                try simp only [Act.put, List.setIfInBounds_toArray, List.set_cons_zero, List.set_cons_succ]
                refine' wpAnyH_take (i := 22) (oi := { dst := some 102, op := Op.convert 22 9 (Operand.tmp 101), type := 9, pos := "pack.go:107", after := #[{ on := 21, ground := Ground.data }, { on := 16, ground := Ground.guard }], guard := some (16, true) }) (v := _) rfl (by kernel_rfl) (by kernel_rfl) (by kernel_rfl) (fun _ _ _ h => h) (Or.inl ⟨by rfl, ?hya_22⟩) (by assumption) ?rea_22
                case hya_22 => (intro W hSw; (try dsimp only at hSw); go_simp; try with_reducible rfl)
                try simp only [Act.put, List.setIfInBounds_toArray, List.set_cons_zero, List.set_cons_succ]
                refine' wpAnyH_take (i := 23) (oi := { dst := some 103, op := Op.binOp BinOp.eql 9 (Operand.tmp 98) (Operand.tmp 102) 9, type := 4, pos := "pack.go:107", after := #[{ on := 18, ground := Ground.data }, { on := 22, ground := Ground.data }, { on := 16, ground := Ground.guard }], guard := some (16, true) }) (v := _) rfl (by kernel_rfl) (by kernel_rfl) (by kernel_rfl) (fun _ _ _ h => h) (Or.inl ⟨by rfl, ?hya_23⟩) (by assumption) ?rea_23
                case hya_23 => (intro W hSw; (try dsimp only at hSw); go_simp; try with_reducible rfl)
                try simp only [Act.put, List.setIfInBounds_toArray, List.set_cons_zero, List.set_cons_succ]
                refine' wpAnyH_take (i := 24) (oi := { dst := some 104, op := Op.pick (Operand.tmp 96) (Operand.tmp 103) (Operand.const (Value.bool false)), type := 4, pos := "pack.go:107", after := #[{ on := 16, ground := Ground.data }, { on := 23, ground := Ground.data }], guard := none }) (v := _) rfl (by kernel_rfl) (by kernel_rfl) (by kernel_rfl) (fun _ _ _ h => h) (Or.inl ⟨by rfl, ?hya_24⟩) (by assumption) ?rea_24
                case hya_24 => (intro W hSw; (try dsimp only at hSw); go_simp; try with_reducible rfl)
                try simp only [Act.put, List.setIfInBounds_toArray, List.set_cons_zero, List.set_cons_succ]
                refine' wpAnyH_take (i := 25) (oi := { dst := some 105, op := Op.move (Operand.tmp 104), type := 4, pos := "pack.go:107", after := #[{ on := 24, ground := Ground.data }, { on := 21, ground := Ground.chain }], guard := none }) (v := _) rfl (by kernel_rfl) (by kernel_rfl) (by kernel_rfl) (fun _ _ _ h => h) (Or.inl ⟨by rfl, ?hya_25⟩) (by assumption) ?rea_25
                case hya_25 => (intro W hSw; (try dsimp only at hSw); go_simp; try with_reducible rfl)
                try simp only [Act.put, List.setIfInBounds_toArray, List.set_cons_zero, List.set_cons_succ]
                refine' wpAnyH_take (i := 26) (oi := { dst := some 106, op := Op.move (Operand.tmp 22), type := 22, pos := "pack.go:107", after := #[{ on := 25, ground := Ground.guard }], guard := some (25, true) }) (v := _) rfl (by kernel_rfl) (by kernel_rfl) (by kernel_rfl) (fun _ _ _ h => h) (Or.inl ⟨by rfl, ?hya_26⟩) (by assumption) ?rea_26
                case hya_26 => (intro W hSw; (try dsimp only at hSw); go_simp; try with_reducible rfl)
                try simp only [Act.put, List.setIfInBounds_toArray, List.set_cons_zero, List.set_cons_succ]
                refine' wpAnyH_take (i := 27) (oi := { dst := some 107, op := Op.convert 22 9 (Operand.tmp 106), type := 9, pos := "pack.go:107", after := #[{ on := 26, ground := Ground.data }, { on := 25, ground := Ground.guard }], guard := some (25, true) }) (v := _) rfl (by kernel_rfl) (by kernel_rfl) (by kernel_rfl) (fun _ _ _ h => h) (Or.inl ⟨by rfl, ?hya_27⟩) (by assumption) ?rea_27
                case hya_27 => (intro W hSw; (try dsimp only at hSw); go_simp; try with_reducible rfl)
                try simp only [Act.put, List.setIfInBounds_toArray, List.set_cons_zero, List.set_cons_succ]
                refine' wpAnyH_take (i := 28) (oi := { dst := some 108, op := Op.move (Operand.tmp 0), type := 22, pos := "pack.go:107", after := #[{ on := 25, ground := Ground.guard }], guard := some (25, true) }) (v := _) rfl (by kernel_rfl) (by kernel_rfl) (by kernel_rfl) (fun _ _ _ h => h) (Or.inl ⟨by rfl, ?hya_28⟩) (by assumption) ?rea_28
                case hya_28 => (intro W hSw; (try dsimp only at hSw); go_simp; try with_reducible rfl)
                try simp only [Act.put, List.setIfInBounds_toArray, List.set_cons_zero, List.set_cons_succ]
                refine' wpAnyH_take (i := 29) (oi := { dst := some 109, op := Op.move (Operand.tmp 4), type := 24, pos := "pack.go:107", after := #[{ on := 25, ground := Ground.guard }], guard := some (25, true) }) (v := _) rfl (by kernel_rfl) (by kernel_rfl) (by kernel_rfl) (fun _ _ _ h => h) (Or.inl ⟨by rfl, ?hya_29⟩) (by assumption) ?rea_29
                case hya_29 => (intro W hSw; (try dsimp only at hSw); go_simp; try with_reducible rfl)
                try simp only [Act.put, List.setIfInBounds_toArray, List.set_cons_zero, List.set_cons_succ]
                refine wpAnyH_ready (rs := [30]) (by kernel_rfl) (by simp) ?_
                refine AllReadyH.cons (o := { dst := some 110, op := Op.call { callee := Callee.value (Operand.func 17), args := #[Operand.tmp 108, Operand.tmp 109], argTypes := #[22, 24] }, type := 22, pos := "pack.go:107", after := #[{ on := 28, ground := Ground.data }, { on := 29, ground := Ground.data }, { on := 25, ground := Ground.chain }, { on := 25, ground := Ground.guard }], guard := some (25, true) }) rfl (fun K hK => ?_) AllReadyH.nil
                go_simp
                go_at_call 17
                refine (c17.out w11 BWw11.out).mono ?_
                clear hHeld
                rintro e w12 ⟨v12, rfl, dw12, bw12⟩
                try go_wp2_with fail
                have Xw12 : Hid (Below w11.heap.size w11 w12) := ⟨bw12.os, bw12.tape, bw12.output, bw12.size, bw12.block⟩
                have BWw12 : Hid (Below w8.heap.size w8 w12) := BWw11.out.trans (Xw12.out.mono BWw11.out.size)
                have SSw12 : Hid (∀ W : World, Below w12.heap.size w12 W → (Below w12.heap.size w12 W ∧ (convert 22 9 v12).run Try.prog W = .ok (.string ⟨L3.toArray⟩) W ∧ (convert 22 9 v11).run Try.prog W = .ok (.string ⟨L2.toArray⟩) W ∧ (convert 22 9 v10).run Try.prog W = .ok (.string ⟨L1.toArray⟩) W ∧ (convert 22 9 v9).run Try.prog W = .ok (.string ⟨L0.toArray⟩) W ∧ (convert 22 9 vp).run Try.prog W = .ok (.string ⟨L0.toArray⟩) W ∧ (convert 22 9 vq).run Try.prog W = .ok (.string ⟨L1.toArray⟩) W ∧ (convert 22 9 vt).run Try.prog W = .ok (.string ⟨L2.toArray⟩) W ∧ (convert 22 9 vu).run Try.prog W = .ok (.string ⟨L3.toArray⟩) W)) := fun W hW => ⟨hW, conv_bs (dw12.1.below hW (Nat.le_refl _)), (SSw11.out W (Xw12.out.trans (hW.mono Xw12.out.size))).2⟩
                refine hK.out _ _ (SSw11.out w12 Xw12.out) (fun _ => ?_)
                refine wpAnyH_more (S' := fun W => Below w12.heap.size w12 W ∧ (convert 22 9 v12).run Try.prog W = .ok (.string ⟨L3.toArray⟩) W ∧ (convert 22 9 v11).run Try.prog W = .ok (.string ⟨L2.toArray⟩) W ∧ (convert 22 9 v10).run Try.prog W = .ok (.string ⟨L1.toArray⟩) W ∧ (convert 22 9 v9).run Try.prog W = .ok (.string ⟨L0.toArray⟩) W ∧ (convert 22 9 vp).run Try.prog W = .ok (.string ⟨L0.toArray⟩) W ∧ (convert 22 9 vq).run Try.prog W = .ok (.string ⟨L1.toArray⟩) W ∧ (convert 22 9 vt).run Try.prog W = .ok (.string ⟨L2.toArray⟩) W ∧ (convert 22 9 vu).run Try.prog W = .ok (.string ⟨L3.toArray⟩) W) (fun W hW => SSw11.out W (Xw12.out.trans (hW.1.mono Xw12.out.size))) _ _ _ _ ?_
                have hHeld := SSw12.out w12 (Below.refl _ _)
                clear hK K dw12 bw12
                try simp only [Act.put, List.setIfInBounds_toArray, List.set_cons_zero, List.set_cons_succ]
                refine' wpAnyH_take (i := 31) (oi := { dst := some 111, op := Op.convert 22 9 (Operand.tmp 110), type := 9, pos := "pack.go:107", after := #[{ on := 30, ground := Ground.data }, { on := 25, ground := Ground.guard }], guard := some (25, true) }) (v := _) rfl (by kernel_rfl) (by kernel_rfl) (by kernel_rfl) (fun _ _ _ h => h) (Or.inl ⟨by rfl, ?hya_31⟩) (by assumption) ?rea_31
                case hya_31 => (intro W hSw; (try dsimp only at hSw); go_simp; try with_reducible rfl)
                try simp only [Act.put, List.setIfInBounds_toArray, List.set_cons_zero, List.set_cons_succ]
                refine' wpAnyH_take (i := 32) (oi := { dst := some 112, op := Op.binOp BinOp.eql 9 (Operand.tmp 107) (Operand.tmp 111) 9, type := 4, pos := "pack.go:107", after := #[{ on := 27, ground := Ground.data }, { on := 31, ground := Ground.data }, { on := 25, ground := Ground.guard }], guard := some (25, true) }) (v := _) rfl (by kernel_rfl) (by kernel_rfl) (by kernel_rfl) (fun _ _ _ h => h) (Or.inl ⟨by rfl, ?hya_32⟩) (by assumption) ?rea_32
                case hya_32 => (intro W hSw; (try dsimp only at hSw); go_simp; try with_reducible rfl)
                try simp only [Act.put, List.setIfInBounds_toArray, List.set_cons_zero, List.set_cons_succ]
                refine' wpAnyH_take (i := 33) (oi := { dst := some 113, op := Op.pick (Operand.tmp 105) (Operand.tmp 112) (Operand.const (Value.bool false)), type := 4, pos := "pack.go:107", after := #[{ on := 25, ground := Ground.data }, { on := 32, ground := Ground.data }], guard := none }) (v := _) rfl (by kernel_rfl) (by kernel_rfl) (by kernel_rfl) (fun _ _ _ h => h) (Or.inl ⟨by rfl, ?hya_33⟩) (by assumption) ?rea_33
                case hya_33 => (intro W hSw; (try dsimp only at hSw); go_simp; try with_reducible rfl)
                try simp only [Act.put, List.setIfInBounds_toArray, List.set_cons_zero, List.set_cons_succ]
                refine' wpAnyH_take (i := 34) (oi := { dst := some 23, op := Op.assign (Operand.tmp 113), type := 4, pos := "pack.go:107", after := #[{ on := 33, ground := Ground.data }, { on := 30, ground := Ground.chain }, { on := 0, ground := Ground.phase }, { on := 1, ground := Ground.phase }, { on := 2, ground := Ground.phase }, { on := 3, ground := Ground.phase }, { on := 4, ground := Ground.phase }, { on := 5, ground := Ground.phase }, { on := 6, ground := Ground.phase }, { on := 7, ground := Ground.phase }, { on := 8, ground := Ground.phase }, { on := 9, ground := Ground.phase }, { on := 10, ground := Ground.phase }, { on := 11, ground := Ground.phase }, { on := 12, ground := Ground.phase }, { on := 13, ground := Ground.phase }, { on := 14, ground := Ground.phase }, { on := 15, ground := Ground.phase }, { on := 16, ground := Ground.phase }, { on := 17, ground := Ground.phase }, { on := 18, ground := Ground.phase }, { on := 19, ground := Ground.phase }, { on := 20, ground := Ground.phase }, { on := 21, ground := Ground.phase }, { on := 22, ground := Ground.phase }, { on := 23, ground := Ground.phase }, { on := 24, ground := Ground.phase }, { on := 25, ground := Ground.phase }, { on := 26, ground := Ground.phase }, { on := 27, ground := Ground.phase }, { on := 28, ground := Ground.phase }, { on := 29, ground := Ground.phase }, { on := 30, ground := Ground.phase }, { on := 31, ground := Ground.phase }, { on := 32, ground := Ground.phase }, { on := 33, ground := Ground.phase }], guard := none }) (v := _) rfl (by kernel_rfl) (by kernel_rfl) (by kernel_rfl) (fun _ _ _ h => h) (Or.inl ⟨by rfl, ?hya_34⟩) (by assumption) ?rea_34
                case hya_34 => (intro W hSw; (try dsimp only at hSw); go_simp; try with_reducible rfl)
                try simp only [Act.put, List.setIfInBounds_toArray, List.set_cons_zero, List.set_cons_succ]
                refine wpAnyH_done (by kernel_rfl) ?_ _
                refine NoPanic.normal ?_
                refine hK21 _ _ (Met.intro (hJ21 _ _ ?_))
                repeat apply Exists.intro
                refine ⟨⟨rfl, BWw12.out⟩, rfl⟩
            case rest =>
              obtain ⟨rfl, X21⟩ := hcut
              clear c14 c15 c16 c17 SS BP8 BQ8 BT8 BU8 VB
              have OP8 := hide (own_later' (own_later' (own_later' OP5.out X6.out) X7.out) X8.out)
              have OQ8 := hide (own_later' (own_later' OQ6.out X7.out) X8.out)
              have OT8 := hide (own_later' OT7.out X8.out)
              have T13 := hide (T8.out.later X21.out)
              have HR13 := hide (nrow_later (nrow_later HR7.out X8.out) X21.out)
              have OP13 := hide (own_later' OP8.out X21.out)
              have OQ13 := hide (own_later' OQ8.out X21.out)
              have OT13 := hide (own_later' OT8.out X21.out)
              have OU13 := hide (own_later' OU8.out X21.out)
              have ls : w4.heap.size ≤ w5.heap.size ∧ w5.heap.size ≤ w6.heap.size ∧ w6.heap.size ≤ w7.heap.size ∧ w7.heap.size ≤ w8.heap.size ∧ w8.heap.size ≤ wc.heap.size := ⟨X5.out.size, X6.out.size, X7.out.size, X8.out.size, X21.out.size⟩
              have LP : Hid (∀ g, vp.ownBlock = some g → w4.heap.size ≤ g ∧ g < w5.heap.size) := fun g hg => OP5.out.lt g hg
              have LQ : Hid (∀ g, vq.ownBlock = some g → w5.heap.size ≤ g ∧ g < w6.heap.size) := fun g hg => OQ6.out.lt g hg
              have LTt : Hid (∀ g, vt.ownBlock = some g → w6.heap.size ≤ g ∧ g < w7.heap.size) := fun g hg => OT7.out.lt g hg
              have LU : Hid (∀ g, vu.ownBlock = some g → w7.heap.size ≤ g ∧ g < w8.heap.size) := fun g hg => OU8.out.lt g hg
              clear OP5 OQ6 OT7 OU8 OP8 OQ8 OT8 T8 T7 HR7 NR7 IN4 IN5 IN6 IN7 X5 X6 X7 X8 X21 HR4 T4
              have k5 := hide (still_row gx _ b wc (by omega) T13.out.2.1 (H.out.below T13.out.2.2.1 (Nat.le_refl _)))
              generalize w4.heap.size = z4 at *
              generalize w5.heap.size = z5 at *
              generalize w6.heap.size = z6 at *
              generalize w7.heap.size = z7 at *
              generalize w8.heap.size = z8 at *
              go_wp2_with fail
              refine k5.out.mono ?_
              rintro e w14 ⟨rfl, hd14⟩
              have X14 := hide (below_drew' (B := wc.heap.size) hd14)
              have T14 := hide (T13.out.later X14.out)
              have HR14 := hide (nrow_later HR13.out X14.out)
              have OP14 := hide (own_later' OP13.out X14.out)
              have OQ14 := hide (own_later' OQ13.out X14.out)
              have OT14 := hide (own_later' OT13.out X14.out)
              have OU14 := hide (own_later' OU13.out X14.out)
              have ls14 : z8 ≤ w14.heap.size := Nat.le_trans ls.2.2.2.2 X14.out.size
              clear k5 hd14 T13 HR13 OP13 OQ13 OT13 OU13 X14
              go_wp2
              go_loopw [24, 25] (fun vk vi wr => ∃ i : Nat, i ≤ zs.length + 80 ∧ vi = .int .i64 i ∧ vk = .bool true ∧ Hid (Nrow wr gr ((minus (zs.length + 80)).take i ++ (zs ++ List.replicate 80 0).drop i)) ∧ Hid (Turn w w1 wr B t gx gr (Cs b n m s zs) vs u13 (b ++ List.replicate 80 201)) ∧ Hid (w14.grownBy wr (some gr))) (fun _ vi _ => zs.length + 80 - (intOf vi).toNat)
              case atStart => exact ⟨0, Nat.zero_le _, rfl, rfl, by rw [List.take_zero, List.nil_append, List.drop_zero]; exact HR14.out, T14.out, ⟨rfl, rfl, rfl, Nat.le_refl _, fun _ _ _ => rfl⟩⟩
              case round =>
                obtain ⟨i, hi, rfl, rfl, HRi, Ti, Gi⟩ := hrel
                by_cases hil : i < zs.length + 80
                · have hfz := HRi.out.frozen i
                  have hcl := HRi.out.cells i (by simp [minus_length]; omega)
                  rw [Nat.zero_add, minus_get _ _ hil] at hcl
                  have st := hide (HRi.out.set i (-7 - ((i % 2 : Nat) : Int)))
                  rw [minus_step _ _ hil (by simp)] at st
                  have T' := hide (fun (d : Nat) => ((Ti.out.later (below_drew' ⟨d, rfl⟩ : Below wr.heap.size wr (wr.drewN d))).grow (grown_set (wr.drewN d) gr i (.int .i64 (-7 - ((i % 2 : Nat) : Int))))))
                  have G' : Hid (∀ d : Nat, w14.grownBy ((wr.drewN d).setCell ⟨gr, i, none⟩ (.int .i64 (-7 - ((i % 2 : Nat) : Int)))) (some gr)) := fun d => by
                    have g1 := Gi.out
                    have g2 := grown_set (wr.drewN d) gr i (.int .i64 (-7 - ((i % 2 : Nat) : Int)))
                    exact ⟨g2.os.trans g1.os, g2.tape.trans g1.tape, g2.output.trans g1.output, Nat.le_trans g1.size g2.size, fun q hq hne => (g2.block q (Nat.lt_of_lt_of_le hq g1.size) hne).trans (g1.block q hq hne)⟩
                  have e2 : (i : Int) < (zs.length : Int) + 80 := by omega
                  have hmod : ((i % 2 : Nat) : Int) = (i : Int) % 2 := rfl
                  rw [hmod] at st T' G'
                  have LN : Hid (Ns wr (.slice aol zs.length cl) zs) := HL.out.below Ti.out.2.2.1 (Nat.le_refl _)
                  clear HRi Ti Gi hmod
                  by_cases hiz : i < zs.length
                  · obtain ⟨gl, ol, rfl⟩ := ns_some LN.out (by omega)
                    have hcl2 := ns_cell LN.out hiz
                    rw [List.getD_eq_getElem?_getD, List.getElem?_append_left hiz, ← List.getD_eq_getElem?_getD] at hcl
                    generalize zs.getD i 0 = x at *
                    have d1 : decide ((i : Int) < (zs.length : Int)) = true := by simp; omega
                    have d2 : (i : Int) < (zs.length : Int) := by omega
                    have d3 : (x == x) = true := by simp
                    go_wp2
                    go_quiet (fail)
                    go_wp2
                    go_roundw
                    case rel => exact ⟨i + 1, by omega, by go_num, rfl, st.out, T'.out nq, G'.out nq⟩
                    case measure => simp [intOf]; omega
                  · rw [List.getD_eq_getElem?_getD, List.getElem?_append_right (by omega), List.getElem?_replicate, if_pos (by omega)] at hcl
                    have d1 : decide ((i : Int) < (zs.length : Int)) = false := by simp; omega
                    have d2 : ¬ (i : Int) < (zs.length : Int) := by omega
                    have d4 : decide (zs.length ≤ i) = true := by simp; omega
                    have d5 : (zs.length : Int) ≤ (i : Int) := by omega
                    simp only [Option.getD_some] at hcl
                    go_wp2
                    go_quiet (fail)
                    go_wp2
                    go_roundw
                    case rel => exact ⟨i + 1, by omega, by go_num, rfl, st.out, T'.out nq, G'.out nq⟩
                    case measure => simp [intOf]; omega
                · obtain rfl : i = zs.length + 80 := by omega
                  have HRe : Hid (Nrow wr gr (minus (zs.length + 80))) := by
                    have := HRi.out
                    rw [minus_all _ _ (by simp)] at this
                    exact this
                  have kp : Hid (∀ (v : Value) (B' nn : Nat) (xs : List Value), w14.ownsRow B' 5 1 v nn xs → (∀ g, v.ownBlock = some g → g ≠ gr) → wr.ownsRow B' 5 1 v nn xs) := fun v B' nn xs h hne => by
                    refine h.kept Gi.out ?_
                    cases hv : v.ownBlock with
                    | none => exact .inl rfl
                    | some g => exact .inr (fun he => hne g hv (Option.some.inj he))
                  have OPe := hide (kp.out _ _ _ _ OP14.out (fun g hg => by have := LP.out g hg; omega))
                  have OQe := hide (kp.out _ _ _ _ OQ14.out (fun g hg => by have := LQ.out g hg; omega))
                  have OTe := hide (kp.out _ _ _ _ OT14.out (fun g hg => by have := LTt.out g hg; omega))
                  have OUe := hide (kp.out _ _ _ _ OU14.out (fun g hg => by have := LU.out g hg; omega))
                  have lse : z8 ≤ wr.heap.size := Nat.le_trans ls14 Gi.out.size
                  have NRe : Hid (Ns wr (.slice (some ⟨gr, 0, none⟩) zs.length (zs.length + 80)) (minus zs.length)) := by
                    have := Ns.row (w := wr) (g := gr) (o := 0) (c := zs.length + 80) (zs := minus zs.length) (by rw [minus_length]; omega) (by unfold maxLen; omega) (fun j hj => by
                      rw [minus_length] at hj
                      have := HRe.out.cells j (by rw [minus_length]; omega)
                      rw [this, ← minus_take (show zs.length ≤ zs.length + 80 by omega), List.getD_eq_getElem?_getD, List.getD_eq_getElem?_getD, List.getElem?_take, if_pos hj])
                    rw [minus_length] at this
                    exact this
                  have BVe : Hid (Bs wr (.slice ao b.length c) b) := H.out.below Ti.out.2.2.1 (Nat.le_refl _)
                  have k6 := hide (putRow_any _ _ b (minus zs.length) wr BVe.out NRe.out (minus_fits _) (by rw [minus_length]; exact hzl) (by omega))
                  clear kp OP14 OQ14 OT14 OU14 HRi T14 HR14 Gi
                  rw [show ((zs.length + 80 : Nat) : Int) = (zs.length : Int) + 80 from rfl]
                  go_wp2_with fail
                  refine k6.out.mono ?_
                  rintro e w15 ⟨va, rfl, oa, hb15⟩
                  obtain ⟨L4, hL4⟩ : ∃ L, L = b ++ Rw.rowB (minus zs.length) := ⟨_, rfl⟩
                  have BA : Hid (Bs w15 va L4) := by rw [hL4]; exact own_bs oa
                  have SSb : Hid (∀ W : World, Below w15.heap.size w15 W → (Below w15.heap.size w15 W ∧ (convert 22 9 va).run Try.prog W = .ok (.string ⟨L4.toArray⟩) W)) := fun W hW => ⟨hW, conv_bs (BA.out.below hW (Nat.le_refl _))⟩
                  have X15 := hide hb15
                  have T15 := hide (Ti.out.later hb15)
                  have c17b : Hid (∀ W : World, Below w15.heap.size w15 W → Calls Try.prog 17 #[.slice ao b.length c, .slice (some ⟨gr, 0, none⟩) zs.length (zs.length + 80)] W fun e W' => ∃ v', e = .returned v' ∧ (Bs W' v' L4 ∧ NilOr v') ∧ Below W.heap.size W W') := fun W hW => by
                    rw [hL4]
                    exact rputRow_bs ⟨H.out.below (T15.out.2.2.1.trans (hW.mono T15.out.2.2.1.size)) (Nat.le_refl _), HV.out⟩ ((NRe.out.below X15.out (Nat.le_refl _)).below hW (Nat.le_refl _)) (minus_fits _) (by rw [minus_length]; exact hzl) (by omega)
                  have HL4 := hide hL4
                  clear hL4 oa hb15 k6
                  go_upto_region 29 with fail
                  go_cut [24] from 35 to 196 (fun v24 wx => v24 = .bool true ∧ Hid (Below w15.heap.size w15 wx))
                  case first =>
                    as_aux_lemma =>
                      rename_i J29 K29 hJ29 hK29
                      have es : ((zs.length : Int) ≤ (zs.length : Int) + 80) = True := eq_true (by omega)
                      refine wp_region_noPanic ?_
                      refine wp_region_held_drew (S := (fun W => Below w15.heap.size w15 W ∧ (convert 22 9 va).run Try.prog W = .ok (.string ⟨L4.toArray⟩) W)) (by kernel_rfl) (SSb.out _ ⟨rfl, rfl, rfl, Nat.le_refl _, fun _ _ => rfl⟩) (fun hHeld => ?_)
                      refine' wpAnyH_take (i := 0) (oi := { dst := some 166, op := Op.move (Operand.tmp 24), type := 4, pos := "pack.go:114", after := #[], guard := none }) (v := _) rfl (by kernel_rfl) (by kernel_rfl) (by kernel_rfl) (fun _ _ _ h => h) (Or.inl ⟨by rfl, ?hyb_0⟩) (by assumption) ?reb_0
                      case hyb_0 => (intro W hSw; (try dsimp only at hSw); go_simp; try with_reducible rfl)
                      try simp only [Act.put, List.setIfInBounds_toArray, List.set_cons_zero, List.set_cons_succ]
                      refine' wpAnyH_take (i := 1) (oi := { dst := some 167, op := Op.move (Operand.tmp 166), type := 4, pos := "pack.go:114", after := #[{ on := 0, ground := Ground.data }], guard := none }) (v := _) rfl (by kernel_rfl) (by kernel_rfl) (by kernel_rfl) (fun _ _ _ h => h) (Or.inl ⟨by rfl, ?hyb_1⟩) (by assumption) ?reb_1
                      case hyb_1 => (intro W hSw; (try dsimp only at hSw); go_simp; try with_reducible rfl)
                      try simp only [Act.put, List.setIfInBounds_toArray, List.set_cons_zero, List.set_cons_succ]
                      refine' wpAnyH_take (i := 2) (oi := { dst := some 168, op := Op.move (Operand.tmp 26), type := 22, pos := "pack.go:114", after := #[{ on := 1, ground := Ground.guard }], guard := some (1, true) }) (v := _) rfl (by kernel_rfl) (by kernel_rfl) (by kernel_rfl) (fun _ _ _ h => h) (Or.inl ⟨by rfl, ?hyb_2⟩) (by assumption) ?reb_2
                      case hyb_2 => (intro W hSw; (try dsimp only at hSw); go_simp; try with_reducible rfl)
                      try simp only [Act.put, List.setIfInBounds_toArray, List.set_cons_zero, List.set_cons_succ]
                      refine' wpAnyH_take (i := 3) (oi := { dst := some 169, op := Op.convert 22 9 (Operand.tmp 168), type := 9, pos := "pack.go:114", after := #[{ on := 2, ground := Ground.data }, { on := 1, ground := Ground.guard }], guard := some (1, true) }) (v := _) rfl (by kernel_rfl) (by kernel_rfl) (by kernel_rfl) (fun _ _ _ h => h) (Or.inl ⟨by rfl, ?hyb_3⟩) (by assumption) ?reb_3
                      case hyb_3 => (intro W hSw; (try dsimp only at hSw); go_simp; try with_reducible rfl)
                      try simp only [Act.put, List.setIfInBounds_toArray, List.set_cons_zero, List.set_cons_succ]
                      refine' wpAnyH_take (i := 4) (oi := { dst := some 170, op := Op.move (Operand.tmp 0), type := 22, pos := "pack.go:114", after := #[{ on := 1, ground := Ground.guard }], guard := some (1, true) }) (v := _) rfl (by kernel_rfl) (by kernel_rfl) (by kernel_rfl) (fun _ _ _ h => h) (Or.inl ⟨by rfl, ?hyb_4⟩) (by assumption) ?reb_4
                      case hyb_4 => (intro W hSw; (try dsimp only at hSw); go_simp; try with_reducible rfl)
                      try simp only [Act.put, List.setIfInBounds_toArray, List.set_cons_zero, List.set_cons_succ]
                      refine' wpAnyH_take (i := 5) (oi := { dst := some 171, op := Op.move (Operand.tmp 14), type := 24, pos := "pack.go:114", after := #[{ on := 1, ground := Ground.guard }], guard := some (1, true) }) (v := _) rfl (by kernel_rfl) (by kernel_rfl) (by kernel_rfl) (fun _ _ _ h => h) (Or.inl ⟨by rfl, ?hyb_5⟩) (by assumption) ?reb_5
                      case hyb_5 => (intro W hSw; (try dsimp only at hSw); go_simp; try with_reducible rfl)
                      try simp only [Act.put, List.setIfInBounds_toArray, List.set_cons_zero, List.set_cons_succ]
                      refine' wpAnyH_take (i := 6) (oi := { dst := some 172, op := Op.move (Operand.tmp 4), type := 24, pos := "pack.go:114", after := #[{ on := 1, ground := Ground.guard }], guard := some (1, true) }) (v := _) rfl (by kernel_rfl) (by kernel_rfl) (by kernel_rfl) (fun _ _ _ h => h) (Or.inl ⟨by rfl, ?hyb_6⟩) (by assumption) ?reb_6
                      case hyb_6 => (intro W hSw; (try dsimp only at hSw); go_simp; try with_reducible rfl)
                      try simp only [Act.put, List.setIfInBounds_toArray, List.set_cons_zero, List.set_cons_succ]
                      refine' wpAnyH_take (i := 7) (oi := { dst := some 173, op := Op.call { callee := Callee.builtin Builtin.len, args := #[Operand.tmp 172], argTypes := #[24] }, type := 3, pos := "pack.go:114", after := #[{ on := 6, ground := Ground.data }, { on := 1, ground := Ground.guard }], guard := some (1, true) }) (v := _) rfl (by kernel_rfl) (by kernel_rfl) (by kernel_rfl) (fun _ _ _ h => h) (Or.inl ⟨by rfl, ?hyb_7⟩) (by assumption) ?reb_7
                      case hyb_7 => (intro W hSw; (try dsimp only at hSw); go_simp; try with_reducible rfl)
                      try simp only [Act.put, List.setIfInBounds_toArray, List.set_cons_zero, List.set_cons_succ]
                      refine' wpAnyH_take (i := 8) (oi := { dst := some 174, op := Op.slice 24 (Operand.tmp 171) none (some (Operand.tmp 173)) none, type := 24, pos := "pack.go:114", after := #[{ on := 5, ground := Ground.data }, { on := 7, ground := Ground.data }, { on := 1, ground := Ground.guard }], guard := some (1, true) }) (v := _) rfl (by kernel_rfl) (by kernel_rfl) (by kernel_rfl) (fun _ _ _ h => h) (Or.inl ⟨by rfl, ?hyb_8⟩) (by assumption) ?reb_8
                      case hyb_8 => (intro W hSw; (try dsimp only at hSw); go_simp; try with_reducible rfl)
                      try simp only [Act.put, List.setIfInBounds_toArray, List.set_cons_zero, List.set_cons_succ]
                      refine wpAnyH_ready (rs := [9]) (by kernel_rfl) (by simp) ?_
                      refine AllReadyH.cons (o := { dst := some 175, op := Op.call { callee := Callee.value (Operand.func 17), args := #[Operand.tmp 170, Operand.tmp 174], argTypes := #[22, 24] }, type := 22, pos := "pack.go:114", after := #[{ on := 4, ground := Ground.data }, { on := 8, ground := Ground.data }, { on := 1, ground := Ground.chain }, { on := 1, ground := Ground.guard }], guard := some (1, true) }) rfl (fun K hK => ?_) AllReadyH.nil
                      go_simp
                      go_at_call 17
                      refine (c17b.out w15.drew ⟨rfl, rfl, rfl, Nat.le_refl _, fun _ _ => rfl⟩).mono ?_
                      clear hHeld
                      rintro e w16 ⟨v16, rfl, dw16, bw16⟩
                      try go_wp2_with fail
                      have Xw16 : Hid (Below w15.heap.size w15 w16) := ⟨bw16.os, bw16.tape, bw16.output, bw16.size, bw16.block⟩
                      have BWw16 : Hid (Below w15.heap.size w15 w16) := Xw16.out
                      have SSw16 : Hid (∀ W : World, Below w16.heap.size w16 W → (Below w16.heap.size w16 W ∧ (convert 22 9 v16).run Try.prog W = .ok (.string ⟨L4.toArray⟩) W ∧ (convert 22 9 va).run Try.prog W = .ok (.string ⟨L4.toArray⟩) W)) := fun W hW => ⟨hW, conv_bs (dw16.1.below hW (Nat.le_refl _)), (SSb.out W (Xw16.out.trans (hW.mono Xw16.out.size))).2⟩
                      refine hK.out _ _ (SSb.out w16 Xw16.out) (fun _ => ?_)
                      refine wpAnyH_more (S' := fun W => Below w16.heap.size w16 W ∧ (convert 22 9 v16).run Try.prog W = .ok (.string ⟨L4.toArray⟩) W ∧ (convert 22 9 va).run Try.prog W = .ok (.string ⟨L4.toArray⟩) W) (fun W hW => SSb.out W (Xw16.out.trans (hW.1.mono Xw16.out.size))) _ _ _ _ ?_
                      have hHeld := SSw16.out w16 (Below.refl _ _)
                      clear hK K dw16 bw16
                      try simp only [Act.put, List.setIfInBounds_toArray, List.set_cons_zero, List.set_cons_succ]
                      refine' wpAnyH_take (i := 10) (oi := { dst := some 176, op := Op.convert 22 9 (Operand.tmp 175), type := 9, pos := "pack.go:114", after := #[{ on := 9, ground := Ground.data }, { on := 1, ground := Ground.guard }], guard := some (1, true) }) (v := _) rfl (by kernel_rfl) (by kernel_rfl) (by kernel_rfl) (fun _ _ _ h => h) (Or.inl ⟨by rfl, ?hyb_10⟩) (by assumption) ?reb_10
                      case hyb_10 => (intro W hSw; (try dsimp only at hSw); go_simp; try with_reducible rfl)
                      try simp only [Act.put, List.setIfInBounds_toArray, List.set_cons_zero, List.set_cons_succ]
                      refine' wpAnyH_take (i := 11) (oi := { dst := some 177, op := Op.binOp BinOp.eql 9 (Operand.tmp 169) (Operand.tmp 176) 9, type := 4, pos := "pack.go:114", after := #[{ on := 3, ground := Ground.data }, { on := 10, ground := Ground.data }, { on := 1, ground := Ground.guard }], guard := some (1, true) }) (v := _) rfl (by kernel_rfl) (by kernel_rfl) (by kernel_rfl) (fun _ _ _ h => h) (Or.inl ⟨by rfl, ?hyb_11⟩) (by assumption) ?reb_11
                      case hyb_11 => (intro W hSw; (try dsimp only at hSw); go_simp; try with_reducible rfl)
                      try simp only [Act.put, List.setIfInBounds_toArray, List.set_cons_zero, List.set_cons_succ]
                      refine' wpAnyH_take (i := 12) (oi := { dst := some 178, op := Op.pick (Operand.tmp 167) (Operand.tmp 177) (Operand.const (Value.bool false)), type := 4, pos := "pack.go:114", after := #[{ on := 1, ground := Ground.data }, { on := 11, ground := Ground.data }], guard := none }) (v := _) rfl (by kernel_rfl) (by kernel_rfl) (by kernel_rfl) (fun _ _ _ h => h) (Or.inl ⟨by rfl, ?hyb_12⟩) (by assumption) ?reb_12
                      case hyb_12 => (intro W hSw; (try dsimp only at hSw); go_simp; try with_reducible rfl)
                      try simp only [Act.put, List.setIfInBounds_toArray, List.set_cons_zero, List.set_cons_succ]
                      refine' wpAnyH_take (i := 13) (oi := { dst := some 24, op := Op.assign (Operand.tmp 178), type := 4, pos := "pack.go:114", after := #[{ on := 12, ground := Ground.data }, { on := 9, ground := Ground.chain }, { on := 0, ground := Ground.phase }, { on := 1, ground := Ground.phase }, { on := 2, ground := Ground.phase }, { on := 3, ground := Ground.phase }, { on := 4, ground := Ground.phase }, { on := 5, ground := Ground.phase }, { on := 6, ground := Ground.phase }, { on := 7, ground := Ground.phase }, { on := 8, ground := Ground.phase }, { on := 9, ground := Ground.phase }, { on := 10, ground := Ground.phase }, { on := 11, ground := Ground.phase }, { on := 12, ground := Ground.phase }], guard := none }) (v := _) rfl (by kernel_rfl) (by kernel_rfl) (by kernel_rfl) (fun _ _ _ h => h) (Or.inl ⟨by rfl, ?hyb_13⟩) (by assumption) ?reb_13
                      case hyb_13 => (intro W hSw; (try dsimp only at hSw); go_simp; try with_reducible rfl)
                      try simp only [Act.put, List.setIfInBounds_toArray, List.set_cons_zero, List.set_cons_succ]
                      refine wpAnyH_done (by kernel_rfl) ?_ _
                      refine NoPanic.normal ?_
                      refine hK29 _ _ (Met.intro (hJ29 _ _ ?_))
                      repeat apply Exists.intro
                      refine ⟨⟨rfl, BWw16.out⟩, rfl⟩
                  case rest =>
                    obtain ⟨rfl, X29⟩ := hcut
                    have Tc := hide (T15.out.later X29.out)
                    have HRc := hide (nrow_later (nrow_later HRe.out X15.out) X29.out)
                    have OPc := hide (own_later' (own_later' OPe.out X15.out) X29.out)
                    have OQc := hide (own_later' (own_later' OQe.out X15.out) X29.out)
                    have OTc := hide (own_later' (own_later' OTe.out X15.out) X29.out)
                    have OUc := hide (own_later' (own_later' OUe.out X15.out) X29.out)
                    clear OPe OQe OTe OUe HRe T15 Ti SSb c17b BA NRe BVe
                    have hgxz := Tc.out.2.2.2.2.2.2.1
                    have hNN : Hid ((∀ i, i < 5 → wc.ownsRow B 5 1 (five vp vq vt vu (.slice (some ⟨gx, 0, none⟩) (b.length + 80) (b.length + 80)) i) (Cs b n m s zs i).length (Lib.byteCells (Cs b n m s zs i))) ∧ (∀ i, i < 5 → ∀ g, (five vp vq vt vu (.slice (some ⟨gx, 0, none⟩) (b.length + 80) (b.length + 80)) i).ownBlock = some g → gx ≤ g ∧ g ≠ gr)) := by
                      have hBz : B ≤ z4 := by omega
                      have ow : ∀ {v : Value} {B' k : Nat} {l : List UInt8}, wc.ownsRow B' 5 1 v k (Lib.byteCells l) → B ≤ B' → wc.ownsRow B 5 1 v l.length (Lib.byteCells l) := fun h hB' => by
                        have e := h.1
                        rw [Lib.byteCells_length, Nat.mul_one] at e
                        rw [e]
                        exact ⟨h.1, h.2.imp id (fun ⟨g, cap, cur, a, b, r⟩ => ⟨g, cap, cur, a, Nat.le_trans hB' b, r⟩)⟩
                      refine ⟨five_all (P := fun i v => wc.ownsRow B 5 1 v (Cs b n m s zs i).length (Lib.byteCells (Cs b n m s zs i))) (ow OPc.out hBz) (ow OQc.out (by omega)) (ow OTc.out (by omega)) (ow OUc.out (by omega)) ?_, five_all (P := fun i v => ∀ g, v.ownBlock = some g → gx ≤ g ∧ g ≠ gr) ?_ ?_ ?_ ?_ ?_⟩
                      · have := Tc.out.2.1.owns (B := B) (n := (b ++ List.replicate 80 201).length) (by have := Tc.out.2.2.2.2.2.2.2.2.2.2.2.2; omega) (Nat.le_refl _) (by simp [maxLen]; omega)
                        rw [List.take_length] at this
                        have e : (b ++ List.replicate 80 (201 : UInt8)).length = b.length + 80 := by rw [List.length_append, List.length_replicate]
                        show wc.ownsRow B 5 1 (.slice (some ⟨gx, 0, none⟩) (b.length + 80) (b.length + 80)) (b ++ List.replicate 80 (201 : UInt8)).length (Lib.byteCells (b ++ List.replicate 80 (201 : UInt8)))
                        rw [e] at this ⊢
                        exact this
                      · exact fun g hg => by have := LP.out g hg; omega
                      · exact fun g hg => by have := LQ.out g hg; omega
                      · exact fun g hg => by have := LTt.out g hg; omega
                      · exact fun g hg => by have := LU.out g hg; omega
                      · intro g hg
                        have : gx = g := by simpa [Value.ownBlock] using hg
                        have := Tc.out.2.2.2.2.1
                        omega
                    have hxe : ∀ g, (Value.slice (some ⟨gx, 0, none⟩) (b.length + 80) (b.length + 80)).ownBlock = some g → g < z4 := fun g hg => by
                      have : gx = g := by simpa [Value.ownBlock] using hg
                      omega
                    have hAA := hide (five_apart (e := .slice (some ⟨gx, 0, none⟩) (b.length + 80) (b.length + 80)) z4 z5 z6 z7 hxe LP.out LQ.out LTt.out (fun g hg => (LU.out g hg).1) (by omega) (by omega) (by omega))
                    generalize hNV : five vp vq vt vu (.slice (some ⟨gx, 0, none⟩) (b.length + 80) (b.length + 80)) = NV at hNN hAA
                    have HNV := hide hNV
                    clear hNV
                    obtain ⟨aop, cp, hvp⟩ := own_len OPc.out
                    obtain ⟨aoq, cq, hvq⟩ := own_len OQc.out
                    obtain ⟨aot, ct, hvt⟩ := own_len OTc.out
                    obtain ⟨aou, cu, hvu⟩ := own_len OUc.out
                    obtain ⟨i22, hi22, h220, h221, h222⟩ := info_parts info22
                    have hK := Tc.out.1.1
                    have hnews : Hid (∀ (o : World), o = wc → ∀ j u, [vp, vq, vt, vu, Value.slice (some ⟨gx, 0, none⟩) (b.length + 80) (b.length + 80)][j]? = some u → (o.alloc (.cells #[vp, vq, vt, vu, Value.slice (some ⟨gx, 0, none⟩) (b.length + 80) (b.length + 80)] 22)).cell? ((⟨o.heap.size, 0, none⟩ : Addr).add j) = some u) := by
                      rintro o rfl j u hj
                      have hc := cell_of_row (o.alloc (.cells #[vp, vq, vt, vu, Value.slice (some ⟨gx, 0, none⟩) (b.length + 80) (b.length + 80)] 22)) o.heap.size j _ 22 (0, 0) (heap_alloc_new o _)
                      rw [add0, hc]
                      simpa using hj
                    have hbw := Tc.out.2.2.2.2.2.2.2.2.2.2.2.2
                    clear OPc OQc OTc OUc
                    subst hvp
                    subst hvq
                    subst hvt
                    subst hvu
                    have ht3 : 5 * t ≤ 15 := by omega
                    go_wp2_with (at_builtin; refine wpList_append_keep rfl _ _ 30 rfl B 22 i22 (.slice none 0 0) 1 24 Try.underlying30 hi22 h220 h221 h222 rfl (by decide) _ _ _ rfl (hK.alloc _) ⟨wc.heap.size, 0, none⟩ 5 5 _ rfl rfl (hnews.out wc rfl) ?c2 ?c3 ?c4 ?c5 ?_)
                    case c2 => intro u hu; simp at hu; rcases hu with rfl | rfl | rfl | rfl | rfl <;> rfl
                    case c3 => unfold maxLen; omega
                    case c4 => omega
                    case c5 => simp; omega
                    intro vk' w17 hown' hgrow hat _
                    have hsz17 := hgrow.size
                    have hals : ∀ o : Obj, (wc.alloc o).heap.size = wc.heap.size + 1 := fun o => by simp
                    have hat' : vk'.ownBlock = u13.ownBlock ∨ vk'.ownBlock = some (wc.heap.size + 1) := by
                      rcases hat with h | h
                      · exact .inl h
                      · first | exact .inr h | exact .inr (by rw [h, hals])
                    rw [hals] at hsz17
                    obtain ⟨tk, tr, tb, tg, tgx, tgl, txl, tw, t9, t10, t11, t12, tB⟩ := Tc.out
                    have KN := hide (Kp.push (nv := NV) tk (by omega) hNN.out.1 (fun j i hj hi => ap_less gx (fun g hg => t11 j hj g hg) (fun g hg => (hNN.out.2 i hi g hg).1)) hAA.out (fun i hi => (ap_less gx t12 (fun g hg => (hNN.out.2 i hi g hg).1)).symm) (fun i hi he => by have := (hNN.out.2 i hi B he).1; omega) (by rw [← HNV.out]; exact hown') hgrow (by rw [hals]; exact hat'))
                    have BN : Hid (B < w17.heap.size) := (show B < w17.heap.size by omega)
                    have RN : Hid (Nrow w17 gr (minus (zs.length + 80))) := (hgrow.block gr (by rw [hals]; omega) (fun e => t10 e.symm)).trans ((Go.heap_alloc_old wc _ tgl).trans HRc.out)
                    have AN : Hid ((∀ j, j < 5 * (t + 1) → (if j < 5 * t then vs j else NV (j - 5 * t)).ownBlock ≠ some gr) ∧ vk'.ownBlock ≠ some gr) := by
                      refine ⟨fun j hj he => ?_, fun he => ?_⟩
                      · by_cases hjt : j < 5 * t
                        · rw [if_pos hjt] at he
                          exact t9 j hjt he
                        · rw [if_neg hjt] at he
                          exact (hNN.out.2 (j - 5 * t) (by omega) gr he).2 rfl
                      · rcases hat' with h | h
                        · exact t10 (h ▸ he)
                        · rw [h] at he
                          have := Option.some.inj he
                          omega
                    clear hown' hgrow hat hNN hAA Tc HRc hnews hK tk tr tb t9 t10 t11 t12 HNV hat' hals
                    go_wp2
                    go_roundw
                    case rel => exact ⟨t + 1, _, by omega, by go_num, KN.out, BN.out, .inr ⟨by omega, gr, _, rfl, RN.out, minus_length _, tg, AN.out.1, AN.out.2⟩⟩
                    case measure => simp [intOf]; omega
    · obtain rfl : t = 3 := by omega
      clear RO
      have VB : Hid (∀ W : World, Below wr.heap.size wr W → Bs W (.slice ao b.length c) b ∧ NilOr (.slice ao b.length c)) := fun W hW => ⟨H.out.below (BW.out.trans (hW.mono BW.out.size)) (Nat.le_refl _), HV.out⟩
      obtain ⟨L0, hL0⟩ : ∃ L, L = Cs b n m s zs 0 := ⟨_, rfl⟩
      obtain ⟨L1, hL1⟩ : ∃ L, L = Cs b n m s zs 1 := ⟨_, rfl⟩
      obtain ⟨L2, hL2⟩ : ∃ L, L = Cs b n m s zs 2 := ⟨_, rfl⟩
      obtain ⟨L3, hL3⟩ : ∃ L, L = Cs b n m s zs 3 := ⟨_, rfl⟩
      have c14 : Hid (∀ W : World, Below wr.heap.size wr W → Calls Try.prog 14 #[.slice ao b.length c, .int .u64 n] W fun e W' => ∃ v', e = .returned v' ∧ (Bs W' v' L0 ∧ NilOr v') ∧ Below W.heap.size W W') := fun W hW => by rw [hL0]; exact rput_bs n (VB.out W hW) hn (by omega)
      have c15 : Hid (∀ W : World, Below wr.heap.size wr W → Calls Try.prog 15 #[.slice ao b.length c, .int .i64 m] W fun e W' => ∃ v', e = .returned v' ∧ (Bs W' v' L1 ∧ NilOr v') ∧ Below W.heap.size W W') := fun W hW => by rw [hL1]; exact rputInt_bs m (VB.out W hW) ⟨hm0, hm1⟩ (by omega)
      have c16 : Hid (∀ W : World, Below wr.heap.size wr W → Calls Try.prog 16 #[.slice ao b.length c, .string s] W fun e W' => ∃ v', e = .returned v' ∧ (Bs W' v' L2 ∧ NilOr v') ∧ Below W.heap.size W W') := fun W hW => by rw [hL2, show Cs b n m s zs 2 = b ++ (Lib.uvarint s.size ++ s.data.toList) from List.append_assoc _ _ _]; exact rputText_bs s (VB.out W hW) (by omega)
      have c17 : Hid (∀ W : World, Below wr.heap.size wr W → Calls Try.prog 17 #[.slice ao b.length c, .slice aol zs.length cl] W fun e W' => ∃ v', e = .returned v' ∧ (Bs W' v' L3 ∧ NilOr v') ∧ Below W.heap.size W W') := fun W hW => by rw [hL3]; exact rputRow_bs (VB.out W hW) (HL.out.below (BW.out.trans (hW.mono BW.out.size)) (Nat.le_refl _)) HZ.out hzl (by omega)
      have SSc : Hid (∀ W : World, Below wr.heap.size wr W → (Below wr.heap.size wr W ∧ True)) := fun W hW => ⟨hW, trivial⟩
      have HL0 := hide hL0
      have HL1 := hide hL1
      have HL2 := hide hL2
      have HL3 := hide hL3
      clear hL0 hL1 hL2 hL3
      rw [show ((3 : Nat) : Int) = 3 from rfl]
      go_wp2
      refine wp_region_noPanic ?_
      refine wp_region_held_drew (S := (fun W => Below wr.heap.size wr W ∧ True)) (by kernel_rfl) (SSc.out _ ⟨rfl, rfl, rfl, Nat.le_refl _, fun _ _ => rfl⟩) (fun hHeld => ?_)
      refine' wpAnyH_take (i := 0) (oi := { dst := some 197, op := Op.move (Operand.tmp 0), type := 22, pos := "pack.go:120", after := #[], guard := none }) (v := _) rfl (by kernel_rfl) (by kernel_rfl) (by kernel_rfl) (fun _ _ _ h => h) (Or.inl ⟨by rfl, ?hyc_0⟩) (by assumption) ?rec_0
      case hyc_0 => (intro W hSw; (try dsimp only at hSw); go_simp; try with_reducible rfl)
      try simp only [Act.put, List.setIfInBounds_toArray, List.set_cons_zero, List.set_cons_succ]
      refine' wpAnyH_take (i := 1) (oi := { dst := some 198, op := Op.move (Operand.tmp 1), type := 23, pos := "pack.go:120", after := #[], guard := none }) (v := _) rfl (by kernel_rfl) (by kernel_rfl) (by kernel_rfl) (fun _ _ _ h => h) (Or.inl ⟨by rfl, ?hyc_1⟩) (by assumption) ?rec_1
      case hyc_1 => (intro W hSw; (try dsimp only at hSw); go_simp; try with_reducible rfl)
      try simp only [Act.put, List.setIfInBounds_toArray, List.set_cons_zero, List.set_cons_succ]
      refine' wpAnyH_take (i := 4) (oi := { dst := some 201, op := Op.move (Operand.tmp 0), type := 22, pos := "pack.go:120", after := #[], guard := none }) (v := _) rfl (by kernel_rfl) (by kernel_rfl) (by kernel_rfl) (fun _ _ _ h => h) (Or.inl ⟨by rfl, ?hyc_4⟩) (by assumption) ?rec_4
      case hyc_4 => (intro W hSw; (try dsimp only at hSw); go_simp; try with_reducible rfl)
      try simp only [Act.put, List.setIfInBounds_toArray, List.set_cons_zero, List.set_cons_succ]
      refine' wpAnyH_take (i := 5) (oi := { dst := some 202, op := Op.move (Operand.tmp 2), type := 2, pos := "pack.go:120", after := #[], guard := none }) (v := _) rfl (by kernel_rfl) (by kernel_rfl) (by kernel_rfl) (fun _ _ _ h => h) (Or.inl ⟨by rfl, ?hyc_5⟩) (by assumption) ?rec_5
      case hyc_5 => (intro W hSw; (try dsimp only at hSw); go_simp; try with_reducible rfl)
      try simp only [Act.put, List.setIfInBounds_toArray, List.set_cons_zero, List.set_cons_succ]
      refine' wpAnyH_take (i := 8) (oi := { dst := some 205, op := Op.move (Operand.tmp 0), type := 22, pos := "pack.go:120", after := #[], guard := none }) (v := _) rfl (by kernel_rfl) (by kernel_rfl) (by kernel_rfl) (fun _ _ _ h => h) (Or.inl ⟨by rfl, ?hyc_8⟩) (by assumption) ?rec_8
      case hyc_8 => (intro W hSw; (try dsimp only at hSw); go_simp; try with_reducible rfl)
      try simp only [Act.put, List.setIfInBounds_toArray, List.set_cons_zero, List.set_cons_succ]
      refine' wpAnyH_take (i := 9) (oi := { dst := some 206, op := Op.move (Operand.tmp 3), type := 9, pos := "pack.go:120", after := #[], guard := none }) (v := _) rfl (by kernel_rfl) (by kernel_rfl) (by kernel_rfl) (fun _ _ _ h => h) (Or.inl ⟨by rfl, ?hyc_9⟩) (by assumption) ?rec_9
      case hyc_9 => (intro W hSw; (try dsimp only at hSw); go_simp; try with_reducible rfl)
      try simp only [Act.put, List.setIfInBounds_toArray, List.set_cons_zero, List.set_cons_succ]
      refine' wpAnyH_take (i := 12) (oi := { dst := some 209, op := Op.move (Operand.tmp 0), type := 22, pos := "pack.go:120", after := #[], guard := none }) (v := _) rfl (by kernel_rfl) (by kernel_rfl) (by kernel_rfl) (fun _ _ _ h => h) (Or.inl ⟨by rfl, ?hyc_12⟩) (by assumption) ?rec_12
      case hyc_12 => (intro W hSw; (try dsimp only at hSw); go_simp; try with_reducible rfl)
      try simp only [Act.put, List.setIfInBounds_toArray, List.set_cons_zero, List.set_cons_succ]
      refine' wpAnyH_take (i := 13) (oi := { dst := some 210, op := Op.move (Operand.tmp 4), type := 24, pos := "pack.go:120", after := #[], guard := none }) (v := _) rfl (by kernel_rfl) (by kernel_rfl) (by kernel_rfl) (fun _ _ _ h => h) (Or.inl ⟨by rfl, ?hyc_13⟩) (by assumption) ?rec_13
      case hyc_13 => (intro W hSw; (try dsimp only at hSw); go_simp; try with_reducible rfl)
      try simp only [Act.put, List.setIfInBounds_toArray, List.set_cons_zero, List.set_cons_succ]
      refine wpAnyH_ready (rs := [2]) (by kernel_rfl) (by simp) ?_
      refine AllReadyH.cons (o := { dst := some 199, op := Op.call { callee := Callee.value (Operand.func 14), args := #[Operand.tmp 197, Operand.tmp 198], argTypes := #[22, 23] }, type := 22, pos := "pack.go:120", after := #[{ on := 0, ground := Ground.data }, { on := 1, ground := Ground.data }], guard := none }) rfl (fun K hK => ?_) AllReadyH.nil
      go_simp
      go_at_call 14
      refine (c14.out wr.drew ⟨rfl, rfl, rfl, Nat.le_refl _, fun _ _ => rfl⟩).mono ?_
      clear hHeld
      rintro e y1 ⟨e1v, rfl, dy1, by1⟩
      try go_wp2_with fail
      have Xy1 : Hid (Below wr.heap.size wr y1) := ⟨by1.os, by1.tape, by1.output, by1.size, by1.block⟩
      have BWy1 : Hid (Below wr.heap.size wr y1) := Xy1.out
      have SSy1 : Hid (∀ W : World, Below y1.heap.size y1 W → (Below y1.heap.size y1 W ∧ (convert 22 9 e1v).run Try.prog W = .ok (.string ⟨L0.toArray⟩) W ∧ True)) := fun W hW => ⟨hW, conv_bs (dy1.1.below hW (Nat.le_refl _)), (SSc.out W (Xy1.out.trans (hW.mono Xy1.out.size))).2⟩
      refine hK.out _ _ (SSc.out y1 Xy1.out) (fun _ => ?_)
      refine wpAnyH_more (S' := fun W => Below y1.heap.size y1 W ∧ (convert 22 9 e1v).run Try.prog W = .ok (.string ⟨L0.toArray⟩) W ∧ True) (fun W hW => SSc.out W (Xy1.out.trans (hW.1.mono Xy1.out.size))) _ _ _ _ ?_
      have hHeld := SSy1.out y1 (Below.refl _ _)
      clear hK K dy1 by1
      try simp only [Act.put, List.setIfInBounds_toArray, List.set_cons_zero, List.set_cons_succ]
      refine' wpAnyH_take (i := 3) (oi := { dst := some 200, op := Op.convert 22 9 (Operand.tmp 199), type := 9, pos := "pack.go:120", after := #[{ on := 2, ground := Ground.data }], guard := none }) (v := _) rfl (by kernel_rfl) (by kernel_rfl) (by kernel_rfl) (fun _ _ _ h => h) (Or.inl ⟨by rfl, ?hyc_3⟩) (by assumption) ?rec_3
      case hyc_3 => (intro W hSw; (try dsimp only at hSw); go_simp; try with_reducible rfl)
      try simp only [Act.put, List.setIfInBounds_toArray, List.set_cons_zero, List.set_cons_succ]
      refine wpAnyH_ready (rs := [6]) (by kernel_rfl) (by simp) ?_
      refine AllReadyH.cons (o := { dst := some 203, op := Op.call { callee := Callee.value (Operand.func 15), args := #[Operand.tmp 201, Operand.tmp 202], argTypes := #[22, 2] }, type := 22, pos := "pack.go:120", after := #[{ on := 4, ground := Ground.data }, { on := 5, ground := Ground.data }, { on := 2, ground := Ground.chain }], guard := none }) rfl (fun K hK => ?_) AllReadyH.nil
      go_simp
      go_at_call 15
      refine (c15.out y1 BWy1.out).mono ?_
      clear hHeld
      rintro e y2 ⟨e2v, rfl, dy2, by2⟩
      try go_wp2_with fail
      have Xy2 : Hid (Below y1.heap.size y1 y2) := ⟨by2.os, by2.tape, by2.output, by2.size, by2.block⟩
      have BWy2 : Hid (Below wr.heap.size wr y2) := BWy1.out.trans (Xy2.out.mono BWy1.out.size)
      have SSy2 : Hid (∀ W : World, Below y2.heap.size y2 W → (Below y2.heap.size y2 W ∧ (convert 22 9 e2v).run Try.prog W = .ok (.string ⟨L1.toArray⟩) W ∧ (convert 22 9 e1v).run Try.prog W = .ok (.string ⟨L0.toArray⟩) W ∧ True)) := fun W hW => ⟨hW, conv_bs (dy2.1.below hW (Nat.le_refl _)), (SSy1.out W (Xy2.out.trans (hW.mono Xy2.out.size))).2⟩
      refine hK.out _ _ (SSy1.out y2 Xy2.out) (fun _ => ?_)
      refine wpAnyH_more (S' := fun W => Below y2.heap.size y2 W ∧ (convert 22 9 e2v).run Try.prog W = .ok (.string ⟨L1.toArray⟩) W ∧ (convert 22 9 e1v).run Try.prog W = .ok (.string ⟨L0.toArray⟩) W ∧ True) (fun W hW => SSy1.out W (Xy2.out.trans (hW.1.mono Xy2.out.size))) _ _ _ _ ?_
      have hHeld := SSy2.out y2 (Below.refl _ _)
      clear hK K dy2 by2
      try simp only [Act.put, List.setIfInBounds_toArray, List.set_cons_zero, List.set_cons_succ]
      refine' wpAnyH_take (i := 7) (oi := { dst := some 204, op := Op.convert 22 9 (Operand.tmp 203), type := 9, pos := "pack.go:120", after := #[{ on := 6, ground := Ground.data }], guard := none }) (v := _) rfl (by kernel_rfl) (by kernel_rfl) (by kernel_rfl) (fun _ _ _ h => h) (Or.inl ⟨by rfl, ?hyc_7⟩) (by assumption) ?rec_7
      case hyc_7 => (intro W hSw; (try dsimp only at hSw); go_simp; try with_reducible rfl)
      try simp only [Act.put, List.setIfInBounds_toArray, List.set_cons_zero, List.set_cons_succ]
      refine wpAnyH_ready (rs := [10]) (by kernel_rfl) (by simp) ?_
      refine AllReadyH.cons (o := { dst := some 207, op := Op.call { callee := Callee.value (Operand.func 16), args := #[Operand.tmp 205, Operand.tmp 206], argTypes := #[22, 9] }, type := 22, pos := "pack.go:120", after := #[{ on := 8, ground := Ground.data }, { on := 9, ground := Ground.data }, { on := 6, ground := Ground.chain }], guard := none }) rfl (fun K hK => ?_) AllReadyH.nil
      go_simp
      go_at_call 16
      refine (c16.out y2 BWy2.out).mono ?_
      clear hHeld
      rintro e y3 ⟨e3v, rfl, dy3, by3⟩
      try go_wp2_with fail
      have Xy3 : Hid (Below y2.heap.size y2 y3) := ⟨by3.os, by3.tape, by3.output, by3.size, by3.block⟩
      have BWy3 : Hid (Below wr.heap.size wr y3) := BWy2.out.trans (Xy3.out.mono BWy2.out.size)
      have SSy3 : Hid (∀ W : World, Below y3.heap.size y3 W → (Below y3.heap.size y3 W ∧ (convert 22 9 e3v).run Try.prog W = .ok (.string ⟨L2.toArray⟩) W ∧ (convert 22 9 e2v).run Try.prog W = .ok (.string ⟨L1.toArray⟩) W ∧ (convert 22 9 e1v).run Try.prog W = .ok (.string ⟨L0.toArray⟩) W ∧ True)) := fun W hW => ⟨hW, conv_bs (dy3.1.below hW (Nat.le_refl _)), (SSy2.out W (Xy3.out.trans (hW.mono Xy3.out.size))).2⟩
      refine hK.out _ _ (SSy2.out y3 Xy3.out) (fun _ => ?_)
      refine wpAnyH_more (S' := fun W => Below y3.heap.size y3 W ∧ (convert 22 9 e3v).run Try.prog W = .ok (.string ⟨L2.toArray⟩) W ∧ (convert 22 9 e2v).run Try.prog W = .ok (.string ⟨L1.toArray⟩) W ∧ (convert 22 9 e1v).run Try.prog W = .ok (.string ⟨L0.toArray⟩) W ∧ True) (fun W hW => SSy2.out W (Xy3.out.trans (hW.1.mono Xy3.out.size))) _ _ _ _ ?_
      have hHeld := SSy3.out y3 (Below.refl _ _)
      clear hK K dy3 by3
      try simp only [Act.put, List.setIfInBounds_toArray, List.set_cons_zero, List.set_cons_succ]
      refine' wpAnyH_take (i := 11) (oi := { dst := some 208, op := Op.convert 22 9 (Operand.tmp 207), type := 9, pos := "pack.go:120", after := #[{ on := 10, ground := Ground.data }], guard := none }) (v := _) rfl (by kernel_rfl) (by kernel_rfl) (by kernel_rfl) (fun _ _ _ h => h) (Or.inl ⟨by rfl, ?hyc_11⟩) (by assumption) ?rec_11
      case hyc_11 => (intro W hSw; (try dsimp only at hSw); go_simp; try with_reducible rfl)
      try simp only [Act.put, List.setIfInBounds_toArray, List.set_cons_zero, List.set_cons_succ]
      refine wpAnyH_ready (rs := [14]) (by kernel_rfl) (by simp) ?_
      refine AllReadyH.cons (o := { dst := some 211, op := Op.call { callee := Callee.value (Operand.func 17), args := #[Operand.tmp 209, Operand.tmp 210], argTypes := #[22, 24] }, type := 22, pos := "pack.go:120", after := #[{ on := 12, ground := Ground.data }, { on := 13, ground := Ground.data }, { on := 10, ground := Ground.chain }], guard := none }) rfl (fun K hK => ?_) AllReadyH.nil
      go_simp
      go_at_call 17
      refine (c17.out y3 BWy3.out).mono ?_
      clear hHeld
      rintro e y4 ⟨e4v, rfl, dy4, by4⟩
      try go_wp2_with fail
      have Xy4 : Hid (Below y3.heap.size y3 y4) := ⟨by4.os, by4.tape, by4.output, by4.size, by4.block⟩
      have BWy4 : Hid (Below wr.heap.size wr y4) := BWy3.out.trans (Xy4.out.mono BWy3.out.size)
      have SSy4 : Hid (∀ W : World, Below y4.heap.size y4 W → (Below y4.heap.size y4 W ∧ (convert 22 9 e4v).run Try.prog W = .ok (.string ⟨L3.toArray⟩) W ∧ (convert 22 9 e3v).run Try.prog W = .ok (.string ⟨L2.toArray⟩) W ∧ (convert 22 9 e2v).run Try.prog W = .ok (.string ⟨L1.toArray⟩) W ∧ (convert 22 9 e1v).run Try.prog W = .ok (.string ⟨L0.toArray⟩) W ∧ True)) := fun W hW => ⟨hW, conv_bs (dy4.1.below hW (Nat.le_refl _)), (SSy3.out W (Xy4.out.trans (hW.mono Xy4.out.size))).2⟩
      refine hK.out _ _ (SSy3.out y4 Xy4.out) (fun _ => ?_)
      refine wpAnyH_more (S' := fun W => Below y4.heap.size y4 W ∧ (convert 22 9 e4v).run Try.prog W = .ok (.string ⟨L3.toArray⟩) W ∧ (convert 22 9 e3v).run Try.prog W = .ok (.string ⟨L2.toArray⟩) W ∧ (convert 22 9 e2v).run Try.prog W = .ok (.string ⟨L1.toArray⟩) W ∧ (convert 22 9 e1v).run Try.prog W = .ok (.string ⟨L0.toArray⟩) W ∧ True) (fun W hW => SSy3.out W (Xy4.out.trans (hW.1.mono Xy4.out.size))) _ _ _ _ ?_
      have hHeld := SSy4.out y4 (Below.refl _ _)
      clear hK K dy4 by4
      try simp only [Act.put, List.setIfInBounds_toArray, List.set_cons_zero, List.set_cons_succ]
      refine' wpAnyH_take (i := 15) (oi := { dst := some 212, op := Op.convert 22 9 (Operand.tmp 211), type := 9, pos := "pack.go:120", after := #[{ on := 14, ground := Ground.data }], guard := none }) (v := _) rfl (by kernel_rfl) (by kernel_rfl) (by kernel_rfl) (fun _ _ _ h => h) (Or.inl ⟨by rfl, ?hyc_15⟩) (by assumption) ?rec_15
      case hyc_15 => (intro W hSw; (try dsimp only at hSw); go_simp; try with_reducible rfl)
      try simp only [Act.put, List.setIfInBounds_toArray, List.set_cons_zero, List.set_cons_succ]
      refine wpAnyH_ready (rs := [16]) (by kernel_rfl) (by simp) ?_
      refine AllReadyH.cons (o := { dst := some 213, op := Op.buildSlice 37 4 #[(0, Operand.tmp 200), (1, Operand.tmp 204), (2, Operand.tmp 208), (3, Operand.tmp 212)], type := 37, pos := "pack.go:120", after := #[{ on := 3, ground := Ground.data }, { on := 7, ground := Ground.data }, { on := 11, ground := Ground.data }, { on := 15, ground := Ground.data }], guard := none }) rfl (fun K hK => ?_) AllReadyH.nil
      clear hHeld
      go_simp
      refine hK.out _ _ (SSy4.out _ ((Below.refl _ _).alloc (Nat.le_refl _) _)) (fun hHeld => ?_)
      clear hK K
      try simp only [Act.put, List.setIfInBounds_toArray, List.set_cons_zero, List.set_cons_succ]
      refine' wpAnyH_take (i := 17) (oi := { dst := some 27, op := Op.assign (Operand.tmp 213), type := 37, pos := "pack.go:120", after := #[{ on := 16, ground := Ground.data }, { on := 14, ground := Ground.chain }, { on := 0, ground := Ground.phase }, { on := 1, ground := Ground.phase }, { on := 2, ground := Ground.phase }, { on := 3, ground := Ground.phase }, { on := 4, ground := Ground.phase }, { on := 5, ground := Ground.phase }, { on := 6, ground := Ground.phase }, { on := 7, ground := Ground.phase }, { on := 8, ground := Ground.phase }, { on := 9, ground := Ground.phase }, { on := 10, ground := Ground.phase }, { on := 11, ground := Ground.phase }, { on := 12, ground := Ground.phase }, { on := 13, ground := Ground.phase }, { on := 14, ground := Ground.phase }, { on := 15, ground := Ground.phase }, { on := 16, ground := Ground.phase }], guard := none }) (v := _) rfl (by kernel_rfl) (by kernel_rfl) (by kernel_rfl) (fun _ _ _ h => h) (Or.inl ⟨by rfl, ?hyc_17⟩) (by assumption) ?rec_17
      case hyc_17 => (intro W hSw; (try dsimp only at hSw); go_simp; try with_reducible rfl)
      try simp only [Act.put, List.setIfInBounds_toArray, List.set_cons_zero, List.set_cons_succ]
      refine wpAnyH_done (by kernel_rfl) ?_ _
      refine NoPanic.normal ?_
      go_wp2
      have Xy5 : Hid (Below wr.heap.size wr (y4.alloc (.cells #[.string ⟨L0.toArray⟩, .string ⟨L1.toArray⟩, .string ⟨L2.toArray⟩, .string ⟨L3.toArray⟩] 9))) := BWy4.out.alloc BWy4.out.size _
      have K5 := hide (KP.out.later Xy5.out (by omega))
      have BW5 := hide (BW.out.trans (Xy5.out.mono BW.out.size))
      have hstr : Hid ((y4.alloc (.cells #[.string ⟨L0.toArray⟩, .string ⟨L1.toArray⟩, .string ⟨L2.toArray⟩, .string ⟨L3.toArray⟩] 9)).heap[y4.heap.size]? = some (.cells #[.string ⟨L0.toArray⟩, .string ⟨L1.toArray⟩, .string ⟨L2.toArray⟩, .string ⟨L3.toArray⟩] 9 (0, 0))) := heap_alloc_new y4 _
      have hBy : B < (y4.alloc (.cells #[.string ⟨L0.toArray⟩, .string ⟨L1.toArray⟩, .string ⟨L2.toArray⟩, .string ⟨L3.toArray⟩] 9)).heap.size := by
        have := Xy5.out.size
        omega
      clear hHeld SSy1 SSy2 SSy3 SSy4 BWy1 BWy2 BWy3 BWy4 Xy1 Xy2 Xy3 Xy4 Xy5 c14 c15 c16 c17 VB SSc KP BW
      generalize hgs : y4.heap.size = gs at *
      clear hgs
      generalize hy5 : (y4.alloc (.cells #[.string ⟨L0.toArray⟩, .string ⟨L1.toArray⟩, .string ⟨L2.toArray⟩, .string ⟨L3.toArray⟩] 9)) = y5 at *
      clear hy5
      obtain ⟨gk, ck, hvk, hgk1, hck1, hck2⟩ : ∃ g c, u13 = .slice (some ⟨g, 0, none⟩) 15 c ∧ B ≤ g ∧ 15 ≤ c ∧ c ≤ maxLen := by
        rcases K5.out.1.2 with ⟨_, h0⟩ | ⟨g, cap, cur, h, h1, h2, h3, h4, h5⟩
        · omega
        · exact ⟨g, cap, h, h1, h3, h4⟩
      subst hvk
      have hkc : Hid (∀ j, j < 15 → y5.cell? ⟨gk, j, none⟩ = some (vs j)) := fun j hj => by
        rw [World.ownsRow.cellAt K5.out.1 j (by omega)]
        simp [hj]
      have hcv : Hid (∀ j, j < 15 → ∀ d, (convert 22 9 (vs j)).run Try.prog (y5.drewN d) = .ok (.string ⟨(Cs b n m s zs (j % 5)).toArray⟩) (y5.drewN d)) := fun j hj d => conv_bs (w := y5.drewN d) (own_bs (K5.out.2.1 j hj))
      unfold maxLen at hck2
      have hq : Hid (∀ k, k < 4 → y5.cell? ⟨gs, k, none⟩ = some (.string ⟨(Cs b n m s zs k).toArray⟩)) := fun k hk => by
        rw [cell_of_row y5 gs k _ 9 (0, 0) hstr.out]
        have : k = 0 ∨ k = 1 ∨ k = 2 ∨ k = 3 := by omega
        rcases this with rfl | rfl | rfl | rfl
        · rw [← HL0.out]; rfl
        · rw [← HL1.out]; rfl
        · rw [← HL2.out]; rfl
        · rw [← HL3.out]; rfl
      go_loopw [28] (fun vi wr' => ∃ i : Nat, i ≤ 15 ∧ vi = .int .i64 i ∧ ∃ d, wr' = y5.drewN d) (fun vi _ => 15 - (intOf vi).toNat)
      case atStart => exact ⟨0, Nat.zero_le _, rfl, 0, rfl⟩
      case round =>
        obtain ⟨i, hi, rfl, d, rfl⟩ := hrel
        by_cases hi15 : i < 15
        · have e3 : (i : Int) < 15 := by omega
          have hc1 := hkc.out i hi15
          have hc2 := hcv.out i hi15
          obtain ⟨r, hr⟩ : ∃ r, r = i % 5 := ⟨_, rfl⟩
          have hri : (i : Int) % 5 = (r : Int) := by omega
          rw [← hr] at hc2
          have hr5 : r < 5 := by omega
          have HRr := hide hr
          clear hr
          by_cases hr4 : r < 4
          · have hc3 := hq.out r hr4
            have z1 : (r : Int) < 4 := by omega
            have z2 : decide ((r : Int) < 4) = true := by simp; omega
            have z3 : (Cs b n m s zs r == Cs b n m s zs r) = true := by simp
            generalize Cs b n m s zs r = Lr at *
            go_wp2
            go_quiet (fail)
            go_wp2
            go_roundw
            case rel => exact ⟨i + 1, by omega, by go_num, d + nq, by simp⟩
            case measure => simp [intOf]; omega
          · have z1 : ¬ (r : Int) < 4 := by omega
            have z2 : decide ((r : Int) < 4) = false := by simp; omega
            go_wp2
            go_quiet (fail)
            go_wp2
            go_roundw
            case rel => exact ⟨i + 1, by omega, by go_num, d + nq, by simp⟩
            case measure => simp [intOf]; omega
        · obtain rfl : i = 15 := by omega
          rw [show ((15 : Nat) : Int) = 15 from rfl]
          have KD : Hid (Kp w1 (y5.drewN d) B B 3 (Cs b n m s zs) vs (.slice (some ⟨gk, 0, none⟩) 15 ck)) := K5.out.later (below_drew' ⟨d, rfl⟩) (by omega)
          obtain ⟨a1, a2, a3, a4, a5, a6, a7, a8⟩ := KD.out
          have lk := KD.out.lt
          have hgg : B ≠ gk := fun e => a6 (by rw [e]; rfl)
          have hlen : ∀ j, (Cs b n m s zs j).length ≤ 140737488351232 := hCl.out
          have hgo0 : (y5.drewN d).cell? ⟨B, 0, none⟩ = some (.slice none 0 0) := by rw [cell_of_row (y5.drewN d) B 0 _ 29 (0, 0) a7]; rfl
          have FL := hide (fill_any B gk ck 15 B vs (fun j => (Cs b n m s zs (j % 5)).length) (y5.drewN d) (by omega) hck1 (by unfold maxLen; omega) (by show B ≤ y5.heap.size; omega) (Nat.le_refl _) lk.2.2 hgk1 (lk.2.1 gk rfl).2 hgg hgo0 a7 hkc.out (fun j hj => ⟨_, a2 j hj⟩) (fun j hj => hlen _) (fun j hj => ⟨a5 j hj, fun he => a4 j hj gk he rfl⟩) a3)
          have BWd : Hid (Below w.heap.size w (y5.drewN d)) := BW5.out.trans (below_drew' ⟨d, rfl⟩)
          have V14 : Hid (∃ a c, vs 14 = .slice (some ⟨a, 0, none⟩) (b.length + 80) c ∧ b.length + 80 ≤ c ∧ c ≤ maxLen) := by
            have h14 := a2 14 (by omega)
            have e : (Cs b n m s zs (14 % 5)).length = b.length + 80 := by
              show (b ++ List.replicate 80 (201 : UInt8)).length = _
              rw [List.length_append, List.length_replicate]
            rw [e] at h14
            rcases h14.2 with ⟨_, h0⟩ | ⟨g, cap, cur, h, h1, h2, h3, h4, h5⟩
            · omega
            · exact ⟨g, cap, h, h3, h4⟩
          clear a1 a2 a3 a4 a5 a6 a7 a8 hgo0 hlen hcv hq hstr
          have HK5 : Hid (∀ j, j < 15 → (y5.drewN d).cell? ⟨gk, j, none⟩ = some (vs j)) := hkc.out
          generalize hyd : y5.drewN d = yd at *
          clear hyd
          go_wp2_with fail
          refine FL.out.mono ?_
          rintro e x1 ⟨rfl, hfd⟩
          have FD := hide hfd
          clear hfd FL
          obtain ⟨vo, ev, em, hr, hee, hrd, hfl⟩ := FD.out
          obtain ⟨gv, cv, hvo, hcv1, hcv2⟩ : ∃ g c, vo = .slice (some ⟨g, 0, none⟩) (15 + 15) c ∧ 15 + 15 ≤ c ∧ c ≤ maxLen := by
            rcases hr.1.2 with ⟨_, h0⟩ | ⟨g, cap, cur, h, h1, h2, h3, h4, h5⟩
            · omega
            · exact ⟨g, cap, h, h3, h4⟩
          have hco : x1.cell? ⟨B, 0, none⟩ = some vo := by rw [cell_of_row x1 B 0 _ 29 (0, 0) hr.2.1]; rfl
          have hown := hr.1
          rw [hvo] at hco hown
          have emx : ∀ j, j < 15 + 15 → em j < 256 ∧ Reads x1 (ev j) (em j) := fun j hj => by
            by_cases hj15 : j < 15
            · have h := hee j hj15
              rw [h.1, h.2.1]
              exact ⟨by omega, reads_of (KD.out.2.1 j hj15) (hrd j hj15)⟩
            · have h := hee (j - 15) (by omega)
              have e : 15 + (j - 15) = j := by omega
              have hf := hfl (j - 15) (by omega)
              rw [e] at h hf
              rw [h.2.2]
              exact ⟨by omega, reads_of hf hf.read⟩
          have LK := hide (looks_any B gv (15 + 15) cv ev em x1 (by omega) hcv1 hcv2 hco (fun j hj => (hown.cellAt (j * 2) (by omega)).trans (ents_at ev em (15 + 15) j hj).1) (fun j hj => (hown.cellAt (j * 2 + 1) (by omega)).trans (ents_at ev em (15 + 15) j hj).2) (fun j hj => (emx j hj).2) (fun j hj => (emx j hj).1))
          have BX1 : Hid (Below w.heap.size w x1) := BWd.out.trans (hr.2.2.2.1.mono hz1')
          have C14 : Hid (x1.cell? ⟨gk, 14, none⟩ = some (vs 14)) := (World.cell?_of_block hr.2.2.1).trans (HK5.out 14 (by omega))
          have R14 : Hid (Read8 x1 (vs 14) (b.length + 80) 15) := by
            have this : Read8 x1 (vs 14) (Cs b n m s zs (14 % 5)).length (14 + 1) := hrd 14 (by omega)
            have e : (Cs b n m s zs (14 % 5)).length = b.length + 80 := by
              show (b ++ List.replicate 80 (201 : UInt8)).length = _
              rw [List.length_append, List.length_replicate]
            rw [e] at this
            exact this
          clear hr hee hrd hfl hco hown emx FD
          go_wp2_with fail
          refine LK.out.mono ?_
          rintro e x2 ⟨rfl, hd2⟩
          obtain ⟨g14, c14, hv14, h14a, h14b⟩ := V14.out
          have C14' := C14.out
          have R14' := R14.out
          rw [hv14] at C14' R14'
          have hc14 : x2.cell? ⟨gk, 14, none⟩ = some (.slice (some ⟨g14, 0, none⟩) (b.length + 80) c14) := by obtain ⟨d2, rfl⟩ := hd2; exact C14'
          have BY : Hid (Bs x2 (.slice (some ⟨g14, 0, none⟩) b.length c14) (List.replicate b.length 15)) := by
            have := Bs.row (w := x2) (g := g14) (o := 0) (c := c14) (l := List.replicate b.length 15) (by simp; omega) h14b (fun j hj => by
              simp at hj
              obtain ⟨d2, rfl⟩ := hd2
              rw [Nat.zero_add, List.getElem_replicate]
              exact R14' g14 j rfl (by omega))
            rw [List.length_replicate] at this
            exact this
          have BX2 : Hid (Below w.heap.size w x2) := BX1.out.trans (below_drew' hd2)
          have hown0 := World.ownsRow_lit (base := x2.heap.size) (e := 5) (size := 1) x2 #[] 0 (Nat.le_refl _) (Nat.zero_le _) rfl
          have BY2 := BY.out.below ((Below.refl _ _).alloc (Nat.le_refl _) (.cells #[] 5)) (Nat.le_refl _)
          unfold maxLen at h14b
          clear LK hd2 C14 R14 C14' R14' V14
          go_wp2_with (at_builtin; refine wpList_append_bs _ rfl _ _ rfl x2.heap.size _ _ _ rfl hown0 _ (List.replicate b.length 15) rfl BY2 (.inr ⟨_, _, _, rfl⟩) ?k1 ?k2 ?_)
          case k1 => simp; omega
          case k2 => simp
          intro vz x3 hoz hbz
          as_aux_lemma =>
            have X3 : Hid (Below x2.heap.size x2 x3) := ((Below.refl _ _).alloc (Nat.le_refl _) _).trans hbz
            have BX3 : Hid (Below w.heap.size w x3) := BX2.out.trans (X3.out.mono BX2.out.size)
            have OZ : Hid (Bs x3 vz (List.replicate b.length 15) ∧ NilOr vz) := by
              exact ⟨own_bs hoz, own_nil hoz⟩
            have BY3 := hide (BY.out.below X3.out (Nat.le_refl _))
            have lb : (List.replicate b.length (15 : UInt8)).length = b.length := List.length_replicate
            have LN3 : Hid (∀ W : World, Below x3.heap.size x3 W → Ns W (.slice aol zs.length cl) zs) := fun W hW => HL.out.below (BX3.out.trans (hW.mono BX3.out.size)) (Nat.le_refl _)
            generalize List.replicate b.length (15 : UInt8) = lz at *
            obtain ⟨M0, hM0⟩ : ∃ L, L = lz ++ Lib.uvarint n := ⟨_, rfl⟩
            obtain ⟨M1, hM1⟩ : ∃ L, L = lz ++ Lib.uvarint (Lib.zigzag m) := ⟨_, rfl⟩
            obtain ⟨M2, hM2⟩ : ∃ L, L = lz ++ Lib.uvarint s.size ++ s.data.toList := ⟨_, rfl⟩
            obtain ⟨M3, hM3⟩ : ∃ L, L = lz ++ Rw.rowB zs := ⟨_, rfl⟩
            have d10 : Hid (∀ W : World, Below x3.heap.size x3 W → Calls Try.prog 10 #[.slice (some ⟨g14, 0, none⟩) b.length c14, .int .u64 n] W fun e W' => ∃ v', e = .returned v' ∧ (Bs W' v' M0 ∧ NilOr v') ∧ Below W.heap.size W W') := fun W hW => by rw [hM0]; exact (put_any _ lz n W (BY3.out.below hW (Nat.le_refl _)) hn (by omega)).mono fun _ _ ⟨v', a, o, d⟩ => ⟨v', a, ⟨own_bs o, own_nil o⟩, d⟩
            have d11 : Hid (∀ W : World, Below x3.heap.size x3 W → Calls Try.prog 11 #[.slice (some ⟨g14, 0, none⟩) b.length c14, .int .i64 m] W fun e W' => ∃ v', e = .returned v' ∧ (Bs W' v' M1 ∧ NilOr v') ∧ Below W.heap.size W W') := fun W hW => by rw [hM1]; exact (putInt_any _ lz m W (BY3.out.below hW (Nat.le_refl _)) hm0 hm1 (by omega)).mono fun _ _ ⟨v', a, o, d⟩ => ⟨v', a, ⟨own_bs o, own_nil o⟩, d⟩
            have d12 : Hid (∀ W : World, Below x3.heap.size x3 W → Calls Try.prog 12 #[.slice (some ⟨g14, 0, none⟩) b.length c14, .string s] W fun e W' => ∃ v', e = .returned v' ∧ (Bs W' v' M2 ∧ NilOr v') ∧ Below W.heap.size W W') := fun W hW => by rw [hM2]; exact (putText_any _ lz s W (BY3.out.below hW (Nat.le_refl _)) (by omega)).mono fun _ _ ⟨v', a, o, d⟩ => ⟨v', a, ⟨own_bs o, own_nil o⟩, d⟩
            have d13 : Hid (∀ W : World, Below x3.heap.size x3 W → Calls Try.prog 13 #[.slice (some ⟨g14, 0, none⟩) b.length c14, .slice aol zs.length cl] W fun e W' => ∃ v', e = .returned v' ∧ (Bs W' v' M3 ∧ NilOr v') ∧ Below W.heap.size W W') := fun W hW => by rw [hM3]; exact (putRow_any _ _ lz zs W (BY3.out.below hW (Nat.le_refl _)) (LN3.out W hW) HZ.out hzl (by omega)).mono fun _ _ ⟨v', a, o, d⟩ => ⟨v', a, ⟨own_bs o, own_nil o⟩, d⟩
            have d14 : Hid (∀ W : World, Below x3.heap.size x3 W → Calls Try.prog 14 #[vz, .int .u64 n] W fun e W' => ∃ v', e = .returned v' ∧ (Bs W' v' M0 ∧ NilOr v') ∧ Below W.heap.size W W') := fun W hW => by rw [hM0]; exact rput_bs n (bsn_below OZ.out hW) hn (by omega)
            have d15 : Hid (∀ W : World, Below x3.heap.size x3 W → Calls Try.prog 15 #[vz, .int .i64 m] W fun e W' => ∃ v', e = .returned v' ∧ (Bs W' v' M1 ∧ NilOr v') ∧ Below W.heap.size W W') := fun W hW => by rw [hM1]; exact rputInt_bs m (bsn_below OZ.out hW) ⟨hm0, hm1⟩ (by omega)
            have d16 : Hid (∀ W : World, Below x3.heap.size x3 W → Calls Try.prog 16 #[vz, .string s] W fun e W' => ∃ v', e = .returned v' ∧ (Bs W' v' M2 ∧ NilOr v') ∧ Below W.heap.size W W') := fun W hW => by rw [hM2, List.append_assoc]; exact rputText_bs s (bsn_below OZ.out hW) (by omega)
            have d17 : Hid (∀ W : World, Below x3.heap.size x3 W → Calls Try.prog 17 #[vz, .slice aol zs.length cl] W fun e W' => ∃ v', e = .returned v' ∧ (Bs W' v' M3 ∧ NilOr v') ∧ Below W.heap.size W W') := fun W hW => by rw [hM3]; exact rputRow_bs (bsn_below OZ.out hW) (LN3.out W hW) HZ.out hzl (by omega)
            have SSd : Hid (∀ W : World, Below x3.heap.size x3 W → (Below x3.heap.size x3 W ∧ True)) := fun W hW => ⟨hW, trivial⟩
            have HM0 := hide hM0
            have HM1 := hide hM1
            have HM2 := hide hM2
            have HM3 := hide hM3
            clear hM0 hM1 hM2 hM3 hoz hbz hown0 BY2 hc14 lb
            go_wp2
            refine wp_region_noPanic ?_
            refine wp_region_held_drew (S := (fun W => Below x3.heap.size x3 W ∧ True)) (by kernel_rfl) (SSd.out _ ⟨rfl, rfl, rfl, Nat.le_refl _, fun _ _ => rfl⟩) (fun hHeld => ?_)
            refine' wpAnyH_take (i := 0) (oi := { dst := some 250, op := Op.move (Operand.tmp 29), type := 4, pos := "pack.go:131", after := #[], guard := none }) (v := _) rfl (by kernel_rfl) (by kernel_rfl) (by kernel_rfl) (fun _ _ _ h => h) (Or.inl ⟨by rfl, ?hyd_0⟩) (by assumption) ?red_0
            case hyd_0 => (intro W hSw; (try dsimp only at hSw); go_simp; try with_reducible rfl)
            try simp only [Act.put, List.setIfInBounds_toArray, List.set_cons_zero, List.set_cons_succ]
            refine' wpAnyH_take (i := 1) (oi := { dst := some 251, op := Op.move (Operand.tmp 250), type := 4, pos := "pack.go:131", after := #[{ on := 0, ground := Ground.data }], guard := none }) (v := _) rfl (by kernel_rfl) (by kernel_rfl) (by kernel_rfl) (fun _ _ _ h => h) (Or.inl ⟨by rfl, ?hyd_1⟩) (by assumption) ?red_1
            case hyd_1 => (intro W hSw; (try dsimp only at hSw); go_simp; try with_reducible rfl)
            try simp only [Act.put, List.setIfInBounds_toArray, List.set_cons_zero, List.set_cons_succ]
            refine' wpAnyH_take (i := 2) (oi := { dst := some 252, op := Op.move (Operand.tmp 30), type := 22, pos := "pack.go:131", after := #[{ on := 1, ground := Ground.guard }], guard := some (1, true) }) (v := _) rfl (by kernel_rfl) (by kernel_rfl) (by kernel_rfl) (fun _ _ _ h => h) (Or.inl ⟨by rfl, ?hyd_2⟩) (by assumption) ?red_2
            case hyd_2 => (intro W hSw; (try dsimp only at hSw); go_simp; try with_reducible rfl)
            try simp only [Act.put, List.setIfInBounds_toArray, List.set_cons_zero, List.set_cons_succ]
            refine' wpAnyH_take (i := 3) (oi := { dst := some 253, op := Op.move (Operand.tmp 1), type := 23, pos := "pack.go:131", after := #[{ on := 1, ground := Ground.guard }], guard := some (1, true) }) (v := _) rfl (by kernel_rfl) (by kernel_rfl) (by kernel_rfl) (fun _ _ _ h => h) (Or.inl ⟨by rfl, ?hyd_3⟩) (by assumption) ?red_3
            case hyd_3 => (intro W hSw; (try dsimp only at hSw); go_simp; try with_reducible rfl)
            try simp only [Act.put, List.setIfInBounds_toArray, List.set_cons_zero, List.set_cons_succ]
            refine' wpAnyH_take (i := 6) (oi := { dst := some 256, op := Op.move (Operand.tmp 31), type := 22, pos := "pack.go:131", after := #[{ on := 1, ground := Ground.guard }], guard := some (1, true) }) (v := _) rfl (by kernel_rfl) (by kernel_rfl) (by kernel_rfl) (fun _ _ _ h => h) (Or.inl ⟨by rfl, ?hyd_6⟩) (by assumption) ?red_6
            case hyd_6 => (intro W hSw; (try dsimp only at hSw); go_simp; try with_reducible rfl)
            try simp only [Act.put, List.setIfInBounds_toArray, List.set_cons_zero, List.set_cons_succ]
            refine' wpAnyH_take (i := 7) (oi := { dst := some 257, op := Op.move (Operand.tmp 1), type := 23, pos := "pack.go:131", after := #[{ on := 1, ground := Ground.guard }], guard := some (1, true) }) (v := _) rfl (by kernel_rfl) (by kernel_rfl) (by kernel_rfl) (fun _ _ _ h => h) (Or.inl ⟨by rfl, ?hyd_7⟩) (by assumption) ?red_7
            case hyd_7 => (intro W hSw; (try dsimp only at hSw); go_simp; try with_reducible rfl)
            try simp only [Act.put, List.setIfInBounds_toArray, List.set_cons_zero, List.set_cons_succ]
            refine wpAnyH_ready (rs := [4]) (by kernel_rfl) (by simp) ?_
            refine AllReadyH.cons (o := { dst := some 254, op := Op.call { callee := Callee.value (Operand.func 10), args := #[Operand.tmp 252, Operand.tmp 253], argTypes := #[22, 23] }, type := 22, pos := "pack.go:131", after := #[{ on := 2, ground := Ground.data }, { on := 3, ground := Ground.data }, { on := 1, ground := Ground.chain }, { on := 1, ground := Ground.guard }], guard := some (1, true) }) rfl (fun K hK => ?_) AllReadyH.nil
            go_simp
            go_at_call 10
            refine (d10.out x3.drew ⟨rfl, rfl, rfl, Nat.le_refl _, fun _ _ => rfl⟩).mono ?_
            clear hHeld
            rintro e q1 ⟨f1v, rfl, dq1, bq1⟩
            try go_wp2_with fail
            have Xq1 : Hid (Below x3.heap.size x3 q1) := ⟨bq1.os, bq1.tape, bq1.output, bq1.size, bq1.block⟩
            have BWq1 : Hid (Below x3.heap.size x3 q1) := Xq1.out
            have SSq1 : Hid (∀ W : World, Below q1.heap.size q1 W → (Below q1.heap.size q1 W ∧ (convert 22 9 f1v).run Try.prog W = .ok (.string ⟨M0.toArray⟩) W ∧ True)) := fun W hW => ⟨hW, conv_bs (dq1.1.below hW (Nat.le_refl _)), (SSd.out W (Xq1.out.trans (hW.mono Xq1.out.size))).2⟩
            refine hK.out _ _ (SSd.out q1 Xq1.out) (fun _ => ?_)
            refine wpAnyH_more (S' := fun W => Below q1.heap.size q1 W ∧ (convert 22 9 f1v).run Try.prog W = .ok (.string ⟨M0.toArray⟩) W ∧ True) (fun W hW => SSd.out W (Xq1.out.trans (hW.1.mono Xq1.out.size))) _ _ _ _ ?_
            have hHeld := SSq1.out q1 (Below.refl _ _)
            clear hK K dq1 bq1
            try simp only [Act.put, List.setIfInBounds_toArray, List.set_cons_zero, List.set_cons_succ]
            refine' wpAnyH_take (i := 5) (oi := { dst := some 255, op := Op.convert 22 9 (Operand.tmp 254), type := 9, pos := "pack.go:131", after := #[{ on := 4, ground := Ground.data }, { on := 1, ground := Ground.guard }], guard := some (1, true) }) (v := _) rfl (by kernel_rfl) (by kernel_rfl) (by kernel_rfl) (fun _ _ _ h => h) (Or.inl ⟨by rfl, ?hyd_5⟩) (by assumption) ?red_5
            case hyd_5 => (intro W hSw; (try dsimp only at hSw); go_simp; try with_reducible rfl)
            try simp only [Act.put, List.setIfInBounds_toArray, List.set_cons_zero, List.set_cons_succ]
            refine wpAnyH_ready (rs := [8]) (by kernel_rfl) (by simp) ?_
            refine AllReadyH.cons (o := { dst := some 258, op := Op.call { callee := Callee.value (Operand.func 14), args := #[Operand.tmp 256, Operand.tmp 257], argTypes := #[22, 23] }, type := 22, pos := "pack.go:131", after := #[{ on := 6, ground := Ground.data }, { on := 7, ground := Ground.data }, { on := 4, ground := Ground.chain }, { on := 1, ground := Ground.guard }], guard := some (1, true) }) rfl (fun K hK => ?_) AllReadyH.nil
            go_simp
            go_at_call 14
            refine (d14.out q1 BWq1.out).mono ?_
            clear hHeld
            rintro e q2 ⟨f2v, rfl, dq2, bq2⟩
            try go_wp2_with fail
            have Xq2 : Hid (Below q1.heap.size q1 q2) := ⟨bq2.os, bq2.tape, bq2.output, bq2.size, bq2.block⟩
            have BWq2 : Hid (Below x3.heap.size x3 q2) := BWq1.out.trans (Xq2.out.mono BWq1.out.size)
            have SSq2 : Hid (∀ W : World, Below q2.heap.size q2 W → (Below q2.heap.size q2 W ∧ (convert 22 9 f2v).run Try.prog W = .ok (.string ⟨M0.toArray⟩) W ∧ (convert 22 9 f1v).run Try.prog W = .ok (.string ⟨M0.toArray⟩) W ∧ True)) := fun W hW => ⟨hW, conv_bs (dq2.1.below hW (Nat.le_refl _)), (SSq1.out W (Xq2.out.trans (hW.mono Xq2.out.size))).2⟩
            refine hK.out _ _ (SSq1.out q2 Xq2.out) (fun _ => ?_)
            refine wpAnyH_more (S' := fun W => Below q2.heap.size q2 W ∧ (convert 22 9 f2v).run Try.prog W = .ok (.string ⟨M0.toArray⟩) W ∧ (convert 22 9 f1v).run Try.prog W = .ok (.string ⟨M0.toArray⟩) W ∧ True) (fun W hW => SSq1.out W (Xq2.out.trans (hW.1.mono Xq2.out.size))) _ _ _ _ ?_
            have hHeld := SSq2.out q2 (Below.refl _ _)
            clear hK K dq2 bq2
            try simp only [Act.put, List.setIfInBounds_toArray, List.set_cons_zero, List.set_cons_succ]
            refine' wpAnyH_take (i := 9) (oi := { dst := some 259, op := Op.convert 22 9 (Operand.tmp 258), type := 9, pos := "pack.go:131", after := #[{ on := 8, ground := Ground.data }, { on := 1, ground := Ground.guard }], guard := some (1, true) }) (v := _) rfl (by kernel_rfl) (by kernel_rfl) (by kernel_rfl) (fun _ _ _ h => h) (Or.inl ⟨by rfl, ?hyd_9⟩) (by assumption) ?red_9
            case hyd_9 => (intro W hSw; (try dsimp only at hSw); go_simp; try with_reducible rfl)
            try simp only [Act.put, List.setIfInBounds_toArray, List.set_cons_zero, List.set_cons_succ]
            refine' wpAnyH_take (i := 10) (oi := { dst := some 260, op := Op.binOp BinOp.eql 9 (Operand.tmp 255) (Operand.tmp 259) 9, type := 4, pos := "pack.go:131", after := #[{ on := 5, ground := Ground.data }, { on := 9, ground := Ground.data }, { on := 1, ground := Ground.guard }], guard := some (1, true) }) (v := _) rfl (by kernel_rfl) (by kernel_rfl) (by kernel_rfl) (fun _ _ _ h => h) (Or.inl ⟨by rfl, ?hyd_10⟩) (by assumption) ?red_10
            case hyd_10 => (intro W hSw; (try dsimp only at hSw); go_simp; try with_reducible rfl)
            try simp only [Act.put, List.setIfInBounds_toArray, List.set_cons_zero, List.set_cons_succ]
            refine' wpAnyH_take (i := 11) (oi := { dst := some 261, op := Op.pick (Operand.tmp 251) (Operand.tmp 260) (Operand.const (Value.bool false)), type := 4, pos := "pack.go:131", after := #[{ on := 1, ground := Ground.data }, { on := 10, ground := Ground.data }], guard := none }) (v := _) rfl (by kernel_rfl) (by kernel_rfl) (by kernel_rfl) (fun _ _ _ h => h) (Or.inl ⟨by rfl, ?hyd_11⟩) (by assumption) ?red_11
            case hyd_11 => (intro W hSw; (try dsimp only at hSw); go_simp; try with_reducible rfl)
            try simp only [Act.put, List.setIfInBounds_toArray, List.set_cons_zero, List.set_cons_succ]
            refine' wpAnyH_take (i := 12) (oi := { dst := some 262, op := Op.move (Operand.tmp 261), type := 4, pos := "pack.go:131", after := #[{ on := 11, ground := Ground.data }, { on := 8, ground := Ground.chain }], guard := none }) (v := _) rfl (by kernel_rfl) (by kernel_rfl) (by kernel_rfl) (fun _ _ _ h => h) (Or.inl ⟨by rfl, ?hyd_12⟩) (by assumption) ?red_12
            case hyd_12 => (intro W hSw; (try dsimp only at hSw); go_simp; try with_reducible rfl)
            try simp only [Act.put, List.setIfInBounds_toArray, List.set_cons_zero, List.set_cons_succ]
            refine' wpAnyH_take (i := 13) (oi := { dst := some 263, op := Op.move (Operand.tmp 30), type := 22, pos := "pack.go:131", after := #[{ on := 12, ground := Ground.guard }], guard := some (12, true) }) (v := _) rfl (by kernel_rfl) (by kernel_rfl) (by kernel_rfl) (fun _ _ _ h => h) (Or.inl ⟨by rfl, ?hyd_13⟩) (by assumption) ?red_13
            case hyd_13 => (intro W hSw; (try dsimp only at hSw); go_simp; try with_reducible rfl)
            try simp only [Act.put, List.setIfInBounds_toArray, List.set_cons_zero, List.set_cons_succ]
            refine' wpAnyH_take (i := 14) (oi := { dst := some 264, op := Op.move (Operand.tmp 2), type := 2, pos := "pack.go:131", after := #[{ on := 12, ground := Ground.guard }], guard := some (12, true) }) (v := _) rfl (by kernel_rfl) (by kernel_rfl) (by kernel_rfl) (fun _ _ _ h => h) (Or.inl ⟨by rfl, ?hyd_14⟩) (by assumption) ?red_14
            case hyd_14 => (intro W hSw; (try dsimp only at hSw); go_simp; try with_reducible rfl)
            try simp only [Act.put, List.setIfInBounds_toArray, List.set_cons_zero, List.set_cons_succ]
            refine' wpAnyH_take (i := 17) (oi := { dst := some 267, op := Op.move (Operand.tmp 31), type := 22, pos := "pack.go:131", after := #[{ on := 12, ground := Ground.guard }], guard := some (12, true) }) (v := _) rfl (by kernel_rfl) (by kernel_rfl) (by kernel_rfl) (fun _ _ _ h => h) (Or.inl ⟨by rfl, ?hyd_17⟩) (by assumption) ?red_17
            case hyd_17 => (intro W hSw; (try dsimp only at hSw); go_simp; try with_reducible rfl)
            try simp only [Act.put, List.setIfInBounds_toArray, List.set_cons_zero, List.set_cons_succ]
            refine' wpAnyH_take (i := 18) (oi := { dst := some 268, op := Op.move (Operand.tmp 2), type := 2, pos := "pack.go:131", after := #[{ on := 12, ground := Ground.guard }], guard := some (12, true) }) (v := _) rfl (by kernel_rfl) (by kernel_rfl) (by kernel_rfl) (fun _ _ _ h => h) (Or.inl ⟨by rfl, ?hyd_18⟩) (by assumption) ?red_18
            case hyd_18 => (intro W hSw; (try dsimp only at hSw); go_simp; try with_reducible rfl)
            try simp only [Act.put, List.setIfInBounds_toArray, List.set_cons_zero, List.set_cons_succ]
            refine wpAnyH_ready (rs := [15]) (by kernel_rfl) (by simp) ?_
            refine AllReadyH.cons (o := { dst := some 265, op := Op.call { callee := Callee.value (Operand.func 11), args := #[Operand.tmp 263, Operand.tmp 264], argTypes := #[22, 2] }, type := 22, pos := "pack.go:131", after := #[{ on := 13, ground := Ground.data }, { on := 14, ground := Ground.data }, { on := 12, ground := Ground.chain }, { on := 12, ground := Ground.guard }], guard := some (12, true) }) rfl (fun K hK => ?_) AllReadyH.nil
            go_simp
            go_at_call 11
            refine (d11.out q2 BWq2.out).mono ?_
            clear hHeld
            rintro e q3 ⟨f3v, rfl, dq3, bq3⟩
            try go_wp2_with fail
            have Xq3 : Hid (Below q2.heap.size q2 q3) := ⟨bq3.os, bq3.tape, bq3.output, bq3.size, bq3.block⟩
            have BWq3 : Hid (Below x3.heap.size x3 q3) := BWq2.out.trans (Xq3.out.mono BWq2.out.size)
            have SSq3 : Hid (∀ W : World, Below q3.heap.size q3 W → (Below q3.heap.size q3 W ∧ (convert 22 9 f3v).run Try.prog W = .ok (.string ⟨M1.toArray⟩) W ∧ (convert 22 9 f2v).run Try.prog W = .ok (.string ⟨M0.toArray⟩) W ∧ (convert 22 9 f1v).run Try.prog W = .ok (.string ⟨M0.toArray⟩) W ∧ True)) := fun W hW => ⟨hW, conv_bs (dq3.1.below hW (Nat.le_refl _)), (SSq2.out W (Xq3.out.trans (hW.mono Xq3.out.size))).2⟩
            refine hK.out _ _ (SSq2.out q3 Xq3.out) (fun _ => ?_)
            refine wpAnyH_more (S' := fun W => Below q3.heap.size q3 W ∧ (convert 22 9 f3v).run Try.prog W = .ok (.string ⟨M1.toArray⟩) W ∧ (convert 22 9 f2v).run Try.prog W = .ok (.string ⟨M0.toArray⟩) W ∧ (convert 22 9 f1v).run Try.prog W = .ok (.string ⟨M0.toArray⟩) W ∧ True) (fun W hW => SSq2.out W (Xq3.out.trans (hW.1.mono Xq3.out.size))) _ _ _ _ ?_
            have hHeld := SSq3.out q3 (Below.refl _ _)
            clear hK K dq3 bq3
            try simp only [Act.put, List.setIfInBounds_toArray, List.set_cons_zero, List.set_cons_succ]
            refine' wpAnyH_take (i := 16) (oi := { dst := some 266, op := Op.convert 22 9 (Operand.tmp 265), type := 9, pos := "pack.go:131", after := #[{ on := 15, ground := Ground.data }, { on := 12, ground := Ground.guard }], guard := some (12, true) }) (v := _) rfl (by kernel_rfl) (by kernel_rfl) (by kernel_rfl) (fun _ _ _ h => h) (Or.inl ⟨by rfl, ?hyd_16⟩) (by assumption) ?red_16
            case hyd_16 => (intro W hSw; (try dsimp only at hSw); go_simp; try with_reducible rfl)
            try simp only [Act.put, List.setIfInBounds_toArray, List.set_cons_zero, List.set_cons_succ]
            refine wpAnyH_ready (rs := [19]) (by kernel_rfl) (by simp) ?_
            refine AllReadyH.cons (o := { dst := some 269, op := Op.call { callee := Callee.value (Operand.func 15), args := #[Operand.tmp 267, Operand.tmp 268], argTypes := #[22, 2] }, type := 22, pos := "pack.go:131", after := #[{ on := 17, ground := Ground.data }, { on := 18, ground := Ground.data }, { on := 15, ground := Ground.chain }, { on := 12, ground := Ground.guard }], guard := some (12, true) }) rfl (fun K hK => ?_) AllReadyH.nil
            go_simp
            go_at_call 15
            refine (d15.out q3 BWq3.out).mono ?_
            clear hHeld
            rintro e q4 ⟨f4v, rfl, dq4, bq4⟩
            try go_wp2_with fail
            have Xq4 : Hid (Below q3.heap.size q3 q4) := ⟨bq4.os, bq4.tape, bq4.output, bq4.size, bq4.block⟩
            have BWq4 : Hid (Below x3.heap.size x3 q4) := BWq3.out.trans (Xq4.out.mono BWq3.out.size)
            have SSq4 : Hid (∀ W : World, Below q4.heap.size q4 W → (Below q4.heap.size q4 W ∧ (convert 22 9 f4v).run Try.prog W = .ok (.string ⟨M1.toArray⟩) W ∧ (convert 22 9 f3v).run Try.prog W = .ok (.string ⟨M1.toArray⟩) W ∧ (convert 22 9 f2v).run Try.prog W = .ok (.string ⟨M0.toArray⟩) W ∧ (convert 22 9 f1v).run Try.prog W = .ok (.string ⟨M0.toArray⟩) W ∧ True)) := fun W hW => ⟨hW, conv_bs (dq4.1.below hW (Nat.le_refl _)), (SSq3.out W (Xq4.out.trans (hW.mono Xq4.out.size))).2⟩
            refine hK.out _ _ (SSq3.out q4 Xq4.out) (fun _ => ?_)
            refine wpAnyH_more (S' := fun W => Below q4.heap.size q4 W ∧ (convert 22 9 f4v).run Try.prog W = .ok (.string ⟨M1.toArray⟩) W ∧ (convert 22 9 f3v).run Try.prog W = .ok (.string ⟨M1.toArray⟩) W ∧ (convert 22 9 f2v).run Try.prog W = .ok (.string ⟨M0.toArray⟩) W ∧ (convert 22 9 f1v).run Try.prog W = .ok (.string ⟨M0.toArray⟩) W ∧ True) (fun W hW => SSq3.out W (Xq4.out.trans (hW.1.mono Xq4.out.size))) _ _ _ _ ?_
            have hHeld := SSq4.out q4 (Below.refl _ _)
            clear hK K dq4 bq4
            try simp only [Act.put, List.setIfInBounds_toArray, List.set_cons_zero, List.set_cons_succ]
            refine' wpAnyH_take (i := 20) (oi := { dst := some 270, op := Op.convert 22 9 (Operand.tmp 269), type := 9, pos := "pack.go:131", after := #[{ on := 19, ground := Ground.data }, { on := 12, ground := Ground.guard }], guard := some (12, true) }) (v := _) rfl (by kernel_rfl) (by kernel_rfl) (by kernel_rfl) (fun _ _ _ h => h) (Or.inl ⟨by rfl, ?hyd_20⟩) (by assumption) ?red_20
            case hyd_20 => (intro W hSw; (try dsimp only at hSw); go_simp; try with_reducible rfl)
            try simp only [Act.put, List.setIfInBounds_toArray, List.set_cons_zero, List.set_cons_succ]
            refine' wpAnyH_take (i := 21) (oi := { dst := some 271, op := Op.binOp BinOp.eql 9 (Operand.tmp 266) (Operand.tmp 270) 9, type := 4, pos := "pack.go:131", after := #[{ on := 16, ground := Ground.data }, { on := 20, ground := Ground.data }, { on := 12, ground := Ground.guard }], guard := some (12, true) }) (v := _) rfl (by kernel_rfl) (by kernel_rfl) (by kernel_rfl) (fun _ _ _ h => h) (Or.inl ⟨by rfl, ?hyd_21⟩) (by assumption) ?red_21
            case hyd_21 => (intro W hSw; (try dsimp only at hSw); go_simp; try with_reducible rfl)
            try simp only [Act.put, List.setIfInBounds_toArray, List.set_cons_zero, List.set_cons_succ]
            refine' wpAnyH_take (i := 22) (oi := { dst := some 272, op := Op.pick (Operand.tmp 262) (Operand.tmp 271) (Operand.const (Value.bool false)), type := 4, pos := "pack.go:131", after := #[{ on := 12, ground := Ground.data }, { on := 21, ground := Ground.data }], guard := none }) (v := _) rfl (by kernel_rfl) (by kernel_rfl) (by kernel_rfl) (fun _ _ _ h => h) (Or.inl ⟨by rfl, ?hyd_22⟩) (by assumption) ?red_22
            case hyd_22 => (intro W hSw; (try dsimp only at hSw); go_simp; try with_reducible rfl)
            try simp only [Act.put, List.setIfInBounds_toArray, List.set_cons_zero, List.set_cons_succ]
            refine' wpAnyH_take (i := 23) (oi := { dst := some 273, op := Op.move (Operand.tmp 272), type := 4, pos := "pack.go:131", after := #[{ on := 22, ground := Ground.data }, { on := 19, ground := Ground.chain }], guard := none }) (v := _) rfl (by kernel_rfl) (by kernel_rfl) (by kernel_rfl) (fun _ _ _ h => h) (Or.inl ⟨by rfl, ?hyd_23⟩) (by assumption) ?red_23
            case hyd_23 => (intro W hSw; (try dsimp only at hSw); go_simp; try with_reducible rfl)
            try simp only [Act.put, List.setIfInBounds_toArray, List.set_cons_zero, List.set_cons_succ]
            refine' wpAnyH_take (i := 24) (oi := { dst := some 274, op := Op.move (Operand.tmp 30), type := 22, pos := "pack.go:131", after := #[{ on := 23, ground := Ground.guard }], guard := some (23, true) }) (v := _) rfl (by kernel_rfl) (by kernel_rfl) (by kernel_rfl) (fun _ _ _ h => h) (Or.inl ⟨by rfl, ?hyd_24⟩) (by assumption) ?red_24
            case hyd_24 => (intro W hSw; (try dsimp only at hSw); go_simp; try with_reducible rfl)
            try simp only [Act.put, List.setIfInBounds_toArray, List.set_cons_zero, List.set_cons_succ]
            refine' wpAnyH_take (i := 25) (oi := { dst := some 275, op := Op.move (Operand.tmp 3), type := 9, pos := "pack.go:131", after := #[{ on := 23, ground := Ground.guard }], guard := some (23, true) }) (v := _) rfl (by kernel_rfl) (by kernel_rfl) (by kernel_rfl) (fun _ _ _ h => h) (Or.inl ⟨by rfl, ?hyd_25⟩) (by assumption) ?red_25
            case hyd_25 => (intro W hSw; (try dsimp only at hSw); go_simp; try with_reducible rfl)
            try simp only [Act.put, List.setIfInBounds_toArray, List.set_cons_zero, List.set_cons_succ]
            refine' wpAnyH_take (i := 28) (oi := { dst := some 278, op := Op.move (Operand.tmp 31), type := 22, pos := "pack.go:131", after := #[{ on := 23, ground := Ground.guard }], guard := some (23, true) }) (v := _) rfl (by kernel_rfl) (by kernel_rfl) (by kernel_rfl) (fun _ _ _ h => h) (Or.inl ⟨by rfl, ?hyd_28⟩) (by assumption) ?red_28
            case hyd_28 => (intro W hSw; (try dsimp only at hSw); go_simp; try with_reducible rfl)
            try simp only [Act.put, List.setIfInBounds_toArray, List.set_cons_zero, List.set_cons_succ]
            refine' wpAnyH_take (i := 29) (oi := { dst := some 279, op := Op.move (Operand.tmp 3), type := 9, pos := "pack.go:131", after := #[{ on := 23, ground := Ground.guard }], guard := some (23, true) }) (v := _) rfl (by kernel_rfl) (by kernel_rfl) (by kernel_rfl) (fun _ _ _ h => h) (Or.inl ⟨by rfl, ?hyd_29⟩) (by assumption) ?red_29
            case hyd_29 => (intro W hSw; (try dsimp only at hSw); go_simp; try with_reducible rfl)
            try simp only [Act.put, List.setIfInBounds_toArray, List.set_cons_zero, List.set_cons_succ]
            refine wpAnyH_ready (rs := [26]) (by kernel_rfl) (by simp) ?_
            refine AllReadyH.cons (o := { dst := some 276, op := Op.call { callee := Callee.value (Operand.func 12), args := #[Operand.tmp 274, Operand.tmp 275], argTypes := #[22, 9] }, type := 22, pos := "pack.go:131", after := #[{ on := 24, ground := Ground.data }, { on := 25, ground := Ground.data }, { on := 23, ground := Ground.chain }, { on := 23, ground := Ground.guard }], guard := some (23, true) }) rfl (fun K hK => ?_) AllReadyH.nil
            go_simp
            go_at_call 12
            refine (d12.out q4 BWq4.out).mono ?_
            clear hHeld
            rintro e q5 ⟨f5v, rfl, dq5, bq5⟩
            try go_wp2_with fail
            have Xq5 : Hid (Below q4.heap.size q4 q5) := ⟨bq5.os, bq5.tape, bq5.output, bq5.size, bq5.block⟩
            have BWq5 : Hid (Below x3.heap.size x3 q5) := BWq4.out.trans (Xq5.out.mono BWq4.out.size)
            have SSq5 : Hid (∀ W : World, Below q5.heap.size q5 W → (Below q5.heap.size q5 W ∧ (convert 22 9 f5v).run Try.prog W = .ok (.string ⟨M2.toArray⟩) W ∧ (convert 22 9 f4v).run Try.prog W = .ok (.string ⟨M1.toArray⟩) W ∧ (convert 22 9 f3v).run Try.prog W = .ok (.string ⟨M1.toArray⟩) W ∧ (convert 22 9 f2v).run Try.prog W = .ok (.string ⟨M0.toArray⟩) W ∧ (convert 22 9 f1v).run Try.prog W = .ok (.string ⟨M0.toArray⟩) W ∧ True)) := fun W hW => ⟨hW, conv_bs (dq5.1.below hW (Nat.le_refl _)), (SSq4.out W (Xq5.out.trans (hW.mono Xq5.out.size))).2⟩
            refine hK.out _ _ (SSq4.out q5 Xq5.out) (fun _ => ?_)
            refine wpAnyH_more (S' := fun W => Below q5.heap.size q5 W ∧ (convert 22 9 f5v).run Try.prog W = .ok (.string ⟨M2.toArray⟩) W ∧ (convert 22 9 f4v).run Try.prog W = .ok (.string ⟨M1.toArray⟩) W ∧ (convert 22 9 f3v).run Try.prog W = .ok (.string ⟨M1.toArray⟩) W ∧ (convert 22 9 f2v).run Try.prog W = .ok (.string ⟨M0.toArray⟩) W ∧ (convert 22 9 f1v).run Try.prog W = .ok (.string ⟨M0.toArray⟩) W ∧ True) (fun W hW => SSq4.out W (Xq5.out.trans (hW.1.mono Xq5.out.size))) _ _ _ _ ?_
            have hHeld := SSq5.out q5 (Below.refl _ _)
            clear hK K dq5 bq5
            try simp only [Act.put, List.setIfInBounds_toArray, List.set_cons_zero, List.set_cons_succ]
            refine' wpAnyH_take (i := 27) (oi := { dst := some 277, op := Op.convert 22 9 (Operand.tmp 276), type := 9, pos := "pack.go:131", after := #[{ on := 26, ground := Ground.data }, { on := 23, ground := Ground.guard }], guard := some (23, true) }) (v := _) rfl (by kernel_rfl) (by kernel_rfl) (by kernel_rfl) (fun _ _ _ h => h) (Or.inl ⟨by rfl, ?hyd_27⟩) (by assumption) ?red_27
            case hyd_27 => (intro W hSw; (try dsimp only at hSw); go_simp; try with_reducible rfl)
            try simp only [Act.put, List.setIfInBounds_toArray, List.set_cons_zero, List.set_cons_succ]
            refine wpAnyH_ready (rs := [30]) (by kernel_rfl) (by simp) ?_
            refine AllReadyH.cons (o := { dst := some 280, op := Op.call { callee := Callee.value (Operand.func 16), args := #[Operand.tmp 278, Operand.tmp 279], argTypes := #[22, 9] }, type := 22, pos := "pack.go:131", after := #[{ on := 28, ground := Ground.data }, { on := 29, ground := Ground.data }, { on := 26, ground := Ground.chain }, { on := 23, ground := Ground.guard }], guard := some (23, true) }) rfl (fun K hK => ?_) AllReadyH.nil
            go_simp
            go_at_call 16
            refine (d16.out q5 BWq5.out).mono ?_
            clear hHeld
            rintro e q6 ⟨f6v, rfl, dq6, bq6⟩
            try go_wp2_with fail
            have Xq6 : Hid (Below q5.heap.size q5 q6) := ⟨bq6.os, bq6.tape, bq6.output, bq6.size, bq6.block⟩
            have BWq6 : Hid (Below x3.heap.size x3 q6) := BWq5.out.trans (Xq6.out.mono BWq5.out.size)
            have SSq6 : Hid (∀ W : World, Below q6.heap.size q6 W → (Below q6.heap.size q6 W ∧ (convert 22 9 f6v).run Try.prog W = .ok (.string ⟨M2.toArray⟩) W ∧ (convert 22 9 f5v).run Try.prog W = .ok (.string ⟨M2.toArray⟩) W ∧ (convert 22 9 f4v).run Try.prog W = .ok (.string ⟨M1.toArray⟩) W ∧ (convert 22 9 f3v).run Try.prog W = .ok (.string ⟨M1.toArray⟩) W ∧ (convert 22 9 f2v).run Try.prog W = .ok (.string ⟨M0.toArray⟩) W ∧ (convert 22 9 f1v).run Try.prog W = .ok (.string ⟨M0.toArray⟩) W ∧ True)) := fun W hW => ⟨hW, conv_bs (dq6.1.below hW (Nat.le_refl _)), (SSq5.out W (Xq6.out.trans (hW.mono Xq6.out.size))).2⟩
            refine hK.out _ _ (SSq5.out q6 Xq6.out) (fun _ => ?_)
            refine wpAnyH_more (S' := fun W => Below q6.heap.size q6 W ∧ (convert 22 9 f6v).run Try.prog W = .ok (.string ⟨M2.toArray⟩) W ∧ (convert 22 9 f5v).run Try.prog W = .ok (.string ⟨M2.toArray⟩) W ∧ (convert 22 9 f4v).run Try.prog W = .ok (.string ⟨M1.toArray⟩) W ∧ (convert 22 9 f3v).run Try.prog W = .ok (.string ⟨M1.toArray⟩) W ∧ (convert 22 9 f2v).run Try.prog W = .ok (.string ⟨M0.toArray⟩) W ∧ (convert 22 9 f1v).run Try.prog W = .ok (.string ⟨M0.toArray⟩) W ∧ True) (fun W hW => SSq5.out W (Xq6.out.trans (hW.1.mono Xq6.out.size))) _ _ _ _ ?_
            have hHeld := SSq6.out q6 (Below.refl _ _)
            clear hK K dq6 bq6
            try simp only [Act.put, List.setIfInBounds_toArray, List.set_cons_zero, List.set_cons_succ]
            refine' wpAnyH_take (i := 31) (oi := { dst := some 281, op := Op.convert 22 9 (Operand.tmp 280), type := 9, pos := "pack.go:131", after := #[{ on := 30, ground := Ground.data }, { on := 23, ground := Ground.guard }], guard := some (23, true) }) (v := _) rfl (by kernel_rfl) (by kernel_rfl) (by kernel_rfl) (fun _ _ _ h => h) (Or.inl ⟨by rfl, ?hyd_31⟩) (by assumption) ?red_31
            case hyd_31 => (intro W hSw; (try dsimp only at hSw); go_simp; try with_reducible rfl)
            try simp only [Act.put, List.setIfInBounds_toArray, List.set_cons_zero, List.set_cons_succ]
            refine' wpAnyH_take (i := 32) (oi := { dst := some 282, op := Op.binOp BinOp.eql 9 (Operand.tmp 277) (Operand.tmp 281) 9, type := 4, pos := "pack.go:131", after := #[{ on := 27, ground := Ground.data }, { on := 31, ground := Ground.data }, { on := 23, ground := Ground.guard }], guard := some (23, true) }) (v := _) rfl (by kernel_rfl) (by kernel_rfl) (by kernel_rfl) (fun _ _ _ h => h) (Or.inl ⟨by rfl, ?hyd_32⟩) (by assumption) ?red_32
            case hyd_32 => (intro W hSw; (try dsimp only at hSw); go_simp; try with_reducible rfl)
            try simp only [Act.put, List.setIfInBounds_toArray, List.set_cons_zero, List.set_cons_succ]
            refine' wpAnyH_take (i := 33) (oi := { dst := some 283, op := Op.pick (Operand.tmp 273) (Operand.tmp 282) (Operand.const (Value.bool false)), type := 4, pos := "pack.go:131", after := #[{ on := 23, ground := Ground.data }, { on := 32, ground := Ground.data }], guard := none }) (v := _) rfl (by kernel_rfl) (by kernel_rfl) (by kernel_rfl) (fun _ _ _ h => h) (Or.inl ⟨by rfl, ?hyd_33⟩) (by assumption) ?red_33
            case hyd_33 => (intro W hSw; (try dsimp only at hSw); go_simp; try with_reducible rfl)
            try simp only [Act.put, List.setIfInBounds_toArray, List.set_cons_zero, List.set_cons_succ]
            refine' wpAnyH_take (i := 34) (oi := { dst := some 284, op := Op.move (Operand.tmp 283), type := 4, pos := "pack.go:131", after := #[{ on := 33, ground := Ground.data }, { on := 30, ground := Ground.chain }], guard := none }) (v := _) rfl (by kernel_rfl) (by kernel_rfl) (by kernel_rfl) (fun _ _ _ h => h) (Or.inl ⟨by rfl, ?hyd_34⟩) (by assumption) ?red_34
            case hyd_34 => (intro W hSw; (try dsimp only at hSw); go_simp; try with_reducible rfl)
            try simp only [Act.put, List.setIfInBounds_toArray, List.set_cons_zero, List.set_cons_succ]
            refine' wpAnyH_take (i := 35) (oi := { dst := some 285, op := Op.move (Operand.tmp 30), type := 22, pos := "pack.go:131", after := #[{ on := 34, ground := Ground.guard }], guard := some (34, true) }) (v := _) rfl (by kernel_rfl) (by kernel_rfl) (by kernel_rfl) (fun _ _ _ h => h) (Or.inl ⟨by rfl, ?hyd_35⟩) (by assumption) ?red_35
            case hyd_35 => (intro W hSw; (try dsimp only at hSw); go_simp; try with_reducible rfl)
            try simp only [Act.put, List.setIfInBounds_toArray, List.set_cons_zero, List.set_cons_succ]
            refine' wpAnyH_take (i := 36) (oi := { dst := some 286, op := Op.move (Operand.tmp 4), type := 24, pos := "pack.go:131", after := #[{ on := 34, ground := Ground.guard }], guard := some (34, true) }) (v := _) rfl (by kernel_rfl) (by kernel_rfl) (by kernel_rfl) (fun _ _ _ h => h) (Or.inl ⟨by rfl, ?hyd_36⟩) (by assumption) ?red_36
            case hyd_36 => (intro W hSw; (try dsimp only at hSw); go_simp; try with_reducible rfl)
            try simp only [Act.put, List.setIfInBounds_toArray, List.set_cons_zero, List.set_cons_succ]
            refine' wpAnyH_take (i := 39) (oi := { dst := some 289, op := Op.move (Operand.tmp 31), type := 22, pos := "pack.go:131", after := #[{ on := 34, ground := Ground.guard }], guard := some (34, true) }) (v := _) rfl (by kernel_rfl) (by kernel_rfl) (by kernel_rfl) (fun _ _ _ h => h) (Or.inl ⟨by rfl, ?hyd_39⟩) (by assumption) ?red_39
            case hyd_39 => (intro W hSw; (try dsimp only at hSw); go_simp; try with_reducible rfl)
            try simp only [Act.put, List.setIfInBounds_toArray, List.set_cons_zero, List.set_cons_succ]
            refine' wpAnyH_take (i := 40) (oi := { dst := some 290, op := Op.move (Operand.tmp 4), type := 24, pos := "pack.go:131", after := #[{ on := 34, ground := Ground.guard }], guard := some (34, true) }) (v := _) rfl (by kernel_rfl) (by kernel_rfl) (by kernel_rfl) (fun _ _ _ h => h) (Or.inl ⟨by rfl, ?hyd_40⟩) (by assumption) ?red_40
            case hyd_40 => (intro W hSw; (try dsimp only at hSw); go_simp; try with_reducible rfl)
            try simp only [Act.put, List.setIfInBounds_toArray, List.set_cons_zero, List.set_cons_succ]
            refine wpAnyH_ready (rs := [37]) (by kernel_rfl) (by simp) ?_
            refine AllReadyH.cons (o := { dst := some 287, op := Op.call { callee := Callee.value (Operand.func 13), args := #[Operand.tmp 285, Operand.tmp 286], argTypes := #[22, 24] }, type := 22, pos := "pack.go:131", after := #[{ on := 35, ground := Ground.data }, { on := 36, ground := Ground.data }, { on := 34, ground := Ground.chain }, { on := 34, ground := Ground.guard }], guard := some (34, true) }) rfl (fun K hK => ?_) AllReadyH.nil
            go_simp
            go_at_call 13
            refine (d13.out q6 BWq6.out).mono ?_
            clear hHeld
            rintro e q7 ⟨f7v, rfl, dq7, bq7⟩
            try go_wp2_with fail
            have Xq7 : Hid (Below q6.heap.size q6 q7) := ⟨bq7.os, bq7.tape, bq7.output, bq7.size, bq7.block⟩
            have BWq7 : Hid (Below x3.heap.size x3 q7) := BWq6.out.trans (Xq7.out.mono BWq6.out.size)
            have SSq7 : Hid (∀ W : World, Below q7.heap.size q7 W → (Below q7.heap.size q7 W ∧ (convert 22 9 f7v).run Try.prog W = .ok (.string ⟨M3.toArray⟩) W ∧ (convert 22 9 f6v).run Try.prog W = .ok (.string ⟨M2.toArray⟩) W ∧ (convert 22 9 f5v).run Try.prog W = .ok (.string ⟨M2.toArray⟩) W ∧ (convert 22 9 f4v).run Try.prog W = .ok (.string ⟨M1.toArray⟩) W ∧ (convert 22 9 f3v).run Try.prog W = .ok (.string ⟨M1.toArray⟩) W ∧ (convert 22 9 f2v).run Try.prog W = .ok (.string ⟨M0.toArray⟩) W ∧ (convert 22 9 f1v).run Try.prog W = .ok (.string ⟨M0.toArray⟩) W ∧ True)) := fun W hW => ⟨hW, conv_bs (dq7.1.below hW (Nat.le_refl _)), (SSq6.out W (Xq7.out.trans (hW.mono Xq7.out.size))).2⟩
            refine hK.out _ _ (SSq6.out q7 Xq7.out) (fun _ => ?_)
            refine wpAnyH_more (S' := fun W => Below q7.heap.size q7 W ∧ (convert 22 9 f7v).run Try.prog W = .ok (.string ⟨M3.toArray⟩) W ∧ (convert 22 9 f6v).run Try.prog W = .ok (.string ⟨M2.toArray⟩) W ∧ (convert 22 9 f5v).run Try.prog W = .ok (.string ⟨M2.toArray⟩) W ∧ (convert 22 9 f4v).run Try.prog W = .ok (.string ⟨M1.toArray⟩) W ∧ (convert 22 9 f3v).run Try.prog W = .ok (.string ⟨M1.toArray⟩) W ∧ (convert 22 9 f2v).run Try.prog W = .ok (.string ⟨M0.toArray⟩) W ∧ (convert 22 9 f1v).run Try.prog W = .ok (.string ⟨M0.toArray⟩) W ∧ True) (fun W hW => SSq6.out W (Xq7.out.trans (hW.1.mono Xq7.out.size))) _ _ _ _ ?_
            have hHeld := SSq7.out q7 (Below.refl _ _)
            clear hK K dq7 bq7
            try simp only [Act.put, List.setIfInBounds_toArray, List.set_cons_zero, List.set_cons_succ]
            refine' wpAnyH_take (i := 38) (oi := { dst := some 288, op := Op.convert 22 9 (Operand.tmp 287), type := 9, pos := "pack.go:131", after := #[{ on := 37, ground := Ground.data }, { on := 34, ground := Ground.guard }], guard := some (34, true) }) (v := _) rfl (by kernel_rfl) (by kernel_rfl) (by kernel_rfl) (fun _ _ _ h => h) (Or.inl ⟨by rfl, ?hyd_38⟩) (by assumption) ?red_38
            case hyd_38 => (intro W hSw; (try dsimp only at hSw); go_simp; try with_reducible rfl)
            try simp only [Act.put, List.setIfInBounds_toArray, List.set_cons_zero, List.set_cons_succ]
            refine wpAnyH_ready (rs := [41]) (by kernel_rfl) (by simp) ?_
            refine AllReadyH.cons (o := { dst := some 291, op := Op.call { callee := Callee.value (Operand.func 17), args := #[Operand.tmp 289, Operand.tmp 290], argTypes := #[22, 24] }, type := 22, pos := "pack.go:131", after := #[{ on := 39, ground := Ground.data }, { on := 40, ground := Ground.data }, { on := 37, ground := Ground.chain }, { on := 34, ground := Ground.guard }], guard := some (34, true) }) rfl (fun K hK => ?_) AllReadyH.nil
            go_simp
            go_at_call 17
            refine (d17.out q7 BWq7.out).mono ?_
            clear hHeld
            rintro e q8 ⟨f8v, rfl, dq8, bq8⟩
            try go_wp2_with fail
            have Xq8 : Hid (Below q7.heap.size q7 q8) := ⟨bq8.os, bq8.tape, bq8.output, bq8.size, bq8.block⟩
            have BWq8 : Hid (Below x3.heap.size x3 q8) := BWq7.out.trans (Xq8.out.mono BWq7.out.size)
            have SSq8 : Hid (∀ W : World, Below q8.heap.size q8 W → (Below q8.heap.size q8 W ∧ (convert 22 9 f8v).run Try.prog W = .ok (.string ⟨M3.toArray⟩) W ∧ (convert 22 9 f7v).run Try.prog W = .ok (.string ⟨M3.toArray⟩) W ∧ (convert 22 9 f6v).run Try.prog W = .ok (.string ⟨M2.toArray⟩) W ∧ (convert 22 9 f5v).run Try.prog W = .ok (.string ⟨M2.toArray⟩) W ∧ (convert 22 9 f4v).run Try.prog W = .ok (.string ⟨M1.toArray⟩) W ∧ (convert 22 9 f3v).run Try.prog W = .ok (.string ⟨M1.toArray⟩) W ∧ (convert 22 9 f2v).run Try.prog W = .ok (.string ⟨M0.toArray⟩) W ∧ (convert 22 9 f1v).run Try.prog W = .ok (.string ⟨M0.toArray⟩) W ∧ True)) := fun W hW => ⟨hW, conv_bs (dq8.1.below hW (Nat.le_refl _)), (SSq7.out W (Xq8.out.trans (hW.mono Xq8.out.size))).2⟩
            refine hK.out _ _ (SSq7.out q8 Xq8.out) (fun _ => ?_)
            refine wpAnyH_more (S' := fun W => Below q8.heap.size q8 W ∧ (convert 22 9 f8v).run Try.prog W = .ok (.string ⟨M3.toArray⟩) W ∧ (convert 22 9 f7v).run Try.prog W = .ok (.string ⟨M3.toArray⟩) W ∧ (convert 22 9 f6v).run Try.prog W = .ok (.string ⟨M2.toArray⟩) W ∧ (convert 22 9 f5v).run Try.prog W = .ok (.string ⟨M2.toArray⟩) W ∧ (convert 22 9 f4v).run Try.prog W = .ok (.string ⟨M1.toArray⟩) W ∧ (convert 22 9 f3v).run Try.prog W = .ok (.string ⟨M1.toArray⟩) W ∧ (convert 22 9 f2v).run Try.prog W = .ok (.string ⟨M0.toArray⟩) W ∧ (convert 22 9 f1v).run Try.prog W = .ok (.string ⟨M0.toArray⟩) W ∧ True) (fun W hW => SSq7.out W (Xq8.out.trans (hW.1.mono Xq8.out.size))) _ _ _ _ ?_
            have hHeld := SSq8.out q8 (Below.refl _ _)
            clear hK K dq8 bq8
            try simp only [Act.put, List.setIfInBounds_toArray, List.set_cons_zero, List.set_cons_succ]
            refine' wpAnyH_take (i := 42) (oi := { dst := some 292, op := Op.convert 22 9 (Operand.tmp 291), type := 9, pos := "pack.go:131", after := #[{ on := 41, ground := Ground.data }, { on := 34, ground := Ground.guard }], guard := some (34, true) }) (v := _) rfl (by kernel_rfl) (by kernel_rfl) (by kernel_rfl) (fun _ _ _ h => h) (Or.inl ⟨by rfl, ?hyd_42⟩) (by assumption) ?red_42
            case hyd_42 => (intro W hSw; (try dsimp only at hSw); go_simp; try with_reducible rfl)
            try simp only [Act.put, List.setIfInBounds_toArray, List.set_cons_zero, List.set_cons_succ]
            refine' wpAnyH_take (i := 43) (oi := { dst := some 293, op := Op.binOp BinOp.eql 9 (Operand.tmp 288) (Operand.tmp 292) 9, type := 4, pos := "pack.go:131", after := #[{ on := 38, ground := Ground.data }, { on := 42, ground := Ground.data }, { on := 34, ground := Ground.guard }], guard := some (34, true) }) (v := _) rfl (by kernel_rfl) (by kernel_rfl) (by kernel_rfl) (fun _ _ _ h => h) (Or.inl ⟨by rfl, ?hyd_43⟩) (by assumption) ?red_43
            case hyd_43 => (intro W hSw; (try dsimp only at hSw); go_simp; try with_reducible rfl)
            try simp only [Act.put, List.setIfInBounds_toArray, List.set_cons_zero, List.set_cons_succ]
            refine' wpAnyH_take (i := 44) (oi := { dst := some 294, op := Op.pick (Operand.tmp 284) (Operand.tmp 293) (Operand.const (Value.bool false)), type := 4, pos := "pack.go:131", after := #[{ on := 34, ground := Ground.data }, { on := 43, ground := Ground.data }], guard := none }) (v := _) rfl (by kernel_rfl) (by kernel_rfl) (by kernel_rfl) (fun _ _ _ h => h) (Or.inl ⟨by rfl, ?hyd_44⟩) (by assumption) ?red_44
            case hyd_44 => (intro W hSw; (try dsimp only at hSw); go_simp; try with_reducible rfl)
            try simp only [Act.put, List.setIfInBounds_toArray, List.set_cons_zero, List.set_cons_succ]
            refine' wpAnyH_take (i := 45) (oi := { dst := some 10, op := Op.assign (Operand.tmp 294), type := 4, pos := "pack.go:131", after := #[{ on := 44, ground := Ground.data }, { on := 41, ground := Ground.chain }, { on := 0, ground := Ground.phase }, { on := 1, ground := Ground.phase }, { on := 2, ground := Ground.phase }, { on := 3, ground := Ground.phase }, { on := 4, ground := Ground.phase }, { on := 5, ground := Ground.phase }, { on := 6, ground := Ground.phase }, { on := 7, ground := Ground.phase }, { on := 8, ground := Ground.phase }, { on := 9, ground := Ground.phase }, { on := 10, ground := Ground.phase }, { on := 11, ground := Ground.phase }, { on := 12, ground := Ground.phase }, { on := 13, ground := Ground.phase }, { on := 14, ground := Ground.phase }, { on := 15, ground := Ground.phase }, { on := 16, ground := Ground.phase }, { on := 17, ground := Ground.phase }, { on := 18, ground := Ground.phase }, { on := 19, ground := Ground.phase }, { on := 20, ground := Ground.phase }, { on := 21, ground := Ground.phase }, { on := 22, ground := Ground.phase }, { on := 23, ground := Ground.phase }, { on := 24, ground := Ground.phase }, { on := 25, ground := Ground.phase }, { on := 26, ground := Ground.phase }, { on := 27, ground := Ground.phase }, { on := 28, ground := Ground.phase }, { on := 29, ground := Ground.phase }, { on := 30, ground := Ground.phase }, { on := 31, ground := Ground.phase }, { on := 32, ground := Ground.phase }, { on := 33, ground := Ground.phase }, { on := 34, ground := Ground.phase }, { on := 35, ground := Ground.phase }, { on := 36, ground := Ground.phase }, { on := 37, ground := Ground.phase }, { on := 38, ground := Ground.phase }, { on := 39, ground := Ground.phase }, { on := 40, ground := Ground.phase }, { on := 41, ground := Ground.phase }, { on := 42, ground := Ground.phase }, { on := 43, ground := Ground.phase }, { on := 44, ground := Ground.phase }], guard := none }) (v := _) rfl (by kernel_rfl) (by kernel_rfl) (by kernel_rfl) (fun _ _ _ h => h) (Or.inl ⟨by rfl, ?hyd_45⟩) (by assumption) ?red_45
            case hyd_45 => (intro W hSw; (try dsimp only at hSw); go_simp; try with_reducible rfl)
            try simp only [Act.put, List.setIfInBounds_toArray, List.set_cons_zero, List.set_cons_succ]
            refine wpAnyH_done (by kernel_rfl) ?_ _
            refine NoPanic.normal ?_
            go_wp2
            go_ret
            exact ⟨rfl, BX3.out.trans (BWq8.out.mono BX3.out.size)⟩
end Go.Proofs.Ytoccbeefmagklaa
