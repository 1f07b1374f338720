/-
  The document's Get of records: it tells what Rc.get tells.
-/
import Derived.Test.YtkohlhnkaklnpaaRefMade
import Derived.Test.YtkohlhnkaklnpaaRefGet
import Derived.Test.YtkohlhnkaklnpaaCut
import Derived.Test.YtkohlhnkaklnpaaTornMath
import Derived.Test.YtkohlhnkaklnpaaTornLaws
namespace Go.Proofs.Ytkohlhnkaklnpaa
open Go.RowKit
namespace Rc
/-- The record of the data stands there just if the sum is right. -/
theorem made_whole {b : List UInt8} (hw : whole b) : made (data b) = b.take (1 + siz b + 4 + num b) ↔ sum4 (b.take (1 + siz b) ++ data b) = (b.drop (1 + siz b)).take 4 := by
  have hdl := data_length hw
  have h0 := siz_pos hw.2.1
  have hall := hw.2.2.2
  have hh : b.take (1 + siz b) = head (data b).length := by
    obtain ⟨m, t, rfl⟩ : ∃ m t, b = m :: t := by
      cases b with
      | nil => simp at hall
      | cons m t => exact ⟨m, t, rfl⟩
    have hm : m = 130 := by
      have := hw.1
      simpa using this
    subst hm
    have u1 : t.take (siz (130 :: t)) = Lib.uvarint (num (130 :: t)) := (getN_back (b := t) (n := (Dec.getN t).1) (s := (Dec.getN t).2) rfl h0).1
    rw [hdl, Nat.add_comm, List.take_succ_cons, u1]
    rfl
  have e : b.take (1 + siz b + 4 + num b) = head (data b).length ++ ((b.drop (1 + siz b)).take 4 ++ data b) := by
    have t1 : b.take ((1 + siz b) + (4 + num b)) = b.take (1 + siz b) ++ (b.drop (1 + siz b)).take (4 + num b) := List.take_add
    have t2 : (b.drop (1 + siz b)).take (4 + num b) = (b.drop (1 + siz b)).take 4 ++ ((b.drop (1 + siz b)).drop 4).take (num b) := List.take_add
    rw [show 1 + siz b + 4 + num b = (1 + siz b) + (4 + num b) by omega, t1, t2, List.drop_drop, hh]
    rfl
  rw [e, made, List.append_cancel_left_eq, hh]
  constructor
  · intro h
    exact (List.append_inj h (by rw [sum4_length, List.length_take, List.length_drop]; omega)).1
  · intro h
    rw [h]
end Rc

set_option maxHeartbeats 8000000 in
set_option maxRecDepth 100000 in
theorem reftake_any (v : Value) (b : List UInt8) (w : World) (h : Bs w v b) :
    Calls Try.prog 26 #[v] w fun e w' => ∃ v', e = .returned (.tuple #[v', .int .i64 (Rc.get b).2]) ∧ w'.ownsRow w.heap.size 5 1 v' (Rc.get b).1.length (Lib.byteCells (Rc.get b).1) ∧ Below w.heap.size w w' := by
  have none_of : ¬ Rc.whole b → Rc.get b = ([], 0) := fun hn => Rc.get_neg (fun h => hn h.1)
  rcases h.parts with ⟨ao, c, rfl, rfl⟩ | ⟨g, o, c, rfl, hp, h1, h2, h3⟩
  · go_enter Try.func26, Try.ntmps26
    go_wp2
    go_ret2
    exact ⟨_, rfl, World.ownsRow_nil _ _ _ _, Below.refl _ _⟩
  · have hglt := World.block_lt_of_cell? w _ (h3 0 hp)
    have hc0 : w.cell? ⟨g, o, none⟩ = some (.int .u8 (b[0]).toNat) := h3 0 hp
    have hm := (b[0]).toNat_lt
    have z : ¬ (b.length : Int) < 1 := by omega
    have hp1 : (0 : Int) < (b.length : Int) := by omega
    have hget := rget2_any _ _ _ (Bs.drop (w := w) 1 (by omega) h1 h2 h3)
    have HG := hide hget
    have H3 := hide h3
    have H2 := hide h2
    have NO := hide none_of
    clear h3 h hget none_of
    unfold maxLen at h2
    by_cases hm130 : b[0] = 130
    · rw [hm130] at hc0
      have H130 := hide hm130
      clear hm130
      have hg := HG.out
      by_cases hc1 : c = 1
      · subst hc1
        obtain hl1 : b.length = 1 := by omega
        rw [List.drop_eq_nil_of_le (by omega), show Dec.getN [] = (0, 0) from rfl, if_pos rfl] at hg
        have HL := hide hl1
        have hl2 : b.length - 1 = 0 := by omega
        have HG1 := hide hg
        clear hg hl1 HG
        go_enter Try.func26, Try.ntmps26
        go_wp2_with fail
        refine HG1.out.mono ?_
        rintro e w' ⟨rfl, rfl⟩
        go_wp2_with fail
        go_ret2
        rw [NO.out (fun hw => by have := hw.2.2.2; have := HL.out; omega)]
        exact ⟨_, rfl, World.ownsRow_nil _ _ _ _, Below.refl _ _⟩
      · rw [if_neg (fun e => hc1 e.symm)] at hg
        have hg' : Calls Try.prog 39 #[.slice (some ⟨g, o + 1, none⟩) (b.length - 1) (c - 1)] w fun e w' => e = .returned (.tuple #[.int .u64 (Rc.num b), .int .i64 (Rc.siz b)]) ∧ w' = w := hg
        have HG1 := hide hg'
        clear hg hg' HG
        have hs10 := Rc.siz_ten b
        have hn64 := Rc.num_lt b
        go_enter Try.func26, Try.ntmps26
        go_wp2_with fail
        refine HG1.out.mono ?_
        rintro e w' ⟨rfl, rfl⟩
        by_cases hbad : Rc.num b ≠ 0 ∧ Rc.num b ≤ 100000
        · obtain ⟨hn0, hn1⟩ := hbad
          have hs0 := Rc.siz_pos hn0
          have z0 : ((Rc.siz b : Int) == 0) = false := by rw [beq_eq_false_iff_ne]; omega
          have z1 : ¬ (Rc.num b : Int) < 1 := by omega
          have z2 : ¬ (Rc.num b : Int) > 100000 := by omega
          have hw1 : IntKind.i64.wrap (Rc.num b : Int) = (Rc.num b : Int) := by rw [IntKind.wrap_i64]; omega
          by_cases hall : 1 + Rc.siz b + 4 + Rc.num b ≤ b.length
          · have hw : Rc.whole b := ⟨by rw [List.getElem?_eq_getElem hp, H130.out], hn0, hn1, hall⟩
            have g2 : ¬ ((1 : Int) + (Rc.siz b : Int) + 4 + (Rc.num b : Int) > (b.length : Int)) := by omega
            have q1 : (1 : Int) + (Rc.siz b : Int) + 4 ≤ 1 + (Rc.siz b : Int) + 4 + (Rc.num b : Int) := by omega
            have q2 : (1 : Int) + (Rc.siz b : Int) + 4 + (Rc.num b : Int) ≤ (c : Int) := by omega
            have hne : ¬ c = 1 + Rc.siz b + 4 := by omega
            have hdl := Rc.data_length hw
            have hbd : Bs w' (.slice (some ⟨g, o + (1 + Rc.siz b + 4), none⟩) (1 + Rc.siz b + 4 + Rc.num b - (1 + Rc.siz b + 4)) (c - (1 + Rc.siz b + 4))) (Rc.data b) := by
              have := Bs.row (w := w') (g := g) (o := o + (1 + Rc.siz b + 4)) (c := c - (1 + Rc.siz b + 4)) (l := Rc.data b) (by omega) (by have := H2.out; omega) (fun x hx => by
                have := H3.out (1 + Rc.siz b + 4 + x) (by omega)
                rw [Nat.add_assoc o, this]
                simp [Rc.data])
              rwa [hdl, show Rc.num b = 1 + Rc.siz b + 4 + Rc.num b - (1 + Rc.siz b + 4) by omega] at this
            have HBD := hide hbd
            have HW := hide hw
            have HDL := hide hdl
            have hal : ∀ (W : World) o, Below W.heap.size W (W.alloc o) := fun W o => (Below.refl W.heap.size W).alloc (Nat.le_refl _) o
            clear hbd hw hdl
            go_wp2_with (at_builtin; refine wpList_append_bs _ rfl _ _ rfl w'.heap.size _ 0 [] rfl (World.ownsRow_made w' #[] 0 (Nat.le_refl _) (Nat.zero_le _) rfl) _ (Rc.data b) rfl (HBD.out.below (hal _ _) (Nat.le_refl _)) (.inr ⟨_, _, _, rfl⟩) ?m1 ?m2 ?_)
            case m1 => have := HDL.out; omega
            case m2 => simp
            intro v2 w2 ho2 hb2
            have hb12 : Below w'.heap.size w' w2 := (hal _ _).trans hb2
            have hmade := rmade_any v2 _ w2 (own_bs ho2) (own_nilOr ho2) (by have := HDL.out; omega)
            have HM := hide hmade
            have HO2 := hide ho2
            have HB12 := hide hb12
            clear hmade ho2 hb2 hb12
            go_wp2_with fail
            refine HM.out.mono ?_
            rintro e w3 ⟨v3, rfl, ho3, hb3⟩
            have hb13 : Below w'.heap.size w' w3 := HB12.out.trans (hb3.mono HB12.out.size)
            have hbe : Bs w3 (.slice (some ⟨g, o, none⟩) (1 + Rc.siz b + 4 + Rc.num b) c) (b.take (1 + Rc.siz b + 4 + Rc.num b)) := by
              have e : (b.take (1 + Rc.siz b + 4 + Rc.num b)).length = 1 + Rc.siz b + 4 + Rc.num b := by rw [List.length_take]; omega
              have := Bs.row (w := w') (g := g) (o := o) (c := c) (l := b.take (1 + Rc.siz b + 4 + Rc.num b)) (by omega) H2.out (fun x hx => by rw [H3.out x (by omega), List.getElem_take])
              rw [e] at this
              exact this.below hb13 (Nat.le_refl _)
            have cv1 := conv_drawn (own_bs ho3)
            have cv2 := conv_drawn hbe
            have HB13 := hide hb13
            have HO3 := hide (HO2.out.kept (grown_later hb3) (by cases v2.ownBlock <;> simp))
            clear HM hbe ho3 hb3 hb13 HO2 HBD
            by_cases heq : Rc.made (Rc.data b) = b.take (1 + Rc.siz b + 4 + Rc.num b)
            · have z3 : ((ByteArray.mk (List.toArray (Rc.made (Rc.data b)))).toList == (ByteArray.mk (List.toArray (b.take (1 + Rc.siz b + 4 + Rc.num b)))).toList) = true := by rw [heq]; simp
              have z4 : (Rc.made (Rc.data b) == b.take (1 + Rc.siz b + 4 + Rc.num b)) = true := by rw [heq]; simp
              have E := hide (Rc.get_pos HW.out ((Rc.made_whole HW.out).1 heq))
              have HEQ := hide heq
              clear heq
              go_wp2_with fail
              go_quiet (fail)
              go_wp2_with fail
              go_ret2
              rw [E.out]
              exact ⟨_, ret_tup (by omega), HO3.out.kept (grown_later (below_drawn w3 nq)) (by cases v2.ownBlock <;> simp), HB13.out.trans ((below_drawn w3 nq).mono HB13.out.size)⟩
            · have z3 : ((ByteArray.mk (List.toArray (Rc.made (Rc.data b)))).toList == (ByteArray.mk (List.toArray (b.take (1 + Rc.siz b + 4 + Rc.num b)))).toList) = false := by
                rw [beq_eq_false_iff_ne]
                intro e
                exact heq (by simpa using e)
              have z4 : (Rc.made (Rc.data b) == b.take (1 + Rc.siz b + 4 + Rc.num b)) = false := by rw [beq_eq_false_iff_ne]; exact heq
              have E := hide (Rc.get_neg (b := b) (fun h => heq ((Rc.made_whole HW.out).2 h.2)))
              clear heq
              go_wp2_with fail
              go_quiet (fail)
              go_wp2_with fail
              go_ret2
              rw [E.out]
              exact ⟨_, rfl, World.ownsRow_nil _ _ _ _, HB13.out.trans ((below_drawn w3 nq).mono HB13.out.size)⟩
          · have g2 : ((1 : Int) + (Rc.siz b : Int) + 4 + (Rc.num b : Int) > (b.length : Int)) := by omega
            go_wp2_with fail
            go_ret2
            rw [NO.out (fun hw => hall hw.2.2.2)]
            exact ⟨_, rfl, World.ownsRow_nil _ _ _ _, Below.refl _ _⟩
        · by_cases hn0 : Rc.num b = 0
          · have z1 : (Rc.num b : Int) < 1 := by omega
            have HN := hide hn0
            clear hn0
            by_cases hs0 : Rc.siz b = 0
            · have z0 : ((Rc.siz b : Int) == 0) = true := by simp [hs0]
              have HS := hide hs0
              clear hs0
              go_wp2_with fail
              go_ret2
              rw [NO.out (fun hw => hw.2.1 HN.out)]
              exact ⟨_, rfl, World.ownsRow_nil _ _ _ _, Below.refl _ _⟩
            · have z0 : ((Rc.siz b : Int) == 0) = false := by rw [beq_eq_false_iff_ne]; omega
              go_wp2_with fail
              go_ret2
              rw [NO.out (fun hw => hw.2.1 HN.out)]
              exact ⟨_, rfl, World.ownsRow_nil _ _ _ _, Below.refl _ _⟩
          · have hs0 := Rc.siz_pos hn0
            have z0 : ((Rc.siz b : Int) == 0) = false := by rw [beq_eq_false_iff_ne]; omega
            have z1 : ¬ (Rc.num b : Int) < 1 := by omega
            have z2 : (Rc.num b : Int) > 100000 := by omega
            go_wp2_with fail
            go_ret2
            rw [NO.out (fun hw => by have := hw.2.2.1; omega)]
            exact ⟨_, rfl, World.ownsRow_nil _ _ _ _, Below.refl _ _⟩
    · have hmz : (((b[0]).toNat : Int) != 130) = true := by
        rw [bne_iff_ne]
        intro e
        exact hm130 (by apply UInt8.toNat_inj.1; simp; omega)
      go_enter Try.func26, Try.ntmps26
      go_wp2_with fail
      go_ret2
      rw [NO.out (fun hw => hm130 (by have := hw.1; rw [List.getElem?_eq_getElem hp] at this; exact Option.some.inj this))]
      exact ⟨_, rfl, World.ownsRow_nil _ _ _ _, Below.refl _ _⟩
end Go.Proofs.Ytkohlhnkaklnpaa
