/-
  RecordBack's walk.
-/
import Derived.Test.YtkohlhnkaklnpaaShown
import Derived.Test.YtkohlhnkaklnpaaBackMath
import Derived.Test.YtkohlhnkaklnpaaTornLaws
import Derived.Deep.CutBlock
namespace Go.Proofs.Ytkohlhnkaklnpaa
open Go.RowKit
/-- A list of lists of bytes that came in. -/
def Ls (w : World) (v : Value) (ls : List (List UInt8)) : Prop :=
  ∃ ao c, v = .slice ao ls.length c ∧ ls.length ≤ c ∧ c ≤ maxLen ∧ ∀ i (h : i < ls.length), ∃ g o ua un uc, ao = some ⟨g, o, none⟩ ∧ w.cell? ⟨g, o + i, none⟩ = some (.slice ua un uc) ∧ Bs w (.slice ua un uc) ls[i] ∧ NilOr (.slice ua un uc)
theorem Ls.below {B : Nat} {w w' : World} {v : Value} {ls : List (List UInt8)} (h : Ls w v ls) (hb : Below B w w') (hB : w.heap.size ≤ B) : Ls w' v ls := by
  obtain ⟨ao, c, rfl, h1, h2, h3⟩ := h
  refine ⟨ao, c, rfl, h1, h2, fun i hi => ?_⟩
  obtain ⟨g, o, ua, un, uc, e, hc, hbs, hn⟩ := h3 i hi
  exact ⟨g, o, ua, un, uc, e, (hb.cell (p := ⟨g, o + i, none⟩) (Nat.lt_of_lt_of_le (World.block_lt_of_cell? w _ hc) hB)).trans hc, hbs.below hb hB, hn⟩

theorem own_cap {w : World} {B e s n c : Nat} {ao : Option Addr} {xs : List Value} (h : w.ownsRow B e s (.slice ao n c) n xs) : n ≤ c ∧ c ≤ 9223372036854775807 := by
  rcases h.2 with ⟨e, h0⟩ | ⟨g, c', cur, e, _, _, h1, h2, _⟩
  · simp only [Value.slice.injEq] at e
    obtain ⟨_, _, rfl⟩ := e
    exact ⟨by omega, by omega⟩
  · simp only [Value.slice.injEq] at e
    obtain ⟨_, _, rfl⟩ := e
    unfold maxLen at h2
    exact ⟨h1, by omega⟩

set_option maxHeartbeats 16000000 in
set_option maxRecDepth 100000 in
theorem back_walk (vl vj : Value) (ls : List (List UInt8)) (j : List UInt8) (w : World) (hl : Ls w vl ls) (hj : Bs w vj j) (hnj : NilOr vj) (hjl : j.length ≤ 2000000) :
    Calls Try.prog 5 #[vl, vj] w fun e w' => e = .returned (.bool true) ∧ Below w.heap.size w w' := by
  obtain ⟨aol, cl, rfl, hl1, hl2, _⟩ := id hl
  obtain ⟨aoj, cj, rfl, hj1, hj2, _⟩ := id hj
  unfold maxLen at hl2 hj2
  have HL := hide hl
  have HJ := hide hj
  clear hl hj
  have hsh := shown_any w
  have HSH := hide hsh
  clear hsh
  go_enter Try.func5, Try.ntmps5
  go_wp2_with fail
  refine HSH.out.mono ?_
  rintro e w1 ⟨rfl, be1⟩
  have HL1 := hide (HL.out.below be1 (Nat.le_refl _))
  have HJ1 := hide (HJ.out.below be1 (Nat.le_refl _))
  have BE1 := hide be1
  clear be1 HSH HL HJ
  go_upto_block 0 with fail
  go_cut [6, 7] (fun v6 v7 wx => ∃ i : Nat, i ≤ ls.length ∧ i ≤ 30 ∧ (i = ls.length ∨ i = 30) ∧ v7 = .int .i64 (Rc.goods (ls.take i)).length ∧ Hid (wx.ownsRow w1.heap.size 5 1 v6 (Rc.recs (Rc.goods (ls.take i))).length (Lib.byteCells (Rc.recs (Rc.goods (ls.take i))))) ∧ Hid (Below w1.heap.size w1 wx))
  case first =>
    go_wp2_with fail
    go_loopw [6, 7, 8] (fun v6 v7 v8 wr => ∃ i : Nat, i ≤ ls.length ∧ i ≤ 30 ∧ v8 = .int .i64 i ∧ v7 = .int .i64 (Rc.goods (ls.take i)).length ∧ Hid (wr.ownsRow w1.heap.size 5 1 v6 (Rc.recs (Rc.goods (ls.take i))).length (Lib.byteCells (Rc.recs (Rc.goods (ls.take i))))) ∧ Hid (Below w1.heap.size w1 wr)) (fun _ _ v8 _ => ls.length - (intOf v8).toNat)
    case atStart => exact ⟨0, Nat.zero_le _, by omega, rfl, rfl, World.ownsRow_nil _ _ _ _, Below.refl _ _⟩
    case round =>
      obtain ⟨i, hi, hi30, rfl, rfl, HO, HBE⟩ := hrel
      have hg0 := Rc.goods_le (ls.take i)
      rw [List.length_take] at hg0
      have hrl := Rc.recs_length (Rc.goods (ls.take i)) (fun d hd => Rc.goods_fits hd)
      by_cases hlt : i < ls.length ∧ i < 30
      · obtain ⟨hlt, hlt30⟩ := hlt
        have e1 : (i : Int) < (ls.length : Int) := by omega
        have e2 : (i : Int) < 30 := by omega
        have hLr := HL1.out.below HBE.out (Nat.le_refl _)
        obtain ⟨_, _, ee, _, _, hcs⟩ := hLr
        simp only [Value.slice.injEq] at ee
        obtain ⟨rfl, _, rfl⟩ := ee
        obtain ⟨g, o, ua, un, uc, rfl, hcell, hbs, hnil⟩ := hcs i hlt
        clear hcs
        obtain ⟨_, _, ee, _, _, _⟩ := id hbs
        simp only [Value.slice.injEq] at ee
        obtain ⟨rfl, rfl, rfl⟩ := ee
        have hbw := HBE.out.size
        by_cases hf : Rc.fits ls[i]
        · obtain ⟨t1, t2⟩ := fit_tests hf
          have t3 : (0 : Int) < (ls[i].length : Int) := by have := hf.1; have : ls[i].length ≠ 0 := fun e => this (List.eq_nil_of_length_eq_zero e); omega
          have t4 : (ls[i].length : Int) ≤ 100000 := by omega
          have hput := rput_good _ _ _ _ wr (own_bs HO.out) (own_nilOr HO.out) hbs hnil hf (by omega)
          have HP := hide hput
          clear hput hbs hnil
          go_wp2_with fail
          refine HP.out.mono ?_
          rintro e w2 ⟨v2, rfl, ho2, hb2⟩
          have hcell2 := (hb2.cell (p := ⟨g, o + i, none⟩) (World.block_lt_of_cell? wr _ hcell)).trans hcell
          have HB2 := hide hb2
          have HO2 := hide ho2
          clear HP hb2 ho2 hcell
          go_wp2_with fail
          go_roundw
          case rel =>
            refine ⟨i + 1, by omega, by omega, by go_num, ?_, ?_, HBE.out.trans (HB2.out.mono hbw)⟩
            · rw [Rc.goods_yes ls hlt hf, List.length_append]
              go_num
            · rw [Rc.goods_yes ls hlt hf, Rc.recs_snoc]
              exact own_lower HO2.out hbw
          case measure => simp [intOf]; omega
        · have hput := rput_bad u6 _ _ wr hbs hf
          have HP := hide hput
          have HF := hide hf
          clear hput hbs hnil
          by_cases hz : ls[i].length = 0
          · have t3 : ¬ (0 : Int) < (ls[i].length : Int) := by omega
            have HZ := hide hz
            clear hz hf
            go_wp2_with fail
            refine HP.out.mono ?_
            rintro e w2 ⟨rfl, rfl⟩
            clear HP
            go_wp2_with fail
            go_roundw
            case rel =>
              refine ⟨i + 1, by omega, by omega, by go_num, ?_, ?_, HBE.out⟩
              · rw [Rc.goods_no ls hlt HF.out]
              · rw [Rc.goods_no ls hlt HF.out]
                exact HO.out
            case measure => simp [intOf]; omega
          · have t3 : (0 : Int) < (ls[i].length : Int) := by omega
            have t4 : ¬ (ls[i].length : Int) ≤ 100000 := by
              have : ¬ ls[i].length ≤ 100000 := fun h => hf ⟨fun e => hz (by rw [e]; rfl), h⟩
              omega
            clear hf
            go_wp2_with fail
            refine HP.out.mono ?_
            rintro e w2 ⟨rfl, rfl⟩
            clear HP
            go_wp2_with fail
            go_roundw
            case rel =>
              refine ⟨i + 1, by omega, by omega, by go_num, ?_, ?_, HBE.out⟩
              · rw [Rc.goods_no ls hlt HF.out]
              · rw [Rc.goods_no ls hlt HF.out]
                exact HO.out
            case measure => simp [intOf]; omega
      · by_cases hl3 : i < ls.length
        · have e1 : (i : Int) < (ls.length : Int) := by omega
          have e2 : ¬ (i : Int) < 30 := by omega
          go_wp2_with fail
          go_meet
          exact ⟨i, hi, hi30, .inr (by omega), rfl, HO, HBE⟩
        · have e1 : ¬ (i : Int) < (ls.length : Int) := by omega
          go_wp2_with fail
          go_meet
          exact ⟨i, hi, hi30, .inl (by omega), rfl, HO, HBE⟩
  obtain ⟨i0, hi1, hi2, hi3, rfl, HO, HBE⟩ := hcut
  obtain ⟨w2, rfl⟩ : ∃ w2, w2 = wc := ⟨_, rfl⟩
  have hgf : ∀ d ∈ Rc.goods (ls.take i0), Rc.fits d := fun d hd => Rc.goods_fits hd
  have hgl := Rc.goods_le (ls.take i0)
  rw [List.length_take] at hgl
  have hrl := Rc.recs_length _ hgf
  have HGF := hide hgf
  obtain ⟨gs, hgs⟩ : ∃ gs, gs = Rc.goods (ls.take i0) := ⟨_, rfl⟩
  have HGS := hide hgs
  rw [← hgs] at hgl hrl HO HGF ⊢
  clear hgs hgf
  obtain ⟨ao6, c6, rfl⟩ := own_len HO.out
  have hn6 := own_nilOr HO.out
  have hcap6 := own_cap HO.out
  have HB2 := hide (own_bs HO.out)
  have HL2 := hide (HL1.out.below HBE.out (Nat.le_refl _))
  have HJ2 := hide (HJ1.out.below HBE.out (Nat.le_refl _))
  have BE2 := hide (BE1.out.trans (HBE.out.mono BE1.out.size))
  have hal : ∀ (W : World) o, Below W.heap.size W (W.alloc o) := fun W o => (Below.refl W.heap.size W).alloc (Nat.le_refl _) o
  clear HO HBE HL1 HJ1 BE1
  go_wp2_with (at_builtin; refine wpList_append_bs _ rfl _ _ rfl w2.heap.size _ 0 [] rfl (World.ownsRow_made w2 #[] 0 (Nat.le_refl _) (Nat.zero_le _) rfl) _ (Rc.recs gs) rfl (HB2.out.below (hal _ _) (Nat.le_refl _)) hn6 ?m1 ?m2 ?_)
  case m1 => omega
  case m2 => simp
  intro v3 w3 ho3 hb3
  have hb23 : Below w2.heap.size w2 w3 := (hal _ _).trans hb3
  have hs3 := hb23.size
  have hj3 := HJ2.out.below hb23 (Nat.le_refl _)
  go_wp2_with (at_builtin; refine wpList_append_bs _ rfl _ _ rfl w2.heap.size _ _ _ rfl ho3 _ j rfl hj3 hnj ?m3 ?m4 ?_)
  case m3 => omega
  case m4 => exact hs3
  intro v4 w4 ho4 hb4
  rw [← Lib.byteCells_append] at ho4
  have hb24 : Below w2.heap.size w2 w4 := hb23.trans hb4
  obtain ⟨ao4, c4, rfl⟩ := own_len ho4
  have hcap4 := own_cap ho4
  have hscan := scan_any _ _ w4 (own_bs ho4) (own_nilOr ho4) (by rw [List.length_append]; omega)
  have HSC := hide hscan
  have HJ4 := hide (HJ2.out.below hb24 (Nat.le_refl _))
  have HL4 := hide (HL2.out.below hb24 (Nat.le_refl _))
  have BE4 := hide (BE2.out.trans (hb24.mono BE2.out.size))
  have HO4 := hide ho4
  clear hscan ho3 hb3 hb23 hj3 ho4 hb4 hb24 HJ2 HL2 BE2 HB2
  go_wp2_with fail
  refine HSC.out.mono ?_
  rintro e w5 ⟨v5, ds, k, rfl, ht, hz, hsc, hb5⟩
  obtain ⟨ds', k', hds, hk', ht', hz'⟩ := Rc.told_recs gs j ds k HGF.out ht hz
  have hany := Rc.told_any ht' hz'
  obtain ⟨hback, hfit⟩ := Rc.told_back ds _ k ht
  have hkle := ht.le
  have hdsb : ds.length ≤ 8000000 := by
    have h7 := ht.count
    rw [List.length_append] at hkle
    omega
  obtain ⟨vs5, hown5, hps5, _⟩ := id hsc
  obtain ⟨ao5, c5, rfl⟩ := own_len hown5
  have HSCN := hide hsc
  have HJ5 := hide (HJ4.out.below hb5 (Nat.le_refl _))
  have HL5 := hide (HL4.out.below hb5 (Nat.le_refl _))
  have BE5 := hide (BE4.out.trans (hb5.mono BE4.out.size))
  have HO5 := hide (HO4.out.kept (grown_later hb5) (by cases (Value.slice ao4 ((Rc.recs gs).length + j.length) c4).ownBlock <;> simp))
  have HBACK := hide hback
  have HFIT := hide hfit
  have HDS := hide hds
  have hlk : ds.length = gs.length + ds'.length := by rw [hds, List.length_append]
  have HKK := hide hk'
  have HLK := hide hlk
  have f1 : ¬ (k : Int) < ((Rc.recs gs).length : Int) := by omega
  have f2 : ¬ (ds.length : Int) < (gs.length : Int) := by omega
  have f1' : decide (k < (Rc.recs gs).length) = false := by simp; omega
  have f2' : decide (ds.length < gs.length) = false := by simp; omega
  have f3 : (decide ((Rc.recs gs).length < k) == decide (0 < (Rc.get j).2)) = true := by
    have e : decide ((Rc.recs gs).length < k) = decide (0 < (Rc.get j).2) := by
      rw [decide_eq_decide]
      omega
    rw [e]
    simp
  have hget := rget_any _ _ w5 HJ5.out
  have HGT := hide hget
  clear HSC ht hz ht' hz' hsc hb5 HJ4 HL4 BE4 HO4 hown5 hps5 hback hfit hds hget hk' hlk hany
  go_wp2_with fail
  refine HGT.out.mono ?_
  rintro e w6 ⟨v6, rfl, hp6, hb6⟩
  have HL6 := hide (HL5.out.below hb6 (Nat.le_refl _))
  have HSC6 := hide (HSCN.out.later hb6)
  have BE6 := hide (BE5.out.trans (hb6.mono BE5.out.size))
  have HO6 := hide (HO5.out.kept (grown_later hb6) (by cases (Value.slice ao4 ((Rc.recs gs).length + j.length) c4).ownBlock <;> simp))
  clear HGT hp6 hb6 HL5 HSCN BE5 HO5 HJ5
  go_upto_block 2 with fail
  go_cut [] (fun wx => ∃ d, wx = w6.drewN d)
  case first =>
    go_wp2_with fail
    go_loopw [17, 18] (fun va vi wr => ∃ i : Nat, i ≤ i0 ∧ vi = .int .i64 i ∧ va = .int .i64 (Rc.goods (ls.take i)).length ∧ ∃ d, wr = w6.drewN d) (fun _ vi _ => ls.length - (intOf vi).toNat)
    case atStart => exact ⟨0, Nat.zero_le _, rfl, rfl, 0, rfl⟩
    case round =>
      obtain ⟨i, hi, rfl, rfl, dd, rfl⟩ := hrel
      by_cases hlt : i < i0
      · have hil : i < ls.length := by omega
        have e1 : (i : Int) < (ls.length : Int) := by omega
        have e2 : (i : Int) < 30 := by omega
        obtain ⟨_, _, ee, _, _, hcs⟩ := id HL6.out
        simp only [Value.slice.injEq] at ee
        obtain ⟨rfl, _, rfl⟩ := ee
        obtain ⟨g, o, ua, un, uc, rfl, hcell, hbs, hnil⟩ := hcs i hil
        clear hcs
        obtain ⟨_, _, ee, _, _, _⟩ := id hbs
        simp only [Value.slice.injEq] at ee
        obtain ⟨rfl, rfl, rfl⟩ := ee
        have cvl := conv_drawn hbs
        by_cases hf : Rc.fits ls[i]
        · obtain ⟨t1, t2⟩ := fit_tests hf
          have hgy := Rc.goods_yes ls hil hf
          have hpre : (Rc.goods (ls.take i)).length < gs.length ∧ ∀ h1 : (Rc.goods (ls.take i)).length < ds.length, ds[(Rc.goods (ls.take i)).length] = ls[i] := by
            have hsplit : gs = Rc.goods (ls.take (i + 1)) ++ Rc.goods ((ls.take i0).drop (i + 1)) := by
              rw [HGS.out]
              unfold Rc.goods
              rw [← List.filter_append]
              congr 1
              have := List.take_append_drop (i + 1) (ls.take i0)
              rw [List.take_take, Nat.min_eq_left (by omega)] at this
              exact this.symm
            have hl2 : (Rc.goods (ls.take (i + 1))).length = (Rc.goods (ls.take i)).length + 1 := by rw [hgy]; simp
            refine ⟨by rw [hsplit, List.length_append]; omega, fun h1 => ?_⟩
            have e3 : ds[(Rc.goods (ls.take i)).length]? = some ls[i] := by
              rw [HDS.out, hsplit, hgy, List.append_assoc, List.append_assoc, List.getElem?_append_right (Nat.le_refl _), Nat.sub_self]
              rfl
            exact (List.getElem?_eq_some_iff.1 e3).2
          obtain ⟨hpre1, hpre2⟩ := hpre
          have hld : (Rc.goods (ls.take i)).length < ds.length := by have := HLK.out; omega
          have hpre3 := hpre2 hld
          obtain ⟨g5, c5', e5, hc51, hc52, _, hcc⟩ := HSC6.out.some (fun e => by rw [e] at hld; simp at hld)
          simp only [Value.slice.injEq] at e5
          obtain ⟨rfl, _, rfl⟩ := e5
          obtain ⟨ao7, n7, k7, hu7, hp7⟩ := hcc _ hld
          rw [hpre3] at hp7
          have cvo := conv_drawn hp7.bs
          have HGY := hide hgy
          have HPRE := hide hpre2
          generalize hA : (Rc.goods (ls.take i)).length = A at *
          have e5' : (A : Int) < (ds.length : Int) := by omega
          have e6 : (i : Int) < (ls.length : Int) := e1
          have z2 : ((ByteArray.mk (List.toArray ls[i])).toList == (ByteArray.mk (List.toArray ls[i])).toList) = true := by simp
          clear hcc hbs hnil hp7 hpre2 hpre3 hgy
          go_wp2_with fail
          go_quiet (fail)
          go_wp2_with fail
          go_roundw
          case rel => exact ⟨i + 1, by omega, by go_num, by rw [HGY.out, List.length_append, List.length_singleton, hA]; go_num, dd + nq, by simp⟩
          case measure => simp [intOf]; omega
        · have HF := hide hf
          have hgn := Rc.goods_no ls hil hf
          have HGN := hide hgn
          clear hgn hbs hnil cvl
          by_cases hz : ls[i].length = 0
          · have t1 : ((ls[i].length : Int) == 0) = true := by simp [hz]
            have HZ := hide hz
            clear hz hf
            go_wp2_with fail
            go_roundw
            case rel => exact ⟨i + 1, by omega, by go_num, by rw [HGN.out], dd, rfl⟩
            case measure => simp [intOf]; omega
          · have t1 : ((ls[i].length : Int) == 0) = false := by rw [beq_eq_false_iff_ne]; omega
            have t4 : (ls[i].length : Int) > 100000 := by
              have : ¬ ls[i].length ≤ 100000 := fun h => hf ⟨fun e => hz (by rw [e]; rfl), h⟩
              omega
            clear hf
            go_wp2_with fail
            go_roundw
            case rel => exact ⟨i + 1, by omega, by go_num, by rw [HGN.out], dd, rfl⟩
            case measure => simp [intOf]; omega
      · obtain rfl : i = i0 := by omega
        rcases hi3 with h3 | h3
        · have e1 : ¬ (i : Int) < (ls.length : Int) := by omega
          have H3 := hide h3
          clear h3
          go_wp2_with fail
          go_meet
          exact ⟨dd, rfl⟩
        · have e2 : ¬ (i : Int) < 30 := by omega
          have H3 := hide h3
          clear h3
          by_cases hl3 : i < ls.length
          · have e1 : (i : Int) < (ls.length : Int) := by omega
            go_wp2_with fail
            go_meet
            exact ⟨dd, rfl⟩
          · have e1 : ¬ (i : Int) < (ls.length : Int) := by omega
            go_wp2_with fail
            go_meet
            exact ⟨dd, rfl⟩
  obtain ⟨d7, rfl⟩ := hcut
  clear f1 f2 f3 f1' f2'
  have hq7 := below_drawn w6 d7
  have HSC7 := hide (HSC6.out.later hq7)
  have BE7 := hide (BE6.out.trans (hq7.mono BE6.out.size))
  have HO7 := hide (HO6.out.kept (grown_later hq7) (by cases (Value.slice ao4 ((Rc.recs gs).length + j.length) c4).ownBlock <;> simp))
  clear HSC6 BE6 HO6 hq7 HL6
  generalize w6.drewN d7 = w7 at *
  have hrd : ∀ i, i ≤ ds.length → (Rc.recs (ds.take i)).length ≤ (Rc.recs ds).length := fun i hi => by
    have := congrArg List.length (congrArg Rc.recs (List.take_append_drop i ds))
    rw [Rc.recs_append, List.length_append] at this
    omega
  have hdl : (Rc.recs ds).length ≤ 8000000 := by
    rw [HBACK.out, List.length_take, List.length_append]
    omega
  go_wp2_with fail
  go_loopw [19, 20] (fun va vi wr => ∃ i : Nat, i ≤ ds.length ∧ vi = .int .i64 i ∧ Hid (wr.ownsRow w7.heap.size 5 1 va (Rc.recs (ds.take i)).length (Lib.byteCells (Rc.recs (ds.take i)))) ∧ Hid (Below w7.heap.size w7 wr)) (fun _ vi _ => ds.length - (intOf vi).toNat)
  case atStart => exact ⟨0, Nat.zero_le _, rfl, World.ownsRow_nil _ _ _ _, Below.refl _ _⟩
  case round =>
    obtain ⟨i, hi, rfl, HA, HBE⟩ := hrel
    have hb1 := HBE.out.size
    have hsm := hrd i hi
    by_cases hlt : i < ds.length
    · have e1 : (i : Int) < (ds.length : Int) := by omega
      obtain ⟨g5, c5', e5, _, _, _, hcc⟩ := HSC7.out.some (fun e => by rw [e] at hlt; simp at hlt)
      simp only [Value.slice.injEq] at e5
      obtain ⟨rfl, _, rfl⟩ := e5
      obtain ⟨ao8, n8, k8, hu8, hp8⟩ := hcc i hlt
      have hu8' := (HBE.out.cell (p := ⟨g5, i, none⟩) (World.block_lt_of_cell? w7 _ hu8)).trans hu8
      have hf := HFIT.out ds[i] (List.getElem_mem hlt)
      have hput := rput_good _ _ _ _ wr (own_bs HA.out) (own_nilOr HA.out) (hp8.bs.below HBE.out (Nat.le_refl _)) hp8.nilOr hf (by omega)
      have HP := hide hput
      have HR := hide (show Rc.recs (ds.take (i + 1)) = Rc.recs (ds.take i) ++ Rc.made ds[i] by rw [List.take_succ_eq_append_getElem hlt, Rc.recs_snoc])
      clear hput hcc hp8 hf hu8
      go_wp2_with fail
      refine HP.out.mono ?_
      rintro e w8 ⟨v8, rfl, ho8, hb8⟩
      have HO8 := hide ho8
      have HB8 := hide hb8
      clear ho8 hb8 HP
      go_wp2_with fail
      go_roundw
      case rel =>
        refine ⟨i + 1, by omega, by go_num, ?_, HBE.out.trans (HB8.out.mono hb1)⟩
        rw [HR.out]
        exact own_lower HO8.out hb1
      case measure => simp [intOf]; omega
    · have e1 : ¬ (i : Int) < (ds.length : Int) := by omega
      obtain rfl : i = ds.length := by omega
      have ha := HA.out
      rw [List.take_length] at ha
      have cv1 := conv_drawn (own_bs ha)
      have htk : Bs wr (.slice ao4 k c4) ((Rc.recs gs ++ j).take k) := by
        have hb4 := own_bs (HO7.out.kept (grown_later HBE.out) (by cases (Value.slice ao4 ((Rc.recs gs).length + j.length) c4).ownBlock <;> simp))
        obtain ⟨_, _, ee, q1, q2, q3⟩ := hb4
        simp only [Value.slice.injEq] at ee
        obtain ⟨rfl, _, rfl⟩ := ee
        have e : ((Rc.recs gs ++ j).take k).length = k := by rw [List.length_take]; omega
        refine ⟨ao4, c4, by rw [e], by omega, q2, fun x hx => ?_⟩
        rw [e] at hx
        obtain ⟨g, o, h1, h2⟩ := q3 x (by omega)
        exact ⟨g, o, h1, by rw [h2, List.getElem_take]⟩
      have cv2 := conv_drawn htk
      rw [← HBACK.out] at cv2
      have z1 : ((ByteArray.mk (List.toArray (Rc.recs ds))).toList == (ByteArray.mk (List.toArray (Rc.recs ds))).toList) = true := by simp
      have hkc : (k : Int) ≤ (c4 : Int) := by rw [List.length_append] at hkle; omega
      have hk0 : (0 : Int) ≤ (k : Int) := by omega
      have HB9 := hide (BE7.out.trans (HBE.out.mono BE7.out.size))
      clear ha htk
      go_wp2_with fail
      go_quiet (fail)
      go_wp2_with fail
      go_ret
      exact ⟨rfl, HB9.out.trans ((below_drawn wr nq).mono HB9.out.size)⟩
end Go.Proofs.Ytkohlhnkaklnpaa
