/-
  The document's row (function 45): numbers in a form, in its one loop.
-/
import Derived.Test.YtoccbeefmagklaaRefGetMore
import Derived.Test.YtoccbeefmagklaaRefRead
namespace Go.Proofs.Ytoccbeefmagklaa
open Go.RowKit

def vlen : Value → Nat
  | .slice _ n _ => n
  | _ => 0
/-- What the document's row hands back. -/
def RfOut (w w' : World) (e : Ending) (l : List UInt8) (f n : Nat) : Prop :=
  (e = .returned (.tuple #[.slice none 0 0, .int .i64 0]) ∧ Rd.form l f n = none) ∨
  ∃ (zs : List Int) (t : Nat) (v : Value), e = .returned (.tuple #[v, .int .i64 t]) ∧ t ≠ 0 ∧ t ≤ l.length ∧ zs.length = n ∧ Rw.AllFit zs ∧ Nown w' w.heap.size v zs ∧ (Rd.form l f n = none ∨ Rd.form l f n = some (zs, t))
theorem rgetInt_none (g o : Nat) (w : World) : Calls Try.prog 24 #[.slice (some ⟨g, o, none⟩) 0 0] w fun e w' => e = .returned (.tuple #[.int .i64 0, .int .i64 0]) ∧ w' = w :=
  rgetInt_any _ [] w ⟨some ⟨g, o, none⟩, 0, rfl, Nat.le_refl _, Nat.zero_le _, fun j hj => absurd hj (by simp)⟩
theorem rget_none (g o : Nat) (w : World) : Calls Try.prog 22 #[.slice (some ⟨g, o, none⟩) 0 0] w fun e w' => e = .returned (.tuple #[.int .u64 0, .int .i64 0]) ∧ w' = w :=
  rget_any _ [] w ⟨some ⟨g, o, none⟩, 0, rfl, Nat.le_refl _, Nat.zero_le _, fun j hj => absurd hj (by simp)⟩


set_option maxHeartbeats 4000000 in
set_option maxRecDepth 100000 in
theorem rrow_0 (g o c n : Nat) (l : List UInt8) (w : World) (hn : 1 ≤ n) (hn' : n ≤ 100000) (hlc : l.length ≤ c) (hm : c ≤ maxLen) (hc : BCells w g o l) (hg : g < w.heap.size) :
    Calls Try.prog 45 #[.slice (some ⟨g, o, none⟩) l.length c, .int .i64 n, .int .u8 0] w fun e w' => RfOut w w' e l 0 n ∧ Below w.heap.size w w' := by
  obtain ⟨i0, hi, hz0, hz1, hz2⟩ := info_parts info2
  have HC := hide hc
  have HM := hide hm
  unfold maxLen at hm
  clear hc
  go_enter Try.func45, Try.ntmps45
  go_wp2
  go_loopw [8, 9, 11] (fun vl va vr wr => ∃ (a : Nat) (pre : List Int), pre.length ≤ n ∧ a ≤ l.length ∧ va = .int .i64 a ∧ vr = .int .u64 0 ∧ Hid (Rw.AllFit pre) ∧ pre.length ≤ a ∧ Nown wr w.heap.size vl pre ∧ Below w.heap.size w wr ∧ Hid (Rd.Num l n 0 pre a 0)) (fun vl _ _ _ => n - vlen vl)
  case atStart => exact ⟨0, [], Nat.zero_le _, Nat.zero_le _, rfl, rfl, fun z hz => by simp at hz, Nat.zero_le _, World.ownsRow_nil _ _ _ _, Below.refl _ _, Rd.Num.start (by omega)⟩
  case round =>
    obtain ⟨a, pre, hpn, ha, rfl, rfl, hfit, hnt, ho, hb, hat⟩ := hrel
    obtain ⟨ao, cap, rfl, hcap, hcm, hsh⟩ := ho.shape
    clear hsh
    unfold maxLen at hcm
    have HO := hide ho
    have HB := hide hb
    clear ho hb
    by_cases hlt : pre.length < n
    · have hlti : (pre.length : Int) < n := by omega
      by_cases hac : a = c
      · have hnil : l.drop a = [] := List.drop_eq_nil_of_le (by omega)
        have E := hide (hat.out.stop hlt (by rw [hnil]; rfl))
        subst hac
        have hgn := rgetInt_none g o wr
        clear hat hnil
        go_wp2_with fail
        refine hgn.mono ?_
        rintro e w' ⟨rfl, rfl⟩
        go_wp2
        go_ret2
        exact ⟨.inl ⟨rfl, E.out⟩, HB.out⟩
      · have hgi := rgetInt_any _ _ wr (Bs.cut (bcells_below HC.out HB.out hg) hlc HM.out ha hac)
        have hac' : ¬ (a : Int) = c := by omega
        have hle1 := Dec.getN_le (l.drop a)
        rw [List.length_drop] at hle1
        obtain ⟨x, s, hp⟩ : ∃ x s, Dec.getN (l.drop a) = (x, s) := ⟨_, _, rfl⟩
        have HP := hide hp
        rw [hp] at hgi hle1
        simp only at hgi hle1
        have HF := hide (Rd.unzig_fit hp)
        by_cases hs0 : s = 0
        · have E := hide (hat.out.stop hlt (by rw [hp]; exact hs0))
          have z4 : ((s : Int) == 0) = true := by simp [hs0]
          clear hs0 hat hp
          go_wp2_with fail
          refine hgi.mono ?_
          rintro e w6 ⟨rfl, rfl⟩
          go_wp2
          go_ret2
          exact ⟨.inl ⟨rfl, E.out⟩, HB.out⟩
        · have z4 : ((s : Int) == 0) = false := by simp [hs0]
          have S2 := hide (hat.out.step (y := Dec.unzig x) (last' := 0) hlt hp hs0 (.inr ⟨by omega, rfl⟩))
          generalize Dec.unzig x = z at *
          clear hat hp HP
          go_wp2_with fail
          refine hgi.mono ?_
          rintro e w6 ⟨rfl, rfl⟩
          go_wp2
          go_loopw [8, 14] (fun vl vm wr2 => ∃ j q : Nat, q + j = 1 ∧ vm = .int .u64 q ∧ Nown wr2 w.heap.size vl (pre ++ List.replicate j z) ∧ Below w.heap.size w wr2) (fun _ vm _ => (intOf vm).toNat)
          case atStart => exact ⟨0, 1, rfl, rfl, by rw [List.replicate_zero, List.append_nil]; exact HO.out, HB.out⟩
          case round =>
            obtain ⟨j, q, hq, rfl, hoj, hbj⟩ := hrel
            obtain ⟨aoj, capj, hvj, hcapj, hcmj, hshj⟩ := hoj.shape
            clear hshj
            by_cases hjn : 0 < q
            · have hjn' : (0 : Int) < q := by omega
              have hlen : (pre ++ List.replicate j z).length ≤ 100000 := by simp; omega
              have hszj := hbj.size
              clear hvj
              go_wp2_with (at_builtin; refine wpList_append_own _ rfl _ _ 24 rfl w.heap.size 2 i0 (.int .i64 0) 1 8 Try.underlying24 hi hz0 hz1 hz2 rfl (by decide) _ _ _ rfl (hoj.alloc _) ⟨wr.heap.size, 0, none⟩ 1 1 [Value.int .i64 z] rfl rfl ?c1 ?c2 ?c3 ?c4 ?c5 ?_)
              case c1 => first | exact cell_one_new _ _ _ | (intro j u hj; match j, hj with | 0, hj => simp at hj; subst hj; simp [Addr.add])
              case c2 => first | rfl | (intro u hu; simp at hu; subst hu; rfl) | simp [Value.oneCell']
              case c3 => unfold maxLen; omega
              case c4 => omega
              case c5 => simp; omega
              intro v' w1 hown' hgrow _
              have hnx1 : Below w.heap.size w w1 := (hbj.alloc (by omega) _).grown hgrow (by simp; omega) (fun k hk => (hoj.lt k hk).1)
              have hown2 := nown_snoc (j := j) hown'
              have H2 := hide hown2
              clear hown' hgrow hoj hown2
              go_wp2
              exact ⟨⟨j + 1, q - 1, by omega, by go_num, H2.out, hnx1⟩, by simp [intOf]; omega⟩
            · obtain rfl : q = 0 := by omega
              obtain rfl : 1 = j := by omega
              have HOJ := hide hoj
              have HVJ := hide hvj
              clear hoj hvj
              go_wp2
              exact ⟨⟨a + s, pre ++ List.replicate 1 z, by simp; omega, by omega, by go_num, rfl, Rd.fit_more hfit.out HF.out _, by simp; omega, HOJ.out, hbj, S2.out⟩, by rw [HVJ.out]; simp [vlen]; omega⟩
    · have hpe : pre.length = n := by omega
      have E := hide (hat.out.done hpe)
      have HOn : Hid (Nown wr w.heap.size (.slice ao n cap) pre) := by
        have := HO.out
        rw [hpe] at this
        exact this
      have z1 : ((pre.length : Int) != n) = false := by rw [bne_eq_false_iff_eq]; omega
      have hnl : ¬ (pre.length : Int) < n := by omega
      clear hat
      go_wp2
      go_ret2
      exact ⟨.inr ⟨pre, a, _, rfl, by omega, ha, hpe, hfit.out, HOn.out, .inr E.out⟩, HB.out⟩


set_option maxHeartbeats 4000000 in
set_option maxRecDepth 100000 in
theorem rrow_1 (g o c n : Nat) (l : List UInt8) (w : World) (hn : 1 ≤ n) (hn' : n ≤ 100000) (hlc : l.length ≤ c) (hm : c ≤ maxLen) (hc : BCells w g o l) (hg : g < w.heap.size) :
    Calls Try.prog 45 #[.slice (some ⟨g, o, none⟩) l.length c, .int .i64 n, .int .u8 1] w fun e w' => RfOut w w' e l 1 n ∧ Below w.heap.size w w' := by
  obtain ⟨i0, hi, hz0, hz1, hz2⟩ := info_parts info2
  have HC := hide hc
  have HM := hide hm
  unfold maxLen at hm
  clear hc
  go_enter Try.func45, Try.ntmps45
  go_wp2
  go_loopw [8, 9, 10, 11] (fun vl va vt vr wr => ∃ (a : Nat) (pre : List Int) (last : Int), pre.length ≤ n ∧ a ≤ l.length ∧ va = .int .i64 a ∧ vt = .int .i64 last ∧ vr = .int .u64 0 ∧ Hid (Rw.AllFit pre) ∧ pre.length ≤ a ∧ Nown wr w.heap.size vl pre ∧ Below w.heap.size w wr ∧ Hid (Rd.Num l n 1 pre a last)) (fun vl _ _ _ _ => n - vlen vl)
  case atStart => exact ⟨0, [], 0, Nat.zero_le _, Nat.zero_le _, rfl, rfl, rfl, fun z hz => by simp at hz, Nat.zero_le _, World.ownsRow_nil _ _ _ _, Below.refl _ _, Rd.Num.start (by omega)⟩
  case round =>
    obtain ⟨a, pre, last, hpn, ha, rfl, rfl, rfl, hfit, hnt, ho, hb, hat⟩ := hrel
    obtain ⟨ao, cap, rfl, hcap, hcm, hsh⟩ := ho.shape
    clear hsh
    unfold maxLen at hcm
    have HO := hide ho
    have HB := hide hb
    clear ho hb
    by_cases hlt : pre.length < n
    · have hlti : (pre.length : Int) < n := by omega
      by_cases hac : a = c
      · have hnil : l.drop a = [] := List.drop_eq_nil_of_le (by omega)
        have E := hide (hat.out.stop hlt (by rw [hnil]; rfl))
        subst hac
        have hgn := rgetInt_none g o wr
        clear hat hnil
        go_wp2_with fail
        refine hgn.mono ?_
        rintro e w' ⟨rfl, rfl⟩
        go_wp2
        go_ret2
        exact ⟨.inl ⟨rfl, E.out⟩, HB.out⟩
      · have hgi := rgetInt_any _ _ wr (Bs.cut (bcells_below HC.out HB.out hg) hlc HM.out ha hac)
        have hac' : ¬ (a : Int) = c := by omega
        have hle1 := Dec.getN_le (l.drop a)
        rw [List.length_drop] at hle1
        obtain ⟨x, s, hp⟩ : ∃ x s, Dec.getN (l.drop a) = (x, s) := ⟨_, _, rfl⟩
        have HP := hide hp
        rw [hp] at hgi hle1
        simp only at hgi hle1
        have HF := hide (Rd.unzig_fit hp)
        by_cases hs0 : s = 0
        · have E := hide (hat.out.stop hlt (by rw [hp]; exact hs0))
          have z4 : ((s : Int) == 0) = true := by simp [hs0]
          clear hs0 hat hp
          go_wp2_with fail
          refine hgi.mono ?_
          rintro e w6 ⟨rfl, rfl⟩
          go_wp2
          go_ret2
          exact ⟨.inl ⟨rfl, E.out⟩, HB.out⟩
        · have z4 : ((s : Int) == 0) = false := by simp [hs0]
          have S2 := hide (hat.out.step (y := wrap64 (Dec.unzig x + last)) (last' := wrap64 (Dec.unzig x + last)) hlt hp hs0 (.inl ⟨rfl, rfl, rfl⟩))
          have HF' := hide (Rw.wrap64_fits (Dec.unzig x + last))
          generalize Dec.unzig x = z0 at *
          clear hat hp HP
          go_wp2_with fail
          refine hgi.mono ?_
          rintro e w6 ⟨rfl, rfl⟩
          go_wp2
          generalize wrap64 (z0 + last) = z at *
          go_loopw [8, 14] (fun vl vm wr2 => ∃ j q : Nat, q + j = 1 ∧ vm = .int .u64 q ∧ Nown wr2 w.heap.size vl (pre ++ List.replicate j z) ∧ Below w.heap.size w wr2) (fun _ vm _ => (intOf vm).toNat)
          case atStart => exact ⟨0, 1, rfl, rfl, by rw [List.replicate_zero, List.append_nil]; exact HO.out, HB.out⟩
          case round =>
            obtain ⟨j, q, hq, rfl, hoj, hbj⟩ := hrel
            obtain ⟨aoj, capj, hvj, hcapj, hcmj, hshj⟩ := hoj.shape
            clear hshj
            by_cases hjn : 0 < q
            · have hjn' : (0 : Int) < q := by omega
              have hlen : (pre ++ List.replicate j z).length ≤ 100000 := by simp; omega
              have hszj := hbj.size
              clear hvj
              go_wp2_with (at_builtin; refine wpList_append_own _ rfl _ _ 24 rfl w.heap.size 2 i0 (.int .i64 0) 1 8 Try.underlying24 hi hz0 hz1 hz2 rfl (by decide) _ _ _ rfl (hoj.alloc _) ⟨wr.heap.size, 0, none⟩ 1 1 [Value.int .i64 z] rfl rfl ?c1 ?c2 ?c3 ?c4 ?c5 ?_)
              case c1 => first | exact cell_one_new _ _ _ | (intro j u hj; match j, hj with | 0, hj => simp at hj; subst hj; simp [Addr.add])
              case c2 => first | rfl | (intro u hu; simp at hu; subst hu; rfl) | simp [Value.oneCell']
              case c3 => unfold maxLen; omega
              case c4 => omega
              case c5 => simp; omega
              intro v' w1 hown' hgrow _
              have hnx1 : Below w.heap.size w w1 := (hbj.alloc (by omega) _).grown hgrow (by simp; omega) (fun k hk => (hoj.lt k hk).1)
              have hown2 := nown_snoc (j := j) hown'
              have H2 := hide hown2
              clear hown' hgrow hoj hown2
              go_wp2
              exact ⟨⟨j + 1, q - 1, by omega, by go_num, H2.out, hnx1⟩, by simp [intOf]; omega⟩
            · obtain rfl : q = 0 := by omega
              obtain rfl : 1 = j := by omega
              have HOJ := hide hoj
              have HVJ := hide hvj
              clear hoj hvj
              go_wp2
              exact ⟨⟨a + s, pre ++ List.replicate 1 z, z, by simp; omega, by omega, by go_num, rfl, rfl, Rd.fit_more hfit.out HF'.out _, by simp; omega, HOJ.out, hbj, S2.out⟩, by rw [HVJ.out]; simp [vlen]; omega⟩
    · have hpe : pre.length = n := by omega
      have E := hide (hat.out.done hpe)
      have HOn : Hid (Nown wr w.heap.size (.slice ao n cap) pre) := by
        have := HO.out
        rw [hpe] at this
        exact this
      have z1 : ((pre.length : Int) != n) = false := by rw [bne_eq_false_iff_eq]; omega
      have hnl : ¬ (pre.length : Int) < n := by omega
      clear hat
      go_wp2
      go_ret2
      exact ⟨.inr ⟨pre, a, _, rfl, by omega, ha, hpe, hfit.out, HOn.out, .inr E.out⟩, HB.out⟩


set_option maxHeartbeats 4000000 in
set_option maxRecDepth 100000 in
theorem rrow_2 (g o c n : Nat) (l : List UInt8) (w : World) (hn : 1 ≤ n) (hn' : n ≤ 100000) (hlc : l.length ≤ c) (hm : c ≤ maxLen) (hc : BCells w g o l) (hg : g < w.heap.size) :
    Calls Try.prog 45 #[.slice (some ⟨g, o, none⟩) l.length c, .int .i64 n, .int .u8 2] w fun e w' => RfOut w w' e l 2 n ∧ Below w.heap.size w w' := by
  obtain ⟨i0, hi, hz0, hz1, hz2⟩ := info_parts info2
  have hg0 := rget_any _ l w ⟨some ⟨g, o, none⟩, c, rfl, hlc, hm, fun j hj => ⟨g, o, rfl, hc j hj⟩⟩
  have hle0 := Dec.getN_le l
  have hlt0 := Dec.getN_lt l
  obtain ⟨many, a0, hp0⟩ : ∃ x s, Dec.getN l = (x, s) := ⟨_, _, rfl⟩
  rw [hp0] at hg0 hle0 hlt0
  simp only at hg0 hle0 hlt0
  have HP0 := hide hp0
  have HC := hide hc
  have HM := hide hm
  unfold maxLen at hm
  clear hc hp0
  by_cases ha0 : a0 = 0
  · have z0 : ((a0 : Int) == 0) = true := by simp [ha0]
    have E := hide (Rd.form_none (n := n) (l := l) (by rw [HP0.out]; exact ha0))
    clear ha0
    go_enter Try.func45, Try.ntmps45
    go_wp2_with fail
    refine hg0.mono ?_
    rintro e w0 ⟨rfl, rfl⟩
    go_wp2
    go_ret2
    exact ⟨.inl ⟨rfl, E.out⟩, Below.refl _ _⟩
  have z0 : ((a0 : Int) == 0) = false := by simp [ha0]
  by_cases hmn : n < many
  · have E := hide (Rd.form_many HP0.out ha0 hmn)
    have hmn' : (n : Int) < many := by omega
    go_enter Try.func45, Try.ntmps45
    go_wp2_with fail
    refine hg0.mono ?_
    rintro e w0 ⟨rfl, rfl⟩
    go_wp2
    go_ret2
    exact ⟨.inl ⟨rfl, E.out⟩, Below.refl _ _⟩
  have hmn' : ¬ (n : Int) < many := by omega
  go_enter Try.func45, Try.ntmps45
  go_wp2_with fail
  refine hg0.mono ?_
  rintro e w0 ⟨rfl, rfl⟩
  go_wp2
  go_loopw [8, 9, 11] (fun vl va vr wr => ∃ (a i r : Nat) (pre : List Int), pre.length ≤ n ∧ a0 ≤ a ∧ a ≤ l.length ∧ va = .int .i64 a ∧ r + i = many ∧ vr = .int .u64 r ∧ Hid (Rw.AllFit pre) ∧ Nown wr w0.heap.size vl pre ∧ Below w0.heap.size w0 wr ∧ Hid (Rd.Lax l n many a0 i a pre)) (fun vl _ _ _ => n - vlen vl)
  case atStart => exact ⟨a0, 0, many, [], Nat.zero_le _, Nat.le_refl _, hle0, rfl, rfl, rfl, fun z hz => by simp at hz, World.ownsRow_nil _ _ _ _, Below.refl _ _, .inr (by simp [At])⟩
  case round =>
    obtain ⟨a, i, r, pre, hpn, haa, ha, rfl, hri, rfl, hfit, ho, hb, hat⟩ := hrel
    obtain ⟨ao, cap, rfl, hcap, hcm, hsh⟩ := ho.shape
    clear hsh
    unfold maxLen at hcm
    have HO := hide ho
    have HB := hide hb
    clear ho hb
    by_cases hlt : pre.length < n
    · have hlti : (pre.length : Int) < n := by omega
      by_cases hr0 : r = 0
      · subst hr0
        have E := hide (hat.out.done' HP0.out ha0 (by omega) haa (by omega))
        have z1 : ((pre.length : Int) != n) = true := by rw [bne_iff_ne]; omega
        clear hat
        go_wp2
        go_ret2
        exact ⟨.inl ⟨rfl, E.out⟩, HB.out⟩
      have hr0' : (0 : Int) < r := by omega
      have hil : i < many := by omega
      by_cases hac : a = c
      · have hnil : l.drop a = [] := List.drop_eq_nil_of_le (by omega)
        have E := hide (hat.out.none1 HP0.out ha0 hil (.inl (by rw [hnil]; rfl)))
        subst hac
        have hgn := rget_none g o wr
        clear hat hnil
        go_wp2_with fail
        refine hgn.mono ?_
        rintro e w' ⟨rfl, rfl⟩
        go_wp2
        go_ret2
        exact ⟨.inl ⟨rfl, E.out⟩, HB.out⟩
      · have hg1 := rget_any _ _ wr (Bs.cut (bcells_below HC.out HB.out hg) hlc HM.out ha hac)
        have hac' : ¬ (a : Int) = c := by omega
        have hle1 := Dec.getN_le (l.drop a)
        have hlt1 := Dec.getN_lt (l.drop a)
        rw [List.length_drop] at hle1
        obtain ⟨m, h', hp1⟩ : ∃ m h', Dec.getN (l.drop a) = (m, h') := ⟨_, _, rfl⟩
        rw [hp1] at hg1 hle1 hlt1
        simp only at hg1 hle1 hlt1
        by_cases hbad : h' = 0 ∨ m = 0 ∨ n - pre.length < m
        · have E := hide (hat.out.none1 HP0.out ha0 hil (by rw [hp1]; exact hbad))
          clear hat hp1
          rcases (show h' = 0 ∨ (h' ≠ 0 ∧ m = 0) ∨ (h' ≠ 0 ∧ m ≠ 0 ∧ n - pre.length < m) by omega) with h0 | ⟨h0, h1⟩ | ⟨h0, h1, h2⟩
          · have z1 : ((h' : Int) == 0) = true := by simp [h0]
            clear hbad h0
            go_wp2_with fail
            refine hg1.mono ?_
            rintro e w' ⟨rfl, rfl⟩
            go_wp2
            go_ret2
            exact ⟨.inl ⟨rfl, E.out⟩, HB.out⟩
          · have z1 : ((h' : Int) == 0) = false := by simp [h0]
            have z2 : (m : Int) < 1 := by omega
            clear hbad h0 h1
            go_wp2_with fail
            refine hg1.mono ?_
            rintro e w' ⟨rfl, rfl⟩
            go_wp2
            go_ret2
            exact ⟨.inl ⟨rfl, E.out⟩, HB.out⟩
          · have z1 : ((h' : Int) == 0) = false := by simp [h0]
            have z2 : ¬ (m : Int) < 1 := by omega
            have z3 : (n : Int) - pre.length < m := by omega
            clear hbad h0 h1
            go_wp2_with fail
            refine hg1.mono ?_
            rintro e w' ⟨rfl, rfl⟩
            go_wp2
            go_ret2
            exact ⟨.inl ⟨rfl, E.out⟩, HB.out⟩
        · have z1 : ((h' : Int) == 0) = false := by simp; omega
          have z2 : ¬ (m : Int) < 1 := by omega
          have z3 : ¬ (n : Int) - pre.length < m := by omega
          by_cases hac2 : a + h' = c
          · have hnil : l.drop (a + h') = [] := List.drop_eq_nil_of_le (by omega)
            have E := hide (hat.out.none2 HP0.out ha0 hil hp1 (by rw [hnil]; rfl))
            have hgi := rgetInt_none g o wr
            clear hat hnil hp1
            subst hac2
            simp only [Nat.add_sub_cancel_left] at hg1
            go_wp2_with fail
            refine hg1.mono ?_
            rintro e w' ⟨rfl, rfl⟩
            go_wp2_with fail
            refine hgi.mono ?_
            rintro e w' ⟨rfl, rfl⟩
            go_wp2
            go_ret2
            exact ⟨.inl ⟨rfl, E.out⟩, HB.out⟩
          · have hgi := rgetInt_any _ _ wr (Bs.cut (bcells_below HC.out HB.out hg) hlc HM.out (k := a + h') (by omega) hac2)
            have hac3 : ¬ (a : Int) + h' = c := by omega
            have hle2 := Dec.getN_le (l.drop (a + h'))
            rw [List.length_drop] at hle2
            obtain ⟨x, s, hp2⟩ : ∃ x s, Dec.getN (l.drop (a + h')) = (x, s) := ⟨_, _, rfl⟩
            have HF := hide (Rd.unzig_fit hp2)
            rw [hp2] at hgi hle2
            simp only at hgi hle2
            by_cases hs0 : s = 0
            · have E := hide (hat.out.none2 HP0.out ha0 hil hp1 (by rw [hp2]; exact hs0))
              have z4 : ((s : Int) == 0) = true := by simp [hs0]
              clear hs0 hat hp1 hp2
              generalize Dec.unzig x = z at *
              go_wp2_with fail
              refine hg1.mono ?_
              rintro e w5 ⟨rfl, rfl⟩
              go_wp2_with fail
              refine hgi.mono ?_
              rintro e w6 ⟨rfl, rfl⟩
              go_wp2
              go_ret2
              exact ⟨.inl ⟨rfl, E.out⟩, HB.out⟩
            · have S2 := hide (hat.out.step HP0.out ha0 hil haa hp1 hp2 (by omega) (by omega) (by omega) hs0)
              have z4 : ((s : Int) == 0) = false := by simp [hs0]
              clear hat hp1 hp2
              generalize Dec.unzig x = z at *
              go_wp2_with fail
              refine hg1.mono ?_
              rintro e w5 ⟨rfl, rfl⟩
              go_wp2_with fail
              refine hgi.mono ?_
              rintro e w6 ⟨rfl, rfl⟩
              go_wp2
              go_loopw [8, 14] (fun vl vm wr2 => ∃ j q : Nat, q + j = m ∧ vm = .int .u64 q ∧ Nown wr2 w0.heap.size vl (pre ++ List.replicate j z) ∧ Below w0.heap.size w0 wr2) (fun _ vm _ => (intOf vm).toNat)
              case atStart => exact ⟨0, m, rfl, rfl, by rw [List.replicate_zero, List.append_nil]; exact HO.out, HB.out⟩
              case round =>
                obtain ⟨j, q, hq, rfl, hoj, hbj⟩ := hrel
                obtain ⟨aoj, capj, hvj, hcapj, hcmj, hshj⟩ := hoj.shape
                clear hshj
                by_cases hjn : 0 < q
                · have hjn' : (0 : Int) < q := by omega
                  have hlen : (pre ++ List.replicate j z).length ≤ 100000 := by simp; omega
                  have hszj := hbj.size
                  clear hvj
                  go_wp2_with (at_builtin; refine wpList_append_own _ rfl _ _ 24 rfl w0.heap.size 2 i0 (.int .i64 0) 1 8 Try.underlying24 hi hz0 hz1 hz2 rfl (by decide) _ _ _ rfl (hoj.alloc _) ⟨wr.heap.size, 0, none⟩ 1 1 [Value.int .i64 z] rfl rfl ?c1 ?c2 ?c3 ?c4 ?c5 ?_)
                  case c1 => first | exact cell_one_new _ _ _ | (intro j u hj; match j, hj with | 0, hj => simp at hj; subst hj; simp [Addr.add])
                  case c2 => first | rfl | (intro u hu; simp at hu; subst hu; rfl) | simp [Value.oneCell']
                  case c3 => unfold maxLen; omega
                  case c4 => omega
                  case c5 => simp; omega
                  intro v' w1 hown' hgrow _
                  have hnx1 : Below w0.heap.size w0 w1 := (hbj.alloc (by omega) _).grown hgrow (by simp; omega) (fun k hk => (hoj.lt k hk).1)
                  have hown2 := nown_snoc (j := j) hown'
                  have H2 := hide hown2
                  clear hown' hgrow hoj hown2
                  go_wp2
                  exact ⟨⟨j + 1, q - 1, by omega, by go_num, H2.out, hnx1⟩, by simp [intOf]; omega⟩
                · obtain rfl : q = 0 := by omega
                  obtain rfl : m = j := by omega
                  have HOJ := hide hoj
                  have HVJ := hide hvj
                  clear hoj hvj
                  go_wp2
                  exact ⟨⟨a + h' + s, i + 1, r - 1, pre ++ List.replicate m z, by simp; omega, by omega, by omega, by go_num, by omega, by go_num, Rd.fit_more hfit.out HF.out _, HOJ.out, hbj, S2.out⟩, by rw [HVJ.out]; simp [vlen]; omega⟩
    · have hpe : pre.length = n := by omega
      have hnl : ¬ (pre.length : Int) < n := by omega
      have z1 : ((pre.length : Int) != n) = false := by rw [bne_eq_false_iff_eq]; omega
      by_cases hr0 : r = 0
      · subst hr0
        have hie : i = many := by omega
        subst hie
        have E := hide (hat.out.done HP0.out ha0 haa (by omega))
        have HOn : Hid (Nown wr w0.heap.size (.slice ao n cap) pre) := by
          have := HO.out
          rw [hpe] at this
          exact this
        clear hat
        go_wp2
        go_ret2
        exact ⟨.inr ⟨pre, a, _, rfl, by omega, ha, hpe, hfit.out, HOn.out, E.out.imp id And.right⟩, HB.out⟩
      · have E := hide (hat.out.full HP0.out ha0 (by omega) hpe)
        have z2 : ((r : Int) != 0) = true := by rw [bne_iff_ne]; omega
        clear hat
        go_wp2
        go_ret2
        exact ⟨.inl ⟨rfl, E.out⟩, HB.out⟩

end Go.Proofs.Ytoccbeefmagklaa
