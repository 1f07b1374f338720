import Derived.Test.YtoccbeefmagklaaReadNums
namespace Go.Proofs.Ytoccbeefmagklaa
open Go.RowKit

/-- Numbers that are owned. -/
abbrev Nown (w : World) (B : Nat) (v : Value) (zs : List Int) : Prop := w.ownsRow B 2 1 v zs.length (zs.map (Value.int .i64))
theorem Nown.shape {w : World} {B : Nat} {v : Value} {zs : List Int} (h : Nown w B v zs) : ∃ ao cap, v = .slice ao zs.length cap ∧ zs.length ≤ cap ∧ cap ≤ maxLen ∧ (0 < zs.length → ∃ g, ao = some ⟨g, 0, none⟩ ∧ B ≤ g ∧ Cells w g 0 zs) := by
  rcases h.2 with ⟨rfl, h0⟩ | ⟨g, cap, cur, rfl, hb, hg, hnc, hcm, hcs, htake⟩
  · exact ⟨none, 0, by rw [h0], by omega, Nat.zero_le _, fun h => by omega⟩
  · refine ⟨some ⟨g, 0, none⟩, cap, rfl, hnc, hcm, fun _ => ⟨g, rfl, hb, fun j hj => ?_⟩⟩
    have := h.cellAt j (by omega)
    rw [Nat.zero_add, this]
    simp [hj]
theorem Nown.ns {w : World} {B : Nat} {v : Value} {zs : List Int} (h : Nown w B v zs) : Ns w v zs := by
  obtain ⟨ao, cap, rfl, h1, h2, h3⟩ := h.shape
  refine ⟨ao, cap, rfl, h1, h2, fun j hj => ?_⟩
  obtain ⟨g, e, _, hc⟩ := h3 (by omega)
  exact ⟨g, 0, e, hc j hj⟩
theorem Nrow.own {w : World} {B g : Nat} {zs : List Int} (h : Nrow w g zs) (hB : B ≤ g) (hm : zs.length ≤ maxLen) : Nown w B (.slice (some ⟨g, 0, none⟩) zs.length zs.length) zs :=
  ⟨by simp, .inr ⟨g, zs.length, _, rfl, hB, h, Nat.le_refl _, hm, by simp, List.take_of_length_le (by simp)⟩⟩

def Out (w w' : World) (e : Ending) (r : Option (List Int × Nat)) : Prop :=
  (r = none ∧ e = .returned (.tuple #[.slice none 0 0, .int .i64 0])) ∨ ∃ zs t v, r = some (zs, t) ∧ e = .returned (.tuple #[v, .int .i64 (t : Nat)]) ∧ Nown w' w.heap.size v zs

theorem runs_end {left : Nat} {last : Option Int} {b : List UInt8} : Rd.runs 0 left last b = if left = 0 then some ([], 0) else none := by rw [Rd.runs]
theorem runs_bad1 {m left : Nat} {last : Option Int} {b : List UInt8} (h : (Dec.getN b).2 = 0 ∨ (Dec.getN b).1 = 0 ∨ left < (Dec.getN b).1) : Rd.runs (m + 1) left last b = none := by rw [Rd.runs, if_pos h]
theorem runs_bad2 {m left : Nat} {last : Option Int} {b : List UInt8} (h : (Dec.getN (b.drop (Dec.getN b).2)).2 = 0 ∨ last = some (Dec.unzig (Dec.getN (b.drop (Dec.getN b).2)).1)) : Rd.runs (m + 1) left last b = none := by
  rw [Rd.runs]
  split <;> first | rfl | rw [if_pos h]
theorem runs_go {m left : Nat} {last : Option Int} {b : List UInt8} {n h x s : Nat} (h1 : Dec.getN b = (n, h)) (h2 : Dec.getN (b.drop h) = (x, s)) (hh : h ≠ 0) (hn : n ≠ 0) (hl : n ≤ left) (hs : s ≠ 0) (hx : last ≠ some (Dec.unzig x)) :
    Rd.runs (m + 1) left last b = (Rd.runs m (left - n) (some (Dec.unzig x)) (b.drop (h + s))).map fun r => (List.replicate n (Dec.unzig x) ++ r.1, h + s + r.2) := by
  rw [Rd.runs, h1]
  simp only
  rw [if_neg (by omega), h2]
  simp only
  rw [if_neg (by intro hc; rcases hc with hc | hc; exact hs hc; exact hx hc)]

theorem nown_snoc {w : World} {B j : Nat} {v : Value} {pre : List Int} {z : Int} (h : w.ownsRow B 2 1 v (pre.length + j + 1) (pre.map (Value.int .i64) ++ (List.replicate j (Value.int .i64 z) ++ [Value.int .i64 z]))) : Nown w B v (pre ++ List.replicate (j + 1) z) := by
  unfold Nown
  have e : (pre ++ List.replicate (j + 1) z).map (Value.int .i64) = pre.map (Value.int .i64) ++ (List.replicate j (Value.int .i64 z) ++ [Value.int .i64 z]) := by rw [List.replicate_succ', List.map_append, List.map_append, List.map_replicate]; rfl
  rw [e, List.length_append, List.length_replicate, ← Nat.add_assoc]
  exact h
/-- Where a reader of runs stands. -/
def At (l : List UInt8) (many count a0 i a : Nat) (pre : List Int) : Prop :=
  Rd.runs many count none (l.drop a0) = (Rd.runs (many - i) (count - pre.length) pre.getLast? (l.drop a)).map fun r => (pre ++ r.1, a - a0 + r.2)

theorem At.none1 {l : List UInt8} {many count a0 i a : Nat} {pre : List Int} (h : At l many count a0 i a pre) (hi : i < many)
    (hb : (Dec.getN (l.drop a)).2 = 0 ∨ (Dec.getN (l.drop a)).1 = 0 ∨ count - pre.length < (Dec.getN (l.drop a)).1) : Rd.runs many count none (l.drop a0) = none := by
  unfold At at h
  rw [h, show many - i = (many - i - 1) + 1 by omega, runs_bad1 hb]
  rfl
theorem At.none2 {l : List UInt8} {many count a0 i a n h' : Nat} {pre : List Int} (h : At l many count a0 i a pre) (hi : i < many) (h1 : Dec.getN (l.drop a) = (n, h'))
    (hb : (Dec.getN (l.drop (a + h'))).2 = 0 ∨ pre.getLast? = some (Dec.unzig (Dec.getN (l.drop (a + h'))).1)) : Rd.runs many count none (l.drop a0) = none := by
  unfold At at h
  rw [h, show many - i = (many - i - 1) + 1 by omega, runs_bad2 (by rw [h1, List.drop_drop]; exact hb)]
  rfl
theorem At.step {l : List UInt8} {many count a0 i a n h' x s : Nat} {pre : List Int} (h : At l many count a0 i a pre) (hi : i < many) (haa : a0 ≤ a) (h1 : Dec.getN (l.drop a) = (n, h')) (h2 : Dec.getN (l.drop (a + h')) = (x, s))
    (hh : h' ≠ 0) (hn : n ≠ 0) (hl : n ≤ count - pre.length) (hs : s ≠ 0) (hx : pre.getLast? ≠ some (Dec.unzig x)) : At l many count a0 (i + 1) (a + (h' + s)) (pre ++ List.replicate n (Dec.unzig x)) := by
  unfold At at *
  have e1 : (pre ++ List.replicate n (Dec.unzig x)).getLast? = some (Dec.unzig x) := by
    rw [List.getLast?_append]
    simp [List.getLast?_replicate, hn]
  rw [h, show many - i = (many - (i + 1)) + 1 by omega, runs_go h1 (by rw [List.drop_drop]; exact h2) hh hn hl hs hx, List.drop_drop, Option.map_map, e1, List.length_append, List.length_replicate, show count - (pre.length + n) = count - pre.length - n by omega]
  congr 1
  funext r
  simp only [Function.comp, List.append_assoc, Prod.mk.injEq, true_and]
  omega
theorem At.done {l : List UInt8} {many count a0 a : Nat} {pre : List Int} (h : At l many count a0 many a pre) (hp : pre.length ≤ count) : Rd.runs many count none (l.drop a0) = if pre.length = count then some (pre, a - a0) else none := by
  unfold At at h
  rw [h, Nat.sub_self, runs_end]
  by_cases hc : pre.length = count
  · rw [if_pos (by omega), if_pos hc]
    simp
  · rw [if_neg (by omega), if_neg hc]
    rfl

set_option maxHeartbeats 8000000 in
set_option maxRecDepth 100000 in
theorem readRuns_loop (g o c count : Nat) (l : List UInt8) (w : World) (hcount : count ≤ 100000) (hlc : l.length ≤ c) (hm : c ≤ maxLen) (hc : BCells w g o l) (hg : g < w.heap.size) (many a0 : Nat) (hget : Dec.getN l = (many, a0)) (ha0 : a0 ≠ 0) :
    Calls Try.prog 51 #[.slice (some ⟨g, o, none⟩) l.length c, .int .i64 count] w fun e w' => Out w w' e ((Rd.runs many count none (l.drop a0)).map fun r => (r.1, a0 + r.2)) ∧ Below w.heap.size w w' := by
  obtain ⟨i0, hi, hz0, hz1, hz2⟩ := info_parts info2
  have hg0 := get_any _ l w (Bs.row hlc hm hc)
  have hle0 := Dec.getN_le l
  have hlt0 := Dec.getN_lt l
  rw [hget] at hg0 hle0 hlt0
  simp only at hg0 hle0 hlt0
  have HG := hide hget
  have HC := hide hc
  have HM := hide hm
  unfold maxLen at hm
  have hz0' : ((a0 : Int) == 0) = false := by simp [ha0]
  clear hc hget
  go_enter Try.func51, Try.ntmps51
  go_wp2_with fail
  refine hg0.mono ?_
  rintro e w0 ⟨rfl, rfl⟩
  go_wp2
  go_loopw [7, 8, 22] (fun va vl vi wr => ∃ (i a : Nat) (pre : List Int), i ≤ many ∧ vi = .int .u64 i ∧ a0 ≤ a ∧ a ≤ l.length ∧ va = .int .i64 a ∧ pre.length ≤ count ∧ Nown wr w0.heap.size vl pre ∧ Below w0.heap.size w0 wr ∧ Hid (At l many count a0 i a pre)) (fun _ _ vi _ => many - (intOf vi).toNat)
  case atStart => exact ⟨0, a0, [], Nat.zero_le _, rfl, Nat.le_refl _, hle0, rfl, Nat.zero_le _, World.ownsRow_nil _ _ _ _, Below.refl _ _, show At _ _ _ _ _ _ _ by simp [At]⟩
  case round =>
    obtain ⟨i, a, pre, hi', rfl, haa, ha, rfl, hpc, ho, hb, hat⟩ := hrel
    obtain ⟨ao, cap, rfl, hcap, hcm, hsh⟩ := ho.shape
    unfold maxLen at hcm
    have HO := hide ho
    have HB := hide hb
    have HSH := hide hsh
    clear ho hb hsh
    by_cases hlt : i < many
    · have hlti : (i : Int) < many := by omega
      by_cases hac : a = c
      · have hnil : l.drop a = [] := List.drop_eq_nil_of_le (by omega)
        have E := hide (hat.out.none1 hlt (.inl (by rw [hnil]; rfl)))
        subst hac
        have hgn := get_nil (some ⟨g, o, none⟩) 0 wr
        clear hat hnil
        go_wp2_with fail
        refine hgn.mono ?_
        rintro e w' ⟨rfl, rfl⟩
        go_wp2
        go_ret2
        exact ⟨.inl ⟨by rw [E.out]; rfl, rfl⟩, HB.out⟩
      · have hg1 := get_any _ _ wr (Bs.cut (bcells_below HC.out HB.out hg) hlc HM.out ha hac)
        have hac' : ¬ (a : Int) = c := by omega
        have hle1 := Dec.getN_le (l.drop a)
        have hlt1 := Dec.getN_lt (l.drop a)
        rw [List.length_drop] at hle1
        obtain ⟨n, h', hp1⟩ : ∃ n h', Dec.getN (l.drop a) = (n, h') := ⟨_, _, rfl⟩
        have HP1 := hide hp1
        rw [hp1] at hg1 hle1 hlt1
        simp only at hg1 hle1 hlt1
        by_cases hbad : h' = 0 ∨ n = 0 ∨ count - pre.length < n
        · have E := hide (hat.out.none1 hlt (by rw [hp1]; exact hbad))
          clear hat hp1
          rcases (show h' = 0 ∨ (h' ≠ 0 ∧ n = 0) ∨ (h' ≠ 0 ∧ n ≠ 0 ∧ count - pre.length < n) by omega) with h0 | ⟨h0, h1⟩ | ⟨h0, h1, h2⟩
          · have z1 : ((h' : Int) == 0) = true := by simp [h0]
            clear hbad h0
            go_wp2_with fail
            refine hg1.mono ?_
            rintro e w' ⟨rfl, rfl⟩
            go_wp2
            go_ret2
            exact ⟨.inl ⟨by rw [E.out]; rfl, rfl⟩, HB.out⟩
          · have z1 : ((h' : Int) == 0) = false := by simp [h0]
            have z2 : ((n : Int) == 0) = true := by simp [h1]
            clear hbad h0 h1
            go_wp2_with fail
            refine hg1.mono ?_
            rintro e w' ⟨rfl, rfl⟩
            go_wp2
            go_ret2
            exact ⟨.inl ⟨by rw [E.out]; rfl, rfl⟩, HB.out⟩
          · have z1 : ((h' : Int) == 0) = false := by simp [h0]
            have z2 : ((n : Int) == 0) = false := by simp [h1]
            have z3 : (count : Int) - pre.length < n := by omega
            clear hbad h0 h1
            go_wp2_with fail
            refine hg1.mono ?_
            rintro e w' ⟨rfl, rfl⟩
            go_wp2
            go_ret2
            exact ⟨.inl ⟨by rw [E.out]; rfl, rfl⟩, HB.out⟩
        · have z1 : ((h' : Int) == 0) = false := by simp; omega
          have z2 : ((n : Int) == 0) = false := by simp; omega
          have z3 : ¬ (count : Int) - pre.length < n := by omega
          by_cases hac2 : a + h' = c
          · have hnil : l.drop (a + h') = [] := List.drop_eq_nil_of_le (by omega)
            have E := hide (hat.out.none2 hlt hp1 (.inl (by rw [hnil]; rfl)))
            have hgi := getInt_none g o wr
            clear hat hnil hp1
            subst hac2
            simp only [Nat.add_sub_cancel_left] at hg1
            by_cases hp0 : pre.length = 0
            · have hp0' : ¬ (0 : Int) < pre.length := by omega
              clear hp0
              go_wp2_with fail
              refine hg1.mono ?_
              rintro e w' ⟨rfl, rfl⟩
              go_wp2_with fail
              refine hgi.mono ?_
              rintro e w' ⟨rfl, rfl⟩
              go_wp2
              go_ret2
              exact ⟨.inl ⟨by rw [E.out]; rfl, rfl⟩, HB.out⟩
            · obtain ⟨g', rfl, hBg, hcl⟩ := HSH.out (by omega)
              have hlast := hcl (pre.length - 1) (by omega)
              rw [Nat.zero_add] at hlast
              have hp0' : (0 : Int) < pre.length := by omega
              clear hp0 hcl
              generalize pre.getD (pre.length - 1) 0 = y at *
              go_wp2_with fail
              refine hg1.mono ?_
              rintro e w' ⟨rfl, rfl⟩
              go_wp2_with fail
              refine hgi.mono ?_
              rintro e w' ⟨rfl, rfl⟩
              go_wp2
              go_ret2
              exact ⟨.inl ⟨by rw [E.out]; rfl, rfl⟩, HB.out⟩
          · have hgi := getInt_any _ _ wr (Bs.cut (bcells_below HC.out HB.out hg) hlc HM.out (k := a + h') (by omega) hac2)
            have hac3 : ¬ (a : Int) + h' = c := by omega
            have hle2 := Dec.getN_le (l.drop (a + h'))
            rw [List.length_drop] at hle2
            have hfit := Rd.unzig_fits (l.drop (a + h'))
            obtain ⟨x, s, hp2⟩ : ∃ x s, Dec.getN (l.drop (a + h')) = (x, s) := ⟨_, _, rfl⟩
            have N2 := hide (fun hb => hat.out.none2 hlt hp1 hb)
            have ST := hide (fun hs hx => hat.out.step hlt haa hp1 hp2 (by omega) (by omega) (by omega) hs hx)
            rw [hp2] at hgi hle2 hfit N2
            simp only at hgi hle2 hfit N2
            generalize Dec.unzig x = z at *
            clear hp1 hp2 hat HP1 HG
            by_cases hp0 : pre.length = 0
            · have hp0' : ¬ (0 : Int) < pre.length := by omega
              have hpn : pre.getLast? ≠ some z := by
                rw [List.eq_nil_of_length_eq_zero hp0]
                simp
              clear hp0
              by_cases hs0 : s = 0
              · have E := hide (N2.out (.inl hs0))
                have z4 : ((s : Int) == 0) = true := by simp [hs0]
                clear hs0 N2 ST hpn
                go_wp2_with fail
                refine hg1.mono ?_
                rintro e w5 ⟨rfl, rfl⟩
                go_wp2_with fail
                refine hgi.mono ?_
                rintro e w6 ⟨rfl, rfl⟩
                go_wp2
                go_ret2
                exact ⟨.inl ⟨by rw [E.out]; rfl, rfl⟩, HB.out⟩
              · have S2 := hide (ST.out hs0 hpn)
                have z4 : ((s : Int) == 0) = false := by simp [hs0]
                clear N2 ST hpn
                go_wp2_with fail
                refine hg1.mono ?_
                rintro e w5 ⟨rfl, rfl⟩
                go_wp2_with fail
                refine hgi.mono ?_
                rintro e w6 ⟨rfl, rfl⟩
                go_wp2
                go_loopw [8, 74] (fun vl vj wr2 => ∃ j : Nat, j ≤ n ∧ vj = .int .u64 j ∧ Nown wr2 w0.heap.size vl (pre ++ List.replicate j z) ∧ Below w0.heap.size w0 wr2) (fun _ vj _ => n - (intOf vj).toNat)
                case atStart => exact ⟨0, Nat.zero_le _, rfl, by rw [List.replicate_zero, List.append_nil]; exact HO.out, HB.out⟩
                case round =>
                  obtain ⟨j, hj, rfl, hoj, hbj⟩ := hrel
                  by_cases hjn : j < n
                  · have hjn' : (j : Int) < n := by omega
                    have hlen : (pre ++ List.replicate j z).length ≤ 100000 := by simp; omega
                    have hszj := hbj.size
                    go_wp2_with (at_builtin; refine wpList_append_own _ rfl _ _ 24 rfl w0.heap.size 2 i0 (.int .i64 0) 1 8 Try.underlying24 hi hz0 hz1 hz2 rfl (by decide) _ _ _ rfl (hoj.alloc _) ⟨wr.heap.size, 0, none⟩ 1 1 [Value.int .i64 z] rfl rfl ?c1 ?c2 ?c3 ?c4 ?c5 ?_)
                    case c1 => first | exact cell_one_new _ _ _ | (intro j u hj; match j, hj with | 0, hj => simp at hj; subst hj; simp [Addr.add])
                    case c2 => first | rfl | (intro u hu; simp at hu; subst hu; rfl) | simp [Value.oneCell']
                    case c3 => unfold maxLen; omega
                    case c4 => omega
                    case c5 => simp; omega
                    intro v' w1 hown' hgrow _
                    have hnx1 : Below w0.heap.size w0 w1 := (hbj.alloc (by omega) _).grown hgrow (by simp; omega) (fun k hk => (hoj.lt k hk).1)
                    have hown2 := nown_snoc (j := j) hown'
                    have H2 := hide hown2
                    clear hown' hgrow hoj hown2
                    go_wp2
                    exact ⟨⟨j + 1, by omega, by go_num, H2.out, hnx1⟩, by simp [intOf]; omega⟩
                  · obtain rfl : j = n := by omega
                    have HOJ := hide hoj
                    clear hoj
                    go_wp2
                    exact ⟨⟨i + 1, a + (h' + s), pre ++ List.replicate j z, by omega, by go_num, by omega, by omega, by go_num, by simp; omega, HOJ.out, hbj, S2.out⟩, by simp [intOf]; omega⟩
            · obtain ⟨g', rfl, hBg, hcl⟩ := HSH.out (by omega)
              have hlast := hcl (pre.length - 1) (by omega)
              rw [Nat.zero_add] at hlast
              have hgl : pre.getLast? = some (pre.getD (pre.length - 1) 0) := by
                rw [List.getLast?_eq_getElem?, List.getD_eq_getElem?_getD, List.getElem?_eq_getElem (by omega)]
                rfl
              have hp0' : (0 : Int) < pre.length := by omega
              generalize pre.getD (pre.length - 1) 0 = y at *
              clear hp0 hcl
              by_cases hbad2 : s = 0 ∨ y = z
              · have E := hide (N2.out (hbad2.imp id (fun h => by rw [hgl, h])))
                have HGL := hide hgl
                clear N2 ST hgl
                rcases (show s = 0 ∨ (s ≠ 0 ∧ y = z) by omega) with hs0 | ⟨hs0, hyz⟩
                · have z4 : ((s : Int) == 0) = true := by simp [hs0]
                  clear hs0 hbad2
                  go_wp2_with fail
                  refine hg1.mono ?_
                  rintro e w5 ⟨rfl, rfl⟩
                  go_wp2_with fail
                  refine hgi.mono ?_
                  rintro e w6 ⟨rfl, rfl⟩
                  go_wp2
                  go_ret2
                  exact ⟨.inl ⟨by rw [E.out]; rfl, rfl⟩, HB.out⟩
                · have z4 : ((s : Int) == 0) = false := by simp [hs0]
                  have z5 : (y == z) = true := by simp [hyz]
                  clear hs0 hbad2 hyz
                  go_wp2_with fail
                  refine hg1.mono ?_
                  rintro e w5 ⟨rfl, rfl⟩
                  go_wp2_with fail
                  refine hgi.mono ?_
                  rintro e w6 ⟨rfl, rfl⟩
                  go_wp2
                  go_ret2
                  exact ⟨.inl ⟨by rw [E.out]; rfl, rfl⟩, HB.out⟩
              · have hs0 : s ≠ 0 := fun h => hbad2 (.inl h)
                have S2 := hide (ST.out hs0 (by rw [hgl]; intro h; exact hbad2 (.inr (Option.some.inj h))))
                have z4 : ((s : Int) == 0) = false := by simp [hs0]
                have z5 : (y == z) = false := by rw [beq_eq_false_iff_ne]; exact fun h => hbad2 (.inr h)
                clear N2 ST hgl hbad2
                go_wp2_with fail
                refine hg1.mono ?_
                rintro e w5 ⟨rfl, rfl⟩
                go_wp2_with fail
                refine hgi.mono ?_
                rintro e w6 ⟨rfl, rfl⟩
                go_wp2
                go_loopw [8, 74] (fun vl vj wr2 => ∃ j : Nat, j ≤ n ∧ vj = .int .u64 j ∧ Nown wr2 w0.heap.size vl (pre ++ List.replicate j z) ∧ Below w0.heap.size w0 wr2) (fun _ vj _ => n - (intOf vj).toNat)
                case atStart => exact ⟨0, Nat.zero_le _, rfl, by rw [List.replicate_zero, List.append_nil]; exact HO.out, HB.out⟩
                case round =>
                  obtain ⟨j, hj, rfl, hoj, hbj⟩ := hrel
                  by_cases hjn : j < n
                  · have hjn' : (j : Int) < n := by omega
                    have hlen : (pre ++ List.replicate j z).length ≤ 100000 := by simp; omega
                    have hszj := hbj.size
                    go_wp2_with (at_builtin; refine wpList_append_own _ rfl _ _ 24 rfl w0.heap.size 2 i0 (.int .i64 0) 1 8 Try.underlying24 hi hz0 hz1 hz2 rfl (by decide) _ _ _ rfl (hoj.alloc _) ⟨wr.heap.size, 0, none⟩ 1 1 [Value.int .i64 z] rfl rfl ?c1 ?c2 ?c3 ?c4 ?c5 ?_)
                    case c1 => first | exact cell_one_new _ _ _ | (intro j u hj; match j, hj with | 0, hj => simp at hj; subst hj; simp [Addr.add])
                    case c2 => first | rfl | (intro u hu; simp at hu; subst hu; rfl) | simp [Value.oneCell']
                    case c3 => unfold maxLen; omega
                    case c4 => omega
                    case c5 => simp; omega
                    intro v' w1 hown' hgrow _
                    have hnx1 : Below w0.heap.size w0 w1 := (hbj.alloc (by omega) _).grown hgrow (by simp; omega) (fun k hk => (hoj.lt k hk).1)
                    have hown2 := nown_snoc (j := j) hown'
                    have H2 := hide hown2
                    clear hown' hgrow hoj hown2
                    go_wp2
                    exact ⟨⟨j + 1, by omega, by go_num, H2.out, hnx1⟩, by simp [intOf]; omega⟩
                  · obtain rfl : j = n := by omega
                    have HOJ := hide hoj
                    clear hoj
                    go_wp2
                    exact ⟨⟨i + 1, a + (h' + s), pre ++ List.replicate j z, by omega, by go_num, by omega, by omega, by go_num, by simp; omega, HOJ.out, hbj, S2.out⟩, by simp [intOf]; omega⟩
    · obtain rfl : i = many := by omega
      have E := hide (hat.out.done hpc)
      clear hat
      by_cases hcc : pre.length = count
      · have z1 : ((pre.length : Int) != count) = false := by rw [bne_eq_false_iff_eq]; omega
        go_wp2
        go_ret2
        refine ⟨.inr ⟨pre, a, _, ?_, rfl, HO.out⟩, HB.out⟩
        rw [E.out, if_pos hcc]
        simp
        omega
      · have z1 : ((pre.length : Int) != count) = true := by rw [bne_iff_ne]; omega
        go_wp2
        go_ret2
        exact ⟨.inl ⟨by rw [E.out, if_neg hcc]; rfl, rfl⟩, HB.out⟩
end Go.Proofs.Ytoccbeefmagklaa
