import Derived.Test.YtafmiolehlagkaaGreatGm7
import Derived.Test.YtafmiolehlagkaaGreatTSet
import Derived.Shelf.SlMaps.Clone
import Derived.Test.YtafmiolehlagkaaGreatINext
namespace Go.Proofs.YtafmiolehlagkaaGreat.Pak
open Go.RowKit
set_option maxRecDepth 100000

/-- Numbers that are owned. -/
abbrev Nown (w : World) (B : Nat) (v : Value) (zs : List Int) : Prop := w.ownsRow B 2 1 v zs.length (zs.map (Value.int .i64))
theorem Nown.shape {w : World} {B : Nat} {v : Value} {zs : List Int} (h : Nown w B v zs) : ∃ ao cap, v = .slice ao zs.length cap ∧ zs.length ≤ cap ∧ cap ≤ maxLen ∧ (0 < zs.length → ∃ g, ao = some ⟨g, 0, none⟩ ∧ B ≤ g ∧ Cells w g 0 zs) := by
  rcases h.2 with ⟨rfl, h0⟩ | ⟨g, cap, cur, rfl, hb, hg, hnc, hcm, hcs, htake⟩
  · exact ⟨none, 0, by rw [h0], by omega, Nat.zero_le _, fun h => by omega⟩
  · refine ⟨some ⟨g, 0, none⟩, cap, rfl, hnc, hcm, fun _ => ⟨g, rfl, hb, fun j hj => ?_⟩⟩
    have := h.cellAt j (by omega)
    rw [Nat.zero_add, this]
    simp [hj]
theorem Nrow.own {w : World} {B g : Nat} {zs : List Int} (h : Nrow w g zs) (hB : B ≤ g) (hm : zs.length ≤ maxLen) : Nown w B (.slice (some ⟨g, 0, none⟩) zs.length zs.length) zs :=
  ⟨by simp, .inr ⟨g, zs.length, _, rfl, hB, h, Nat.le_refl _, hm, by simp, List.take_of_length_le (by simp)⟩⟩

def Out (w w' : World) (e : Ending) (r : Option (List Int × Nat)) : Prop :=
  (r = none ∧ e = .returned (.tuple #[.slice none 0 0, .int .i64 0])) ∨ ∃ zs t v, r = some (zs, t) ∧ e = .returned (.tuple #[v, .int .i64 (t : Nat)]) ∧ Nown w' w.heap.size v zs

theorem runs_end {left : Nat} {last : Option Int} {b : List UInt8} : Rd.runs 0 left last b = if left = 0 then some ([], 0) else none := by rw [Rd.runs]
theorem runs_bad1 {m left : Nat} {last : Option Int} {b : List UInt8} (h : (Dec.getN b).2 = 0 ∨ (Dec.getN b).1 = 0 ∨ left < (Dec.getN b).1) : Rd.runs (m + 1) left last b = none := by rw [Rd.runs, if_pos h]
theorem runs_bad2 {m left : Nat} {last : Option Int} {b : List UInt8} (h : (Dec.getN (b.drop (Dec.getN b).2)).2 = 0 ∨ last = some (Dec.unzig (Dec.getN (b.drop (Dec.getN b).2)).1)) : Rd.runs (m + 1) left last b = none := by
  rw [Rd.runs]
  split <;> first | rfl | rw [if_pos h]
theorem runs_go {m left : Nat} {last : Option Int} {b : List UInt8} {n h x s : Nat} (h1 : Dec.getN b = (n, h)) (h2 : Dec.getN (b.drop h) = (x, s)) (hh : h ≠ 0) (hn : n ≠ 0) (hl : n ≤ left) (hs : s ≠ 0) (hx : last ≠ some (Dec.unzig x)) :
    Rd.runs (m + 1) left last b = (Rd.runs m (left - n) (some (Dec.unzig x)) (b.drop (h + s))).map fun r => (List.replicate n (Dec.unzig x) ++ r.1, h + s + r.2) := by
  rw [Rd.runs, h1]
  simp only
  rw [if_neg (by omega), h2]
  simp only
  rw [if_neg (by intro hc; rcases hc with hc | hc; exact hs hc; exact hx hc)]

theorem nown_snoc {w : World} {B j : Nat} {v : Value} {pre : List Int} {z : Int} (h : w.ownsRow B 2 1 v (pre.length + j + 1) (pre.map (Value.int .i64) ++ (List.replicate j (Value.int .i64 z) ++ [Value.int .i64 z]))) : Nown w B v (pre ++ List.replicate (j + 1) z) := by
  unfold Nown
  have e : (pre ++ List.replicate (j + 1) z).map (Value.int .i64) = pre.map (Value.int .i64) ++ (List.replicate j (Value.int .i64 z) ++ [Value.int .i64 z]) := by rw [List.replicate_succ', List.map_append, List.map_append, List.map_replicate]; rfl
  rw [e, List.length_append, List.length_replicate, ← Nat.add_assoc]
  exact h
/-- Where a reader of runs stands. -/
def At (l : List UInt8) (many count a0 i a : Nat) (pre : List Int) : Prop :=
  Rd.runs many count none (l.drop a0) = (Rd.runs (many - i) (count - pre.length) pre.getLast? (l.drop a)).map fun r => (pre ++ r.1, a - a0 + r.2)

theorem At.none1 {l : List UInt8} {many count a0 i a : Nat} {pre : List Int} (h : At l many count a0 i a pre) (hi : i < many)
    (hb : (Dec.getN (l.drop a)).2 = 0 ∨ (Dec.getN (l.drop a)).1 = 0 ∨ count - pre.length < (Dec.getN (l.drop a)).1) : Rd.runs many count none (l.drop a0) = none := by
  unfold At at h
  rw [h, show many - i = (many - i - 1) + 1 by omega, runs_bad1 hb]
  rfl
theorem At.none2 {l : List UInt8} {many count a0 i a n h' : Nat} {pre : List Int} (h : At l many count a0 i a pre) (hi : i < many) (h1 : Dec.getN (l.drop a) = (n, h'))
    (hb : (Dec.getN (l.drop (a + h'))).2 = 0 ∨ pre.getLast? = some (Dec.unzig (Dec.getN (l.drop (a + h'))).1)) : Rd.runs many count none (l.drop a0) = none := by
  unfold At at h
  rw [h, show many - i = (many - i - 1) + 1 by omega, runs_bad2 (by rw [h1, List.drop_drop]; exact hb)]
  rfl
theorem At.step {l : List UInt8} {many count a0 i a n h' x s : Nat} {pre : List Int} (h : At l many count a0 i a pre) (hi : i < many) (haa : a0 ≤ a) (h1 : Dec.getN (l.drop a) = (n, h')) (h2 : Dec.getN (l.drop (a + h')) = (x, s))
    (hh : h' ≠ 0) (hn : n ≠ 0) (hl : n ≤ count - pre.length) (hs : s ≠ 0) (hx : pre.getLast? ≠ some (Dec.unzig x)) : At l many count a0 (i + 1) (a + (h' + s)) (pre ++ List.replicate n (Dec.unzig x)) := by
  unfold At at *
  have e1 : (pre ++ List.replicate n (Dec.unzig x)).getLast? = some (Dec.unzig x) := by
    rw [List.getLast?_append]
    simp [List.getLast?_replicate, hn]
  rw [h, show many - i = (many - (i + 1)) + 1 by omega, runs_go h1 (by rw [List.drop_drop]; exact h2) hh hn hl hs hx, List.drop_drop, Option.map_map, e1, List.length_append, List.length_replicate, show count - (pre.length + n) = count - pre.length - n by omega]
  congr 1
  funext r
  simp only [Function.comp, List.append_assoc, Prod.mk.injEq, true_and]
  omega
theorem At.done {l : List UInt8} {many count a0 a : Nat} {pre : List Int} (h : At l many count a0 many a pre) (hp : pre.length ≤ count) : Rd.runs many count none (l.drop a0) = if pre.length = count then some (pre, a - a0) else none := by
  unfold At at h
  rw [h, Nat.sub_self, runs_end]
  by_cases hc : pre.length = count
  · rw [if_pos (by omega), if_pos hc]
    simp
  · rw [if_neg (by omega), if_neg hc]
    rfl

set_option maxHeartbeats 8000000 in
set_option maxRecDepth 100000 in
theorem readRuns_loop (g o c count : Nat) (l : List UInt8) (w : World) (hcount : count ≤ 100000) (hlc : l.length ≤ c) (hm : c ≤ maxLen) (hc : BCells w g o l) (hg : g < w.heap.size) (many a0 : Nat) (hget : Dec.getN l = (many, a0)) (ha0 : a0 ≠ 0) :
    Calls Tryz.prog 199 #[.slice (some ⟨g, o, none⟩) l.length c, .int .i64 count] w fun e w' => Out w w' e ((Rd.runs many count none (l.drop a0)).map fun r => (r.1, a0 + r.2)) ∧ Below w.heap.size w w' := by
  obtain ⟨i0, hi, hz0, hz1, hz2⟩ := info_parts info2
  have hg0 := get_any _ l w (Bs.row hlc hm hc)
  have hle0 := Dec.getN_le l
  have hlt0 := Dec.getN_lt l
  rw [hget] at hg0 hle0 hlt0
  simp only at hg0 hle0 hlt0
  have HG := hide hget
  have HC := hide hc
  have HM := hide hm
  unfold maxLen at hm
  have hz0' : ((a0 : Int) == 0) = false := by simp [ha0]
  clear hc hget
  go_enter Tryz.func199, Tryz.ntmps199
  go_wp2_with fail
  refine hg0.mono ?_
  rintro e w0 ⟨rfl, rfl⟩
  go_wp2
  go_loopw [7, 8, 22] (fun va vl vi wr => ∃ (i a : Nat) (pre : List Int), i ≤ many ∧ vi = .int .u64 i ∧ a0 ≤ a ∧ a ≤ l.length ∧ va = .int .i64 a ∧ pre.length ≤ count ∧ Nown wr w0.heap.size vl pre ∧ Below w0.heap.size w0 wr ∧ Hid (At l many count a0 i a pre)) (fun _ _ vi _ => many - (intOf vi).toNat)
  case atStart => exact ⟨0, a0, [], Nat.zero_le _, rfl, Nat.le_refl _, hle0, rfl, Nat.zero_le _, World.ownsRow_nil _ _ _ _, Below.refl _ _, show At _ _ _ _ _ _ _ by simp [At]⟩
  case round =>
    obtain ⟨i, a, pre, hi', rfl, haa, ha, rfl, hpc, ho, hb, hat⟩ := hrel
    obtain ⟨ao, cap, rfl, hcap, hcm, hsh⟩ := ho.shape
    unfold maxLen at hcm
    have HO := hide ho
    have HB := hide hb
    have HSH := hide hsh
    clear ho hb hsh
    by_cases hlt : i < many
    · have hlti : (i : Int) < many := by omega
      by_cases hac : a = c
      · have hnil : l.drop a = [] := List.drop_eq_nil_of_le (by omega)
        have E := hide (hat.out.none1 hlt (.inl (by rw [hnil]; rfl)))
        subst hac
        have hgn := get_nil (some ⟨g, o, none⟩) 0 wr
        clear hat hnil
        go_wp2_with fail
        refine hgn.mono ?_
        rintro e w' ⟨rfl, rfl⟩
        go_wp2
        go_ret2
        exact ⟨.inl ⟨by rw [E.out]; rfl, rfl⟩, HB.out⟩
      · have hg1 := get_any _ _ wr (Bs.cut (bcells_below HC.out HB.out hg) hlc HM.out ha hac)
        have hac' : ¬ (a : Int) = c := by omega
        have hle1 := Dec.getN_le (l.drop a)
        have hlt1 := Dec.getN_lt (l.drop a)
        rw [List.length_drop] at hle1
        obtain ⟨n, h', hp1⟩ : ∃ n h', Dec.getN (l.drop a) = (n, h') := ⟨_, _, rfl⟩
        have HP1 := hide hp1
        rw [hp1] at hg1 hle1 hlt1
        simp only at hg1 hle1 hlt1
        by_cases hbad : h' = 0 ∨ n = 0 ∨ count - pre.length < n
        · have E := hide (hat.out.none1 hlt (by rw [hp1]; exact hbad))
          clear hat hp1
          rcases (show h' = 0 ∨ (h' ≠ 0 ∧ n = 0) ∨ (h' ≠ 0 ∧ n ≠ 0 ∧ count - pre.length < n) by omega) with h0 | ⟨h0, h1⟩ | ⟨h0, h1, h2⟩
          · have z1 : ((h' : Int) == 0) = true := by simp [h0]
            clear hbad h0
            go_wp2_with fail
            refine hg1.mono ?_
            rintro e w' ⟨rfl, rfl⟩
            go_wp2
            go_ret2
            exact ⟨.inl ⟨by rw [E.out]; rfl, rfl⟩, HB.out⟩
          · have z1 : ((h' : Int) == 0) = false := by simp [h0]
            have z2 : ((n : Int) == 0) = true := by simp [h1]
            clear hbad h0 h1
            go_wp2_with fail
            refine hg1.mono ?_
            rintro e w' ⟨rfl, rfl⟩
            go_wp2
            go_ret2
            exact ⟨.inl ⟨by rw [E.out]; rfl, rfl⟩, HB.out⟩
          · have z1 : ((h' : Int) == 0) = false := by simp [h0]
            have z2 : ((n : Int) == 0) = false := by simp [h1]
            have z3 : (count : Int) - pre.length < n := by omega
            clear hbad h0 h1
            go_wp2_with fail
            refine hg1.mono ?_
            rintro e w' ⟨rfl, rfl⟩
            go_wp2
            go_ret2
            exact ⟨.inl ⟨by rw [E.out]; rfl, rfl⟩, HB.out⟩
        · have z1 : ((h' : Int) == 0) = false := by simp; omega
          have z2 : ((n : Int) == 0) = false := by simp; omega
          have z3 : ¬ (count : Int) - pre.length < n := by omega
          by_cases hac2 : a + h' = c
          · have hnil : l.drop (a + h') = [] := List.drop_eq_nil_of_le (by omega)
            have E := hide (hat.out.none2 hlt hp1 (.inl (by rw [hnil]; rfl)))
            have hgi := getInt_none g o wr
            clear hat hnil hp1
            subst hac2
            simp only [Nat.add_sub_cancel_left] at hg1
            by_cases hp0 : pre.length = 0
            · have hp0' : ¬ (0 : Int) < pre.length := by omega
              clear hp0
              go_wp2_with fail
              refine hg1.mono ?_
              rintro e w' ⟨rfl, rfl⟩
              go_wp2_with fail
              refine hgi.mono ?_
              rintro e w' ⟨rfl, rfl⟩
              go_wp2
              go_ret2
              exact ⟨.inl ⟨by rw [E.out]; rfl, rfl⟩, HB.out⟩
            · obtain ⟨g', rfl, hBg, hcl⟩ := HSH.out (by omega)
              have hlast := hcl (pre.length - 1) (by omega)
              rw [Nat.zero_add] at hlast
              have hp0' : (0 : Int) < pre.length := by omega
              clear hp0 hcl
              generalize pre.getD (pre.length - 1) 0 = y at *
              go_wp2_with fail
              refine hg1.mono ?_
              rintro e w' ⟨rfl, rfl⟩
              go_wp2_with fail
              refine hgi.mono ?_
              rintro e w' ⟨rfl, rfl⟩
              go_wp2
              go_ret2
              exact ⟨.inl ⟨by rw [E.out]; rfl, rfl⟩, HB.out⟩
          · have hgi := getInt_any _ _ wr (Bs.cut (bcells_below HC.out HB.out hg) hlc HM.out (k := a + h') (by omega) hac2)
            have hac3 : ¬ (a : Int) + h' = c := by omega
            have hle2 := Dec.getN_le (l.drop (a + h'))
            rw [List.length_drop] at hle2
            have hfit := Rd.unzig_fits (l.drop (a + h'))
            obtain ⟨x, s, hp2⟩ : ∃ x s, Dec.getN (l.drop (a + h')) = (x, s) := ⟨_, _, rfl⟩
            have N2 := hide (fun hb => hat.out.none2 hlt hp1 hb)
            have ST := hide (fun hs hx => hat.out.step hlt haa hp1 hp2 (by omega) (by omega) (by omega) hs hx)
            rw [hp2] at hgi hle2 hfit N2
            simp only at hgi hle2 hfit N2
            generalize Dec.unzig x = z at *
            clear hp1 hp2 hat HP1 HG
            by_cases hp0 : pre.length = 0
            · have hp0' : ¬ (0 : Int) < pre.length := by omega
              have hpn : pre.getLast? ≠ some z := by
                rw [List.eq_nil_of_length_eq_zero hp0]
                simp
              clear hp0
              by_cases hs0 : s = 0
              · have E := hide (N2.out (.inl hs0))
                have z4 : ((s : Int) == 0) = true := by simp [hs0]
                clear hs0 N2 ST hpn
                go_wp2_with fail
                refine hg1.mono ?_
                rintro e w5 ⟨rfl, rfl⟩
                go_wp2_with fail
                refine hgi.mono ?_
                rintro e w6 ⟨rfl, rfl⟩
                go_wp2
                go_ret2
                exact ⟨.inl ⟨by rw [E.out]; rfl, rfl⟩, HB.out⟩
              · have S2 := hide (ST.out hs0 hpn)
                have z4 : ((s : Int) == 0) = false := by simp [hs0]
                clear N2 ST hpn
                go_wp2_with fail
                refine hg1.mono ?_
                rintro e w5 ⟨rfl, rfl⟩
                go_wp2_with fail
                refine hgi.mono ?_
                rintro e w6 ⟨rfl, rfl⟩
                go_wp2
                go_loopw [8, 74] (fun vl vj wr2 => ∃ j : Nat, j ≤ n ∧ vj = .int .u64 j ∧ Nown wr2 w0.heap.size vl (pre ++ List.replicate j z) ∧ Below w0.heap.size w0 wr2) (fun _ vj _ => n - (intOf vj).toNat)
                case atStart => exact ⟨0, Nat.zero_le _, rfl, by rw [List.replicate_zero, List.append_nil]; exact HO.out, HB.out⟩
                case round =>
                  obtain ⟨j, hj, rfl, hoj, hbj⟩ := hrel
                  by_cases hjn : j < n
                  · have hjn' : (j : Int) < n := by omega
                    have hlen : (pre ++ List.replicate j z).length ≤ 100000 := by simp; omega
                    have hszj := hbj.size
                    go_wp2_with (at_builtin; refine wpList_append_own _ rfl _ _ 30 rfl w0.heap.size 2 i0 (.int .i64 0) 1 8 Tryz.underlying30 hi hz0 hz1 hz2 rfl (by decide) _ _ _ rfl (hoj.alloc _) ⟨wr.heap.size, 0, none⟩ 1 1 [Value.int .i64 z] rfl rfl ?c1 ?c2 ?c3 ?c4 ?c5 ?_)
                    case c1 => first | exact cell_one_new _ _ _ | (intro j u hj; match j, hj with | 0, hj => simp at hj; subst hj; simp [Addr.add])
                    case c2 => first | rfl | (intro u hu; simp at hu; subst hu; rfl) | simp [Value.oneCell']
                    case c3 => unfold maxLen; omega
                    case c4 => omega
                    case c5 => simp; omega
                    intro v' w1 hown' hgrow _
                    have hnx1 : Below w0.heap.size w0 w1 := (hbj.alloc (by omega) _).grown hgrow (by simp; omega) (fun k hk => (hoj.lt k hk).1)
                    have hown2 := nown_snoc (j := j) hown'
                    have H2 := hide hown2
                    clear hown' hgrow hoj hown2
                    go_wp2
                    exact ⟨⟨j + 1, by omega, by go_num, H2.out, hnx1⟩, by simp [intOf]; omega⟩
                  · obtain rfl : j = n := by omega
                    have HOJ := hide hoj
                    clear hoj
                    go_wp2
                    exact ⟨⟨i + 1, a + (h' + s), pre ++ List.replicate j z, by omega, by go_num, by omega, by omega, by go_num, by simp; omega, HOJ.out, hbj, S2.out⟩, by simp [intOf]; omega⟩
            · obtain ⟨g', rfl, hBg, hcl⟩ := HSH.out (by omega)
              have hlast := hcl (pre.length - 1) (by omega)
              rw [Nat.zero_add] at hlast
              have hgl : pre.getLast? = some (pre.getD (pre.length - 1) 0) := by
                rw [List.getLast?_eq_getElem?, List.getD_eq_getElem?_getD, List.getElem?_eq_getElem (by omega)]
                rfl
              have hp0' : (0 : Int) < pre.length := by omega
              generalize pre.getD (pre.length - 1) 0 = y at *
              clear hp0 hcl
              by_cases hbad2 : s = 0 ∨ y = z
              · have E := hide (N2.out (hbad2.imp id (fun h => by rw [hgl, h])))
                have HGL := hide hgl
                clear N2 ST hgl
                rcases (show s = 0 ∨ (s ≠ 0 ∧ y = z) by omega) with hs0 | ⟨hs0, hyz⟩
                · have z4 : ((s : Int) == 0) = true := by simp [hs0]
                  clear hs0 hbad2
                  go_wp2_with fail
                  refine hg1.mono ?_
                  rintro e w5 ⟨rfl, rfl⟩
                  go_wp2_with fail
                  refine hgi.mono ?_
                  rintro e w6 ⟨rfl, rfl⟩
                  go_wp2
                  go_ret2
                  exact ⟨.inl ⟨by rw [E.out]; rfl, rfl⟩, HB.out⟩
                · have z4 : ((s : Int) == 0) = false := by simp [hs0]
                  have z5 : (y == z) = true := by simp [hyz]
                  clear hs0 hbad2 hyz
                  go_wp2_with fail
                  refine hg1.mono ?_
                  rintro e w5 ⟨rfl, rfl⟩
                  go_wp2_with fail
                  refine hgi.mono ?_
                  rintro e w6 ⟨rfl, rfl⟩
                  go_wp2
                  go_ret2
                  exact ⟨.inl ⟨by rw [E.out]; rfl, rfl⟩, HB.out⟩
              · have hs0 : s ≠ 0 := fun h => hbad2 (.inl h)
                have S2 := hide (ST.out hs0 (by rw [hgl]; intro h; exact hbad2 (.inr (Option.some.inj h))))
                have z4 : ((s : Int) == 0) = false := by simp [hs0]
                have z5 : (y == z) = false := by rw [beq_eq_false_iff_ne]; exact fun h => hbad2 (.inr h)
                clear N2 ST hgl hbad2
                go_wp2_with fail
                refine hg1.mono ?_
                rintro e w5 ⟨rfl, rfl⟩
                go_wp2_with fail
                refine hgi.mono ?_
                rintro e w6 ⟨rfl, rfl⟩
                go_wp2
                go_loopw [8, 74] (fun vl vj wr2 => ∃ j : Nat, j ≤ n ∧ vj = .int .u64 j ∧ Nown wr2 w0.heap.size vl (pre ++ List.replicate j z) ∧ Below w0.heap.size w0 wr2) (fun _ vj _ => n - (intOf vj).toNat)
                case atStart => exact ⟨0, Nat.zero_le _, rfl, by rw [List.replicate_zero, List.append_nil]; exact HO.out, HB.out⟩
                case round =>
                  obtain ⟨j, hj, rfl, hoj, hbj⟩ := hrel
                  by_cases hjn : j < n
                  · have hjn' : (j : Int) < n := by omega
                    have hlen : (pre ++ List.replicate j z).length ≤ 100000 := by simp; omega
                    have hszj := hbj.size
                    go_wp2_with (at_builtin; refine wpList_append_own _ rfl _ _ 30 rfl w0.heap.size 2 i0 (.int .i64 0) 1 8 Tryz.underlying30 hi hz0 hz1 hz2 rfl (by decide) _ _ _ rfl (hoj.alloc _) ⟨wr.heap.size, 0, none⟩ 1 1 [Value.int .i64 z] rfl rfl ?c1 ?c2 ?c3 ?c4 ?c5 ?_)
                    case c1 => first | exact cell_one_new _ _ _ | (intro j u hj; match j, hj with | 0, hj => simp at hj; subst hj; simp [Addr.add])
                    case c2 => first | rfl | (intro u hu; simp at hu; subst hu; rfl) | simp [Value.oneCell']
                    case c3 => unfold maxLen; omega
                    case c4 => omega
                    case c5 => simp; omega
                    intro v' w1 hown' hgrow _
                    have hnx1 : Below w0.heap.size w0 w1 := (hbj.alloc (by omega) _).grown hgrow (by simp; omega) (fun k hk => (hoj.lt k hk).1)
                    have hown2 := nown_snoc (j := j) hown'
                    have H2 := hide hown2
                    clear hown' hgrow hoj hown2
                    go_wp2
                    exact ⟨⟨j + 1, by omega, by go_num, H2.out, hnx1⟩, by simp [intOf]; omega⟩
                  · obtain rfl : j = n := by omega
                    have HOJ := hide hoj
                    clear hoj
                    go_wp2
                    exact ⟨⟨i + 1, a + (h' + s), pre ++ List.replicate j z, by omega, by go_num, by omega, by omega, by go_num, by simp; omega, HOJ.out, hbj, S2.out⟩, by simp [intOf]; omega⟩
    · obtain rfl : i = many := by omega
      have E := hide (hat.out.done hpc)
      clear hat
      by_cases hcc : pre.length = count
      · have z1 : ((pre.length : Int) != count) = false := by rw [bne_eq_false_iff_eq]; omega
        go_wp2
        go_ret2
        refine ⟨.inr ⟨pre, a, _, ?_, rfl, HO.out⟩, HB.out⟩
        rw [E.out, if_pos hcc]
        simp
        omega
      · have z1 : ((pre.length : Int) != count) = true := by rw [bne_iff_ne]; omega
        go_wp2
        go_ret2
        exact ⟨.inl ⟨by rw [E.out, if_neg hcc]; rfl, rfl⟩, HB.out⟩
end Go.Proofs.YtafmiolehlagkaaGreat.Pak

namespace Go.Proofs.YtafmiolehlagkaaGreat.Pak
open Go.RowKit
set_option maxRecDepth 100000

set_option maxHeartbeats 1000000 in
set_option maxRecDepth 100000 in
theorem readRuns_none (v : Value) (l : List UInt8) (count : Nat) (w : World) (h : Bs w v l) (h0 : (Dec.getN l).2 = 0) :
    Calls Tryz.prog 199 #[v, .int .i64 count] w fun e w' => e = .returned (.tuple #[.slice none 0 0, .int .i64 0]) ∧ w' = w := by
  have hg := get_any v l w h
  rw [h0, Dec.getN_none h0] at hg
  have hg' : Calls Tryz.prog 176 #[v] w fun e w' => e = .returned (.tuple #[.int .u64 0, .int .i64 0]) ∧ w' = w := hg
  clear hg h h0
  go_enter Tryz.func199, Tryz.ntmps199
  go_wp2_with fail
  refine hg'.mono ?_
  rintro e w' ⟨rfl, rfl⟩
  go_wp2
  go_ret2
  exact ⟨rfl, rfl⟩

theorem readRuns_any (v : Value) (l : List UInt8) (count : Nat) (w : World) (h : Bs w v l) (hcount : count ≤ 100000) :
    Calls Tryz.prog 199 #[v, .int .i64 count] w fun e w' => Out w w' e (Rd.form l 2 count) ∧ Below w.heap.size w w' := by
  by_cases h0 : (Dec.getN l).2 = 0
  · refine (readRuns_none v l count w h h0).mono ?_
    rintro e w' ⟨rfl, rfl⟩
    exact ⟨.inl ⟨by unfold Rd.form; rw [if_pos rfl, if_pos h0], rfl⟩, Below.refl _ _⟩
  · have e : Rd.form l 2 count = (Rd.runs (Dec.getN l).1 count none (l.drop (Dec.getN l).2)).map fun r => (r.1, (Dec.getN l).2 + r.2) := by
      unfold Rd.form
      rw [if_pos rfl, if_neg h0]
    rw [e]
    rcases h.parts with ⟨ao, c, rfl, rfl⟩ | ⟨g, o, c, rfl, hp, hlc, hm, hc⟩
    · exact absurd rfl h0
    · exact readRuns_loop g o c count l w hcount hlc hm hc (World.block_lt_of_cell? w _ (hc 0 hp)) _ _ rfl h0

/-! ### readForm -/
/-- The first k numbers summed up. -/
def sumsTo (zs : List Int) (k : Nat) : List Int := (Rd.sums zs).take k ++ zs.drop k
theorem sumsFrom_at : ∀ (p : Int) (zs : List Int) (k : Nat), k < zs.length → (Rd.sumsFrom p zs).getD k 0 = wrap64 (zs.getD k 0 + if k = 0 then p else (Rd.sumsFrom p zs).getD (k - 1) 0)
  | p, [], k, h => by simp at h
  | p, z :: r, 0, _ => by simp [Rd.sumsFrom]
  | p, z :: r, k + 1, h => by
    have := sumsFrom_at (wrap64 (z + p)) r k (by simpa using h)
    simp only [Rd.sumsFrom, List.getD_cons_succ, Nat.add_sub_cancel]
    rw [this]
    cases k with
    | zero => simp
    | succ k => simp
theorem sums_at {zs : List Int} {k : Nat} (h : k + 1 < zs.length) : (Rd.sums zs).getD (k + 1) 0 = wrap64 (zs.getD (k + 1) 0 + (Rd.sums zs).getD k 0) := by
  cases zs with
  | nil => simp at h
  | cons z r =>
    have := sumsFrom_at z r k (by simpa using h)
    simp only [Rd.sums, List.getD_cons_succ]
    rw [this]
    cases k with
    | zero => simp
    | succ k => simp
theorem sums_length (zs : List Int) : (Rd.sums zs).length = zs.length := by
  cases zs with
  | nil => rfl
  | cons z r => simp [Rd.sums, (Rd.sumsFrom_facts z r).1]
theorem sumsTo_length (zs : List Int) {k : Nat} (h : k ≤ zs.length) : (sumsTo zs k).length = zs.length := by
  have := sums_length zs
  simp [sumsTo]
  omega
theorem sumsTo_zero (zs : List Int) : sumsTo zs 0 = zs := by simp [sumsTo]
theorem sumsTo_one (zs : List Int) : sumsTo zs 1 = zs := by cases zs <;> simp [sumsTo, Rd.sums]
theorem sumsTo_all (zs : List Int) : sumsTo zs zs.length = Rd.sums zs := by
  simp [sumsTo, ← sums_length zs]
theorem sumsTo_at (zs : List Int) {k j : Nat} (hk : k ≤ zs.length) (_hj : j < zs.length) : (sumsTo zs k).getD j 0 = if j < k then (Rd.sums zs).getD j 0 else zs.getD j 0 := by
  have hs := sums_length zs
  unfold sumsTo
  rw [List.getD_eq_getElem?_getD, List.getElem?_append]
  split
  · rename_i h
    simp at h
    rw [if_pos (by omega), List.getElem?_take, if_pos (by omega), List.getD_eq_getElem?_getD]
  · rename_i h
    simp at h
    rw [if_neg (by omega), List.getElem?_drop, List.getD_eq_getElem?_getD]
    congr 2
    simp
    omega
theorem sumsTo_set (zs : List Int) {k : Nat} (hk : k < zs.length) : (sumsTo zs k).set k ((Rd.sums zs).getD k 0) = sumsTo zs (k + 1) := by
  apply List.ext_getElem?
  intro j
  have l1 := sumsTo_length zs (k := k) (by omega)
  have l2 := sumsTo_length zs (k := k + 1) (by omega)
  by_cases hj : j < zs.length
  · have a1 := sumsTo_at zs (k := k + 1) (j := j) (by omega) hj
    have a0 := sumsTo_at zs (k := k) (j := j) (by omega) hj
    rw [List.getElem?_set]
    rw [List.getD_eq_getElem?_getD, List.getElem?_eq_getElem (by omega)] at a1 a0
    rw [List.getElem?_eq_getElem (l := sumsTo zs (k + 1)) (by omega)]
    simp only [Option.getD_some] at a1 a0
    rw [a1]
    split
    · rename_i h
      subst h
      rw [if_pos (by omega), if_pos (by omega)]
    · rw [List.getElem?_eq_getElem (by omega), a0]
      congr 1
      by_cases hjk : j < k
      · rw [if_pos hjk, if_pos (by omega)]
      · rw [if_neg hjk, if_neg (by omega)]
  · rw [List.getElem?_eq_none (by simp; omega), List.getElem?_eq_none (by omega)]

set_option maxHeartbeats 4000000 in
set_option maxRecDepth 100000 in
theorem readForm_any (v : Value) (l : List UInt8) (f count : Nat) (w : World) (h : Bs w v l) (hf : f ≤ 2) (hpos : 1 ≤ count) (hcount : count ≤ 100000) :
    Calls Tryz.prog 177 #[v, .int .i64 f, .int .i64 count] w fun e w' => Out w w' e (Rd.form l f count) ∧ Below w.heap.size w w' := by
  rcases (show f = 2 ∨ f = 0 ∨ f = 1 by omega) with rfl | rfl | rfl
  · have hr := readRuns_any v l count w h hcount
    have H := hide hr
    clear hr h
    go_enter Tryz.func177, Tryz.ntmps177
    go_wp2_with fail
    refine H.out.mono ?_
    rintro e w1 ⟨ho, hb⟩
    rcases ho with ⟨hn, rfl⟩ | ⟨zs, t, v1, hs, rfl, hown⟩
    · go_wp2
      go_ret2
      exact ⟨.inl ⟨hn, rfl⟩, hb⟩
    · have HO := hide hown
      clear hown
      go_wp2
      go_ret2
      exact ⟨.inr ⟨zs, t, v1, hs, rfl, HO.out⟩, hb⟩
  · have hr := readNumbers_any v l count w h hpos hcount
    have H := hide hr
    have E := hide (show Rd.form l 0 count = (Rd.nums count l).map fun r => (r.1, r.2) from rfl)
    clear hr h
    go_enter Tryz.func177, Tryz.ntmps177
    go_wp2_with fail
    refine H.out.mono ?_
    rintro e w1 ⟨ho, hb⟩
    rcases ho with ⟨hn, _, rfl, rfl⟩ | ⟨zs, t, g, hs, rfl, hg, hrow⟩
    · go_wp2
      go_ret2
      exact ⟨.inl ⟨by rw [E.out, hn]; rfl, rfl⟩, hb⟩
    · have hl := (Rd.nums_facts _ _ _ _ hs).1
      have HO := hide (hrow.own hg (by simp [maxLen]; omega))
      have HS := hide hs
      clear hrow hs hl
      go_wp2
      go_ret2
      exact ⟨.inr ⟨zs, t, _, by rw [E.out, HS.out]; rfl, rfl, HO.out⟩, hb⟩
  · have hr := readNumbers_any v l count w h hpos hcount
    have H := hide hr
    have E := hide (show Rd.form l 1 count = (Rd.nums count l).map fun r => (Rd.sums r.1, r.2) from rfl)
    clear hr h
    go_enter Tryz.func177, Tryz.ntmps177
    go_wp2_with fail
    refine H.out.mono ?_
    rintro e w1 ⟨ho, hb⟩
    rcases ho with ⟨hn, _, rfl, rfl⟩ | ⟨zs, t, g, hs, rfl, hg, hrow⟩
    · have HN := hide hn
      clear hn
      go_wp2
      refine wp_loop_rounds 1 ?_
      rw [rounds_succ]
      go_wp2
      go_ret2
      exact ⟨.inl ⟨by rw [E.out, HN.out]; rfl, rfl⟩, hb⟩
    · have hl := (Rd.nums_facts _ _ _ _ hs).1
      have hl' : zs.length ≤ 100000 := by omega
      have HS := hide hs
      have HR := hide hrow
      have HB := hide hb
      clear hrow hs hl hb
      go_wp2
      go_loopw [28] (fun vi wr => ∃ k : Nat, k ≤ zs.length ∧ vi = .int .i64 k ∧ Nrow wr g (sumsTo zs k) ∧ Below w.heap.size w wr) (fun vi _ => zs.length - (intOf vi).toNat)
      case atStart => exact ⟨0, Nat.zero_le _, rfl, by rw [sumsTo_zero]; exact HR.out, HB.out⟩
      case round =>
        obtain ⟨k, hk, rfl, hrow, hb⟩ := hrel
        have HRr := hide hrow
        have HBr := hide hb
        clear hrow hb
        by_cases hlt : k < zs.length
        · have e1 : (k : Int) < (zs.length : Int) := by omega
          by_cases hk0 : k = 0
          · subst hk0
            go_wp2
            refine ⟨⟨1, by omega, by go_num, ?_, HBr.out⟩, by simp [intOf]; omega⟩
            have := HRr.out
            rw [sumsTo_zero] at this
            rw [sumsTo_one zs]
            exact this
          · obtain ⟨m, rfl⟩ : ∃ m, k = m + 1 := ⟨k - 1, by omega⟩
            have c1 := HRr.out.cells (m + 1) (by rw [sumsTo_length zs (by omega)]; omega)
            have c2 := HRr.out.cells m (by rw [sumsTo_length zs (by omega)]; omega)
            have hfz := HRr.out.frozen (m + 1)
            rw [sumsTo_at zs (by omega) (by omega), if_neg (by omega), Nat.zero_add] at c1
            rw [sumsTo_at zs (by omega) (by omega), if_pos (by omega), Nat.zero_add] at c2
            have ES := hide (sums_at (zs := zs) (k := m) hlt)
            generalize zs.getD (m + 1) 0 = x at *
            generalize (Rd.sums zs).getD m 0 = y at *
            go_wp2
            go_region
            all_goals go_wp2
            refine ⟨⟨m + 1 + 1, by omega, by go_num, ?_, (HBr.out.setCell hg _).drew⟩, by simp [intOf]; omega⟩
            have := HRr.out.set (m + 1) (wrap64 (x + y))
            rw [← ES.out, sumsTo_set zs hlt] at this
            rw [← ES.out]
            exact this
        · obtain rfl : k = zs.length := by omega
          go_wp2
          go_ret2
          have hrow := HRr.out
          rw [sumsTo_all] at hrow
          have ho := hrow.own hg (by rw [sums_length]; simp [maxLen]; omega)
          rw [sums_length] at ho
          exact ⟨.inr ⟨Rd.sums zs, t, .slice (some ⟨g, 0, none⟩) zs.length zs.length, by rw [E.out, HS.out]; rfl, rfl, ho⟩, HBr.out⟩

theorem form_nil (f : Nat) {n : Nat} (h : 1 ≤ n) : Rd.form [] f n = none := by
  unfold Rd.form
  split
  · rfl
  · rw [nums_few (by simp; omega)]
    rfl
theorem form_pos {b : List UInt8} {f n : Nat} {zs : List Int} {t : Nat} (h : Rd.form b f n = some (zs, t)) (hn : 1 ≤ n) : 1 ≤ t := by
  unfold Rd.form at h
  split at h
  · split at h
    · cases h
    · obtain ⟨⟨zr, tr⟩, hr, he⟩ := Option.map_eq_some_iff.1 h
      obtain ⟨rfl, rfl⟩ := Prod.mk.inj he
      show 1 ≤ (Dec.getN b).2 + tr
      omega
  · obtain ⟨⟨zr, tr⟩, hr, he⟩ := Option.map_eq_some_iff.1 h
    obtain ⟨_, rfl⟩ := Prod.mk.inj he
    have := (Rd.nums_facts _ _ _ _ hr).2.2.1
    show 1 ≤ tr
    omega
theorem owns_drew' {B e n size : Nat} {v : Value} {xs : List Value} {w w' : World} (h : w.ownsRow B e size v n xs) (hd : ∃ d, w' = w.drewN d) : w'.ownsRow B e size v n xs := by
  obtain ⟨d, rfl⟩ := hd
  exact h
theorem below_drew' {B : Nat} {w w' : World} (h : ∃ d, w' = w.drewN d) : Below B w w' := by
  obtain ⟨d, rfl⟩ := h
  exact ⟨rfl, rfl, rfl, Nat.le_refl _, fun _ _ => rfl⟩
/-! ### GetRow -/
def GotRow (w w' : World) (e : Ending) (r : List Int × Nat) : Prop := ∃ v, e = .returned (.tuple #[v, .int .i64 (r.2 : Nat)]) ∧ Nown w' w.heap.size v r.1
theorem got_none {w w' : World} : GotRow w w' (.returned (.tuple #[.slice none 0 0, .int .i64 0])) ([], 0) := ⟨_, rfl, World.ownsRow_nil _ _ _ _⟩

set_option maxHeartbeats 4000000 in
set_option maxRecDepth 100000 in
theorem getRow_any (v : Value) (l : List UInt8) (most : Int) (w : World) (h : Bs w v l) (h0 : -9223372036854775808 ≤ most) (h1 : most ≤ 9223372036854775807) :
    Calls Tryz.prog 128 #[v, .int .i64 most] w fun e w' => GotRow w w' e (Rd.row l most) ∧ Below w.heap.size w w' := by
  have hg0 := get_any v l w h
  have hle0 := Dec.getN_le l
  have hlt0 := Dec.getN_lt l
  have hten := Dec.getN_ten l
  obtain ⟨n, k, hp⟩ : ∃ n k, Dec.getN l = (n, k) := ⟨_, _, rfl⟩
  rw [hp] at hg0 hle0 hlt0 hten
  simp only at hg0 hle0 hlt0 hten
  have R := hide hp
  clear hp
  by_cases hbad : k = 0 ∨ most < 0 ∨ min most 100000 < (n : Int)
  · have E := hide (show Rd.row l most = ([], 0) by unfold Rd.row; rw [R.out]; simp only; rw [if_pos hbad])
    clear R
    obtain ⟨ao, c, rfl, hlc, hm, _⟩ := h
    unfold maxLen at hm
    rcases (show k = 0 ∨ (k ≠ 0 ∧ most < 0) ∨ (k ≠ 0 ∧ ¬ most < 0 ∧ most ≤ 100000 ∧ most < (n : Int)) ∨ (k ≠ 0 ∧ ¬ most < 0 ∧ ¬ most ≤ 100000 ∧ 100000 < (n : Int)) by omega) with a | ⟨a, b⟩ | ⟨a, b, d, e⟩ | ⟨a, b, d, e⟩
    · have z1 : ((k : Int) == 0) = true := by simp [a]
      clear a hbad
      go_enter Tryz.func128, Tryz.ntmps128
      go_wp2_with fail
      refine hg0.mono ?_
      rintro e w1 ⟨rfl, rfl⟩
      go_wp2
      go_ret2
      rw [E.out]
      exact ⟨got_none, Below.refl _ _⟩
    · have z1 : ((k : Int) == 0) = false := by simp [a]
      clear a hbad
      go_enter Tryz.func128, Tryz.ntmps128
      go_wp2_with fail
      refine hg0.mono ?_
      rintro e w1 ⟨rfl, rfl⟩
      go_wp2
      go_ret2
      rw [E.out]
      exact ⟨got_none, Below.refl _ _⟩
    · have z1 : ((k : Int) == 0) = false := by simp [a]
      clear a hbad
      go_enter Tryz.func128, Tryz.ntmps128
      go_wp2_with fail
      refine hg0.mono ?_
      rintro e w1 ⟨rfl, rfl⟩
      go_wp2
      go_ret2
      rw [E.out]
      exact ⟨got_none, Below.refl _ _⟩
    · have z1 : ((k : Int) == 0) = false := by simp [a]
      clear a hbad
      go_enter Tryz.func128, Tryz.ntmps128
      go_wp2_with fail
      refine hg0.mono ?_
      rintro e w1 ⟨rfl, rfl⟩
      go_wp2
      go_ret2
      rw [E.out]
      exact ⟨got_none, Below.refl _ _⟩
  · have z1 : ((k : Int) == 0) = false := by simp; omega
    have hmost : ¬ most < 0 := by omega
    have hn : n ≤ 100000 := by omega
    have hnm : (n : Int) ≤ most := by omega
    by_cases hn0 : n = 0
    · have E := hide (show Rd.row l most = ([], k) by unfold Rd.row; rw [R.out]; simp only; rw [if_neg hbad, if_pos hn0])
      obtain ⟨ao, c, rfl, hlc, hm, _⟩ := h
      unfold maxLen at hm
      have z2 : ((n : Int) == 0) = true := by simp [hn0]
      clear R hbad hn0
      rcases (show most ≤ 100000 ∨ ¬ most ≤ 100000 by omega) with b | b
      all_goals
        go_enter Tryz.func128, Tryz.ntmps128
        go_wp2_with fail
        refine hg0.mono ?_
        rintro e w1 ⟨rfl, rfl⟩
        go_wp2
        go_ret2
        rw [E.out]
        exact ⟨⟨_, rfl, World.ownsRow_nil _ _ _ _⟩, Below.refl _ _⟩
    · have z2 : ((n : Int) == 0) = false := by simp [hn0]
      by_cases hkl : k = l.length
      · have E := hide (show Rd.row l most = ([], 0) by unfold Rd.row; rw [R.out]; simp only; rw [if_neg hbad, if_neg hn0, if_pos (.inl hkl)])
        obtain ⟨ao, c, rfl, hlc, hm, _⟩ := h
        unfold maxLen at hm
        have z3 : ((k : Int) == (l.length : Int)) = true := by rw [beq_iff_eq]; omega
        clear R hbad hn0 hkl
        rcases (show most ≤ 100000 ∨ ¬ most ≤ 100000 by omega) with b | b
        all_goals
          go_enter Tryz.func128, Tryz.ntmps128
          go_wp2_with fail
          refine hg0.mono ?_
          rintro e w1 ⟨rfl, rfl⟩
          go_wp2
          go_ret2
          rw [E.out]
          exact ⟨got_none, Below.refl _ _⟩
      · have z3 : ((k : Int) == (l.length : Int)) = false := by rw [beq_eq_false_iff_ne]; omega
        have hklt : k < l.length := by omega
        have e1 : (k : Int) < (l.length : Int) := by omega
        rcases h.parts with ⟨ao, c, rfl, rfl⟩ | ⟨g, o, c, rfl, hpos, hlc, hm, hc⟩
        · simp at hklt
        have hck := hc k hklt
        have hgd : l.getD k 0 = l[k] := by rw [List.getD_eq_getElem?_getD, List.getElem?_eq_getElem hklt]; rfl
        have hb256 := (l[k]).toNat_lt
        have HM := hide hm
        have HC := hide hc
        unfold maxLen at hm
        by_cases hf3 : 3 ≤ l[k].toNat
        · have E := hide (show Rd.row l most = ([], 0) by unfold Rd.row; rw [R.out]; simp only; rw [if_neg hbad, if_neg hn0, if_pos (.inr (by rw [hgd]; exact hf3))])
          have z4 : (3 : Int) ≤ l[k].toNat := by omega
          clear R hbad hn0 hkl hc hgd
          generalize l[k].toNat = f at *
          rcases (show most ≤ 100000 ∨ ¬ most ≤ 100000 by omega) with b | b
          all_goals
            go_enter Tryz.func128, Tryz.ntmps128
            go_wp2_with fail
            refine hg0.mono ?_
            rintro e w1 ⟨rfl, rfl⟩
            go_wp2
            go_ret2
            rw [E.out]
            exact ⟨got_none, Below.refl _ _⟩
        · have E := hide (show Rd.row l most = match Rd.form (l.drop (k + 1)) l[k].toNat n with | none => ([], 0) | some (zs, s) => if Rw.best zs ≠ l[k].toNat then ([], 0) else (zs, k + 1 + s) by
            unfold Rd.row; rw [R.out]; simp only; rw [if_neg hbad, if_neg hn0, if_neg (by rw [hgd]; omega), hgd]; rfl)
          have z4 : ¬ (3 : Int) ≤ l[k].toNat := by omega
          clear R hbad hc hgd
          generalize l[k].toNat = f at *
          by_cases hkc : k + 1 = c
          · have hnil : l.drop (k + 1) = [] := List.drop_eq_nil_of_le (by omega)
            have hrf := readForm_any (.slice (some ⟨g, o, none⟩) 0 0) [] f n w ⟨some ⟨g, o, none⟩, 0, rfl, Nat.le_refl _, Nat.zero_le _, fun j hj => absurd hj (by simp)⟩ (by omega) (by omega) hn
            have E2 := hide (show Rd.row l most = ([], 0) by rw [E.out, hnil, form_nil f (by omega)])
            rw [form_nil f (by omega)] at hrf
            have HF := hide hrf
            clear hrf hnil E
            subst hkc
            rcases (show most ≤ 100000 ∨ ¬ most ≤ 100000 by omega) with b | b
            all_goals
              go_enter Tryz.func128, Tryz.ntmps128
              go_wp2_with fail
              refine hg0.mono ?_
              rintro e w1 ⟨rfl, rfl⟩
              go_wp2_with fail
              refine HF.out.mono ?_
              rintro e w2 ⟨ho, hb⟩
              rcases ho with ⟨_, rfl⟩ | ⟨zs, t, v1, hs, _, _⟩
              · go_wp2
                go_ret2
                rw [E2.out]
                exact ⟨got_none, hb⟩
              · cases hs
          · have hrf := readForm_any _ _ f n w (Bs.cut HC.out hlc HM.out (k := k + 1) (by omega) hkc) (by omega) (by omega) hn
            have hkc' : ¬ (k : Int) + 1 = c := by omega
            have HF := hide hrf
            have hll : l.length ≤ 9223372036854775807 := by omega
            clear hrf
            rcases (show most ≤ 100000 ∨ ¬ most ≤ 100000 by omega) with b | b
            all_goals
              go_enter Tryz.func128, Tryz.ntmps128
              go_wp2_with fail
              refine hg0.mono ?_
              rintro e w1 ⟨rfl, rfl⟩
              go_wp2_with fail
              refine HF.out.mono ?_
              rintro e w2 ⟨ho, hb⟩
              rcases ho with ⟨hno, rfl⟩ | ⟨zs, t, v1, hs, rfl, hown⟩
              · go_wp2
                go_ret2
                rw [E.out, hno]
                exact ⟨got_none, hb⟩
              · obtain ⟨hzl, htl, hfit⟩ := Rd.form_facts hs
                have htp := form_pos hs (by omega)
                obtain ⟨ao, cap, rfl, hcap, hcm, hsh⟩ := hown.shape
                obtain ⟨g1, rfl, hB1, hc1⟩ := hsh (by omega)
                have hsf := shortest_any g1 0 cap zs w2 hfit (by omega) hc1
                have hb2 := Rw.best_le zs
                have E3 := hide (show Rd.row l most = if Rw.best zs ≠ f then ([], 0) else (zs, k + 1 + t) by rw [E.out, hs])
                have z5 : ((t : Int) == 0) = false := by simp; omega
                rw [List.length_drop] at htl
                have HO := hide hown
                have HB := hide hb
                have HSF := hide hsf
                have HZ := hide hzl
                clear hs hown hb hsf hfit hc1 hsh hzl HF
                generalize Rw.best zs = q at *
                go_wp2_with fail
                refine HSF.out.mono ?_
                rintro e w3 ⟨rfl, hd⟩
                have HD := hide hd
                clear hd HSF
                by_cases hq : q = f
                · have z6 : ((q : Int) != f) = false := by rw [bne_eq_false_iff_eq]; omega
                  have HQ := hide hq
                  clear hq
                  go_wp2
                  go_ret2
                  rw [E3.out, if_neg (by simpa using HQ.out)]
                  exact ⟨⟨_, by simp, owns_drew' HO.out HD.out⟩, HB.out.trans (below_drew' HD.out)⟩
                · have z6 : ((q : Int) != f) = true := by rw [bne_iff_ne]; omega
                  go_wp2
                  go_ret2
                  rw [E3.out, if_pos hq]
                  exact ⟨got_none, HB.out.trans (below_drew' HD.out)⟩
end Go.Proofs.YtafmiolehlagkaaGreat.Pak

/-
  slices.Clone of entities, maps.Clone.
-/
namespace Go.Proofs.YtafmiolehlagkaaGreat
open Go.RowKit Go.Maps
set_option maxRecDepth 1000000
theorem ez_one : ∀ l : List (Int × Int), ∀ u ∈ ez l, u.oneCell' = true
  | [], _, h => by cases h
  | p :: t, v, h => by
    simp only [ez, List.mem_cons] at h
    rcases h with rfl | rfl | h
    · rfl
    · rfl
    · exact ez_one t v h
set_option maxHeartbeats 1000000 in
theorem clone_ents (v : Value) (l : List (Int × Int)) (w : World) (h : w.ownsRow 0 29 2 v l.length (ez l)) (hn : l.length ≤ 1000000) :
    Calls Tryz.prog 141 #[v] w fun e w' => ∃ v', e = .returned v' ∧ w'.ownsRow w.heap.size 29 2 v' l.length (ez l) ∧ Below w.heap.size w w' := by
  obtain ⟨i0, hi, hz0, hz1, hz2⟩ := info_parts info32
  have q72 : ∀ (w : World) (a : Option Addr) (n c n' c' : Nat), (binOp .eql 39 (.slice a n c) (.slice none n' c')).run Tryz.prog w = .ok (.bool a.isNone) w := fun w a n c n' c' => Lib.run_eql_slice_nil w _ _ a n c n' c' Tryz.underlying39
  rcases h.2 with ⟨rfl, hl⟩ | ⟨g, cap, cur, rfl, -, hg, h1, h2, hcs, htake⟩
  · obtain rfl : l = [] := List.eq_nil_of_length_eq_zero (by omega)
    clear h hl
    go_enter Tryz.func141, Tryz.ntmps141
    go_wp2_with fail
    go_ret
    exact ⟨_, rfl, World.ownsRow_nil _ _ _ _, Below.refl _ _⟩
  · have H := hide h
    clear h hg hcs htake
    go_enter Tryz.func141, Tryz.ntmps141
    go_wp2_with (at_builtin; refine wpList_append_own_at _ rfl _ _ 39 rfl w.heap.size 29 i0 (.agg #[.int .i64 0, .int .i64 0]) 2 16 Tryz.underlying39 hi hz0 hz1 hz2 rfl (by decide) _ 0 [] rfl (World.ownsRow_lit w #[] 0 (Nat.le_refl _) (Nat.zero_le _) rfl) ⟨g, 0, none⟩ l.length cap (ez l) rfl (by rw [ez_len]) ?c1 (ez_one l) (by unfold maxLen; omega) (by omega) (by simp) ?_)
    case c1 => exact (H.out.alloc _).cells rfl
    intro v' w' ho hg _ _
    obtain ⟨ao, c, rfl⟩ := own_len ho
    have HO := hide ho
    have HG := hide hg
    clear ho hg
    go_wp2_with fail
    go_ret
    refine ⟨_, rfl, ?_, (below_alloc w _).grown HG.out (by simp) (fun k e => ?_)⟩
    · have := HO.out
      simpa using this
    · simp [Value.ownBlock] at e
      omega
set_option maxHeartbeats 1000000 in
theorem clone_map (gm n : Nat) (f : Int × Int → Option Nat) (w : World) (h : Mp w gm n f) :
    Calls Tryz.prog 70 #[.map (some gm)] w fun e w' => ∃ g', e = .returned (.map (some g')) ∧ w.heap.size = g' ∧ Mp w' g' n f ∧ Below w.heap.size w w' := by
  obtain ⟨D, ⟨es, ck, hb, hr⟩, hD⟩ := h
  have hfin : Hid (Mp (w.alloc (.map es ck)) w.heap.size n f) := ⟨D, ⟨es, ck, heap_alloc_new w _, hr⟩, hD⟩
  have hq := fun w => run_eql_map_nil_sl (P := Tryz.prog) w 106 _ _ (some gm) Tryz.underlying106
  clear hr hD
  go_enter Tryz.func70, Tryz.ntmps70
  go_wp2
  rw [run_callFunc_extern Tryz.func142 (by kernel_rfl) (by kernel_rfl) (by kernel_rfl) (e := Extern.MapsClone.clone) (by kernel_rfl), run_maps_clone_sl w 106 hb]
  simp only [Result.andThen]
  rw [Oper.upon_value]
  go_wp2
  rw [run_typeAssert_map_sl _ 106 _ _ _ _ Tryz.underlying106]
  simp only [Result.andThen]
  rw [Oper.upon_value]
  go_wp2
  go_ret
  exact ⟨_, rfl, rfl, hfin.out, below_alloc w _⟩
end Go.Proofs.YtafmiolehlagkaaGreat

/-
  Clone.
-/
namespace Go.Proofs.YtafmiolehlagkaaGreat
open Go.RowKit
set_option maxRecDepth 1000000
/-- Columns that are copied one by one. -/
def Cm (B : Nat) (W : World) (ko : Nat) (lab : Nat → Nat) (done : List Value) (cols : List (List Int)) : Prop :=
  W.ownsRow B 30 1 (.slice (some ⟨ko, 0, none⟩) cols.length cols.length) cols.length (done ++ List.replicate (cols.length - done.length) (.slice none 0 0)) ∧
  (∀ i (hi : i < done.length) (hi2 : i < cols.length), W.ownsRow B 2 1 done[i] cols[i].length (zc cols[i])) ∧ lab ko = 3 ∧ ∀ i (hi : i < done.length) k, done[i].ownBlock = some k → lab k = 4 + i
section
variable {B ko : Nat} {W W' : World} {lab : Nat → Nat} {done : List Value} {cols : List (List Int)} {v : Value}
theorem Cm.start (h : W.ownsRow B 30 1 (.slice (some ⟨ko, 0, none⟩) cols.length cols.length) cols.length (List.replicate cols.length (.slice none 0 0))) : Cm B W ko (fun _ => 3) [] cols :=
  ⟨by simpa using h, fun i hi => by simp at hi, rfl, fun i hi => by simp at hi⟩
theorem Cm.later (h : Cm B W ko lab done cols) (hb : Below W.heap.size W W') : Cm B W' ko lab done cols :=
  ⟨own_later h.1 hb, fun i hi hi2 => own_later (h.2.1 i hi hi2) hb, h.2.2⟩
theorem Cm.step (h : Cm B W ko lab done cols) (hB : B ≤ W.heap.size) (hj : done.length < cols.length) (hv : W'.ownsRow W.heap.size 2 1 v cols[done.length].length (zc cols[done.length])) (hb : Below W.heap.size W W') :
    (W'.cell? ⟨ko, done.length, none⟩ = some (.slice none 0 0) ∧ W'.frozen? ⟨ko, done.length, none⟩ = false) ∧ Cm B (W'.setCell ⟨ko, done.length, none⟩ v) ko (ext lab W.heap.size (4 + done.length)) (done ++ [v]) cols ∧ Below B W (W'.setCell ⟨ko, done.length, none⟩ v) := by
  obtain ⟨h1, h2, h3, h4⟩ := h
  have hk := h1.lt ko rfl
  have h1' := own_later h1 hb
  have hm : Mv W' (W'.setCell ⟨ko, done.length, none⟩ v) (fun k => k = ko) := Mv.set (S := fun k => k = ko) (Mv.refl _ _) rfl _ _
  refine ⟨⟨?_, h1'.frozenAt _⟩, ⟨?_, fun i hi hi2 => ?_, ?_, fun i hi k e => ?_⟩, (hb.mono hB).trans (hm.below (Nat.le_trans hB hb.size) (fun k e => by omega))⟩
  · rw [h1'.cellAt _ (by omega), List.getElem?_append_right (Nat.le_refl _), Nat.sub_self, List.getElem?_replicate, if_pos (by omega)]
  · have := (h1'.stored done.length v).1
    have e : (done ++ List.replicate (cols.length - done.length) (Value.slice none 0 0)).set done.length v = (done ++ [v]) ++ List.replicate (cols.length - (done ++ [v]).length) (Value.slice none 0 0) := by
      obtain ⟨m, hm⟩ : ∃ m, cols.length - done.length = m + 1 := ⟨cols.length - done.length - 1, by omega⟩
      have hm' : cols.length - (done ++ [v]).length = m := by simp; omega
      rw [hm, hm', List.replicate_succ, List.set_append_right _ _ (Nat.le_refl _)]
      simp
    rw [e] at this
    exact this
  · by_cases e : i < done.length
    · rw [List.getElem_append_left e]
      have := own_later (h2 i e hi2) hb
      refine hm.own this (fun k e1 e2 => ?_)
      have := h4 i e k e1
      subst e2
      omega
    · have : i = done.length := by simp at hi; omega
      subst this
      simp only [List.getElem_concat_length]
      exact own_lower (hm.own hv (fun k e1 e2 => by have := (hv.lt k e1).1; omega)) hB
  · rw [ext_old hk.2]; exact h3
  · by_cases e0 : i < done.length
    · rw [List.getElem_append_left e0] at e
      rw [ext_old ((h2 i e0 (by omega)).lt k e).2]
      exact h4 i e0 k e
    · have : i = done.length := by simp at hi; omega
      subst this
      simp only [List.getElem_concat_length] at e
      exact ext_new (hv.lt k e).1
theorem Cm.finish {W1 W2 : World} {g' n : Nat} {rows : List (Int × Int)} {f : Int × Int → Option Nat} (h : Cm B W ko lab done cols) (_hB : B ≤ W.heap.size) (hd : done.length = cols.length) (hv : W1.ownsRow W.heap.size 29 2 v rows.length (ez rows)) (hb : Below W.heap.size W W1) (hp : Mp W2 g' n f) (hg : W1.heap.size ≤ g') (hb2 : Below W1.heap.size W1 W2)
    (hix : Ix rows f) (hcl : ∀ c ∈ cols, c.length = rows.length) (hib : ∀ e ∈ rows, InB e) (hr : rows.length ≤ 200) (hc : cols.length ≤ 48) :
    Tb (W2.alloc (.cells #[v, .map (some g'), .slice (some ⟨ko, 0, none⟩) cols.length cols.length] 197)) (fun k => B ≤ k) W2.heap.size n rows cols ∧ Below W.heap.size W (W2.alloc (.cells #[v, .map (some g'), .slice (some ⟨ko, 0, none⟩) cols.length cols.length] 197)) := by
  obtain ⟨h1, h2, h3, h4⟩ := h
  have hk := h1.lt ko rfl
  have s1 := hb.size
  have s2 := hb2.size
  have sp := hp.lt
  have ha := below_alloc W2 (.cells #[v, .map (some g'), .slice (some ⟨ko, 0, none⟩) cols.length cols.length] 197)
  have hb3 := below_on hb2 ha
  have hb4 := below_on hb hb3
  rw [hd] at h1
  simp only [Nat.sub_self, List.replicate_zero, List.append_nil] at h1
  refine ⟨⟨fun k => if k < W.heap.size then lab k else if k < W1.heap.size then 1 else if k < W2.heap.size then 2 else 0, v, g', _, done, f, ⟨heap_alloc_new W2 _, own_lower (own_later hv hb3) (Nat.zero_le _), hp.same (ha.block _ sp), ?_, hd, fun j hj hj2 => own_lower (own_later (h2 j hj hj2) hb4) (Nat.zero_le _), ?_, fun k e => ?_, ?_, fun k e => ?_, fun j hj k e => ?_⟩, hix, hcl, ⟨by omega, fun k e => ?_, by omega, fun k e => ?_, fun v' hv' k e => ?_⟩, hib, hr, hc⟩, hb4⟩
  · have := own_lower (own_later h1 hb4) (Nat.zero_le _)
    rw [hd]
    exact this
  · dsimp only
    rw [if_neg (by omega), if_neg (by omega), if_neg (by omega)]
  · have := hv.lt k e
    dsimp only
    rw [if_neg (by omega), if_pos (by omega)]
  · dsimp only
    rw [if_neg (by omega), if_neg (by omega), if_pos (by omega)]
  · simp only [Value.ownBlock, Option.some.injEq] at e
    subst e
    dsimp only
    rw [if_pos hk.2]
    exact h3
  · have := ((h2 j hj (by omega)).lt k e).2
    dsimp only
    rw [if_pos this]
    exact h4 j hj k e
  · have := (hv.lt k e).1
    omega
  · simp only [Value.ownBlock, Option.some.injEq] at e
    subst e
    exact hk.1
  · obtain ⟨j, hj, rfl⟩ := List.getElem_of_mem hv'
    exact ((h2 j hj (by omega)).lt k e).1
end
set_option maxHeartbeats 2000000 in
set_option maxRecDepth 100000 in
theorem cloned_any {w : World} {S : Nat → Prop} {g n : Nat} {rows : List (Int × Int)} {cols : List (List Int)} (h : Tb w S g n rows cols) : Calls Tryz.prog 68 #[.pointer (some ⟨g, 0, none⟩)] w fun e w' => ∃ g', e = .returned (.pointer (some ⟨g', 0, none⟩)) ∧ Tb w' (fun k => w.heap.size ≤ k) g' n rows cols ∧ Below w.heap.size w w' := by
  obtain ⟨lab, vr, gm, vc, cs, f, hm, hix, hcl, -, hib, hr2, hc48⟩ := h
  have HM := hide hm
  have HX := hide (And.intro hix (And.intro hcl hib))
  have hcs := hm.2.2.2.2.1
  obtain ⟨i0, hi0, hz0, hz1, hz2⟩ := info_parts info27
  obtain ⟨ar, cr, rfl⟩ := own_len hm.2.1
  obtain ⟨ac, cc, rfl⟩ := own_len hm.2.2.2.1
  have CC : Hid (∀ W, Below w.heap.size w W → W.cell? ⟨g, 0, none⟩ = some (.slice ar rows.length cr) ∧ W.cell? ⟨g, 1, none⟩ = some (.map (some gm)) ∧ W.cell? ⟨g, 2, none⟩ = some (.slice ac cs.length cc)) := fun W hb => (HM.out.later hb).cell
  clear hm hcl hix hib
  obtain ⟨c0, c1, c2⟩ := CC.out _ (Below.refl _ _)
  go_enter Tryz.func68, Tryz.ntmps68
  go_wp2_with (at_make; refine wpList_make_full _ rfl _ _ 42 rfl w.heap.size 30 i0 (.slice none 0 0) 1 Tryz.underlying42 hi0 hz0 hz1 .i64 .i64 _ _ cs.length rfl rfl ?c1 ?c2 ?c3 ?c4 ?c5 ?_)
  case c1 => omega
  case c2 => omega
  case c3 => rw [hz2]; omega
  case c4 => unfold maxLen; omega
  case c5 => simp
  intro w1 hown hgrow
  rw [toList_madeCells_one] at hown
  clear c0 c1 c2
  have B1 : Below w.heap.size w w1 := (Below.refl _ _).grown hgrow (Nat.le_refl _) (by intro k hk; cases hk)
  obtain ⟨ko, hko⟩ : ∃ k, k = w.heap.size := ⟨_, rfl⟩
  rw [← hko]
  have HO : Hid (Cm w.heap.size w1 ko (fun _ => 3) [] cols) := by
    refine Cm.start ?_
    rw [hko]
    exact hown
  have HB1 := hide B1
  obtain ⟨d0, d1, d2⟩ := CC.out w1 B1
  clear hown hgrow B1 hko
  go_upto_block 0 with fail
  clear d0 d1 d2
  go_wp2_with fail
  go_loopw [17] (fun v17 W => ∃ (lb : Nat → Nat) (done : List Value) (j : Nat), j ≤ cols.length ∧ Hid (done.length = j) ∧ v17 = .int .i64 (j : Int) ∧ Hid (Cm w.heap.size W ko lb done cols) ∧ Hid (Below w.heap.size w W)) (fun v17 _ => cols.length - (intOf v17).toNat)
  case atStart => exact ⟨_, [], 0, Nat.zero_le _, rfl, rfl, HO, HB1⟩
  case round =>
    obtain ⟨lb, done, j, hjl, hdj, rfl, HR, HB⟩ := hrel
    by_cases hj : j < cols.length
    · have t1 : (j : Int) < (cols.length : Int) := by omega
      have hmw := HM.out.later HB.out
      obtain ⟨gc, cc', ec, -, -⟩ := own_form hmw.2.2.2.1 (by omega)
      simp only [Value.slice.injEq] at ec
      obtain ⟨rfl, -, rfl⟩ := ec
      have e1 := own_slices hmw.2.2.2.1 j (by omega)
      have hrow := hmw.2.2.2.2.2.1 j (by omega) hj
      have hlen : cols[j].length = rows.length := HX.out.2.1 _ (List.getElem_mem hj)
      have J : Hid (Calls Tryz.prog 140 #[cs[j]] wr fun e w' => ∃ v', e = .returned v' ∧ Hid (w'.ownsRow wr.heap.size 2 1 v' cols[j].length (zc cols[j]) ∧ Below wr.heap.size wr w')) :=
        (clone_any _ _ _ wr hrow (by omega)).mono (fun e w' ⟨v', h1, h2, h3⟩ => ⟨v', h1, h2, h3⟩)
      generalize cs[j]'(by omega) = vj at *
      clear hmw hrow
      go_wp2_with fail
      refine J.out.mono ?_
      rintro e w2 ⟨v', rfl, HV⟩
      have hd := hdj.out
      subst hd
      obtain ⟨⟨f1, f2⟩, HC2, HB2⟩ := HR.out.step HB.out.size hj HV.out.1 HV.out.2
      have HC2 := hide HC2
      have HB2 := hide HB2
      obtain ⟨av, cv, rfl⟩ := own_len HV.out.1
      clear hlen
      go_wp2_with fail
      go_roundw
      case rel => exact ⟨_, done ++ [_], done.length + 1, by omega, hide (by simp), by go_num, HC2, HB.out.trans HB2.out⟩
      case measure => simp [intOf]; omega
    · obtain rfl : j = cols.length := by omega
      have t1 : ¬ (cols.length : Int) < (cols.length : Int) := by omega
      have hbd : Hid (Below w.heap.size w wr.drew) := below_on HB.out (below_drew wr)
      have J28 : Hid (∀ W, Below w.heap.size w W → Calls Tryz.prog 141 #[.slice ar rows.length cr] W fun e w' => ∃ v', e = .returned v' ∧ Hid (w'.ownsRow W.heap.size 29 2 v' rows.length (ez rows) ∧ Below W.heap.size W w' ∧ Below w.heap.size w w') ∧ w'.cell? ⟨g, 0, none⟩ = some (.slice ar rows.length cr) ∧ w'.cell? ⟨g, 1, none⟩ = some (.map (some gm))) := fun W hW =>
        (clone_ents _ rows W (own_later HM.out.2.1 hW) (by omega)).mono (fun e w' ⟨v', h1, h2, h3⟩ => ⟨v', h1, ⟨h2, h3, below_on hW h3⟩, (CC.out _ (below_on hW h3)).1, (CC.out _ (below_on hW h3)).2.1⟩)
      have J29 : Hid (∀ W, Below w.heap.size w W → Calls Tryz.prog 70 #[.map (some gm)] W fun e w' => ∃ g', e = .returned (.map (some g')) ∧ Hid (W.heap.size ≤ g' ∧ Mp w' g' n f ∧ Below W.heap.size W w') ∧ w'.cell? ⟨g, 0, none⟩ = some (.slice ar rows.length cr) ∧ w'.cell? ⟨g, 1, none⟩ = some (.map (some gm))) := fun W hW =>
        (clone_map gm n f W (HM.out.later hW).2.2.1).mono (fun e w' ⟨g', h1, h2, h3, h4⟩ => ⟨g', h1, ⟨Nat.le_of_eq h2, h3, h4⟩, (CC.out _ (below_on hW h4)).1, (CC.out _ (below_on hW h4)).2.1⟩)
      obtain ⟨d0, d1, -⟩ := CC.out _ hbd.out
      go_wp2_with fail
      go_region_held3 (fun W => W.cell? ⟨g, 0, none⟩ = some (.slice ar rows.length cr) ∧ W.cell? ⟨g, 1, none⟩ = some (.map (some gm))) (go_keep) (first | (go_at_call 70; refine (J29.out _ HH.out.2.2).mono ?_; rintro e w3 ⟨g3, rfl, HH3, y0, y1⟩) | (go_at_call 141; refine (J28.out _ hbd.out).mono ?_; rintro e w2 ⟨v2, rfl, HH, x0, x1⟩; obtain ⟨a2, k2, rfl⟩ := own_len HH.out.1))
      all_goals
        go_wp2_with fail
        go_ret
        have hfin := (HR.out.later (below_drew wr)).finish hbd.out.size hdj.out HH.out.1 HH.out.2.1 HH3.out.2.1 HH3.out.1 HH3.out.2.2 HX.out.1 HX.out.2.1 HX.out.2.2 hr2 hc48
        exact ⟨_, rfl, hfin.1, below_on hbd.out hfin.2⟩
section
variable {B : Nat} {N : Nat → Prop} {W : World} {g n : Nat} {rows : List (Int × Int)} {cols : List (List Int)}
end
end Go.Proofs.YtafmiolehlagkaaGreat

/-
  A number that is put down.
-/
namespace Go.Proofs.YtafmiolehlagkaaGreat
open Go.RowKit
set_option maxRecDepth 100000
abbrev oIA1 : Oper := { dst := some 15, op := Op.move (Operand.tmp 0), type := 105, pos := "ids.go:136", after := #[], guard := none }
abbrev oIA2 : Oper := { dst := some 16, op := Op.move (Operand.tmp 0), type := 105, pos := "ids.go:136", after := #[{ on := 18, ground := Ground.gcOnly Departure.lateStores }], guard := none }
abbrev oIA3 : Oper := { dst := some 17, op := Op.move (Operand.tmp 0), type := 105, pos := "ids.go:136", after := #[], guard := none }
abbrev oIA4 : Oper := { dst := some 18, op := Op.nilCheck (Operand.tmp 17), type := 0, pos := "ids.go:136", after := #[{ on := 2, ground := Ground.data }], guard := none }
abbrev oIA5 : Oper := { dst := some 19, op := Op.fieldAddr 163 (Operand.tmp 18) 1, type := 0, pos := "ids.go:136", after := #[{ on := 3, ground := Ground.data }], guard := none }
abbrev oIA6 : Oper := { dst := some 20, op := Op.load 45 (Operand.tmp 19), type := 45, pos := "ids.go:136", after := #[{ on := 4, ground := Ground.data }], guard := none }
abbrev oIA7 : Oper := { dst := some 21, op := Op.move (Operand.tmp 1), type := 3, pos := "ids.go:136", after := #[], guard := none }
abbrev oIA8 : Oper := { dst := some 24, op := Op.move (Operand.tmp 0), type := 105, pos := "ids.go:136", after := #[], guard := none }
abbrev oIA9 : Oper := { dst := some 25, op := Op.nilCheck (Operand.tmp 24), type := 0, pos := "ids.go:136", after := #[{ on := 9, ground := Ground.data }], guard := none }
abbrev oIA10 : Oper := { dst := some 26, op := Op.fieldAddr 163 (Operand.tmp 25) 2, type := 0, pos := "ids.go:136", after := #[{ on := 10, ground := Ground.data }], guard := none }
abbrev oIA11 : Oper := { dst := some 27, op := Op.load 39 (Operand.tmp 26), type := 39, pos := "ids.go:136", after := #[{ on := 11, ground := Ground.data }], guard := none }
abbrev oIA12 : Oper := { dst := some 22, op := Op.buildSlice 45 1 #[(0, Operand.tmp 21)], type := 45, pos := "ids.go:136", after := #[{ on := 6, ground := Ground.data }], guard := none }
abbrev oIA13 : Oper := { dst := some 23, op := Op.call { callee := Callee.builtin Builtin.append, args := #[Operand.tmp 20, Operand.tmp 22], argTypes := #[45, 45] }, type := 45, pos := "ids.go:136", after := #[{ on := 5, ground := Ground.data }, { on := 7, ground := Ground.data }], guard := none }
abbrev oIA14 : Oper := { dst := some 28, op := Op.load 29 (Operand.tmp 4), type := 29, pos := "ids.go:136", after := #[], guard := none }
abbrev oIA15 : Oper := { dst := some 29, op := Op.buildSlice 39 1 #[(0, Operand.tmp 28)], type := 39, pos := "ids.go:136", after := #[{ on := 13, ground := Ground.data }], guard := none }
abbrev oIA16 : Oper := { dst := some 30, op := Op.call { callee := Callee.builtin Builtin.append, args := #[Operand.tmp 27, Operand.tmp 29], argTypes := #[39, 39] }, type := 39, pos := "ids.go:136", after := #[{ on := 12, ground := Ground.data }, { on := 14, ground := Ground.data }, { on := 8, ground := Ground.chain }], guard := none }
abbrev oIA17 : Oper := { dst := some 31, op := Op.nilCheck (Operand.tmp 15), type := 0, pos := "ids.go:136", after := #[{ on := 0, ground := Ground.data }, { on := 0, ground := Ground.phase }, { on := 1, ground := Ground.textOnly Departure.lateStores }, { on := 2, ground := Ground.phase }, { on := 3, ground := Ground.phase }, { on := 4, ground := Ground.phase }, { on := 5, ground := Ground.phase }, { on := 6, ground := Ground.phase }, { on := 7, ground := Ground.phase }, { on := 8, ground := Ground.phase }, { on := 9, ground := Ground.textOnly Departure.lateStores }, { on := 10, ground := Ground.textOnly Departure.lateStoresUnsure }, { on := 11, ground := Ground.textOnly Departure.lateStoresUnsure }, { on := 12, ground := Ground.phase }, { on := 13, ground := Ground.textOnly Departure.lateStores }, { on := 14, ground := Ground.textOnly Departure.lateStoresUnsure }, { on := 15, ground := Ground.phase }], guard := none }
abbrev oIA18 : Oper := { dst := some 32, op := Op.fieldAddr 163 (Operand.tmp 31) 1, type := 0, pos := "ids.go:136", after := #[{ on := 16, ground := Ground.data }, { on := 0, ground := Ground.phase }, { on := 1, ground := Ground.textOnly Departure.lateStores }, { on := 2, ground := Ground.phase }, { on := 3, ground := Ground.phase }, { on := 4, ground := Ground.phase }, { on := 5, ground := Ground.phase }, { on := 6, ground := Ground.phase }, { on := 7, ground := Ground.phase }, { on := 8, ground := Ground.phase }, { on := 9, ground := Ground.textOnly Departure.lateStores }, { on := 10, ground := Ground.textOnly Departure.lateStoresUnsure }, { on := 11, ground := Ground.textOnly Departure.lateStoresUnsure }, { on := 12, ground := Ground.phase }, { on := 13, ground := Ground.textOnly Departure.lateStores }, { on := 14, ground := Ground.textOnly Departure.lateStoresUnsure }, { on := 15, ground := Ground.phase }], guard := none }
abbrev oIA19 : Oper := { dst := none, op := Op.store 45 (Operand.tmp 32) (Operand.tmp 23), type := 0, pos := "ids.go:136", after := #[{ on := 17, ground := Ground.data }, { on := 8, ground := Ground.data }, { on := 15, ground := Ground.chain }, { on := 0, ground := Ground.phase }, { on := 1, ground := Ground.textOnly Departure.lateStores }, { on := 2, ground := Ground.phase }, { on := 3, ground := Ground.phase }, { on := 4, ground := Ground.phase }, { on := 5, ground := Ground.phase }, { on := 6, ground := Ground.phase }, { on := 7, ground := Ground.phase }, { on := 8, ground := Ground.phase }, { on := 9, ground := Ground.textOnly Departure.lateStores }, { on := 10, ground := Ground.textOnly Departure.lateStoresUnsure }, { on := 11, ground := Ground.textOnly Departure.lateStoresUnsure }, { on := 12, ground := Ground.phase }, { on := 13, ground := Ground.textOnly Departure.lateStores }, { on := 14, ground := Ground.textOnly Departure.lateStoresUnsure }, { on := 15, ground := Ground.phase }], guard := none }
abbrev oIA20 : Oper := { dst := some 33, op := Op.nilCheck (Operand.tmp 16), type := 0, pos := "ids.go:136", after := #[{ on := 1, ground := Ground.data }, { on := 0, ground := Ground.phase }, { on := 1, ground := Ground.phase }, { on := 2, ground := Ground.phase }, { on := 3, ground := Ground.phase }, { on := 4, ground := Ground.phase }, { on := 5, ground := Ground.phase }, { on := 6, ground := Ground.phase }, { on := 7, ground := Ground.phase }, { on := 8, ground := Ground.phase }, { on := 9, ground := Ground.phase }, { on := 10, ground := Ground.phase }, { on := 11, ground := Ground.phase }, { on := 12, ground := Ground.phase }, { on := 13, ground := Ground.phase }, { on := 14, ground := Ground.phase }, { on := 15, ground := Ground.phase }, { on := 16, ground := Ground.phase }, { on := 17, ground := Ground.phase }, { on := 18, ground := Ground.phase }], guard := none }
abbrev oIA21 : Oper := { dst := some 34, op := Op.fieldAddr 163 (Operand.tmp 33) 2, type := 0, pos := "ids.go:136", after := #[{ on := 19, ground := Ground.data }, { on := 0, ground := Ground.phase }, { on := 1, ground := Ground.phase }, { on := 2, ground := Ground.phase }, { on := 3, ground := Ground.phase }, { on := 4, ground := Ground.phase }, { on := 5, ground := Ground.phase }, { on := 6, ground := Ground.phase }, { on := 7, ground := Ground.phase }, { on := 8, ground := Ground.phase }, { on := 9, ground := Ground.phase }, { on := 10, ground := Ground.phase }, { on := 11, ground := Ground.phase }, { on := 12, ground := Ground.phase }, { on := 13, ground := Ground.phase }, { on := 14, ground := Ground.phase }, { on := 15, ground := Ground.phase }, { on := 16, ground := Ground.phase }, { on := 17, ground := Ground.phase }, { on := 18, ground := Ground.phase }], guard := none }
abbrev oIA22 : Oper := { dst := none, op := Op.store 39 (Operand.tmp 34) (Operand.tmp 30), type := 0, pos := "ids.go:136", after := #[{ on := 20, ground := Ground.data }, { on := 15, ground := Ground.data }, { on := 18, ground := Ground.chain }, { on := 0, ground := Ground.phase }, { on := 1, ground := Ground.phase }, { on := 2, ground := Ground.phase }, { on := 3, ground := Ground.phase }, { on := 4, ground := Ground.phase }, { on := 5, ground := Ground.phase }, { on := 6, ground := Ground.phase }, { on := 7, ground := Ground.phase }, { on := 8, ground := Ground.phase }, { on := 9, ground := Ground.phase }, { on := 10, ground := Ground.phase }, { on := 11, ground := Ground.phase }, { on := 12, ground := Ground.phase }, { on := 13, ground := Ground.phase }, { on := 14, ground := Ground.phase }, { on := 15, ground := Ground.phase }, { on := 16, ground := Ground.phase }, { on := 17, ground := Ground.phase }, { on := 18, ground := Ground.phase }], guard := none }
set_option maxHeartbeats 8000000 in
set_option maxRecDepth 100000 in
theorem add_live (g n x : Nat) (vg vl vf : Value) (gs fr : List Nat) (lv : List (Nat × Nat)) (w : World) (h : Pm w g n vg vl vf gs fr lv) (hx : x ≤ 1000000) (hg : gs.length ≤ 1000000) (hl : lv.length ≤ 1000000) :
    Calls Tryz.prog 130 #[.pointer (some ⟨g, 0, none⟩), .int .i64 (x : Int)] w fun e w' => e = .returned (.tuple #[]) ∧ ∃ vg' vl', Pm w' g n vg' vl' vf (gs ++ [x]) fr (lv ++ [(gs.length, x)]) ∧ (∀ k, vg'.ownBlock = some k → vg.ownBlock = some k ∨ w.heap.size ≤ k) ∧ (∀ k, vl'.ownBlock = some k → vl.ownBlock = some k ∨ w.heap.size ≤ k) ∧ Mv w w' (fun k => k = g ∨ vg.ownBlock = some k ∨ vl.ownBlock = some k) := by
  obtain ⟨i3, hi3, hx0, hx1, hx2⟩ := info_parts info3
  obtain ⟨i41, hi41, hy0, hy1, hy2⟩ := info_parts info41
  obtain ⟨c0, c1, c2, c3⟩ := h.cell
  obtain ⟨aog, cg, rfl⟩ := own_len h.2.1
  obtain ⟨aol, cl, rfl⟩ := own_len h.2.2.1
  have t0 : ((x : Int) == 1000001) = false := by rw [beq_eq_false_iff_ne]; omega
  obtain ⟨w1, hw1⟩ : ∃ X, X = w.alloc (.cells #[.int .i64 (gs.length : Int), .int .i64 (x : Int)] 29) := ⟨_, rfl⟩
  have hbe : Below w.heap.size w w1 := hw1 ▸ below_alloc w _
  have h1 := h.later hbe
  have WH : Hid (∀ W, Mv w1 W (fun k => (Value.slice aog gs.length cg).ownBlock = some k ∨ (Value.slice aol lv.length cl).ownBlock = some k) → W.cell? ⟨w.heap.size, 0, none⟩ = some (.int .i64 (gs.length : Int)) ∧ W.cell? ⟨w.heap.size, 1, none⟩ = some (.int .i64 (x : Int))) := fun W hm => by
    have hn : ¬ ((Value.slice aog gs.length cg).ownBlock = some w.heap.size ∨ (Value.slice aol lv.length cl).ownBlock = some w.heap.size) := fun e => by
      rcases e with e | e
      · have := (h.2.1.lt _ e).2
        omega
      · have := (h.2.2.1.lt _ e).2
        omega
    exact ⟨hm.cell (by rw [hw1]; simp) hn, hm.cell (by rw [hw1]; simp) hn⟩
  have CV : Hid (∀ w' : World, (∃ vg' vl', Pm w' g n vg' vl' vf (gs ++ [x]) fr (lv ++ [(gs.length, x)]) ∧ (∀ k, vg'.ownBlock = some k → (Value.slice aog gs.length cg).ownBlock = some k ∨ w1.heap.size ≤ k) ∧ (∀ k, vl'.ownBlock = some k → (Value.slice aol lv.length cl).ownBlock = some k ∨ w1.heap.size ≤ k) ∧ Mv w1 w' (fun k => k = g ∨ (Value.slice aog gs.length cg).ownBlock = some k ∨ (Value.slice aol lv.length cl).ownBlock = some k)) → ∃ vg' vl', Pm w' g n vg' vl' vf (gs ++ [x]) fr (lv ++ [(gs.length, x)]) ∧ (∀ k, vg'.ownBlock = some k → (Value.slice aog gs.length cg).ownBlock = some k ∨ w.heap.size ≤ k) ∧ (∀ k, vl'.ownBlock = some k → (Value.slice aol lv.length cl).ownBlock = some k ∨ w.heap.size ≤ k) ∧ Mv w w' (fun k => k = g ∨ (Value.slice aog gs.length cg).ownBlock = some k ∨ (Value.slice aol lv.length cl).ownBlock = some k)) := fun w' ⟨vg', vl', p1, p2, p3, p4⟩ =>
    ⟨vg', vl', p1, fun k e => (p2 k e).imp id (fun h => Nat.le_trans hbe.size h), fun k e => (p3 k e).imp id (fun h => Nat.le_trans hbe.size h), (Mv.of_below hbe _).trans p4 (fun k _ e => e)⟩
  have u0 : ∀ o, (w1.alloc o).cell? ⟨w.heap.size, 0, none⟩ = some (.int .i64 (gs.length : Int)) := fun o => (WH.out _ (Mv.of_below (below_alloc w1 o) _)).1
  have u1 : ∀ o, (w1.alloc o).cell? ⟨w.heap.size, 1, none⟩ = some (.int .i64 (x : Int)) := fun o => (WH.out _ (Mv.of_below (below_alloc w1 o) _)).2
  have T0 := hide (h1.two.later (below_drew w1))
  have HGL := hide h1.2.1.lt
  have H := hide h1
  clear h h1 hbe
  go_enter Tryz.func130, Tryz.ntmps130
  go_wp2_with fail
  skip
  rw [← hw1]
  clear hw1
  refine wp_region_noPanic ?_
  refine wp_region_late (J := fun i => i != 18 && i != 21) (S := fun W => W.cell? ⟨g, 1, none⟩ = some (.slice aog gs.length cg) ∧ W.cell? ⟨g, 2, none⟩ = some (.slice aol lv.length cl)) (by kernel_rfl) (mid_cells (H.out.mid T0.out)).1 (fun hHeld => ?_)
  refine' wpAnyJ_takeW (i := 0) (oi := oIA1) (v := _) rfl (by kernel_rfl) (by kernel_rfl) (by kernel_rfl) (fun _ _ _ h => h) (Or.inl ⟨by rfl, ?hyA1⟩) ?reA1
  case hyA1 => (intro W hSw; (try dsimp only at hSw); go_simp; try with_reducible rfl)
  try simp only [Act.put, List.setIfInBounds_toArray, List.set_cons_zero, List.set_cons_succ]
  refine' wpAnyJ_takeW (i := 1) (oi := oIA2) (v := _) rfl (by kernel_rfl) (by kernel_rfl) (by kernel_rfl) (fun _ _ _ h => h) (Or.inl ⟨by rfl, ?hyA2⟩) ?reA2
  case hyA2 => (intro W hSw; (try dsimp only at hSw); go_simp; try with_reducible rfl)
  try simp only [Act.put, List.setIfInBounds_toArray, List.set_cons_zero, List.set_cons_succ]
  refine' wpAnyJ_takeW (i := 2) (oi := oIA3) (v := _) rfl (by kernel_rfl) (by kernel_rfl) (by kernel_rfl) (fun _ _ _ h => h) (Or.inl ⟨by rfl, ?hyA3⟩) ?reA3
  case hyA3 => (intro W hSw; (try dsimp only at hSw); go_simp; try with_reducible rfl)
  try simp only [Act.put, List.setIfInBounds_toArray, List.set_cons_zero, List.set_cons_succ]
  refine' wpAnyJ_takeW (i := 3) (oi := oIA4) (v := _) rfl (by kernel_rfl) (by kernel_rfl) (by kernel_rfl) (fun _ _ _ h => h) (Or.inl ⟨by rfl, ?hyA4⟩) ?reA4
  case hyA4 => (intro W hSw; (try dsimp only at hSw); go_simp; try with_reducible rfl)
  try simp only [Act.put, List.setIfInBounds_toArray, List.set_cons_zero, List.set_cons_succ]
  refine' wpAnyJ_takeW (i := 4) (oi := oIA5) (v := _) rfl (by kernel_rfl) (by kernel_rfl) (by kernel_rfl) (fun _ _ _ h => h) (Or.inl ⟨by rfl, ?hyA5⟩) ?reA5
  case hyA5 => (intro W hSw; (try dsimp only at hSw); go_simp; try with_reducible rfl)
  try simp only [Act.put, List.setIfInBounds_toArray, List.set_cons_zero, List.set_cons_succ]
  refine' wpAnyJ_take (i := 5) (oi := oIA6) (v := _) rfl (by kernel_rfl) (by kernel_rfl) (by kernel_rfl) (by kernel_rfl) (fun _ _ _ h => h) (Or.inl ⟨by rfl, ?hyA6⟩) (by assumption) ?reA6
  case hyA6 => (intro W hSw; (try dsimp only at hSw); go_simp; try with_reducible rfl)
  try simp only [Act.put, List.setIfInBounds_toArray, List.set_cons_zero, List.set_cons_succ]
  refine' wpAnyJ_takeW (i := 6) (oi := oIA7) (v := _) rfl (by kernel_rfl) (by kernel_rfl) (by kernel_rfl) (fun _ _ _ h => h) (Or.inl ⟨by rfl, ?hyA7⟩) ?reA7
  case hyA7 => (intro W hSw; (try dsimp only at hSw); go_simp; try with_reducible rfl)
  try simp only [Act.put, List.setIfInBounds_toArray, List.set_cons_zero, List.set_cons_succ]
  refine' wpAnyJ_takeW (i := 9) (oi := oIA8) (v := _) rfl (by kernel_rfl) (by kernel_rfl) (by kernel_rfl) (fun _ _ _ h => h) (Or.inl ⟨by rfl, ?hyA8⟩) ?reA8
  case hyA8 => (intro W hSw; (try dsimp only at hSw); go_simp; try with_reducible rfl)
  try simp only [Act.put, List.setIfInBounds_toArray, List.set_cons_zero, List.set_cons_succ]
  refine' wpAnyJ_takeW (i := 10) (oi := oIA9) (v := _) rfl (by kernel_rfl) (by kernel_rfl) (by kernel_rfl) (fun _ _ _ h => h) (Or.inl ⟨by rfl, ?hyA9⟩) ?reA9
  case hyA9 => (intro W hSw; (try dsimp only at hSw); go_simp; try with_reducible rfl)
  try simp only [Act.put, List.setIfInBounds_toArray, List.set_cons_zero, List.set_cons_succ]
  refine' wpAnyJ_takeW (i := 11) (oi := oIA10) (v := _) rfl (by kernel_rfl) (by kernel_rfl) (by kernel_rfl) (fun _ _ _ h => h) (Or.inl ⟨by rfl, ?hyA10⟩) ?reA10
  case hyA10 => (intro W hSw; (try dsimp only at hSw); go_simp; try with_reducible rfl)
  try simp only [Act.put, List.setIfInBounds_toArray, List.set_cons_zero, List.set_cons_succ]
  refine' wpAnyJ_take (i := 12) (oi := oIA11) (v := _) rfl (by kernel_rfl) (by kernel_rfl) (by kernel_rfl) (by kernel_rfl) (fun _ _ _ h => h) (Or.inl ⟨by rfl, ?hyA11⟩) (by assumption) ?reA11
  case hyA11 => (intro W hSw; (try dsimp only at hSw); go_simp; try with_reducible rfl)
  try simp only [Act.put, List.setIfInBounds_toArray, List.set_cons_zero, List.set_cons_succ]
  refine wpAnyJ_ready (rs := [7, 13]) (by kernel_rfl) (by simp) ?_
  refine AllReadyJ.cons (o := oIA12) rfl (fun K hK => ?_) ?_
  · go_simp
    refine hK.out _ _ (fun _ _ => (mid_cells (H.out.mid (T0.out.alloc _))).1) ?_
    clear hK K
    try simp only [Act.put, List.setIfInBounds_toArray, List.set_cons_zero, List.set_cons_succ]
    refine wpAnyJ_ready (rs := [8, 13]) (by kernel_rfl) (by simp) ?_
    refine AllReadyJ.cons (o := oIA13) rfl (fun K hK => ?_) ?_
    · refine step_append_lies _ rfl (.tmp 20) (.tmp 22) 45 rfl 0 3 i3 (.int .i64 0) 1 8 Tryz.underlying45 hi3 hx0 hx1 hx2 rfl (by decide) (.slice aog gs.length cg) gs.length (ic gs) (by simp [Act.eval]) (T0.out.alloc _).1 ⟨w1.heap.size, 0, none⟩ 1 1 [.int .i64 (x : Int)] (by simp [Act.eval]) rfl (by intro j u hj; match j, hj with | 0, hj => simp at hj; subst hj; simp [Addr.add]) (by intro u hu; simp at hu; subst hu; rfl) (by omega) (by unfold maxLen; omega) (by omega) (Nat.zero_le _) _ rfl ?_; intro g9 c9 w9 ho9 hg9 ha9 _
      have T9 := hide ((T0.out.alloc _).growG (x := x) ho9 hg9 ha9)
      clear ho9 hg9 ha9
      refine hK.out _ _ (fun _ _ => (mid_cells (H.out.mid T9.out)).1) ?_
      clear hK K
      try simp only [Act.put, List.setIfInBounds_toArray, List.set_cons_zero, List.set_cons_succ]
      refine wpAnyJ_ready (rs := [13]) (by kernel_rfl) (by simp) ?_
      refine AllReadyJ.cons (o := oIA14) rfl (fun K hK => ?_) AllReadyJ.nil
      obtain ⟨q0, q1⟩ := WH.out _ T9.out.2.2.2.2.2
      go_simp
      refine hK.out _ _ (fun _ h => h) ?_
      clear hK K q0 q1
      try simp only [Act.put, List.setIfInBounds_toArray, List.set_cons_zero, List.set_cons_succ]
      refine wpAnyJ_ready (rs := [14]) (by kernel_rfl) (by simp) ?_
      refine AllReadyJ.cons (o := oIA15) rfl (fun K hK => ?_) AllReadyJ.nil
      go_simp
      refine hK.out _ _ (fun _ _ => (mid_cells (H.out.mid (T9.out.alloc _))).1) ?_
      clear hK K
      try simp only [Act.put, List.setIfInBounds_toArray, List.set_cons_zero, List.set_cons_succ]
      refine wpAnyJ_ready (rs := [15]) (by kernel_rfl) (by simp) ?_
      refine AllReadyJ.cons (o := oIA16) rfl (fun K hK => ?_) AllReadyJ.nil
      refine step_append_lies _ rfl (.tmp 27) (.tmp 29) 39 rfl 0 29 i41 (.agg #[.int .i64 0, .int .i64 0]) 2 16 Tryz.underlying39 hi41 hy0 hy1 hy2 rfl (by decide) (.slice aol lv.length cl) lv.length (ec lv) (by simp [Act.eval]) (T9.out.alloc _).2.1 ⟨w9.heap.size, 0, none⟩ 1 1 [.int .i64 (gs.length : Int), .int .i64 (x : Int)] (by simp [Act.eval]) rfl (by intro j u hj; match j, hj with | 0, hj => simp at hj; subst hj; simp [Addr.add] | 1, hj => simp at hj; subst hj; simp [Addr.add]) (by intro u hu; simp at hu; rcases hu with rfl | rfl <;> rfl) (by omega) (by unfold maxLen; omega) (by omega) (Nat.zero_le _) _ rfl ?_; intro g8 c8 w8 ho8 hg8 ha8 _
      have T10 := hide ((T9.out.alloc _).growL (a := gs.length) (b := x) ho8 hg8 ha8)
      clear ho8 hg8 ha8
      refine hK.out _ _ (fun _ _ => (mid_cells (H.out.mid T10.out)).1) ?_
      clear hK K
      obtain ⟨⟨d1, d2⟩, y1, y2⟩ := mid_cells (H.out.mid T10.out)
      try simp only [Act.put, List.setIfInBounds_toArray, List.set_cons_zero, List.set_cons_succ]
      refine' wpAnyJ_takeW (i := 16) (oi := oIA17) (v := _) rfl (by kernel_rfl) (by kernel_rfl) (by kernel_rfl) (fun _ _ _ h => h) (Or.inl ⟨by rfl, ?hyA12⟩) ?reA12
      case hyA12 => (intro W hSw; (try dsimp only at hSw); go_simp; try with_reducible rfl)
      try simp only [Act.put, List.setIfInBounds_toArray, List.set_cons_zero, List.set_cons_succ]
      refine' wpAnyJ_takeW (i := 17) (oi := oIA18) (v := _) rfl (by kernel_rfl) (by kernel_rfl) (by kernel_rfl) (fun _ _ _ h => h) (Or.inl ⟨by rfl, ?hyA13⟩) ?reA13
      case hyA13 => (intro W hSw; (try dsimp only at hSw); go_simp; try with_reducible rfl)
      try simp only [Act.put, List.setIfInBounds_toArray, List.set_cons_zero, List.set_cons_succ]
      refine wpAnyJ_ready (rs := [18]) (by kernel_rfl) (by simp) ?_
      refine AllReadyJ.cons (o := oIA19) rfl (fun K hK => ?_) AllReadyJ.nil
      go_simp
      refine hK.out _ _ (fun h => absurd h (by decide)) ?_
      clear hK K
      try simp only [Act.put, List.setIfInBounds_toArray, List.set_cons_zero, List.set_cons_succ]
      refine' wpAnyJ_takeW (i := 19) (oi := oIA20) (v := _) rfl (by kernel_rfl) (by kernel_rfl) (by kernel_rfl) (fun _ _ _ h => h) (Or.inl ⟨by rfl, ?hyA14⟩) ?reA14
      case hyA14 => (intro W hSw; (try dsimp only at hSw); go_simp; try with_reducible rfl)
      try simp only [Act.put, List.setIfInBounds_toArray, List.set_cons_zero, List.set_cons_succ]
      refine' wpAnyJ_takeW (i := 20) (oi := oIA21) (v := _) rfl (by kernel_rfl) (by kernel_rfl) (by kernel_rfl) (fun _ _ _ h => h) (Or.inl ⟨by rfl, ?hyA15⟩) ?reA15
      case hyA15 => (intro W hSw; (try dsimp only at hSw); go_simp; try with_reducible rfl)
      try simp only [Act.put, List.setIfInBounds_toArray, List.set_cons_zero, List.set_cons_succ]
      refine wpAnyJ_ready (rs := [21]) (by kernel_rfl) (by simp) ?_
      refine AllReadyJ.cons (o := oIA22) rfl (fun K hK => ?_) AllReadyJ.nil
      go_simp
      refine hK.out _ _ (fun h => absurd h (by decide)) ?_
      clear hK K
      try simp only [Act.put, List.setIfInBounds_toArray, List.set_cons_zero, List.set_cons_succ]
      refine wpAnyJ_done (by kernel_rfl) ?_ _
      refine NoPanic.normal ?_
      go_wp2_with fail
      go_end0
      have F := H.out.fin T10.out
      exact ⟨rfl, CV.out _ ⟨_, _, F.1, T10.out.2.2.2.1, T10.out.2.2.2.2.1, F.2⟩⟩
    refine AllReadyJ.cons (o := oIA14) rfl (fun K hK => ?_) AllReadyJ.nil
    go_simp
    refine hK.out _ _ (fun _ h => h) ?_
    clear hK K
    try simp only [Act.put, List.setIfInBounds_toArray, List.set_cons_zero, List.set_cons_succ]
    refine wpAnyJ_ready (rs := [8, 14]) (by kernel_rfl) (by simp) ?_
    refine AllReadyJ.cons (o := oIA13) rfl (fun K hK => ?_) ?_
    · refine step_append_lies _ rfl (.tmp 20) (.tmp 22) 45 rfl 0 3 i3 (.int .i64 0) 1 8 Tryz.underlying45 hi3 hx0 hx1 hx2 rfl (by decide) (.slice aog gs.length cg) gs.length (ic gs) (by simp [Act.eval]) (T0.out.alloc _).1 ⟨w1.heap.size, 0, none⟩ 1 1 [.int .i64 (x : Int)] (by simp [Act.eval]) rfl (by intro j u hj; match j, hj with | 0, hj => simp at hj; subst hj; simp [Addr.add]) (by intro u hu; simp at hu; subst hu; rfl) (by omega) (by unfold maxLen; omega) (by omega) (Nat.zero_le _) _ rfl ?_; intro g9 c9 w9 ho9 hg9 ha9 _
      have T9 := hide ((T0.out.alloc _).growG (x := x) ho9 hg9 ha9)
      clear ho9 hg9 ha9
      refine hK.out _ _ (fun _ _ => (mid_cells (H.out.mid T9.out)).1) ?_
      clear hK K
      try simp only [Act.put, List.setIfInBounds_toArray, List.set_cons_zero, List.set_cons_succ]
      refine wpAnyJ_ready (rs := [14]) (by kernel_rfl) (by simp) ?_
      refine AllReadyJ.cons (o := oIA15) rfl (fun K hK => ?_) AllReadyJ.nil
      go_simp
      refine hK.out _ _ (fun _ _ => (mid_cells (H.out.mid (T9.out.alloc _))).1) ?_
      clear hK K
      try simp only [Act.put, List.setIfInBounds_toArray, List.set_cons_zero, List.set_cons_succ]
      refine wpAnyJ_ready (rs := [15]) (by kernel_rfl) (by simp) ?_
      refine AllReadyJ.cons (o := oIA16) rfl (fun K hK => ?_) AllReadyJ.nil
      refine step_append_lies _ rfl (.tmp 27) (.tmp 29) 39 rfl 0 29 i41 (.agg #[.int .i64 0, .int .i64 0]) 2 16 Tryz.underlying39 hi41 hy0 hy1 hy2 rfl (by decide) (.slice aol lv.length cl) lv.length (ec lv) (by simp [Act.eval]) (T9.out.alloc _).2.1 ⟨w9.heap.size, 0, none⟩ 1 1 [.int .i64 (gs.length : Int), .int .i64 (x : Int)] (by simp [Act.eval]) rfl (by intro j u hj; match j, hj with | 0, hj => simp at hj; subst hj; simp [Addr.add] | 1, hj => simp at hj; subst hj; simp [Addr.add]) (by intro u hu; simp at hu; rcases hu with rfl | rfl <;> rfl) (by omega) (by unfold maxLen; omega) (by omega) (Nat.zero_le _) _ rfl ?_; intro g8 c8 w8 ho8 hg8 ha8 _
      have T10 := hide ((T9.out.alloc _).growL (a := gs.length) (b := x) ho8 hg8 ha8)
      clear ho8 hg8 ha8
      refine hK.out _ _ (fun _ _ => (mid_cells (H.out.mid T10.out)).1) ?_
      clear hK K
      obtain ⟨⟨d1, d2⟩, y1, y2⟩ := mid_cells (H.out.mid T10.out)
      try simp only [Act.put, List.setIfInBounds_toArray, List.set_cons_zero, List.set_cons_succ]
      refine' wpAnyJ_takeW (i := 16) (oi := oIA17) (v := _) rfl (by kernel_rfl) (by kernel_rfl) (by kernel_rfl) (fun _ _ _ h => h) (Or.inl ⟨by rfl, ?hyA16⟩) ?reA16
      case hyA16 => (intro W hSw; (try dsimp only at hSw); go_simp; try with_reducible rfl)
      try simp only [Act.put, List.setIfInBounds_toArray, List.set_cons_zero, List.set_cons_succ]
      refine' wpAnyJ_takeW (i := 17) (oi := oIA18) (v := _) rfl (by kernel_rfl) (by kernel_rfl) (by kernel_rfl) (fun _ _ _ h => h) (Or.inl ⟨by rfl, ?hyA17⟩) ?reA17
      case hyA17 => (intro W hSw; (try dsimp only at hSw); go_simp; try with_reducible rfl)
      try simp only [Act.put, List.setIfInBounds_toArray, List.set_cons_zero, List.set_cons_succ]
      refine wpAnyJ_ready (rs := [18]) (by kernel_rfl) (by simp) ?_
      refine AllReadyJ.cons (o := oIA19) rfl (fun K hK => ?_) AllReadyJ.nil
      go_simp
      refine hK.out _ _ (fun h => absurd h (by decide)) ?_
      clear hK K
      try simp only [Act.put, List.setIfInBounds_toArray, List.set_cons_zero, List.set_cons_succ]
      refine' wpAnyJ_takeW (i := 19) (oi := oIA20) (v := _) rfl (by kernel_rfl) (by kernel_rfl) (by kernel_rfl) (fun _ _ _ h => h) (Or.inl ⟨by rfl, ?hyA18⟩) ?reA18
      case hyA18 => (intro W hSw; (try dsimp only at hSw); go_simp; try with_reducible rfl)
      try simp only [Act.put, List.setIfInBounds_toArray, List.set_cons_zero, List.set_cons_succ]
      refine' wpAnyJ_takeW (i := 20) (oi := oIA21) (v := _) rfl (by kernel_rfl) (by kernel_rfl) (by kernel_rfl) (fun _ _ _ h => h) (Or.inl ⟨by rfl, ?hyA19⟩) ?reA19
      case hyA19 => (intro W hSw; (try dsimp only at hSw); go_simp; try with_reducible rfl)
      try simp only [Act.put, List.setIfInBounds_toArray, List.set_cons_zero, List.set_cons_succ]
      refine wpAnyJ_ready (rs := [21]) (by kernel_rfl) (by simp) ?_
      refine AllReadyJ.cons (o := oIA22) rfl (fun K hK => ?_) AllReadyJ.nil
      go_simp
      refine hK.out _ _ (fun h => absurd h (by decide)) ?_
      clear hK K
      try simp only [Act.put, List.setIfInBounds_toArray, List.set_cons_zero, List.set_cons_succ]
      refine wpAnyJ_done (by kernel_rfl) ?_ _
      refine NoPanic.normal ?_
      go_wp2_with fail
      go_end0
      have F := H.out.fin T10.out
      exact ⟨rfl, CV.out _ ⟨_, _, F.1, T10.out.2.2.2.1, T10.out.2.2.2.2.1, F.2⟩⟩
    refine AllReadyJ.cons (o := oIA15) rfl (fun K hK => ?_) AllReadyJ.nil
    go_simp
    refine hK.out _ _ (fun _ _ => (mid_cells (H.out.mid ((T0.out.alloc _).alloc _))).1) ?_
    clear hK K
    try simp only [Act.put, List.setIfInBounds_toArray, List.set_cons_zero, List.set_cons_succ]
    refine wpAnyJ_ready (rs := [8]) (by kernel_rfl) (by simp) ?_
    refine AllReadyJ.cons (o := oIA13) rfl (fun K hK => ?_) AllReadyJ.nil
    refine step_append_lies _ rfl (.tmp 20) (.tmp 22) 45 rfl 0 3 i3 (.int .i64 0) 1 8 Tryz.underlying45 hi3 hx0 hx1 hx2 rfl (by decide) (.slice aog gs.length cg) gs.length (ic gs) (by simp [Act.eval]) ((T0.out.alloc _).alloc _).1 ⟨w1.heap.size, 0, none⟩ 1 1 [.int .i64 (x : Int)] (by simp [Act.eval]) rfl (by intro j u hj; match j, hj with | 0, hj => simp at hj; subst hj; simp [Addr.add]) (by intro u hu; simp at hu; subst hu; rfl) (by omega) (by unfold maxLen; omega) (by omega) (Nat.zero_le _) _ rfl ?_; intro g9 c9 w9 ho9 hg9 ha9 _
    have T9 := hide (((T0.out.alloc _).alloc _).growG (x := x) ho9 hg9 ha9)
    have s0 : w9.cell? ⟨w1.heap.size + 1, 0, none⟩ = some (.int .i64 (gs.length : Int)) := hg9.cell (by simp) (fun e => by have := (HGL.out _ e.symm).2; first | omega | (simp at this <;> omega))
    have s1 : w9.cell? ⟨w1.heap.size + 1, 1, none⟩ = some (.int .i64 (x : Int)) := hg9.cell (by simp) (fun e => by have := (HGL.out _ e.symm).2; first | omega | (simp at this <;> omega))
    clear ho9 hg9 ha9
    refine hK.out _ _ (fun _ _ => (mid_cells (H.out.mid T9.out)).1) ?_
    clear hK K
    try simp only [Act.put, List.setIfInBounds_toArray, List.set_cons_zero, List.set_cons_succ]
    refine wpAnyJ_ready (rs := [15]) (by kernel_rfl) (by simp) ?_
    refine AllReadyJ.cons (o := oIA16) rfl (fun K hK => ?_) AllReadyJ.nil
    refine step_append_lies _ rfl (.tmp 27) (.tmp 29) 39 rfl 0 29 i41 (.agg #[.int .i64 0, .int .i64 0]) 2 16 Tryz.underlying39 hi41 hy0 hy1 hy2 rfl (by decide) (.slice aol lv.length cl) lv.length (ec lv) (by simp [Act.eval]) T9.out.2.1 ⟨w1.heap.size + 1, 0, none⟩ 1 1 [.int .i64 (gs.length : Int), .int .i64 (x : Int)] (by simp [Act.eval]) rfl (by intro j u hj; match j, hj with | 0, hj => simp at hj; subst hj; simpa [Addr.add] using s0 | 1, hj => simp at hj; subst hj; simpa [Addr.add] using s1) (by intro u hu; simp at hu; rcases hu with rfl | rfl <;> rfl) (by omega) (by unfold maxLen; omega) (by omega) (Nat.zero_le _) _ rfl ?_; intro g8 c8 w8 ho8 hg8 ha8 _
    have T10 := hide (T9.out.growL (a := gs.length) (b := x) ho8 hg8 ha8)
    clear ho8 hg8 ha8
    refine hK.out _ _ (fun _ _ => (mid_cells (H.out.mid T10.out)).1) ?_
    clear hK K
    obtain ⟨⟨d1, d2⟩, y1, y2⟩ := mid_cells (H.out.mid T10.out)
    try simp only [Act.put, List.setIfInBounds_toArray, List.set_cons_zero, List.set_cons_succ]
    refine' wpAnyJ_takeW (i := 16) (oi := oIA17) (v := _) rfl (by kernel_rfl) (by kernel_rfl) (by kernel_rfl) (fun _ _ _ h => h) (Or.inl ⟨by rfl, ?hyA20⟩) ?reA20
    case hyA20 => (intro W hSw; (try dsimp only at hSw); go_simp; try with_reducible rfl)
    try simp only [Act.put, List.setIfInBounds_toArray, List.set_cons_zero, List.set_cons_succ]
    refine' wpAnyJ_takeW (i := 17) (oi := oIA18) (v := _) rfl (by kernel_rfl) (by kernel_rfl) (by kernel_rfl) (fun _ _ _ h => h) (Or.inl ⟨by rfl, ?hyA21⟩) ?reA21
    case hyA21 => (intro W hSw; (try dsimp only at hSw); go_simp; try with_reducible rfl)
    try simp only [Act.put, List.setIfInBounds_toArray, List.set_cons_zero, List.set_cons_succ]
    refine wpAnyJ_ready (rs := [18]) (by kernel_rfl) (by simp) ?_
    refine AllReadyJ.cons (o := oIA19) rfl (fun K hK => ?_) AllReadyJ.nil
    go_simp
    refine hK.out _ _ (fun h => absurd h (by decide)) ?_
    clear hK K
    try simp only [Act.put, List.setIfInBounds_toArray, List.set_cons_zero, List.set_cons_succ]
    refine' wpAnyJ_takeW (i := 19) (oi := oIA20) (v := _) rfl (by kernel_rfl) (by kernel_rfl) (by kernel_rfl) (fun _ _ _ h => h) (Or.inl ⟨by rfl, ?hyA22⟩) ?reA22
    case hyA22 => (intro W hSw; (try dsimp only at hSw); go_simp; try with_reducible rfl)
    try simp only [Act.put, List.setIfInBounds_toArray, List.set_cons_zero, List.set_cons_succ]
    refine' wpAnyJ_takeW (i := 20) (oi := oIA21) (v := _) rfl (by kernel_rfl) (by kernel_rfl) (by kernel_rfl) (fun _ _ _ h => h) (Or.inl ⟨by rfl, ?hyA23⟩) ?reA23
    case hyA23 => (intro W hSw; (try dsimp only at hSw); go_simp; try with_reducible rfl)
    try simp only [Act.put, List.setIfInBounds_toArray, List.set_cons_zero, List.set_cons_succ]
    refine wpAnyJ_ready (rs := [21]) (by kernel_rfl) (by simp) ?_
    refine AllReadyJ.cons (o := oIA22) rfl (fun K hK => ?_) AllReadyJ.nil
    go_simp
    refine hK.out _ _ (fun h => absurd h (by decide)) ?_
    clear hK K
    try simp only [Act.put, List.setIfInBounds_toArray, List.set_cons_zero, List.set_cons_succ]
    refine wpAnyJ_done (by kernel_rfl) ?_ _
    refine NoPanic.normal ?_
    go_wp2_with fail
    go_end0
    have F := H.out.fin T10.out
    exact ⟨rfl, CV.out _ ⟨_, _, F.1, T10.out.2.2.2.1, T10.out.2.2.2.2.1, F.2⟩⟩
  refine AllReadyJ.cons (o := oIA14) rfl (fun K hK => ?_) AllReadyJ.nil
  obtain ⟨q0, q1⟩ := WH.out _ T0.out.2.2.2.2.2
  go_simp
  refine hK.out _ _ (fun _ h => h) ?_
  clear hK K q0 q1
  try simp only [Act.put, List.setIfInBounds_toArray, List.set_cons_zero, List.set_cons_succ]
  refine wpAnyJ_ready (rs := [7, 14]) (by kernel_rfl) (by simp) ?_
  refine AllReadyJ.cons (o := oIA12) rfl (fun K hK => ?_) ?_
  · go_simp
    refine hK.out _ _ (fun _ _ => (mid_cells (H.out.mid (T0.out.alloc _))).1) ?_
    clear hK K
    try simp only [Act.put, List.setIfInBounds_toArray, List.set_cons_zero, List.set_cons_succ]
    refine wpAnyJ_ready (rs := [8, 14]) (by kernel_rfl) (by simp) ?_
    refine AllReadyJ.cons (o := oIA13) rfl (fun K hK => ?_) ?_
    · refine step_append_lies _ rfl (.tmp 20) (.tmp 22) 45 rfl 0 3 i3 (.int .i64 0) 1 8 Tryz.underlying45 hi3 hx0 hx1 hx2 rfl (by decide) (.slice aog gs.length cg) gs.length (ic gs) (by simp [Act.eval]) (T0.out.alloc _).1 ⟨w1.heap.size, 0, none⟩ 1 1 [.int .i64 (x : Int)] (by simp [Act.eval]) rfl (by intro j u hj; match j, hj with | 0, hj => simp at hj; subst hj; simp [Addr.add]) (by intro u hu; simp at hu; subst hu; rfl) (by omega) (by unfold maxLen; omega) (by omega) (Nat.zero_le _) _ rfl ?_; intro g9 c9 w9 ho9 hg9 ha9 _
      have T9 := hide ((T0.out.alloc _).growG (x := x) ho9 hg9 ha9)
      clear ho9 hg9 ha9
      refine hK.out _ _ (fun _ _ => (mid_cells (H.out.mid T9.out)).1) ?_
      clear hK K
      try simp only [Act.put, List.setIfInBounds_toArray, List.set_cons_zero, List.set_cons_succ]
      refine wpAnyJ_ready (rs := [14]) (by kernel_rfl) (by simp) ?_
      refine AllReadyJ.cons (o := oIA15) rfl (fun K hK => ?_) AllReadyJ.nil
      go_simp
      refine hK.out _ _ (fun _ _ => (mid_cells (H.out.mid (T9.out.alloc _))).1) ?_
      clear hK K
      try simp only [Act.put, List.setIfInBounds_toArray, List.set_cons_zero, List.set_cons_succ]
      refine wpAnyJ_ready (rs := [15]) (by kernel_rfl) (by simp) ?_
      refine AllReadyJ.cons (o := oIA16) rfl (fun K hK => ?_) AllReadyJ.nil
      refine step_append_lies _ rfl (.tmp 27) (.tmp 29) 39 rfl 0 29 i41 (.agg #[.int .i64 0, .int .i64 0]) 2 16 Tryz.underlying39 hi41 hy0 hy1 hy2 rfl (by decide) (.slice aol lv.length cl) lv.length (ec lv) (by simp [Act.eval]) (T9.out.alloc _).2.1 ⟨w9.heap.size, 0, none⟩ 1 1 [.int .i64 (gs.length : Int), .int .i64 (x : Int)] (by simp [Act.eval]) rfl (by intro j u hj; match j, hj with | 0, hj => simp at hj; subst hj; simp [Addr.add] | 1, hj => simp at hj; subst hj; simp [Addr.add]) (by intro u hu; simp at hu; rcases hu with rfl | rfl <;> rfl) (by omega) (by unfold maxLen; omega) (by omega) (Nat.zero_le _) _ rfl ?_; intro g8 c8 w8 ho8 hg8 ha8 _
      have T10 := hide ((T9.out.alloc _).growL (a := gs.length) (b := x) ho8 hg8 ha8)
      clear ho8 hg8 ha8
      refine hK.out _ _ (fun _ _ => (mid_cells (H.out.mid T10.out)).1) ?_
      clear hK K
      obtain ⟨⟨d1, d2⟩, y1, y2⟩ := mid_cells (H.out.mid T10.out)
      try simp only [Act.put, List.setIfInBounds_toArray, List.set_cons_zero, List.set_cons_succ]
      refine' wpAnyJ_takeW (i := 16) (oi := oIA17) (v := _) rfl (by kernel_rfl) (by kernel_rfl) (by kernel_rfl) (fun _ _ _ h => h) (Or.inl ⟨by rfl, ?hyA24⟩) ?reA24
      case hyA24 => (intro W hSw; (try dsimp only at hSw); go_simp; try with_reducible rfl)
      try simp only [Act.put, List.setIfInBounds_toArray, List.set_cons_zero, List.set_cons_succ]
      refine' wpAnyJ_takeW (i := 17) (oi := oIA18) (v := _) rfl (by kernel_rfl) (by kernel_rfl) (by kernel_rfl) (fun _ _ _ h => h) (Or.inl ⟨by rfl, ?hyA25⟩) ?reA25
      case hyA25 => (intro W hSw; (try dsimp only at hSw); go_simp; try with_reducible rfl)
      try simp only [Act.put, List.setIfInBounds_toArray, List.set_cons_zero, List.set_cons_succ]
      refine wpAnyJ_ready (rs := [18]) (by kernel_rfl) (by simp) ?_
      refine AllReadyJ.cons (o := oIA19) rfl (fun K hK => ?_) AllReadyJ.nil
      go_simp
      refine hK.out _ _ (fun h => absurd h (by decide)) ?_
      clear hK K
      try simp only [Act.put, List.setIfInBounds_toArray, List.set_cons_zero, List.set_cons_succ]
      refine' wpAnyJ_takeW (i := 19) (oi := oIA20) (v := _) rfl (by kernel_rfl) (by kernel_rfl) (by kernel_rfl) (fun _ _ _ h => h) (Or.inl ⟨by rfl, ?hyA26⟩) ?reA26
      case hyA26 => (intro W hSw; (try dsimp only at hSw); go_simp; try with_reducible rfl)
      try simp only [Act.put, List.setIfInBounds_toArray, List.set_cons_zero, List.set_cons_succ]
      refine' wpAnyJ_takeW (i := 20) (oi := oIA21) (v := _) rfl (by kernel_rfl) (by kernel_rfl) (by kernel_rfl) (fun _ _ _ h => h) (Or.inl ⟨by rfl, ?hyA27⟩) ?reA27
      case hyA27 => (intro W hSw; (try dsimp only at hSw); go_simp; try with_reducible rfl)
      try simp only [Act.put, List.setIfInBounds_toArray, List.set_cons_zero, List.set_cons_succ]
      refine wpAnyJ_ready (rs := [21]) (by kernel_rfl) (by simp) ?_
      refine AllReadyJ.cons (o := oIA22) rfl (fun K hK => ?_) AllReadyJ.nil
      go_simp
      refine hK.out _ _ (fun h => absurd h (by decide)) ?_
      clear hK K
      try simp only [Act.put, List.setIfInBounds_toArray, List.set_cons_zero, List.set_cons_succ]
      refine wpAnyJ_done (by kernel_rfl) ?_ _
      refine NoPanic.normal ?_
      go_wp2_with fail
      go_end0
      have F := H.out.fin T10.out
      exact ⟨rfl, CV.out _ ⟨_, _, F.1, T10.out.2.2.2.1, T10.out.2.2.2.2.1, F.2⟩⟩
    refine AllReadyJ.cons (o := oIA15) rfl (fun K hK => ?_) AllReadyJ.nil
    go_simp
    refine hK.out _ _ (fun _ _ => (mid_cells (H.out.mid ((T0.out.alloc _).alloc _))).1) ?_
    clear hK K
    try simp only [Act.put, List.setIfInBounds_toArray, List.set_cons_zero, List.set_cons_succ]
    refine wpAnyJ_ready (rs := [8]) (by kernel_rfl) (by simp) ?_
    refine AllReadyJ.cons (o := oIA13) rfl (fun K hK => ?_) AllReadyJ.nil
    refine step_append_lies _ rfl (.tmp 20) (.tmp 22) 45 rfl 0 3 i3 (.int .i64 0) 1 8 Tryz.underlying45 hi3 hx0 hx1 hx2 rfl (by decide) (.slice aog gs.length cg) gs.length (ic gs) (by simp [Act.eval]) ((T0.out.alloc _).alloc _).1 ⟨w1.heap.size, 0, none⟩ 1 1 [.int .i64 (x : Int)] (by simp [Act.eval]) rfl (by intro j u hj; match j, hj with | 0, hj => simp at hj; subst hj; simp [Addr.add]) (by intro u hu; simp at hu; subst hu; rfl) (by omega) (by unfold maxLen; omega) (by omega) (Nat.zero_le _) _ rfl ?_; intro g9 c9 w9 ho9 hg9 ha9 _
    have T9 := hide (((T0.out.alloc _).alloc _).growG (x := x) ho9 hg9 ha9)
    have s0 : w9.cell? ⟨w1.heap.size + 1, 0, none⟩ = some (.int .i64 (gs.length : Int)) := hg9.cell (by simp) (fun e => by have := (HGL.out _ e.symm).2; first | omega | (simp at this <;> omega))
    have s1 : w9.cell? ⟨w1.heap.size + 1, 1, none⟩ = some (.int .i64 (x : Int)) := hg9.cell (by simp) (fun e => by have := (HGL.out _ e.symm).2; first | omega | (simp at this <;> omega))
    clear ho9 hg9 ha9
    refine hK.out _ _ (fun _ _ => (mid_cells (H.out.mid T9.out)).1) ?_
    clear hK K
    try simp only [Act.put, List.setIfInBounds_toArray, List.set_cons_zero, List.set_cons_succ]
    refine wpAnyJ_ready (rs := [15]) (by kernel_rfl) (by simp) ?_
    refine AllReadyJ.cons (o := oIA16) rfl (fun K hK => ?_) AllReadyJ.nil
    refine step_append_lies _ rfl (.tmp 27) (.tmp 29) 39 rfl 0 29 i41 (.agg #[.int .i64 0, .int .i64 0]) 2 16 Tryz.underlying39 hi41 hy0 hy1 hy2 rfl (by decide) (.slice aol lv.length cl) lv.length (ec lv) (by simp [Act.eval]) T9.out.2.1 ⟨w1.heap.size + 1, 0, none⟩ 1 1 [.int .i64 (gs.length : Int), .int .i64 (x : Int)] (by simp [Act.eval]) rfl (by intro j u hj; match j, hj with | 0, hj => simp at hj; subst hj; simpa [Addr.add] using s0 | 1, hj => simp at hj; subst hj; simpa [Addr.add] using s1) (by intro u hu; simp at hu; rcases hu with rfl | rfl <;> rfl) (by omega) (by unfold maxLen; omega) (by omega) (Nat.zero_le _) _ rfl ?_; intro g8 c8 w8 ho8 hg8 ha8 _
    have T10 := hide (T9.out.growL (a := gs.length) (b := x) ho8 hg8 ha8)
    clear ho8 hg8 ha8
    refine hK.out _ _ (fun _ _ => (mid_cells (H.out.mid T10.out)).1) ?_
    clear hK K
    obtain ⟨⟨d1, d2⟩, y1, y2⟩ := mid_cells (H.out.mid T10.out)
    try simp only [Act.put, List.setIfInBounds_toArray, List.set_cons_zero, List.set_cons_succ]
    refine' wpAnyJ_takeW (i := 16) (oi := oIA17) (v := _) rfl (by kernel_rfl) (by kernel_rfl) (by kernel_rfl) (fun _ _ _ h => h) (Or.inl ⟨by rfl, ?hyA28⟩) ?reA28
    case hyA28 => (intro W hSw; (try dsimp only at hSw); go_simp; try with_reducible rfl)
    try simp only [Act.put, List.setIfInBounds_toArray, List.set_cons_zero, List.set_cons_succ]
    refine' wpAnyJ_takeW (i := 17) (oi := oIA18) (v := _) rfl (by kernel_rfl) (by kernel_rfl) (by kernel_rfl) (fun _ _ _ h => h) (Or.inl ⟨by rfl, ?hyA29⟩) ?reA29
    case hyA29 => (intro W hSw; (try dsimp only at hSw); go_simp; try with_reducible rfl)
    try simp only [Act.put, List.setIfInBounds_toArray, List.set_cons_zero, List.set_cons_succ]
    refine wpAnyJ_ready (rs := [18]) (by kernel_rfl) (by simp) ?_
    refine AllReadyJ.cons (o := oIA19) rfl (fun K hK => ?_) AllReadyJ.nil
    go_simp
    refine hK.out _ _ (fun h => absurd h (by decide)) ?_
    clear hK K
    try simp only [Act.put, List.setIfInBounds_toArray, List.set_cons_zero, List.set_cons_succ]
    refine' wpAnyJ_takeW (i := 19) (oi := oIA20) (v := _) rfl (by kernel_rfl) (by kernel_rfl) (by kernel_rfl) (fun _ _ _ h => h) (Or.inl ⟨by rfl, ?hyA30⟩) ?reA30
    case hyA30 => (intro W hSw; (try dsimp only at hSw); go_simp; try with_reducible rfl)
    try simp only [Act.put, List.setIfInBounds_toArray, List.set_cons_zero, List.set_cons_succ]
    refine' wpAnyJ_takeW (i := 20) (oi := oIA21) (v := _) rfl (by kernel_rfl) (by kernel_rfl) (by kernel_rfl) (fun _ _ _ h => h) (Or.inl ⟨by rfl, ?hyA31⟩) ?reA31
    case hyA31 => (intro W hSw; (try dsimp only at hSw); go_simp; try with_reducible rfl)
    try simp only [Act.put, List.setIfInBounds_toArray, List.set_cons_zero, List.set_cons_succ]
    refine wpAnyJ_ready (rs := [21]) (by kernel_rfl) (by simp) ?_
    refine AllReadyJ.cons (o := oIA22) rfl (fun K hK => ?_) AllReadyJ.nil
    go_simp
    refine hK.out _ _ (fun h => absurd h (by decide)) ?_
    clear hK K
    try simp only [Act.put, List.setIfInBounds_toArray, List.set_cons_zero, List.set_cons_succ]
    refine wpAnyJ_done (by kernel_rfl) ?_ _
    refine NoPanic.normal ?_
    go_wp2_with fail
    go_end0
    have F := H.out.fin T10.out
    exact ⟨rfl, CV.out _ ⟨_, _, F.1, T10.out.2.2.2.1, T10.out.2.2.2.2.1, F.2⟩⟩
  refine AllReadyJ.cons (o := oIA15) rfl (fun K hK => ?_) AllReadyJ.nil
  go_simp
  refine hK.out _ _ (fun _ _ => (mid_cells (H.out.mid (T0.out.alloc _))).1) ?_
  clear hK K
  try simp only [Act.put, List.setIfInBounds_toArray, List.set_cons_zero, List.set_cons_succ]
  refine wpAnyJ_ready (rs := [7]) (by kernel_rfl) (by simp) ?_
  refine AllReadyJ.cons (o := oIA12) rfl (fun K hK => ?_) AllReadyJ.nil
  go_simp
  refine hK.out _ _ (fun _ _ => (mid_cells (H.out.mid ((T0.out.alloc _).alloc _))).1) ?_
  clear hK K
  try simp only [Act.put, List.setIfInBounds_toArray, List.set_cons_zero, List.set_cons_succ]
  refine wpAnyJ_ready (rs := [8]) (by kernel_rfl) (by simp) ?_
  refine AllReadyJ.cons (o := oIA13) rfl (fun K hK => ?_) AllReadyJ.nil
  refine step_append_lies _ rfl (.tmp 20) (.tmp 22) 45 rfl 0 3 i3 (.int .i64 0) 1 8 Tryz.underlying45 hi3 hx0 hx1 hx2 rfl (by decide) (.slice aog gs.length cg) gs.length (ic gs) (by simp [Act.eval]) ((T0.out.alloc _).alloc _).1 ⟨w1.heap.size + 1, 0, none⟩ 1 1 [.int .i64 (x : Int)] (by simp [Act.eval]) rfl (by intro j u hj; match j, hj with | 0, hj => simp at hj; subst hj; simp [Addr.add]) (by intro u hu; simp at hu; subst hu; rfl) (by omega) (by unfold maxLen; omega) (by omega) (Nat.zero_le _) _ rfl ?_; intro g9 c9 w9 ho9 hg9 ha9 _
  have T9 := hide (((T0.out.alloc _).alloc _).growG (x := x) ho9 hg9 ha9)
  have s0 : w9.cell? ⟨w1.heap.size, 0, none⟩ = some (.int .i64 (gs.length : Int)) := hg9.cell (by simp) (fun e => by have := (HGL.out _ e.symm).2; first | omega | (simp at this <;> omega))
  have s1 : w9.cell? ⟨w1.heap.size, 1, none⟩ = some (.int .i64 (x : Int)) := hg9.cell (by simp) (fun e => by have := (HGL.out _ e.symm).2; first | omega | (simp at this <;> omega))
  clear ho9 hg9 ha9
  refine hK.out _ _ (fun _ _ => (mid_cells (H.out.mid T9.out)).1) ?_
  clear hK K
  try simp only [Act.put, List.setIfInBounds_toArray, List.set_cons_zero, List.set_cons_succ]
  refine wpAnyJ_ready (rs := [15]) (by kernel_rfl) (by simp) ?_
  refine AllReadyJ.cons (o := oIA16) rfl (fun K hK => ?_) AllReadyJ.nil
  refine step_append_lies _ rfl (.tmp 27) (.tmp 29) 39 rfl 0 29 i41 (.agg #[.int .i64 0, .int .i64 0]) 2 16 Tryz.underlying39 hi41 hy0 hy1 hy2 rfl (by decide) (.slice aol lv.length cl) lv.length (ec lv) (by simp [Act.eval]) T9.out.2.1 ⟨w1.heap.size, 0, none⟩ 1 1 [.int .i64 (gs.length : Int), .int .i64 (x : Int)] (by simp [Act.eval]) rfl (by intro j u hj; match j, hj with | 0, hj => simp at hj; subst hj; simpa [Addr.add] using s0 | 1, hj => simp at hj; subst hj; simpa [Addr.add] using s1) (by intro u hu; simp at hu; rcases hu with rfl | rfl <;> rfl) (by omega) (by unfold maxLen; omega) (by omega) (Nat.zero_le _) _ rfl ?_; intro g8 c8 w8 ho8 hg8 ha8 _
  have T10 := hide (T9.out.growL (a := gs.length) (b := x) ho8 hg8 ha8)
  clear ho8 hg8 ha8
  refine hK.out _ _ (fun _ _ => (mid_cells (H.out.mid T10.out)).1) ?_
  clear hK K
  obtain ⟨⟨d1, d2⟩, y1, y2⟩ := mid_cells (H.out.mid T10.out)
  try simp only [Act.put, List.setIfInBounds_toArray, List.set_cons_zero, List.set_cons_succ]
  refine' wpAnyJ_takeW (i := 16) (oi := oIA17) (v := _) rfl (by kernel_rfl) (by kernel_rfl) (by kernel_rfl) (fun _ _ _ h => h) (Or.inl ⟨by rfl, ?hyA32⟩) ?reA32
  case hyA32 => (intro W hSw; (try dsimp only at hSw); go_simp; try with_reducible rfl)
  try simp only [Act.put, List.setIfInBounds_toArray, List.set_cons_zero, List.set_cons_succ]
  refine' wpAnyJ_takeW (i := 17) (oi := oIA18) (v := _) rfl (by kernel_rfl) (by kernel_rfl) (by kernel_rfl) (fun _ _ _ h => h) (Or.inl ⟨by rfl, ?hyA33⟩) ?reA33
  case hyA33 => (intro W hSw; (try dsimp only at hSw); go_simp; try with_reducible rfl)
  try simp only [Act.put, List.setIfInBounds_toArray, List.set_cons_zero, List.set_cons_succ]
  refine wpAnyJ_ready (rs := [18]) (by kernel_rfl) (by simp) ?_
  refine AllReadyJ.cons (o := oIA19) rfl (fun K hK => ?_) AllReadyJ.nil
  go_simp
  refine hK.out _ _ (fun h => absurd h (by decide)) ?_
  clear hK K
  try simp only [Act.put, List.setIfInBounds_toArray, List.set_cons_zero, List.set_cons_succ]
  refine' wpAnyJ_takeW (i := 19) (oi := oIA20) (v := _) rfl (by kernel_rfl) (by kernel_rfl) (by kernel_rfl) (fun _ _ _ h => h) (Or.inl ⟨by rfl, ?hyA34⟩) ?reA34
  case hyA34 => (intro W hSw; (try dsimp only at hSw); go_simp; try with_reducible rfl)
  try simp only [Act.put, List.setIfInBounds_toArray, List.set_cons_zero, List.set_cons_succ]
  refine' wpAnyJ_takeW (i := 20) (oi := oIA21) (v := _) rfl (by kernel_rfl) (by kernel_rfl) (by kernel_rfl) (fun _ _ _ h => h) (Or.inl ⟨by rfl, ?hyA35⟩) ?reA35
  case hyA35 => (intro W hSw; (try dsimp only at hSw); go_simp; try with_reducible rfl)
  try simp only [Act.put, List.setIfInBounds_toArray, List.set_cons_zero, List.set_cons_succ]
  refine wpAnyJ_ready (rs := [21]) (by kernel_rfl) (by simp) ?_
  refine AllReadyJ.cons (o := oIA22) rfl (fun K hK => ?_) AllReadyJ.nil
  go_simp
  refine hK.out _ _ (fun h => absurd h (by decide)) ?_
  clear hK K
  try simp only [Act.put, List.setIfInBounds_toArray, List.set_cons_zero, List.set_cons_succ]
  refine wpAnyJ_done (by kernel_rfl) ?_ _
  refine NoPanic.normal ?_
  go_wp2_with fail
  go_end0
  have F := H.out.fin T10.out
  exact ⟨rfl, CV.out _ ⟨_, _, F.1, T10.out.2.2.2.1, T10.out.2.2.2.2.1, F.2⟩⟩
set_option maxHeartbeats 8000000 in
set_option maxRecDepth 100000 in
theorem add_worn (g n x : Nat) (vg vl vf : Value) (gs fr : List Nat) (lv : List (Nat × Nat)) (w : World) (h : Pm w g n vg vl vf gs fr lv) (hx : x = 1000001) (hg : gs.length ≤ 1000000) (hl : lv.length ≤ 1000000) :
    Calls Tryz.prog 130 #[.pointer (some ⟨g, 0, none⟩), .int .i64 (x : Int)] w fun e w' => e = .returned (.tuple #[]) ∧ ∃ vg' vl', Pm w' g n vg' vl' vf (gs ++ [x]) fr (lv ++ [(0, 0)]) ∧ (∀ k, vg'.ownBlock = some k → vg.ownBlock = some k ∨ w.heap.size ≤ k) ∧ (∀ k, vl'.ownBlock = some k → vl.ownBlock = some k ∨ w.heap.size ≤ k) ∧ Mv w w' (fun k => k = g ∨ vg.ownBlock = some k ∨ vl.ownBlock = some k) := by
  obtain ⟨i3, hi3, hx0, hx1, hx2⟩ := info_parts info3
  obtain ⟨i41, hi41, hy0, hy1, hy2⟩ := info_parts info41
  obtain ⟨c0, c1, c2, c3⟩ := h.cell
  obtain ⟨aog, cg, rfl⟩ := own_len h.2.1
  obtain ⟨aol, cl, rfl⟩ := own_len h.2.2.1
  have t0 : ((x : Int) == 1000001) = true := by rw [hx]; rfl
  obtain ⟨w1, hw1⟩ : ∃ X, X = w.alloc (.cells #[.int .i64 0, .int .i64 0] 29) := ⟨_, rfl⟩
  have hbe : Below w.heap.size w w1 := hw1 ▸ below_alloc w _
  have h1 := h.later hbe
  have WH : Hid (∀ W, Mv w1 W (fun k => (Value.slice aog gs.length cg).ownBlock = some k ∨ (Value.slice aol lv.length cl).ownBlock = some k) → W.cell? ⟨w.heap.size, 0, none⟩ = some (.int .i64 0) ∧ W.cell? ⟨w.heap.size, 1, none⟩ = some (.int .i64 0)) := fun W hm => by
    have hn : ¬ ((Value.slice aog gs.length cg).ownBlock = some w.heap.size ∨ (Value.slice aol lv.length cl).ownBlock = some w.heap.size) := fun e => by
      rcases e with e | e
      · have := (h.2.1.lt _ e).2
        omega
      · have := (h.2.2.1.lt _ e).2
        omega
    exact ⟨hm.cell (by rw [hw1]; simp) hn, hm.cell (by rw [hw1]; simp) hn⟩
  have CV : Hid (∀ w' : World, (∃ vg' vl', Pm w' g n vg' vl' vf (gs ++ [x]) fr (lv ++ [(0, 0)]) ∧ (∀ k, vg'.ownBlock = some k → (Value.slice aog gs.length cg).ownBlock = some k ∨ w1.heap.size ≤ k) ∧ (∀ k, vl'.ownBlock = some k → (Value.slice aol lv.length cl).ownBlock = some k ∨ w1.heap.size ≤ k) ∧ Mv w1 w' (fun k => k = g ∨ (Value.slice aog gs.length cg).ownBlock = some k ∨ (Value.slice aol lv.length cl).ownBlock = some k)) → ∃ vg' vl', Pm w' g n vg' vl' vf (gs ++ [x]) fr (lv ++ [(0, 0)]) ∧ (∀ k, vg'.ownBlock = some k → (Value.slice aog gs.length cg).ownBlock = some k ∨ w.heap.size ≤ k) ∧ (∀ k, vl'.ownBlock = some k → (Value.slice aol lv.length cl).ownBlock = some k ∨ w.heap.size ≤ k) ∧ Mv w w' (fun k => k = g ∨ (Value.slice aog gs.length cg).ownBlock = some k ∨ (Value.slice aol lv.length cl).ownBlock = some k)) := fun w' ⟨vg', vl', p1, p2, p3, p4⟩ =>
    ⟨vg', vl', p1, fun k e => (p2 k e).imp id (fun h => Nat.le_trans hbe.size h), fun k e => (p3 k e).imp id (fun h => Nat.le_trans hbe.size h), (Mv.of_below hbe _).trans p4 (fun k _ e => e)⟩
  have u0 : ∀ o, (w1.alloc o).cell? ⟨w.heap.size, 0, none⟩ = some (.int .i64 0) := fun o => (WH.out _ (Mv.of_below (below_alloc w1 o) _)).1
  have u1 : ∀ o, (w1.alloc o).cell? ⟨w.heap.size, 1, none⟩ = some (.int .i64 0) := fun o => (WH.out _ (Mv.of_below (below_alloc w1 o) _)).2
  have T0 := hide (h1.two.later (below_drew w1))
  have HGL := hide h1.2.1.lt
  have H := hide h1
  clear h h1 hbe hx
  go_enter Tryz.func130, Tryz.ntmps130
  go_wp2_with fail
  skip
  rw [← hw1]
  clear hw1
  refine wp_region_noPanic ?_
  refine wp_region_late (J := fun i => i != 18 && i != 21) (S := fun W => W.cell? ⟨g, 1, none⟩ = some (.slice aog gs.length cg) ∧ W.cell? ⟨g, 2, none⟩ = some (.slice aol lv.length cl)) (by kernel_rfl) (mid_cells (H.out.mid T0.out)).1 (fun hHeld => ?_)
  refine' wpAnyJ_takeW (i := 0) (oi := oIA1) (v := _) rfl (by kernel_rfl) (by kernel_rfl) (by kernel_rfl) (fun _ _ _ h => h) (Or.inl ⟨by rfl, ?hyA1⟩) ?reA1
  case hyA1 => (intro W hSw; (try dsimp only at hSw); go_simp; try with_reducible rfl)
  try simp only [Act.put, List.setIfInBounds_toArray, List.set_cons_zero, List.set_cons_succ]
  refine' wpAnyJ_takeW (i := 1) (oi := oIA2) (v := _) rfl (by kernel_rfl) (by kernel_rfl) (by kernel_rfl) (fun _ _ _ h => h) (Or.inl ⟨by rfl, ?hyA2⟩) ?reA2
  case hyA2 => (intro W hSw; (try dsimp only at hSw); go_simp; try with_reducible rfl)
  try simp only [Act.put, List.setIfInBounds_toArray, List.set_cons_zero, List.set_cons_succ]
  refine' wpAnyJ_takeW (i := 2) (oi := oIA3) (v := _) rfl (by kernel_rfl) (by kernel_rfl) (by kernel_rfl) (fun _ _ _ h => h) (Or.inl ⟨by rfl, ?hyA3⟩) ?reA3
  case hyA3 => (intro W hSw; (try dsimp only at hSw); go_simp; try with_reducible rfl)
  try simp only [Act.put, List.setIfInBounds_toArray, List.set_cons_zero, List.set_cons_succ]
  refine' wpAnyJ_takeW (i := 3) (oi := oIA4) (v := _) rfl (by kernel_rfl) (by kernel_rfl) (by kernel_rfl) (fun _ _ _ h => h) (Or.inl ⟨by rfl, ?hyA4⟩) ?reA4
  case hyA4 => (intro W hSw; (try dsimp only at hSw); go_simp; try with_reducible rfl)
  try simp only [Act.put, List.setIfInBounds_toArray, List.set_cons_zero, List.set_cons_succ]
  refine' wpAnyJ_takeW (i := 4) (oi := oIA5) (v := _) rfl (by kernel_rfl) (by kernel_rfl) (by kernel_rfl) (fun _ _ _ h => h) (Or.inl ⟨by rfl, ?hyA5⟩) ?reA5
  case hyA5 => (intro W hSw; (try dsimp only at hSw); go_simp; try with_reducible rfl)
  try simp only [Act.put, List.setIfInBounds_toArray, List.set_cons_zero, List.set_cons_succ]
  refine' wpAnyJ_take (i := 5) (oi := oIA6) (v := _) rfl (by kernel_rfl) (by kernel_rfl) (by kernel_rfl) (by kernel_rfl) (fun _ _ _ h => h) (Or.inl ⟨by rfl, ?hyA6⟩) (by assumption) ?reA6
  case hyA6 => (intro W hSw; (try dsimp only at hSw); go_simp; try with_reducible rfl)
  try simp only [Act.put, List.setIfInBounds_toArray, List.set_cons_zero, List.set_cons_succ]
  refine' wpAnyJ_takeW (i := 6) (oi := oIA7) (v := _) rfl (by kernel_rfl) (by kernel_rfl) (by kernel_rfl) (fun _ _ _ h => h) (Or.inl ⟨by rfl, ?hyA7⟩) ?reA7
  case hyA7 => (intro W hSw; (try dsimp only at hSw); go_simp; try with_reducible rfl)
  try simp only [Act.put, List.setIfInBounds_toArray, List.set_cons_zero, List.set_cons_succ]
  refine' wpAnyJ_takeW (i := 9) (oi := oIA8) (v := _) rfl (by kernel_rfl) (by kernel_rfl) (by kernel_rfl) (fun _ _ _ h => h) (Or.inl ⟨by rfl, ?hyA8⟩) ?reA8
  case hyA8 => (intro W hSw; (try dsimp only at hSw); go_simp; try with_reducible rfl)
  try simp only [Act.put, List.setIfInBounds_toArray, List.set_cons_zero, List.set_cons_succ]
  refine' wpAnyJ_takeW (i := 10) (oi := oIA9) (v := _) rfl (by kernel_rfl) (by kernel_rfl) (by kernel_rfl) (fun _ _ _ h => h) (Or.inl ⟨by rfl, ?hyA9⟩) ?reA9
  case hyA9 => (intro W hSw; (try dsimp only at hSw); go_simp; try with_reducible rfl)
  try simp only [Act.put, List.setIfInBounds_toArray, List.set_cons_zero, List.set_cons_succ]
  refine' wpAnyJ_takeW (i := 11) (oi := oIA10) (v := _) rfl (by kernel_rfl) (by kernel_rfl) (by kernel_rfl) (fun _ _ _ h => h) (Or.inl ⟨by rfl, ?hyA10⟩) ?reA10
  case hyA10 => (intro W hSw; (try dsimp only at hSw); go_simp; try with_reducible rfl)
  try simp only [Act.put, List.setIfInBounds_toArray, List.set_cons_zero, List.set_cons_succ]
  refine' wpAnyJ_take (i := 12) (oi := oIA11) (v := _) rfl (by kernel_rfl) (by kernel_rfl) (by kernel_rfl) (by kernel_rfl) (fun _ _ _ h => h) (Or.inl ⟨by rfl, ?hyA11⟩) (by assumption) ?reA11
  case hyA11 => (intro W hSw; (try dsimp only at hSw); go_simp; try with_reducible rfl)
  try simp only [Act.put, List.setIfInBounds_toArray, List.set_cons_zero, List.set_cons_succ]
  refine wpAnyJ_ready (rs := [7, 13]) (by kernel_rfl) (by simp) ?_
  refine AllReadyJ.cons (o := oIA12) rfl (fun K hK => ?_) ?_
  · go_simp
    refine hK.out _ _ (fun _ _ => (mid_cells (H.out.mid (T0.out.alloc _))).1) ?_
    clear hK K
    try simp only [Act.put, List.setIfInBounds_toArray, List.set_cons_zero, List.set_cons_succ]
    refine wpAnyJ_ready (rs := [8, 13]) (by kernel_rfl) (by simp) ?_
    refine AllReadyJ.cons (o := oIA13) rfl (fun K hK => ?_) ?_
    · refine step_append_lies _ rfl (.tmp 20) (.tmp 22) 45 rfl 0 3 i3 (.int .i64 0) 1 8 Tryz.underlying45 hi3 hx0 hx1 hx2 rfl (by decide) (.slice aog gs.length cg) gs.length (ic gs) (by simp [Act.eval]) (T0.out.alloc _).1 ⟨w1.heap.size, 0, none⟩ 1 1 [.int .i64 (x : Int)] (by simp [Act.eval]) rfl (by intro j u hj; match j, hj with | 0, hj => simp at hj; subst hj; simp [Addr.add]) (by intro u hu; simp at hu; subst hu; rfl) (by omega) (by unfold maxLen; omega) (by omega) (Nat.zero_le _) _ rfl ?_; intro g9 c9 w9 ho9 hg9 ha9 _
      have T9 := hide ((T0.out.alloc _).growG (x := x) ho9 hg9 ha9)
      clear ho9 hg9 ha9
      refine hK.out _ _ (fun _ _ => (mid_cells (H.out.mid T9.out)).1) ?_
      clear hK K
      try simp only [Act.put, List.setIfInBounds_toArray, List.set_cons_zero, List.set_cons_succ]
      refine wpAnyJ_ready (rs := [13]) (by kernel_rfl) (by simp) ?_
      refine AllReadyJ.cons (o := oIA14) rfl (fun K hK => ?_) AllReadyJ.nil
      obtain ⟨q0, q1⟩ := WH.out _ T9.out.2.2.2.2.2
      go_simp
      refine hK.out _ _ (fun _ h => h) ?_
      clear hK K q0 q1
      try simp only [Act.put, List.setIfInBounds_toArray, List.set_cons_zero, List.set_cons_succ]
      refine wpAnyJ_ready (rs := [14]) (by kernel_rfl) (by simp) ?_
      refine AllReadyJ.cons (o := oIA15) rfl (fun K hK => ?_) AllReadyJ.nil
      go_simp
      refine hK.out _ _ (fun _ _ => (mid_cells (H.out.mid (T9.out.alloc _))).1) ?_
      clear hK K
      try simp only [Act.put, List.setIfInBounds_toArray, List.set_cons_zero, List.set_cons_succ]
      refine wpAnyJ_ready (rs := [15]) (by kernel_rfl) (by simp) ?_
      refine AllReadyJ.cons (o := oIA16) rfl (fun K hK => ?_) AllReadyJ.nil
      refine step_append_lies _ rfl (.tmp 27) (.tmp 29) 39 rfl 0 29 i41 (.agg #[.int .i64 0, .int .i64 0]) 2 16 Tryz.underlying39 hi41 hy0 hy1 hy2 rfl (by decide) (.slice aol lv.length cl) lv.length (ec lv) (by simp [Act.eval]) (T9.out.alloc _).2.1 ⟨w9.heap.size, 0, none⟩ 1 1 [.int .i64 0, .int .i64 0] (by simp [Act.eval]) rfl (by intro j u hj; match j, hj with | 0, hj => simp at hj; subst hj; simp [Addr.add] | 1, hj => simp at hj; subst hj; simp [Addr.add]) (by intro u hu; simp at hu; subst hu; rfl) (by omega) (by unfold maxLen; omega) (by omega) (Nat.zero_le _) _ rfl ?_; intro g8 c8 w8 ho8 hg8 ha8 _
      have T10 := hide ((T9.out.alloc _).growL (a := 0) (b := 0) ho8 hg8 ha8)
      clear ho8 hg8 ha8
      refine hK.out _ _ (fun _ _ => (mid_cells (H.out.mid T10.out)).1) ?_
      clear hK K
      obtain ⟨⟨d1, d2⟩, y1, y2⟩ := mid_cells (H.out.mid T10.out)
      try simp only [Act.put, List.setIfInBounds_toArray, List.set_cons_zero, List.set_cons_succ]
      refine' wpAnyJ_takeW (i := 16) (oi := oIA17) (v := _) rfl (by kernel_rfl) (by kernel_rfl) (by kernel_rfl) (fun _ _ _ h => h) (Or.inl ⟨by rfl, ?hyA12⟩) ?reA12
      case hyA12 => (intro W hSw; (try dsimp only at hSw); go_simp; try with_reducible rfl)
      try simp only [Act.put, List.setIfInBounds_toArray, List.set_cons_zero, List.set_cons_succ]
      refine' wpAnyJ_takeW (i := 17) (oi := oIA18) (v := _) rfl (by kernel_rfl) (by kernel_rfl) (by kernel_rfl) (fun _ _ _ h => h) (Or.inl ⟨by rfl, ?hyA13⟩) ?reA13
      case hyA13 => (intro W hSw; (try dsimp only at hSw); go_simp; try with_reducible rfl)
      try simp only [Act.put, List.setIfInBounds_toArray, List.set_cons_zero, List.set_cons_succ]
      refine wpAnyJ_ready (rs := [18]) (by kernel_rfl) (by simp) ?_
      refine AllReadyJ.cons (o := oIA19) rfl (fun K hK => ?_) AllReadyJ.nil
      go_simp
      refine hK.out _ _ (fun h => absurd h (by decide)) ?_
      clear hK K
      try simp only [Act.put, List.setIfInBounds_toArray, List.set_cons_zero, List.set_cons_succ]
      refine' wpAnyJ_takeW (i := 19) (oi := oIA20) (v := _) rfl (by kernel_rfl) (by kernel_rfl) (by kernel_rfl) (fun _ _ _ h => h) (Or.inl ⟨by rfl, ?hyA14⟩) ?reA14
      case hyA14 => (intro W hSw; (try dsimp only at hSw); go_simp; try with_reducible rfl)
      try simp only [Act.put, List.setIfInBounds_toArray, List.set_cons_zero, List.set_cons_succ]
      refine' wpAnyJ_takeW (i := 20) (oi := oIA21) (v := _) rfl (by kernel_rfl) (by kernel_rfl) (by kernel_rfl) (fun _ _ _ h => h) (Or.inl ⟨by rfl, ?hyA15⟩) ?reA15
      case hyA15 => (intro W hSw; (try dsimp only at hSw); go_simp; try with_reducible rfl)
      try simp only [Act.put, List.setIfInBounds_toArray, List.set_cons_zero, List.set_cons_succ]
      refine wpAnyJ_ready (rs := [21]) (by kernel_rfl) (by simp) ?_
      refine AllReadyJ.cons (o := oIA22) rfl (fun K hK => ?_) AllReadyJ.nil
      go_simp
      refine hK.out _ _ (fun h => absurd h (by decide)) ?_
      clear hK K
      try simp only [Act.put, List.setIfInBounds_toArray, List.set_cons_zero, List.set_cons_succ]
      refine wpAnyJ_done (by kernel_rfl) ?_ _
      refine NoPanic.normal ?_
      go_wp2_with fail
      go_end0
      have F := H.out.fin T10.out
      exact ⟨rfl, CV.out _ ⟨_, _, F.1, T10.out.2.2.2.1, T10.out.2.2.2.2.1, F.2⟩⟩
    refine AllReadyJ.cons (o := oIA14) rfl (fun K hK => ?_) AllReadyJ.nil
    go_simp
    refine hK.out _ _ (fun _ h => h) ?_
    clear hK K
    try simp only [Act.put, List.setIfInBounds_toArray, List.set_cons_zero, List.set_cons_succ]
    refine wpAnyJ_ready (rs := [8, 14]) (by kernel_rfl) (by simp) ?_
    refine AllReadyJ.cons (o := oIA13) rfl (fun K hK => ?_) ?_
    · refine step_append_lies _ rfl (.tmp 20) (.tmp 22) 45 rfl 0 3 i3 (.int .i64 0) 1 8 Tryz.underlying45 hi3 hx0 hx1 hx2 rfl (by decide) (.slice aog gs.length cg) gs.length (ic gs) (by simp [Act.eval]) (T0.out.alloc _).1 ⟨w1.heap.size, 0, none⟩ 1 1 [.int .i64 (x : Int)] (by simp [Act.eval]) rfl (by intro j u hj; match j, hj with | 0, hj => simp at hj; subst hj; simp [Addr.add]) (by intro u hu; simp at hu; subst hu; rfl) (by omega) (by unfold maxLen; omega) (by omega) (Nat.zero_le _) _ rfl ?_; intro g9 c9 w9 ho9 hg9 ha9 _
      have T9 := hide ((T0.out.alloc _).growG (x := x) ho9 hg9 ha9)
      clear ho9 hg9 ha9
      refine hK.out _ _ (fun _ _ => (mid_cells (H.out.mid T9.out)).1) ?_
      clear hK K
      try simp only [Act.put, List.setIfInBounds_toArray, List.set_cons_zero, List.set_cons_succ]
      refine wpAnyJ_ready (rs := [14]) (by kernel_rfl) (by simp) ?_
      refine AllReadyJ.cons (o := oIA15) rfl (fun K hK => ?_) AllReadyJ.nil
      go_simp
      refine hK.out _ _ (fun _ _ => (mid_cells (H.out.mid (T9.out.alloc _))).1) ?_
      clear hK K
      try simp only [Act.put, List.setIfInBounds_toArray, List.set_cons_zero, List.set_cons_succ]
      refine wpAnyJ_ready (rs := [15]) (by kernel_rfl) (by simp) ?_
      refine AllReadyJ.cons (o := oIA16) rfl (fun K hK => ?_) AllReadyJ.nil
      refine step_append_lies _ rfl (.tmp 27) (.tmp 29) 39 rfl 0 29 i41 (.agg #[.int .i64 0, .int .i64 0]) 2 16 Tryz.underlying39 hi41 hy0 hy1 hy2 rfl (by decide) (.slice aol lv.length cl) lv.length (ec lv) (by simp [Act.eval]) (T9.out.alloc _).2.1 ⟨w9.heap.size, 0, none⟩ 1 1 [.int .i64 0, .int .i64 0] (by simp [Act.eval]) rfl (by intro j u hj; match j, hj with | 0, hj => simp at hj; subst hj; simp [Addr.add] | 1, hj => simp at hj; subst hj; simp [Addr.add]) (by intro u hu; simp at hu; subst hu; rfl) (by omega) (by unfold maxLen; omega) (by omega) (Nat.zero_le _) _ rfl ?_; intro g8 c8 w8 ho8 hg8 ha8 _
      have T10 := hide ((T9.out.alloc _).growL (a := 0) (b := 0) ho8 hg8 ha8)
      clear ho8 hg8 ha8
      refine hK.out _ _ (fun _ _ => (mid_cells (H.out.mid T10.out)).1) ?_
      clear hK K
      obtain ⟨⟨d1, d2⟩, y1, y2⟩ := mid_cells (H.out.mid T10.out)
      try simp only [Act.put, List.setIfInBounds_toArray, List.set_cons_zero, List.set_cons_succ]
      refine' wpAnyJ_takeW (i := 16) (oi := oIA17) (v := _) rfl (by kernel_rfl) (by kernel_rfl) (by kernel_rfl) (fun _ _ _ h => h) (Or.inl ⟨by rfl, ?hyA16⟩) ?reA16
      case hyA16 => (intro W hSw; (try dsimp only at hSw); go_simp; try with_reducible rfl)
      try simp only [Act.put, List.setIfInBounds_toArray, List.set_cons_zero, List.set_cons_succ]
      refine' wpAnyJ_takeW (i := 17) (oi := oIA18) (v := _) rfl (by kernel_rfl) (by kernel_rfl) (by kernel_rfl) (fun _ _ _ h => h) (Or.inl ⟨by rfl, ?hyA17⟩) ?reA17
      case hyA17 => (intro W hSw; (try dsimp only at hSw); go_simp; try with_reducible rfl)
      try simp only [Act.put, List.setIfInBounds_toArray, List.set_cons_zero, List.set_cons_succ]
      refine wpAnyJ_ready (rs := [18]) (by kernel_rfl) (by simp) ?_
      refine AllReadyJ.cons (o := oIA19) rfl (fun K hK => ?_) AllReadyJ.nil
      go_simp
      refine hK.out _ _ (fun h => absurd h (by decide)) ?_
      clear hK K
      try simp only [Act.put, List.setIfInBounds_toArray, List.set_cons_zero, List.set_cons_succ]
      refine' wpAnyJ_takeW (i := 19) (oi := oIA20) (v := _) rfl (by kernel_rfl) (by kernel_rfl) (by kernel_rfl) (fun _ _ _ h => h) (Or.inl ⟨by rfl, ?hyA18⟩) ?reA18
      case hyA18 => (intro W hSw; (try dsimp only at hSw); go_simp; try with_reducible rfl)
      try simp only [Act.put, List.setIfInBounds_toArray, List.set_cons_zero, List.set_cons_succ]
      refine' wpAnyJ_takeW (i := 20) (oi := oIA21) (v := _) rfl (by kernel_rfl) (by kernel_rfl) (by kernel_rfl) (fun _ _ _ h => h) (Or.inl ⟨by rfl, ?hyA19⟩) ?reA19
      case hyA19 => (intro W hSw; (try dsimp only at hSw); go_simp; try with_reducible rfl)
      try simp only [Act.put, List.setIfInBounds_toArray, List.set_cons_zero, List.set_cons_succ]
      refine wpAnyJ_ready (rs := [21]) (by kernel_rfl) (by simp) ?_
      refine AllReadyJ.cons (o := oIA22) rfl (fun K hK => ?_) AllReadyJ.nil
      go_simp
      refine hK.out _ _ (fun h => absurd h (by decide)) ?_
      clear hK K
      try simp only [Act.put, List.setIfInBounds_toArray, List.set_cons_zero, List.set_cons_succ]
      refine wpAnyJ_done (by kernel_rfl) ?_ _
      refine NoPanic.normal ?_
      go_wp2_with fail
      go_end0
      have F := H.out.fin T10.out
      exact ⟨rfl, CV.out _ ⟨_, _, F.1, T10.out.2.2.2.1, T10.out.2.2.2.2.1, F.2⟩⟩
    refine AllReadyJ.cons (o := oIA15) rfl (fun K hK => ?_) AllReadyJ.nil
    go_simp
    refine hK.out _ _ (fun _ _ => (mid_cells (H.out.mid ((T0.out.alloc _).alloc _))).1) ?_
    clear hK K
    try simp only [Act.put, List.setIfInBounds_toArray, List.set_cons_zero, List.set_cons_succ]
    refine wpAnyJ_ready (rs := [8]) (by kernel_rfl) (by simp) ?_
    refine AllReadyJ.cons (o := oIA13) rfl (fun K hK => ?_) AllReadyJ.nil
    refine step_append_lies _ rfl (.tmp 20) (.tmp 22) 45 rfl 0 3 i3 (.int .i64 0) 1 8 Tryz.underlying45 hi3 hx0 hx1 hx2 rfl (by decide) (.slice aog gs.length cg) gs.length (ic gs) (by simp [Act.eval]) ((T0.out.alloc _).alloc _).1 ⟨w1.heap.size, 0, none⟩ 1 1 [.int .i64 (x : Int)] (by simp [Act.eval]) rfl (by intro j u hj; match j, hj with | 0, hj => simp at hj; subst hj; simp [Addr.add]) (by intro u hu; simp at hu; subst hu; rfl) (by omega) (by unfold maxLen; omega) (by omega) (Nat.zero_le _) _ rfl ?_; intro g9 c9 w9 ho9 hg9 ha9 _
    have T9 := hide (((T0.out.alloc _).alloc _).growG (x := x) ho9 hg9 ha9)
    have s0 : w9.cell? ⟨w1.heap.size + 1, 0, none⟩ = some (.int .i64 0) := hg9.cell (by simp) (fun e => by have := (HGL.out _ e.symm).2; first | omega | (simp at this <;> omega))
    have s1 : w9.cell? ⟨w1.heap.size + 1, 1, none⟩ = some (.int .i64 0) := hg9.cell (by simp) (fun e => by have := (HGL.out _ e.symm).2; first | omega | (simp at this <;> omega))
    clear ho9 hg9 ha9
    refine hK.out _ _ (fun _ _ => (mid_cells (H.out.mid T9.out)).1) ?_
    clear hK K
    try simp only [Act.put, List.setIfInBounds_toArray, List.set_cons_zero, List.set_cons_succ]
    refine wpAnyJ_ready (rs := [15]) (by kernel_rfl) (by simp) ?_
    refine AllReadyJ.cons (o := oIA16) rfl (fun K hK => ?_) AllReadyJ.nil
    refine step_append_lies _ rfl (.tmp 27) (.tmp 29) 39 rfl 0 29 i41 (.agg #[.int .i64 0, .int .i64 0]) 2 16 Tryz.underlying39 hi41 hy0 hy1 hy2 rfl (by decide) (.slice aol lv.length cl) lv.length (ec lv) (by simp [Act.eval]) T9.out.2.1 ⟨w1.heap.size + 1, 0, none⟩ 1 1 [.int .i64 0, .int .i64 0] (by simp [Act.eval]) rfl (by intro j u hj; match j, hj with | 0, hj => simp at hj; subst hj; simpa [Addr.add] using s0 | 1, hj => simp at hj; subst hj; simpa [Addr.add] using s1) (by intro u hu; simp at hu; subst hu; rfl) (by omega) (by unfold maxLen; omega) (by omega) (Nat.zero_le _) _ rfl ?_; intro g8 c8 w8 ho8 hg8 ha8 _
    have T10 := hide (T9.out.growL (a := 0) (b := 0) ho8 hg8 ha8)
    clear ho8 hg8 ha8
    refine hK.out _ _ (fun _ _ => (mid_cells (H.out.mid T10.out)).1) ?_
    clear hK K
    obtain ⟨⟨d1, d2⟩, y1, y2⟩ := mid_cells (H.out.mid T10.out)
    try simp only [Act.put, List.setIfInBounds_toArray, List.set_cons_zero, List.set_cons_succ]
    refine' wpAnyJ_takeW (i := 16) (oi := oIA17) (v := _) rfl (by kernel_rfl) (by kernel_rfl) (by kernel_rfl) (fun _ _ _ h => h) (Or.inl ⟨by rfl, ?hyA20⟩) ?reA20
    case hyA20 => (intro W hSw; (try dsimp only at hSw); go_simp; try with_reducible rfl)
    try simp only [Act.put, List.setIfInBounds_toArray, List.set_cons_zero, List.set_cons_succ]
    refine' wpAnyJ_takeW (i := 17) (oi := oIA18) (v := _) rfl (by kernel_rfl) (by kernel_rfl) (by kernel_rfl) (fun _ _ _ h => h) (Or.inl ⟨by rfl, ?hyA21⟩) ?reA21
    case hyA21 => (intro W hSw; (try dsimp only at hSw); go_simp; try with_reducible rfl)
    try simp only [Act.put, List.setIfInBounds_toArray, List.set_cons_zero, List.set_cons_succ]
    refine wpAnyJ_ready (rs := [18]) (by kernel_rfl) (by simp) ?_
    refine AllReadyJ.cons (o := oIA19) rfl (fun K hK => ?_) AllReadyJ.nil
    go_simp
    refine hK.out _ _ (fun h => absurd h (by decide)) ?_
    clear hK K
    try simp only [Act.put, List.setIfInBounds_toArray, List.set_cons_zero, List.set_cons_succ]
    refine' wpAnyJ_takeW (i := 19) (oi := oIA20) (v := _) rfl (by kernel_rfl) (by kernel_rfl) (by kernel_rfl) (fun _ _ _ h => h) (Or.inl ⟨by rfl, ?hyA22⟩) ?reA22
    case hyA22 => (intro W hSw; (try dsimp only at hSw); go_simp; try with_reducible rfl)
    try simp only [Act.put, List.setIfInBounds_toArray, List.set_cons_zero, List.set_cons_succ]
    refine' wpAnyJ_takeW (i := 20) (oi := oIA21) (v := _) rfl (by kernel_rfl) (by kernel_rfl) (by kernel_rfl) (fun _ _ _ h => h) (Or.inl ⟨by rfl, ?hyA23⟩) ?reA23
    case hyA23 => (intro W hSw; (try dsimp only at hSw); go_simp; try with_reducible rfl)
    try simp only [Act.put, List.setIfInBounds_toArray, List.set_cons_zero, List.set_cons_succ]
    refine wpAnyJ_ready (rs := [21]) (by kernel_rfl) (by simp) ?_
    refine AllReadyJ.cons (o := oIA22) rfl (fun K hK => ?_) AllReadyJ.nil
    go_simp
    refine hK.out _ _ (fun h => absurd h (by decide)) ?_
    clear hK K
    try simp only [Act.put, List.setIfInBounds_toArray, List.set_cons_zero, List.set_cons_succ]
    refine wpAnyJ_done (by kernel_rfl) ?_ _
    refine NoPanic.normal ?_
    go_wp2_with fail
    go_end0
    have F := H.out.fin T10.out
    exact ⟨rfl, CV.out _ ⟨_, _, F.1, T10.out.2.2.2.1, T10.out.2.2.2.2.1, F.2⟩⟩
  refine AllReadyJ.cons (o := oIA14) rfl (fun K hK => ?_) AllReadyJ.nil
  obtain ⟨q0, q1⟩ := WH.out _ T0.out.2.2.2.2.2
  go_simp
  refine hK.out _ _ (fun _ h => h) ?_
  clear hK K q0 q1
  try simp only [Act.put, List.setIfInBounds_toArray, List.set_cons_zero, List.set_cons_succ]
  refine wpAnyJ_ready (rs := [7, 14]) (by kernel_rfl) (by simp) ?_
  refine AllReadyJ.cons (o := oIA12) rfl (fun K hK => ?_) ?_
  · go_simp
    refine hK.out _ _ (fun _ _ => (mid_cells (H.out.mid (T0.out.alloc _))).1) ?_
    clear hK K
    try simp only [Act.put, List.setIfInBounds_toArray, List.set_cons_zero, List.set_cons_succ]
    refine wpAnyJ_ready (rs := [8, 14]) (by kernel_rfl) (by simp) ?_
    refine AllReadyJ.cons (o := oIA13) rfl (fun K hK => ?_) ?_
    · refine step_append_lies _ rfl (.tmp 20) (.tmp 22) 45 rfl 0 3 i3 (.int .i64 0) 1 8 Tryz.underlying45 hi3 hx0 hx1 hx2 rfl (by decide) (.slice aog gs.length cg) gs.length (ic gs) (by simp [Act.eval]) (T0.out.alloc _).1 ⟨w1.heap.size, 0, none⟩ 1 1 [.int .i64 (x : Int)] (by simp [Act.eval]) rfl (by intro j u hj; match j, hj with | 0, hj => simp at hj; subst hj; simp [Addr.add]) (by intro u hu; simp at hu; subst hu; rfl) (by omega) (by unfold maxLen; omega) (by omega) (Nat.zero_le _) _ rfl ?_; intro g9 c9 w9 ho9 hg9 ha9 _
      have T9 := hide ((T0.out.alloc _).growG (x := x) ho9 hg9 ha9)
      clear ho9 hg9 ha9
      refine hK.out _ _ (fun _ _ => (mid_cells (H.out.mid T9.out)).1) ?_
      clear hK K
      try simp only [Act.put, List.setIfInBounds_toArray, List.set_cons_zero, List.set_cons_succ]
      refine wpAnyJ_ready (rs := [14]) (by kernel_rfl) (by simp) ?_
      refine AllReadyJ.cons (o := oIA15) rfl (fun K hK => ?_) AllReadyJ.nil
      go_simp
      refine hK.out _ _ (fun _ _ => (mid_cells (H.out.mid (T9.out.alloc _))).1) ?_
      clear hK K
      try simp only [Act.put, List.setIfInBounds_toArray, List.set_cons_zero, List.set_cons_succ]
      refine wpAnyJ_ready (rs := [15]) (by kernel_rfl) (by simp) ?_
      refine AllReadyJ.cons (o := oIA16) rfl (fun K hK => ?_) AllReadyJ.nil
      refine step_append_lies _ rfl (.tmp 27) (.tmp 29) 39 rfl 0 29 i41 (.agg #[.int .i64 0, .int .i64 0]) 2 16 Tryz.underlying39 hi41 hy0 hy1 hy2 rfl (by decide) (.slice aol lv.length cl) lv.length (ec lv) (by simp [Act.eval]) (T9.out.alloc _).2.1 ⟨w9.heap.size, 0, none⟩ 1 1 [.int .i64 0, .int .i64 0] (by simp [Act.eval]) rfl (by intro j u hj; match j, hj with | 0, hj => simp at hj; subst hj; simp [Addr.add] | 1, hj => simp at hj; subst hj; simp [Addr.add]) (by intro u hu; simp at hu; subst hu; rfl) (by omega) (by unfold maxLen; omega) (by omega) (Nat.zero_le _) _ rfl ?_; intro g8 c8 w8 ho8 hg8 ha8 _
      have T10 := hide ((T9.out.alloc _).growL (a := 0) (b := 0) ho8 hg8 ha8)
      clear ho8 hg8 ha8
      refine hK.out _ _ (fun _ _ => (mid_cells (H.out.mid T10.out)).1) ?_
      clear hK K
      obtain ⟨⟨d1, d2⟩, y1, y2⟩ := mid_cells (H.out.mid T10.out)
      try simp only [Act.put, List.setIfInBounds_toArray, List.set_cons_zero, List.set_cons_succ]
      refine' wpAnyJ_takeW (i := 16) (oi := oIA17) (v := _) rfl (by kernel_rfl) (by kernel_rfl) (by kernel_rfl) (fun _ _ _ h => h) (Or.inl ⟨by rfl, ?hyA24⟩) ?reA24
      case hyA24 => (intro W hSw; (try dsimp only at hSw); go_simp; try with_reducible rfl)
      try simp only [Act.put, List.setIfInBounds_toArray, List.set_cons_zero, List.set_cons_succ]
      refine' wpAnyJ_takeW (i := 17) (oi := oIA18) (v := _) rfl (by kernel_rfl) (by kernel_rfl) (by kernel_rfl) (fun _ _ _ h => h) (Or.inl ⟨by rfl, ?hyA25⟩) ?reA25
      case hyA25 => (intro W hSw; (try dsimp only at hSw); go_simp; try with_reducible rfl)
      try simp only [Act.put, List.setIfInBounds_toArray, List.set_cons_zero, List.set_cons_succ]
      refine wpAnyJ_ready (rs := [18]) (by kernel_rfl) (by simp) ?_
      refine AllReadyJ.cons (o := oIA19) rfl (fun K hK => ?_) AllReadyJ.nil
      go_simp
      refine hK.out _ _ (fun h => absurd h (by decide)) ?_
      clear hK K
      try simp only [Act.put, List.setIfInBounds_toArray, List.set_cons_zero, List.set_cons_succ]
      refine' wpAnyJ_takeW (i := 19) (oi := oIA20) (v := _) rfl (by kernel_rfl) (by kernel_rfl) (by kernel_rfl) (fun _ _ _ h => h) (Or.inl ⟨by rfl, ?hyA26⟩) ?reA26
      case hyA26 => (intro W hSw; (try dsimp only at hSw); go_simp; try with_reducible rfl)
      try simp only [Act.put, List.setIfInBounds_toArray, List.set_cons_zero, List.set_cons_succ]
      refine' wpAnyJ_takeW (i := 20) (oi := oIA21) (v := _) rfl (by kernel_rfl) (by kernel_rfl) (by kernel_rfl) (fun _ _ _ h => h) (Or.inl ⟨by rfl, ?hyA27⟩) ?reA27
      case hyA27 => (intro W hSw; (try dsimp only at hSw); go_simp; try with_reducible rfl)
      try simp only [Act.put, List.setIfInBounds_toArray, List.set_cons_zero, List.set_cons_succ]
      refine wpAnyJ_ready (rs := [21]) (by kernel_rfl) (by simp) ?_
      refine AllReadyJ.cons (o := oIA22) rfl (fun K hK => ?_) AllReadyJ.nil
      go_simp
      refine hK.out _ _ (fun h => absurd h (by decide)) ?_
      clear hK K
      try simp only [Act.put, List.setIfInBounds_toArray, List.set_cons_zero, List.set_cons_succ]
      refine wpAnyJ_done (by kernel_rfl) ?_ _
      refine NoPanic.normal ?_
      go_wp2_with fail
      go_end0
      have F := H.out.fin T10.out
      exact ⟨rfl, CV.out _ ⟨_, _, F.1, T10.out.2.2.2.1, T10.out.2.2.2.2.1, F.2⟩⟩
    refine AllReadyJ.cons (o := oIA15) rfl (fun K hK => ?_) AllReadyJ.nil
    go_simp
    refine hK.out _ _ (fun _ _ => (mid_cells (H.out.mid ((T0.out.alloc _).alloc _))).1) ?_
    clear hK K
    try simp only [Act.put, List.setIfInBounds_toArray, List.set_cons_zero, List.set_cons_succ]
    refine wpAnyJ_ready (rs := [8]) (by kernel_rfl) (by simp) ?_
    refine AllReadyJ.cons (o := oIA13) rfl (fun K hK => ?_) AllReadyJ.nil
    refine step_append_lies _ rfl (.tmp 20) (.tmp 22) 45 rfl 0 3 i3 (.int .i64 0) 1 8 Tryz.underlying45 hi3 hx0 hx1 hx2 rfl (by decide) (.slice aog gs.length cg) gs.length (ic gs) (by simp [Act.eval]) ((T0.out.alloc _).alloc _).1 ⟨w1.heap.size, 0, none⟩ 1 1 [.int .i64 (x : Int)] (by simp [Act.eval]) rfl (by intro j u hj; match j, hj with | 0, hj => simp at hj; subst hj; simp [Addr.add]) (by intro u hu; simp at hu; subst hu; rfl) (by omega) (by unfold maxLen; omega) (by omega) (Nat.zero_le _) _ rfl ?_; intro g9 c9 w9 ho9 hg9 ha9 _
    have T9 := hide (((T0.out.alloc _).alloc _).growG (x := x) ho9 hg9 ha9)
    have s0 : w9.cell? ⟨w1.heap.size + 1, 0, none⟩ = some (.int .i64 0) := hg9.cell (by simp) (fun e => by have := (HGL.out _ e.symm).2; first | omega | (simp at this <;> omega))
    have s1 : w9.cell? ⟨w1.heap.size + 1, 1, none⟩ = some (.int .i64 0) := hg9.cell (by simp) (fun e => by have := (HGL.out _ e.symm).2; first | omega | (simp at this <;> omega))
    clear ho9 hg9 ha9
    refine hK.out _ _ (fun _ _ => (mid_cells (H.out.mid T9.out)).1) ?_
    clear hK K
    try simp only [Act.put, List.setIfInBounds_toArray, List.set_cons_zero, List.set_cons_succ]
    refine wpAnyJ_ready (rs := [15]) (by kernel_rfl) (by simp) ?_
    refine AllReadyJ.cons (o := oIA16) rfl (fun K hK => ?_) AllReadyJ.nil
    refine step_append_lies _ rfl (.tmp 27) (.tmp 29) 39 rfl 0 29 i41 (.agg #[.int .i64 0, .int .i64 0]) 2 16 Tryz.underlying39 hi41 hy0 hy1 hy2 rfl (by decide) (.slice aol lv.length cl) lv.length (ec lv) (by simp [Act.eval]) T9.out.2.1 ⟨w1.heap.size + 1, 0, none⟩ 1 1 [.int .i64 0, .int .i64 0] (by simp [Act.eval]) rfl (by intro j u hj; match j, hj with | 0, hj => simp at hj; subst hj; simpa [Addr.add] using s0 | 1, hj => simp at hj; subst hj; simpa [Addr.add] using s1) (by intro u hu; simp at hu; subst hu; rfl) (by omega) (by unfold maxLen; omega) (by omega) (Nat.zero_le _) _ rfl ?_; intro g8 c8 w8 ho8 hg8 ha8 _
    have T10 := hide (T9.out.growL (a := 0) (b := 0) ho8 hg8 ha8)
    clear ho8 hg8 ha8
    refine hK.out _ _ (fun _ _ => (mid_cells (H.out.mid T10.out)).1) ?_
    clear hK K
    obtain ⟨⟨d1, d2⟩, y1, y2⟩ := mid_cells (H.out.mid T10.out)
    try simp only [Act.put, List.setIfInBounds_toArray, List.set_cons_zero, List.set_cons_succ]
    refine' wpAnyJ_takeW (i := 16) (oi := oIA17) (v := _) rfl (by kernel_rfl) (by kernel_rfl) (by kernel_rfl) (fun _ _ _ h => h) (Or.inl ⟨by rfl, ?hyA28⟩) ?reA28
    case hyA28 => (intro W hSw; (try dsimp only at hSw); go_simp; try with_reducible rfl)
    try simp only [Act.put, List.setIfInBounds_toArray, List.set_cons_zero, List.set_cons_succ]
    refine' wpAnyJ_takeW (i := 17) (oi := oIA18) (v := _) rfl (by kernel_rfl) (by kernel_rfl) (by kernel_rfl) (fun _ _ _ h => h) (Or.inl ⟨by rfl, ?hyA29⟩) ?reA29
    case hyA29 => (intro W hSw; (try dsimp only at hSw); go_simp; try with_reducible rfl)
    try simp only [Act.put, List.setIfInBounds_toArray, List.set_cons_zero, List.set_cons_succ]
    refine wpAnyJ_ready (rs := [18]) (by kernel_rfl) (by simp) ?_
    refine AllReadyJ.cons (o := oIA19) rfl (fun K hK => ?_) AllReadyJ.nil
    go_simp
    refine hK.out _ _ (fun h => absurd h (by decide)) ?_
    clear hK K
    try simp only [Act.put, List.setIfInBounds_toArray, List.set_cons_zero, List.set_cons_succ]
    refine' wpAnyJ_takeW (i := 19) (oi := oIA20) (v := _) rfl (by kernel_rfl) (by kernel_rfl) (by kernel_rfl) (fun _ _ _ h => h) (Or.inl ⟨by rfl, ?hyA30⟩) ?reA30
    case hyA30 => (intro W hSw; (try dsimp only at hSw); go_simp; try with_reducible rfl)
    try simp only [Act.put, List.setIfInBounds_toArray, List.set_cons_zero, List.set_cons_succ]
    refine' wpAnyJ_takeW (i := 20) (oi := oIA21) (v := _) rfl (by kernel_rfl) (by kernel_rfl) (by kernel_rfl) (fun _ _ _ h => h) (Or.inl ⟨by rfl, ?hyA31⟩) ?reA31
    case hyA31 => (intro W hSw; (try dsimp only at hSw); go_simp; try with_reducible rfl)
    try simp only [Act.put, List.setIfInBounds_toArray, List.set_cons_zero, List.set_cons_succ]
    refine wpAnyJ_ready (rs := [21]) (by kernel_rfl) (by simp) ?_
    refine AllReadyJ.cons (o := oIA22) rfl (fun K hK => ?_) AllReadyJ.nil
    go_simp
    refine hK.out _ _ (fun h => absurd h (by decide)) ?_
    clear hK K
    try simp only [Act.put, List.setIfInBounds_toArray, List.set_cons_zero, List.set_cons_succ]
    refine wpAnyJ_done (by kernel_rfl) ?_ _
    refine NoPanic.normal ?_
    go_wp2_with fail
    go_end0
    have F := H.out.fin T10.out
    exact ⟨rfl, CV.out _ ⟨_, _, F.1, T10.out.2.2.2.1, T10.out.2.2.2.2.1, F.2⟩⟩
  refine AllReadyJ.cons (o := oIA15) rfl (fun K hK => ?_) AllReadyJ.nil
  go_simp
  refine hK.out _ _ (fun _ _ => (mid_cells (H.out.mid (T0.out.alloc _))).1) ?_
  clear hK K
  try simp only [Act.put, List.setIfInBounds_toArray, List.set_cons_zero, List.set_cons_succ]
  refine wpAnyJ_ready (rs := [7]) (by kernel_rfl) (by simp) ?_
  refine AllReadyJ.cons (o := oIA12) rfl (fun K hK => ?_) AllReadyJ.nil
  go_simp
  refine hK.out _ _ (fun _ _ => (mid_cells (H.out.mid ((T0.out.alloc _).alloc _))).1) ?_
  clear hK K
  try simp only [Act.put, List.setIfInBounds_toArray, List.set_cons_zero, List.set_cons_succ]
  refine wpAnyJ_ready (rs := [8]) (by kernel_rfl) (by simp) ?_
  refine AllReadyJ.cons (o := oIA13) rfl (fun K hK => ?_) AllReadyJ.nil
  refine step_append_lies _ rfl (.tmp 20) (.tmp 22) 45 rfl 0 3 i3 (.int .i64 0) 1 8 Tryz.underlying45 hi3 hx0 hx1 hx2 rfl (by decide) (.slice aog gs.length cg) gs.length (ic gs) (by simp [Act.eval]) ((T0.out.alloc _).alloc _).1 ⟨w1.heap.size + 1, 0, none⟩ 1 1 [.int .i64 (x : Int)] (by simp [Act.eval]) rfl (by intro j u hj; match j, hj with | 0, hj => simp at hj; subst hj; simp [Addr.add]) (by intro u hu; simp at hu; subst hu; rfl) (by omega) (by unfold maxLen; omega) (by omega) (Nat.zero_le _) _ rfl ?_; intro g9 c9 w9 ho9 hg9 ha9 _
  have T9 := hide (((T0.out.alloc _).alloc _).growG (x := x) ho9 hg9 ha9)
  have s0 : w9.cell? ⟨w1.heap.size, 0, none⟩ = some (.int .i64 0) := hg9.cell (by simp) (fun e => by have := (HGL.out _ e.symm).2; first | omega | (simp at this <;> omega))
  have s1 : w9.cell? ⟨w1.heap.size, 1, none⟩ = some (.int .i64 0) := hg9.cell (by simp) (fun e => by have := (HGL.out _ e.symm).2; first | omega | (simp at this <;> omega))
  clear ho9 hg9 ha9
  refine hK.out _ _ (fun _ _ => (mid_cells (H.out.mid T9.out)).1) ?_
  clear hK K
  try simp only [Act.put, List.setIfInBounds_toArray, List.set_cons_zero, List.set_cons_succ]
  refine wpAnyJ_ready (rs := [15]) (by kernel_rfl) (by simp) ?_
  refine AllReadyJ.cons (o := oIA16) rfl (fun K hK => ?_) AllReadyJ.nil
  refine step_append_lies _ rfl (.tmp 27) (.tmp 29) 39 rfl 0 29 i41 (.agg #[.int .i64 0, .int .i64 0]) 2 16 Tryz.underlying39 hi41 hy0 hy1 hy2 rfl (by decide) (.slice aol lv.length cl) lv.length (ec lv) (by simp [Act.eval]) T9.out.2.1 ⟨w1.heap.size, 0, none⟩ 1 1 [.int .i64 0, .int .i64 0] (by simp [Act.eval]) rfl (by intro j u hj; match j, hj with | 0, hj => simp at hj; subst hj; simpa [Addr.add] using s0 | 1, hj => simp at hj; subst hj; simpa [Addr.add] using s1) (by intro u hu; simp at hu; subst hu; rfl) (by omega) (by unfold maxLen; omega) (by omega) (Nat.zero_le _) _ rfl ?_; intro g8 c8 w8 ho8 hg8 ha8 _
  have T10 := hide (T9.out.growL (a := 0) (b := 0) ho8 hg8 ha8)
  clear ho8 hg8 ha8
  refine hK.out _ _ (fun _ _ => (mid_cells (H.out.mid T10.out)).1) ?_
  clear hK K
  obtain ⟨⟨d1, d2⟩, y1, y2⟩ := mid_cells (H.out.mid T10.out)
  try simp only [Act.put, List.setIfInBounds_toArray, List.set_cons_zero, List.set_cons_succ]
  refine' wpAnyJ_takeW (i := 16) (oi := oIA17) (v := _) rfl (by kernel_rfl) (by kernel_rfl) (by kernel_rfl) (fun _ _ _ h => h) (Or.inl ⟨by rfl, ?hyA32⟩) ?reA32
  case hyA32 => (intro W hSw; (try dsimp only at hSw); go_simp; try with_reducible rfl)
  try simp only [Act.put, List.setIfInBounds_toArray, List.set_cons_zero, List.set_cons_succ]
  refine' wpAnyJ_takeW (i := 17) (oi := oIA18) (v := _) rfl (by kernel_rfl) (by kernel_rfl) (by kernel_rfl) (fun _ _ _ h => h) (Or.inl ⟨by rfl, ?hyA33⟩) ?reA33
  case hyA33 => (intro W hSw; (try dsimp only at hSw); go_simp; try with_reducible rfl)
  try simp only [Act.put, List.setIfInBounds_toArray, List.set_cons_zero, List.set_cons_succ]
  refine wpAnyJ_ready (rs := [18]) (by kernel_rfl) (by simp) ?_
  refine AllReadyJ.cons (o := oIA19) rfl (fun K hK => ?_) AllReadyJ.nil
  go_simp
  refine hK.out _ _ (fun h => absurd h (by decide)) ?_
  clear hK K
  try simp only [Act.put, List.setIfInBounds_toArray, List.set_cons_zero, List.set_cons_succ]
  refine' wpAnyJ_takeW (i := 19) (oi := oIA20) (v := _) rfl (by kernel_rfl) (by kernel_rfl) (by kernel_rfl) (fun _ _ _ h => h) (Or.inl ⟨by rfl, ?hyA34⟩) ?reA34
  case hyA34 => (intro W hSw; (try dsimp only at hSw); go_simp; try with_reducible rfl)
  try simp only [Act.put, List.setIfInBounds_toArray, List.set_cons_zero, List.set_cons_succ]
  refine' wpAnyJ_takeW (i := 20) (oi := oIA21) (v := _) rfl (by kernel_rfl) (by kernel_rfl) (by kernel_rfl) (fun _ _ _ h => h) (Or.inl ⟨by rfl, ?hyA35⟩) ?reA35
  case hyA35 => (intro W hSw; (try dsimp only at hSw); go_simp; try with_reducible rfl)
  try simp only [Act.put, List.setIfInBounds_toArray, List.set_cons_zero, List.set_cons_succ]
  refine wpAnyJ_ready (rs := [21]) (by kernel_rfl) (by simp) ?_
  refine AllReadyJ.cons (o := oIA22) rfl (fun K hK => ?_) AllReadyJ.nil
  go_simp
  refine hK.out _ _ (fun h => absurd h (by decide)) ?_
  clear hK K
  try simp only [Act.put, List.setIfInBounds_toArray, List.set_cons_zero, List.set_cons_succ]
  refine wpAnyJ_done (by kernel_rfl) ?_ _
  refine NoPanic.normal ?_
  go_wp2_with fail
  go_end0
  have F := H.out.fin T10.out
  exact ⟨rfl, CV.out _ ⟨_, _, F.1, T10.out.2.2.2.1, T10.out.2.2.2.2.1, F.2⟩⟩
end Go.Proofs.YtafmiolehlagkaaGreat
