/-
  Read.
-/
import Derived.Test.YtpolajoephjdhaaGreatDoorCoQ
namespace Go.Proofs.YtpolajoephjdhaaGreatDoor
open Go.RowKit
set_option maxRecDepth 100000
theorem bne_emp (l : List UInt8) : (bs l).toList = l := by rw [ByteArray.toList_eq]; rfl
def zRt : Array Value := #[.string ⟨#[]⟩, .int .i64 0, .int .i64 0, .slice none 0 0]
/-- Where the reading stands. -/
def RdAt (W wr : World) (B g tot f : Nat) (hd : Rt) (R : Nat ⊕ Rt) (rest : List UInt8) (done : List Ins) (vc : Value) : Prop :=
  wr.heap[B]? = some (.cells #[.string ⟨#[]⟩, .int .i64 0, .int .i64 0, .slice none 0 0] 45 (0, 0)) ∧ wr.heap[g]? = some (.cells #[.string hd.name, .int .i64 hd.pa, .int .i64 hd.lo, vc] 45 (0, 0)) ∧
  wr.ownsRow (g + 1) 56 2 vc done.length (insC done) ∧ Below W.heap.size W wr ∧ R = rdJ hd done (rdC tot f done.length rest) ∧ rest.length ≤ f ∧ done.length ≤ 2000 ∧ rest.length ≤ tot
theorem RdAt.later {W wr w' : World} {B g tot f : Nat} {hd : Rt} {R : Nat ⊕ Rt} {rest : List UInt8} {done : List Ins} {vc : Value} (h : RdAt W wr B g tot f hd R rest done vc) (hb : Below wr.heap.size wr w') : RdAt W w' B g tot f hd R rest done vc := by
  obtain ⟨h1, h2, h3, h4, h5⟩ := h
  exact ⟨(hb.block B (lt_of_block h1)).trans h1, (hb.block g (lt_of_block h2)).trans h2, own_later h3 hb, below_on h4 hb, h5⟩
theorem w4s_size (w : World) (B : Nat) (x y z t : Value) : (w4s w B x y z t).heap.size = w.heap.size := by
  unfold w4s
  simp
theorem w4s_mv (w : World) (B : Nat) (x y z t : Value) : Mv w (w4s w B x y z t) (fun j => j = B) := by
  unfold w4s
  exact ((((Mv.refl w (fun j => j = B)).set (g := B) rfl _ _).set (g := B) rfl _ _).set (g := B) rfl _ _).set (g := B) rfl _ _
theorem rd_fault {W w : World} {B : Nat} (a : Int) (hB : W.heap.size ≤ B) (h : w.heap[B]? = some (.cells #[.string ⟨#[]⟩, .int .i64 0, .int .i64 0, .slice none 0 0] 45 (0, 0))) (hb : Below W.heap.size W w) :
    ((w4s w B (.string ⟨#[]⟩) (.int .i64 0) (.int .i64 0) (.slice none 0 0)).alloc (.cells #[.int .i64 a, .int .i64 130] 76)).heap[B]? = some (.cells #[.string ⟨#[]⟩, .int .i64 0, .int .i64 0, .slice none 0 0] 45 (0, 0)) ∧
    Below W.heap.size W ((w4s w B (.string ⟨#[]⟩) (.int .i64 0) (.int .i64 0) (.slice none 0 0)).alloc (.cells #[.int .i64 a, .int .i64 130] 76)) ∧
    ((w4s w B (.string ⟨#[]⟩) (.int .i64 0) (.int .i64 0) (.slice none 0 0)).alloc (.cells #[.int .i64 a, .int .i64 130] 76)).heap[w.heap.size]? = some (.cells #[.int .i64 a, .int .i64 130] 76 (0, 0)) := by
  have hs := w4s_size w B (.string ⟨#[]⟩) (.int .i64 0) (.int .i64 0) (.slice none 0 0)
  have b1 := w4s_below (.string ⟨#[]⟩) (.int .i64 0) (.int .i64 0) (.slice none 0 0) hb hB
  have r1 := w4s_row (.string ⟨#[]⟩) (.int .i64 0) (.int .i64 0) (.slice none 0 0) h
  generalize w4s w B (.string ⟨#[]⟩) (.int .i64 0) (.int .i64 0) (.slice none 0 0) = w5 at *
  refine ⟨((below_alloc w5 _).block B (lt_of_block r1)).trans r1, below_on b1 (below_alloc w5 _), ?_⟩
  rw [← hs]
  exact heap_alloc_new w5 _
set_option maxHeartbeats 4000000 in
theorem read_any (s : ByteArray) (hs : s.size ≤ 281474976710656) (W : World) (hk : Kd W) : Calls Tryz.prog 19 #[.string s] W (RdOut W (readF s.data.toList)) := by
  obtain ⟨w0, hw0⟩ : ∃ X, X = W.alloc (.cells #[.string ⟨#[]⟩, .int .i64 0, .int .i64 0, .slice none 0 0] 45) := ⟨_, rfl⟩
  have B0 : Below W.heap.size W w0 := hw0 ▸ below_alloc W _
  have n1 : w0.heap[W.heap.size]? = some (.cells #[.string ⟨#[]⟩, .int .i64 0, .int .i64 0, .slice none 0 0] 45 (0, 0)) := by rw [hw0]; exact heap_alloc_new W _
  obtain ⟨B, hB⟩ : ∃ B, B = W.heap.size := ⟨_, rfl⟩
  rw [← hB] at n1
  have EB := hide hB
  have hle : W.heap.size ≤ B := by omega
  have hl : s.data.toList.length ≤ 281474976710656 := by rw [Array.length_toList]; exact hs
  have el : Hid (s.data.toList.length = s.size) := by unfold Hid; rw [Array.length_toList]; rfl
  have l1 := aft_len 10 s.data.toList
  have l2 := bef_len 10 s.data.toList
  have J1 := hide (cut_any s 10 (by omega) w0)
  have HK := hide hk
  have HB := hide B0
  have N1 := hide n1
  have J2 : Hid (∀ w, Below W.heap.size W w → Calls Tryz.prog 51 #[.string (bs (bef 10 s.data.toList))] w fun e w' => e = .returned (.tuple #[rtV (headOf (bef 10 s.data.toList)) (.slice none 0 0), .bool (headRd (bef 10 s.data.toList))]) ∧ Below w.heap.size w w') := fun w h => readhead_any (bs (bef 10 s.data.toList)) (by rw [bs_size]; omega) w (HK.out.later h)
  obtain ⟨R, hR⟩ : ∃ R, R = readF s.data.toList := ⟨_, rfl⟩
  rw [← hR]
  have HR := hide hR
  unfold readF at HR
  have lim : Hid (∀ rest : List UInt8, rest.length ≤ s.data.toList.length → ∀ w, Below W.heap.size W w → (Calls Tryz.prog 50 #[.string (bs rest), .string ⟨#[10]⟩] w fun e w' => e = .returned (.tuple #[.string (bs (bef 10 rest)), .string (bs (aft 10 rest)), .bool (hasC 10 rest)]) ∧ Below w.heap.size w w') ∧ (Calls Tryz.prog 52 #[.string (bs (bef 10 rest))] w fun e w' => e = .returned (.tuple #[insV (insOf (bef 10 rest)), .bool (insRd (bef 10 rest))]) ∧ Below w.heap.size w w')) := fun rest hr w hw =>
    ⟨cut_any (bs rest) 10 (by rw [bs_size]; omega) w, readinstr_any (bs (bef 10 rest)) (by rw [bs_size]; have := bef_len 10 rest; omega) w (HK.out.later hw)⟩
  obtain ⟨tot, htot⟩ : ∃ t, t = s.data.toList.length := ⟨_, rfl⟩
  rw [← htot] at HR lim el l1 hl
  generalize bef 10 s.data.toList = hdl at *
  generalize aft 10 s.data.toList = rest0 at *
  generalize hasC 10 s.data.toList = h10 at *
  clear hR hk B0 n1 htot l2
  go_enter Tryz.func19, Tryz.ntmps19
  go_upto_region 1 with fail
  rw [← hw0, ← hB]
  clear hw0 hB
  go_wp2_with fail
  refine J1.out.mono ?_
  rintro e w1 ⟨rfl, hb1⟩
  have H1 := hide (below_on HB.out hb1)
  have N2 := hide ((hb1.block B (lt_of_block N1.out)).trans N1.out)
  clear hb1 J1
  go_wp2_with fail
  refine (J2.out _ H1.out).mono ?_
  rintro e w2 ⟨rfl, hb2⟩
  have H2 := hide (below_on H1.out hb2)
  have N3 := hide ((hb2.block B (lt_of_block N2.out)).trans N2.out)
  generalize headOf hdl = hd at *
  generalize headRd hdl = hr at *
  clear hb2 J2
  unfold rtV
  obtain ⟨w3, hw3⟩ : ∃ X, X = w2.alloc (.cells #[.string hd.name, .int .i64 hd.pa, .int .i64 hd.lo, .slice none 0 0] 45) := ⟨_, rfl⟩
  obtain ⟨g, hg⟩ : ∃ g, g = w2.heap.size := ⟨_, rfl⟩
  have B3 : Below w2.heap.size w2 w3 := hw3 ▸ below_alloc w2 _
  have H3 := hide (below_on H2.out B3)
  have n4 := (B3.block B (lt_of_block N3.out)).trans N3.out
  have n5 : w3.heap[g]? = some (.cells #[.string hd.name, .int .i64 hd.pa, .int .i64 hd.lo, .slice none 0 0] 45 (0, 0)) := by rw [hw3, hg]; exact heap_alloc_new w2 _
  have hBg : B < g := hg ▸ lt_of_block N3.out
  have N4 := hide n4
  have N5 := hide n5
  go_upto_region 3 with fail
  rw [← hw3, ← hg]
  clear hw3 hg B3 n4 n5
  cases h10 with
  | false =>
    obtain rfl : R = .inl 0 := by rw [HR.out]; rfl
    obtain ⟨y0, y1, y2, y3⟩ := row4 N4.out
    have z : ∀ q, w3.frozen? ⟨B, q, none⟩ = false := fun q => frozen_of_row w3 B q _ 45 N4.out
    have hBl := lt_of_block N4.out
    have hWl := H3.out.size
    obtain ⟨f1, f2, f3⟩ := rd_fault 0 hle N4.out H3.out
    have F := hide (And.intro f1 (And.intro f2 f3))
    clear f1 f2 f3
    go_wp2_with fail
    exact bodyPost_ret (res_rt rfl rfl rfl F.out.1) rfl ⟨F.out.2.1, _, rfl, hWl, F.out.2.2⟩
  | true =>
    cases hr with
    | false =>
      obtain rfl : R = .inl 0 := by rw [HR.out]; rfl
      obtain ⟨y0, y1, y2, y3⟩ := row4 N4.out
      have z : ∀ q, w3.frozen? ⟨B, q, none⟩ = false := fun q => frozen_of_row w3 B q _ 45 N4.out
      have hBl := lt_of_block N4.out
      have hWl := H3.out.size
      obtain ⟨f1, f2, f3⟩ := rd_fault 0 hle N4.out H3.out
      have F := hide (And.intro f1 (And.intro f2 f3))
      clear f1 f2 f3
      go_wp2_with fail
      exact bodyPost_ret (res_rt rfl rfl rfl F.out.1) rfl ⟨F.out.2.1, _, rfl, hWl, F.out.2.2⟩
    | true =>
      have S0 : Hid (RdAt W w3 B g tot tot hd R rest0 [] (.slice none 0 0)) := ⟨N4.out, N5.out, ⟨rfl, .inl ⟨rfl, rfl⟩⟩, H3.out, by rw [HR.out]; rfl, l1, by simp, l1⟩
      clear HR
      go_wp2_with fail
      go_loopw [5] (fun v wr => ∃ rest done vc f, v = .string (bs rest) ∧ Hid (RdAt W wr B g tot f hd R rest done vc)) (fun v _ => szOf v)
      case atStart => exact ⟨rest0, [], .slice none 0 0, tot, rfl, S0.out⟩
      case round =>
        obtain ⟨rest, done, vc, f, rfl, st⟩ := hrel
        have hsz := bs_size rest
        by_cases hne : rest = []
        · subst hne
          have zz := toList_nil (s := bs []) rfl
          have nn := empty_yes (s := bs []) rfl
          obtain ⟨s1, s2, s3, s4, s5, s6, s7, s8⟩ := st.out
          obtain rfl : R = .inr ⟨hd.name, hd.pa, hd.lo, done⟩ := by rw [s5, rdC_end]; simp [rdJ]
          obtain ⟨y0, y1, y2, y3⟩ := row4 s1
          obtain ⟨x0, x1, x2, x3⟩ := row4 s2
          have z : ∀ q, wr.frozen? ⟨B, q, none⟩ = false := fun q => frozen_of_row wr B q _ 45 s1
          obtain ⟨ao, c, rfl⟩ := own_len s3
          have F := hide (w4s_row (.string hd.name) (.int .i64 hd.pa) (.int .i64 hd.lo) (.slice ao done.length c) s1)
          have F2 := hide (w4s_below (.string hd.name) (.int .i64 hd.pa) (.int .i64 hd.lo) (.slice ao done.length c) s4 hle)
          have F3 := hide (own_lower ((w4s_mv wr B (.string hd.name) (.int .i64 hd.pa) (.int .i64 hd.lo) (.slice ao done.length c)).own s3 (fun k e1 e2 => by have := (s3.lt k e1).1; omega)) (show W.heap.size ≤ g + 1 by omega))
          clear s1 s2 s3 s4 s5 s6 s7 s8 st
          go_wp2_with fail
          exact bodyPost_ret (res_rt rfl rfl rfl F.out) rfl ⟨F2.out, _, rfl, F3.out⟩
        · have hp : 0 < rest.length := List.length_pos_iff.2 hne
          have zz := toList_ne (s := bs rest) (by rw [hsz]; omega)
          have nn := empty_no (s := bs rest) (by rw [hsz]; omega)
          obtain ⟨-, -, -, s4, s5, s6, s7, s8⟩ := st.out
          have L1 := hide (lim.out rest s8 wr s4).1
          have D1 := hide (aft_lt 10 rest hne)
          have G0 := hide (fun h => rdC_bad (tot := tot) (k := done.length) s6 hne h)
          have G1 := hide (fun a b c => rdC_go (tot := tot) (k := done.length) s6 hne a b c hd done)
          have S5 := hide s5
          have HN := hide hne
          have e0 : (s.size : Int) = (tot : Int) := by have := el.out; omega
          clear s4 s5 hne
          go_wp2_with fail
          refine L1.out.mono ?_
          rintro e w4 ⟨rfl, hb4⟩
          have st4 := st.out.later hb4
          have L2 := hide (lim.out rest s8 w4 st4.2.2.2.1).2
          have ST4 := hide st4
          clear hb4 st4 L1
          go_wp2_with fail
          refine L2.out.mono ?_
          rintro e w5 ⟨rfl, hb5⟩
          have ST5 := hide (ST4.out.later hb5)
          generalize insOf (bef 10 rest) = x at *
          generalize insRd (bef 10 rest) = xr at *
          generalize hasC 10 rest = x10 at *
          generalize bef 10 rest = ln at *
          unfold insV
          clear hb5 L2 ST4
          obtain ⟨w6, hw6⟩ : ∃ X, X = w5.alloc (.cells #[.int .i64 x.op, .int .i64 x.a] 56) := ⟨_, rfl⟩
          obtain ⟨t, ht⟩ : ∃ t, t = w5.heap.size := ⟨_, rfl⟩
          have st6 : Hid (RdAt W w6 B g tot f hd R rest done vc) := ST5.out.later (hw6 ▸ below_alloc w5 _)
          have n6 : w6.heap[t]? = some (.cells #[.int .i64 x.op, .int .i64 x.a] 56 (0, 0)) := by rw [hw6, ht]; exact heap_alloc_new w5 _
          have hgt : g < t := ht ▸ lt_of_block ST5.out.2.1
          go_upto_region 9 with fail
          rw [← hw6, ← ht]
          clear hw6 ht
          have i0 : w6.cell? ⟨t, 0, none⟩ = some (.int .i64 x.op) := by rw [cell_of_row w6 _ _ _ 56 (0, 0) n6]; rfl
          have i1 : w6.cell? ⟨t, 1, none⟩ = some (.int .i64 x.a) := by rw [cell_of_row w6 _ _ _ 56 (0, 0) n6]; rfl
          have N6 := hide n6
          clear n6
          cases x10 with
          | false =>
            obtain rfl : R = .inl (tot - rest.length) := by rw [S5.out, G0.out (.inl rfl)]; rfl
            obtain ⟨s1, s2, s3, s4, s5, s6, s7, s8⟩ := st6.out
            obtain ⟨y0, y1, y2, y3⟩ := row4 s1
            obtain ⟨x0, x1, x2, x3⟩ := row4 s2
            obtain ⟨ao, c, rfl⟩ := own_len s3
            have z : ∀ q, w6.frozen? ⟨B, q, none⟩ = false := fun q => frozen_of_row w6 B q _ 45 s1
            have hBl := lt_of_block s1
            have hWl := s4.size
            obtain ⟨f1, f2, f3⟩ := rd_fault ((tot : Int) - (rest.length : Int)) hle s1 s4
            have F := hide (And.intro f1 (And.intro f2 f3))
            have EW : Hid ((tot : Int) - (rest.length : Int) = ((tot - rest.length : Nat) : Int)) := by unfold Hid; omega
            clear f1 f2 f3 s1 s2 s3 s4 s5 st6 st
            go_wp2_with fail
            exact bodyPost_ret (res_rt rfl rfl rfl F.out.1) rfl ⟨F.out.2.1, _, rfl, hWl, by rw [← EW.out]; exact F.out.2.2⟩
          | true =>
            cases xr with
            | false =>
              obtain rfl : R = .inl (tot - rest.length) := by rw [S5.out, G0.out (.inr (.inl rfl))]; rfl
              obtain ⟨s1, s2, s3, s4, s5, s6, s7, s8⟩ := st6.out
              obtain ⟨y0, y1, y2, y3⟩ := row4 s1
              obtain ⟨x0, x1, x2, x3⟩ := row4 s2
              obtain ⟨ao, c, rfl⟩ := own_len s3
              have z : ∀ q, w6.frozen? ⟨B, q, none⟩ = false := fun q => frozen_of_row w6 B q _ 45 s1
              have hBl := lt_of_block s1
              have hWl := s4.size
              obtain ⟨f1, f2, f3⟩ := rd_fault ((tot : Int) - (rest.length : Int)) hle s1 s4
              have F := hide (And.intro f1 (And.intro f2 f3))
              have EW : Hid ((tot : Int) - (rest.length : Int) = ((tot - rest.length : Nat) : Int)) := by unfold Hid; omega
              clear f1 f2 f3 s1 s2 s3 s4 s5 st6 st
              go_wp2_with fail
              exact bodyPost_ret (res_rt rfl rfl rfl F.out.1) rfl ⟨F.out.2.1, _, rfl, hWl, by rw [← EW.out]; exact F.out.2.2⟩
            | true =>
              by_cases h2k : done.length = 2000
              · have t2k : ((done.length : Int) == 2000) = true := by rw [h2k]; rfl
                have H2k := hide h2k
                clear h2k
                obtain rfl : R = .inl (tot - rest.length) := by rw [S5.out, G0.out (.inr (.inr H2k.out))]; rfl
                obtain ⟨s1, s2, s3, s4, s5, s6, s7, s8⟩ := st6.out
                obtain ⟨y0, y1, y2, y3⟩ := row4 s1
                obtain ⟨x0, x1, x2, x3⟩ := row4 s2
                obtain ⟨ao, c, rfl⟩ := own_len s3
                have z : ∀ q, w6.frozen? ⟨B, q, none⟩ = false := fun q => frozen_of_row w6 B q _ 45 s1
                have hBl := lt_of_block s1
                have hWl := s4.size
                obtain ⟨f1, f2, f3⟩ := rd_fault ((tot : Int) - (rest.length : Int)) hle s1 s4
                have F := hide (And.intro f1 (And.intro f2 f3))
                have EW : Hid ((tot : Int) - (rest.length : Int) = ((tot - rest.length : Nat) : Int)) := by unfold Hid; omega
                clear f1 f2 f3 s1 s2 s3 s4 s5 st6 st
                go_wp2_with fail
                exact bodyPost_ret (res_rt rfl rfl rfl F.out.1) rfl ⟨F.out.2.1, _, rfl, hWl, by rw [← EW.out]; exact F.out.2.2⟩
              · have t2k : ((done.length : Int) == 2000) = false := by rw [beq_eq_false_iff_ne]; omega
                obtain ⟨s1, s2, s3, s4, s5, s6, s7, s8⟩ := st6.out
                obtain ⟨ic, hi, hz0, hz1, hz2⟩ := info_parts infoI
                obtain ⟨x0, x1, x2, x3⟩ := row4 s2
                obtain ⟨ao, c, rfl⟩ := own_len s3
                have tl := lt_of_block N6.out
                have bg := lt_of_block s1
                have S1 := hide s1
                have S2 := hide s2
                have S3 := hide s3
                have S4 := hide s4
                have G2 := hide (S5.out.trans (G1.out rfl rfl h2k))
                have hn : done.length ≤ 2000 := s7
                clear s1 s2 s4 s5 st6 st S5 G1 G0
                go_wp2_with (at_builtin; refine wpList_append_own _ rfl _ _ 43 rfl (g + 1) 56 ic (.agg #[.int .i64 0, .int .i64 0]) 2 16 Tryz.underlying43 hi hz0 hz1 hz2 rfl (by decide) _ _ _ rfl (s3.alloc _) ⟨w6.heap.size, 0, none⟩ 1 1 [.int .i64 x.op, .int .i64 x.a] rfl rfl ?c1 ?c2 ?c3 ?c4 ?c5 ?_)
                case c1 =>
                  intro j u hj
                  match j, hj with
                  | 0, hj => simp at hj; subst hj; simp [Addr.add]
                  | 1, hj => simp at hj; subst hj; simp [Addr.add]
                case c2 => intro u hu; simp at hu; rcases hu with rfl | rfl <;> rfl
                case c3 => unfold maxLen; omega
                case c4 => omega
                case c5 => simp; omega
                intro v' w8 hown' hgrow _
                have hm8 := (Mv.of_below (below_alloc w6 (.cells #[.int .i64 x.op, .int .i64 x.a] 56)) (fun j => (Value.slice ao done.length c).ownBlock = some j)).grown hgrow (fun k _ e => e)
                have r1 : w8.heap[B]? = _ := hm8.at S1.out (fun e => by have := (S3.out.lt B e).1; omega)
                have r2 : w8.heap[g]? = _ := hm8.at S2.out (fun e => by have := (S3.out.lt g e).1; omega)
                obtain ⟨v0, v1, v2, v3⟩ := row4 r2
                have zf : ∀ q, w8.frozen? ⟨g, q, none⟩ = false := fun q => frozen_of_row w8 g q _ 45 r2
                obtain ⟨ao', c', rfl⟩ := own_len hown'
                have hb8 : Below W.heap.size W w8 := S4.out.trans (hm8.below S4.out.size (fun k e => by have := (S3.out.lt k e).1; omega))
                have st9 : RdAt W (w8.setCell ⟨g, 3, none⟩ (.slice ao' (done.length + 1) c')) B g tot (f - 1) hd R (aft 10 rest) (done ++ [x]) (.slice ao' (done.length + 1) c') := by
                  have mv := (Mv.refl w8 (fun j => j = g)).set (g := g) rfl 3 (.slice ao' (done.length + 1) c')
                  have el : (done ++ [x]).length = done.length + 1 := by simp
                  refine ⟨mv.at r1 (by omega), heap_setCell_same w8 g 3 _ 45 _ r2, ?_, hb8.setCell (p := ⟨g, 3, none⟩) (by have := hle; show W.heap.size ≤ g; omega) _, ?_, ?_, ?_, ?_⟩
                  · rw [el, insC_snoc]
                    exact mv.own hown' (fun k e1 e2 => by have := (hown'.lt k e1).1; omega)
                  · rw [el]; exact G2.out
                  · have := D1.out; omega
                  · omega
                  · have := D1.out; omega
                have ST9 := hide st9
                have hsz2 := bs_size (aft 10 rest)
                clear hm8 r1 r2 hb8 st9 hown' hgrow
                go_wp2_with fail
                go_roundw
                case rel => exact ⟨aft 10 rest, done ++ [x], _, f - 1, rfl, ST9.out⟩
                case measure =>
                  show (bs (aft 10 rest)).size < (bs rest).size
                  rw [hsz2, hsz]
                  exact D1.out
end Go.Proofs.YtpolajoephjdhaaGreatDoor
