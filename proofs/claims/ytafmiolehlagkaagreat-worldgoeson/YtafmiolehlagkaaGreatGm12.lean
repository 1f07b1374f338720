import Derived.Test.YtafmiolehlagkaaGreatGm11
import Derived.Test.YtafmiolehlagkaaGreatGm5
import Derived.Laws.AppendOwnNone
import Derived.Deep.RegionHeld3
import Derived.Test.YtafmiolehlagkaaGreatGm8
import Derived.Test.YtafmiolehlagkaaGreatIGive
import Derived.Test.YtafmiolehlagkaaGreatWDes
/-
  World: does, whole: what comes of a deed is a function of who lives with what and of who was there.
-/
namespace Go.Proofs.YtafmiolehlagkaaGreat
open Go.RowKit
set_option maxRecDepth 100000
abbrev Sd := List Nat × List Nat × Co × List (Nat × Nat)
def deed (s : Sd) (kd who what y : Int) : Int × Sd :=
  if pk kd 5 = 0 ∨ s.2.2.2.length = 0 then
    (if s.2.1 ≠ [] ∨ s.1.length < 200 then (0, takeG s.1 s.2.1, takeF s.2.1, spC s.1 s.2.1 s.2.2.1 (pk what 4) y, s.2.2.2 ++ [takeE s.1 s.2.1]) else (40, s))
  else if pk kd 5 = 1 then ((desF s.1 s.2.1 s.2.2.1 (((s.2.2.2.getD (pk who s.2.2.2.length) (0, 0)).1 : Int), ((s.2.2.2.getD (pk who s.2.2.2.length) (0, 0)).2 : Int))).1, (desF s.1 s.2.1 s.2.2.1 (((s.2.2.2.getD (pk who s.2.2.2.length) (0, 0)).1 : Int), ((s.2.2.2.getD (pk who s.2.2.2.length) (0, 0)).2 : Int))).2.1, (desF s.1 s.2.1 s.2.2.1 (((s.2.2.2.getD (pk who s.2.2.2.length) (0, 0)).1 : Int), ((s.2.2.2.getD (pk who s.2.2.2.length) (0, 0)).2 : Int))).2.2.1, (desF s.1 s.2.1 s.2.2.1 (((s.2.2.2.getD (pk who s.2.2.2.length) (0, 0)).1 : Int), ((s.2.2.2.getD (pk who s.2.2.2.length) (0, 0)).2 : Int))).2.2.2, s.2.2.2)
  else if pk kd 5 = 2 then ((addC s.2.2.1 (((s.2.2.2.getD (pk who s.2.2.2.length) (0, 0)).1 : Int), ((s.2.2.2.getD (pk who s.2.2.2.length) (0, 0)).2 : Int)) (pk what 4) y).1, s.1, s.2.1, (addC s.2.2.1 (((s.2.2.2.getD (pk who s.2.2.2.length) (0, 0)).1 : Int), ((s.2.2.2.getD (pk who s.2.2.2.length) (0, 0)).2 : Int)) (pk what 4) y).2, s.2.2.2)
  else if pk kd 5 = 3 then ((remC s.2.2.1 (((s.2.2.2.getD (pk who s.2.2.2.length) (0, 0)).1 : Int), ((s.2.2.2.getD (pk who s.2.2.2.length) (0, 0)).2 : Int)) (pk what 4)).1, s.1, s.2.1, (remC s.2.2.1 (((s.2.2.2.getD (pk who s.2.2.2.length) (0, 0)).1 : Int), ((s.2.2.2.getD (pk who s.2.2.2.length) (0, 0)).2 : Int)) (pk what 4)).2, s.2.2.2)
  else ((setF s.2.2.1 (((s.2.2.2.getD (pk who s.2.2.2.length) (0, 0)).1 : Int), ((s.2.2.2.getD (pk who s.2.2.2.length) (0, 0)).2 : Int)) (pk what 4) y).1, s.1, s.2.1, (setF s.2.2.1 (((s.2.2.2.getD (pk who s.2.2.2.length) (0, 0)).1 : Int), ((s.2.2.2.getD (pk who s.2.2.2.length) (0, 0)).2 : Int)) (pk what 4) y).2, s.2.2.2)
section
variable {w w' : World} {own : Nat → Nat} {gw N B : Nat} {gs fr gs' fr' : List Nat} {C C' : Co} {A : List (Nat × Nat)} {v : Value}
theorem Fd.sp (h : Fd w own gw N gs' fr' C' w') (hA : w.ownsRow B 29 2 v A.length (ec A)) (hA0 : ∀ k, v.ownBlock = some k → own k = 0) : Sp w own gw N B v gs' fr' C' A v w' := by
  obtain ⟨own', r1, r2⟩ := h
  exact ⟨own', r1, r2.1, r2.2.mono (fun _ _ e => .inl e), r2.mv.own hA (fun k e e2 => e2 (hA0 k e)), fun k e => (r2.1 k (hA.lt k e).2).trans (hA0 k e), .inl rfl⟩
theorem does_any (h : Wn w own gw N usualK gs fr C) (hN : N ≤ 800000) (hA : w.ownsRow B 29 2 v A.length (ec A)) (hn : A.length ≤ 1000) (hB : B ≤ w.heap.size) (hA0 : ∀ k, v.ownBlock = some k → own k = 0) (hal : ∀ p ∈ A, InB ((p.1 : Int), (p.2 : Int))) (kd who what y : Int) (h1 : -9223372036854775808 ≤ kd) (h2 : kd ≤ 9223372036854775807) (h3 : -9223372036854775808 ≤ who) (h4 : who ≤ 9223372036854775807) (h5 : -9223372036854775808 ≤ what) (h6 : what ≤ 9223372036854775807) :
    Calls Tryz.prog 21 #[.pointer (some ⟨gw, 0, none⟩), v, .agg #[.int .i64 kd, .int .i64 who, .int .i64 what, .int .i64 y]] w fun e w' => ∃ v', e = .returned (.tuple #[v', .int .i64 (deed (gs, fr, C, A) kd who what y).1]) ∧ Sp w own gw N B v (deed (gs, fr, C, A) kd who what y).2.1 (deed (gs, fr, C, A) kd who what y).2.2.1 (deed (gs, fr, C, A) kd who what y).2.2.2.1 (deed (gs, fr, C, A) kd who what y).2.2.2.2 v' w' := by
  have hp5 : pk kd 5 < 5 := pk_lt kd (by omega)
  by_cases c0 : pk kd 5 = 0 ∨ A.length = 0
  · by_cases cr : fr ≠ [] ∨ gs.length < 200
    · have e0 : deed (gs, fr, C, A) kd who what y = (0, takeG gs fr, takeF fr, spC gs fr C (pk what 4) y, A ++ [takeE gs fr]) := by unfold deed; rw [if_pos c0, if_pos cr]
      rw [e0]
      by_cases cz : pk kd 5 = 0
      · exact does0_room h hN cr A B v hA hn hB hA0 kd who what y h1 h2 h5 h6 cz
      · exact does0_roomE h hN cr A B v hA hn hB hA0 kd who what y h1 h2 h5 h6 cz (c0.resolve_left cz)
    · have e0 : deed (gs, fr, C, A) kd who what y = (40, gs, fr, C, A) := by unfold deed; rw [if_pos c0, if_neg cr]
      rw [e0]
      by_cases cz : pk kd 5 = 0
      · refine (does0_full h hN cr A B v hA hn hB hA0 kd who what y h1 h2 h5 h6 cz).mono ?_
        rintro e w' ⟨rfl, hf⟩
        exact ⟨v, rfl, hf.sp hA hA0⟩
      · refine (does0_fullE h hN cr A B v hA hn hB hA0 kd who what y h1 h2 h5 h6 cz (c0.resolve_left cz)).mono ?_
        rintro e w' ⟨rfl, hf⟩
        exact ⟨v, rfl, hf.sp hA hA0⟩
  · have hz : pk kd 5 ≠ 0 := fun e => c0 (.inl e)
    have hpos : 0 < A.length := by have : A.length ≠ 0 := fun e => c0 (.inr e); omega
    unfold deed
    dsimp only
    rw [if_neg c0]
    by_cases k1 : pk kd 5 = 1
    · rw [if_pos k1]
      refine (doesF1 h hN A B v hA hn hpos hA0 hal kd who what y h1 h2 k1 h3 h4 h5 h6).mono ?_
      rintro e w' ⟨rfl, hf⟩
      exact ⟨v, rfl, hf.sp hA hA0⟩
    · rw [if_neg k1]
      by_cases k2 : pk kd 5 = 2
      · rw [if_pos k2]
        refine (doesF2 h hN A B v hA hn hpos hA0 hal kd who what y h1 h2 k2 h3 h4 h5 h6).mono ?_
        rintro e w' ⟨rfl, hf⟩
        exact ⟨v, rfl, hf.sp hA hA0⟩
      · rw [if_neg k2]
        by_cases k3 : pk kd 5 = 3
        · rw [if_pos k3]
          refine (doesF3 h hN A B v hA hn hpos hA0 hal kd who what y h1 h2 k3 h3 h4 h5 h6).mono ?_
          rintro e w' ⟨rfl, hf⟩
          exact ⟨v, rfl, hf.sp hA hA0⟩
        · rw [if_neg k3]
          refine (doesF4 h hN A B v hA hn hpos hA0 hal kd who what y h1 h2 (by omega) h3 h4 h5 h6).mono ?_
          rintro e w' ⟨rfl, hf⟩
          exact ⟨v, rfl, hf.sp hA hA0⟩
end
end Go.Proofs.YtafmiolehlagkaaGreat

/-
  World: grown: a world behind some deeds.
-/
namespace Go.Proofs.YtafmiolehlagkaaGreat
open Go.RowKit
set_option maxRecDepth 100000
def dd (s : Sd) (d : Dd) : Sd := (deed s d.1 d.2.1 d.2.2.1 d.2.2.2).2
def runD (s : Sd) (ds : List Dd) : Sd := ds.foldl dd s
def none4 : Sd := ([], [], fun _ => none, [])
theorem deed_all (s : Sd) (kd who what y : Int) : (deed s kd who what y).2.2.2.2 = s.2.2.2 ∨ (deed s kd who what y).2.2.2.2 = s.2.2.2 ++ [takeE s.1 s.2.1] := by
  unfold deed
  split
  · split
    · exact .inr rfl
    · exact .inl rfl
  · left
    split
    · rfl
    · split
      · rfl
      · split <;> rfl
/-- A world on its way. -/
def Gw (w W : World) (own : Nat → Nat) (gw i : Nat) (v : Value) (s : Sd) : Prop :=
  Wn W own gw (4 * i) usualK s.1 s.2.1 s.2.2.1 ∧ W.ownsRow w.heap.size 29 2 v s.2.2.2.length (ec s.2.2.2) ∧ (∀ k, v.ownBlock = some k → own k = 0) ∧ s.2.2.2.length ≤ i ∧ (∀ p ∈ s.2.2.2, InB ((p.1 : Int), (p.2 : Int))) ∧ Below w.heap.size w W ∧ ∀ k, k < w.heap.size → own k = 0
section
variable {w W w' : World} {own : Nat → Nat} {gw i : Nat} {v v' : Value} {s : Sd}
theorem Gw.step (h : Gw w W own gw i v s) (d : Dd) (hs : Sp W own gw (4 * i) w.heap.size v (dd s d).1 (dd s d).2.1 (dd s d).2.2.1 (dd s d).2.2.2 v' w') : ∃ own', Gw w w' own' gw (i + 1) v' (dd s d) := by
  obtain ⟨h1, h2, h3, h4, h5, h6, h7⟩ := h
  obtain ⟨own', r1, r2, r3, r4, r5, r6⟩ := hs
  have hok := h1.ok
  have hsz := h6.size
  have ha := deed_all s d.1 d.2.1 d.2.2.1 d.2.2.2
  have ha' : (dd s d).2.2.2 = s.2.2.2 ∨ (dd s d).2.2.2 = s.2.2.2 ++ [takeE s.1 s.2.1] := ha
  refine ⟨own', r1.up (by omega), r4, r5, ?_, fun p hp => ?_, h6.trans (r3.below h6.size (fun k e => ?_)), fun k hk => (r2 k (by omega)).trans (h7 k hk)⟩
  · rcases ha' with e | e <;> rw [e]
    · omega
    · simp; omega
  · rcases ha' with e | e
    · rw [e] at hp
      exact h5 p hp
    · rw [e] at hp
      rcases List.mem_append.1 hp with hp | hp
      · exact h5 p hp
      · rw [List.mem_singleton.1 hp]
        exact take_inb hok
  · rcases e with e | e
    · exact Nat.le_of_not_lt (fun hk => e.1 (h7 k hk))
    · exact (h2.lt k e).1
end
theorem runD_step (s : Sd) (ds : List Dd) (i : Nat) (hi : i < ds.length) : runD s (ds.take (i + 1)) = dd (runD s (ds.take i)) ds[i] := by
  unfold runD
  rw [List.take_succ_eq_append_getElem hi, List.foldl_append]
  rfl
set_option maxHeartbeats 4000000 in
theorem grown_any (va : Value) (ds : List Dd) (w : World) (ha : De w va ds) (hfit : ∀ d ∈ ds, DdOk d) : Calls Tryz.prog 17 #[va] w fun e w' => ∃ (gw : Nat) (v : Value) (own : Nat → Nat) (i : Nat), e = .returned (.tuple #[.pointer (some ⟨gw, 0, none⟩), v]) ∧ i ≤ 400 ∧ Gw w w' own gw i v (runD none4 (ds.take 400)) := by
  obtain ⟨ao, c, rfl, hl1, hl2, hcl⟩ := ha
  have hcap : c ≤ 9223372036854775807 := by unfold maxLen at hl2; omega
  have HCL := hide hcl
  have HFT := hide hfit
  have JU := hide (usual_any w)
  have JN := hide (fun (W : World) (v : Value) (h : Kr W v usualK) => wn_new h usual_may)
  obtain ⟨n, hn⟩ : ∃ n, n = ds.length := ⟨_, rfl⟩
  have HN := hide hn
  rw [← hn] at hl1 ⊢
  clear hcl hfit hn
  go_enter Tryz.func17, Tryz.ntmps17
  go_wp2_with fail
  refine JU.out.mono ?_
  rintro e w1 ⟨vk, rfl, hk1, hb1⟩
  have J2 := hide (JN.out w1 vk (hk1 w1 (Below.refl _ _)))
  have HB1 := hide hb1
  clear hk1 hb1 JU
  go_wp2_with fail
  refine J2.out.mono ?_
  rintro e w2 ⟨gw, rfl, ⟨own, ho, hwn⟩, hb2⟩
  have HG : Hid (Gw w w2 own gw 0 (.slice none 0 0) none4) := ⟨hwn, World.ownsRow_nil _ _ _ _, (fun k e => by simp [Value.ownBlock] at e), Nat.le_refl _, (fun p hp => by cases hp), below_on HB1.out hb2, fun k hk => ho k (Nat.lt_of_lt_of_le hk HB1.out.size)⟩
  clear ho hwn hb2 J2 JN HB1
  go_wp2_with fail
  go_loopg [6, 7] 400 (fun q v6 v7 wr => ∃ (i : Nat) (own : Nat → Nat), q = 400 - i ∧ i ≤ 400 ∧ i ≤ n ∧ v7 = .int .i64 (i : Int) ∧ Hid (Gw w wr own gw i v6 (runD none4 (ds.take i))))
  case atStart => exact ⟨0, own, rfl, by omega, by omega, rfl, HG⟩
  case round =>
    clear HG
    obtain ⟨i, own, hq, hi, hin, rfl, HG⟩ := hrel
    by_cases h1 : i < n
    · have h1' : (i : Int) < (n : Int) := by omega
      by_cases h4 : i < 400
      · have h4' : (i : Int) < 400 := by omega
        have hid : i < ds.length := by have := HN.out; omega
        obtain ⟨g, o, rfl, c0, c1, c2, c3⟩ := HCL.out i hid
        obtain ⟨f0, f1, f2, f3⟩ := HFT.out _ (List.getElem_mem hid)
        have hb := HG.out.2.2.2.2.2.1
        have d0 := (hb.cell (World.block_lt_of_cell? _ _ c0)).trans c0
        have d1 := (hb.cell (World.block_lt_of_cell? _ _ c1)).trans c1
        have d2 := (hb.cell (World.block_lt_of_cell? _ _ c2)).trans c2
        have d3 := (hb.cell (World.block_lt_of_cell? _ _ c3)).trans c3
        have JD := hide (does_any HG.out.1 (by omega) HG.out.2.1 (by have := HG.out.2.2.2.1; omega) hb.size HG.out.2.2.1 HG.out.2.2.2.2.1 ds[i].1 ds[i].2.1 ds[i].2.2.1 ds[i].2.2.2 f0.1 f0.2 f1.1 f1.2 f2.1 f2.2)
        obtain ⟨a6, c6, hv6⟩ := own_len HG.out.2.1
        have HST : Hid (∀ v' w', Sp wr own gw (4 * i) w.heap.size u6 (dd (runD none4 (ds.take i)) ds[i]).1 (dd (runD none4 (ds.take i)) ds[i]).2.1 (dd (runD none4 (ds.take i)) ds[i]).2.2.1 (dd (runD none4 (ds.take i)) ds[i]).2.2.2 v' w' → ∃ own', Hid (Gw w w' own' gw (i + 1) v' (runD none4 (ds.take (i + 1))))) := fun v' w' hs => by
          obtain ⟨own', k⟩ := HG.out.step ds[i] hs
          rw [← runD_step none4 ds i hid] at k
          exact ⟨own', k⟩
        clear c0 c1 c2 c3 hb f0 f1 f2 f3
        clear hv6 a6 c6
        have JE : Hid (∃ zz : Int, Calls Tryz.prog 21 #[.pointer (some ⟨gw, 0, none⟩), u6, .agg #[.int .i64 ds[i].1, .int .i64 ds[i].2.1, .int .i64 ds[i].2.2.1, .int .i64 ds[i].2.2.2]] wr fun e w' => ∃ v', e = .returned (.tuple #[v', .int .i64 zz]) ∧ ∃ own', Hid (Gw w w' own' gw (i + 1) v' (runD none4 (ds.take (i + 1))))) := by
          refine ⟨(deed (runD none4 (ds.take i)) ds[i].1 ds[i].2.1 ds[i].2.2.1 ds[i].2.2.2).1, ?_⟩
          refine JD.out.mono ?_
          rintro e w5 ⟨v5, rfl, hsp⟩
          exact ⟨v5, rfl, HST.out v5 w5 hsp⟩
        clear JD HST
        obtain ⟨zz, je⟩ := JE
        have JF := hide je
        clear je
        generalize hm : runD none4 (ds.take (i + 1)) = sN at *
        have HM := hide hm
        clear hm
        obtain ⟨⟨y0, y1, y2, y3⟩, hy⟩ : ∃ q, q = ds[i] := ⟨_, rfl⟩
        rw [← hy] at JF d0 d1 d2 d3
        have HY := hide hy
        clear hy
        dsimp only at JF d0 d1 d2 d3
        go_wp2_with fail
        refine JF.out.mono ?_
        rintro e w5 ⟨v5, rfl, own5, HG5⟩
        clear JF
        go_wp2_with fail
        go_roundg (400 - (i + 1))
        case measure => omega
        case rel => exact ⟨i + 1, own5, rfl, h4, h1, by simp, by rw [HM.out]; exact HG5⟩
      · obtain rfl : i = 400 := by omega
        have HGF : Hid (Gw w wr own gw 400 u6 (runD none4 (ds.take 400))) := HG
        clear HG
        go_wp2_with fail
        go_ret2
        exact ⟨_, _, own, 400, rfl, Nat.le_refl _, HGF.out⟩
    · obtain rfl : i = n := by omega
      have h1' : ¬ (i : Int) < (i : Int) := by omega
      have HGF : Hid (Gw w wr own gw i u6 (runD none4 (ds.take 400))) := by
        have e : ds.take 400 = ds.take i := by
          have := HN.out
          rw [List.take_of_length_le (by omega), List.take_of_length_le (by omega)]
        rw [e]
        exact HG
      clear HG
      go_wp2_with fail
      go_ret2
      first | exact ⟨_, _, own, i, rfl, hi, HGF.out⟩ | exact ⟨_, _, rfl, own, i, hi, HGF.out⟩ | exact ⟨_, _, own, rfl, i, hi, HGF.out⟩
end Go.Proofs.YtafmiolehlagkaaGreat

/-
  World: three worlds beside one another, each with its list of all.
-/
namespace Go.Proofs.YtafmiolehlagkaaGreat
open Go.RowKit
set_option maxRecDepth 100000
def Tri (w W : World) (o : Nat → Nat → Nat) (g : Nat → Nat) (v : Nat → Value) (N L : Nat) (s : Nat → Sd) : Prop :=
  (∀ i, i < 3 → Wn W (o i) (g i) N usualK (s i).1 (s i).2.1 (s i).2.2.1) ∧
  (∀ i, i < 3 → W.ownsRow w.heap.size 29 2 (v i) (s i).2.2.2.length (ec (s i).2.2.2) ∧ (s i).2.2.2.length ≤ L ∧ ∀ p ∈ (s i).2.2.2, InB ((p.1 : Int), (p.2 : Int))) ∧
  (∀ i j, i < 3 → j < 3 → ∀ k, (v i).ownBlock = some k → o j k = 0) ∧
  (∀ i j, i < 3 → j < 3 → i ≠ j → ∀ k, (v i).ownBlock = some k → (v j).ownBlock ≠ some k) ∧
  (∀ i j, i < 3 → j < 3 → i ≠ j → ∀ k, k < W.heap.size → o i k ≠ 0 → o i k ≠ 2 → o j k = 0) ∧
  (∀ i, i < 3 → ∀ k, k < w.heap.size → o i k = 0) ∧ Below w.heap.size w W
section
variable {w W W' : World} {o o' : Nat → Nat → Nat} {g g' : Nat → Nat} {v v' : Nat → Value} {N L : Nat} {s s' : Nat → Sd}
theorem Tri.congr (h : Tri w W o g v N L s) (h1 : ∀ i, i < 3 → o' i = o i) (h2 : ∀ i, i < 3 → g' i = g i) (h3 : ∀ i, i < 3 → v' i = v i) (h4 : ∀ i, i < 3 → s' i = s i) : Tri w W o' g' v' N L s' := by
  obtain ⟨a1, a2, a3, a4, a5, a6, a7⟩ := h
  refine ⟨fun i hi => ?_, fun i hi => ?_, fun i j hi hj => ?_, fun i j hi hj => ?_, fun i j hi hj => ?_, fun i hi => ?_, a7⟩
  · rw [h1 i hi, h2 i hi, h4 i hi]; exact a1 i hi
  · rw [h3 i hi, h4 i hi]; exact a2 i hi
  · rw [h3 i hi, h1 j hj]; exact a3 i j hi hj
  · rw [h3 i hi, h3 j hj]; exact a4 i j hi hj
  · rw [h1 i hi, h1 j hj]; exact a5 i j hi hj
  · rw [h1 i hi]; exact a6 i hi
theorem Tri.later (h : Tri w W o g v N L s) (hb : Below W.heap.size W W') : Tri w W' (fun i => rel (o i) W 0) g v N L s := by
  obtain ⟨a1, a2, a3, a4, a5, a6, a7⟩ := h
  refine ⟨fun i hi => (a1 i hi).later hb, fun i hi => ⟨own_later (a2 i hi).1 hb, (a2 i hi).2⟩, fun i j hi hj k e => (rel_old ((a2 i hi).1.lt k e).2).trans (a3 i j hi hj k e), a4, fun i j hi hj hij k hk e1 e2 => ?_, fun i hi k hk => (rel_old (Nat.lt_of_lt_of_le hk a7.size)).trans (a6 i hi k hk), below_on a7 hb⟩
  dsimp only at e1 e2 ⊢
  by_cases c : k < W.heap.size
  · rw [rel_old c] at e1 e2 ⊢
    exact a5 i j hi hj hij k c e1 e2
  · exact rel_new (by omega)
/-- One of them does a deed. -/
theorem Tri.turn (h : Tri w W o g v N L s) (i : Nat) (hi : i < 3) (d : Dd) (vi : Value) (hs : Sp W (o i) (g i) N w.heap.size (v i) (dd (s i) d).1 (dd (s i) d).2.1 (dd (s i) d).2.2.1 (dd (s i) d).2.2.2 vi W') :
    ∃ o', Tri w W' o' g (fun j => if j = i then vi else v j) (N + 4) (L + 1) (fun j => if j = i then dd (s i) d else s j) := by
  obtain ⟨a1, a2, a3, a4, a5, a6, a7⟩ := h
  obtain ⟨own', r1, r2, r3, r4, r5, r6⟩ := hs
  have hok := (a1 i hi).ok
  have ha' : (dd (s i) d).2.2.2 = (s i).2.2.2 ∨ (dd (s i) d).2.2.2 = (s i).2.2.2 ++ [takeE (s i).1 (s i).2.1] := deed_all (s i) d.1 d.2.1 d.2.2.1 d.2.2.2
  have hsz := r3.size
  have hB := a7.size
  have hlt : ∀ j, j < 3 → ∀ k, (v j).ownBlock = some k → w.heap.size ≤ k ∧ k < W.heap.size := fun j hj k e => (a2 j hj).1.lt k e
  have hnot : ∀ j, j < 3 → j ≠ i → ∀ k, (v j).ownBlock = some k → ¬ ((o i k ≠ 0 ∧ o i k ≠ 2) ∨ (v i).ownBlock = some k) := fun j hj hji k e c => by
    rcases c with c | c
    · exact c.1 (a3 j i hj hi k e)
    · exact a4 j i hj hi hji k e c
  refine ⟨fun j => if j = i then own' else rel (o j) W 0, fun j hj => ?_, fun j hj => ?_, fun j l hj hl k e => ?_, fun j l hj hl hjl k e => ?_, fun j l hj hl hjl k hk e1 e2 => ?_, fun j hj k hk => ?_, ?_⟩
  · by_cases c : j = i
    · subst c
      simp only [if_true]
      exact r1
    · simp only [if_neg c]
      refine ((a1 j hj).frame r3 (fun k hk e => ?_)).up (by omega)
      rcases e with e | e
      · exact a5 i j hi hj (fun x => c x.symm) k hk e.1 e.2
      · exact a3 i j hi hj k e
  · by_cases c : j = i
    · subst c
      simp only [if_true]
      refine ⟨r4, ?_, fun p hp => ?_⟩
      · rcases ha' with e | e <;> rw [e]
        · have := (a2 j hj).2.1; omega
        · have := (a2 j hj).2.1; simp; omega
      · rcases ha' with e | e
        · rw [e] at hp
          exact (a2 j hj).2.2 p hp
        · rw [e] at hp
          rcases List.mem_append.1 hp with hp | hp
          · exact (a2 j hj).2.2 p hp
          · rw [List.mem_singleton.1 hp]
            exact take_inb hok
    · simp only [if_neg c]
      refine ⟨r3.own (a2 j hj).1 (hnot j hj c), ?_, (a2 j hj).2.2⟩
      have := (a2 j hj).2.1
      omega
  · dsimp only at e ⊢
    by_cases c : j = i
    · rw [if_pos c] at e
      by_cases c2 : l = i
      · rw [if_pos c2]
        exact r5 k e
      · rw [if_neg c2]
        rcases r6 with x | x
        · rw [x] at e
          exact (rel_old (hlt i hi k e).2).trans (a3 i l hi hl k e)
        · exact rel_new (x k e)
    · rw [if_neg c] at e
      by_cases c2 : l = i
      · rw [if_pos c2, r2 k (hlt j hj k e).2]
        exact a3 j i hj hi k e
      · rw [if_neg c2]
        exact (rel_old (hlt j hj k e).2).trans (a3 j l hj hl k e)
  · dsimp only at e ⊢
    by_cases c : j = i
    · rw [if_pos c] at e
      have c2 : l ≠ i := fun x => hjl (c.trans x.symm)
      rw [if_neg c2]
      intro x
      have hx := hlt l hl k x
      rcases r6 with y | y
      · rw [y] at e
        exact a4 i l hi hl (fun z => c2 z.symm) k e x
      · have := y k e
        omega
    · rw [if_neg c] at e
      by_cases c2 : l = i
      · rw [if_pos c2]
        intro x
        have hx := hlt j hj k e
        rcases r6 with y | y
        · rw [y] at x
          exact a4 j i hj hi c k e x
        · have := y k x
          omega
      · rw [if_neg c2]
        exact a4 j l hj hl hjl k e
  · dsimp only at e1 e2 ⊢
    by_cases c : j = i
    · have c2 : l ≠ i := fun x => hjl (c.trans x.symm)
      rw [if_pos c] at e1 e2
      rw [if_neg c2]
      by_cases c3 : k < W.heap.size
      · rw [r2 k c3] at e1 e2
        rw [rel_old c3]
        exact a5 i l hi hl (fun z => c2 z.symm) k c3 e1 e2
      · exact rel_new (by omega)
    · rw [if_neg c] at e1 e2
      by_cases c3 : k < W.heap.size
      · rw [rel_old c3] at e1 e2
        by_cases c2 : l = i
        · rw [if_pos c2, r2 k c3]
          exact a5 j i hj hi c k c3 e1 e2
        · rw [if_neg c2, rel_old c3]
          exact a5 j l hj hl hjl k c3 e1 e2
      · exact absurd (rel_new (by omega)) e1
  · dsimp only
    by_cases c : j = i
    · rw [if_pos c, r2 k (by omega)]
      exact a6 i hi k hk
    · rw [if_neg c, rel_old (by omega)]
      exact a6 j hj k hk
  · refine a7.trans (r3.below hB (fun k e => ?_))
    rcases e with e | e
    · exact Nat.le_of_not_lt (fun hk => e.1 (a6 i hi k hk))
    · exact (hlt i hi k e).1
end
def t3 {α : Type} (a b c : α) (i : Nat) : α := if i = 0 then a else if i = 1 then b else c
def Tr (w W : World) (oa ox oy : Nat → Nat) (ga gx gy : Nat) (va vx vy : Value) (N L : Nat) (sa sx sy : Sd) : Prop := Tri w W (t3 oa ox oy) (t3 ga gx gy) (t3 va vx vy) N L (t3 sa sx sy)
section
variable {w W W' : World} {oa ox oy : Nat → Nat} {ga gx gy : Nat} {va vx vy v' : Value} {N L : Nat} {sa sx sy : Sd}
theorem three (i : Nat) (h : i < 3) : i = 0 ∨ i = 1 ∨ i = 2 := by omega
theorem Tr.later (h : Tr w W oa ox oy ga gx gy va vx vy N L sa sx sy) (hb : Below W.heap.size W W') : Tr w W' (rel oa W 0) (rel ox W 0) (rel oy W 0) ga gx gy va vx vy N L sa sx sy := by
  refine (Tri.later h hb).congr (fun i hi => ?_) (fun i hi => rfl) (fun i hi => rfl) (fun i hi => rfl)
  rcases three i hi with rfl | rfl | rfl <;> rfl
theorem Tr.wn0 (h : Tr w W oa ox oy ga gx gy va vx vy N L sa sx sy) : Wn W oa ga N usualK sa.1 sa.2.1 sa.2.2.1 := h.1 0 (by omega)
theorem Tr.wn1 (h : Tr w W oa ox oy ga gx gy va vx vy N L sa sx sy) : Wn W ox gx N usualK sx.1 sx.2.1 sx.2.2.1 := h.1 1 (by omega)
theorem Tr.wn2 (h : Tr w W oa ox oy ga gx gy va vx vy N L sa sx sy) : Wn W oy gy N usualK sy.1 sy.2.1 sy.2.2.1 := h.1 2 (by omega)
theorem Tr.own0 (h : Tr w W oa ox oy ga gx gy va vx vy N L sa sx sy) : W.ownsRow w.heap.size 29 2 va sa.2.2.2.length (ec sa.2.2.2) := (h.2.1 0 (by omega)).1
theorem Tr.own1 (h : Tr w W oa ox oy ga gx gy va vx vy N L sa sx sy) : W.ownsRow w.heap.size 29 2 vx sx.2.2.2.length (ec sx.2.2.2) := (h.2.1 1 (by omega)).1
theorem Tr.own2 (h : Tr w W oa ox oy ga gx gy va vx vy N L sa sx sy) : W.ownsRow w.heap.size 29 2 vy sy.2.2.2.length (ec sy.2.2.2) := (h.2.1 2 (by omega)).1
theorem Tr.below (h : Tr w W oa ox oy ga gx gy va vx vy N L sa sx sy) : Below w.heap.size w W := h.2.2.2.2.2.2
/-- The deed of one of them. -/
theorem Tr.tdo0 (h : Tr w W oa ox oy ga gx gy va vx vy N L sa sx sy) (hN : N ≤ 800000) (hL : L ≤ 1000) (d : Dd) (hd : DdOk d) :
    Calls Tryz.prog 21 #[.pointer (some ⟨ga, 0, none⟩), va, .agg #[.int .i64 d.1, .int .i64 d.2.1, .int .i64 d.2.2.1, .int .i64 d.2.2.2]] W fun e W' => ∃ v', e = .returned (.tuple #[v', .int .i64 (deed sa d.1 d.2.1 d.2.2.1 d.2.2.2).1]) ∧ ∃ oa' ox' oy', Tr w W' oa' ox' oy' ga gx gy v' vx vy (N + 4) (L + 1) (dd sa d) sx sy := by
  obtain ⟨f0, f1, f2, f3⟩ := hd
  have a2 := h.2.1 0 (by omega)
  refine (does_any h.wn0 hN h.own0 (Nat.le_trans a2.2.1 hL) h.below.size (h.2.2.1 0 0 (by omega) (by omega)) a2.2.2 d.1 d.2.1 d.2.2.1 d.2.2.2 f0.1 f0.2 f1.1 f1.2 f2.1 f2.2).mono ?_
  rintro e W' ⟨v', rfl, hsp⟩
  obtain ⟨o', hT⟩ := Tri.turn h 0 (by omega) d v' hsp
  refine ⟨v', rfl, o' 0, o' 1, o' 2, hT.congr (fun i hi => ?_) (fun i hi => ?_) (fun i hi => ?_) (fun i hi => ?_)⟩ <;> rcases three i hi with rfl | rfl | rfl <;> rfl
theorem Tr.tdo1 (h : Tr w W oa ox oy ga gx gy va vx vy N L sa sx sy) (hN : N ≤ 800000) (hL : L ≤ 1000) (d : Dd) (hd : DdOk d) :
    Calls Tryz.prog 21 #[.pointer (some ⟨gx, 0, none⟩), vx, .agg #[.int .i64 d.1, .int .i64 d.2.1, .int .i64 d.2.2.1, .int .i64 d.2.2.2]] W fun e W' => ∃ v', e = .returned (.tuple #[v', .int .i64 (deed sx d.1 d.2.1 d.2.2.1 d.2.2.2).1]) ∧ ∃ oa' ox' oy', Tr w W' oa' ox' oy' ga gx gy va v' vy (N + 4) (L + 1) sa (dd sx d) sy := by
  obtain ⟨f0, f1, f2, f3⟩ := hd
  have a2 := h.2.1 1 (by omega)
  refine (does_any h.wn1 hN h.own1 (Nat.le_trans a2.2.1 hL) h.below.size (h.2.2.1 1 1 (by omega) (by omega)) a2.2.2 d.1 d.2.1 d.2.2.1 d.2.2.2 f0.1 f0.2 f1.1 f1.2 f2.1 f2.2).mono ?_
  rintro e W' ⟨v', rfl, hsp⟩
  obtain ⟨o', hT⟩ := Tri.turn h 1 (by omega) d v' hsp
  refine ⟨v', rfl, o' 0, o' 1, o' 2, hT.congr (fun i hi => ?_) (fun i hi => ?_) (fun i hi => ?_) (fun i hi => ?_)⟩ <;> rcases three i hi with rfl | rfl | rfl <;> rfl
theorem Tr.tdo2 (h : Tr w W oa ox oy ga gx gy va vx vy N L sa sx sy) (hN : N ≤ 800000) (hL : L ≤ 1000) (d : Dd) (hd : DdOk d) :
    Calls Tryz.prog 21 #[.pointer (some ⟨gy, 0, none⟩), vy, .agg #[.int .i64 d.1, .int .i64 d.2.1, .int .i64 d.2.2.1, .int .i64 d.2.2.2]] W fun e W' => ∃ v', e = .returned (.tuple #[v', .int .i64 (deed sy d.1 d.2.1 d.2.2.1 d.2.2.2).1]) ∧ ∃ oa' ox' oy', Tr w W' oa' ox' oy' ga gx gy va vx v' (N + 4) (L + 1) sa sx (dd sy d) := by
  obtain ⟨f0, f1, f2, f3⟩ := hd
  have a2 := h.2.1 2 (by omega)
  refine (does_any h.wn2 hN h.own2 (Nat.le_trans a2.2.1 hL) h.below.size (h.2.2.1 2 2 (by omega) (by omega)) a2.2.2 d.1 d.2.1 d.2.2.1 d.2.2.2 f0.1 f0.2 f1.1 f1.2 f2.1 f2.2).mono ?_
  rintro e W' ⟨v', rfl, hsp⟩
  obtain ⟨o', hT⟩ := Tri.turn h 2 (by omega) d v' hsp
  refine ⟨v', rfl, o' 0, o' 1, o' 2, hT.congr (fun i hi => ?_) (fun i hi => ?_) (fun i hi => ?_) (fun i hi => ?_)⟩ <;> rcases three i hi with rfl | rfl | rfl <;> rfl
end
end Go.Proofs.YtafmiolehlagkaaGreat

/-
  World: how the three worlds come about.
-/
namespace Go.Proofs.YtafmiolehlagkaaGreat
open Go.RowKit
set_option maxRecDepth 100000
section
variable {w W W' : World} {o : Nat → Nat → Nat} {g : Nat → Nat} {v : Nat → Value} {N L : Nat} {s : Nat → Sd}
/-- One of them gets a list of its own. -/
theorem Tri.list (h : Tri w W o g v N L s) (i : Nat) (hi : i < 3) (vi : Value) (A : List (Nat × Nat)) (hb : Below W.heap.size W W') (ho : W'.ownsRow W.heap.size 29 2 vi A.length (ec A)) (hL : A.length ≤ L) (hA : ∀ p ∈ A, InB ((p.1 : Int), (p.2 : Int))) :
    Tri w W' (fun j => rel (o j) W 0) g (fun j => if j = i then vi else v j) N L (fun j => if j = i then ((s i).1, (s i).2.1, (s i).2.2.1, A) else s j) := by
  obtain ⟨a1, a2, a3, a4, a5, a6, a7⟩ := h.later hb
  have hB := h.2.2.2.2.2.2.size
  have hnew : ∀ k, vi.ownBlock = some k → W.heap.size ≤ k := fun k e => (ho.lt k e).1
  have hold : ∀ j, j < 3 → ∀ k, (v j).ownBlock = some k → k < W.heap.size := fun j hj k e => ((h.2.1 j hj).1.lt k e).2
  refine ⟨fun j hj => ?_, fun j hj => ?_, fun j l hj hl k e => ?_, fun j l hj hl hjl k e => ?_, a5, a6, a7⟩
  · by_cases c : j = i
    · subst c
      simp only [if_true]
      exact a1 j hj
    · simp only [if_neg c]
      exact a1 j hj
  · by_cases c : j = i
    · subst c
      simp only [if_true]
      exact ⟨own_lower ho hB, hL, hA⟩
    · simp only [if_neg c]
      exact a2 j hj
  · dsimp only at e
    by_cases c : j = i
    · rw [if_pos c] at e
      exact rel_new (hnew k e)
    · rw [if_neg c] at e
      exact a3 j l hj hl k e
  · dsimp only at e ⊢
    by_cases c : j = i
    · rw [if_pos c] at e
      have c2 : l ≠ i := fun x => hjl (c.trans x.symm)
      rw [if_neg c2]
      intro x
      have h1 := hnew k e
      have h2 := hold l hl k x
      omega
    · rw [if_neg c] at e
      by_cases c2 : l = i
      · rw [if_pos c2]
        intro x
        have h1 := hnew k x
        have h2 := hold j hj k e
        omega
      · rw [if_neg c2]
        exact a4 j l hj hl hjl k e
end
section
variable {w W W' : World} {oa ox oy : Nat → Nat} {ga gx gy : Nat} {va vx vy v' : Value} {N L : Nat} {sa sx sy : Sd}
theorem Tr.list1 (h : Tr w W oa ox oy ga gx gy va vx vy N L sa sx sy) (A : List (Nat × Nat)) (hb : Below W.heap.size W W') (ho : W'.ownsRow W.heap.size 29 2 v' A.length (ec A)) (hL : A.length ≤ L) (hA : ∀ p ∈ A, InB ((p.1 : Int), (p.2 : Int))) : Tr w W' (rel oa W 0) (rel ox W 0) (rel oy W 0) ga gx gy va v' vy N L sa (sx.1, sx.2.1, sx.2.2.1, A) sy := by
  refine (Tri.list h 1 (by omega) v' A hb ho hL hA).congr (fun i hi => ?_) (fun i hi => ?_) (fun i hi => ?_) (fun i hi => ?_) <;> rcases three i hi with rfl | rfl | rfl <;> rfl
theorem Tr.list2 (h : Tr w W oa ox oy ga gx gy va vx vy N L sa sx sy) (A : List (Nat × Nat)) (hb : Below W.heap.size W W') (ho : W'.ownsRow W.heap.size 29 2 v' A.length (ec A)) (hL : A.length ≤ L) (hA : ∀ p ∈ A, InB ((p.1 : Int), (p.2 : Int))) : Tr w W' (rel oa W 0) (rel ox W 0) (rel oy W 0) ga gx gy va vx v' N L sa sx (sy.1, sy.2.1, sy.2.2.1, A) := by
  refine (Tri.list h 2 (by omega) v' A hb ho hL hA).congr (fun i hi => ?_) (fun i hi => ?_) (fun i hi => ?_) (fun i hi => ?_) <;> rcases three i hi with rfl | rfl | rfl <;> rfl
/-- The three, once the second was read and the third cloned. -/
theorem Tr.start {w1 w3 w4 w5 : World} {own : Nat → Nat} {gw i : Nat} {v : Value} {s : Sd} (h : Gw w w1 own gw i v s) (hi : i ≤ 400) (hb3 : Below w1.heap.size w1 w3) (hb4 : Below w3.heap.size w3 w4) (hx : Wn w4 ox gx 600 usualK s.1 s.2.1 s.2.2.1) (hx0 : ∀ k, k < w3.heap.size → ox k = 0) (hb5 : Below w4.heap.size w4 w5) (hy : Wn w5 oy gy (4 * i + 8192) usualK s.1 s.2.1 s.2.2.1) (hy0 : ∀ k, k < w4.heap.size → oy k = if rel own w1 0 k = 2 then 2 else 0) :
    Tr w w5 (rel own w1 0) (rel ox w4 0) oy gw gx gy v (.slice none 0 0) (.slice none 0 0) 10000 400 s (s.1, s.2.1, s.2.2.1, []) (s.1, s.2.1, s.2.2.1, []) := by
  obtain ⟨h1, h2, h3, h4, h5, h6, h7⟩ := h
  have hb14 := below_on hb3 hb4
  have hb15 := below_on hb14 hb5
  have z1 := h6.size
  have z3 := hb3.size
  have z4 := hb4.size
  have z5 := hb5.size
  have hnone : ∀ k, (Value.slice none 0 0).ownBlock = some k → False := fun k e => by simp [Value.ownBlock] at e
  have hA : ∀ k, v.ownBlock = some k → w.heap.size ≤ k ∧ k < w1.heap.size := fun k e => h2.lt k e
  have hnw : ∀ k, v.ownBlock = some k → rel own w1 0 k = 0 := fun k e => (rel_old (hA k e).2).trans (h3 k e)
  refine ⟨fun j hj => ?_, fun j hj => ?_, fun j l hj hl k e => ?_, fun j l hj hl hjl k e => ?_, fun j l hj hl hjl k hk e1 e2 => ?_, fun j hj k hk => ?_, below_on h6 hb15⟩
  · rcases three j hj with rfl | rfl | rfl
    · exact (h1.later hb15).up (by omega)
    · exact (hx.later hb5).up (by omega)
    · exact hy.up (by omega)
  · rcases three j hj with rfl | rfl | rfl
    · exact ⟨own_later h2 hb15, Nat.le_trans h4 hi, h5⟩
    · exact ⟨World.ownsRow_nil _ _ _ _, Nat.zero_le _, fun p hp => by cases hp⟩
    · exact ⟨World.ownsRow_nil _ _ _ _, Nat.zero_le _, fun p hp => by cases hp⟩
  · rcases three j hj with rfl | rfl | rfl
    · have e' : v.ownBlock = some k := e
      have hk := hA k e'
      rcases three l hl with rfl | rfl | rfl
      · exact hnw k e'
      · show rel ox w4 0 k = 0
        rw [rel_old (by omega)]
        exact hx0 k (by omega)
      · show oy k = 0
        rw [hy0 k (by omega), hnw k e']
        rfl
    · exact (hnone k e).elim
    · exact (hnone k e).elim
  · rcases three j hj with rfl | rfl | rfl
    · rcases three l hl with rfl | rfl | rfl
      · exact absurd rfl hjl
      · exact fun x => (hnone k x).elim
      · exact fun x => (hnone k x).elim
    · exact (hnone k e).elim
    · exact (hnone k e).elim
  · have ka : ∀ q, rel own w1 0 q ≠ 0 → q < w1.heap.size := fun q e => Nat.lt_of_not_le (fun c => e (rel_new c))
    have kx : ∀ q, rel ox w4 0 q ≠ 0 → w3.heap.size ≤ q ∧ q < w4.heap.size := fun q e => by
      have c1 : q < w4.heap.size := Nat.lt_of_not_le (fun c => e (rel_new c))
      rw [rel_old c1] at e
      exact ⟨Nat.le_of_not_lt (fun c => e (hx0 q c)), c1⟩
    rcases three j hj with rfl | rfl | rfl
    · have e1' : rel own w1 0 k ≠ 0 := e1
      have e2' : rel own w1 0 k ≠ 2 := e2
      have hk1 := ka k e1'
      rcases three l hl with rfl | rfl | rfl
      · exact absurd rfl hjl
      · show rel ox w4 0 k = 0
        exact Classical.byContradiction (fun c => by have := kx k c; omega)
      · show oy k = 0
        rw [hy0 k (by omega), if_neg e2']
    · have hk1 := kx k e1
      rcases three l hl with rfl | rfl | rfl
      · show rel own w1 0 k = 0
        exact rel_new (by omega)
      · exact absurd rfl hjl
      · show oy k = 0
        rw [hy0 k (by omega), rel_new (by omega)]
        rfl
    · have e1' : oy k ≠ 0 := e1
      have e2' : oy k ≠ 2 := e2
      have hk1 : w4.heap.size ≤ k := Nat.le_of_not_lt (fun c => by
        rw [hy0 k c] at e1' e2'
        by_cases d : rel own w1 0 k = 2
        · rw [if_pos d] at e2'
          exact e2' rfl
        · rw [if_neg d] at e1'
          exact e1' rfl)
      rcases three l hl with rfl | rfl | rfl
      · show rel own w1 0 k = 0
        exact rel_new (by omega)
      · show rel ox w4 0 k = 0
        exact rel_new hk1
      · exact absurd rfl hjl
  · rcases three j hj with rfl | rfl | rfl
    · show rel own w1 0 k = 0
      rw [rel_old (by omega)]
      exact h7 k hk
    · show rel ox w4 0 k = 0
      rw [rel_old (by omega)]
      exact hx0 k (by omega)
    · show oy k = 0
      rw [hy0 k (by omega), rel_old (by omega), h7 k hk]
      rfl
end
end Go.Proofs.YtafmiolehlagkaaGreat

/-
  World: a list of entities, copied behind an empty one.
-/
namespace Go.Proofs.YtafmiolehlagkaaGreat
open Go.RowKit
set_option maxRecDepth 100000
theorem infoE : (Tryz.prog.info? 29).map (fun i => (i.zero, i.size, i.bytes)) = some (some (.agg #[.int .i64 0, .int .i64 0]), 2, 16) := by kernel_rfl
theorem wpList_append_all {w : World} {ops : Array Oper} {rest : List Oper} {o : Oper} {a : Act} {Q : Exit → Act → World → Prop} (hgd : o.guard = none) (s x : Operand)
    (ho : o.op = .call { callee := .builtin .append, args := #[s, x], argTypes := #[39, 39] }) (A : List (Nat × Nat)) (B : Nat) (v : Value) (hv : w.ownsRow B 29 2 v A.length (ec A)) (hn : A.length ≤ 1000)
    (hs : a.eval s = .slice (some ⟨w.heap.size, 0, none⟩) 0 0) (hx : a.eval x = v)
    (h : ∀ v' w', w'.ownsRow w.heap.size 29 2 v' A.length (ec A) → Below w.heap.size w w' → wpList Tryz.prog ops Q rest (a.put o.dst v') w') :
    wpList Tryz.prog ops Q (o :: rest) a (w.alloc (.cells #[] 29)) := by
  obtain ⟨i0, hi, hz0, hz1, hz2⟩ := info_parts infoE
  have hb := below_alloc w (.cells #[] 29)
  have hlit : (w.alloc (.cells #[] 29)).ownsRow w.heap.size 29 2 (.slice (some ⟨w.heap.size, 0, none⟩) 0 0) 0 [] := World.ownsRow_lit w #[] 0 (Nat.le_refl _) (Nat.zero_le _) rfl
  have hv' := own_later hv hb
  rcases hv.2 with ⟨rfl, hl⟩ | ⟨g, c, cur, rfl, -, hg, h1, h2, hcs, htake⟩
  · have hA : A = [] := List.eq_nil_of_length_eq_zero hl
    subst hA
    exact wpList_append_own_none hgd s x 39 ho w.heap.size 29 i0 2 Tryz.underlying39 hi _ 0 [] hs hlit hx (h _ _ hlit hb)
  · refine wpList_append_own_at _ hgd s x 39 ho w.heap.size 29 i0 (.agg #[.int .i64 0, .int .i64 0]) 2 16 Tryz.underlying39 hi hz0 hz1 hz2 rfl (by decide) _ 0 [] hs hlit ⟨g, 0, none⟩ A.length c (ec A) hx (ec_len A) (fun j u hj => ?_) (fun u hu => ?_) (by unfold maxLen; omega) (by omega) (by simp) (fun v' w' g1 g2 _ _ => ?_)
    · have hj2 : j < (ec A).length := (List.getElem?_eq_some_iff.1 hj).1
      rw [add_at, Nat.zero_add, hv'.cellAt j (by rw [ec_len] at hj2; exact hj2)]
      exact hj
    · exact ec_one A u hu
    · rw [Nat.zero_add, List.nil_append] at g1
      refine h v' w' g1 (hb.grown g2 (by simp) (fun k e => ?_))
      simp [Value.ownBlock] at e
      omega
/-- A region that draws its order: the condition on the world may grow on the way. -/
theorem wpAnyH_more2 {P : Program} {md : Region.Mode} {ops : Array Oper} {Q : Exit → Act → World → Prop} {S S' : World → Prop} (h : ∀ w, S' w → S w) :
    ∀ (fuel : Nat) (listed : Array Bool) (a : Act) (w : World), wpAnyH P md ops Q S' fuel listed a w → wpAnyH P md ops Q S fuel listed a w
  | 0, _, _, _, hw => hw
  | fuel + 1, _, _, _, hw => ⟨hw.1, fun i hi => wpOp_mono (fun _ _ hk => ⟨h _ hk.1, wpAnyH_more2 h fuel _ _ _ hk.2⟩) (hw.2 i hi)⟩
theorem Wn.sb2 {w : World} {own : Nat → Nat} {gw N : Nat} {ks : List Kind} {gs fr : List Nat} {C : Co} (h : Wn w own gw N ks gs fr C) {e : Int × Int} {s : Nat} {vals : List Int} (hc : C e = some (s, vals)) : Sb ks s ∧ vals.length = fsum ks s 1 := by
  obtain ⟨vk, gp, gm, gt, q, T, h1, h2, h3, h4, h5, h6⟩ := h
  obtain ⟨-, ⟨g, hq⟩, -⟩ := h2.1 e s (fC_some hc)
  obtain ⟨k1, k2, -⟩ := h2.2 s g hq
  obtain ⟨j, hj, -, e2⟩ := h3 e s vals hc
  exact ⟨k1.2, by rw [← e2, rowOf_len, k2]⟩
end Go.Proofs.YtafmiolehlagkaaGreat

/-
  Clone.
-/
namespace Go.Proofs.YtafmiolehlagkaaGreat
open Go.RowKit
set_option maxRecDepth 100000
set_option maxHeartbeats 1000000 in
theorem i_clone_ents (v : Value) (l : List (Nat × Nat)) (w : World) (h : w.ownsRow 0 29 2 v l.length (ec l)) (hn : l.length ≤ 1000000) :
    Calls Tryz.prog 141 #[v] w fun e w' => ∃ v', e = .returned v' ∧ w'.ownsRow w.heap.size 29 2 v' l.length (ec l) ∧ Below w.heap.size w w' := by
  obtain ⟨i0, hi, hz0, hz1, hz2⟩ := info_parts info41
  have q47 : ∀ (w : World) (a : Option Addr) (n c n' c' : Nat), (binOp .eql 39 (.slice a n c) (.slice none n' c')).run Tryz.prog w = .ok (.bool a.isNone) w := fun w a n c n' c' => Lib.run_eql_slice_nil w _ _ a n c n' c' Tryz.underlying39
  rcases h.2 with ⟨rfl, hl⟩ | ⟨g, cap, cur, rfl, -, hg, h1, h2, hcs, htake⟩
  · obtain rfl : l = [] := List.eq_nil_of_length_eq_zero (by omega)
    clear h hl
    go_enter Tryz.func141, Tryz.ntmps141
    go_wp2_with fail
    go_ret
    exact ⟨_, rfl, World.ownsRow_nil _ _ _ _, Below.refl _ _⟩
  · have H := hide h
    clear h hg hcs htake
    go_enter Tryz.func141, Tryz.ntmps141
    go_wp2_with (at_builtin; refine wpList_append_own_at _ rfl _ _ 39 rfl w.heap.size 29 i0 (.agg #[.int .i64 0, .int .i64 0]) 2 16 Tryz.underlying39 hi hz0 hz1 hz2 rfl (by decide) _ 0 [] rfl (World.ownsRow_lit w #[] 0 (Nat.le_refl _) (Nat.zero_le _) rfl) ⟨g, 0, none⟩ l.length cap (ec l) rfl (by rw [ec_len]) ?c1 (ec_one l) (by unfold maxLen; omega) (by omega) (by simp) ?_)
    case c1 => exact (H.out.alloc _).cells rfl
    intro v' w' ho hg _ _
    obtain ⟨ao, c, rfl⟩ := own_len ho
    have HO := hide ho
    have HG := hide hg
    clear ho hg
    go_wp2_with fail
    go_ret
    refine ⟨_, rfl, ?_, (below_alloc w _).grown HG.out (by simp) (fun k e => ?_)⟩
    · have := HO.out
      simpa using this
    · simp [Value.ownBlock] at e
      omega
set_option maxHeartbeats 4000000 in
set_option maxRecDepth 100000 in
theorem cloned_pm (g n : Nat) (vg vl vf : Value) (gs fr : List Nat) (lv : List (Nat × Nat)) (w : World) (h : Pm w g n vg vl vf gs fr lv) (hg : gs.length ≤ 1000000) (hl : lv.length ≤ 1000000) (hf : fr.length ≤ 1000000) :
    Calls Tryz.prog 69 #[.pointer (some ⟨g, 0, none⟩)] w fun e w' => ∃ g' v1 v2 v3, e = .returned (.pointer (some ⟨g', 0, none⟩)) ∧ Pm w' g' n v1 v2 v3 gs fr lv ∧ (∀ k, k = g' ∨ v1.ownBlock = some k ∨ v2.ownBlock = some k ∨ v3.ownBlock = some k → w.heap.size ≤ k) ∧ Below w.heap.size w w' := by
  obtain ⟨c0, c1, c2, c3⟩ := h.cell
  have J1 : Hid (∀ W, Below w.heap.size w W → Calls Tryz.prog 110 #[vg] W fun e w' => ∃ v', e = .returned v' ∧ Hid (w'.ownsRow w.heap.size 3 1 v' gs.length (ic gs) ∧ Below w.heap.size w w') ∧ w'.cell? ⟨g, 0, none⟩ = some (.int .i64 (n : Int)) ∧ w'.cell? ⟨g, 1, none⟩ = some vg ∧ w'.cell? ⟨g, 2, none⟩ = some vl ∧ w'.cell? ⟨g, 3, none⟩ = some vf) := fun W hW =>
    (i_clone_any vg gs.length gs W (own_later h.2.1 hW) hg).mono (by
      rintro e w' ⟨v', rfl, ho, hb⟩
      have hx := below_on hW hb
      exact ⟨v', rfl, ⟨own_lower ho hW.size, hx⟩, (h.later hx).cell⟩)
  have J2 : Hid (∀ W v1, W.ownsRow w.heap.size 3 1 v1 gs.length (ic gs) → Below w.heap.size w W → Calls Tryz.prog 141 #[vl] W fun e w' => ∃ v', e = .returned v' ∧ Hid (w'.ownsRow w.heap.size 3 1 v1 gs.length (ic gs) ∧ w'.ownsRow w.heap.size 29 2 v' lv.length (ec lv) ∧ Ap v1 v' ∧ Below w.heap.size w w') ∧ w'.cell? ⟨g, 0, none⟩ = some (.int .i64 (n : Int)) ∧ w'.cell? ⟨g, 1, none⟩ = some vg ∧ w'.cell? ⟨g, 2, none⟩ = some vl ∧ w'.cell? ⟨g, 3, none⟩ = some vf) := fun W v1 h1 hW =>
    (i_clone_ents vl lv W (own_later h.2.2.1 hW) hl).mono (by
      rintro e w' ⟨v', rfl, ho, hb⟩
      have hx := below_on hW hb
      refine ⟨v', rfl, ⟨own_later h1 hb, own_lower ho hW.size, fun k e1 e2 => ?_, hx⟩, (h.later hx).cell⟩
      have := (h1.lt k e1).2
      have := (ho.lt k e2).1
      omega)
  have J3 : Hid (∀ W v1 v2, W.ownsRow w.heap.size 3 1 v1 gs.length (ic gs) → W.ownsRow w.heap.size 29 2 v2 lv.length (ec lv) → Ap v1 v2 → Below w.heap.size w W → Calls Tryz.prog 110 #[vf] W fun e w' => ∃ v', e = .returned v' ∧ Hid (w'.ownsRow w.heap.size 3 1 v1 gs.length (ic gs) ∧ w'.ownsRow w.heap.size 29 2 v2 lv.length (ec lv) ∧ w'.ownsRow w.heap.size 3 1 v' fr.length (ic fr) ∧ Ap v1 v2 ∧ Ap v1 v' ∧ Ap v2 v' ∧ Below w.heap.size w w') ∧ w'.cell? ⟨g, 0, none⟩ = some (.int .i64 (n : Int)) ∧ w'.cell? ⟨g, 1, none⟩ = some vg ∧ w'.cell? ⟨g, 2, none⟩ = some vl ∧ w'.cell? ⟨g, 3, none⟩ = some vf) := fun W v1 v2 h1 h2 h12 hW =>
    (i_clone_any vf fr.length fr W (own_later h.2.2.2.1 hW) hf).mono (by
      rintro e w' ⟨v', rfl, ho, hb⟩
      have hx := below_on hW hb
      refine ⟨v', rfl, ⟨own_later h1 hb, own_later h2 hb, own_lower ho hW.size, h12, fun k e1 e2 => ?_, fun k e1 e2 => ?_, hx⟩, (h.later hx).cell⟩
      · have := (h1.lt k e1).2
        have := (ho.lt k e2).1
        omega
      · have := (h2.lt k e1).2
        have := (ho.lt k e2).1
        omega)
  clear h
  go_enter Tryz.func69, Tryz.ntmps69
  go_wp2_with fail
  go_region_held3 (fun W => W.cell? ⟨g, 0, none⟩ = some (.int .i64 (n : Int)) ∧ W.cell? ⟨g, 1, none⟩ = some vg ∧ W.cell? ⟨g, 2, none⟩ = some vl ∧ W.cell? ⟨g, 3, none⟩ = some vf) (go_keep) (first | (go_at_call 141; refine (J2.out _ _ HH.out.1 HH.out.2).mono ?_; rintro e w2 ⟨v2, rfl, HH2, x0, x1, x2, x3⟩; obtain ⟨a2, k2, rfl⟩ := own_len HH2.out.2.1) | (go_at_call 110; refine (J3.out _ _ _ HH2.out.1 HH2.out.2.1 HH2.out.2.2.1 HH2.out.2.2.2).mono ?_; rintro e w3 ⟨v3, rfl, HH3, y0, y1, y2, y3⟩; obtain ⟨a3, k3, rfl⟩ := own_len HH3.out.2.2.1) | (go_at_call 110; refine (J1.out _ (below_drew w)).mono ?_; rintro e w1 ⟨v1, rfl, HH, d0, d1, d2, d3⟩; obtain ⟨a1, k1, rfl⟩ := own_len HH.out.1))
  all_goals
    go_wp2_with fail
    go_ret
    obtain ⟨r1, r2, r3, r4, r5, r6, r7⟩ := HH3.out
    have hba := below_alloc w3 (.cells #[.int .i64 (n : Int), .slice a1 gs.length k1, .slice a2 lv.length k2, .slice a3 fr.length k3] 163)
    have hs := r7.size
    have hn : ∀ (v : Value), (∀ k, v.ownBlock = some k → k < w3.heap.size) → v.ownBlock ≠ some w3.heap.size := fun v hv e => by have := hv _ e; omega
    refine ⟨w3.heap.size, _, _, _, rfl, ⟨heap_alloc_new w3 _, own_lower (own_later r1 hba) (Nat.zero_le _), own_lower (own_later r2 hba) (Nat.zero_le _), own_lower (own_later r3 hba) (Nat.zero_le _), ⟨hn _ (fun k e => (r1.lt k e).2), hn _ (fun k e => (r2.lt k e).2), hn _ (fun k e => (r3.lt k e).2)⟩, r4, r5, r6⟩, fun k e => ?_, below_on r7 hba⟩
    rcases e with rfl | e | e | e
    · exact hs
    · exact (r1.lt k e).1
    · exact (r2.lt k e).1
    · exact (r3.lt k e).1
theorem i_cloned_any {w : World} {S : Nat → Prop} {g n : Nat} {gs fr : List Nat} (h : Pl w S g n gs fr) :
    Calls Tryz.prog 69 #[.pointer (some ⟨g, 0, none⟩)] w fun e w' => ∃ g', e = .returned (.pointer (some ⟨g', 0, none⟩)) ∧ Pl w' (fun k => w.heap.size ≤ k) g' n gs fr ∧ Below w.heap.size w w' := by
  obtain ⟨⟨vg, vl, vf, hp, _⟩, ho⟩ := h
  have h1 := ho.2.2.1
  have h2 := ho.2.1
  have h3 := ho.free_len
  refine (cloned_pm g n vg vl vf gs fr _ w hp (by omega) (by rw [lvOf_len]; omega) (by omega)).mono ?_
  rintro e w' ⟨g', v1, v2, v3, rfl, q1, q2, q3⟩
  exact ⟨g', rfl, ⟨⟨v1, v2, v3, q1, q2 _ (.inl rfl), fun k e => q2 k (.inr (.inl e)), fun k e => q2 k (.inr (.inr (.inl e))), fun k e => q2 k (.inr (.inr (.inr e)))⟩, ho⟩, q3⟩
end Go.Proofs.YtafmiolehlagkaaGreat

/-
  World: Clone: a world beside another one, of the same kinds.
-/
namespace Go.Proofs.YtafmiolehlagkaaGreat
open Go.RowKit
set_option maxRecDepth 100000
/-- The tables of the sets S are cloned: o says whose each new block is, p where each clone lies. -/
def Cz (w : World) (gt M : Nat) (q : Nat → Option Nat) (T : Nat → Ts) (W : World) (S : List Nat) (cnt : Nat) (o : Nat → Nat) (p : Nat → Option Nat) : Prop :=
  Rq W gt (w.heap.size + 1) M q S cnt ∧ Mq W w.heap.size S.length p ∧ (∀ s, (p s).isSome = true ↔ s ∈ S) ∧ (∀ s g, p s = some g → TbS W (fun k => k < W.heap.size ∧ w.heap.size + 1 < k ∧ o k = 10 + s) g (T s) M) ∧ Below w.heap.size w W
section
variable {w w' : World} {own : Nat → Nat} {gw gp gm gt M M' : Nat} {vk : Value} {ks : List Kind} {gs fr gs' fr' : List Nat} {f f' : Int × Int → Option Nat} {q q' : Nat → Option Nat} {T T' : Nat → Ts} {S : List Nat} {cnt : Nat} {W : World} {o : Nat → Nat} {p : Nat → Option Nat}
theorem Cz.short (h : Cz w gt M q T W S cnt o p) (hw : Wi ks f q T) : S.length ≤ 8192 := by
  obtain ⟨⟨D, left, -, a2, a3, -⟩, -⟩ := h
  refine nodup_len 8192 S a2 (fun s hs => ?_)
  obtain ⟨g, hg⟩ := Option.isSome_iff_exists.1 (a3 s hs).2
  exact (hw.2 s g hg).1.1
theorem Cz.fin (h : Cz w gt M q T W S 0 o p) (hw : Wi ks f q T) : ∀ s, (p s).isSome = (q s).isSome := by
  obtain ⟨h1, h2, h3, -⟩ := h
  intro s
  cases hq : q s with
  | none =>
    have : s ∉ S := fun hs => by
      obtain ⟨D, left, -, -, a3, -⟩ := h1
      have := (a3 s hs).2
      rw [hq] at this
      cases this
    have h4 : ¬ (p s).isSome = true := fun e => this ((h3 s).1 e)
    simpa using h4
  | some g =>
    have := (hw.2 s g hq).1.1
    have h4 := (h3 s).2 (h1.done rfl s (by omega) (by rw [hq]; rfl))
    rw [h4]
    rfl
/-- One table more. -/
theorem Cz.step {w1 w5 w9 : World} {s g' cnt1 : Nat} (h : Cz w gt M q T W S cnt o p) (hgt : gt < w.heap.size) (hs : s ∉ S) (n5 : Rq w1 gt (w.heap.size + 1) M q (S ++ [s]) cnt1) (n7 : W.grownBy w1 (some (w.heap.size + 1))) (hsz : w1.heap.size = W.heap.size) (hb5 : Below w1.heap.size w1 w5) (ht : TbS w5 (fun k => w1.heap.size ≤ k) g' (T s) M) (hm9 : Mq w9 w.heap.size (S.length + 1) (fun x => if x = s then some g' else p x)) (ht9 : w5.mapTurned w9 w.heap.size) (hW : w.heap.size + 2 ≤ W.heap.size) :
    Cz w gt M q T w9 (S ++ [s]) cnt1 (fun k => if k < w1.heap.size then o k else 10 + s) (fun x => if x = s then some g' else p x) := by
  obtain ⟨h1, h2, h3, h4, h5⟩ := h
  have hm19 : Mv w1 w9 (fun k => k = w.heap.size) := (Mv.of_below hb5 (fun k => k = w.heap.size)).trans (mv_turned ht9) (fun k _ e => e)
  have hm7 : Mv W w1 (fun k => k = w.heap.size + 1) := ⟨n7.1, n7.2, n7.3, n7.size, fun k hk e => n7.block k hk (fun e' => e (by simpa using e'))⟩
  have hmW : Mv W w9 (fun k => k = w.heap.size ∨ k = w.heap.size + 1) := (hm7.mono (fun _ _ e => .inr e)).trans hm19 (fun k _ e => .inl e)
  refine ⟨(n5.kept (grown_later hb5) (by simp) (by simp)).kept ht9.grown (by simp; omega) (by simp), by rw [List.length_append]; exact hm9, fun x => ?_, fun x gx hx => ?_, h5.trans (hmW.below (by omega) (fun k e => by omega))⟩
  · by_cases c : x = s
    · subst c
      simp
    · simp only [if_neg c]
      rw [h3 x]
      simp [c]
  · dsimp only at hx
    by_cases c : x = s
    · subst c
      rw [if_pos rfl] at hx
      obtain rfl := Option.some.inj hx
      refine ((ht.tight.frame (mv_turned ht9) (fun k e e' => by have := e.1; omega))).mono (fun k e => ⟨Nat.lt_of_lt_of_le e.2 ht9.grown.size, by have := e.1; omega, if_neg (by have := e.1; omega)⟩)
    · rw [if_neg c] at hx
      refine ((h4 x gx hx).frame hmW (fun k e e' => by have := e.2.1; omega)).mono (fun k e => ⟨Nat.lt_of_lt_of_le e.1 hmW.size, e.2.1, ?_⟩)
      dsimp only
      rw [if_pos (by have := e.1; omega)]
      exact e.2.2
/-- The clone, whole. -/
def cloneOwn (own o : Nat → Nat) (a b c d e : Nat) : Nat → Nat := fun k => if k < a then (if own k = 2 then 2 else 0) else if k = a then 5 else if k < b then o k else if k < c then 3 else if k = d then 4 else if k = e then 1 else 0
theorem clone_fin {wr w6 w7 : World} {g1 g2 : Nat} (h : Wx 0 w own gw vk gp gm gt M ks gs fr f q T) (hc : Cz w gt M q T wr S 0 o p) (hw : Wi ks f q T) (p1 : Pl w6 (fun k => wr.drew.heap.size ≤ k) g1 200 gs fr) (b6 : Below wr.drew.heap.size wr.drew w6) (hg2 : w6.heap.size = g2) (p2 : Mp w7 g2 M f) (b7 : Below w6.heap.size w6 w7) :
    Wx 0 (w7.alloc (.cells #[vk, .pointer (some ⟨g1, 0, none⟩), .map (some g2), .map (some w.heap.size)] 109)) (cloneOwn own o w.heap.size wr.heap.size w6.heap.size g2 w7.heap.size) w7.heap.size vk g1 g2 w.heap.size (M + 8192) ks gs fr f p T := by
  have hl := hc.short hw
  obtain ⟨c1, c2, c3, c4, c5⟩ := hc
  have q1 := c5.size
  have q2 : wr.heap.size ≤ w6.heap.size := b6.size
  have q3 := b7.size
  have q4 := p2.lt
  have q5 : w.heap.size < wr.heap.size := c2.lt
  have b8 := below_alloc w7 (.cells #[vk, .pointer (some ⟨g1, 0, none⟩), .map (some g2), .map (some w.heap.size)] 109)
  have hb : Below wr.heap.size wr (w7.alloc (.cells #[vk, .pointer (some ⟨g1, 0, none⟩), .map (some g2), .map (some w.heap.size)] 109)) := below_on (below_on (below_on (below_drew wr) b6) b7) b8
  have hsz : (w7.alloc (.cells #[vk, .pointer (some ⟨g1, 0, none⟩), .map (some g2), .map (some w.heap.size)] 109)).heap.size = w7.heap.size + 1 := by simp
  refine ⟨⟨?_, ?_, ?_⟩, ⟨by omega, by omega⟩, heap_alloc_new _ _, ?_, fun _ => ?_, fun _ => ?_, fun _ => ?_, fun s g hg _ => ?_⟩
  · unfold cloneOwn
    rw [if_neg (by omega), if_neg (by omega), if_neg (by omega), if_neg (by omega), if_neg (by omega), if_pos rfl]
  · unfold cloneOwn
    rw [if_neg (by omega), if_neg (by omega), if_neg (by omega), if_neg (by omega), if_pos rfl]
  · unfold cloneOwn
    rw [if_neg (by omega), if_pos rfl]
  · refine h.2.2.2.1.next (fun k hk => (below_on c5 hb).block k hk.1) (fun k hk => ⟨by have := hk.1; omega, ?_⟩)
    unfold cloneOwn
    rw [if_pos hk.1, if_pos hk.2]
  · refine ((p1.tight.later (below_on b7 b8))).mono (fun k e => ⟨by have := e.2; omega, ?_⟩)
    have e1 : wr.heap.size ≤ k := e.1
    unfold cloneOwn
    rw [if_neg (by omega), if_neg (by omega), if_neg (by omega), if_pos e.2]
  · exact (p2.same (b8.block _ q4)).mono (by omega)
  · exact (c2.same (hb.block _ q5)).mono (by omega)
  · refine (((c4 s g hg).frame (Mv.of_below hb (fun _ => False)) (fun _ _ e => e)).up (by omega)).mono (fun k e => ⟨by have := e.1; omega, ?_⟩)
    unfold cloneOwn
    rw [if_neg (by have := e.2.1; omega), if_neg (by have := e.2.1; omega), if_pos e.1]
    exact e.2.2
set_option maxHeartbeats 4000000 in
theorem wclone_any (h : Wx 0 w own gw vk gp gm gt M ks gs fr f q T) (hw : Wi ks f q T) : Calls Tryz.prog 20 #[.pointer (some ⟨gw, 0, none⟩)] w fun e w' => ∃ (g' gp' gm' gt' : Nat) (own' : Nat → Nat) (q' : Nat → Option Nat), e = .returned (.pointer (some ⟨g', 0, none⟩)) ∧ Wx 0 w' own' g' vk gp' gm' gt' (M + 8192) ks gs fr f q' T ∧ (∀ s, (q' s).isSome = (q s).isSome) ∧ (∀ k, k < w.heap.size → own' k = if own k = 2 then 2 else 0) ∧ Below w.heap.size w w' := by
  have hgt := h.2.1.2
  have h1 := h.later (below_alloc w (.map #[] 0))
  obtain ⟨D, hD, hcl, hkl⟩ := h1.mq
  obtain ⟨-, -, -, c3⟩ := h1.cells
  have M0 := hide (Mq.made w)
  have H := hide h
  have HW := hide hw
  have HCL := hide hcl
  have HKL := hide hkl
  clear h hw hcl hkl h1
  have hmm := @run_makeMap Tryz.prog
  go_enter Tryz.func20, Tryz.ntmps20
  go_wp2_with (at_range; refine wpList_range_own _ rfl _ 107 rfl 3 133 keyed3 Tryz.underlying107 _ gt M D rfl hD ?_; intro w0 hrg0 hg0 hs0)
  have hs1 : (w.alloc (.map #[] 0)).heap.size = w.heap.size + 1 := by simp
  have HM0 : Hid (Mq w0 w.heap.size 0 (fun _ => none)) := by
    obtain ⟨D', x1, x2⟩ := M0.out
    exact ⟨D', x1.kept hg0 (by simp), x2⟩
  have HSZ : Hid (w.heap.size + 2 ≤ w0.heap.size) := by
    have := hs0
    rw [hs1] at this
    show _ ≤ _
    omega
  have H0 : Hid (∃ S cnt o p, Cz w gt M q T w0 S cnt o p ∧ w.heap.size + 2 ≤ w0.heap.size) := ⟨[], _, fun _ => 0, fun _ => none, ⟨Rq.start HCL.out HKL.out (hs1 ▸ hrg0), by simpa using HM0.out, (fun s => by simp), (fun s g e => by cases e), (below_alloc w _).grown hg0 (by rw [hs1]; omega) (fun k e => by cases e)⟩, HSZ.out⟩
  clear hrg0 hg0 HCL HKL hD c3 M0 HM0 HSZ
  go_frame
  rw [hs1]
  clear hs1 hs0
  go_loopw [4] (fun _ W => Hid (∃ S cnt o p, Cz w gt M q T W S cnt o p ∧ w.heap.size + 2 ≤ W.heap.size)) (fun _ W => W.rangeLeft gt (w.heap.size + 1))
  case atStart => exact H0
  case round =>
    have hrel' := hrel
    obtain ⟨S, cnt, o, p, hS, hsz2⟩ := hrel'
    have hle := hS.short HW.out
    rcases hS.1.next 0 with ⟨n1, n2⟩ | ⟨s, g, w1, cnt1, n1, n2, n3, n4, n5, n6, n7, n8, n9⟩
    · subst n1
      have HF := hide hS
      have HZ := hide hsz2
      clear hS hrel hsz2
      obtain ⟨ak, ck, hvk, -⟩ := H.out.2.2.2.1.kr
      subst hvk
      have hc := (H.out.later HF.out.2.2.2.2).cells
      obtain ⟨c0, c1, c2, -⟩ := hc
      have HCC : Hid (∀ W, Below wr.heap.size wr W → W.cell? ⟨gw, 0, none⟩ = some (.slice ak ks.length ck) ∧ W.cell? ⟨gw, 1, none⟩ = some (.pointer (some ⟨gp, 0, none⟩)) ∧ W.cell? ⟨gw, 2, none⟩ = some (.map (some gm))) := fun W hb =>
        ⟨(hb.cell (World.block_lt_of_cell? _ _ c0)).trans c0, (hb.cell (World.block_lt_of_cell? _ _ c1)).trans c1, (hb.cell (World.block_lt_of_cell? _ _ c2)).trans c2⟩
      have JP := hide (i_cloned_any ((H.out.later HF.out.2.2.2.2).pl.later (below_drew wr)))
      have JM : Hid (∀ W, Below wr.heap.size wr W → Calls Tryz.prog 70 #[.map (some gm)] W fun e w' => ∃ g', e = .returned (.map (some g')) ∧ W.heap.size = g' ∧ Mp w' g' M f ∧ Below W.heap.size W w') := fun W hb => clone_map gm M f W ((H.out.later (below_on HF.out.2.2.2.2 hb)).mp)
      go_upto_region 6 with fail
      go_region_held3 (fun W => W.cell? ⟨gw, 0, none⟩ = some (.slice ak ks.length ck) ∧ W.cell? ⟨gw, 1, none⟩ = some (.pointer (some ⟨gp, 0, none⟩)) ∧ W.cell? ⟨gw, 2, none⟩ = some (.map (some gm))) (go_keep) (first | (go_at_call 69; refine JP.out.mono ?_; rintro e w6 ⟨g1, rfl, p1, b6⟩; have hb6 := below_on (below_drew wr) b6; obtain ⟨y0, y1, y2⟩ := HCC.out _ hb6) | (go_at_call 70; refine (JM.out _ hb6).mono ?_; rintro e w7 ⟨g2, rfl, hg2, p2, b7⟩; obtain ⟨z0, z1, z2⟩ := HCC.out _ (below_on hb6 b7)))
      have HFIN := hide (And.intro p1 (And.intro b6 (And.intro hg2 (And.intro p2 b7))))
      clear p1 b6 hb6 hg2 p2 b7 y0 y1 y2 z0 z1 z2
      go_wp2_with fail
      go_ret
      have hfin := clone_fin H.out HF.out HW.out HFIN.out.1 HFIN.out.2.1 HFIN.out.2.2.1 HFIN.out.2.2.2.1 HFIN.out.2.2.2.2
      exact ⟨_, _, _, _, _, _, rfl, hfin, HF.out.fin HW.out, fun k hk => if_pos hk, below_on (below_on (below_on HF.out.2.2.2.2 (below_on (below_drew wr) HFIN.out.2.1)) HFIN.out.2.2.2.2) (below_alloc _ _)⟩
    · have hm7 : Mv wr w1 (fun k => k = w.heap.size + 1) := ⟨n7.1, n7.2, n7.3, n7.size, fun k hk e => n7.block k hk (fun e' => e (by simpa using e'))⟩
      have B1 : Hid (Below w.heap.size w w1) := hS.2.2.2.2.grown n7 hS.2.2.2.2.size (fun k e => by cases e; omega)
      obtain ⟨m, hm, htb⟩ := (H.out.later B1.out).tb n2
      have JL := hide (cloned_any htb)
      have HQ1 : Hid (Mq w1 w.heap.size S.length p) := hS.2.1.same (n7.block _ (by omega) (by simp))
      have HS := hide (And.intro hS (And.intro hsz2 (And.intro n3 (And.intro n5 (And.intro n7 (And.intro n8 n6))))))
      have HL := hide hle
      clear hS hrel n2 n3 n5 n6 n7 n8 htb B1 hm7 hle hsz2
      go_wp2_with fail
      refine JL.out.mono ?_
      rintro e w5 ⟨g', rfl, t1, b5⟩
      have hq5 : Mq w5 w.heap.size S.length p := HQ1.out.same (b5.block _ HQ1.out.lt)
      obtain ⟨w9, hr9, hm9, ht9⟩ := hq5.store s g' n1 (by have := HL.out; omega)
      have HC9 : Hid (Cz w gt M q T w9 (S ++ [s]) cnt1 (fun k => if k < w1.heap.size then o k else 10 + s) (fun x => if x = s then some g' else p x)) := HS.out.1.step hgt HS.out.2.2.1 HS.out.2.2.2.1 HS.out.2.2.2.2.1 HS.out.2.2.2.2.2.1 b5 ⟨m, hm, t1⟩ hm9 ht9 HS.out.2.1
      have HZ9 : Hid (w.heap.size + 2 ≤ w9.heap.size) := by
        have q1 := HS.out.2.1
        have q2 := HS.out.2.2.2.2.2.1
        have q3 := b5.size
        have q4 := ht9.grown.size
        show _ ≤ _
        omega
      have HLT : Hid (w9.rangeLeft gt (w.heap.size + 1) < wr.rangeLeft gt (w.heap.size + 1)) := by
        rw [HC9.out.1.left_eq, HS.out.1.1.left_eq]
        exact HS.out.2.2.2.2.2.2
      clear t1 b5 hq5 hm9 ht9
      go_wp2_with fail
      go_roundw
      case rel => exact ⟨_, _, _, _, HC9.out, HZ9.out⟩
      case measure => exact HLT.out
end
end Go.Proofs.YtafmiolehlagkaaGreat
