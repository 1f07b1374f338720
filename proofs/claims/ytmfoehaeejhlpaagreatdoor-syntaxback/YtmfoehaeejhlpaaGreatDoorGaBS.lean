import Derived.Test.YtmfoehaeejhlpaaGreatDoorGaBR
import Derived.Test.YtmfoehaeejhlpaaGreatDoorGaAX
import Derived.Test.YtmfoehaeejhlpaaGreatDoorGaBB
import Derived.Test.YtmfoehaeejhlpaaGreatDoorGaBI
/-
  What is read of what is written.
-/
namespace Go.Proofs.YtmfoehaeejhlpaaGreatDoor.Le
set_option maxRecDepth 100000
section
variable {f : Nat → Nat} {n a : Nat}
theorem lex_toks (hz : Fz f n) : ∀ (j a : Nat) (l : List Tk), a ≤ n → lexF f n j a = .ok l → ∀ t ∈ l, t = ⟨0, n, n⟩ ∨ stepL f n t.a = .tok t.k t.a t.e
  | 0, a, l, _, h, t, ht => by
    rw [lexF] at h
    injection h with h
    rw [← h] at ht
    cases ht
  | j + 1, a, l, ha, h, t, ht => by
    rw [lexF] at h
    cases hst : stepL f n a with
    | fin =>
      rw [hst] at h
      injection h with h
      rw [← h, List.mem_singleton] at ht
      exact .inl ht
    | go b =>
      rw [hst] at h
      exact lex_toks hz j b l (stepL_go hz hst).2.1 h t ht
    | bad b =>
      rw [hst] at h
      cases h
    | tok k b e =>
      rw [hst] at h
      have h : Rs.cons ⟨k, b, e⟩ (lexF f n j e) = .ok l := h
      obtain ⟨rfl, hb1, hb2, -, -⟩ := stepL_tok hz hst
      cases hr : lexF f n j e with
      | no x =>
        rw [hr] at h
        cases h
      | ok l2 =>
        rw [hr] at h
        injection h with h
        rw [← h] at ht
        rcases List.mem_cons.1 ht with rfl | ht
        · exact .inr hst
        · exact lex_toks hz j e l2 hb2 hr t ht
theorem stepL_bad {b : Nat} (_ha : a ≤ n) (h : stepL f n a = .bad b) : b ≤ n := by
  have hr := runE_le (fun j => isDi (f j)) (n - a) a
  unfold stepL at h
  split at h
  · cases h
  split at h
  · cases h
  split at h
  · cases h
  split at h
  · split at h
    · injection h with h; omega
    · cases h
  unfold tokAt at h
  split at h
  · split at h
    · injection h with h; omega
    · cases h
  split at h
  · split at h
    · split at h
      · injection h with h; omega
      · cases h
    · injection h with h; omega
  split at h
  · injection h with h; omega
  · cases h
theorem lexF_no (hz : Fz f n) {b : Nat} : ∀ (j a : Nat), a ≤ n → lexF f n j a = .no b → b ≤ n
  | 0, a, _, h => by rw [lexF] at h; cases h
  | j + 1, a, ha, h => by
    rw [lexF] at h
    cases hst : stepL f n a with
    | fin => rw [hst] at h; cases h
    | go c => rw [hst] at h; exact lexF_no hz j c (stepL_go hz hst).2.1 h
    | bad c =>
      rw [hst] at h
      injection h with h
      rw [← h]
      exact stepL_bad ha hst
    | tok k c e =>
      rw [hst] at h
      have h : Rs.cons ⟨k, c, e⟩ (lexF f n j e) = .no b := h
      cases hr : lexF f n j e with
      | no x =>
        rw [hr] at h
        injection h with h
        rw [← h]
        exact lexF_no hz j e (stepL_tok hz hst).2.2.1 hr
      | ok l =>
        rw [hr] at h
        cases h
/-- A word. -/
theorem tok_one {b e : Nat} (h : tokAt f n a = .tok 1 b e) : b = a ∧ isLe (f a) = true ∧ (∀ j, a ≤ j → j < e → isWo (f j) = true) ∧ e - a ≤ 16 := by
  unfold tokAt at h
  split at h
  · rename_i hl
    split at h
    · cases h
    · rename_i h16
      injection h with _ h2 h3
      subst h2 h3
      exact ⟨rfl, hl, fun j h4 h5 => runE_all _ _ _ j h4 h5, by omega⟩
  · split at h
    · split at h
      · split at h
        · cases h
        · simp at h
      · cases h
    · split at h
      · cases h
      · simp at h
theorem step_one {k b e : Nat} (h : stepL f n a = .tok k b e) : tokAt f n a = .tok k b e := by
  unfold stepL at h
  split at h
  · cases h
  split at h
  · cases h
  split at h
  · cases h
  split at h
  · split at h <;> cases h
  · exact h
end
end Go.Proofs.YtmfoehaeejhlpaaGreatDoor.Le
namespace Go.Proofs.YtmfoehaeejhlpaaGreatDoor
open Go.RowKit Yn
/-- A fault has a reason. -/
theorem no_ne {src : ByteArray} {A er : Nat} (h : parseT src = .no A er) : er ≠ 0 := by
  unfold parseT parseS at h
  cases hl : lxS src with
  | error p =>
    rw [hl] at h
    injection h with h1 h2
    unfold lxS at hl
    split at hl
    · split at hl
      · cases hl
      · injection hl with hl
        rw [← hl] at h2
        rw [← h2]
        show (90 : Nat) ≠ 0
        decide
    · injection hl with hl
      rw [← hl] at h2
      rw [← h2]
      decide
  | ok ts =>
    rw [hl] at h
    have h : progS wsB 100000 [] ⟨ts, 0, 0, 0, 0⟩ = .no A er := h
    unfold lxS at hl
    split at hl
    · rename_i hs
      split at hl
      · rename_i l hlex
        injection hl with hl
        have hlex : Le.lexF (Le.bt src) src.size (src.size + 1) 0 = .ok l := hlex
        have hgd := lex_gd hs (src.size + 1) 0 l (by omega) (by omega) hlex
        rw [hl] at hgd
        have hT : Te ts := by
          obtain ⟨p, e, g1, g2, g3, -⟩ := hgd
          exact ⟨p, e, g1, g2, g3⟩
        have hj : Jt ts ⟨ts, 0, 0, 0, 0⟩ := ⟨List.suffix_refl _, by
          obtain ⟨p, e, g1, -⟩ := hT
          rw [g1]
          simp⟩
        exact ((prog_pl wsB hT 100000 [] ⟨ts, 0, 0, 0, 0⟩ hj).1 A er h).2
      · cases hl
    · cases hl
theorem wrd_ext {s : ByteArray} {a e : Nat} (h1 : Le.isLe (Le.bt s a) = true) (h2 : ∀ j, a ≤ j → j < e → Le.isWo (Le.bt s j) = true) (h3 : e - a ≤ 16) (hae : a < e) (hen : e ≤ s.size) : Wrd (s.extract a e) := by
  have hd := Le.ext_data s a e
  have hl : s.data.toList.length = s.size := rfl
  have hb : ∀ i (h : i < s.data.toList.length), Le.bt s i = s.data.toList[i].toNat := by
    intro i h
    unfold Le.bt
    rw [List.getD_eq_getElem?_getD, List.getElem?_eq_getElem h]
    rfl
  refine ⟨?_, ?_, ?_⟩
  · refine ⟨s.data.toList[a]'(by omega), (s.data.toList.drop (a + 1)).take (e - a - 1), ?_, ?_⟩
    · rw [hd, List.drop_eq_getElem_cons (by omega), show e - a = (e - a - 1) + 1 by omega, List.take_succ_cons]
      rfl
    · rw [← hb a (by omega)]
      exact h1
  · intro c hc
    rw [hd] at hc
    obtain ⟨i, hi, rfl⟩ := List.mem_iff_getElem.1 hc
    rw [List.length_take, List.length_drop] at hi
    rw [List.getElem_take, List.getElem_drop, ← hb (a + i) (by omega)]
    exact h2 (a + i) (by omega) (by omega)
  · rw [ByteArray.size_extract]
    omega
theorem toks_gt {src : ByteArray} {ts : List Tok} (h : lxS src = .ok ts) : (∀ t ∈ ts, Gt t ∧ t.a ≤ src.size) ∧ ts.length ≤ 8001 := by
  unfold lxS at h
  split at h
  · rename_i hs
    split at h
    · rename_i l hl
      injection h with h
      have hl : Le.lexF (Le.bt src) src.size (src.size + 1) 0 = .ok l := hl
      have hz := Le.bt_z src
      obtain ⟨l0, e0, hg1, hg2, hg3, hg4⟩ := lex_gd hs (src.size + 1) 0 l (by omega) (by omega) hl
      refine ⟨fun t ht => ?_, ?_⟩
      · have ht0 := ht
        rw [← h] at ht
        obtain ⟨k, hk, rfl⟩ := List.mem_map.1 ht
        rcases Le.lex_toks hz (src.size + 1) 0 l (by omega) hl k hk with rfl | hst
        · exact ⟨⟨fun e => absurd e (by decide : (0 : Nat) ≠ 1), fun e => absurd e (by decide : (0 : Nat) ≠ 2)⟩, Nat.le_refl _⟩
        · have hsz := Le.stepL_tok hz hst
          have hta := Le.step_one hst
          refine ⟨⟨fun e => ?_, fun e => ?_⟩, ?_⟩
          · have e : k.k = 1 := e
            rw [e] at hta
            obtain ⟨-, w1, w2, w3⟩ := Le.tok_one hta
            exact wrd_ext w1 w2 w3 (by omega) (by omega)
          · have e : k.k = 2 := e
            have hm : tokOf src k ∈ l0 ++ [e0] := by rw [← hg1]; exact List.mem_map_of_mem hk
            rcases List.mem_append.1 hm with hm | hm
            · have hdg := (hg4 _ hm).2.2 e
              refine ⟨?_, hdg.2.2.2⟩
              have := fold_le (src.extract k.a k.e).data.toList 0 hdg.2.2.1
              unfold digits
              rw [show ((0 : Int)) = ((0 : Nat) : Int) from rfl]
              show 0 ≤ (src.extract k.a k.e).data.toList.foldl _ ((0 : Nat) : Int)
              rw [this]
              omega
            · rw [List.mem_singleton] at hm
              rw [← hm] at hg2
              have : k.k = 0 := hg2
              omega
          · show k.a ≤ src.size
            omega
      · rw [← h, List.length_map]
        exact lex_len hs (src.size + 1) 0 l (by omega) (by omega) hl
    · cases h
  · cases h
/-- A fault lies within the source. -/
theorem no_in {src : ByteArray} {A er : Nat} (h : parseT src = .no A er) : A ≤ src.size := by
  unfold parseT parseS at h
  cases hl : lxS src with
  | error p =>
    rw [hl] at h
    injection h with h1 h2
    unfold lxS at hl
    split at hl
    · split at hl
      · cases hl
      · rename_i a hlex
        injection hl with hl
        rw [← hl] at h1
        have hlex : Le.lexF (Le.bt src) src.size (src.size + 1) 0 = .no a := hlex
        rw [← h1]
        exact Le.lexF_no (Le.bt_z src) (src.size + 1) 0 (by omega) hlex
    · injection hl with hl
      rw [← hl] at h1
      have h1 : 8000 = A := h1
      omega
  | ok ts =>
    rw [hl] at h
    have h : progS wsB 100000 [] ⟨ts, 0, 0, 0, 0⟩ = .no A er := h
    have hg := (toks_gt hl).1
    unfold lxS at hl
    split at hl
    · rename_i hs
      split at hl
      · rename_i l hlex
        injection hl with hl
        have hlex : Le.lexF (Le.bt src) src.size (src.size + 1) 0 = .ok l := hlex
        obtain ⟨l0, e0, hg1, hg2, hg3, -⟩ := lex_gd hs (src.size + 1) 0 l (by omega) (by omega) hlex
        rw [hl] at hg1
        have hT : Te ts := ⟨l0, e0, hg1, hg2, hg3⟩
        obtain ⟨⟨t, ht, e⟩, -⟩ := (prog_pl wsB hT 100000 [] ⟨ts, 0, 0, 0, 0⟩ ⟨List.suffix_refl _, by show ts ≠ []; rw [hg1]; simp⟩).1 A er h
        rw [← e]
        exact (hg t ht).2
      · cases hl
    · cases hl
theorem ws_ok : Wsok wsB where
  tick := inW_mem.1 (by decide)
  me := inW_mem.1 (by decide)
  has := inW_mem.1 (by decide)
  built := fun t h => inW_mem.1 (by rcases isBuilt_cases h with rfl | rfl | rfl | rfl | rfl <;> decide)
  way := fun p hp => inW_mem.1 ((by decide : ∀ p ∈ Yn.ways, inW wsB p.1 = true) p hp)
  els := inW_mem.1 (by decide)
  cl := fun w hw => inW_mem.1 ((by decide : ∀ w ∈ clauseWords, inW wsB w = true) w hw)
  sys := inW_mem.1 (by decide)
  fnc := inW_mem.1 (by decide)
/-- What is read is a program of this shape. -/
theorem read_ok {src : ByteArray} {T : Tree} {s : S} (h : parseT src = .ok T s) : OkP wsB T ∧ sz T ≤ 16003 := by
  unfold parseT parseS at h
  cases hl : lxS src with
  | error p => rw [hl] at h; cases h
  | ok ts =>
    rw [hl] at h
    have h : progS wsB 100000 [] ⟨ts, 0, 0, 0, 0⟩ = .ok T s := h
    obtain ⟨hg, hlen⟩ := toks_gt hl
    obtain ⟨r1, r2⟩ := prog_of 100000 [] ⟨ts, 0, 0, 0, 0⟩ (fun t ht => (hg t ht).1) rfl rfl (show 0 ≤ 200 by decide) rfl (show 0 ≤ 16 by decide) rfl (show 0 ≤ 16 by decide) (by intro x hx; cases hx) T s h
    refine ⟨r1, ?_⟩
    rw [szs] at r2
    have r2 : sz T ≤ 1 + 0 + 2 * ts.length := r2
    omega
/-- What is written of what was read is read as the same tree. -/
theorem back_plain {l : List Tree} {f : Nat} (h : OkP wsB (.mk 1 (bs []) 0 l 0)) (hz : szs l ≤ 1048576) (hf : 2 * szs l ≤ f) (h8 : (prPg f l).length ≤ 8000) : ∃ T s, parseT ⟨(prPg f l).toArray⟩ = .ok T s ∧ er T = er (.mk 1 (bs []) 0 l 0) := by
  obtain ⟨l', e', hm, c1, c2, c3⟩ := h
  injection e' with _ _ _ e'
  subst e'
  have hsz : (⟨(prPg f l).toArray⟩ : ByteArray).size = (prPg f l).length := by
    show (prPg f l).toArray.size = _
    simp
  have hby : (⟨(prPg f l).toArray⟩ : ByteArray).data.toList = bys (pPg f l) := by rw [pPg_bys]
  have hlx := lex_of (lx_pg hm hf) hby
  have htk := toks_of (s := ⟨(prPg f l).toArray⟩) (pPg f l) [] (by rw [hby]; rfl)
  have hne := parseT_out ⟨(prPg f l).toArray⟩
  have key : Rr (fun t => ∃ m, t = .mk 1 (bs []) 0 m 0 ∧ ers m = ers [] ++ ers l) [(0, bs [])] (0 + cnts l) (0 + cY l) (0 + cF l) 0 (parseT ⟨(prPg f l).toArray⟩) := by
    unfold parseT parseS lxS
    rw [if_pos (by omega), hlx]
    refine prog_at ws_ok 100000 f [] l _ 0 0 0 hm hf (by omega) ⟨?_, rfl, rfl, rfl, rfl⟩ (by omega) (by omega) (by omega)
    show (((Yn.tkP 0 (pPg f l) ++ [(⟨0, (⟨(prPg f l).toArray⟩ : ByteArray).size, (⟨(prPg f l).toArray⟩ : ByteArray).size⟩ : Le.Tk)]).map (tokOf ⟨(prPg f l).toArray⟩)).map fun (t : Tok) => (t.k, t.t)) = _
    rw [List.map_map, List.map_append]
    have e1 : ((fun t : Tok => (t.k, t.t)) ∘ tokOf ⟨(prPg f l).toArray⟩) = fun t : Le.Tk => (t.k, (⟨(prPg f l).toArray⟩ : ByteArray).extract t.a t.e) := rfl
    rw [e1]
    have e2 : (Yn.tkP 0 (pPg f l)).map (fun t => (t.k, (⟨(prPg f l).toArray⟩ : ByteArray).extract t.a t.e)) = tks (pPg f l) := htk
    rw [e2]
    congr 1
    show [(0, (⟨(prPg f l).toArray⟩ : ByteArray).extract _ _)] = [(0, bs [])]
    congr 2
    apply ByteArray.ext
    simp [bs]
  rcases key with e | ⟨T, s, e, ⟨m, rfl, hm⟩, -⟩
  · exact absurd e hne
  · refine ⟨_, s, e, ?_⟩
    have hm' : ers m = ers l := hm
    rw [er_mk, er_mk, hm']
end Go.Proofs.YtmfoehaeejhlpaaGreatDoor

/-
  Places do not show in what is written; Print of what was read.
-/
namespace Go.Proofs.YtmfoehaeejhlpaaGreatDoor
open Go.RowKit Yn
set_option maxRecDepth 100000
theorem ers_map : ∀ l : List Tree, ers l = l.map er
  | [] => by rw [ers]; rfl
  | t :: ts => by rw [ers, ers_map ts]; rfl
theorem er_getD (l : List Tree) (i : Nat) : (ers l).getD i nilT = er (l.getD i nilT) := by
  have e : er nilT = nilT := by
    unfold nilT
    rw [er_mk, ers]
  rw [ers_map, List.getD_eq_getElem?_getD, List.getD_eq_getElem?_getD, List.getElem?_map]
  cases l[i]? with
  | none => exact e.symm
  | some x => rfl
theorem stren_er (t : Tree) : stren (er t) = stren t := by
  obtain ⟨op, u, n, l, a⟩ := t
  rw [er_mk]
  rfl
theorem txT_er (t : Tree) : txT (er t) = txT t := by
  obtain ⟨op, u, n, l, a⟩ := t
  rw [er_mk]
  rfl
theorem opT_er (t : Tree) : opT (er t) = opT t := by
  obtain ⟨op, u, n, l, a⟩ := t
  rw [er_mk]
  rfl
theorem lsT_er (t : Tree) : lsT (er t) = ers (lsT t) := by
  obtain ⟨op, u, n, l, a⟩ := t
  rw [er_mk]
  rfl
theorem len_ers (l : List Tree) : (ers l).length = l.length := by rw [ers_map, List.length_map]
mutual
theorem prE_er : ∀ t : Tree, prE (er t) = prE t
  | .mk op u n l a => by
    rw [er_mk, prE, prE, prEs_er l]
    unfold exB
    simp only [er_getD, stren_er, txT_er]
theorem prEs_er : ∀ l : List Tree, prEs (ers l) = prEs l
  | [] => by rw [ers]
  | t :: ts => by rw [ers, prEs, prEs, prE_er t, prEs_er ts]
end
theorem map_er {α : Type} {g : Tree → α} (h : ∀ t, g (er t) = g t) (l : List Tree) : (ers l).map g = l.map g := by
  rw [ers_map, List.map_map]
  exact List.map_congr_left fun x _ => h x
theorem prV_er (v : Tree) : prV (er v) = prV v := by
  unfold prV
  rw [txT_er, lsT_er, er_getD, prE_er]
theorem prP_er (v : Tree) : prP (er v) = prP v := by
  unfold prP
  rw [txT_er, lsT_er, map_er prV_er]
theorem ptB_er (l : List Tree) : ptB (ers l) = ptB l := by
  unfold ptB
  rw [len_ers, map_er prP_er]
theorem prM_er (t : Tree) : prM (er t) = prM t := by
  obtain ⟨op, u, n, l, a⟩ := t
  rw [er_mk, prM, prM]
  unfold smB
  simp only [er_getD, prE_er, txT_er, map_er prE_er, ptB_er]
theorem prS_er : ∀ f : Nat, (∀ T k, prSt f (er T) k = prSt f T k) ∧ (∀ T k, prBr f (er T) k = prBr f T k) ∧ (∀ T k, prBk f (er T) k = prBk f T k)
  | 0 => ⟨fun T k => by rw [prSt, prSt], fun T k => by rw [prBr, prBr], fun T k => by rw [prBk, prBk]⟩
  | f + 1 => by
    obtain ⟨i1, i2, i3⟩ := prS_er f
    refine ⟨fun T k => ?_, fun T k => ?_, fun T k => ?_⟩
    · rw [prSt, prSt, opT_er, lsT_er, er_getD, er_getD, i2, i3, prE_er, prM_er]
    · rw [prBr, prBr, lsT_er, len_ers, er_getD, er_getD, er_getD, opT_er, i2, i3, i3, prE_er]
    · rw [prBk, prBk, lsT_er, map_er (g := fun s => tabB (k + 1) ++ prSt f s (k + 1) ++ [10]) fun t => by rw [i1]]
theorem namB_er (l : List Tree) : namB (ers l) = namB l := by
  unfold namB
  rw [map_er txT_er]
theorem clB_er (t : Tree) : clB (er t) = clB t := by
  obtain ⟨op, u, n, l, a⟩ := t
  rw [er_mk, clB, clB, len_ers, namB_er]
theorem prMb_er (f : Nat) (t : Tree) : prMb f (er t) = prMb f t := by
  obtain ⟨op, u, n, l, a⟩ := t
  rw [er_mk, prMb, prMb, er_getD, er_getD, er_getD, (prS_er f).2.2, (prS_er f).2.2, lsT_er, namB_er]
  have : (ers l).take 4 = ers (l.take 4) := by rw [ers_map, ers_map, List.map_take]
  rw [this, map_er clB_er]
theorem prPg_er {f : Nat} {l m : List Tree} (h : ers l = ers m) : prPg f l = prPg f m := by
  unfold prPg
  rw [← map_er (prMb_er f) l, h, map_er (prMb_er f) m]
end Go.Proofs.YtmfoehaeejhlpaaGreatDoor

/-
  Print, of what was read.
-/
namespace Go.Proofs.YtmfoehaeejhlpaaGreatDoor
open Go.RowKit Yn
set_option maxRecDepth 100000
set_option maxHeartbeats 4000000 in
theorem string_e {B g : Nat} {w : World} (hbk : w.heap[g]? = some (.cells #[.pointer none, .slice none 0 0] 86 (0, 0))) : Calls Tryz.prog 34 #[.pointer (some ⟨g, 0, none⟩)] w fun e w' => e = .returned (.string ⟨#[]⟩) ∧ Below B w w' := by
  have c1 : w.drew.cell? ⟨g, 1, none⟩ = some (.slice none 0 0) := by
    have : w.drew.heap[g]? = some (.cells #[.pointer none, .slice none 0 0] 86 (0, 0)) := hbk
    rw [Lib.cell_of_heap this]; rfl
  have hSD : (Builtin.unsafeSliceData_ #[82] 122 #[.slice none 0 0]).run Tryz.prog w.drew = .ok (.pointer none) w.drew := Lib.run_unsafeSliceData_nil _ _ _ _ _
  have hUS : (Builtin.unsafeString_ #[122, 3] 9 #[.pointer none, .int .i64 0]).run Tryz.prog w.drew = .ok (.string .empty) w.drew := Lib.run_unsafeString_none _ _ _ _ _
  have mixed : Tryz.prog.follows Departure.mixedOrders = true := by kernel_rfl
  clear hbk
  go_enter Tryz.func34, Tryz.ntmps34
  go_wp2_with fail
  go_region_o
  all_goals (go_wp2_with fail; go_ret; exact ⟨rfl, Below.drew (Below.refl B w)⟩)
set_option maxHeartbeats 4000000 in
theorem print_e {t : ByteArray} {n : Int} {a : Nat} {W : World} {v : Value} (hj : Calls Tryz.prog 32 #[v] W fun e w' => e = .returned (.bool true) ∧ Below W.heap.size W w') (hnd : Nd (fun q => q < W.heap.size) W (.mk 1 t n [] a) v) : Calls Tryz.prog 16 #[v] W fun e w' => e = .returned (.string ⟨#[]⟩) ∧ Below W.heap.size W w' := by
  obtain ⟨gn, ao, c, gl, gs, rfl, hce, hcap, hc⟩ := nd_open hnd
  have J0 := hide hj
  have CE : Hid (∀ w', Below W.heap.size W w' → Ce W.heap.size w' gn 1 t n ao 0 c) := fun w' h => hce.below h
  obtain ⟨-, d0, d1, d2, d3⟩ := CE.out W (Below.refl _ _)
  clear hj hnd hc hcap hce
  go_enter Tryz.func16, Tryz.ntmps16
  go_wp2_with fail
  refine J0.out.mono ?_
  rintro e w1 ⟨rfl, h1⟩
  have H1 := hide h1
  clear h1 J0 d0 d1 d2 d3
  obtain ⟨w2, hw2⟩ : ∃ X, X = w1.alloc (.cells #[.pointer none, .slice none 0 0] 86) := ⟨_, rfl⟩
  obtain ⟨B, hB⟩ : ∃ X, X = w1.heap.size := ⟨_, rfl⟩
  have HN : Hid (w2.heap[B]? = some (.cells #[.pointer none, .slice none 0 0] 86 (0, 0))) := by rw [hw2, hB]; exact heap_alloc_new w1 _
  have B2 : Hid (Below W.heap.size W w2) := by rw [hw2]; exact H1.out.trans ((below_alloc w1 _).mono H1.out.size)
  go_upto_region 4 with fail
  rw [← hB, ← hw2]
  clear hw2 hB
  obtain ⟨-, d0, d1, d2, d3⟩ := CE.out w2 B2.out
  have J := hide (string_e (B := W.heap.size) HN.out)
  go_wp2_with fail
  go_loopw [16] (fun v8 wr => v8 = .int .i64 0 ∧ wr = w2) (fun _ _ => 0)
  case atStart => exact ⟨rfl, rfl⟩
  case round =>
    obtain ⟨rfl, rfl⟩ := hrel
    go_wp2_with fail
    refine J.out.mono ?_
    rintro e w3 ⟨rfl, h3⟩
    have HF : Hid (Below W.heap.size W w3) := B2.out.trans h3
    clear h3 J
    go_wp2_with fail
    go_ret
    exact ⟨rfl, HF.out⟩
/-- Print, of what was read. -/
theorem print_ok {l : List Tree} {W : World} {v : Value} (h : OkP wsB (.mk 1 (bs []) 0 l 0)) (hz : sz (.mk 1 (bs []) 0 l 0) ≤ 16003) (hnd : Nd (fun q => q < W.heap.size) W (.mk 1 (bs []) 0 l 0) v) (hK : Kd W) (hpf : Pf W.heap.size W) : Calls Tryz.prog 16 #[v] W fun e w' => e = .returned (.string ⟨(prPg 40000 l).toArray⟩) ∧ Below W.heap.size W w' := by
  obtain ⟨l', e', hm, c1, c2, c3⟩ := h
  injection e' with _ _ _ e'
  subst e'
  rw [sz_mk] at hz
  have hll := len_szs l
  have hj := wf_w hnd hK (wf_pg hm (by omega)) (by rw [sz_szT, sz_mk]; omega)
  cases l with
  | nil => exact print_e hj hnd
  | cons x r =>
    have hx := hm x (List.mem_cons_self ..)
    have hln := ln_pg hm 40000
    exact print_w hj hnd hpf (fun i hi => mw_of (hm _ (List.getElem_mem hi)) (by have := szs_le (List.getElem_mem hi); omega) (by decide) (by have := szs_le (List.getElem_mem hi); omega)) (by omega) (pg_ne hx 40000) (by unfold Sz; rw [List.length_nil]; omega)
end Go.Proofs.YtmfoehaeejhlpaaGreatDoor

/-
  Same: trees that are one but for their places; a map from nodes to nodes.
-/
namespace Go.Proofs.YtmfoehaeejhlpaaGreatDoor
open Go.RowKit Yn
set_option maxRecDepth 100000
def pt (g : Nat) : Value := .pointer (some ⟨g, 0, none⟩)
mutual
theorem nd_uniq {B : Nat} {w : World} : ∀ (T U : Tree) (v : Value), Nd (fun q => q < B) w T v → Nd (fun q => q < B) w U v → er T = er U
  | .mk op t n l a, .mk op' t' n' l' a', v, h, h' => by
    obtain ⟨g, ao, c, gl, gs, rfl, ⟨-, d0, d1, d2, d3⟩, -, hl1, hl2, hl3⟩ := nd_open h
    obtain ⟨g', ao', c', gl', gs', e, ⟨-, d0', d1', d2', d3'⟩, -, hl1', hl2', hl3'⟩ := nd_open h'
    injection e with e
    injection e with e
    injection e with e _ _
    subst e
    rw [d0] at d0'
    rw [d1] at d1'
    rw [d2] at d2'
    rw [d3] at d3'
    injection d0' with d0'
    injection d0' with _ d0'
    injection d1' with d1'
    injection d1' with d1'
    injection d2' with d2'
    injection d2' with _ d2'
    injection d3' with d3'
    injection d3' with e1 e2 e3
    have e0 : op = op' := by omega
    subst e0 d1' d2'
    rw [er_mk, er_mk]
    congr 1
    refine nds_uniq (B := B) (w := w) l l' e2 fun i hi hi' => ?_
    have q1 := hl3 i hi (by omega)
    have q2 := hl3' i hi' (by omega)
    obtain ⟨p1, -⟩ := hl2 (by omega)
    obtain ⟨p2, -⟩ := hl2' (by omega)
    have e4 : gl = gl' := by
      rw [p1, p2] at e1
      injection e1 with e1
      injection e1 with e1
    subst e4
    have e5 := q1.1.symm.trans q2.1
    injection e5 with e5
    exact ⟨_, q1.2, by rw [e5]; exact q2.2⟩
theorem nds_uniq {B : Nat} {w : World} : ∀ (l m : List Tree), l.length = m.length → (∀ i (h : i < l.length) (h' : i < m.length), ∃ v, Nd (fun q => q < B) w l[i] v ∧ Nd (fun q => q < B) w m[i] v) → ers l = ers m
  | [], [], _, _ => rfl
  | [], _ :: _, h, _ => by simp at h
  | _ :: _, [], h, _ => by simp at h
  | t :: ts, u :: us, h, hi => by
    rw [ers, ers]
    obtain ⟨v, h1, h2⟩ := hi 0 (by simp) (by simp)
    rw [nd_uniq t u v h1 h2, nds_uniq ts us (by simpa using h) fun i a b => hi (i + 1) (by simpa using a) (by simpa using b)]
end
/-- Two nodes whose trees are one, but for their places. -/
def Rl (B : Nat) (w : World) (a b : Nat) : Prop := ∃ T U, Nd (fun q => q < B) w T (pt a) ∧ Nd (fun q => q < B) w U (pt b) ∧ er T = er U
theorem Rl.trans {B : Nat} {w : World} {a b c : Nat} (h : Rl B w a b) (k : Rl B w b c) : Rl B w a c := by
  obtain ⟨T, U, h1, h2, h3⟩ := h
  obtain ⟨V, X, k1, k2, k3⟩ := k
  exact ⟨T, X, h1, k2, h3.trans ((nd_uniq U V _ h2 k1).trans k3)⟩
theorem Rl.symm {B : Nat} {w : World} {a b : Nat} (h : Rl B w a b) : Rl B w b a := by
  obtain ⟨T, U, h1, h2, h3⟩ := h
  exact ⟨U, T, h2, h1, h3.symm⟩
theorem Rl.below {B : Nat} {w w' : World} {a b : Nat} (h : Rl B w a b) (hb : Below B w w') : Rl B w' a b := by
  obtain ⟨T, U, h1, h2, h3⟩ := h
  exact ⟨T, U, h1.below hb, h2.below hb, h3⟩
/-- A node's block. -/
def Nb (w : World) (g : Nat) : Prop := ∃ c, w.heap[g]? = some (.cells c 51 (0, 0))
theorem nd_nb {X : Nat → Prop} {w : World} {T : Tree} {g : Nat} (h : Nd X w T (pt g)) : Nb w g ∧ X g := by
  obtain ⟨op, t, n, l, a⟩ := T
  rw [Nd] at h
  obtain ⟨g', vl, ps, e, hX, hc, -⟩ := h
  unfold pt at e
  injection e with e
  injection e with e
  injection e with e _ _
  subst e
  exact ⟨⟨_, hc⟩, hX⟩
theorem Rl.nb {B : Nat} {w : World} {a b : Nat} (h : Rl B w a b) : Nb w a ∧ Nb w b ∧ a < B ∧ b < B := by
  obtain ⟨T, U, h1, h2, -⟩ := h
  exact ⟨(nd_nb h1).1, (nd_nb h2).1, (nd_nb h1).2, (nd_nb h2).2⟩
/-- Pointers held against one another. -/
theorem eq_ptr {w : World} {a b : Nat} (ha : Nb w a) (hb : Nb w b) : (Op.equal 23 (pt a) (pt b)).run Tryz.prog w = .ok (decide (a = b)) w := by
  obtain ⟨ca, ha⟩ := ha
  obtain ⟨cb, hb⟩ := hb
  obtain ⟨j, hj, hjs⟩ := Option.map_eq_some_iff.1 size51z
  by_cases e : a = b
  · subst e
    have := run_eql_ptr_same (P := Tryz.prog) w ⟨a, 0, none⟩ Tryz.underlying23 hj
    have h : ∀ d : Nat, (Op.equalIn (d + 1) 23 (pt a) (pt a)).run Tryz.prog w = .ok true w := fun d => by
      simp [Op.equalIn, pt, run_underlying Tryz.underlying23, sizeOf, typeInfo, hj, run_sameAddr_same]
    rw [decide_eq_true rfl]
    simp [Op.equal, Op.maxDepth, h 9999]
  · have hne : (⟨a, 0, none⟩ : Addr) ≠ ⟨b, 0, none⟩ := fun q => by injection q with q _ _; exact e q
    have h : ∀ d : Nat, (Op.equalIn (d + 1) 23 (pt a) (pt b)).run Tryz.prog w = .ok false w := fun d => by
      have hz : j.size ≠ 0 := by rw [hjs]; decide
      simp [Op.equalIn, pt, run_underlying Tryz.underlying23, sizeOf, typeInfo, hj, hz, run_sameAddr_other w hne ha hb]
    rw [decide_eq_false e]
    simp [Op.equal, Op.maxDepth, h 9999]
def kv (e : MapEntry) : Value × Value := (e.key, e.val)
def pv (p : Nat × Nat) : Value × Value := (pt p.1, pt p.2)
theorem find_ask {w : World} {x : Nat} (hx : Nb w x) : ∀ (l : List MapEntry) (L : List (Nat × Nat)) (i : Nat), l.map kv = L.map pv → (∀ p ∈ L, Nb w p.1) → ((Instr.findAsking 23 (pt x) l i).run Tryz.prog w = .ok none w ∧ ∀ p ∈ L, p.1 ≠ x) ∨ ∃ j v, (Instr.findAsking 23 (pt x) l i).run Tryz.prog w = .ok (some (i + j, pt v)) w ∧ L[j]? = some (x, v)
  | [], [], i, _, _ => .inl ⟨rfl, by intro p hp; cases hp⟩
  | [], _ :: _, i, h, _ => by simp at h
  | _ :: _, [], i, h, _ => by simp at h
  | e :: es, p :: L, i, h, hL => by
    rw [List.map_cons, List.map_cons] at h
    injection h with h1 h2
    have hk : e.key = pt p.1 := congrArg Prod.fst h1
    have hv : e.val = pt p.2 := congrArg Prod.snd h1
    have hq := eq_ptr hx (hL p (List.mem_cons_self ..))
    by_cases c : x = p.1
    · right
      refine ⟨0, p.2, ?_, ?_⟩
      · rw [decide_eq_true c] at hq
        simp [Instr.findAsking, hk, hq, hv, Result.andThen]
      · rw [c]; rfl
    · rw [decide_eq_false c] at hq
      have hstep : (Instr.findAsking 23 (pt x) (e :: es) i).run Tryz.prog w = (Instr.findAsking 23 (pt x) es (i + 1)).run Tryz.prog w := by
        simp [Instr.findAsking, hk, hq, Result.andThen]
      rcases find_ask hx es L (i + 1) h2 (fun q hq => hL q (List.mem_cons_of_mem _ hq)) with ⟨r1, r2⟩ | ⟨j, v, r1, r2⟩
      · refine .inl ⟨hstep.trans r1, fun q hq => ?_⟩
        rcases List.mem_cons.1 hq with rfl | hq
        · exact fun e => c e.symm
        · exact r2 q hq
      · refine .inr ⟨j + 1, v, ?_, r2⟩
        rw [hstep, r1]
        congr 3
        omega
theorem find_key {w : World} {x : Nat} (hx : Nb w x) (l : List MapEntry) (L : List (Nat × Nat)) (h : l.map kv = L.map pv) (hL : ∀ p ∈ L, Nb w p.1) : ((Instr.findKey 23 (pt x) l).run Tryz.prog w = .ok none w ∧ ∀ p ∈ L, p.1 ≠ x) ∨ ∃ j v, (Instr.findKey 23 (pt x) l).run Tryz.prog w = .ok (some (j, pt v)) w ∧ L[j]? = some (x, v) := by
  have e1 : (Instr.findKey 23 (pt x) l).run Tryz.prog w = (Instr.findAsking 23 (pt x) l 0).run Tryz.prog w := by
    cases l with
    | nil => simp [Instr.findKey, run_underlying Tryz.underlying23, Instr.findNow, Instr.findAsking, Result.andThen]
    | cons e es => simp [Instr.findKey, run_underlying Tryz.underlying23, Instr.findNow, Instr.sameNow, Result.andThen]
  rw [e1]
  rcases find_ask hx l L 0 h hL with r | ⟨j, v, r1, r2⟩
  · exact .inl r
  · exact .inr ⟨j, v, by rw [r1, Nat.zero_add], r2⟩
/-- The map of leaders. -/
def Ml (w : World) (gm : Nat) (L : List (Nat × Nat)) : Prop := ∃ es ck, w.heap[gm]? = some (.map es ck) ∧ es.toList.map kv = L.map pv
theorem Ml.look {w : World} {gm : Nat} {L : List (Nat × Nat)} (h : Ml w gm L) {x : Nat} (hx : Nb w x) (hL : ∀ p ∈ L, Nb w p.1) : ((Instr.lookup 89 (.map (some gm)) (pt x) true).run Tryz.prog w = .ok (.tuple #[.pointer none, .bool false]) w ∧ ∀ p ∈ L, p.1 ≠ x) ∨ ∃ v, (Instr.lookup 89 (.map (some gm)) (pt x) true).run Tryz.prog w = .ok (.tuple #[pt v, .bool true]) w ∧ (x, v) ∈ L := by
  obtain ⟨es, ck, hm, hl⟩ := h
  have hg : (getObj gm).run Tryz.prog w = .ok (.map es ck) w := by simp [getObj, Sem.run, hm]
  have hk : ∀ b, (Instr.checkKey b 10000 23 (pt x)).run Tryz.prog w = .ok () w := fun b => by cases b <;> kernel_rfl
  rcases find_key hx es.toList L hl hL with ⟨r1, r2⟩ | ⟨j, v, r1, r2⟩
  · left
    refine ⟨?_, r2⟩
    simp [Instr.lookup, run_underlying Tryz.underlying89, hg, hk, r1, Result.andThen]
  · right
    refine ⟨v, ?_, List.mem_of_getElem? r2⟩
    simp [Instr.lookup, run_underlying Tryz.underlying89, hg, hk, r1, Result.andThen]
theorem Ml.store {w : World} {gm : Nat} {L : List (Nat × Nat)} (h : Ml w gm L) {x : Nat} (g : Nat) (hx : Nb w x) (hL : ∀ p ∈ L, Nb w p.1) : ∃ w' L', (Instr.mapUpdate 89 (.map (some gm)) (pt x) (pt g)).run Tryz.prog w = .ok () w' ∧ Ml w' gm L' ∧ Mv w w' (fun q => q = gm) ∧ w'.heap.size = w.heap.size ∧ (∀ p ∈ L', p = (x, g) ∨ p ∈ L) ∧ (x, g) ∈ L' ∧ (∀ y, (∃ v, (y, v) ∈ L) → ∃ v, (y, v) ∈ L') := by
  obtain ⟨es, ck, hm, hl⟩ := h
  have hlt := (Array.getElem?_eq_some_iff.1 hm).1
  have hg : (getObj gm).run Tryz.prog w = .ok (.map es ck) w := by simp [getObj, Sem.run, hm]
  have hk : ∀ b, (Instr.checkKey b 10000 23 (pt x)).run Tryz.prog w = .ok () w := fun b => by cases b <;> kernel_rfl
  have hset : ∀ o, (setObj gm o).run Tryz.prog w = .ok () { w with heap := w.heap.setIfInBounds gm o } := fun o => MapKept.run_setObj_map o hm
  have hmv : ∀ o, Mv w { w with heap := w.heap.setIfInBounds gm o } (fun q => q = gm) := fun o => ⟨rfl, rfl, rfl, by simp, fun k hk hn => (MapKept.heap_set (o' := o) hm).2 k hn⟩
  rcases find_key hx es.toList L hl hL with ⟨r1, r2⟩ | ⟨j, v, r1, r2⟩
  · refine ⟨_, L ++ [(x, g)], by simp [Instr.mapUpdate, run_underlying Tryz.underlying89, hg, hk, r1, hset, Result.andThen]; rfl, ⟨_, _, (MapKept.heap_set hm).1, ?_⟩, hmv _, by simp, ?_, by simp, fun y ⟨v, hv⟩ => ⟨v, List.mem_append_left _ hv⟩⟩
    · rw [Array.toList_push, List.map_append, List.map_append, hl]
      rfl
    · intro p hp
      rcases List.mem_append.1 hp with hp | hp
      · exact .inr hp
      · exact .inl (List.mem_singleton.1 hp)
  · have hj : j < es.toList.length := by
      have := (List.getElem?_eq_some_iff.1 r2).1
      have e := congrArg List.length hl
      rw [List.length_map, List.length_map] at e
      omega
    have hke : es[j]?.map (·.key) = some (pt x) := by
      have e := congrArg (fun q => q[j]?) hl
      simp only [List.getElem?_map, r2, Option.map_some] at e
      rw [← Array.getElem?_toList]
      cases he : es.toList[j]? with
      | none => rw [he] at e; cases e
      | some y =>
        rw [he] at e
        injection e with e
        have := congrArg Prod.fst e
        exact congrArg some this
    have hks : (Instr.keyThatStays ((es[j]?.map (·.key)).getD (pt x)) (pt x)).run Tryz.prog w = .ok (pt x) w := by
      rw [hke]
      have : Instr.sameBits 10000 (pt x) (pt x) = true := by simp [Instr.sameBits, pt]
      simp [Instr.keyThatStays, this]
    refine ⟨_, L.set j (x, g), by simp [Instr.mapUpdate, run_underlying Tryz.underlying89, hg, hk, r1, hks, hset, Result.andThen]; rfl, ⟨_, _, (MapKept.heap_set hm).1, ?_⟩, hmv _, by simp, ?_, ?_, ?_⟩
    · apply List.ext_getElem?
      intro i
      have e := congrArg (fun q => q[i]?) hl
      simp only [List.getElem?_map, Array.getElem?_toList, Array.getElem?_modify, List.getElem?_set] at e ⊢
      by_cases hij : j = i
      · subst hij
        have hjL := (List.getElem?_eq_some_iff.1 r2).1
        rw [if_pos rfl, if_pos rfl, if_pos hjL]
        have : j < es.size := by simpa using hj
        rw [Array.getElem?_eq_getElem this]
        rfl
      · rw [if_neg hij, if_neg hij]
        exact e
    · intro p hp
      rcases List.mem_or_eq_of_mem_set hp with hp | hp
      · exact .inr hp
      · exact .inl hp
    · exact List.mem_set (List.getElem?_eq_some_iff.1 r2).1 _
    · rintro y ⟨u, hu⟩
      obtain ⟨i, hi⟩ := List.mem_iff_getElem?.1 hu
      by_cases hij : j = i
      · subst hij
        rw [r2] at hi
        injection hi with hi
        injection hi with hi _
        exact ⟨g, by rw [← hi]; exact List.mem_set (List.getElem?_eq_some_iff.1 r2).1 _⟩
      · exact ⟨u, List.mem_iff_getElem?.2 ⟨i, by rw [List.getElem?_set, if_neg hij]; exact hi⟩⟩
end Go.Proofs.YtmfoehaeejhlpaaGreatDoor
