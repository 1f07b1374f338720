import Derived.Test.YtfkhhplcogedmaaGreatDoorVdK
import Derived.Test.YtfkhhplcogedmaaGreatDoorVsP
/-
  Verify: an instruction written into a lent program.
-/
namespace Go.Proofs.YtfkhhplcogedmaaGreatDoor
open Go.RowKit
set_option maxRecDepth 100000
/-- An instruction written. -/
def putI (W : World) (g p : Nat) (b : Ins) : World := (W.setCell ⟨g, p, none⟩ (.int .i64 b.op)).setCell ⟨g, p + 1, none⟩ (.int .i64 b.a)
theorem mv_put (W : World) (g p : Nat) (b : Ins) : Mv W (putI W g p b) (fun j => j = g) := (mv_set W g p _).trans (mv_set _ g (p + 1) _) (fun _ _ e => e)
theorem ne_off {g o o' : Nat} (h : o ≠ o') : (⟨g, o, none⟩ : Addr) ≠ ⟨g, o', none⟩ := fun e => h (congrArg Addr.off e)
theorem put_at {W : World} {g p : Nat} {b : Ins} {u1 u2 : Value} (h1 : W.cell? ⟨g, p, none⟩ = some u1) (h2 : W.cell? ⟨g, p + 1, none⟩ = some u2) : (putI W g p b).cell? ⟨g, p, none⟩ = some (.int .i64 b.op) ∧ (putI W g p b).cell? ⟨g, p + 1, none⟩ = some (.int .i64 b.a) := by
  unfold putI
  refine ⟨?_, ?_⟩
  · exact (World.cell?_setCell_other _ ⟨g, p + 1, none⟩ ⟨g, p, none⟩ _ (ne_off (by omega))).trans (World.cell?_setCell_same _ _ _ h1)
  · exact World.cell?_setCell_same _ _ _ ((World.cell?_setCell_other _ ⟨g, p, none⟩ ⟨g, p + 1, none⟩ _ (ne_off (by omega))).trans h2)
theorem put_off {W : World} {g p q : Nat} {b : Ins} (h1 : q ≠ p) (h2 : q ≠ p + 1) : (putI W g p b).cell? ⟨g, q, none⟩ = W.cell? ⟨g, q, none⟩ :=
  (World.cell?_setCell_other _ ⟨g, p + 1, none⟩ ⟨g, q, none⟩ _ (ne_off (by omega))).trans (World.cell?_setCell_other _ ⟨g, p, none⟩ ⟨g, q, none⟩ _ (ne_off (by omega)))
theorem fl_same {α : Type} {f : α → List Value} : ∀ (l : List α) (k : Nat) (h : k < l.length) (y : α), f y = f l[k] → fl f (l.set k y) = fl f l
  | x :: l, 0, _, y, e => by
    show f y ++ fl f l = f x ++ fl f l
    rw [show f y = f x from e]
  | x :: l, k + 1, h, y, e => by
    show f x ++ fl f (l.set k y) = f x ++ fl f l
    rw [fl_same l k (by simpa using h) y e]
section
variable {N : Nat} {W W' : World} {S : Nat → Prop}
theorem Nl.lib {v : Value} {l : List Int} (h : Nl (Li N W) W v l) (hm : Mv W W' S) (hs : ∀ j, v.ownBlock = some j → ¬ S j) : Nl (Li N W') W' v l := by
  obtain ⟨ao, c, h1, h2, h3, h4⟩ := h
  refine ⟨ao, c, h1, h2, h3, fun h0 => ?_⟩
  obtain ⟨g, o, h5, h6, h7⟩ := h4 h0
  have hg : ¬ S g := hs g (by rw [h1, h5]; rfl)
  refine ⟨g, o, h5, h6.mv hm hg, fun i hi => ?_⟩
  obtain ⟨a, b⟩ := h7 i hi
  exact ⟨a, hm.cell b hg⟩
theorem Il.lib {v : Value} {l : List Ins} (h : Il (Li N W) W v l) (hm : Mv W W' S) (hs : ∀ j, v.ownBlock = some j → ¬ S j) : Il (Li N W') W' v l := by
  obtain ⟨ao, c, h1, h2, h3, h4⟩ := h
  refine ⟨ao, c, h1, h2, h3, fun h0 => ?_⟩
  obtain ⟨g, o, h5, h6, h7⟩ := h4 h0
  have hg : ¬ S g := hs g (by rw [h1, h5]; rfl)
  refine ⟨g, o, h5, h6.mv hm hg, fun i hi => ?_⟩
  obtain ⟨a, b, c, d⟩ := h7 i hi
  exact ⟨a, b, hm.cell c hg, hm.cell d hg⟩
theorem Nx.lib {v : Value} {l : List Int} (h : Nx (Li N W) W v l) (hm : Mv W W' S) (hs : ∀ j, v.ownBlock = some j → ¬ S j) : Nx (Li N W') W' v l := by
  obtain ⟨a, c, h1, h2, h3⟩ := h
  exact ⟨a, c, h1, h2, h3.lib hm (fun j e => hs j (by rw [h1]; cases a <;> exact e))⟩
theorem Ix.lib {v : Value} {l : List Ins} (h : Ix (Li N W) W v l) (hm : Mv W W' S) (hs : ∀ j, v.ownBlock = some j → ¬ S j) : Ix (Li N W') W' v l := by
  obtain ⟨a, c, h1, h2, h3⟩ := h
  exact ⟨a, c, h1, h2, h3.lib hm (fun j e => hs j (by rw [h1]; cases a <;> exact e))⟩
theorem Lk.set {e g k : Nat} {u : Value} (h : Lk e N W g) : Lk e N (W.setCell ⟨g, k, none⟩ u) g := by
  obtain ⟨h1, cs, h2⟩ := h
  exact ⟨h1, _, heap_setCell_same W g k cs e u h2⟩
theorem Li.set {g k : Nat} {u : Value} (h : Li N W g) : Li N (W.setCell ⟨g, k, none⟩ u) g := h.elim (fun h => .inl h.set) (fun h => .inr h.set)
theorem Il.put {g o n c i : Nat} {l : List Ins} {b : Ins} (h : Il (Li N W) W (.slice (some ⟨g, o, none⟩) n c) l) (hi : i < l.length) (hb : I6 b.op ∧ I6 b.a) : Il (Li N (putI W g (o + i * 2) b)) (putI W g (o + i * 2) b) (.slice (some ⟨g, o, none⟩) n c) (l.set i b) := by
  obtain ⟨ao, c', e, h2, h3, h4⟩ := h
  injection e with e1 e2 e3
  subst e1 e2 e3
  refine ⟨_, _, by rw [List.length_set], by rw [List.length_set]; exact h2, h3, fun _ => ?_⟩
  obtain ⟨g', o', e, hq, h7⟩ := h4 (by omega)
  injection e with e
  injection e with e1 e2
  subst e1 e2
  refine ⟨g, o, rfl, hq.set.set, fun j hj => ?_⟩
  rw [List.length_set] at hj
  obtain ⟨a1, a2, a3, a4⟩ := h7 j hj
  by_cases hij : i = j
  · subst hij
    have e1 : (l.set i b)[i]'(by rw [List.length_set]; exact hj) = b := List.getElem_set_self _
    rw [e1]
    obtain ⟨k1, k2⟩ := put_at (b := b) a3 a4
    exact ⟨hb.1, hb.2, k1, k2⟩
  · have e1 : (l.set i b)[j]'(by rw [List.length_set]; exact hj) = l[j] := List.getElem_set_ne hij _
    rw [e1]
    exact ⟨a1, a2, (put_off (by omega) (by omega)).trans a3, (put_off (by omega) (by omega)).trans a4⟩
theorem Ix.put {g o n c i : Nat} {l : List Ins} {b : Ins} (h : Ix (Li N W) W (.slice (some ⟨g, o, none⟩) n c) l) (hi : i < l.length) (hb : I6 b.op ∧ I6 b.a) : Ix (Li N (putI W g (o + i * 2) b)) (putI W g (o + i * 2) b) (.slice (some ⟨g, o, none⟩) n c) (l.set i b) := by
  obtain ⟨a, c', e, h2, h3⟩ := h
  injection e with e1 e2 e3
  subst e1 e2 e3
  have e : (i77 l 8).set i b = i77 (l.set i b) 8 := by unfold i77; exact List.set_append_left _ _ hi
  have := h3.put (i := i) (b := b) (by rw [i77_len]; omega) hb
  refine ⟨_, _, by rw [List.length_set], by rw [List.length_set]; exact h2, ?_⟩
  rw [List.length_set, ← e]
  exact this
end
/-- A system, a routine, with another instruction. -/
def syS (x : Sy × Lv) (i : Nat) (b : Ins) : Sy × Lv := (⟨x.1.wi, x.1.wo, x.1.re, x.1.wr, ⟨x.1.run.name, x.1.run.pa, x.1.run.lo, x.1.run.code.set i b⟩⟩, x.2)
def rtS (x : Rt × Value) (i : Nat) (b : Ins) : Rt × Value := (⟨x.1.name, x.1.pa, x.1.lo, x.1.code.set i b⟩, x.2)
theorem lvS_len (x : Sy × Lv) : (Wd.lvS x).length = 5 := rfl
theorem Rs.apart {m i j : Nat} {l : List Value} {u v : Value} (h : Wd.Rs m l) (hu : l[i]? = some u) (hv : l[j]? = some v) (hne : i ≠ j) : u.ownBlock ≠ v.ownBlock := by
  obtain ⟨hi, rfl⟩ := List.getElem?_eq_some_iff.1 hu
  obtain ⟨hj, rfl⟩ := List.getElem?_eq_some_iff.1 hv
  exact h.ne hi hj hne
section
variable {ls : List (Sy × Lv)} {lf : List (Rt × Value)}
theorem posS {j t : Nat} (hj : j < ls.length) (ht : t < 5) : (ls.flatMap Wd.lvS ++ lf.map Prod.snd)[j * 5 + t]? = (Wd.lvS ls[j])[t]? := by
  have hl := fl_len lvS_len ls
  unfold fl at hl
  rw [List.getElem?_append_left (by rw [hl]; omega)]
  exact fl_at lvS_len ls j hj t ht
theorem posF {j : Nat} (hj : j < lf.length) : (ls.flatMap Wd.lvS ++ lf.map Prod.snd)[ls.length * 5 + j]? = some lf[j].2 := by
  have hl := fl_len lvS_len ls
  unfold fl at hl
  rw [List.getElem?_append_right (by rw [hl]; omega), hl, Nat.add_sub_cancel_left, List.getElem?_map, List.getElem?_eq_getElem hj]
  rfl
variable {N m : Nat} {W : World} {gs c1 gf c2 ns nf : Nat}
/-- All but the lists of what is written stay. -/
theorem Lnt.keep {g p : Nat} {b : Ins} {ls' : List (Sy × Lv)} {lf' : List (Rt × Value)} (h : Lnt N W gs c1 gf c2 ns nf ls lf) (hg : Li N W g) (hc : ∃ u, W.cell? ⟨g, p + 1, none⟩ = some u) (hs : fl lvC ls' = fl lvC ls) (hf : fl rwC lf' = fl rwC lf) (hl1 : ls'.length = ls.length) (hl2 : lf'.length = lf.length) (ha : ∀ x ∈ ls', Wd.SyL N (putI W g p b) x) (hb : ∀ x ∈ lf', Wd.RtL N (putI W g p b) x) : Lnt N (putI W g p b) gs c1 gf c2 ns nf ls' lf' := by
  have hm := mv_put W g p b
  refine ⟨⟨?_, ha⟩, ⟨?_, hb⟩, ?_, ?_, h.k1, h.k2, by rw [hl1]; exact h.l1, by rw [hl2]; exact h.l2⟩
  · rw [hs, hl1]
    refine hm.own h.s.row (fun k e e2 => ?_)
    subst e2
    exact hg.not h.s.row (by decide) (by decide) e
  · rw [hf, hl2]
    refine hm.own h.f.row (fun k e e2 => ?_)
    subst e2
    exact hg.not h.f.row (by decide) (by decide) e
  · obtain ⟨x, cs, a1, a2, a3⟩ := h.bs
    refine ⟨x, cs, hm.at a1 (fun e => hg.notb a1 (by decide) (by decide) e.symm), a2, hm.at a3 (fun e => ?_)⟩
    subst e
    obtain ⟨u, hu⟩ := hc
    rw [cell_of_row W _ _ _ 3 (0, 0) a3] at hu
    simp at hu
  · obtain ⟨cs, a1, a2⟩ := h.bf
    exact ⟨cs, hm.at a1 (fun e => hg.notb a1 (by decide) (by decide) e.symm), a2⟩
/-- What the code's list tells of its block. -/
theorem Ix.blk {g o n c i : Nat} {l : List Ins} (h : Ix (Li N W) W (.slice (some ⟨g, o, none⟩) n c) l) (hi : i < l.length) : Li N W g ∧ ∃ u, W.cell? ⟨g, o + i * 2 + 1, none⟩ = some u := by
  obtain ⟨a, c', e, h2, ao, c2, e', k2, k3, k4⟩ := h
  injection e with e1 e2 e3
  subst e1 e2 e3
  injection e' with e1 e2 e3
  subst e1
  obtain ⟨g', o', e, hq, h7⟩ := k4 (by rw [i77_len]; omega)
  injection e with e
  injection e with e1 e2
  subst e1 e2
  obtain ⟨-, -, -, a4⟩ := h7 i (by rw [i77_len]; omega)
  exact ⟨hq, _, a4⟩
theorem Lnt.putS {k i g o n c : Nat} {b : Ins} (h : Lnt N W gs c1 gf c2 ns nf ls lf) (hr : Wd.Rs m (ls.flatMap Wd.lvS ++ lf.map Prod.snd)) (hk : k < ls.length) (hv : ls[k].2.vc = .slice (some ⟨g, o, none⟩) n c) (hi : i < ls[k].1.run.code.length) (hb : I6 b.op ∧ I6 b.a) : Lnt N (putI W g (o + i * 2) b) gs c1 gf c2 ns nf (ls.set k (syS ls[k] i b)) lf := by
  have hm := mv_put W g (o + i * 2) b
  have hx := h.s.all _ (List.getElem_mem hk)
  have hco := hx.co
  rw [hv] at hco
  obtain ⟨q1, q2⟩ := hco.blk hi
  have pk := posS (ls := ls) (lf := lf) hk (t := 4) (by omega)
  have apS : ∀ j (hj : j < ls.length) t u, t < 5 → (Wd.lvS ls[j])[t]? = some u → j * 5 + t ≠ k * 5 + 4 → ∀ a, u.ownBlock = some a → ¬ a = g := fun j hj t u ht hu hne a e1 e2 => by
    refine Rs.apart hr ((posS hj ht).trans hu) (pk.trans (show (Wd.lvS ls[k])[4]? = some ls[k].2.vc from rfl)) hne ?_
    rw [e1, hv, e2]
    rfl
  refine h.keep q1 q2 (fl_same ls k hk _ rfl) rfl (by rw [List.length_set]) rfl (fun x hx' => ?_) (fun x hx' => ?_)
  · obtain ⟨j, hj, rfl⟩ := List.getElem_of_mem hx'
    rw [List.length_set] at hj
    have hy := h.s.all _ (List.getElem_mem hj)
    by_cases hjk : k = j
    · subst hjk
      rw [List.getElem_set_self]
      exact ⟨hy.pa, hy.lo, hy.wi.lib hm (apS k hj 0 _ (by omega) rfl (by omega)), hy.wo.lib hm (apS k hj 1 _ (by omega) rfl (by omega)), hy.re.lib hm (apS k hj 2 _ (by omega) rfl (by omega)), hy.wr.lib hm (apS k hj 3 _ (by omega) rfl (by omega)), by
        show Ix _ _ ls[k].2.vc _
        rw [hv]
        exact hco.put hi hb⟩
    · rw [List.getElem_set_ne hjk]
      exact ⟨hy.pa, hy.lo, hy.wi.lib hm (apS j hj 0 _ (by omega) rfl (by omega)), hy.wo.lib hm (apS j hj 1 _ (by omega) rfl (by omega)), hy.re.lib hm (apS j hj 2 _ (by omega) rfl (by omega)), hy.wr.lib hm (apS j hj 3 _ (by omega) rfl (by omega)), hy.co.lib hm (apS j hj 4 _ (by omega) rfl (by omega))⟩
  · obtain ⟨j, hj, rfl⟩ := List.getElem_of_mem hx'
    have hy := h.f.all _ (List.getElem_mem hj)
    refine ⟨hy.pa, hy.lo, hy.co.lib hm (fun a e1 e2 => ?_)⟩
    refine Rs.apart hr (posF hj) (pk.trans (show (Wd.lvS ls[k])[4]? = some ls[k].2.vc from rfl)) (by omega) ?_
    rw [e1, hv, e2]
    rfl
theorem Lnt.putF {k i g o n c : Nat} {b : Ins} (h : Lnt N W gs c1 gf c2 ns nf ls lf) (hr : Wd.Rs m (ls.flatMap Wd.lvS ++ lf.map Prod.snd)) (hk : k < lf.length) (hv : lf[k].2 = .slice (some ⟨g, o, none⟩) n c) (hi : i < lf[k].1.code.length) (hb : I6 b.op ∧ I6 b.a) : Lnt N (putI W g (o + i * 2) b) gs c1 gf c2 ns nf ls (lf.set k (rtS lf[k] i b)) := by
  have hm := mv_put W g (o + i * 2) b
  have hx := h.f.all _ (List.getElem_mem hk)
  have hco := hx.co
  rw [hv] at hco
  obtain ⟨q1, q2⟩ := hco.blk hi
  have pk := posF (ls := ls) (lf := lf) hk
  refine h.keep q1 q2 rfl (fl_same lf k hk _ rfl) rfl (by rw [List.length_set]) (fun x hx' => ?_) (fun x hx' => ?_)
  · obtain ⟨j, hj, rfl⟩ := List.getElem_of_mem hx'
    have hy := h.s.all _ (List.getElem_mem hj)
    have apS : ∀ t u, t < 5 → (Wd.lvS ls[j])[t]? = some u → ∀ a, u.ownBlock = some a → ¬ a = g := fun t u ht hu a e1 e2 => by
      refine Rs.apart hr ((posS hj ht).trans hu) pk (by omega) ?_
      rw [e1, hv, e2]
      rfl
    exact ⟨hy.pa, hy.lo, hy.wi.lib hm (apS 0 _ (by omega) rfl), hy.wo.lib hm (apS 1 _ (by omega) rfl), hy.re.lib hm (apS 2 _ (by omega) rfl), hy.wr.lib hm (apS 3 _ (by omega) rfl), hy.co.lib hm (apS 4 _ (by omega) rfl)⟩
  · obtain ⟨j, hj, rfl⟩ := List.getElem_of_mem hx'
    rw [List.length_set] at hj
    have hy := h.f.all _ (List.getElem_mem hj)
    by_cases hjk : k = j
    · subst hjk
      rw [List.getElem_set_self]
      exact ⟨hy.pa, hy.lo, by
        show Ix _ _ lf[k].2 _
        rw [hv]
        exact hco.put hi hb⟩
    · rw [List.getElem_set_ne hjk]
      refine ⟨hy.pa, hy.lo, hy.co.lib hm (fun a e1 e2 => ?_)⟩
      refine Rs.apart hr (posF hj) pk (by omega) ?_
      rw [e1, hv, e2]
      rfl
end
end Go.Proofs.YtfkhhplcogedmaaGreatDoor

/-
  Verify: the law's says, of a program that was lent.
-/
namespace Go.Proofs.YtfkhhplcogedmaaGreatDoor
open Go.RowKit
set_option maxRecDepth 100000
theorem says_any {Q : Nat → Prop} {N : Nat} {w : World} {gs c1 gf c2 ns nf cs cf nk kc : Nat} {sa fa ka : Option Addr} {ls : List (Sy × Lv)} {lf : List (Rt × Value)} {ks : List Kind} (hL : Lnt N w gs c1 gf c2 ns nf ls lf) (hS : Sys Q w (.slice sa ns cs) (ls.map Prod.fst)) (hF : Rts Q w (.slice fa nf cf) (lf.map Prod.fst)) (hc1 : ns ≤ cs) (hc2 : cs ≤ 9223372036854775807) (hc3 : nf ≤ cf) (hc4 : cf ≤ 9223372036854775807)
    (hk : Kr w (.slice ka nk kc) ks) (hn : nk = ks.length) (hz : Sz ks) (hkc1 : nk ≤ kc) (hkc2 : kc ≤ 9223372036854775807) (ht : Tb w)
    (JD : Hid (∀ V vk' ks', Below w.heap.size w V → Kr V vk' ks' → Sz ks' → Calls Tryz.prog 18 #[.agg #[.slice sa ns cs, .slice fa nf cf], vk'] V fun e w' => ∃ o, e = .returned (.tuple #[.int .i64 (atO o), .int .i64 (erN o)]) ∧ Vo ⟨ls.map Prod.fst, lf.map Prod.fst⟩ ks' o ∧ Below V.heap.size V w')) :
    Calls Tryz.prog 6 #[.agg #[.slice (some ⟨gs, 0, none⟩) ns c1, .slice (some ⟨gf, 0, none⟩) nf c2], .agg #[.slice sa ns cs, .slice fa nf cf], .slice ka nk kc] w fun e w' => e = .returned (.bool true) ∧ Below w.heap.size w w' := by
  refine says_of (p := ⟨ls.map Prod.fst, lf.map Prod.fst⟩) ?_ ?_ ?_ JD hk hn hz hkc1 hkc2
  · intro V hV
    refine (Kn.lent_kinds (hk.later hV) hz).mono ?_
    rintro e w' ⟨v', rfl, h2, h3⟩
    obtain ⟨g, c, L, rfl, k2, k3, k4⟩ := id h2
    rw [← hn] at h2 k3 ⊢
    exact ⟨g, c, rfl, (own_cap k3).1, h2, h3⟩
  · intro V vk' ks' hV hk'
    exact verifyN_any ⟨(hL.later hV).s.sys, (hL.later hV).f.rts⟩ hk' (ht.later hV)
  · intro V hV
    exact lstill_any (hL.later hV) (hS.later hV) (hF.later hV) hc1 hc2 hc3 hc4
end Go.Proofs.YtfkhhplcogedmaaGreatDoor

/-
  Verify: a lent program stays where something else is written.
-/
namespace Go.Proofs.YtfkhhplcogedmaaGreatDoor
open Go.RowKit
set_option maxRecDepth 100000
section
variable {N m : Nat} {W : World} {gs c1 gf c2 ns nf : Nat} {ls : List (Sy × Lv)} {lf : List (Rt × Value)}
/-- A block of numbers or instructions, whoever's. -/
def Ln (W : World) (g : Nat) : Prop := ∃ cs t, W.heap[g]? = some (.cells cs t (0, 0)) ∧ (t = 3 ∨ t = 28)
theorem Ln.of {g : Nat} (h : Li N W g) : Ln W g := by
  rcases h with ⟨-, cs, h⟩ | ⟨-, cs, h⟩
  · exact ⟨cs, _, h, .inl rfl⟩
  · exact ⟨cs, _, h, .inr rfl⟩
theorem Ln.not {g B e s n : Nat} {v : Value} {xs : List Value} (h : Ln W g) (ho : W.ownsRow B e s v n xs) (h1 : e ≠ 3) (h2 : e ≠ 28) : ¬ v.ownBlock = some g := fun e' => by
  obtain ⟨cs, hc⟩ := own_blk2 ho e'
  obtain ⟨ds, t, hd, ht⟩ := h
  rw [hc] at hd
  injection hd with hd
  injection hd with hd hd2
  subst hd2
  rcases ht with ht | ht
  · exact h1 ht
  · exact h2 ht
theorem Ln.notb {g j t : Nat} {cs : Array Value} (h : Ln W g) (hj : W.heap[j]? = some (.cells cs t (0, 0))) (h1 : t ≠ 3) (h2 : t ≠ 28) : ¬ j = g := fun e => by
  subst e
  obtain ⟨ds, t', hd, ht⟩ := h
  rw [hj] at hd
  injection hd with hd
  injection hd with hd hd2
  subst hd2
  rcases ht with ht | ht
  · exact h1 ht
  · exact h2 ht
theorem Lnt.past {g p : Nat} {b : Ins} (h : Lnt N W gs c1 gf c2 ns nf ls lf) (hg : Ln W g) (hc : ∃ u, W.cell? ⟨g, p + 1, none⟩ = some u) (hne : ∀ v ∈ ls.flatMap Wd.lvS ++ lf.map Prod.snd, ∀ j, v.ownBlock = some j → ¬ j = g) : Lnt N (putI W g p b) gs c1 gf c2 ns nf ls lf := by
  have hm := mv_put W g p b
  have k1 : ∀ x ∈ ls, ∀ v ∈ Wd.lvS x, ∀ j, v.ownBlock = some j → ¬ j = g := fun x hx v hv => hne v (List.mem_append_left _ (List.mem_flatMap.2 ⟨x, hx, hv⟩))
  have k2 : ∀ x ∈ lf, ∀ j, x.2.ownBlock = some j → ¬ j = g := fun x hx => hne x.2 (List.mem_append_right _ (List.mem_map.2 ⟨x, hx, rfl⟩))
  refine ⟨⟨?_, fun x hx => ?_⟩, ⟨?_, fun x hx => ?_⟩, ?_, ?_, h.k1, h.k2, h.l1, h.l2⟩
  · refine hm.own h.s.row (fun k e e2 => ?_)
    subst e2
    exact hg.not h.s.row (by decide) (by decide) e
  · have hy := h.s.all x hx
    have kk := k1 x hx
    exact ⟨hy.pa, hy.lo, hy.wi.lib hm (kk _ (by simp [Wd.lvS])), hy.wo.lib hm (kk _ (by simp [Wd.lvS])), hy.re.lib hm (kk _ (by simp [Wd.lvS])), hy.wr.lib hm (kk _ (by simp [Wd.lvS])), hy.co.lib hm (kk _ (by simp [Wd.lvS]))⟩
  · refine hm.own h.f.row (fun k e e2 => ?_)
    subst e2
    exact hg.not h.f.row (by decide) (by decide) e
  · have hy := h.f.all x hx
    exact ⟨hy.pa, hy.lo, hy.co.lib hm (k2 x hx)⟩
  · obtain ⟨x, cs, a1, a2, a3⟩ := h.bs
    refine ⟨x, cs, hm.at a1 (hg.notb a1 (by decide) (by decide)), a2, hm.at a3 (fun e => ?_)⟩
    subst e
    obtain ⟨u, hu⟩ := hc
    rw [cell_of_row W _ _ _ 3 (0, 0) a3] at hu
    simp at hu
  · obtain ⟨cs, a1, a2⟩ := h.bf
    exact ⟨cs, hm.at a1 (hg.notb a1 (by decide) (by decide)), a2⟩
/-- Its lists lie below m. -/
theorem rs_below {l : List Value} {g : Nat} (h : Wd.Rs m l) (hg : m ≤ g) : ∀ v ∈ l, ∀ j, v.ownBlock = some j → ¬ j = g := fun v hv j e e2 => by
  obtain ⟨i, hi, rfl⟩ := List.getElem_of_mem hv
  obtain ⟨b, h1, h2⟩ := h.lt hi
  rw [h1] at e
  injection e with e
  omega
theorem Nx.own {W : World} {v : Value} {l : List Int} {j : Nat} (h : Nx (Li N W) W v l) (e : v.ownBlock = some j) : N ≤ j := by
  obtain ⟨a, c, rfl, h2, ao, c', e', k2, k3, k4⟩ := h
  injection e' with e1
  subst e1
  obtain ⟨g, o, rfl, hq, -⟩ := k4 (by rw [List.length_append]; simp)
  injection e with e
  subst e
  exact hq.elim (fun h => h.1) (fun h => h.1)
theorem Ix.own {W : World} {v : Value} {l : List Ins} {j : Nat} (h : Ix (Li N W) W v l) (e : v.ownBlock = some j) : N ≤ j := by
  obtain ⟨a, c, rfl, h2, ao, c', e', k2, k3, k4⟩ := h
  injection e' with e1
  subst e1
  obtain ⟨g, o, rfl, hq, -⟩ := k4 (by rw [i77_len]; omega)
  injection e with e
  subst e
  exact hq.elim (fun h => h.1) (fun h => h.1)
/-- Its lists lie at N or above. -/
theorem Lnt.above {g : Nat} (h : Lnt N W gs c1 gf c2 ns nf ls lf) (hg : g < N) : ∀ v ∈ ls.flatMap Wd.lvS ++ lf.map Prod.snd, ∀ j, v.ownBlock = some j → ¬ j = g := fun v hv j e e2 => by
  rcases List.mem_append.1 hv with hv | hv
  · obtain ⟨x, hx, hv⟩ := List.mem_flatMap.1 hv
    have hy := h.s.all x hx
    simp only [Wd.lvS, List.mem_cons, List.not_mem_nil, or_false] at hv
    rcases hv with rfl | rfl | rfl | rfl | rfl
    · have := hy.wi.own e; omega
    · have := hy.wo.own e; omega
    · have := hy.re.own e; omega
    · have := hy.wr.own e; omega
    · have := hy.co.own e; omega
  · obtain ⟨x, hx, rfl⟩ := List.mem_map.1 hv
    have := (h.f.all x hx).co.own e
    omega
end
end Go.Proofs.YtfkhhplcogedmaaGreatDoor

/-
  Verify: where a lent program's code lies; the law's says of two programs that were written.
-/
namespace Go.Proofs.YtfkhhplcogedmaaGreatDoor
open Go.RowKit
set_option maxRecDepth 100000
section
variable {N m : Nat} {W : World} {gs c1 gf c2 ns nf : Nat} {ls : List (Sy × Lv)} {lf : List (Rt × Value)}
/-- Where an instruction stands. -/
structure Pl (N : Nat) (W : World) (v : Value) (n i : Nat) (g o c : Nat) : Prop where
  e : v = .slice (some ⟨g, o, none⟩) n c
  h1 : n ≤ c ∧ c ≤ 9223372036854775807
  q : Li N W g
  nn : N ≤ g
  b : ∃ cs t, W.heap[g]? = some (.cells cs t (0, 0))
  x : ∃ u, W.cell? ⟨g, o + i * 2, none⟩ = some u
  y : ∃ u, W.cell? ⟨g, o + i * 2 + 1, none⟩ = some u
theorem Ix.pl {v : Value} {l : List Ins} {i : Nat} (h : Ix (Li N W) W v l) (hi : i < l.length) : ∃ g o c, Pl N W v l.length i g o c := by
  obtain ⟨a, c, rfl, h2, ao, c2, e', k2, k3, k4⟩ := h
  injection e' with e1 e2 e3
  subst e1 e3
  obtain ⟨g, o, rfl, hq, h7⟩ := k4 (by rw [i77_len]; omega)
  obtain ⟨-, -, a3, a4⟩ := h7 i (by rw [i77_len]; omega)
  unfold maxLen at k3
  refine ⟨g, o, c, rfl, ⟨by omega, by omega⟩, hq, hq.elim (fun h => h.1) (fun h => h.1), ?_, ⟨_, a3⟩, ⟨_, a4⟩⟩
  rcases hq with ⟨-, cs, hh⟩ | ⟨-, cs, hh⟩
  · exact ⟨cs, _, hh⟩
  · exact ⟨cs, _, hh⟩
theorem Lnt.codeS (h : Lnt N W gs c1 gf c2 ns nf ls lf) {k i : Nat} (hk : k < ls.length) (hi : i < ls[k].1.run.code.length) : ∃ g o c, Pl N W ls[k].2.vc ls[k].1.run.code.length i g o c ∧ W.cell? ⟨gs, k * 8 + 7, none⟩ = some (.slice (some ⟨g, o, none⟩) ls[k].1.run.code.length c) := by
  obtain ⟨g, o, c, P⟩ := (h.s.all _ (List.getElem_mem hk)).co.pl hi
  refine ⟨g, o, c, P, ?_⟩
  rw [h.cs hk 7 (by omega), ← P.e]
  rfl
theorem Lnt.codeF (h : Lnt N W gs c1 gf c2 ns nf ls lf) {k i : Nat} (hk : k < lf.length) (hi : i < lf[k].1.code.length) : ∃ g o c, Pl N W lf[k].2 lf[k].1.code.length i g o c ∧ W.cell? ⟨gf, k * 4 + 3, none⟩ = some (.slice (some ⟨g, o, none⟩) lf[k].1.code.length c) := by
  obtain ⟨g, o, c, P⟩ := (h.f.all _ (List.getElem_mem hk)).co.pl hi
  refine ⟨g, o, c, P, ?_⟩
  rw [h.cf hk 3 (by omega), ← P.e]
  rfl
/-- A program's own two cells. -/
def PgB (W : World) (g : Nat) (v1 v2 : Value) : Prop := W.heap[g]? = some (.cells #[v1, v2] 25 (0, 0))
theorem PgB.c {g : Nat} {v1 v2 : Value} (h : PgB W g v1 v2) : W.cell? ⟨g, 0, none⟩ = some v1 ∧ W.cell? ⟨g, 1, none⟩ = some v2 :=
  ⟨by rw [cell_of_row W _ _ _ 25 (0, 0) h]; rfl, by rw [cell_of_row W _ _ _ 25 (0, 0) h]; rfl⟩
theorem PgB.put {g j p : Nat} {v1 v2 : Value} {b : Ins} (h : PgB W g v1 v2) (hj : Ln W j) : PgB (putI W j p b) g v1 v2 :=
  (mv_put W j p b).at h (hj.notb h (by decide) (by decide))
theorem PgB.later {W' : World} {g : Nat} {v1 v2 : Value} (h : PgB W g v1 v2) (hb : Below W.heap.size W W') : PgB W' g v1 v2 :=
  (hb.block g (lt_of_block h)).trans h
/-- Another instruction, in a system and in a routine. -/
def syC (x : Sy) (i : Nat) (b : Ins) : Sy := ⟨x.wi, x.wo, x.re, x.wr, ⟨x.run.name, x.run.pa, x.run.lo, x.run.code.set i b⟩⟩
def rtC (x : Rt) (i : Nat) (b : Ins) : Rt := ⟨x.name, x.pa, x.lo, x.code.set i b⟩
theorem map_setS {sys : List Sy} (e : ls.map Prod.fst = sys) {k i : Nat} {b : Ins} (hk : k < ls.length) (hk' : k < sys.length) : (ls.set k (syS ls[k] i b)).map Prod.fst = sys.set k (syC sys[k] i b) := by
  subst e
  rw [List.map_set, List.getElem_map]
  rfl
theorem map_setF {fns : List Rt} (e : lf.map Prod.fst = fns) {k i : Nat} {b : Ins} (hk : k < lf.length) (hk' : k < fns.length) : (lf.set k (rtS lf[k] i b)).map Prod.fst = fns.set k (rtC fns[k] i b) := by
  subst e
  rw [List.map_set, List.getElem_map]
  rfl
def SmS (a b : List Sy) : Prop := a.length = b.length ∧ ∀ i (h : i < a.length) (h' : i < b.length), a[i].run.name = b[i].run.name ∧ a[i].run.code.length = b[i].run.code.length
def SmF (a b : List Rt) : Prop := a.length = b.length ∧ ∀ i (h : i < a.length) (h' : i < b.length), a[i].name = b[i].name ∧ a[i].code.length = b[i].code.length
theorem SmS.refl (a : List Sy) : SmS a a := ⟨rfl, fun _ _ _ => ⟨rfl, rfl⟩⟩
theorem SmF.refl (a : List Rt) : SmF a a := ⟨rfl, fun _ _ _ => ⟨rfl, rfl⟩⟩
theorem SmS.set (a : List Sy) {k i : Nat} {b : Ins} (hk : k < a.length) : SmS (a.set k (syC a[k] i b)) a := ⟨by rw [List.length_set], fun j h h' => by
  by_cases e : k = j
  · subst e
    rw [List.getElem_set_self]
    exact ⟨rfl, by simp [syC]⟩
  · rw [List.getElem_set_ne e]
    exact ⟨rfl, rfl⟩⟩
theorem SmF.set (a : List Rt) {k i : Nat} {b : Ins} (hk : k < a.length) : SmF (a.set k (rtC a[k] i b)) a := ⟨by rw [List.length_set], fun j h h' => by
  by_cases e : k = j
  · subst e
    rw [List.getElem_set_self]
    exact ⟨rfl, by simp [rtC]⟩
  · rw [List.getElem_set_ne e]
    exact ⟨rfl, rfl⟩⟩
/-- The document's Verify, of all programs of such names and lengths. -/
def JDp (sys : List Sy) (fns : List Rt) : Prop := ∀ V (sys' : List Sy) (fns' : List Rt) (Q' : Nat → Prop) (sa fa : Option Addr) (cs cf : Nat) vk' ks', SmS sys' sys → SmF fns' fns → sys.length ≤ cs → cs ≤ 9223372036854775807 → fns.length ≤ cf → cf ≤ 9223372036854775807 → Sys Q' V (.slice sa sys.length cs) sys' → Rts Q' V (.slice fa fns.length cf) fns' → Kr V vk' ks' → Sz ks' → Calls Tryz.prog 18 #[.agg #[.slice sa sys.length cs, .slice fa fns.length cf], vk'] V fun e w' => ∃ o, e = .returned (.tuple #[.int .i64 (atO o), .int .i64 (erN o)]) ∧ Vo ⟨sys', fns'⟩ ks' o ∧ Below V.heap.size V w'
variable {N' hs d1 hf d2 nk kc : Nat} {rs : List (Sy × Lv)} {rf : List (Rt × Value)} {sys sys' : List Sy} {fns fns' : List Rt} {ka : Option Addr} {ks : List Kind}
theorem says_end (hq : Lnt N W gs c1 gf c2 ns nf ls lf) (hr : Lnt N' W hs d1 hf d2 ns nf rs rf) (e1 : ls.map Prod.fst = sys') (e2 : lf.map Prod.fst = fns') (e3 : rs.map Prod.fst = sys') (e4 : rf.map Prod.fst = fns') (hns : ns = sys.length) (hnf : nf = fns.length) (s1 : SmS sys' sys) (s2 : SmF fns' fns) (hk : Kr W (.slice ka nk kc) ks) (hn : nk = ks.length) (hz : Sz ks) (hkc1 : nk ≤ kc) (hkc2 : kc ≤ 9223372036854775807) (ht : Tb W) (JD : Hid (JDp sys fns)) :
    Calls Tryz.prog 6 #[.agg #[.slice (some ⟨gs, 0, none⟩) ns c1, .slice (some ⟨gf, 0, none⟩) nf c2], .agg #[.slice (some ⟨hs, 0, none⟩) ns d1, .slice (some ⟨hf, 0, none⟩) nf d2], .slice ka nk kc] W fun e w' => e = .returned (.bool true) ∧ Below W.heap.size W w' := by
  have hS := hr.s.sys
  have hF := hr.f.rts
  rw [e3] at hS
  rw [e4] at hF
  have u1 := hr.k1
  have u2 := hr.k2
  refine says_any hq (by rw [e1]; exact hS) (by rw [e2]; exact hF) (by omega) u1.2 (by omega) u2.2 hk hn hz hkc1 hkc2 ht (fun V vk' ks' hV hk' hz' => ?_)
  rw [e1, e2]
  have := JD.out V sys' fns' _ (some ⟨hs, 0, none⟩) (some ⟨hf, 0, none⟩) d1 d2 vk' ks' s1 s2 (by omega) u1.2 (by omega) u2.2 (by rw [← hns]; exact hS.later hV) (by rw [← hnf]; exact hF.later hV) hk' hz'
  rw [← hns, ← hnf] at this
  exact this
/-- q's system is written: the other program stays. -/
theorem past_low (hr : Lnt N' W hs d1 hf d2 ns nf rs rf) (hqr : Wd.Rs m (ls.flatMap Wd.lvS ++ lf.map Prod.snd)) (hmN : m ≤ N') {v : Value} (hv : v ∈ ls.flatMap Wd.lvS ++ lf.map Prod.snd) {n i g o c : Nat} {b : Ins} (P : Pl N W v n i g o c) : g < m ∧ Lnt N' (putI W g (o + i * 2) b) hs d1 hf d2 ns nf rs rf := by
  have hg : g < m := by
    obtain ⟨j, hj, e⟩ := List.getElem_of_mem hv
    obtain ⟨b', h1, h2⟩ := hqr.lt hj
    rw [e, P.e] at h1
    have h3 : g = b' := Option.some.inj h1
    omega
  exact ⟨hg, hr.past (.of P.q) P.y (hr.above (by omega))⟩
theorem memS {k : Nat} (hk : k < ls.length) : ls[k].2.vc ∈ ls.flatMap Wd.lvS ++ lf.map Prod.snd := List.mem_append_left _ (List.mem_flatMap.2 ⟨ls[k], List.getElem_mem hk, by simp [Wd.lvS]⟩)
theorem memF {k : Nat} (hk : k < lf.length) : lf[k].2 ∈ ls.flatMap Wd.lvS ++ lf.map Prod.snd := List.mem_append_right _ (List.mem_map.2 ⟨lf[k], List.getElem_mem hk, rfl⟩)
theorem flat_setS {k i : Nat} {b : Ins} (hk : k < ls.length) : (ls.set k (syS ls[k] i b)).flatMap Wd.lvS = ls.flatMap Wd.lvS := fl_same ls k hk _ rfl
theorem snd_setF {k i : Nat} {b : Ins} (hk : k < lf.length) : (lf.set k (rtS lf[k] i b)).map Prod.snd = lf.map Prod.snd := by
  rw [List.map_set]
  refine List.ext_getElem (by rw [List.length_set]) (fun j h1 h2 => ?_)
  by_cases e : k = j
  · subst e
    rw [List.getElem_set_self, List.getElem_map]
    rfl
  · rw [List.getElem_set_ne e]
theorem below_put {B g p : Nat} {a w : World} {b : Ins} (h : Below B a w) (hg : B ≤ g) : Below B a (putI w g p b) := (h.setCell (by show _ ≤ g; omega) _).setCell (by show _ ≤ g; omega) _
theorem at_S (e : ls.map Prod.fst = sys) {k : Nat} (hk : k < ls.length) (hk' : k < sys.length) : ls[k].1 = sys[k] := by
  subst e
  rw [List.getElem_map]
theorem at_F (e : lf.map Prod.fst = fns) {k : Nat} (hk : k < lf.length) (hk' : k < fns.length) : lf[k].1 = fns[k] := by
  subst e
  rw [List.getElem_map]
/-- q's system k is written. -/
theorem wayS1 {k i n : Nat} {b : Ins} (hq : Lnt N W gs c1 gf c2 ns nf ls lf) (hqr : Wd.Rs m (ls.flatMap Wd.lvS ++ lf.map Prod.snd)) (hr : Lnt N' W hs d1 hf d2 ns nf rs rf) (hmN : m ≤ N') (e1 : ls.map Prod.fst = sys) (hk : k < sys.length) (hn : n = sys[k].run.code.length) (hi : i < n) (hb : I6 b.op ∧ I6 b.a) :
    ∃ g o c v ls', Pl N W v n i g o c ∧ W.cell? ⟨gs, k * 8 + 7, none⟩ = some (.slice (some ⟨g, o, none⟩) n c) ∧ (putI W g (o + i * 2) b).cell? ⟨gs, k * 8 + 7, none⟩ = some (.slice (some ⟨g, o, none⟩) n c) ∧ Lnt N (putI W g (o + i * 2) b) gs c1 gf c2 ns nf ls' lf ∧ Lnt N' (putI W g (o + i * 2) b) hs d1 hf d2 ns nf rs rf ∧ ls'.map Prod.fst = sys.set k (syC sys[k] i b) ∧ Wd.Rs m (ls'.flatMap Wd.lvS ++ lf.map Prod.snd) := by
  have hkl : k < ls.length := by have := congrArg List.length e1; rw [List.length_map] at this; omega
  have q1 : ls[k].1 = sys[k] := at_S e1 hkl hk
  obtain ⟨g, o, c, P, hc⟩ := hq.codeS hkl (i := i) (by rw [q1, ← hn]; exact hi)
  rw [q1, ← hn] at P hc
  have R1 := (past_low (b := b) hr hqr hmN (memS hkl) P).2
  have Q1 := hq.putS (b := b) hqr hkl P.e (by rw [q1, ← hn]; exact hi) hb
  refine ⟨g, o, c, _, _, P, hc, ?_, Q1, R1, map_setS e1 hkl hk, by rw [flat_setS hkl]; exact hqr⟩
  have hj := Q1.cs (i := k) (by rw [List.length_set]; exact hkl) 7 (by omega)
  rw [List.getElem_set_self] at hj
  rw [hj]
  have := hq.cs hkl 7 (by omega)
  rw [hc] at this
  exact this.symm
/-- Then r's. -/
theorem wayS2 {m' k i n : Nat} {b : Ins} (hq : Lnt N W gs c1 gf c2 ns nf ls lf) (hqr : Wd.Rs m (ls.flatMap Wd.lvS ++ lf.map Prod.snd)) (hr : Lnt N' W hs d1 hf d2 ns nf rs rf) (hrr : Wd.Rs m' (rs.flatMap Wd.lvS ++ rf.map Prod.snd)) (hmN : m ≤ N') (e3 : rs.map Prod.fst = sys) (hk : k < sys.length) (hn : n = sys[k].run.code.length) (hi : i < n) (hb : I6 b.op ∧ I6 b.a) :
    ∃ g o c v rs', Pl N' W v n i g o c ∧ W.cell? ⟨hs, k * 8 + 7, none⟩ = some (.slice (some ⟨g, o, none⟩) n c) ∧ (putI W g (o + i * 2) b).cell? ⟨hs, k * 8 + 7, none⟩ = some (.slice (some ⟨g, o, none⟩) n c) ∧ Lnt N (putI W g (o + i * 2) b) gs c1 gf c2 ns nf ls lf ∧ Lnt N' (putI W g (o + i * 2) b) hs d1 hf d2 ns nf rs' rf ∧ rs'.map Prod.fst = sys.set k (syC sys[k] i b) := by
  have hkl : k < rs.length := by have := congrArg List.length e3; rw [List.length_map] at this; omega
  have q1 : rs[k].1 = sys[k] := at_S e3 hkl hk
  obtain ⟨g, o, c, P, hc⟩ := hr.codeS hkl (i := i) (by rw [q1, ← hn]; exact hi)
  rw [q1, ← hn] at P hc
  have Q1 := hr.putS (b := b) hrr hkl P.e (by rw [q1, ← hn]; exact hi) hb
  refine ⟨g, o, c, _, _, P, hc, ?_, hq.past (.of P.q) P.y (rs_below hqr (by have := P.nn; omega)), Q1, map_setS e3 hkl hk⟩
  have hj := Q1.cs (i := k) (by rw [List.length_set]; exact hkl) 7 (by omega)
  rw [List.getElem_set_self] at hj
  rw [hj]
  have := hr.cs hkl 7 (by omega)
  rw [hc] at this
  exact this.symm
/-- q's function k is written. -/
theorem wayF1 {k i n : Nat} {b : Ins} (hq : Lnt N W gs c1 gf c2 ns nf ls lf) (hqr : Wd.Rs m (ls.flatMap Wd.lvS ++ lf.map Prod.snd)) (hr : Lnt N' W hs d1 hf d2 ns nf rs rf) (hmN : m ≤ N') (e1 : lf.map Prod.fst = fns) (hk : k < fns.length) (hn : n = fns[k].code.length) (hi : i < n) (hb : I6 b.op ∧ I6 b.a) :
    ∃ g o c v lf', Pl N W v n i g o c ∧ W.cell? ⟨gf, k * 4 + 3, none⟩ = some (.slice (some ⟨g, o, none⟩) n c) ∧ (putI W g (o + i * 2) b).cell? ⟨gf, k * 4 + 3, none⟩ = some (.slice (some ⟨g, o, none⟩) n c) ∧ Lnt N (putI W g (o + i * 2) b) gs c1 gf c2 ns nf ls lf' ∧ Lnt N' (putI W g (o + i * 2) b) hs d1 hf d2 ns nf rs rf ∧ lf'.map Prod.fst = fns.set k (rtC fns[k] i b) ∧ Wd.Rs m (ls.flatMap Wd.lvS ++ lf'.map Prod.snd) := by
  have hkl : k < lf.length := by have := congrArg List.length e1; rw [List.length_map] at this; omega
  have q1 : lf[k].1 = fns[k] := at_F e1 hkl hk
  obtain ⟨g, o, c, P, hc⟩ := hq.codeF hkl (i := i) (by rw [q1, ← hn]; exact hi)
  rw [q1, ← hn] at P hc
  have R1 := (past_low (b := b) hr hqr hmN (memF hkl) P).2
  have Q1 := hq.putF (b := b) hqr hkl P.e (by rw [q1, ← hn]; exact hi) hb
  refine ⟨g, o, c, _, _, P, hc, ?_, Q1, R1, map_setF e1 hkl hk, by rw [snd_setF hkl]; exact hqr⟩
  have hj := Q1.cf (i := k) (by rw [List.length_set]; exact hkl) 3 (by omega)
  rw [List.getElem_set_self] at hj
  rw [hj]
  have := hq.cf hkl 3 (by omega)
  rw [hc] at this
  exact this.symm
/-- Then r's. -/
theorem wayF2 {m' k i n : Nat} {b : Ins} (hq : Lnt N W gs c1 gf c2 ns nf ls lf) (hqr : Wd.Rs m (ls.flatMap Wd.lvS ++ lf.map Prod.snd)) (hr : Lnt N' W hs d1 hf d2 ns nf rs rf) (hrr : Wd.Rs m' (rs.flatMap Wd.lvS ++ rf.map Prod.snd)) (hmN : m ≤ N') (e3 : rf.map Prod.fst = fns) (hk : k < fns.length) (hn : n = fns[k].code.length) (hi : i < n) (hb : I6 b.op ∧ I6 b.a) :
    ∃ g o c v rf', Pl N' W v n i g o c ∧ W.cell? ⟨hf, k * 4 + 3, none⟩ = some (.slice (some ⟨g, o, none⟩) n c) ∧ (putI W g (o + i * 2) b).cell? ⟨hf, k * 4 + 3, none⟩ = some (.slice (some ⟨g, o, none⟩) n c) ∧ Lnt N (putI W g (o + i * 2) b) gs c1 gf c2 ns nf ls lf ∧ Lnt N' (putI W g (o + i * 2) b) hs d1 hf d2 ns nf rs rf' ∧ rf'.map Prod.fst = fns.set k (rtC fns[k] i b) := by
  have hkl : k < rf.length := by have := congrArg List.length e3; rw [List.length_map] at this; omega
  have q1 : rf[k].1 = fns[k] := at_F e3 hkl hk
  obtain ⟨g, o, c, P, hc⟩ := hr.codeF hkl (i := i) (by rw [q1, ← hn]; exact hi)
  rw [q1, ← hn] at P hc
  have Q1 := hr.putF (b := b) hrr hkl P.e (by rw [q1, ← hn]; exact hi) hb
  refine ⟨g, o, c, _, _, P, hc, ?_, hq.past (.of P.q) P.y (rs_below hqr (by have := P.nn; omega)), Q1, map_setF e3 hkl hk⟩
  have hj := Q1.cf (i := k) (by rw [List.length_set]; exact hkl) 3 (by omega)
  rw [List.getElem_set_self] at hj
  rw [hj]
  have := hr.cf hkl 3 (by omega)
  rw [hc] at this
  exact this.symm
end
end Go.Proofs.YtfkhhplcogedmaaGreatDoor
