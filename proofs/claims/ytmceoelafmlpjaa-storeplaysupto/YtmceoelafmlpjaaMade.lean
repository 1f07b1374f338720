/-
  The law's made: a pair of new stores; pairs beside one another.
-/
import Derived.Test.YtmceoelafmlpjaaBoth
namespace Go.Proofs.Ytmceoelafmlpjaa
open Go.RowKit
theorem St.lower {w : World} {B B' g : Nat} {v : Value} {l : List UInt8} {n : Nat} {on : Bool} {f : Int} (h : St w B g v l n on f) (hB : B' ≤ B) : St w B' g v l n on f :=
  ⟨h.1, own_lower h.2.1 hB, Nat.le_trans hB h.2.2.1, h.2.2.2⟩
theorem Ds.lower {w : World} {B B' g : Nat} {u1 u2 : Value} {L O : List UInt8} {off : Bool} {f : Int} (h : Ds w B g u1 u2 L O off f) (hB : B' ≤ B) : Ds w B' g u1 u2 L O off f :=
  ⟨h.1, h.2.1, h.2.2.1, Nat.le_trans hB h.2.2.2.1, fun k e => ⟨(h.2.2.2.2.1 k e).1, Nat.le_trans hB (h.2.2.2.2.1 k e).2.1, (h.2.2.2.2.1 k e).2.2⟩, h.2.2.2.2.2⟩
theorem St.put {w w' : World} {B g : Nat} {v : Value} {l : List UInt8} {n : Nat} {on : Bool} {f : Int} (h : St w B g v l n on f) (hs : ∀ k, B ≤ k → k < w.heap.size → w'.heap[k]? = w.heap[k]?) : St w' B g v l n on f := by
  obtain ⟨h1, h2, h3, h4⟩ := h
  refine ⟨(hs g h3 (lt_of_block h1)).trans h1, ⟨h2.1, ?_⟩, h3, h4⟩
  rcases h2.2 with h0 | ⟨k, cap, cur, rfl, hb, hg, hr⟩
  · exact .inl h0
  · exact .inr ⟨k, cap, cur, rfl, hb, (hs k hb (lt_of_block hg)).trans hg, hr⟩
set_option maxHeartbeats 4000000 in
set_option maxRecDepth 100000 in
theorem made_any (vb : Value) (b : List UInt8) (B : Nat) (w : World) (h : Bs w vb b) (hn : NilOr vb) (hl : b.length ≤ 1048576) (hB : B ≤ w.heap.size) (hvb : 0 < b.length → ∀ k, vb.ownBlock = some k → k < w.heap.size) :
    Calls Try.prog 7 #[vb] w fun e w' => ∃ gp, e = .returned (.tuple #[.pointer (some ⟨gp, 0, none⟩), .bool true]) ∧ (∃ ga gb, Ps w' (fun k => w.heap.size ≤ k ∧ k < w'.heap.size) B gp ga gb 0 (fun _ => False) w' b [] false (-1)) ∧ Below w.heap.size w w' := by
  have HLE := hide (lent_any vb b w h (by omega))
  have H := hide h
  have HVB := hide hvb
  clear h hvb
  obtain ⟨ao, cb, rfl, hcb, hcm, -⟩ := id H.out
  go_enter Try.func7, Try.ntmps7
  go_wp2_with fail
  refine HLE.out.mono ?_
  rintro e w1 ⟨rfl, hr1, hb1⟩
  have hbs1 : Bs w1 (.slice (some ⟨w.heap.size, 0, none⟩) b.length (b.length + 8)) b := by
    have := hr1.bs (n := b.length) (c := b.length + 8) (by simp) (by omega) (by unfold maxLen; omega)
    rwa [List.take_left] at this
  have hs1 := hr1.lt
  have HN := hide (new_any _ b w1 hbs1 (by omega))
  have HR1 := hide hr1
  have HB1 := hide hb1
  clear HLE hr1 hb1 hbs1
  go_wp2_with fail
  refine HN.out.mono ?_
  rintro e w2 ⟨ga, va, rfl, hst, hb2⟩
  have hs2 := hb2.size
  have hr2 : Row w2 w.heap.size (b ++ List.replicate 8 201) := HR1.out.below hb2 hs1
  have HB2 := hide (HB1.out.trans (hb2.mono HB1.out.size))
  have HBK := hide (back_any w.heap.size _ b w2 (by omega) hr2 (H.out.on HB2.out) (fun h g' e => by have := HVB.out h g' e; omega))
  have HST := hide hst
  clear HN hst hb2 hr2 HR1 HB1
  go_wp2_with fail
  refine HBK.out.mono ?_
  rintro e w3 ⟨rfl, -, hg3⟩
  have hs3 := hg3.size
  have HB3 := hide (HB2.out.grown hg3 (by omega) (fun k e => by cases e; exact Nat.le_refl _))
  have HST3 : Hid (St w3 w1.heap.size ga va b b.length true (-1)) := HST.out.put (fun k h1 h2 => hg3.block k h2 (fun e => by cases e; omega))
  have HA : Hid (∀ k, (k = ga ∨ va.ownBlock = some k) → w1.heap.size ≤ k ∧ k < w3.heap.size) := fun k e => by
    rcases e with rfl | e
    · exact ⟨HST3.out.2.2.1, HST3.out.lt⟩
    · exact HST3.out.2.1.lt k e
  have HDN := hide (dnew_any _ b w3 (H.out.on HB3.out) hn (by omega))
  clear HBK hg3 HST HB2
  go_wp2_with fail
  refine HDN.out.mono ?_
  rintro e w4 ⟨gb, u1, rfl, hds, hb4⟩
  have hs4 := hb4.size
  have HST4 := hide (HST3.out.later hb4)
  have HDS := hide hds
  have HB4 := hide (HB3.out.trans (hb4.mono (by omega)))
  clear HDN hds hb4 HST3 HB3
  go_wp2_with fail
  go_ret2
  have hal : Below w4.heap.size w4 (w4.alloc (.cells #[.pointer (some ⟨ga, 0, none⟩), .pointer (some ⟨gb, 0, none⟩), .slice none 0 0, .int .i64 0] 56)) := (Below.refl _ w4).alloc (Nat.le_refl _) _
  have hsz : (w4.alloc (.cells #[.pointer (some ⟨ga, 0, none⟩), .pointer (some ⟨gb, 0, none⟩), .slice none 0 0, .int .i64 0] 56)).heap.size = w4.heap.size + 1 := by simp
  have hA := HA.out
  have hD : ∀ k, (k = gb ∨ u1.ownBlock = some k) → w3.heap.size ≤ k ∧ k < w4.heap.size := fun k e => by
    rcases e with rfl | e
    · exact ⟨HDS.out.2.2.2.1, HDS.out.lt⟩
    · have := HDS.out.2.2.2.2.1 k (.inl e)
      exact this.2
  refine ⟨w4.heap.size, rfl, ⟨ga, gb, fun k => k = ga ∨ va.ownBlock = some k, fun k => k = gb ∨ u1.ownBlock = some k, fun k => k = w4.heap.size, ⟨va, ?_, .inl rfl, fun k e => .inr e⟩, ⟨u1, .slice none 0 0, (HDS.out.later hal).lower (by omega), .inl rfl, fun k e => .inr e, fun k e => by simp [Value.ownBlock] at e⟩, ⟨.slice none 0 0, [], 0, ⟨heap_alloc_new w4 _, World.ownsRow_nil _ _ _ _, fun h hh => by simp at hh, by omega, by simp [Value.ownBlock], by omega, by omega⟩, by simp, rfl, fun k e => by simp [Value.ownBlock] at e, fun x hx => by simp at hx⟩, fun k e => ?_, fun k e e' => ?_, fun k e => ?_, fun k e => e.elim, Mv.refl _ _, fun k e => ⟨by omega, e.2⟩, by omega⟩, HB4.out.trans (hal.mono (by omega))⟩
  · rw [List.append_nil]
    exact (HST4.out.later hal).lower (by omega)
  · have h1 := hA k e
    exact ⟨fun e' => by have := hD k e'; omega, fun e' => by omega⟩
  · have h1 := hD k e
    omega
  · rcases e with e | e | e
    · have h1 := hA k e
      exact ⟨.inl ⟨by omega, by omega⟩, by omega, by omega, fun h => h⟩
    · have h1 := hD k e
      exact ⟨.inl ⟨by omega, by omega⟩, by omega, by omega, fun h => h⟩
    · exact ⟨.inl ⟨by omega, by omega⟩, by omega, by omega, fun h => h⟩
/-- The pair goes on from here. -/
theorem Ps.rebase {w0 : World} {S0 : Nat → Prop} {B gp ga gb nk : Nat} {w : World} {L O : List UInt8} {off : Bool} {f : Int} (h : Ps w0 S0 B gp ga gb nk (fun _ => False) w L O off f) : Ps w (fun k => (S0 k ∨ w0.heap.size ≤ k) ∧ B ≤ k ∧ k < w.heap.size) B gp ga gb nk (fun _ => False) w L O off f := by
  obtain ⟨SA, SD, SK, hA, hD, hK, hAD, hDK, hS, hN, hM, hS0, hB⟩ := h
  have hsz := hM.2.2.2.1
  exact ⟨SA, SD, SK, hA, hD, hK, hAD, hDK, fun k e => ⟨.inl ⟨(hS k e).1, (hS k e).2.1, (hS k e).2.2.1⟩, (hS k e).2⟩, fun k e => e.elim, Mv.refl _ _, fun k e => e.2, by omega⟩
/-- Another pair goes on. -/
theorem Ps.aside {S S' : Nat → Prop} {B gp ga gb nk : Nat} {w w' : World} {L O : List UInt8} {off : Bool} {f : Int} (h : Ps w S B gp ga gb nk (fun _ => False) w L O off f) (hm : Mv w w' S') (hd : ∀ k, S k → ¬ S' k) : Ps w' S B gp ga gb nk (fun _ => False) w' L O off f := by
  obtain ⟨SA, SD, SK, hA, hD, hK, hAD, hDK, hS, hN, hM, hS0, hB⟩ := h
  have hsz := hm.2.2.2.1
  have hk : ∀ k, SA k ∨ SD k ∨ SK k → w'.heap[k]? = w.heap[k]? := fun k e => by
    have h1 := hS k e
    refine hm.2.2.2.2 k h1.2.2.1 (hd k ?_)
    rcases h1.1 with h | h
    · exact h
    · omega
  refine ⟨SA, SD, SK, hA.frame (fun k e => hk k (.inl e)), hD.frame hsz (fun k e => hk k (.inr (.inl e))), hK.frame hsz (fun k e => hk k (.inr (.inr e))), hAD, hDK, fun k e => ?_, fun k e => e.elim, Mv.refl _ _, fun k e => ⟨(hS0 k e).1, by have := (hS0 k e).2; omega⟩, by omega⟩
  have h1 := hS k e
  refine ⟨.inl ?_, h1.2.1, by omega, h1.2.2.2⟩
  rcases h1.1 with h | h
  · exact h
  · omega
theorem Ps.looks {w0 : World} {S0 N : Nat → Prop} {B gp ga gb nk : Nat} {w : World} {L O : List UInt8} {off : Bool} {f : Int} (h : Ps w0 S0 B gp ga gb nk N w L O off f) : Calls Try.prog 9 #[.pointer (some ⟨gp, 0, none⟩)] w fun e w' => e = .returned (.bool true) ∧ Below w.heap.size w w' := by
  obtain ⟨SA, SD, SK, hA, hD, ⟨vk, hs, lg, h1, h2⟩, hR⟩ := h
  refine (looks_any w h1).mono ?_
  rintro e w' ⟨rfl, d, rfl⟩
  exact ⟨rfl, below_drawn w d⟩
end Go.Proofs.Ytmceoelafmlpjaa
