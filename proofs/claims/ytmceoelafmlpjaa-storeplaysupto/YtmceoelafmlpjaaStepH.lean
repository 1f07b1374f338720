/-
  What the law's step reads of a pair.
-/
import Derived.Test.YtmceoelafmlpjaaBoth
import Derived.Lib.ConvBytes
namespace Go.Proofs.Ytmceoelafmlpjaa
open Go.RowKit
/-- What is read of a pair and of the step that is boxed. -/
def Cl (gp ga gb go : Nat) (q : Int) (vb : Value) (W : World) : Prop := W.cell? ⟨gp, 0, none⟩ = some (.pointer (some ⟨ga, 0, none⟩)) ∧ W.cell? ⟨gp, 1, none⟩ = some (.pointer (some ⟨gb, 0, none⟩)) ∧ W.cell? ⟨go, 2, none⟩ = some (.int .i64 q) ∧ W.cell? ⟨go, 3, none⟩ = some vb
def Ob (W : World) (go : Nat) (kd hh q : Int) (vb : Value) : Prop := W.heap[go]? = some (.cells #[.int .i64 kd, .int .i64 hh, .int .i64 q, vb] 29 (0, 0))
section
variable {w0 : World} {S0 N : Nat → Prop} {B gp ga gb nk go : Nat} {w : World} {l L O : List UInt8} {n : Nat} {on off : Bool} {f fa : Int} {kd hh q : Int} {vb : Value}
theorem Pw.more {nk' : Nat} (h : Pw w0 S0 B gp ga gb nk N w l n on fa L O off f) (hn : nk ≤ nk') : Pw w0 S0 B gp ga gb nk' N w l n on fa L O off f := by
  obtain ⟨SA, SD, SK, hA, hD, ⟨vk, hs, lg, h1, h2, h3⟩, hR⟩ := h
  exact ⟨SA, SD, SK, hA, hD, ⟨vk, hs, lg, h1, Nat.le_trans h2 hn, h3⟩, hR⟩
theorem Pw.fewer {N' : Nat → Prop} (h : Pw w0 S0 B gp ga gb nk N w l n on fa L O off f) (hn : ∀ k, N' k → N k) : Pw w0 S0 B gp ga gb nk N' w l n on fa L O off f := by
  obtain ⟨SA, SD, SK, hA, hD, hK, hAD, hDK, hS, hN, hR⟩ := h
  exact ⟨SA, SD, SK, hA, hD, hK, hAD, hDK, fun k e => ⟨(hS k e).1, (hS k e).2.1, (hS k e).2.2.1, fun e' => (hS k e).2.2.2 (hn k e')⟩, fun k e => hN k (hn k e), hR⟩
theorem cl_of (h : Pw w0 S0 B gp ga gb nk N w l n on fa L O off f) (hg : Ob w go kd hh q vb) : Cl gp ga gb go q vb w :=
  ⟨h.ptrs.1, h.ptrs.2, by rw [cell_of_row w go _ _ 29 (0, 0) hg]; rfl, by rw [cell_of_row w go _ _ 29 (0, 0) hg]; rfl⟩
theorem Ob.later {w' : World} (hg : Ob w go kd hh q vb) (hb : Below w.heap.size w w') : Ob w' go kd hh q vb := (hb.block go (lt_of_block hg)).trans hg
theorem Both.op {fn fb : Nat} {aa : Array Value} {ab : World → Array Value → Prop} (h : Both w0 S0 B gp ga gb nk N w L O off f fn aa fb ab) (hg : Ob w go kd hh q vb) (hN : N go) :
    ∃ (E : Int) (L' O' : List UInt8) (off' : Bool) (f' : Int), Calls Try.prog fn aa w (fun e w' => e = .returned (.int .i64 E) ∧ Hid (Pw w0 S0 B gp ga gb nk N w' (L' ++ O') L'.length (!off') f' L O off f ∧ KeptN N w w' ∧ Ob w' go kd hh q vb) ∧ Cl gp ga gb go q vb w') ∧
      ∀ w1 args, ab w1 args → Pw w0 S0 B gp ga gb nk N w1 (L' ++ O') L'.length (!off') f' L O off f → Ob w1 go kd hh q vb → Calls Try.prog fb args w1 (fun e w' => e = .returned (.int .i64 E) ∧ Hid (Ps w0 S0 B gp ga gb nk N w' L' O' off' f' ∧ KeptN N w1 w' ∧ Ob w' go kd hh q vb) ∧ Cl gp ga gb go q vb w') := by
  obtain ⟨E, L', O', off', f', hc, hd⟩ := h
  refine ⟨E, L', O', off', f', hc.mono ?_, fun w1 args ha hp hg1 => (hd w1 args ha hp).mono ?_⟩
  · rintro e w' ⟨rfl, hp, hk⟩
    have hg' : Ob w' go kd hh q vb := (hk go hN).trans hg
    exact ⟨rfl, ⟨hp, hk, hg'⟩, cl_of hp hg'⟩
  · rintro e w' ⟨rfl, hp, hk⟩
    have hg' : Ob w' go kd hh q vb := (hk go hN).trans hg1
    exact ⟨rfl, ⟨hp, hk, hg'⟩, cl_of hp hg'⟩
end
theorem own_kept {w w' : World} {v : Value} {B e s n : Nat} {xs : List Value} (hv : w.ownsRow B e s v n xs) (h1 : ∀ k, v.ownBlock = some k → w'.heap[k]? = w.heap[k]?) : w'.ownsRow B e s v n xs := by
  refine ⟨hv.1, ?_⟩
  rcases hv.2 with h0 | ⟨g, cap, cur, rfl, hb, hg, hr⟩
  · exact .inl h0
  · exact .inr ⟨g, cap, cur, rfl, hb, (h1 g rfl).trans hg, hr⟩
/-- '[]byte(s)', in new memory. -/
theorem conv_new (T : List UInt8) (W : World) (hl : T.length ≤ 100000000) : ∃ v W', (convert 9 22 (.string ⟨T.toArray⟩)).run Try.prog W = .ok v W' ∧ Bs W' v T ∧ NilOr v ∧ Below W.heap.size W W' := by
  have hs : (ByteArray.mk T.toArray).size = T.length := by simp [ByteArray.size]
  have hr := Lib.run_convert_string_bytes (P := Try.prog) W 9 22 5 ⟨T.toArray⟩ Try.underlying9 Try.underlying22 Try.underlying5
  rw [hs] at hr
  refine ⟨_, _, hr, ?_, .inr ⟨_, _, _, rfl⟩, ?_⟩
  · refine Bs.row (o := 0) ?_ (grownCap_le_maxLen W _ 0 5 (by unfold maxLen; omega)) (fun j hj => ?_)
    · exact grownCap_ge W _ 0 5
    · rw [Nat.zero_add, Lib.bytesWorld_cell W 5 ⟨T.toArray⟩ j (by rw [hs]; exact hj)]
      simp [hj]
  · exact ⟨rfl, rfl, rfl, by rw [Lib.bytesWorld_size]; omega, fun k hk => Lib.bytesWorld_at_old W 5 _ k hk⟩
end Go.Proofs.Ytmceoelafmlpjaa
