/-
  SyntaxCuts: the walk.
-/
import Derived.Test.YtmfoehaeejhlpaaGreatDoorGaAY
import Derived.Test.YtmfoehaeejhlpaaGreatDoorGaBA
namespace Go.Proofs.YtmfoehaeejhlpaaGreatDoor
open Go.RowKit Yn
set_option maxRecDepth 100000
/-- What is said of the source that was cut off. -/
def CutR (_src : ByteArray) (A : Nat) (w : World) (e : Ending) (w' : World) : Prop := Below w.heap.size w w' ∧ ((∃ v, e = .returned (.tuple #[v, .nilIface])) ∨ ∃ (g er : Nat), e = .returned (.tuple #[.pointer none, .iface 61 (.pointer (some ⟨g, 0, none⟩))]) ∧ w'.heap[g]? = some (.cells #[.int .i64 (A : Int), .int .i64 (er : Int)] 77 (0, 0)) ∧ er ≠ 0)
theorem cut_calls {src : ByteArray} {A er : Nat} {w : World} (hK : Kd w) (hA : A < src.size) (hs : src.size ≤ 8000) (her : er ≠ 90) (h : parseT src = .no A er) : Calls Tryz.prog 8 #[.string (src.extract 0 A)] w (CutR src A w) := by
  have J := parse_all (src.extract 0 A) w hK
  rcases cut_plain hA hs her h with ⟨T, s, e⟩ | ⟨e', e⟩
  · rw [e] at J
    refine J.mono ?_
    rintro x w' ⟨hb, v, rfl, -⟩
    exact ⟨hb, .inl ⟨v, rfl⟩⟩
  · have hne := no_ne e
    rw [e] at J
    refine J.mono ?_
    rintro x w' ⟨hb, g, rfl, -, hg⟩
    exact ⟨hb, .inr ⟨g, e', rfl, hg, hne⟩⟩
theorem eql_nil (g : Nat) (w : World) : (binOp .eql 25 (.iface 61 (.pointer (some ⟨g, 0, none⟩))) .nilIface).run Tryz.prog w = .ok (.bool false) w := by kernel_rfl
set_option maxHeartbeats 8000000 in
theorem cuts_any (src : ByteArray) (W : World) (hK : Kd W) (hpf : Pf W.heap.size W) (hz : src.size ≤ 9223372036854775807) : Calls Tryz.prog 6 #[.string src] W fun e w' => e = .returned (.bool true) ∧ Below W.heap.size W w' := by
  have J0 := hide (shown_any W hK hpf)
  have HK := hide hK
  clear hK hpf
  cases hp : parseT src with
  | out => exact absurd hp (parseT_out src)
  | ok T s =>
    have JP : Hid (∀ w', Below W.heap.size W w' → Calls Tryz.prog 8 #[.string src] w' fun e w'' => Below w'.heap.size w' w'' ∧ ∃ v, e = .returned (.tuple #[v, .nilIface])) := fun w' hb => by
      have := parse_all src w' (HK.out.below hb)
      rw [hp] at this
      refine this.mono ?_
      rintro e w'' ⟨h1, v, h2, -⟩
      exact ⟨h1, v, h2⟩
    clear hp
    go_enter Tryz.func6, Tryz.ntmps6
    go_wp2_with fail
    refine J0.out.mono ?_
    rintro e w1 ⟨rfl, b1⟩
    have B1 := hide b1
    have J := hide (JP.out w1 b1)
    clear b1 J0 JP
    go_wp2_with fail
    refine J.out.mono ?_
    rintro e w2 ⟨b2, v, rfl⟩
    have B2 : Hid (Below W.heap.size W w2) := B1.out.trans (b2.mono B1.out.size)
    clear b2 J
    have J := hide (fault_none w2)
    go_wp2_with fail
    refine J.out.mono ?_
    rintro e w3 ⟨rfl, rfl⟩
    clear J
    go_wp2_with fail
    go_ret
    exact ⟨rfl, B2.out⟩
  | no A er =>
    have hne := no_ne hp
    have JP : Hid (∀ w', Below W.heap.size W w' → Calls Tryz.prog 8 #[.string src] w' fun e w'' => Below w'.heap.size w' w'' ∧ ∃ g, e = .returned (.tuple #[.pointer none, .iface 61 (.pointer (some ⟨g, 0, none⟩))]) ∧ w''.heap[g]? = some (.cells #[.int .i64 (A : Int), .int .i64 (er : Int)] 77 (0, 0))) := fun w' hb => by
      have := parse_all src w' (HK.out.below hb)
      rw [hp] at this
      refine this.mono ?_
      rintro e w'' ⟨h1, g, h2, -, h3⟩
      exact ⟨h1, g, h2, h3⟩
    have JC : Hid (∀ w', Below W.heap.size W w' → A < src.size → src.size ≤ 8000 → er ≠ 90 → Calls Tryz.prog 8 #[.string (src.extract 0 A)] w' (CutR src A w')) := fun w' hb h1 h2 h3 => cut_calls (HK.out.below hb) h1 h2 h3 hp
    clear hp
    go_enter Tryz.func6, Tryz.ntmps6
    go_wp2_with fail
    refine J0.out.mono ?_
    rintro e w1 ⟨rfl, b1⟩
    have B1 := hide b1
    have J := hide (JP.out w1 b1)
    clear b1 J0 JP
    go_wp2_with fail
    refine J.out.mono ?_
    rintro e w2 ⟨b2, g, rfl, hg⟩
    have B2 : Hid (Below W.heap.size W w2) := B1.out.trans (b2.mono B1.out.size)
    clear b2 J
    have J := hide (fault_some hg hne)
    have en := eql_nil g
    go_wp2_with fail
    refine J.out.mono ?_
    rintro e w3 ⟨rfl, b3⟩
    have B3 : Hid (Below W.heap.size W w3) := B2.out.trans (b3.mono B2.out.size)
    clear b3 J hg
    by_cases hcont : (er = 100 ∨ er = 101 ∨ er = 102) ∧ A < src.size ∧ src.size ≤ 8000
    · obtain ⟨h1, h2, h3⟩ := hcont
      have JN := hide (JC.out w3 B3.out h2 h3 (by omega))
      have k1 : ¬ (src.size : Int) ≤ (A : Int) := by omega
      have k2 : ¬ (8000 : Int) < (src.size : Int) := by omega
      have k3 : (A : Int) ≤ (src.size : Int) := by omega
      clear JC h2 h3
      rcases h1 with rfl | rfl | rfl
      all_goals
        go_wp2_with fail
        refine JN.out.mono ?_
        rintro e w4 ⟨b4, ⟨v, rfl⟩ | ⟨g2, er2, rfl, hg2, hne2⟩⟩
        · have B4 : Hid (Below W.heap.size W w4) := B3.out.trans (b4.mono B3.out.size)
          clear b4 JN
          have J := hide (fault_none w4)
          go_wp2_with fail
          refine J.out.mono ?_
          rintro e w5 ⟨rfl, rfl⟩
          clear J
          go_wp2_with fail
          go_ret
          exact ⟨rfl, B4.out⟩
        · have B4 : Hid (Below W.heap.size W w4) := B3.out.trans (b4.mono B3.out.size)
          clear b4 JN
          have J := hide (fault_some hg2 hne2)
          have en2 := eql_nil g2
          go_wp2_with fail
          refine J.out.mono ?_
          rintro e w5 ⟨rfl, b5⟩
          have B5 : Hid (Below W.heap.size W w5) := B4.out.trans (b5.mono B4.out.size)
          clear J b5
          go_wp2_with fail
          go_ret
          exact ⟨by first | rfl | simp, B5.out⟩
    · clear JC
      by_cases h1 : er = 100 ∨ er = 101 ∨ er = 102
      · by_cases h2 : A < src.size
        · have h3 : ¬ src.size ≤ 8000 := fun h3 => hcont ⟨h1, h2, h3⟩
          have k1 : ¬ (src.size : Int) ≤ (A : Int) := by omega
          have k2 : (8000 : Int) < (src.size : Int) := by omega
          clear hcont h2 h3
          rcases h1 with rfl | rfl | rfl
          all_goals
            go_wp2_with fail
            go_ret
            exact ⟨rfl, B3.out⟩
        · have k1 : (src.size : Int) ≤ (A : Int) := by omega
          clear hcont h2
          rcases h1 with rfl | rfl | rfl
          all_goals
            go_wp2_with fail
            go_ret
            exact ⟨rfl, B3.out⟩
      · have k1 : ¬ (er : Int) = 100 := by omega
        have k2 : ¬ (er : Int) = 101 := by omega
        have k3 : ¬ (er : Int) = 102 := by omega
        clear hcont h1
        go_wp2_with fail
        go_ret
        exact ⟨rfl, B3.out⟩
end Go.Proofs.YtmfoehaeejhlpaaGreatDoor
