/-
  record.cut: the parts of the record that bytes may begin with.
-/
import Derived.Test.YtkohlhnkaklnpaaGet
import Derived.Test.YtkohlhnkaklnpaaMath
import Derived.Laws.ResultCell
namespace Go.Proofs.Ytkohlhnkaklnpaa
open Go.RowKit

theorem results_parts {fn : Func} (h : fn.results = #[.cell 2 58, .tmp 3]) (tmps : Array Value) (w : World) (g : Nat) (cs : Array Value) (hp : tmps.getD 2 undef = .pointer (some ⟨g, 0, none⟩)) (hg : w.heap[g]? = some (.cells cs 58 (0, 0))) (hs : cs.size = 3) :
    (results fn tmps).run Try.prog w = .ok (.tuple #[.agg cs, tmps.getD 3 undef]) w := by
  have hi : (Try.prog.info? 58).map (·.size) = some cs.size := by rw [hs]; kernel_rfl
  rw [results_cell_tmp h, hp]
  simp [asAddr, run_loadVar_row w g 58 58 cs (0, 0) _ hg Try.underlying58 rfl hi, Result.andThen]
/-- The bytes behind the first ones, as the model cuts them. -/
theorem Bs.drop {w : World} {g o c : Nat} {l : List UInt8} (k : Nat) (hk : k ≤ l.length) (h1 : l.length ≤ c) (h2 : c ≤ maxLen) (h3 : ∀ j (hj : j < l.length), w.cell? ⟨g, o + j, none⟩ = some (.int .u8 (l[j]).toNat)) :
    Bs w (if k = c then .slice (some ⟨g, o, none⟩) 0 0 else .slice (some ⟨g, o + k, none⟩) (l.length - k) (c - k)) (l.drop k) := by
  have e : (l.drop k).length = l.length - k := by simp
  by_cases hkc : k = c
  · rw [if_pos hkc, List.drop_eq_nil_of_le (by omega)]
    exact ⟨_, 0, rfl, Nat.le_refl _, Nat.zero_le _, fun j hj => absurd hj (by simp)⟩
  · rw [if_neg hkc]
    have := Bs.row (w := w) (g := g) (o := o + k) (c := c - k) (l := l.drop k) (by omega) (by omega) (fun j hj => by
      have := h3 (k + j) (by omega)
      rw [List.getElem_drop, Nat.add_assoc]
      exact this)
    rwa [e] at this

/-- The three parts, as they are cut out. -/
def partsOf (g o : Nat) (b : List UInt8) : Array Value :=
  #[.slice (some ⟨g, o, none⟩) (1 + Rc.siz b) (1 + Rc.siz b), .slice (some ⟨g, o + (1 + Rc.siz b), none⟩) 4 4, .slice (some ⟨g, o + (1 + Rc.siz b + 4), none⟩) (Rc.num b) (Rc.num b)]
/-- What cut tells. -/
def CutPost (v : Value) (b : List UInt8) (e : Ending) : Prop :=
  (Rc.whole b ∧ ∃ g o c, v = .slice (some ⟨g, o, none⟩) b.length c ∧ e = .returned (.tuple #[.agg (partsOf g o b), .bool true])) ∨
  (¬ Rc.whole b ∧ e = .returned (.tuple #[.agg #[.slice none 0 0, .slice none 0 0, .slice none 0 0], .bool false]))

set_option maxHeartbeats 4000000 in
set_option maxRecDepth 100000 in
theorem cut_any (v : Value) (b : List UInt8) (w : World) (h : Bs w v b) :
    Calls Try.prog 30 #[v] w fun e w' => CutPost v b e ∧ Below w.heap.size w w' := by
  rcases h.parts with ⟨ao, c, rfl, rfl⟩ | ⟨g, o, c, rfl, hp, h1, h2, h3⟩
  · go_enter Try.func30, Try.ntmps30
    go_wp2
    exact bodyPost_ret (results_parts rfl _ _ w.heap.size _ rfl (heap_alloc_new w _) rfl) rfl ⟨.inr ⟨by simp [Rc.whole], rfl⟩, (Below.refl _ _).alloc (Nat.le_refl _) _⟩
  · have hglt := World.block_lt_of_cell? w _ (h3 0 hp)
    have hc0 : ∀ ob : Obj, (w.alloc ob).cell? ⟨g, o, none⟩ = some (.int .u8 (b[0]).toNat) := fun ob => (((Below.refl w.heap.size w).alloc (Nat.le_refl _) ob).cell (p := ⟨g, o, none⟩) hglt).trans (h3 0 hp)
    have hm := (b[0]).toNat_lt
    have z : ((b.length : Int) == 0) = false := by rw [beq_eq_false_iff_ne]; omega
    have hp1 : (0 : Int) < (b.length : Int) := by omega
    have hbd := fun ob : Obj => (Bs.drop (w := w) 1 (by omega) h1 h2 h3).below ((Below.refl w.heap.size w).alloc (Nat.le_refl _) ob) (Nat.le_refl _)
    have hget := fun ob : Obj => get_any _ _ _ (hbd ob)
    have HG := hide hget
    clear h3 hbd h hget
    unfold maxLen at h2
    by_cases hm130 : b[0] = 130
    · rw [hm130] at hc0
      have hmz : (((UInt8.toNat 130 : Nat) : Int) == 130) = true := by decide
      have H130 := hide hm130
      clear hm130
      have hg := HG.out (Obj.cells #[Value.slice none 0 0, Value.slice none 0 0, Value.slice none 0 0] 58)
      by_cases hc1 : c = 1
      · subst hc1
        obtain hl1 : b.length = 1 := by omega
        rw [List.drop_eq_nil_of_le (by omega), show Dec.getN [] = (0, 0) from rfl, if_pos rfl] at hg
        have HL := hide hl1
        have hl2 : b.length - 1 = 0 := by omega
        have HG1 := hide hg
        clear hg hl1 HG
        go_enter Try.func30, Try.ntmps30
        go_wp2_with fail
        refine HG1.out.mono ?_
        rintro e w' ⟨rfl, rfl⟩
        go_wp2_with fail
        exact bodyPost_ret (results_parts rfl _ _ w.heap.size _ rfl (heap_alloc_new w _) rfl) rfl ⟨.inr ⟨fun hw => by have := hw.2.2.2; have := HL.out; omega, rfl⟩, (Below.refl _ _).alloc (Nat.le_refl _) _⟩
      · rw [if_neg (fun e => hc1 e.symm)] at hg
        have hg' : Calls Try.prog 40 #[.slice (some ⟨g, o + 1, none⟩) (b.length - 1) (c - 1)] (w.alloc (.cells #[.slice none 0 0, .slice none 0 0, .slice none 0 0] 58)) fun e w' => e = .returned (.tuple #[.int .u64 (Rc.num b), .int .i64 (Rc.siz b)]) ∧ w' = w.alloc (.cells #[.slice none 0 0, .slice none 0 0, .slice none 0 0] 58) := hg
        have HG1 := hide hg'
        clear hg hg' HG
        have hs10 := Rc.siz_ten b
        have hn64 := Rc.num_lt b
        go_enter Try.func30, Try.ntmps30
        go_wp2_with fail
        refine HG1.out.mono ?_
        rintro e w' ⟨rfl, rfl⟩
        by_cases hn0 : Rc.num b = 0
        · have z1 : ((Rc.num b : Int) == 0) = true := by simp [hn0]
          have HN0 := hide hn0
          clear hn0
          go_wp2_with fail
          exact bodyPost_ret (results_parts rfl _ _ w.heap.size _ rfl (heap_alloc_new w _) rfl) rfl ⟨.inr ⟨fun hw => hw.2.1 HN0.out, rfl⟩, (Below.refl _ _).alloc (Nat.le_refl _) _⟩
        · have z1 : ((Rc.num b : Int) == 0) = false := by rw [beq_eq_false_iff_ne]; omega
          by_cases hbig : Rc.num b ≤ 100000
          · have g1 : ¬ ((Rc.num b : Int) > 100000) := by omega
            have hw1 : IntKind.i64.wrap (Rc.num b : Int) = (Rc.num b : Int) := by rw [IntKind.wrap_i64]; omega
            by_cases hall : 1 + Rc.siz b + 4 + Rc.num b ≤ b.length
            · have g2 : ¬ ((1 : Int) + (Rc.siz b : Int) + 4 + (Rc.num b : Int) > (b.length : Int)) := by omega
              have q1 : (1 : Int) + (Rc.siz b : Int) ≤ (c : Int) := by omega
              have q2 : (1 : Int) + (Rc.siz b : Int) + 4 ≤ (c : Int) := by omega
              have q3 : (1 : Int) + (Rc.siz b : Int) + 4 + (Rc.num b : Int) ≤ (c : Int) := by omega
              go_wp2_with fail
              go_region
              go_wp2_with fail
              refine bodyPost_ret (results_parts rfl _ _ w.heap.size (partsOf g o b) rfl (heap_alloc_new w _) rfl) rfl ⟨.inl ⟨⟨?_, hn0, hbig, hall⟩, g, o, c, rfl, rfl⟩, ((Below.refl _ _).alloc (Nat.le_refl _) _).drew⟩
              rw [List.getElem?_eq_getElem hp, H130.out]
            · have g2 : ((1 : Int) + (Rc.siz b : Int) + 4 + (Rc.num b : Int) > (b.length : Int)) := by omega
              go_wp2_with fail
              exact bodyPost_ret (results_parts rfl _ _ w.heap.size _ rfl (heap_alloc_new w _) rfl) rfl ⟨.inr ⟨fun hw => hall hw.2.2.2, rfl⟩, (Below.refl _ _).alloc (Nat.le_refl _) _⟩
          · have g1 : ((Rc.num b : Int) > 100000) := by omega
            go_wp2_with fail
            exact bodyPost_ret (results_parts rfl _ _ w.heap.size _ rfl (heap_alloc_new w _) rfl) rfl ⟨.inr ⟨fun hw => hbig hw.2.2.1, rfl⟩, (Below.refl _ _).alloc (Nat.le_refl _) _⟩
    · have hmz : (((b[0]).toNat : Int) != 130) = true := by
        rw [bne_iff_ne]
        intro e
        exact hm130 (by apply UInt8.toNat_inj.1; simp; omega)
      go_enter Try.func30, Try.ntmps30
      go_wp2_with fail
      refine bodyPost_ret (results_parts rfl _ _ w.heap.size _ rfl (heap_alloc_new w _) rfl) rfl ⟨.inr ⟨fun hw => hm130 ?_, rfl⟩, (Below.refl _ _).alloc (Nat.le_refl _) _⟩
      have := hw.1
      rw [List.getElem?_eq_getElem hp] at this
      exact Option.some.inj this
end Go.Proofs.Ytkohlhnkaklnpaa
