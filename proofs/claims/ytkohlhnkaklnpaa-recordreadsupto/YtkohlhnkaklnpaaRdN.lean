import Derived.Test.YtkohlhnkaklnpaaRdW
/-
  RecordReads: a turn of Walk.
-/
namespace Go.Proofs.Ytkohlhnkaklnpaa
open Go.RowKit Go.Shelf
attribute [local go_sem] Oper.semAt_some
set_option maxRecDepth 100000
/-- What stays as it is in both turns. -/
def Sg (stop : Int) (b : List UInt8) (w0 : World) (aB bW bx : Nat) (va vo : Value) (ds : List (List UInt8)) (V : World) : Prop :=
  V.heap[w0.heap.size]? = some (.cells #[.int .i64 stop] 3 (0, 0)) ∧ Al aB va ds V ∧ V.heap[bW]? = some (.cells #[.func (.func 32) #[] #[.pointer (some ⟨bx, 0, none⟩)]] 45 (0, 0)) ∧ V.heap[bx]? = some (.cells #[vo] 22 (0, 0)) ∧ V.ownsRow 0 5 1 vo b.length (Lib.byteCells b)
/-- Behind a turn. -/
def Pt (t : Nat) (b : List UInt8) (ds : List (List UInt8)) (tB : Nat) (f : Value → Array Value) (W W' : World) (D qB' : Nat) (lt : Value) (us : List Value) (ds' : List (List UInt8)) : Prop :=
  Mv W W' (fun k => k = tB) ∧ W'.heap[tB]? = some (.cells (f lt) 56 (0, 0)) ∧ W'.ownsRow W.heap.size 22 1 lt ds'.length us ∧ Pieces W' W.heap.size us ds' ∧ (∃ k, Rc.Told b ds' k) ∧ (t = 1 → ds' = ds) ∧
  W'.heap[D]? = some (.deferred (some [])) ∧ W.heap.size ≤ D ∧ W'.heap[qB']? = some (.cells #[.int .i64 ((t : Int) + 1)] 3 (0, 0)) ∧ W.heap.size ≤ qB'
/-- The slots that a turn wants, and leaves. -/
def Sl (w0 : World) (A : Act) (vk : Value) (aB bW tB qB : Nat) (dd : List Deferred) : Prop := A.tmps.size = 464 ∧ A.defers = dd ∧ A.tmps.getD 3 undef = .pointer (some ⟨w0.heap.size, 0, none⟩) ∧ A.tmps.getD 4 undef = .pointer (some ⟨w0.heap.size + 1, 0, none⟩) ∧ A.tmps.getD 5 undef = vk ∧
  A.tmps.getD 24 undef = .pointer (some ⟨aB, 0, none⟩) ∧ A.tmps.getD 38 undef = .pointer (some ⟨bW, 0, none⟩) ∧ A.tmps.getD 41 undef = .pointer (some ⟨tB, 0, none⟩) ∧ A.tmps.getD 42 undef = .pointer (some ⟨qB, 0, none⟩)
theorem pieces_low {W : World} {B B' : Nat} {vs : List Value} {ds : List (List UInt8)} (h : Pieces W B vs ds) (hB : B' ≤ B) : Pieces W B' vs ds := ⟨h.1, fun i i1 i2 => ⟨(h.2.1 i i1 i2).1.low hB, (h.2.1 i i1 i2).2⟩, h.2.2⟩
theorem own_low {w : World} {B B' e s n : Nat} {v : Value} {xs : List Value} (h : w.ownsRow B e s v n xs) (hB : B' ≤ B) : w.ownsRow B' e s v n xs := by
  refine ⟨h.1, ?_⟩
  rcases h.2 with h0 | ⟨g, cap, cur, rfl, hb, hr⟩
  · exact .inl h0
  · exact .inr ⟨g, cap, cur, rfl, Nat.le_trans hB hb, hr⟩
set_option maxHeartbeats 16000000 in
theorem turn0 {w0 W : World} {stop : Int} {A : Act} {b : List UInt8} {ds : List (List UInt8)} {tB qB aB bW bx KK : Nat} {va vo vk _l0 : Value} {Zg : Nat → Prop} {dd : List Deferred} {Kn : Act → World → Prop} {Qx : Exit → Act → World → Prop} (hTT : Rc.Told b ds KK) (hT0 : (Rc.get (b.drop KK)).2 = 0) (hbl : b.length ≤ 1048576) (hnv : NilOr vo)
    (hg : Keeps Zg W (Sg stop b w0 aB bW bx va vo ds)) (hq : W.heap[qB]? = some (.cells #[.int .i64 0] 3 (0, 0))) (ht : W.heap[tB]? = some (.cells #[.slice none 0 0, .slice none 0 0] 56 (0, 0))) (dtg : ¬ Zg tB) (hqt : qB ≠ tB) (hsl : Sl w0 A vk aB bW tB qB dd)
    (hn : ∀ (A' : Act) (W' : World) (D qB' : Nat) (lt : Value) (us : List Value) (ds' : List (List UInt8)), Pt 0 b ds tB (fun x => #[x, .slice none 0 0]) W W' D qB' lt us ds' → Sl w0 A' vk aB bW tB qB' (mark D :: dd) → Kn A' W') : turnC.wp Try.prog (Exit.then Kn Qx) A W := by
  obtain ⟨hs, hd, h3, h4, h5, h24, h38, h41, h42⟩ := hsl
  obtain ⟨s, eA, hsk⟩ := act_open A _ hs hd
  rw [hsk] at h3 h4 h5 h24 h38 h41 h42
  rw [eA, h3, h4, h5, h24, h38, h41, h42]
  clear eA hsk h3 h4 h5 h24 h38 h41 h42 hs hd
  have cq : W.cell? ⟨qB, 0, none⟩ = some (.int .i64 0) := (cell_of_row _ _ 0 _ 3 (0, 0) hq).trans rfl
  have HH := hide (And.intro hTT (And.intro hT0 (And.intro hg (And.intro hq (And.intro ht (And.intro dtg hqt))))))
  have HNN := hide hn
  clear hTT hT0 hg hq ht dtg hqt hn
  conv => arg 2; whnf
  refine wp_seq_k (fun K0 hK0 => ?_)
  have HK0 := hide hK0
  clear hK0
  go_wp2_with fail
  refine HK0.out _ _ ?_
  clear HK0 K0
  refine wp_seq_k (fun KB hKB => ?_)
  have HKB := hide hKB
  clear hKB
  refine wp_block ?_
  -- the boxes
  have hW1 : Below W.heap.size W ((W.alloc (.cells #[.int .i64 0] 3)).alloc (.cells #[.int .i64 0] 3)) := ((Below.refl _ W).alloc (Nat.le_refl _) _).alloc (by simp) _
  have bI : ((W.alloc (.cells #[.int .i64 0] 3)).alloc (.cells #[.int .i64 0] 3)).heap[W.heap.size]? = some (.cells #[.int .i64 0] 3 (0, 0)) := (heap_alloc_old _ _ (by simp)).trans (heap_alloc_new W _)
  have bP : ((W.alloc (.cells #[.int .i64 0] 3)).alloc (.cells #[.int .i64 0] 3)).heap[W.heap.size + 1]? = some (.cells #[.int .i64 0] 3 (0, 0)) := by
    have := heap_alloc_new (W.alloc (.cells #[.int .i64 0] 3)) (.cells #[.int .i64 0] 3)
    simpa using this
  have sZ : ((W.alloc (.cells #[.int .i64 0] 3)).alloc (.cells #[.int .i64 0] 3)).heap.size = W.heap.size + 2 := by simp
  have cw : ∀ o o', ((W.alloc o).alloc o').cell? ⟨bW, 0, none⟩ = some (.func (.func 32) #[] #[.pointer (some ⟨bx, 0, none⟩)]) := fun o o' => by
    have h := HH.out.2.2.1.here.2.2.1
    have hb : Below W.heap.size W ((W.alloc o).alloc o') := ((Below.refl _ W).alloc (Nat.le_refl _) _).alloc (by simp) _
    exact (hb.cell (p := ⟨bW, 0, none⟩) (lt_of_block h)).trans ((cell_of_row _ _ 0 _ 45 (0, 0) h).trans rfl)
  have HW1 := hide (And.intro hW1 (And.intro bI (And.intro bP sZ)))
  clear hW1 bI bP sZ cq
  go_wp2_with fail
  generalize (W.alloc (.cells #[.int .i64 0] 3)).alloc (.cells #[.int .i64 0] 3) = wS at *
  obtain ⟨hTT, hT0, hg, hq, ht, dtg, hqt⟩ := HH.out
  obtain ⟨hW1, bI, bP, sZ⟩ := HW1.out
  have hqS : wS.heap[qB]? = some (.cells #[.int .i64 0] 3 (0, 0)) := (hW1.block qB (lt_of_block hq)).trans hq
  have htS : wS.heap[tB]? = some (.cells ((fun x => #[x, .slice none 0 0]) (.slice none 0 0)) 56 (0, 0)) := (hW1.block tB (lt_of_block ht)).trans ht
  have ltq := lt_of_block hq
  have ltt := lt_of_block ht
  have hgS := hg.later hW1
  have hsf : Keeps (fun k => Zg k ∨ k = qB) wS (Sf 0 stop b w0 qB aB bW bx va vo ds) := (hgS.and (Z' := fun k => k = qB) (P' := fun V => V.heap[qB]? = some (.cells #[.int .i64 0] 3 (0, 0))) ⟨fun k e => by rw [e]; exact lt_of_block hqS, fun V _ hv => (hv qB rfl).trans hqS⟩).imp (fun V h => ⟨h.2, h.1⟩)
  have hz : ∀ k, (Zg k ∨ k = qB) → ¬ Bx W.heap.size (W.heap.size + 1) tB k := fun k e e' => by
    have hk : k < W.heap.size := e.elim (hg.1 k) (fun h => by rw [h]; exact ltq)
    rcases e' with e' | e' | e'
    · omega
    · omega
    · rcases e with e | e
      · rw [e'] at e; exact dtg e
      · omega
  have hne : W.heap.size ≠ W.heap.size + 1 ∧ W.heap.size ≠ tB ∧ W.heap.size + 1 ≠ tB ∧ W.heap.size < wS.heap.size ∧ W.heap.size + 1 < wS.heap.size ∧ tB < wS.heap.size := ⟨by omega, by omega, by omega, by omega, by omega, by omega⟩
  have hvo : ∀ dx V, Ti b W.heap.size (W.heap.size + 1) tB (fun x => #[x, .slice none 0 0]) wS dx V → Bs V vo b ∧ V.cell? ⟨bx, 0, none⟩ = some vo := fun dx V h => by
    obtain ⟨_, _, _, _, _, _, _, _, _, hm⟩ := h
    have := (hsf.mv hm hz).here
    exact ⟨own_bs this.2.2.2.2.2, (cell_of_row V bx 0 _ 22 (0, 0) this.2.2.2.2.1).trans rfl⟩
  have hI0 : Ti b W.heap.size (W.heap.size + 1) tB (fun x => #[x, .slice none 0 0]) wS [] wS := ⟨0, .slice none 0 0, [], Rc.Told.none, bI, bP, htS, World.ownsRow_nil _ _ _ _, Pieces.nil _ _, Mv.refl _ _⟩
  have HS := hide (And.intro hsf (And.intro hz (And.intro hne sZ)))
  -- what follows the round
  have fin : ∀ (V : World) (D : Nat) (dx : List (List UInt8)), Ti b W.heap.size (W.heap.size + 1) tB (fun x => #[x, .slice none 0 0]) wS dx V → (0 = 1 → dx = ds) → wS.heap.size ≤ D → V.heap[D]? = some (.deferred (some [])) → ∀ (V' : World) (qB' : Nat), Below V.heap.size V V' → V.heap.size ≤ qB' → V'.heap[qB']? = some (.cells #[.int .i64 ((0 : Int) + 1)] 3 (0, 0)) → ∃ lt us, Pt 0 b ds tB (fun x => #[x, .slice none 0 0]) W V' D qB' lt us dx := by
    intro V D dx hti hdx hD hdef V' qB' hb' hqV hq'
    obtain ⟨kk, lt, us, t1, t2, t3, t4, t5, t6, t7⟩ := hti.on hb'
    refine ⟨lt, us, ?_, t4, own_low t5 (by omega), pieces_low t6 (by omega), ⟨kk, t1⟩, hdx, (hb'.block D (lt_of_block hdef)).trans hdef, by omega, hq', ?_⟩
    · exact ⟨t7.1.trans hW1.os, t7.2.1.trans hW1.tape, t7.2.2.1.trans hW1.output, Nat.le_trans hW1.size t7.2.2.2.1, fun k hk hs => (t7.2.2.2.2 k (by omega) (fun e => by
        rcases e with e | e | e
        · omega
        · omega
        · exact hs e)).trans (hW1.block k hk)⟩
    · have := hti
      obtain ⟨_, _, _, _, _, _, _, _, _, hm⟩ := hti
      have := hm.2.2.2.1
      omega
  have FIN := hide fin
  have fkb : ∀ (A' : Act) (V : World) (D : Nat) (dx : List (List UInt8)), Ti b W.heap.size (W.heap.size + 1) tB (fun x => #[x, .slice none 0 0]) wS dx V → (0 = 1 → dx = ds) → wS.heap.size ≤ D → V.heap[D]? = some (.deferred (some [])) → Sl w0 A' vk aB bW tB qB (mark D :: dd) → KB A' V := by
    intro A' V D dx hti hdx hD hdef ⟨hs, hd, h3, h4, h5, h24, h38, h41, h42⟩
    have hf := FIN.out V D dx hti hdx hD hdef
    have sfV : Sf 0 stop b w0 qB aB bW bx va vo ds V := by
      obtain ⟨_, _, _, _, _, _, _, _, _, hm⟩ := hti
      exact (hsf.mv hm hz).here
    have cqV : V.cell? ⟨qB, 0, none⟩ = some (.int .i64 0) := (cell_of_row _ _ 0 _ 3 (0, 0) sfV.1).trans rfl
    obtain ⟨s', eA, hsk⟩ := act_open A' _ hs hd
    rw [hsk] at h3 h4 h5 h24 h38 h41 h42
    refine HKB.out _ _ ?_
    rw [eA, h3, h4, h5, h24, h38, h41, h42]
    have HF := hide hf
    have HNN2 := hide HNN.out
    clear eA hsk h3 h4 h5 h24 h38 h41 h42 hs hd hf sfV hti hdef hD hdx fin FIN HKB HNN HS hsf hz hne hvo hI0 hgS htS hqS bI bP HW1 hW1 HH hTT hT0 hg hq ht dtg hqt sZ cw
    go_wp2_with fail
    obtain ⟨lt, us, hpt⟩ := HF.out _ V.heap.size ((Below.refl _ V).alloc (Nat.le_refl _) (.cells #[.int .i64 ((0 : Int) + 1)] 3)) (Nat.le_refl _) Array.getElem?_push_size
    refine HNN2.out _ _ D V.heap.size lt us dx hpt ⟨rfl, rfl, rfl, rfl, rfl, rfl, rfl, rfl, rfl⟩
  have FKB := hide fkb
  clear fin fkb
  refine (wpIn_wide (n := 6)).1 ?_
  apply range_toldH bx vo b rfl rfl hnv (Ti b W.heap.size (W.heap.size + 1) tB (fun x => #[x, .slice none 0 0]) wS) (Ix0 b W.heap.size (W.heap.size + 1) tB (fun x => #[x, .slice none 0 0]) wS stop) hvo Ti.own (fun c s V V' row h hgr hr => ⟨h.1, by obtain ⟨dx, h1, h2⟩ := h.2; exact ⟨dx, Ti.own dx V V' row h1 hgr hr, h2⟩⟩) hI0
  case hassign =>
    intro l k v V K hK
    gi_wp2
    exact hK
  case hbody =>
    intro l dx k v V1 V hl hnc hlp hi hgr ht2 hz2 hp2
    have hlg := get_len (b.drop k)
    rw [List.length_drop] at hlg
    have hM : wS.heap.size ≤ V1.heap.size := by
      obtain ⟨_, _, _, _, _, _, _, _, _, hm⟩ := hi
      exact hm.2.2.2.1
    exact body0 hTT hT0 hsf hz hne ⟨.inr rfl, trivial⟩ (hi.tm hgr (fun r e => by cases e; exact ⟨hl, hnc⟩)) ht2 hz2 rfl hp2 hM (by omega) hbl rfl rfl rfl rfl rfl rfl rfl rfl rfl rfl rfl
  case hdone =>
    intro D dx k V hD ht2 hz2 hi2 hdef
    obtain ⟨rfl, _⟩ := Rc.told_same _ _ _ _ _ ht2 hz2 hTT hT0
    have HE := hide (fun (A' : Act) => FKB.out A' V D dx hi2 (fun _ => rfl) hD hdef)
    have sfV : Sf 0 stop b w0 qB aB bW bx va vo dx V := by
      obtain ⟨_, _, _, _, _, _, _, _, _, hm⟩ := hi2
      exact (hsf.mv hm hz).here
    obtain ⟨aa, ca, rfl, hca1, hca2⟩ := sfV.2.2.1.form
    have cqV : V.cell? ⟨qB, 0, none⟩ = some (.int .i64 0) := (cell_of_row _ _ 0 _ 3 (0, 0) sfV.1).trans rfl
    have csV : V.cell? ⟨w0.heap.size, 0, none⟩ = some (.int .i64 stop) := (cell_of_row _ _ 0 _ 3 (0, 0) sfV.2.1).trans rfl
    have cbV := sfV.2.2.1.box
    have ciV : V.cell? ⟨W.heap.size, 0, none⟩ = some (.int .i64 (dx.length : Nat)) := by
      obtain ⟨_, _, _, _, h2, _⟩ := hi2
      exact (cell_of_row _ _ 0 _ 3 (0, 0) h2).trans rfl
    have z1 : ((dx.length : Int) != (dx.length : Int)) = false := by simp
    generalize dx.length = nn at ciV cbV z1 hca1
    clear sfV hi2 ht2 hz2 hdef HS hsf hz hne hvo hI0 hgS htS hqS bI bP HW1 hW1 HH hTT hT0 hg hq ht dtg hqt sZ cw FIN HNN HKB FKB
    cases hbs : ((nn : Int) != stop)
    all_goals
      go_wp2_with fail
      exact HE.out _ ⟨rfl, rfl, rfl, rfl, rfl, rfl, rfl, rfl, rfl⟩
  case hstop =>
    intro D c dx V hD hix hdef
    obtain ⟨rfl, dy, hi2, hstp⟩ := hix
    have HE := hide (fun (A' : Act) => FKB.out A' V D dy hi2 (fun h => by cases h) hD hdef)
    have sfV : Sf 0 stop b w0 qB aB bW bx va vo ds V := by
      obtain ⟨_, _, _, _, _, _, _, _, _, hm⟩ := hi2
      exact (hsf.mv hm hz).here
    have cqV : V.cell? ⟨qB, 0, none⟩ = some (.int .i64 0) := (cell_of_row _ _ 0 _ 3 (0, 0) sfV.1).trans rfl
    have csV : V.cell? ⟨w0.heap.size, 0, none⟩ = some (.int .i64 stop) := (cell_of_row _ _ 0 _ 3 (0, 0) sfV.2.1).trans rfl
    have ciV : V.cell? ⟨W.heap.size, 0, none⟩ = some (.int .i64 (dy.length : Nat)) := by
      obtain ⟨_, _, _, _, h2, _⟩ := hi2
      exact (cell_of_row _ _ 0 _ 3 (0, 0) h2).trans rfl
    have hbs : ((dy.length : Int) != stop) = false := by simp [hstp]
    generalize dy.length = nn at ciV hbs
    clear sfV hi2 hdef HS hsf hz hne hvo hI0 hgS htS hqS bI bP HW1 hW1 HH hTT hT0 hg hq ht dtg hqt sZ cw FIN HNN HKB FKB hstp
    refine wpIn_wide.2 ?_
    go_wp2_with fail
    exact HE.out _ ⟨rfl, rfl, rfl, rfl, rfl, rfl, rfl, rfl, rfl⟩
end Go.Proofs.Ytkohlhnkaklnpaa
