import Derived.Test.YtkohlhnkaklnpaaRdM
/-
  RecordReads: both turns of Walk.
-/
namespace Go.Proofs.Ytkohlhnkaklnpaa
open Go.RowKit Go.Shelf
attribute [local go_sem] Oper.semAt_some
set_option maxRecDepth 100000
theorem loop_ghost {P : Program} {a : Act} {w : World} {Q : Exit → Act → World → Prop} {c : Code} (I : Nat → Act → World → Prop) (m0 : Nat) (h₀ : I m0 a w)
    (round : ∀ m a w, I m a w → c.wp P (Exit.then (fun a' w' => ∃ m', m' < m ∧ I m' a' w') Q) a w) : (Code.loop c).wp P Q a w := by
  intro b k cs
  have key : ∀ n a w, I n a w →
      ∃ e a' w', Q e a' w' ∧ Arrives P (lone (b.at a (.code c :: .inLoop c :: k)) cs w) b k cs e a' w' := by
    intro n
    induction n using Nat.strongRecOn with
    | _ n ih =>
      intro a w hI
      obtain ⟨e, a₁, w₁, hq, harr⟩ := round n a w hI b (.inLoop c :: k) cs
      cases e with
      | normal =>
        obtain ⟨m', hlt, hI₁⟩ := hq
        obtain ⟨e₂, a₂, w₂, hq₂, harr₂⟩ := ih m' hlt a₁ w₁ hI₁
        exact ⟨e₂, a₂, w₂, hq₂, .of_steps (Steps.trans harr (.one step_inLoop)) harr₂⟩
      | exit id => exact ⟨.exit id, a₁, w₁, hq, fun k' hk => harr k' (by simp [exitTo, hk])⟩
      | goto l => exact ⟨.goto l, a₁, w₁, hq, fun k' hk => harr k' (by simp [gotoIn, hk])⟩
      | ret => exact ⟨_, a₁, w₁, hq, harr⟩
      | panic ch => exact ⟨_, a₁, w₁, hq, harr⟩
      | outgrown => exact ⟨_, a₁, w₁, hq, harr⟩
  obtain ⟨e, a₁, w₁, hq, harr⟩ := key m0 a w h₀
  exact ⟨e, a₁, w₁, hq, .of_steps (.one step_loop) harr⟩
theorem told_lens : ∀ (ds : List (List UInt8)) (b : List UInt8) (k : Nat), Rc.Told b ds k → ∀ d ∈ ds, d.length ≤ b.length
  | [], _, _, _, d, hd => by cases hd
  | x :: ds, b, k, h, d, hd => by
    rcases List.mem_cons.1 hd with rfl | hd
    · rw [h.2.1]; exact get_len b
    · have := told_lens ds _ _ h.2.2.2 d hd
      rw [List.length_drop] at this
      omega
theorem piece_cells {w : World} {B : Nat} {u : Value} {l : List UInt8} (h : Piece w B u l) : ∀ g, u.ownBlock = some g → ∃ c fz, w.heap[g]? = some (.cells c 5 fz) := by
  rcases h with ⟨rfl, _⟩ | ⟨g1, o, cur1, rfl, _, _, _, e1, _⟩
  · intro g e; cases e
  · intro g e
    obtain rfl : g1 = g := by simpa [Value.ownBlock] using e
    exact ⟨_, _, e1⟩
theorem of_not_mark {w : World} {B D k : Nat} {us : List Value} {ds : List (List UInt8)} {x : Option (List Deferred)} (h : Pieces w B us ds) (hD : w.heap[D]? = some (.deferred x)) (hk : Of us k) : k ≠ D := by
  rintro rfl
  obtain ⟨u, hu, e⟩ := hk
  obtain ⟨j, hj, rfl⟩ := List.getElem_of_mem hu
  obtain ⟨c, fz, hc⟩ := piece_cells (h.2.1 j hj (by rw [← h.1]; exact hj)).1 _ e
  rw [hD] at hc
  cases hc
theorem of_ap {w : World} {B B' n k : Nat} {us ys : List Value} {v : Value} {ds : List (List UInt8)} (h : Pieces w B us ds) (ho : w.ownsRow B' 22 1 v n ys) (hk : Of us k) : v.ownBlock ≠ some k := fun e' => by
  obtain ⟨u, hu, e⟩ := hk
  obtain ⟨j, hj, rfl⟩ := List.getElem_of_mem hu
  exact piece_ap (h.2.1 j hj (by rw [← h.1]; exact hj)).1 ho k e e'
/-- How far the turns are. -/
def It (w0 W : World) (b : List UInt8) (ds : List (List UInt8)) (vk : Value) (aB bW tB : Nat) (m : Nat) (A : Act) (V : World) : Prop :=
  (m = 2 ∧ ∃ qB, Sl w0 A vk aB bW tB qB [] ∧ Below W.heap.size W V ∧ V.heap[qB]? = some (.cells #[.int .i64 0] 3 (0, 0)) ∧ W.heap.size ≤ qB) ∨
  (m = 1 ∧ ∃ V0 D0 qB l0 us0 ds0, Below W.heap.size W V0 ∧ Pt 0 b ds tB (fun x => #[x, .slice none 0 0]) V0 V D0 qB l0 us0 ds0 ∧ Sl w0 A vk aB bW tB qB [mark D0]) ∨
  (m = 0 ∧ ∃ V0 V1 D0 q1 l0 us0 ds0 D1 qB l1 vs, Below W.heap.size W V0 ∧ Pt 0 b ds tB (fun x => #[x, .slice none 0 0]) V0 V1 D0 q1 l0 us0 ds0 ∧ Pt 1 b ds tB (fun x => #[l0, x]) V1 V D1 qB l1 vs ds ∧ Sl w0 A vk aB bW tB qB [mark D1, mark D0])
theorem turns_end {w0 wA W V0 V1 V : World} {stop : Int} {A : Act} {b : List UInt8} {ds ds0 : List (List UInt8)} {tB aB bW bx KK nk D0 D1 q1 qB : Nat} {va vo vk l0 l1 : Value} {us0 vs : List Value} {K Zg : Nat → Prop} (hst : St w0 wA stop) (hb : Below wA.heap.size wA W) (hk : Kz W wA.heap.size nk K vk) (hnk : nk ≤ 8000000) (hTT : Rc.Told b ds KK) (hbl : b.length ≤ 1048576)
    (hg : Keeps Zg W (Sg stop b w0 aB bW bx va vo ds)) (hlt : tB < W.heap.size) (dtg : ¬ Zg tB) (dKt : ¬ K tB) (dKZ : ∀ k, Zg k → ¬ K k) (htB : wA.heap.size ≤ tB) (h0 : Below W.heap.size W V0) (p0 : Pt 0 b ds tB (fun x => #[x, .slice none 0 0]) V0 V1 D0 q1 l0 us0 ds0) (p1 : Pt 1 b ds tB (fun x => #[l0, x]) V1 V D1 qB l1 vs ds) (hsl : Sl w0 A vk aB bW tB qB [mark D1, mark D0]) : Goes 38 w0 A V := by
  obtain ⟨a1, a2, a3, a4, ⟨k0, a5⟩, _, a7, a8, a9, a10⟩ := p0
  obtain ⟨b1, b2, b3, b4, _, _, b7, b8, b9, b10⟩ := p1
  have s0 := h0.size
  have s1 := a1.2.2.2.1
  have s2 := b1.2.2.2.1
  have sA := hb.size
  have hm : Mv W V (fun k => k = tB) := ((Mv.of h0).mono (S' := fun k => k = tB) (fun _ _ e => e.elim)).trans a1 (fun _ _ e => e) |>.trans b1 (fun _ _ e => e)
  have ltD0 := lt_of_block a7
  have p0V : Pieces V V0.heap.size us0 ds0 := ((pieces_keep a4).mv b1 (fun k ⟨u, hu, e⟩ e' => by have := (a4.lt u hu k e).1; omega)).here
  have l0V : V.ownsRow V0.heap.size 22 1 l0 ds0.length us0 := own_on a3 (fun k e => b1.2.2.2.2 k (a3.lt k e).2 (fun e' => by have := (a3.lt k e).1; omega))
  have d0V : V.heap[D0]? = some (.deferred (some [])) := (b1.2.2.2.2 D0 ltD0 (fun e => by omega)).trans a7
  have hgV := hg.mv hm (fun k e e' => by rw [e'] at e; exact dtg e)
  have hcnt := hTT.count
  have hle := hTT.le
  have hc0 := a5.count
  have hl0 := a5.le
  obtain ⟨hs, hd, h3, h4, h5, h24, h38, h41, h42⟩ := hsl
  have Ulo : ∀ k, Of us0 k → V0.heap.size ≤ k ∧ k < V1.heap.size := fun k ⟨u, hu, e⟩ => a4.lt u hu k e
  have Vlo : ∀ k, Of vs k → V1.heap.size ≤ k ∧ k < V.heap.size := fun k ⟨u, hu, e⟩ => b4.lt u hu k e
  have L0 : ∀ k, l0.ownBlock = some k → V0.heap.size ≤ k ∧ k < V1.heap.size := fun k e => a3.lt k e
  have L1 : ∀ k, l1.ownBlock = some k → V1.heap.size ≤ k ∧ k < V.heap.size := fun k e => b3.lt k e
  have th : Keeps (fun k => Zg k ∨ k = tB ∨ l0.ownBlock = some k ∨ l1.ownBlock = some k ∨ k = D0 ∨ k = D1) V (Tl aB tB D0 D1 va l0 l1 us0 vs ds0.length ds) := by
    refine ⟨fun k e => ?_, fun V' hs' hv => ?_⟩
    · rcases e with e | e | e | e | e | e
      · exact hgV.1 k e
      · omega
      · have := (L0 k e).2; omega
      · exact (L1 k e).2
      · omega
      · rw [e]; exact lt_of_block b7
    · refine ⟨(hv tB (.inr (.inl rfl))).trans b2, own_low (own_on l0V (fun k e => hv k (.inr (.inr (.inl e))))) (Nat.zero_le _), own_low (own_on b3 (fun k e => hv k (.inr (.inr (.inr (.inl e)))))) (Nat.zero_le _), (hgV.2 V' hs' (fun k e => hv k (.inl e))).2.1, (hv D0 (.inr (.inr (.inr (.inr (.inl rfl)))))).trans d0V, (hv D1 (.inr (.inr (.inr (.inr (.inr rfl)))))).trans b7⟩
  refine seg38 hst (hb.trans (hm.below hb.size (fun k e => by rw [e]; exact htB))) (hk.mv hm (fun k e e' => by rw [e'] at e; exact dKt e)) hnk (by omega) (fun d hd' => by have := told_lens ds b KK hTT d hd'; omega) (fun d hd' => by have := told_lens ds0 b k0 a5 d hd'; omega) (by omega) (pieces_low b4 (by omega)) (pieces_low p0V (by omega)) th ?_ ?_ ?_ ?_ ?_ ?_ (by omega) (by omega) (by omega) hs hd h4 h5 h24 h41
  · intro k e hK
    have hkk := (hk.lt k hK).2
    rcases e with e | e | e | e | e | e
    · exact dKZ k e hK
    · rw [e] at hK; exact dKt hK
    · have := (L0 k e).1; omega
    · have := (L1 k e).1; omega
    · omega
    · omega
  · intro k hU e
    have h1 := Ulo k hU
    rcases e with e | e | e | e | e | e
    · have := hg.1 k e; omega
    · omega
    · exact of_ap p0V l0V hU e
    · have := (L1 k e).1; omega
    · exact of_not_mark a4 a7 hU e
    · omega
  · intro k hU e
    have h1 := Vlo k hU
    rcases e with e | e | e | e | e | e
    · have := hg.1 k e; omega
    · omega
    · have := (L0 k e).2; omega
    · exact of_ap b4 b3 hU e
    · omega
    · exact of_not_mark b4 b7 hU e
  · intro k hU hK
    have h1 := Ulo k hU
    have := (hk.lt k hK).2
    omega
  · intro k hU hK
    have h1 := Vlo k hU
    have := (hk.lt k hK).2
    omega
  · intro k hV hU
    have h1 := Vlo k hV
    have h2 := Ulo k hU
    omega
set_option maxHeartbeats 8000000 in
theorem seg37 {w0 wA W : World} {stop : Int} {A : Act} {b : List UInt8} {ds : List (List UInt8)} {tB aB bW bx KK nk : Nat} {va vo vk : Value} {K Zg : Nat → Prop} (hst : St w0 wA stop) (hb : Below wA.heap.size wA W) (hk : Kz W wA.heap.size nk K vk) (hnk : nk ≤ 8000000) (hTT : Rc.Told b ds KK) (hT0 : (Rc.get (b.drop KK)).2 = 0) (hbl : b.length ≤ 1048576) (hnv : NilOr vo)
    (hg : Keeps Zg W (Sg stop b w0 aB bW bx va vo ds)) (ht : W.heap[tB]? = some (.cells #[.slice none 0 0, .slice none 0 0] 56 (0, 0))) (dtg : ¬ Zg tB) (dKt : ¬ K tB) (dKZ : ∀ k, Zg k → ¬ K k) (htB : wA.heap.size ≤ tB)
    (hs : A.tmps.size = 464) (hd : A.defers = []) (h3 : A.tmps.getD 3 undef = .pointer (some ⟨w0.heap.size, 0, none⟩)) (h4 : A.tmps.getD 4 undef = .pointer (some ⟨w0.heap.size + 1, 0, none⟩)) (h5 : A.tmps.getD 5 undef = vk) (h24 : A.tmps.getD 24 undef = .pointer (some ⟨aB, 0, none⟩)) (h38 : A.tmps.getD 38 undef = .pointer (some ⟨bW, 0, none⟩)) (h41 : A.tmps.getD 41 undef = .pointer (some ⟨tB, 0, none⟩)) :
    Goes 37 w0 A W := by
  obtain ⟨s, eA, hsk⟩ := act_open A _ hs hd
  rw [hsk] at h3 h4 h5 h24 h38 h41
  rw [eA, h3, h4, h5, h24, h38, h41]
  clear eA hsk h3 h4 h5 h24 h38 h41 hs hd
  have HE : Hid (∀ (A' : Act) (V0 V1 V : World) (D0 q1 : Nat) (l0 : Value) (us0 : List Value) (ds0 : List (List UInt8)) (D1 qB : Nat) (l1 : Value) (vs : List Value), Below W.heap.size W V0 → Pt 0 b ds tB (fun x => #[x, .slice none 0 0]) V0 V1 D0 q1 l0 us0 ds0 → Pt 1 b ds tB (fun x => #[l0, x]) V1 V D1 qB l1 vs ds → Sl w0 A' vk aB bW tB qB [mark D1, mark D0] → Goes 38 w0 A' V) :=
    fun A' V0 V1 V D0 q1 l0 us0 ds0 D1 qB l1 vs h0 p0 p1 hsl => turns_end hst hb hk hnk hTT hbl hg (lt_of_block ht) dtg dKt dKZ htB h0 p0 p1 hsl
  have HH := hide (And.intro hTT (And.intro hT0 (And.intro hg (And.intro ht dtg))))
  clear hTT hT0 hg ht dtg dKt dKZ htB hst hb hk
  unfold Goes
  conv => arg 2; whnf
  refine goes_seq (k := 38) ?_
  go_wp2_with fail
  refine loop_ghost (It w0 W b ds vk aB bW tB) 2 (.inl ⟨rfl, W.heap.size, ⟨rfl, rfl, rfl, rfl, rfl, rfl, rfl, rfl, rfl⟩, (Below.refl _ W).alloc (Nat.le_refl _) _, Array.getElem?_push_size, Nat.le_refl _⟩) ?_
  intro m A1 V hI
  obtain ⟨hTT, hT0, hg, ht, dtg⟩ := HH.out
  have ltt := lt_of_block ht
  rcases hI with ⟨rfl, qB, hsl, h0, hq, hqW⟩ | ⟨rfl, V0, D0, qB, l0, us0, ds0, h0, p0, hsl⟩ | ⟨rfl, V0, V1, D0, q1, l0, us0, ds0, D1, qB, l1, vs, h0, p0, p1, hsl⟩
  · exact turn0 (_l0 := .nilIface) hTT hT0 hbl hnv (hg.later h0) hq ((h0.block tB ltt).trans ht) dtg (by omega) hsl (fun A' W' D qB' lt us ds' hpt hsl' => ⟨1, by omega, .inr (.inl ⟨rfl, V, D, qB', lt, us, ds', h0, hpt, hsl'⟩)⟩)
  · have s0 := h0.size
    refine turn1 hTT hT0 hbl hnv ((hg.later h0).mv p0.1 (fun k e e' => by rw [e'] at e; exact dtg e)) (by simpa using p0.2.2.2.2.2.2.2.2.1) p0.2.1 dtg (by have := p0.2.2.2.2.2.2.2.2.2; omega) hsl (fun A' W' D qB' lt us ds' hpt hsl' => ?_)
    obtain rfl := hpt.2.2.2.2.2.1 rfl
    exact ⟨0, by omega, .inr (.inr ⟨rfl, V0, V, D0, qB, l0, us0, ds0, D, qB', lt, us, h0, p0, hpt, hsl'⟩)⟩
  · have hE := HE.out
    have cq : V.cell? ⟨qB, 0, none⟩ = some (.int .i64 2) := (cell_of_row _ _ 0 _ 3 (0, 0) p1.2.2.2.2.2.2.2.2.1).trans rfl
    have HEE := hide (fun (A' : Act) => HE.out A' V0 V1 V D0 q1 l0 us0 ds0 D1 qB l1 vs h0 p0 p1)
    obtain ⟨hs, hd, h3, h4, h5, h24, h38, h41, h42⟩ := hsl
    obtain ⟨s', eA, hsk⟩ := act_open A1 _ hs hd
    rw [hsk] at h3 h4 h5 h24 h38 h41 h42
    rw [eA, h3, h4, h5, h24, h38, h41, h42]
    clear eA hsk h3 h4 h5 h24 h38 h41 h42 hs hd hE HE HH hTT hT0 hg ht dtg ltt h0 p0 p1
    go_wp2_with fail
    exact HEE.out _ ⟨rfl, rfl, rfl, rfl, rfl, rfl, rfl, rfl, rfl⟩
end Go.Proofs.Ytkohlhnkaklnpaa
