import Derived.Test.YtmfoehaeejhlpaaGreatDoorGaBO
import Derived.Test.YtmfoehaeejhlpaaGreatDoorGaBG
import Derived.Test.YtmfoehaeejhlpaaGreatDoorGaBA
import Derived.Lib.ItoaLen
/-
  What is written, cut into tokens again: expressions, statements, programs.
-/
namespace Go.Proofs.YtmfoehaeejhlpaaGreatDoor.Yn
open Le
set_option maxRecDepth 100000
/-- A sign that nothing behind it makes another. -/
def lone (c : Nat) : Bool := decide (c ≠ 47 ∧ c ≠ 61 ∧ c ≠ 33 ∧ c ≠ 60 ∧ c ≠ 62 ∧ c ≠ 38 ∧ c ≠ 124)
theorem lx_sg (c : UInt8) (h1 : one c.toNat = true) (h2 : lone c.toNat = true) : Lx any [sg (bs [c])] := by
  refine (lx_one c h1).mono fun d _ => ?_
  have h := of_decide_eq_true h2
  refine ⟨?_, fun e => absurd e h.1⟩
  cases ht : two c.toNat d with
  | false => rfl
  | true =>
    simp only [two, Bool.or_eq_true, Bool.and_eq_true, beq_iff_eq] at ht
    omega
/-- What an expression begins with. -/
def fE (d : Nat) : Prop := isWo d = true ∨ d = 40 ∨ d = 45 ∨ d = 33
theorem fE_61 {d : Nat} (h : fE d) : d ≠ 61 := by
  rintro rfl
  rcases h with h | h | h | h
  · exact absurd h (by decide)
  all_goals omega
theorem lx_open : Lx any [sg cOpen] := lx_sg 40 (by decide) (by decide)
theorem lx_close : Lx any [sg cClose] := lx_sg 41 (by decide) (by decide)
theorem lx_lb : Lx any [sg cLb] := lx_sg 123 (by decide) (by decide)
theorem lx_rb : Lx any [sg cRb] := lx_sg 125 (by decide) (by decide)
theorem lx_com : Lx any [sg cCom] := lx_sg 44 (by decide) (by decide)
theorem lx_semi : Lx any [sg cSemi] := lx_sg 59 (by decide) (by decide)
theorem lx_col : Lx any [sg cCol] := lx_sg 58 (by decide) (by decide)
theorem lx_qu : Lx any [sg cQu] := lx_sg 63 (by decide) (by decide)
theorem lx_dot : Lx any [sg cDot] := lx_sg 46 (by decide) (by decide)
theorem st_bl (r : List Y) : St nwo (bl :: r) := ⟨32, _, rfl, rfl⟩
theorem st_sg (c : UInt8) (h : isWo c.toNat = false) (r : List Y) : St nwo (sg (bs [c]) :: r) := ⟨c, _, rfl, h⟩
/-- The equals sign, and a blank. -/
theorem lx_eq {c : Nat → Prop} {B : List Y} (hB : Lx c B) : Lx c (sg cEq :: bl :: B) := by
  have h1 : Lx any ([sg (bs [61])] ++ [bl]) := Lx.app (lx_one 61 (by decide)) lx_bl ⟨32, _, rfl, by decide, by decide⟩
  exact Lx.appT (A := [sg cEq, bl]) h1 hB
theorem bind_cases {t : ByteArray} (h : 1 ≤ binding t) : t = bs [124, 124] ∨ t = bs [38, 38] ∨ t = bs [61, 61] ∨ t = bs [33, 61] ∨ t = bs [60] ∨ t = bs [60, 61] ∨ t = bs [62] ∨ t = bs [62, 61] ∨ t = bs [43] ∨ t = bs [45] ∨ t = bs [42] ∨ t = bs [47] ∨ t = bs [37] := by
  unfold binding at h
  repeat' split at h
  all_goals first
    | omega
    | (rename_i e; subst e; simp)
    | (rename_i e; rcases e with e | e; all_goals (subst e; simp))
    | (rename_i e; rcases e with e | e | e; all_goals (subst e; simp))
    | (rename_i e; rcases e with e | e | e | e; all_goals (subst e; simp))
/-- A sign between two operands, with its blanks. -/
theorem lx_bin {t : ByteArray} (h : 1 ≤ binding t) : Lx any [bl, sg t, bl] := by
  refine Lx.c lx_bl ?_
  rcases bind_cases h with rfl | rfl | rfl | rfl | rfl | rfl | rfl | rfl | rfl | rfl | rfl | rfl | rfl
  · exact Lx.c (lx_two 124 124 (by decide)) lx_bl
  · exact Lx.c (lx_two 38 38 (by decide)) lx_bl
  · exact Lx.c (lx_two 61 61 (by decide)) lx_bl
  · exact Lx.c (lx_two 33 61 (by decide)) lx_bl
  · exact Lx.app (A := [sg (bs [60])]) (lx_one 60 (by decide)) lx_bl ⟨32, _, rfl, by decide, by decide⟩
  · exact Lx.c (lx_two 60 61 (by decide)) lx_bl
  · exact Lx.app (A := [sg (bs [62])]) (lx_one 62 (by decide)) lx_bl ⟨32, _, rfl, by decide, by decide⟩
  · exact Lx.c (lx_two 62 61 (by decide)) lx_bl
  · exact Lx.app (A := [sg (bs [43])]) (lx_one 43 (by decide)) lx_bl ⟨32, _, rfl, by decide, by decide⟩
  · exact Lx.app (A := [sg (bs [45])]) (lx_one 45 (by decide)) lx_bl ⟨32, _, rfl, by decide, by decide⟩
  · exact Lx.app (A := [sg (bs [42])]) (lx_one 42 (by decide)) lx_bl ⟨32, _, rfl, by decide, by decide⟩
  · exact Lx.app (A := [sg (bs [47])]) (lx_one 47 (by decide)) lx_bl ⟨32, _, rfl, by decide, by decide⟩
  · exact Lx.app (A := [sg (bs [37])]) (lx_one 37 (by decide)) lx_bl ⟨32, _, rfl, by decide, by decide⟩
theorem st_wd {t : ByteArray} (h : Wrd t) (r : List Y) : St fE (wd t :: r) := by
  obtain ⟨⟨c, q, e, hc⟩, -, -⟩ := h
  exact ⟨c, q ++ bys r, by rw [bys_cons]; show t.data.toList ++ _ = _; rw [e]; rfl, .inl (isLe_wo hc)⟩
theorem st_op {L : Nat} {t : Tree} (h : St fE (pE t)) : St fE (pO L t) := by
  by_cases hL : L ≤ str t
  · rw [pO_bare hL]; exact h
  · rw [pO_par hL]; exact ⟨40, _, rfl, .inr (.inl rfl)⟩
theorem lx_op {L : Nat} {t : Tree} (h : Lx nwo (pE t)) : Lx nwo (pO L t) := by
  by_cases hL : L ≤ str t
  · rw [pO_bare hL]; exact h
  · rw [pO_par hL]
    exact Lx.appT (Lx.appT lx_open (h.app lx_close (st_sg 41 (by decide) []))) Lx.nil |>.weak |> fun q => by simpa using q
theorem wrd_built {t : ByteArray} (h : isBuiltIn t = true) : Wrd t := by
  rcases isBuilt_cases h with rfl | rfl | rfl | rfl | rfl
  · exact ⟨⟨114, [97, 110, 100], rfl, by decide⟩, by decide, by decide⟩
  · exact ⟨⟨105, [110, 112, 117, 116], rfl, by decide⟩, by decide, by decide⟩
  · exact ⟨⟨109, [105, 110], rfl, by decide⟩, by decide, by decide⟩
  · exact ⟨⟨109, [97, 120], rfl, by decide⟩, by decide, by decide⟩
  · exact ⟨⟨97, [98, 115], rfl, by decide⟩, by decide, by decide⟩
/-- A list with commas, behind its first item, up to a sign. -/
theorem lx_comR {α : Type} (g : α → List Y) : ∀ (l : List α), (∀ x ∈ l, Lx nwo (g x)) → ∀ {c : Nat → Prop} {B : List Y}, Lx c B → St nwo B → Lx c (comR (l.map g) ++ B) ∧ St nwo (comR (l.map g) ++ B)
  | [], _, c, B, hB, hs => ⟨by simpa [comR] using hB, by simpa [comR] using hs⟩
  | x :: r, h, c, B, hB, hs => by
    obtain ⟨i1, i2⟩ := lx_comR g r (fun y hy => h y (List.mem_cons_of_mem _ hy)) hB hs
    have e : comR ((x :: r).map g) ++ B = sg cCom :: bl :: (g x ++ (comR (r.map g) ++ B)) := by
      simp only [List.map_cons, comR, List.append_assoc, List.cons_append, List.nil_append]
    rw [e]
    exact ⟨Lx.c lx_com (Lx.c lx_bl ((h x (List.mem_cons_self ..)).app i1 i2)), st_sg 44 (by decide) _⟩
theorem lx_comP {α : Type} (g : α → List Y) (l : List α) (h : ∀ x ∈ l, Lx nwo (g x)) {c : Nat → Prop} {B : List Y} (hB : Lx c B) (hs : St nwo B) : Lx c (comP (l.map g) ++ B) := by
  cases l with
  | nil => simpa [comP] using hB
  | cons x r =>
    obtain ⟨i1, i2⟩ := lx_comR g r (fun y hy => h y (List.mem_cons_of_mem _ hy)) hB hs
    have e : comP ((x :: r).map g) ++ B = g x ++ (comR (r.map g) ++ B) := by
      simp only [List.map_cons, comP, List.append_assoc]
    rw [e]
    exact (h x (List.mem_cons_self ..)).app i1 i2
theorem pEs_map : ∀ l : List Tree, pEs l = l.map pE
  | [] => by rw [pEs]; rfl
  | t :: ts => by rw [pEs, pEs_map ts]; rfl
theorem lx_e {ws : List ByteArray} {t : Tree} (ht : ShE ws t) : Lx nwo (pE t) ∧ St fE (pE t) := by
  induction ht with
  | @num v a h1 h2 =>
    rw [pE_num]
    refine ⟨lx_num h1 h2, ?_⟩
    obtain ⟨c, r, e, -⟩ := dec_first _ _ (Nat.le_refl v.toNat)
    have hd := dec_dig _ _ (Nat.le_refl v.toNat) c (by rw [e]; exact List.mem_cons_self ..)
    refine ⟨c, r, by rw [bys_cons, bys_nil, List.append_nil]; show (itB v).data.toList = _; rw [it_eq h1, e], .inl (isDi_wo ?_)⟩
    simp [isDi, hd.1, hd.2]
  | name h1 => rw [pE_name]; exact ⟨lx_wd h1.1, st_wd h1.1 _⟩
  | field h1 h2 => rw [pE_field]; exact ⟨Lx.w (lx_wd h1.1) (st_sg 46 (by decide) _) (Lx.c lx_dot (lx_wd h2.1)), st_wd h1.1 _⟩
  | @bin t x y a hb hx hy ihx ihy =>
    rw [pE_bin]
    exact ⟨((lx_op ihx.1).app (lx_bin hb) (st_bl _)).appT (lx_op ihy.1), ((st_op ihx.2).app _).app _⟩
  | @un t x a h1 hx ih =>
    rw [pE_un]
    rcases h1 with rfl | rfl
    · exact ⟨Lx.appT (lx_sg 45 (by decide) (by decide)) (lx_op ih.1), ⟨45, _, rfl, .inr (.inr (.inl rfl))⟩⟩
    · refine ⟨Lx.app (lx_one 33 (by decide)) (lx_op ih.1) ((st_op ih.2).mono fun d hd => ⟨?_, fun e => absurd e (by decide)⟩), ⟨33, _, rfl, .inr (.inr (.inr rfl))⟩⟩
      have := fE_61 hd
      cases ht : two (33 : UInt8).toNat d with
      | false => rfl
      | true =>
        simp only [two, Bool.or_eq_true, Bool.and_eq_true, beq_iff_eq] at ht
        have : (33 : UInt8).toNat = 33 := rfl
        omega
  | @con x y z a hx hy hz ihx ihy ihz =>
    rw [pE_con]
    have q1 : Lx any [bl, sg cQu, bl] := Lx.c lx_bl (Lx.c lx_qu lx_bl)
    have q2 : Lx any [bl, sg cCol, bl] := Lx.c lx_bl (Lx.c lx_col lx_bl)
    exact ⟨(((((lx_op ihx.1).app q1 (st_bl _)).appT ihy.1).app q2 (st_bl _)).appT ihz.1), ((((st_op ihx.2).app _).app _).app _).app _⟩
  | @call t l a h1 h2 ih =>
    have hw : Wrd t := h1.elim wrd_built (fun h => h.1)
    rw [pE_call]
    refine ⟨?_, st_wd hw _⟩
    rw [List.append_assoc, pEs_map]
    exact Lx.appT (A := [wd t, sg cOpen]) (Lx.w (lx_wd hw) (st_sg 40 (by decide) _) lx_open) (lx_comP pE l (fun x hx => (ih x hx).1) lx_close (st_sg 41 (by decide) _)).weak
  | @has t a h1 =>
    rw [pE_has]
    have hw : Wrd wHas := ⟨⟨104, [97, 115], rfl, by decide⟩, by decide, by decide⟩
    exact ⟨(Lx.w (lx_wd hw) (st_sg 40 (by decide) _) (Lx.c lx_open (Lx.w (lx_wd h1.1) (st_sg 41 (by decide) _) lx_close))).weak, st_wd hw _⟩
  | @word t a h1 =>
    have hw : Wrd t := by
      rcases h1 with rfl | rfl
      · exact ⟨⟨116, [105, 99, 107], rfl, by decide⟩, by decide, by decide⟩
      · exact ⟨⟨109, [101], rfl, by decide⟩, by decide, by decide⟩
    rw [pE_word]
    exact ⟨lx_wd hw, st_wd hw _⟩
end Go.Proofs.YtmfoehaeejhlpaaGreatDoor.Yn

/-
  What is written, cut into tokens again: statements, programs.
-/
namespace Go.Proofs.YtmfoehaeejhlpaaGreatDoor.Yn
open Le
set_option maxRecDepth 100000
theorem lx_v {ws : List ByteArray} {d : Nat} {v : Tree} (h : Vl ws d v) : Lx nwo (pV v) := by
  obtain ⟨t, x, a, rfl, ht, hx⟩ := h
  exact Lx.w (lx_wd ht.1) (st_sg 58 (by decide) _) (Lx.c lx_col (Lx.c lx_bl (lx_e hx.1).1))
theorem lx_p {ws : List ByteArray} {d : Nat} {p : Tree} (h : Pt ws d p) : Lx any (pP p) := by
  obtain ⟨e, t, l, a, -, rfl, ht, hl⟩ := h
  unfold pP
  rw [List.append_assoc]
  exact Lx.w (lx_wd ht.1) (st_sg 123 (by decide) _) (Lx.c lx_lb (lx_comP pV l (fun v hv => lx_v (hl v hv)) lx_rb (st_sg 125 (by decide) _)))
theorem lx_ps {ws : List ByteArray} {d : Nat} {l : List Tree} (h : ∀ p ∈ l, Pt ws d p) {c : Nat → Prop} {B : List Y} (hB : Lx c B) (hs : St nwo B) : Lx c (pPs l ++ B) ∧ St nwo (pPs l ++ B) := by
  unfold pPs
  have := lx_comP pP l (fun p hp => (lx_p (h p hp)).weak) hB hs
  split
  · rename_i h0
    have : l = [] := List.length_eq_zero_iff.1 h0
    subst this
    exact ⟨hB, hs⟩
  · exact ⟨Lx.c lx_bl this, st_bl _⟩
theorem wrd_of (c : UInt8) (r : List UInt8) (h1 : isLe c.toNat = true) (h2 : ∀ x ∈ c :: r, isWo x.toNat = true) (h3 : (c :: r).length ≤ 16) : Wrd (bs (c :: r)) := ⟨⟨c, r, rfl, h1⟩, h2, h3⟩
theorem wrd_if : Wrd wIf := wrd_of 105 [102] (by decide) (by decide) (by decide)
theorem wrd_else : Wrd wElse := wrd_of 101 [108, 115, 101] (by decide) (by decide) (by decide)
theorem wrd_let : Wrd wLet := wrd_of 108 [101, 116] (by decide) (by decide) (by decide)
theorem wrd_while : Wrd wWhile := wrd_of 119 [104, 105, 108, 101] (by decide) (by decide) (by decide)
theorem wrd_repeat : Wrd wRepeat := wrd_of 114 [101, 112, 101, 97, 116] (by decide) (by decide) (by decide)
theorem wrd_emit : Wrd wEmit := wrd_of 101 [109, 105, 116] (by decide) (by decide) (by decide)
theorem wrd_spawn : Wrd wSpawn := wrd_of 115 [112, 97, 119, 110] (by decide) (by decide) (by decide)
theorem wrd_add : Wrd wAdd := wrd_of 97 [100, 100] (by decide) (by decide) (by decide)
theorem wrd_remove : Wrd wRemove := wrd_of 114 [101, 109, 111, 118, 101] (by decide) (by decide) (by decide)
theorem wrd_die : Wrd wDie := wrd_of 100 [105, 101] (by decide) (by decide) (by decide)
theorem wrd_stop : Wrd wStop := wrd_of 115 [116, 111, 112] (by decide) (by decide) (by decide)
theorem wrd_return : Wrd wReturn := wrd_of 114 [101, 116, 117, 114, 110] (by decide) (by decide) (by decide)
theorem wrd_system : Wrd wSystem := wrd_of 115 [121, 115, 116, 101, 109] (by decide) (by decide) (by decide)
theorem wrd_func : Wrd wFunc := wrd_of 102 [117, 110, 99] (by decide) (by decide) (by decide)
theorem st_semi : St nwo [sg cSemi] := st_sg 59 (by decide) _
structure LxS (ws : List ByteArray) (f : Nat) : Prop where
  st : ∀ d t k, OkS ws d t → (10 ≤ opn t ∧ opn t ≤ 22) → 2 * sz t + 1 ≤ f → Lx any (pSt f t k)
  br : ∀ d t k, OkS ws d t → opn t = 13 → 2 * sz t ≤ f → Lx any (pBr f t k)
  bk : ∀ d t k, OkS ws d t → opn t = 5 → 2 * sz t ≤ f → Lx any (pBk f t k) ∧ St nwo (pBk f t k)
theorem lx_flat {g : Tree → List Y} : ∀ l : List Tree, (∀ x ∈ l, Lx any (g x)) → Lx any ((l.map g).flatten)
  | [], _ => Lx.nil
  | x :: r, h => by
    rw [List.map_cons, List.flatten_cons]
    exact (h x (List.mem_cons_self ..)).appT (lx_flat r fun y hy => h y (List.mem_cons_of_mem _ hy))
theorem szs_le {x : Tree} : ∀ {l : List Tree}, x ∈ l → sz x ≤ szs l
  | t :: ts, h => by
    rw [szs]
    rcases List.mem_cons.1 h with rfl | h
    · omega
    · have := szs_le h
      omega
theorem sz_pos (x : Tree) : 1 ≤ sz x := by
  obtain ⟨op, t, n, l, a⟩ := x
  rw [sz_mk]
  omega
theorem lxS (ws : List ByteArray) : ∀ f, LxS ws f
  | 0 => ⟨fun d t k _ _ h => by omega, fun d t k _ _ h => by have := sz_pos t; omega, fun d t k _ _ h => by have := sz_pos t; omega⟩
  | f + 1 => by
    have I := lxS ws f
    refine ⟨?_, ?_, ?_⟩
    · intro d t k ht ho hf
      cases ht with
      | @lett d u x a h1 h2 =>
        rw [pSt_simple (by decide)]
        show Lx any (([wd wLet, bl, wd u, bl, sg cEq, bl] ++ pE x) ++ [sg cSemi])
        rw [List.append_assoc]
        exact Lx.w (lx_wd wrd_let) (st_bl _) (Lx.c lx_bl (Lx.w (lx_wd h1.1) (st_bl _) (Lx.c lx_bl (lx_eq ((lx_e h2.1).1.app lx_semi st_semi)))))
      | @set d u x a h1 h2 =>
        rw [pSt_simple (by decide)]
        show Lx any (([wd u, bl, sg cEq, bl] ++ pE x) ++ [sg cSemi])
        rw [List.append_assoc]
        exact Lx.w (lx_wd h1.1) (st_bl _) (Lx.c lx_bl (lx_eq ((lx_e h2.1).1.app lx_semi st_semi)))
      | @setf d u f1 x a h1 h2 h3 =>
        obtain ⟨w, b, rfl, hw⟩ := h2
        rw [pSt_simple (by decide)]
        show Lx any (([wd u, sg cDot, wd w, bl, sg cEq, bl] ++ pE x) ++ [sg cSemi])
        rw [List.append_assoc]
        exact Lx.w (lx_wd h1.1) (st_sg 46 (by decide) _) (Lx.c lx_dot (Lx.w (lx_wd hw.1) (st_bl _) (Lx.c lx_bl (lx_eq ((lx_e h3.1).1.app lx_semi st_semi)))))
      | if2 h1 h2 h3 =>
        rw [pSt_if]
        exact I.br d _ k (.if2 h1 h2 h3) rfl (by omega)
      | if3 h1 h2 h3 h4 h5 =>
        rw [pSt_if]
        exact I.br d _ k (.if3 h1 h2 h3 h4 h5) rfl (by omega)
      | @loop d op c b a h0 h1 h2 h3 =>
        simp only [sz_mk, szs] at hf
        obtain ⟨b1, b2⟩ := I.bk d b k h2 h3 (by omega)
        rw [pSt_loop h0, List.append_assoc]
        have hw : Wrd (if op = 14 then wWhile else wRepeat) := by
          split
          · exact wrd_while
          · exact wrd_repeat
        exact Lx.w (lx_wd hw) (st_bl _) (Lx.c lx_bl ((lx_e h1.1).1.app b1 b2))
      | @emit d x y a h1 h2 =>
        rw [pSt_simple (by decide)]
        show Lx any (([wd wEmit, bl] ++ comP (pEs [x, y])) ++ [sg cSemi])
        rw [List.append_assoc, pEs_map]
        refine Lx.w (lx_wd wrd_emit) (st_bl _) (Lx.c lx_bl (lx_comP pE [x, y] (fun z hz => ?_) lx_semi st_semi))
        rcases List.mem_cons.1 hz with rfl | hz
        · exact (lx_e h1.1).1
        · rw [List.mem_singleton] at hz
          subst hz
          exact (lx_e h2.1).1
      | @spawn d l a h1 =>
        rw [pSt_simple (by decide)]
        show Lx any (([wd wSpawn] ++ pPs l) ++ [sg cSemi])
        rw [List.append_assoc]
        obtain ⟨q1, q2⟩ := lx_ps h1 lx_semi st_semi
        exact Lx.w (lx_wd wrd_spawn) q2 q1
      | @add d p a h1 =>
        rw [pSt_simple (by decide)]
        show Lx any (([wd wAdd] ++ pPs [p]) ++ [sg cSemi])
        rw [List.append_assoc]
        obtain ⟨q1, q2⟩ := lx_ps (l := [p]) (fun z hz => by
          rw [List.mem_singleton] at hz
          subst hz
          exact h1) lx_semi st_semi
        exact Lx.w (lx_wd wrd_add) q2 q1
      | @remove d u a h1 =>
        rw [pSt_simple (by decide)]
        exact Lx.w (lx_wd wrd_remove) (st_bl _) (Lx.c lx_bl (Lx.w (lx_wd h1.1) st_semi lx_semi))
      | @leaf d op a h1 =>
        rcases h1 with rfl | rfl
        · rw [pSt_simple (by decide)]
          exact Lx.w (lx_wd wrd_die) st_semi lx_semi
        · rw [pSt_simple (by decide)]
          exact Lx.w (lx_wd wrd_stop) st_semi lx_semi
      | @ret d x a h1 =>
        rw [pSt_simple (by decide)]
        show Lx any (([wd wReturn, bl] ++ pE x) ++ [sg cSemi])
        rw [List.append_assoc]
        exact Lx.w (lx_wd wrd_return) (st_bl _) (Lx.c lx_bl ((lx_e h1.1).1.app lx_semi st_semi))
      | block => exact absurd ho (by simp [opn])
    · intro d t k ht ho hf
      cases ht with
      | @if2 d c b a h1 h2 h3 =>
        simp only [sz_mk, szs] at hf
        obtain ⟨b1, b2⟩ := I.bk d b k h2 h3 (by omega)
        rw [pBr_two, List.append_assoc]
        exact Lx.w (lx_wd wrd_if) (st_bl _) (Lx.c lx_bl ((lx_e h1.1).1.app b1 b2))
      | @if3 d c b x a h1 h2 h3 h4 h5 =>
        simp only [sz_mk, szs] at hf
        obtain ⟨b1, b2⟩ := I.bk d b k h2 h3 (by omega)
        rw [pBr_three, List.append_assoc, List.append_assoc]
        have hx : Lx any (if opn x = 13 then [bl] ++ pBr f x k else pBk f x k) ∧ St nwo (if opn x = 13 then [bl] ++ pBr f x k else pBk f x k) := by
          by_cases h13 : opn x = 13
          · rw [if_pos h13]
            exact ⟨Lx.c lx_bl (I.br d x k h4 h13 (by omega)), st_bl _⟩
          · rw [if_neg h13]
            exact I.bk d x k h4 (h5.resolve_right h13) (by omega)
        have ht : Lx any ([bl, wd wElse] ++ (if opn x = 13 then [bl] ++ pBr f x k else pBk f x k)) := Lx.c lx_bl (Lx.w (lx_wd wrd_else) hx.2 hx.1)
        exact Lx.w (lx_wd wrd_if) (st_bl _) (Lx.c lx_bl ((lx_e h1.1).1.app (b1.appT ht) (b2.app _)))
      | lett => exact absurd ho (by simp [opn])
      | set => exact absurd ho (by simp [opn])
      | setf => exact absurd ho (by simp [opn])
      | loop h1 => exact absurd ho (by rcases h1 with rfl | rfl <;> simp [opn])
      | emit => exact absurd ho (by simp [opn])
      | spawn => exact absurd ho (by simp [opn])
      | add => exact absurd ho (by simp [opn])
      | remove => exact absurd ho (by simp [opn])
      | leaf h1 => exact absurd ho (by rcases h1 with rfl | rfl <;> simp [opn])
      | ret => exact absurd ho (by simp [opn])
      | block => exact absurd ho (by simp [opn])
    · intro d t k ht ho hf
      cases ht with
      | @block d l a h1 h2 =>
        rw [sz_mk] at hf
        rw [pBk_is]
        refine ⟨?_, st_bl _⟩
        have hfl : Lx any ((l.map fun s => [tab (k + 1)] ++ pSt f s (k + 1) ++ [nl]).flatten) := lx_flat l fun x hx => by
          have := szs_le hx
          exact Lx.appT (Lx.appT (lx_tab _) (I.st d x (k + 1) (h1 x hx) (h2 x hx) (by omega))) lx_nl
        exact Lx.appT (Lx.appT (Lx.c lx_bl (Lx.c lx_lb lx_nl)) hfl) (Lx.c (lx_tab k) lx_rb)
      | lett => exact absurd ho (by simp [opn])
      | set => exact absurd ho (by simp [opn])
      | setf => exact absurd ho (by simp [opn])
      | if2 => exact absurd ho (by simp [opn])
      | if3 => exact absurd ho (by simp [opn])
      | loop h1 => exact absurd ho (by rcases h1 with rfl | rfl <;> simp [opn])
      | emit => exact absurd ho (by simp [opn])
      | spawn => exact absurd ho (by simp [opn])
      | add => exact absurd ho (by simp [opn])
      | remove => exact absurd ho (by simp [opn])
      | leaf h1 => exact absurd ho (by rcases h1 with rfl | rfl <;> simp [opn])
      | ret => exact absurd ho (by simp [opn])
theorem lx_n {ws : List ByteArray} {x : Tree} (h : Nn ws x) : Lx nwo (pN x) := by
  obtain ⟨t, a, rfl, ht⟩ := h
  exact lx_wd ht.1
theorem lx_cl {ws : List ByteArray} {w : ByteArray} {c : Tree} (hw : Wrd w) (h : OkC ws w c) {e : Nat → Prop} {B : List Y} (hB : Lx e B) (hs : St nwo B) : Lx e (pCl c ++ B) ∧ St nwo (pCl c ++ B) := by
  obtain ⟨l, a, rfl, hl⟩ := h
  rw [pCl]
  split
  · exact ⟨hB, hs⟩
  · rw [List.append_assoc]
    exact ⟨Lx.c lx_bl (Lx.w (lx_wd hw) (st_bl _) (Lx.c lx_bl (lx_comP pN l (fun x hx => lx_n (hl x hx)) hB hs))), st_bl _⟩
theorem lx_mb {ws : List ByteArray} {x : Tree} (h : OkM ws x) {f : Nat} (hf : 2 * sz x ≤ f) : Lx any (pMb f x) := by
  cases h with
  | @sys t c0 c1 c2 c3 b a h1 o0 o1 o2 o3 h2 h3 =>
    simp only [sz_mk, szs] at hf
    obtain ⟨b1, b2⟩ := (lxS ws f).bk 20 b 0 h2 h3 (by omega)
    rw [pMb, if_pos rfl]
    show Lx any ([wd wSystem, bl, wd t] ++ ([pCl c0, pCl c1, pCl c2, pCl c3].flatten) ++ pBk f b 0 ++ [nl])
    have e : [wd wSystem, bl, wd t] ++ ([pCl c0, pCl c1, pCl c2, pCl c3].flatten) ++ pBk f b 0 ++ [nl] = wd wSystem :: bl :: wd t :: (pCl c0 ++ (pCl c1 ++ (pCl c2 ++ (pCl c3 ++ (pBk f b 0 ++ [nl]))))) := by
      simp only [List.flatten_cons, List.flatten_nil, List.append_nil, List.append_assoc, List.cons_append, List.nil_append]
    rw [e]
    obtain ⟨z3, y3⟩ := lx_cl (wrd_of 119 [114, 105, 116, 101, 115] (by decide) (by decide) (by decide)) o3 (b1.appT lx_nl) (b2.app _)
    obtain ⟨z2, y2⟩ := lx_cl (wrd_of 114 [101, 97, 100, 115] (by decide) (by decide) (by decide)) o2 z3 y3
    obtain ⟨z1, y1⟩ := lx_cl (wrd_of 119 [105, 116, 104, 111, 117, 116] (by decide) (by decide) (by decide)) o1 z2 y2
    obtain ⟨z0, y0⟩ := lx_cl (wrd_of 119 [105, 116, 104] (by decide) (by decide) (by decide)) o0 z1 y1
    exact Lx.w (lx_wd wrd_system) (st_bl _) (Lx.c lx_bl (Lx.w (lx_wd h1.1) y0 z0))
  | @fn t l b a a1 h1 h2 h3 h4 h5 =>
    simp only [sz_mk, szs] at hf
    obtain ⟨b1, b2⟩ := (lxS ws f).bk 20 b 0 h4 h5 (by omega)
    rw [pMb, if_neg (by decide)]
    show Lx any ([wd wFunc, bl, wd t, sg cOpen] ++ comP (l.map pN) ++ [sg cClose] ++ pBk f b 0 ++ [nl])
    have e : [wd wFunc, bl, wd t, sg cOpen] ++ comP (l.map pN) ++ [sg cClose] ++ pBk f b 0 ++ [nl] = wd wFunc :: bl :: wd t :: sg cOpen :: (comP (l.map pN) ++ (sg cClose :: (pBk f b 0 ++ [nl]))) := by
      simp only [List.append_assoc, List.cons_append, List.nil_append]
    rw [e]
    exact Lx.w (lx_wd wrd_func) (st_bl _) (Lx.c lx_bl (Lx.w (lx_wd h1.1) (st_sg 40 (by decide) _) (Lx.c lx_open (lx_comP pN l (fun x hx => lx_n (h2 x hx)) (Lx.c lx_close (b1.appT lx_nl)) (st_sg 41 (by decide) _)))))
theorem lx_pg {ws : List ByteArray} {l : List Tree} (h : ∀ x ∈ l, OkM ws x) {f : Nat} (hf : 2 * szs l ≤ f) : Lx any (pPg f l) := lx_flat l fun x hx => lx_mb (h x hx) (by have := szs_le hx; omega)
/-- The tokens of a text that is put together of pieces. -/
theorem lex_of {P : List Y} (h : Lx any P) {s : ByteArray} (hs : s.data.toList = bys P) : lexS s = .ok (tkP 0 P ++ [⟨0, s.size, s.size⟩]) := by
  have hz := bt_z s
  have hl : s.size = (bys P).length := by rw [← hs]; rfl
  have := h (bt s) s.size 0 hz (fun i hi => by
    unfold bt
    rw [hs, Nat.zero_add, List.getD_eq_getElem?_getD, List.getElem?_eq_getElem hi]
    rfl) (by omega) trivial
  unfold lexS
  rw [this, Nat.zero_add, ← hl, lexA_fin hz]
  rfl
theorem ext_piece {s : ByteArray} {A B : List UInt8} {t : ByteArray} (hs : s.data.toList = A ++ (t.data.toList ++ B)) : s.extract A.length (A.length + t.data.toList.length) = t := by
  have h1 : (s.extract A.length (A.length + t.data.toList.length)).data.toList = t.data.toList := by
    rw [show (s.extract A.length (A.length + t.data.toList.length)).data.toList = (s.data.toList.drop A.length).take (A.length + t.data.toList.length - A.length) by simp [ByteArray.data_extract, Array.toList_extract, List.extract_eq_take_drop]]
    rw [hs, List.drop_left, Nat.add_sub_cancel_left, List.take_left]
  cases s
  cases t
  simp only at h1 ⊢
  exact ByteArray.ext (Array.toList_inj.1 h1)
theorem toks_of {s : ByteArray} : ∀ (P : List Y) (A : List UInt8), s.data.toList = A ++ bys P → (tkP A.length P).map (fun t => (t.k, s.extract t.a t.e)) = tks P
  | [], A, _ => by rw [tkP]; rfl
  | y :: r, A, hs => by
    rw [bys_cons] at hs
    have e1 := ext_piece (t := y.2) hs
    have e2 := toks_of r (A ++ y.2.data.toList) (by rw [hs, List.append_assoc])
    rw [List.length_append] at e2
    rw [tkP, List.map_append, e2]
    obtain ⟨k, t⟩ := y
    by_cases hk : k = 0
    · subst hk
      rfl
    · have : tks ((k, t) :: r) = (k, t) :: tks r := by
        unfold tks
        rw [List.filter_cons, if_pos (by simp [hk])]
      rw [this, if_neg hk]
      show (k, s.extract A.length (A.length + t.data.toList.length)) :: tks r = _
      rw [e1]
end Go.Proofs.YtmfoehaeejhlpaaGreatDoor.Yn

/-
  What Print writes are the pieces, one behind the other.
-/
namespace Go.Proofs.YtmfoehaeejhlpaaGreatDoor
open Go.RowKit Yn
set_option maxRecDepth 100000
theorem tn_nil : nilT = tn := rfl
theorem stren_str (t : Tree) : stren t = str t := by
  obtain ⟨op, u, n, l, a⟩ := t
  rfl
theorem txT_txn (t : Tree) : txT t = txn t := by cases t; rfl
theorem lsT_lsn (t : Tree) : lsT t = lsn t := by cases t; rfl
theorem opT_opn (t : Tree) : opT t = opn t := by cases t; rfl
def comF (xs : List (List UInt8)) : List UInt8 := xs.flatMap fun x => [44, 32] ++ x
theorem comJ_pos : ∀ (xs : List (List UInt8)) (k : Nat), 1 ≤ k → (xs.mapIdx fun i x => comB (i + k) ++ x).flatten = comF xs
  | [], k, _ => rfl
  | x :: r, k, hk => by
    rw [List.mapIdx_cons, List.flatten_cons]
    have := comJ_pos r (k + 1) (by omega)
    have e : (fun (i : Nat) (x : List UInt8) => comB (i + 1 + k) ++ x) = fun i x => comB (i + (k + 1)) ++ x := by
      funext i x
      rw [show i + 1 + k = i + (k + 1) by omega]
    rw [e, this]
    have : comB (0 + k) = [44, 32] := by
      unfold comB
      rw [if_neg (by omega)]
    rw [this]
    rfl
theorem comJ_cons (x : List UInt8) (r : List (List UInt8)) : comJ (x :: r) = x ++ comF r := by
  unfold comJ
  rw [List.mapIdx_cons, List.flatten_cons, comJ_pos r 1 (by omega)]
  rfl
theorem comR_bys : ∀ c : List (List Y), bys (comR c) = comF (c.map bys)
  | [] => rfl
  | x :: r => by
    rw [comR, bys_app, bys_app, comR_bys r]
    rfl
theorem comP_bys (c : List (List Y)) : bys (comP c) = comJ (c.map bys) := by
  cases c with
  | nil => rfl
  | cons x r => rw [comP, bys_app, comR_bys, List.map_cons, comJ_cons]
theorem bys_one (y : Y) : bys [y] = y.2.data.toList := by rw [bys_cons, bys_nil, List.append_nil]
theorem opd_bys (L s : Nat) (x : List Y) : bys (opP L s x) = opdB L s (bys x) := by
  unfold opP opdB
  split
  · rfl
  · rw [bys_app, bys_app]
    rfl
theorem getD_bys (c : List (List Y)) (i : Nat) : bys (c.getD i []) = (c.map bys).getD i [] := by
  rw [List.getD_eq_getElem?_getD, List.getD_eq_getElem?_getD, List.getElem?_map]
  cases c[i]? <;> rfl
mutual
theorem pE_bys : ∀ T : Tree, bys (pE T) = prE T
  | .mk op t n l a => by
    rw [pE, prE, ← pEs_bys l]
    unfold exP exB
    split
    · rw [bys_one]; rfl
    split
    · rw [bys_one]; rfl
    split
    · rw [bys_cons, bys_cons, bys_one, tn_nil, txT_txn, List.append_assoc]; rfl
    split
    · rw [bys_app, bys_app, opd_bys, opd_bys, getD_bys, getD_bys, stren_str, stren_str, bys_cons, bys_cons, bys_one]
      rw [List.append_assoc [32] t.data.toList [32]]
      rfl
    split
    · rw [bys_app, opd_bys, getD_bys, stren_str, bys_one]; rfl
    split
    · rw [bys_app, bys_app, bys_app, bys_app, opd_bys, getD_bys, getD_bys, getD_bys, stren_str]; rfl
    split
    · rw [bys_app, bys_app, comP_bys, bys_cons, bys_one]; rfl
    split
    · rw [bys_cons, bys_cons, bys_cons, bys_one]
      show [104, 97, 115] ++ ([40] ++ (t.data.toList ++ [41])) = [104, 97, 115, 40] ++ t.data.toList ++ [41]
      simp
    · rfl
theorem pEs_bys : ∀ l : List Tree, (pEs l).map bys = prEs l
  | [] => by rw [pEs, prEs]; rfl
  | t :: ts => by rw [pEs, prEs, List.map_cons, pE_bys t, pEs_bys ts]
end
theorem pV_bys (v : Tree) : bys (pV v) = prV v := by
  unfold pV prV
  rw [bys_app, pE_bys, bys_cons, bys_cons, bys_one, ← txT_txn, ← lsT_lsn, ← tn_nil]
  simp only [List.append_assoc]
  rfl
theorem map_bys {g : Tree → List Y} {h : Tree → List UInt8} (e : ∀ x, bys (g x) = h x) (l : List Tree) : (l.map g).map bys = l.map h := by
  rw [List.map_map]
  exact List.map_congr_left fun x _ => e x
theorem pP_bys (p : Tree) : bys (pP p) = prP p := by
  unfold pP prP
  rw [bys_app, bys_app, comP_bys, map_bys pV_bys, bys_cons, bys_one, ← txT_txn, ← lsT_lsn]
  rfl
theorem pPs_bys (l : List Tree) : bys (pPs l) = ptB l := by
  unfold pPs ptB
  rw [bys_app, comP_bys, map_bys pP_bys]
  split <;> rfl
theorem sm_bys (op : Nat) (t : ByteArray) (l : List Tree) : bys (smP op t l) = smB op t l := by
  unfold smP smB
  split
  · rw [bys_app, pE_bys, bys_cons, bys_cons, bys_cons, bys_cons, bys_cons, bys_one]
    show [108, 101, 116] ++ ([32] ++ (t.data.toList ++ ([32] ++ ([61] ++ [32])))) ++ _ = _
    simp only [List.append_assoc, List.cons_append, List.nil_append]
    rfl
  split
  · rw [bys_app, pE_bys, bys_cons, bys_cons, bys_cons, bys_one]
    show (t.data.toList ++ ([32] ++ ([61] ++ [32]))) ++ _ = _
    rfl
  split
  · rw [bys_app, pE_bys, bys_cons, bys_cons, bys_cons, bys_cons, bys_cons, bys_one, ← txT_txn]
    show (t.data.toList ++ ([46] ++ ((txT (l.getD 0 tn)).data.toList ++ ([32] ++ ([61] ++ [32]))))) ++ _ = _
    simp only [List.append_assoc, List.cons_append, List.nil_append]
    rfl
  split
  · rw [bys_app, comP_bys, pEs_bys, prEs_eq, bys_cons, bys_one]; rfl
  split
  · rw [bys_app, pPs_bys, bys_one]; rfl
  split
  · rw [bys_app, pPs_bys, bys_one]; rfl
  split
  · rw [bys_cons, bys_cons, bys_one]
    show [114, 101, 109, 111, 118, 101] ++ ([32] ++ t.data.toList) = _
    rfl
  split
  · rw [bys_one]; rfl
  split
  · rw [bys_one]; rfl
  split
  · rw [bys_app, pE_bys, bys_cons, bys_one]; rfl
  · rfl
theorem pM_bys (T : Tree) : bys (pM T) = prM T := by
  obtain ⟨op, t, n, l, a⟩ := T
  exact sm_bys op t l
theorem flat_bys {α : Type} (g : α → List Y) (l : List α) : bys ((l.map g).flatten) = (l.map fun x => bys (g x)).flatten := by
  induction l with
  | nil => rfl
  | cons x r ih => rw [List.map_cons, List.flatten_cons, bys_app, ih, List.map_cons, List.flatten_cons]
theorem tab_bys (k : Nat) : bys [tab k] = tabB k := by rw [bys_one]; rfl
theorem pS_bys : ∀ f : Nat, (∀ T k, bys (pSt f T k) = prSt f T k) ∧ (∀ T k, bys (pBr f T k) = prBr f T k) ∧ (∀ T k, bys (pBk f T k) = prBk f T k)
  | 0 => ⟨fun T k => by rw [pSt, prSt]; rfl, fun T k => by rw [pBr, prBr]; rfl, fun T k => by rw [pBk, prBk]; rfl⟩
  | f + 1 => by
    obtain ⟨i1, i2, i3⟩ := pS_bys f
    refine ⟨fun T k => ?_, fun T k => ?_, fun T k => ?_⟩
    · rw [pSt, prSt, opT_opn, lsT_lsn, tn_nil]
      split
      · exact i2 T k
      split
      · rw [bys_app, bys_app, pE_bys, i3, bys_cons, bys_one]; rfl
      split
      · rw [bys_app, bys_app, pE_bys, i3, bys_cons, bys_one]; rfl
      · rw [bys_app, pM_bys, bys_one]; rfl
    · rw [pBr, prBr, lsT_lsn, tn_nil, opT_opn, bys_app, bys_app, bys_app, pE_bys, i3, bys_cons, bys_one]
      congr 1
      split
      · rfl
      · rw [bys_app, bys_cons, bys_one]
        show [32, 101, 108, 115, 101] ++ _ = _
        congr 1
        split
        · rw [bys_app, i2, bys_one]; rfl
        · exact i3 _ k
    · rw [pBk, prBk, lsT_lsn, bys_app, bys_app, bys_app, flat_bys, tab_bys, bys_one, bys_cons, bys_cons, bys_one]
      have e : (fun s => bys ([tab (k + 1)] ++ pSt f s (k + 1) ++ [nl])) = fun s => tabB (k + 1) ++ prSt f s (k + 1) ++ [10] := by
        funext s
        rw [bys_app, bys_app, tab_bys, i1, bys_one]
        rfl
      rw [e]
      rfl
theorem pN_bys (l : List Tree) : bys (comP (l.map pN)) = namB l := by
  unfold namB
  rw [comP_bys, List.map_map, List.map_map]
  congr 1
  refine List.map_congr_left fun x _ => ?_
  show bys (pN x) = (txT x).data.toList
  unfold pN
  rw [bys_one, txT_txn]
  rfl
theorem pCl_bys (c : Tree) : bys (pCl c) = clB c := by
  obtain ⟨op, t, n, l, a⟩ := c
  rw [pCl, clB]
  split
  · rfl
  · rw [bys_app, pN_bys, bys_cons, bys_cons, bys_one]
    show ([32] ++ (t.data.toList ++ [32])) ++ _ = _
    simp only [List.append_assoc]
theorem pMb_bys (f : Nat) (T : Tree) : bys (pMb f T) = prMb f T := by
  obtain ⟨op, t, n, l, a⟩ := T
  rw [pMb, prMb, tn_nil]
  split
  · rw [bys_app, bys_app, bys_app, flat_bys, (pS_bys f).2.2, bys_cons, bys_cons, bys_one, bys_one]
    have e : (fun x => bys (pCl x)) = clB := funext pCl_bys
    rw [e]
    rfl
  · rw [bys_app, bys_app, bys_app, bys_app, pN_bys, (pS_bys f).2.2, bys_cons, bys_cons, bys_cons, bys_one, bys_one, bys_one, lsT_lsn]
    show ([102, 117, 110, 99] ++ ([32] ++ (t.data.toList ++ [40]))) ++ _ ++ _ ++ _ ++ _ = _
    simp only [List.append_assoc, List.cons_append, List.nil_append]
    rfl
theorem pPg_bys (f : Nat) (l : List Tree) : bys (pPg f l) = prPg f l := by
  unfold pPg prPg
  rw [flat_bys]
  have e : (fun x => bys (pMb f x)) = prMb f := funext (pMb_bys f)
  rw [e]
end Go.Proofs.YtmfoehaeejhlpaaGreatDoor
