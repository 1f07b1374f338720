import Derived.Test.YtmfoehaeejhlpaaGreatDoorGaBM
/-
  Statements in pieces; they are read as they are written.
-/
namespace Go.Proofs.YtmfoehaeejhlpaaGreatDoor.Yn
set_option maxRecDepth 100000
def lsn : Tree → List Tree | .mk _ _ _ l _ => l
def pV (v : Tree) : List Y := [wd (txn v), sg cCol, bl] ++ pE ((lsn v).getD 0 tn)
def pP (p : Tree) : List Y := [wd (txn p), sg cLb] ++ comP ((lsn p).map pV) ++ [sg cRb]
def pPs (l : List Tree) : List Y := (if l.length = 0 then [] else [bl]) ++ comP (l.map pP)
def wLet := bs [108, 101, 116]
def wWhile := bs [119, 104, 105, 108, 101]
def wRepeat := bs [114, 101, 112, 101, 97, 116]
def wEmit := bs [101, 109, 105, 116]
def wSpawn := bs [115, 112, 97, 119, 110]
def wAdd := bs [97, 100, 100]
def wRemove := bs [114, 101, 109, 111, 118, 101]
def wDie := bs [100, 105, 101]
def wStop := bs [115, 116, 111, 112]
def wReturn := bs [114, 101, 116, 117, 114, 110]
def smP (op : Nat) (t : ByteArray) (l : List Tree) : List Y :=
  if op = 10 then [wd wLet, bl, wd t, bl, sg cEq, bl] ++ pE (l.getD 0 tn)
  else if op = 11 then [wd t, bl, sg cEq, bl] ++ pE (l.getD 0 tn)
  else if op = 12 then [wd t, sg cDot, wd (txn (l.getD 0 tn)), bl, sg cEq, bl] ++ pE (l.getD 1 tn)
  else if op = 16 then [wd wEmit, bl] ++ comP (pEs l)
  else if op = 17 then [wd wSpawn] ++ pPs l
  else if op = 18 then [wd wAdd] ++ pPs l
  else if op = 19 then [wd wRemove, bl, wd t]
  else if op = 20 then [wd wDie]
  else if op = 21 then [wd wStop]
  else if op = 22 then [wd wReturn, bl] ++ pE (l.getD 0 tn)
  else []
def pM : Tree → List Y | .mk op t _ l _ => smP op t l
def nl : Y := (0, bs [10])
def tab (k : Nat) : Y := (0, bs (List.replicate k 9))
mutual
def pSt : Nat → Tree → Nat → List Y
  | 0, _, _ => []
  | f + 1, T, k => if opn T = 13 then pBr f T k else if opn T = 14 then [wd wWhile, bl] ++ pE ((lsn T).getD 0 tn) ++ pBk f ((lsn T).getD 1 tn) k else if opn T = 15 then [wd wRepeat, bl] ++ pE ((lsn T).getD 0 tn) ++ pBk f ((lsn T).getD 1 tn) k else pM T ++ [sg cSemi]
def pBr : Nat → Tree → Nat → List Y
  | 0, _, _ => []
  | f + 1, T, k => ([wd wIf, bl] ++ pE ((lsn T).getD 0 tn) ++ pBk f ((lsn T).getD 1 tn) k) ++ (if (lsn T).length = 2 then [] else [bl, wd wElse] ++ (if opn ((lsn T).getD 2 tn) = 13 then [bl] ++ pBr f ((lsn T).getD 2 tn) k else pBk f ((lsn T).getD 2 tn) k))
def pBk : Nat → Tree → Nat → List Y
  | 0, _, _ => []
  | f + 1, T, k => [bl, sg cLb, nl] ++ ((lsn T).map fun s => [tab (k + 1)] ++ pSt f s (k + 1) ++ [nl]).flatten ++ ([tab k] ++ [sg cRb])
end
theorem tks_nl (l : List Y) : tks (nl :: l) = tks l := rfl
theorem tks_tab (k : Nat) (l : List Y) : tks (tab k :: l) = tks l := rfl
theorem At.up {s : S} {l : List Y} {st sy fu de : Nat} (h : At s l st sy fu de) : At (Yn.up s) l (st + 1) sy fu de := ⟨h.ys, by have := h.st; show s.st + 1 = st + 1; omega, h.sy, h.fu, h.de⟩
theorem ex_at {ws : List ByteArray} (hw : Wsok ws) {n d : Nat} {t : Tree} {s : S} {rest : List Y} {x : ByteArray} {st sy fu de : Nat} (ht : Ex ws d t) (hd20 : de + d ≤ 20) (h : At s (tks (pE t) ++ sg x :: rest) st sy fu de) (hx : x ≠ cOpen ∧ x ≠ cDot ∧ x ≠ cQu ∧ binding x = 0) : Rr (Se t) (sg x :: rest) st sy fu de (Yn.cond ws n s) := (allB hw n).cond t s _ st sy fu de ht.1 h (by have := ht.2; omega) ⟨hx.1, hx.2.1⟩ hx.2.2.2 hx.2.2.1
theorem tail_at {ws : List ByteArray} (hw : Wsok ws) {n d : Nat} {t : Tree} {s : S} {rest : List Y} {st sy fu de : Nat} (ht : Ex ws d t) (hd20 : de + d ≤ 20) (h : At s (tks (pE t) ++ sg cSemi :: rest) st sy fu de) : Rr (Se t) rest st sy fu de (Yn.tail ws n s) := by
  unfold Yn.tail
  refine Rr.bind (ex_at hw ht hd20 h (by decide)) fun u s1 hu hs1 => ?_
  refine Rr.bind (take_at rfl hs1) fun _ s2 _ hs2 => ?_
  exact Rr.ok hu hs2
theorem comR_hd {α : Type} (f : α → List Y) (r : List α) (x : ByteArray) (rest : List Y) : ∃ y l, (y = cCom ∨ y = x) ∧ tks (comR (r.map f)) ++ sg x :: rest = sg y :: l := by
  cases r with
  | nil => exact ⟨x, rest, .inr rfl, rfl⟩
  | cons a r => exact ⟨cCom, _, .inl rfl, rfl⟩
theorem field_at {ws : List ByteArray} (hw : Wsok ws) {n d : Nat} {t : Tree} {s : S} {rest : List Y} {x : ByteArray} {st sy fu de : Nat} (ht : Vl ws d t) (hd20 : de + d ≤ 20) (h : At s (tks (pV t) ++ sg x :: rest) st sy fu de) (hx : x ≠ cOpen ∧ x ≠ cDot ∧ x ≠ cQu ∧ binding x = 0) : Rr (Se t) (sg x :: rest) st sy fu de (Yn.field ws n s) := by
  obtain ⟨u, e, a, rfl, hu, he⟩ := ht
  unfold Yn.field
  have h' : At s (wd u :: sg cCol :: (tks (pE e) ++ sg x :: rest)) st sy fu de := h
  refine Rr.bind (name_at hu.2 h') fun v s1 hv hs1 => ?_
  refine Rr.bind (take_at rfl hs1) fun _ s2 _ hs2 => ?_
  refine Rr.bind (ex_at hw he hd20 hs2 hx) fun z s3 hz hs3 => ?_
  refine Rr.ok ?_ hs3
  unfold Se at hz ⊢
  simp only [er_mk, ers, hz, hv]
theorem fields_at {ws : List ByteArray} (hw : Wsok ws) : ∀ (n d : Nat) (acc l : List Tree) (s : S) (rest : List Y) (st sy fu de : Nat), (∀ v ∈ l, Vl ws d v) → de + d ≤ 20 → At s (tks (comR (l.map pV)) ++ sg cRb :: rest) st sy fu de → Rr (fun m => ers m = ers acc ++ ers l) (sg cRb :: rest) st sy fu de (Yn.fields ws n acc s)
  | 0, d, acc, l, s, rest, st, sy, fu, de, _, _, _ => by rw [Yn.fields]; exact .inl rfl
  | n + 1, d, acc, l, s, rest, st, sy, fu, de, hl, hd20, h => by
    rw [Yn.fields]
    cases l with
    | nil =>
      have h' : At s (sg cRb :: rest) st sy fu de := h
      rw [isAt_at h' (show cRb ≠ cCom by decide), if_neg (by decide)]
      exact Rr.ok (by rw [ers, List.append_nil]) h'
    | cons x r =>
      have e1 : tks (comR ((x :: r).map pV)) ++ sg cRb :: rest = sg cCom :: (tks (pV x) ++ (tks (comR (r.map pV)) ++ sg cRb :: rest)) := by
        simp only [List.map_cons, comR, tks_app, tks_bl, tks_sg, List.append_assoc, List.cons_append, List.nil_append]
      rw [e1] at h
      rw [isAt_sg h, if_pos rfl]
      obtain ⟨y, q, hy, e2⟩ := comR_hd pV r cRb rest
      have h2 := h.cons.2.2
      rw [e2] at h2
      refine Rr.bind (field_at hw (hl x (List.mem_cons_self ..)) hd20 h2 (by rcases hy with rfl | rfl <;> decide)) fun u s1 hu hs1 => ?_
      rw [← e2] at hs1
      have := fields_at hw n d (acc ++ [u]) r s1 rest st sy fu de (fun v hv => hl v (List.mem_cons_of_mem _ hv)) hd20 hs1
      have e3 : ers (acc ++ [u]) ++ ers r = ers acc ++ ers (x :: r) := by
        unfold Se at hu
        rw [ers_app, ers_one, hu, ers, List.append_assoc]
        rfl
      rw [e3] at this
      exact this
theorem part_at {ws : List ByteArray} (hw : Wsok ws) {n d : Nat} {p : Tree} {s : S} {rest : List Y} {st sy fu de : Nat} (hp : Pt ws d p) (hd20 : de + d ≤ 20) (h : At s (tks (pP p) ++ rest) st sy fu de) : Rr (Se p) rest st sy fu de (Yn.part ws n s) := by
  obtain ⟨e, t, l, a, rfl, rfl, ht, hl⟩ := hp
  unfold Yn.part
  have e1 : tks (pP (.mk 23 t 0 l a)) ++ rest = wd t :: sg cLb :: (tks (comP (l.map pV)) ++ sg cRb :: rest) := by
    unfold pP
    simp only [txn, lsn, tks_app, tks_wd, tks_sg, tks_nil, List.append_assoc, List.cons_append, List.nil_append]
  rw [e1] at h
  refine Rr.bind (name_at ht.2 h) fun v s1 hv hs1 => ?_
  refine Rr.bind (open_at rfl hs1 (by omega)) fun _ s2 _ hs2 => ?_
  refine Rr.bind (P := fun m => ers m = ers l) (l := sg cRb :: rest) (st := st) (sy := sy) (fu := fu) (de := de + 1) ?_ fun m s3 hm hs3 => ?_
  · cases l with
    | nil =>
      have hs2' : At s2 (sg cRb :: rest) st sy fu (de + 1) := hs2
      rw [isAt_sg hs2', if_pos rfl]
      exact Rr.ok rfl hs2'
    | cons x r =>
      rw [List.map_cons, comP, tks_app, List.append_assoc] at hs2
      have hne : hdT (tks (pV x) ++ (tks (comR (r.map pV)) ++ sg cRb :: rest)) ≠ cRb := by
        obtain ⟨u, e, a, rfl, hu, he⟩ := hl x (List.mem_cons_self ..)
        exact wrd_ne hu.1 125 (by decide)
      rw [isAt_at hs2 hne, if_neg (by decide)]
      obtain ⟨y, q, hy, e2⟩ := comR_hd pV r cRb rest
      rw [e2] at hs2
      refine Rr.bind (field_at hw (hl x (List.mem_cons_self ..)) (by omega) hs2 (by rcases hy with rfl | rfl <;> decide)) fun u s4 hu hs4 => ?_
      rw [← e2] at hs4
      have := fields_at hw n e [u] r s4 rest st sy fu (de + 1) (fun v hv => hl v (List.mem_cons_of_mem _ hv)) (by omega) hs4
      have e3 : ers [u] ++ ers r = ers (x :: r) := by
        unfold Se at hu
        rw [ers_one, hu, ers]
        rfl
      rw [e3] at this
      exact this
  · refine Rr.bind (take_at rfl hs3) fun _ s4 _ hs4 => ?_
    refine Rr.ok ?_ hs4.leave
    unfold Se
    simp only [er_mk, hm, hv]
theorem parts_at {ws : List ByteArray} (hw : Wsok ws) : ∀ (n d : Nat) (acc l : List Tree) (s : S) (rest : List Y) (st sy fu de : Nat), (∀ v ∈ l, Pt ws d v) → de + d ≤ 20 → At s (tks (comR (l.map pP)) ++ sg cSemi :: rest) st sy fu de → Rr (fun m => ers m = ers acc ++ ers l) (sg cSemi :: rest) st sy fu de (Yn.parts ws n acc s)
  | 0, d, acc, l, s, rest, st, sy, fu, de, _, _, _ => by rw [Yn.parts]; exact .inl rfl
  | n + 1, d, acc, l, s, rest, st, sy, fu, de, hl, hd20, h => by
    rw [Yn.parts]
    cases l with
    | nil =>
      have h' : At s (sg cSemi :: rest) st sy fu de := h
      rw [isAt_at h' (show cSemi ≠ cCom by decide), if_neg (by decide)]
      exact Rr.ok (by rw [ers, List.append_nil]) h'
    | cons x r =>
      have e1 : tks (comR ((x :: r).map pP)) ++ sg cSemi :: rest = sg cCom :: (tks (pP x) ++ (tks (comR (r.map pP)) ++ sg cSemi :: rest)) := by
        simp only [List.map_cons, comR, tks_app, tks_bl, tks_sg, List.append_assoc, List.cons_append, List.nil_append]
      rw [e1] at h
      rw [isAt_sg h, if_pos rfl]
      refine Rr.bind (part_at hw (hl x (List.mem_cons_self ..)) hd20 h.cons.2.2) fun u s1 hu hs1 => ?_
      have := parts_at hw n d (acc ++ [u]) r s1 rest st sy fu de (fun v hv => hl v (List.mem_cons_of_mem _ hv)) hd20 hs1
      have e3 : ers (acc ++ [u]) ++ ers r = ers acc ++ ers (x :: r) := by
        unfold Se at hu
        rw [ers_app, ers_one, hu, ers, List.append_assoc]
        rfl
      rw [e3] at this
      exact this
theorem way_zero {ws : List ByteArray} (hw : Wsok ws) {t : ByteArray} (h : t ∉ ws) : wayOf t = 0 := by
  rcases wayOf_cases t with h' | ⟨p, hp, e, -⟩
  · exact h'.1
  · exact absurd (e ▸ hw.way p hp) h
structure AllC (ws : List ByteArray) (n : Nat) : Prop where
  stmt : ∀ d t f k s rest st sy fu de, OkS ws d t → (10 ≤ opn t ∧ opn t ≤ 22) → de + d ≤ 20 → 2 * sz t + 1 ≤ f → At s (tks (pSt f t k) ++ rest) st sy fu de → st + cnt t ≤ 200 → hdT rest ≠ wElse → Rr (Se t) rest (st + cnt t) sy fu de (Yn.stmt ws n s)
  block : ∀ d t f k s rest st sy fu de, OkS ws d t → opn t = 5 → de + d ≤ 20 → 2 * sz t ≤ f → At s (tks (pBk f t k) ++ rest) st sy fu de → st + cnt t ≤ 200 → Rr (Se t) rest (st + cnt t) sy fu de (Yn.block ws n s)
  stmts : ∀ d acc l f k s rest st sy fu de, (∀ x ∈ l, OkS ws d x ∧ 10 ≤ opn x ∧ opn x ≤ 22) → de + d ≤ 20 → 2 * szs l + 1 ≤ f → At s (tks ((l.map fun s => [tab (k + 1)] ++ pSt f s (k + 1) ++ [nl]).flatten) ++ sg cRb :: rest) st sy fu de → st + cnts l ≤ 200 → Rr (fun m => ers m = ers acc ++ ers l) rest (st + cnts l) sy fu de (Yn.stmts ws n acc s)
theorem allC_zero (ws : List ByteArray) : AllC ws 0 := by
  constructor
  · intros; rw [Yn.stmt]; exact .inl rfl
  · intros; rw [Yn.block]; exact .inl rfl
  · intros; rw [Yn.stmts]; exact .inl rfl
theorem pSt_simple {f k : Nat} {op : Nat} {t : ByteArray} {n : Int} {l : List Tree} {a : Nat} (h : op ≠ 13 ∧ op ≠ 14 ∧ op ≠ 15) : pSt (f + 1) (.mk op t n l a) k = smP op t l ++ [sg cSemi] := by
  rw [pSt]
  simp [opn, h.1, h.2.1, h.2.2, pM]
theorem pSt_if {f k : Nat} {t : ByteArray} {n : Int} {l : List Tree} {a : Nat} : pSt (f + 1) (.mk 13 t n l a) k = pBr f (.mk 13 t n l a) k := by
  rw [pSt]
  simp [opn]
theorem pBr_two {f k : Nat} {t : ByteArray} {n : Int} {c b : Tree} {a : Nat} : pBr (f + 1) (.mk 13 t n [c, b] a) k = [wd wIf, bl] ++ pE c ++ pBk f b k := by
  rw [pBr]
  simp [lsn]
theorem pBr_three {f k : Nat} {t : ByteArray} {n : Int} {c b x : Tree} {a : Nat} : pBr (f + 1) (.mk 13 t n [c, b, x] a) k = [wd wIf, bl] ++ pE c ++ pBk f b k ++ ([bl, wd wElse] ++ (if opn x = 13 then [bl] ++ pBr f x k else pBk f x k)) := by
  rw [pBr]
  simp [lsn]
theorem pSt_loop {f k op : Nat} {t : ByteArray} {n : Int} {c b : Tree} {a : Nat} (h : op = 14 ∨ op = 15) : pSt (f + 1) (.mk op t n [c, b] a) k = [wd (if op = 14 then wWhile else wRepeat), bl] ++ pE c ++ pBk f b k := by
  rw [pSt]
  rcases h with rfl | rfl <;> simp [opn, lsn]
theorem pBk_is {f k : Nat} {t : ByteArray} {n : Int} {l : List Tree} {a op : Nat} : pBk (f + 1) (.mk op t n l a) k = [bl, sg cLb, nl] ++ ((l.map fun s => [tab (k + 1)] ++ pSt f s (k + 1) ++ [nl]).flatten) ++ ([tab k] ++ [sg cRb]) := by
  rw [pBk]
  simp [lsn]
theorem pBk_hd {ws : List ByteArray} {d f k : Nat} {t : Tree} (ht : OkS ws d t) (ho : opn t = 5) (hf : 2 * sz t ≤ f) (rest : List Y) : ∃ q, tks (pBk f t k) ++ rest = sg cLb :: q := by
  obtain ⟨op, u, n, l, a⟩ := t
  rw [sz_mk] at hf
  obtain ⟨f, rfl⟩ : ∃ g, f = g + 1 := ⟨f - 1, by omega⟩
  rw [pBk_is]
  exact ⟨_, rfl⟩
/-- A statement begins with a word that is neither else nor a brace. -/
theorem pSt_hd {ws : List ByteArray} (hw : Wsok ws) {d f k : Nat} {t : Tree} (ht : OkS ws d t) (ho : 10 ≤ opn t ∧ opn t ≤ 22) (hf : 2 * sz t + 1 ≤ f) : ∃ y q, tks (pSt f t k) = wd y :: q ∧ y ≠ wElse ∧ y ≠ cRb := by
  have nm : ∀ y, Nm ws y → y ≠ wElse ∧ y ≠ cRb := fun y hy => ⟨fun e => hy.2 (e ▸ hw.els), wrd_ne hy.1 125 (by decide)⟩
  obtain ⟨f, rfl⟩ : ∃ g, f = g + 1 := ⟨f - 1, by omega⟩
  cases ht with
  | lett h1 h2 => rw [pSt_simple (by decide)]; exact ⟨wLet, _, rfl, by decide⟩
  | @set _ u x a h1 h2 => rw [pSt_simple (by decide)]; exact ⟨u, _, rfl, nm u h1⟩
  | @setf _ u f x a h1 h2 h3 => rw [pSt_simple (by decide)]; exact ⟨u, _, rfl, nm u h1⟩
  | if2 h1 h2 h3 =>
    rw [sz_mk] at hf
    obtain ⟨f, rfl⟩ : ∃ g, f = g + 1 := ⟨f - 1, by omega⟩
    rw [pSt_if, pBr_two]
    exact ⟨wIf, _, rfl, by decide⟩
  | if3 h1 h2 h3 =>
    rw [sz_mk] at hf
    obtain ⟨f, rfl⟩ : ∃ g, f = g + 1 := ⟨f - 1, by omega⟩
    rw [pSt_if, pBr_three]
    exact ⟨wIf, _, rfl, by decide⟩
  | loop h1 h2 h3 =>
    rw [pSt_loop h1]
    rcases h1 with rfl | rfl
    · exact ⟨wWhile, _, rfl, by decide⟩
    · exact ⟨wRepeat, _, rfl, by decide⟩
  | emit h1 h2 => rw [pSt_simple (by decide)]; exact ⟨wEmit, _, rfl, by decide⟩
  | spawn h1 => rw [pSt_simple (by decide)]; exact ⟨wSpawn, _, rfl, by decide⟩
  | add h1 => rw [pSt_simple (by decide)]; exact ⟨wAdd, _, rfl, by decide⟩
  | remove h1 => rw [pSt_simple (by decide)]; exact ⟨wRemove, _, rfl, by decide⟩
  | leaf h1 =>
    rcases h1 with rfl | rfl
    · rw [pSt_simple (by decide)]; exact ⟨wDie, _, rfl, by decide⟩
    · rw [pSt_simple (by decide)]; exact ⟨wStop, _, rfl, by decide⟩
  | ret h1 => rw [pSt_simple (by decide)]; exact ⟨wReturn, _, rfl, by decide⟩
  | block => exact absurd ho (by simp [opn])
theorem block_c {ws : List ByteArray} {n : Nat} (I : AllC ws n) : ∀ d t f k s rest st sy fu de, OkS ws d t → opn t = 5 → de + d ≤ 20 → 2 * sz t ≤ f → At s (tks (pBk f t k) ++ rest) st sy fu de → st + cnt t ≤ 200 → Rr (Se t) rest (st + cnt t) sy fu de (Yn.block ws (n + 1) s) := by
  intro d t f k s rest st sy fu de ht ho hd20 hf h h200
  cases ht with
  | @block d l a h1 h2 =>
    rw [sz_mk] at hf
    rw [cnt_mk, if_neg (by omega), Nat.zero_add] at h200 ⊢
    obtain ⟨f, rfl⟩ : ∃ g, f = g + 1 := ⟨f - 1, by omega⟩
    rw [pBk_is] at h
    have e1 : tks ([bl, sg cLb, nl] ++ ((l.map fun s => [tab (k + 1)] ++ pSt f s (k + 1) ++ [nl]).flatten) ++ ([tab k] ++ [sg cRb])) ++ rest = sg cLb :: (tks ((l.map fun s => [tab (k + 1)] ++ pSt f s (k + 1) ++ [nl]).flatten) ++ sg cRb :: rest) := by
      simp only [tks_app, tks_bl, tks_sg, tks_nl, tks_tab, tks_nil, List.append_assoc, List.cons_append, List.nil_append]
    rw [e1] at h
    rw [Yn.block]
    refine Rr.bind (open_at rfl h (by omega)) fun _ s1 _ hs1 => ?_
    refine Rr.bind (I.stmts d [] l f k s1 rest st sy fu (de + 1) (fun x hx => ⟨h1 x hx, h2 x hx⟩) (by omega) (by omega) hs1 h200) fun m s2 hm hs2 => ?_
    refine Rr.ok ?_ hs2.leave
    unfold Se
    rw [er_mk, er_mk, hm]
    rfl
  | lett => exact absurd ho (by simp [opn])
  | set => exact absurd ho (by simp [opn])
  | setf => exact absurd ho (by simp [opn])
  | if2 => exact absurd ho (by simp [opn])
  | if3 => exact absurd ho (by simp [opn])
  | loop h1 => exact absurd ho (by rcases h1 with rfl | rfl <;> simp [opn])
  | emit => exact absurd ho (by simp [opn])
  | spawn => exact absurd ho (by simp [opn])
  | add => exact absurd ho (by simp [opn])
  | remove => exact absurd ho (by simp [opn])
  | leaf h1 => exact absurd ho (by rcases h1 with rfl | rfl <;> simp [opn])
  | ret => exact absurd ho (by simp [opn])
theorem stmts_c {ws : List ByteArray} (hw : Wsok ws) {n : Nat} (I : AllC ws n) : ∀ d acc l f k s rest st sy fu de, (∀ x ∈ l, OkS ws d x ∧ 10 ≤ opn x ∧ opn x ≤ 22) → de + d ≤ 20 → 2 * szs l + 1 ≤ f → At s (tks ((l.map fun s => [tab (k + 1)] ++ pSt f s (k + 1) ++ [nl]).flatten) ++ sg cRb :: rest) st sy fu de → st + cnts l ≤ 200 → Rr (fun m => ers m = ers acc ++ ers l) rest (st + cnts l) sy fu de (Yn.stmts ws (n + 1) acc s) := by
  intro d acc l f k s rest st sy fu de hl hd20 hf h h200
  rw [Yn.stmts]
  cases l with
  | nil =>
    have h' : At s (sg cRb :: rest) st sy fu de := h
    rw [isAt_sg h', if_pos rfl, cnts]
    exact Rr.ok (by rw [ers, List.append_nil]) h'.cons.2.2
  | cons x r =>
    have e1 : tks (((x :: r).map fun s => [tab (k + 1)] ++ pSt f s (k + 1) ++ [nl]).flatten) ++ sg cRb :: rest = tks (pSt f x (k + 1)) ++ (tks ((r.map fun s => [tab (k + 1)] ++ pSt f s (k + 1) ++ [nl]).flatten) ++ sg cRb :: rest) := by
      simp only [List.map_cons, List.flatten_cons, tks_app, tks_tab, tks_nl, List.append_assoc, List.cons_append, List.nil_append]
    rw [e1] at h
    rw [szs] at hf
    rw [cnts] at h200 ⊢
    obtain ⟨hx1, hx2⟩ := hl x (List.mem_cons_self ..)
    obtain ⟨y, q, e2, hy1, hy2⟩ := pSt_hd hw (k := k + 1) (f := f) hx1 hx2 (by omega)
    have hne : hdT (tks (pSt f x (k + 1)) ++ (tks ((r.map fun s => [tab (k + 1)] ++ pSt f s (k + 1) ++ [nl]).flatten) ++ sg cRb :: rest)) ≠ cRb := by
      rw [e2]
      exact hy2
    rw [isAt_at h hne, if_neg (by decide)]
    have hel : hdT (tks ((r.map fun s => [tab (k + 1)] ++ pSt f s (k + 1) ++ [nl]).flatten) ++ sg cRb :: rest) ≠ wElse := by
      cases r with
      | nil => exact (show cRb ≠ wElse by decide)
      | cons z r =>
        obtain ⟨hz1, hz2⟩ := hl z (List.mem_cons_of_mem _ (List.mem_cons_self ..))
        rw [szs] at hf
        obtain ⟨y', q', e3, hy3, -⟩ := pSt_hd hw (k := k + 1) (f := f) hz1 hz2 (by omega)
        have e4 : tks (((z :: r).map fun s => [tab (k + 1)] ++ pSt f s (k + 1) ++ [nl]).flatten) = tks (pSt f z (k + 1)) ++ tks ((r.map fun s => [tab (k + 1)] ++ pSt f s (k + 1) ++ [nl]).flatten) := by
          simp only [List.map_cons, List.flatten_cons, tks_app, tks_tab, tks_nl, List.append_assoc, List.cons_append, List.nil_append]
        rw [e4, e3]
        exact hy3
    refine Rr.bind (I.stmt d x f (k + 1) s _ st sy fu de hx1 hx2 hd20 (by omega) h (by omega) hel) fun u s1 hu hs1 => ?_
    have := I.stmts d (acc ++ [u]) r f k s1 rest (st + cnt x) sy fu de (fun y hy => hl y (List.mem_cons_of_mem _ hy)) hd20 (by omega) hs1 (by omega)
    have e3 : ers (acc ++ [u]) ++ ers r = ers acc ++ ers (x :: r) := by
      unfold Se at hu
      rw [ers_app, ers_one, hu, ers, List.append_assoc]
      rfl
    rw [e3, Nat.add_assoc] at this
    exact this
theorem stmt_c {ws : List ByteArray} (hw : Wsok ws) {n : Nat} (I : AllC ws n) : ∀ d t f k s rest st sy fu de, OkS ws d t → (10 ≤ opn t ∧ opn t ≤ 22) → de + d ≤ 20 → 2 * sz t + 1 ≤ f → At s (tks (pSt f t k) ++ rest) st sy fu de → st + cnt t ≤ 200 → hdT rest ≠ wElse → Rr (Se t) rest (st + cnt t) sy fu de (Yn.stmt ws (n + 1) s) := by
  intro d t f k s rest st sy fu de ht ho hd20 hf h h200 hel
  obtain ⟨f, rfl⟩ : ∃ g, f = g + 1 := ⟨f - 1, by omega⟩
  have hst : s.st ≠ 200 := by
    have := h.st
    have : 1 ≤ cnt t := by
      obtain ⟨op, u, n, l, a⟩ := t
      have ho' : 10 ≤ op ∧ op ≤ 22 := ho
      rw [cnt_mk, if_pos ho']
      omega
    omega
  cases ht with
  | @lett d u x a h1 h2 =>
    have ec : cnt (.mk 10 u 0 [x] a) = 1 := by simp [cnt_mk, cnts, cnt_e h2.1]
    rw [ec]
    rw [pSt_simple (by decide)] at h
    have h' : At s (wd wLet :: wd u :: sg cEq :: (tks (pE x) ++ sg cSemi :: rest)) st sy fu de := by
      have e1 : tks (smP 10 u [x] ++ [sg cSemi]) ++ rest = wd wLet :: wd u :: sg cEq :: (tks (pE x) ++ sg cSemi :: rest) := by
        show tks (([wd wLet, bl, wd u, bl, sg cEq, bl] ++ pE x) ++ [sg cSemi]) ++ rest = _
        simp only [tks_app, tks_bl, tks_sg, tks_wd, tks_nil, List.append_assoc, List.cons_append, List.nil_append]
      rw [e1] at h
      exact h
    obtain ⟨g1, g2, g3⟩ := h'.up.cons
    rw [stmt_let hst (by rw [h'.cons.2.1]; decide)]
    refine Rr.bind (name_at h1.2 g3) fun v s1 hv hs1 => ?_
    refine Rr.bind (take_at rfl hs1) fun _ s2 _ hs2 => ?_
    refine Rr.bind (tail_at hw h2 hd20 hs2) fun z s3 hz hs3 => ?_
    refine Rr.ok ?_ hs3
    unfold Se at hz ⊢
    simp only [er_mk, ers, List.nil_append, hz, hv]
  | @set d u x a h1 h2 =>
    have ec : cnt (.mk 11 u 0 [x] a) = 1 := by simp [cnt_mk, cnts, cnt_e h2.1]
    rw [ec]
    rw [pSt_simple (by decide)] at h
    have h' : At s (wd u :: sg cEq :: (tks (pE x) ++ sg cSemi :: rest)) st sy fu de := by
      have e1 : tks (smP 11 u [x] ++ [sg cSemi]) ++ rest = wd u :: sg cEq :: (tks (pE x) ++ sg cSemi :: rest) := by
        show tks (([wd u, bl, sg cEq, bl] ++ pE x) ++ [sg cSemi]) ++ rest = _
        simp only [tks_app, tks_bl, tks_sg, tks_wd, tks_nil, List.append_assoc, List.cons_append, List.nil_append]
      rw [e1] at h
      exact h
    rw [stmt_set (by rw [h'.cons.2.1]; exact way_zero hw h1.2) (isName_at h1.2 h') hst]
    refine Rr.bind (name_at h1.2 h'.up) fun v s1 hv hs1 => ?_
    rw [isAt_at hs1 (show cEq ≠ cDot by decide), if_neg (by decide)]
    refine Rr.bind (take_at rfl hs1) fun _ s2 _ hs2 => ?_
    refine Rr.bind (tail_at hw h2 hd20 hs2) fun z s3 hz hs3 => ?_
    refine Rr.ok ?_ hs3
    unfold Se at hz ⊢
    simp only [er_mk, ers, List.nil_append, hz, hv]
  | @setf d u f1 x a h1 h2 h3 =>
    obtain ⟨w, b, rfl, hf1⟩ := h2
    have ec : cnt (.mk 12 u 0 [.mk 31 w 0 [] b, x] a) = 1 := by simp [cnt_mk, cnts, cnt_e h3.1]
    rw [ec]
    rw [pSt_simple (by decide)] at h
    have h' : At s (wd u :: sg cDot :: wd w :: sg cEq :: (tks (pE x) ++ sg cSemi :: rest)) st sy fu de := by
      have e1 : tks (smP 12 u [.mk 31 w 0 [] b, x] ++ [sg cSemi]) ++ rest = wd u :: sg cDot :: wd w :: sg cEq :: (tks (pE x) ++ sg cSemi :: rest) := by
        show tks (([wd u, sg cDot, wd w, bl, sg cEq, bl] ++ pE x) ++ [sg cSemi]) ++ rest = _
        simp only [tks_app, tks_bl, tks_sg, tks_wd, tks_nil, List.append_assoc, List.cons_append, List.nil_append]
      rw [e1] at h
      exact h
    rw [stmt_set (by rw [h'.cons.2.1]; exact way_zero hw h1.2) (isName_at h1.2 h') hst]
    refine Rr.bind (name_at h1.2 h'.up) fun v s1 hv hs1 => ?_
    rw [isAt_sg hs1, if_pos rfl]
    refine Rr.bind (nameNode_at hf1.2 hs1.cons.2.2) fun g s2 hg hs2 => ?_
    obtain ⟨c, rfl⟩ := hg
    refine Rr.bind (take_at rfl hs2) fun _ s3 _ hs3 => ?_
    refine Rr.bind (tail_at hw h3 hd20 hs3) fun z s4 hz hs4 => ?_
    refine Rr.ok ?_ hs4
    unfold Se at hz ⊢
    simp only [er_mk, ers, List.nil_append, List.cons_append, hz, hv]
  | @if2 d c b a h1 h2 h3 =>
    have ec : cnt (.mk 13 (bs []) 0 [c, b] a) = 1 + cnt b := by simp [cnt_mk, cnts, cnt_e h1.1]
    rw [ec] at h200 ⊢
    simp only [sz_mk, szs] at hf
    obtain ⟨f, rfl⟩ : ∃ g, f = g + 1 := ⟨f - 1, by omega⟩
    rw [pSt_if, pBr_two] at h
    obtain ⟨q, eq⟩ := pBk_hd (k := k) (f := f) h2 h3 (by omega) rest
    have e1 : tks ([wd wIf, bl] ++ pE c ++ pBk f b k) ++ rest = wd wIf :: (tks (pE c) ++ (tks (pBk f b k) ++ rest)) := by
      simp only [tks_app, tks_bl, tks_wd, List.append_assoc, List.cons_append, List.nil_append]
    rw [e1] at h
    obtain ⟨g1, g2, g3⟩ := h.up.cons
    rw [stmt_if hst (by rw [h.cons.2.1]; decide)]
    rw [eq] at g3
    refine Rr.bind (ex_at hw h1 hd20 g3 (by decide)) fun z s1 hz hs1 => ?_
    rw [← eq] at hs1
    refine Rr.bind (I.block d b f k s1 rest (st + 1) sy fu de h2 h3 hd20 (by omega) hs1 (by omega)) fun y s2 hy hs2 => ?_
    rw [isAt_at hs2 hel, if_neg (by decide)]
    refine Rr.ok ?_ (by rw [← Nat.add_assoc]; exact hs2)
    unfold Se at hz hy ⊢
    simp only [er_mk, ers, List.nil_append, hz, hy]
  | @if3 d c b x a h1 h2 h3 h4 h5 =>
    have ec : cnt (.mk 13 (bs []) 0 [c, b, x] a) = 1 + (cnt b + cnt x) := by simp [cnt_mk, cnts, cnt_e h1.1]
    rw [ec] at h200 ⊢
    simp only [sz_mk, szs] at hf
    obtain ⟨f, rfl⟩ : ∃ g, f = g + 1 := ⟨f - 1, by omega⟩
    rw [pSt_if, pBr_three] at h
    have e1 : tks ([wd wIf, bl] ++ pE c ++ pBk f b k ++ ([bl, wd wElse] ++ (if opn x = 13 then [bl] ++ pBr f x k else pBk f x k))) ++ rest = wd wIf :: (tks (pE c) ++ (tks (pBk f b k) ++ (wd wElse :: (tks (if opn x = 13 then pBr f x k else pBk f x k) ++ rest)))) := by
      split <;> simp only [tks_app, tks_bl, tks_wd, List.append_assoc, List.cons_append, List.nil_append]
    rw [e1] at h
    obtain ⟨q, eq⟩ := pBk_hd (k := k) (f := f) h2 h3 (by omega) (wd wElse :: (tks (if opn x = 13 then pBr f x k else pBk f x k) ++ rest))
    obtain ⟨g1, g2, g3⟩ := h.up.cons
    rw [stmt_if hst (by rw [h.cons.2.1]; decide)]
    rw [eq] at g3
    refine Rr.bind (ex_at hw h1 hd20 g3 (by decide)) fun z s1 hz hs1 => ?_
    rw [← eq] at hs1
    refine Rr.bind (I.block d b f k s1 _ (st + 1) sy fu de h2 h3 hd20 (by omega) hs1 (by omega)) fun y s2 hy hs2 => ?_
    rw [isAt_wd hs2, if_pos rfl]
    have g4 := hs2.cons.2.2
    have key : Rr (Se x) rest (st + 1 + cnt b + cnt x) sy fu de (if isAt (nx s2) wIf then Yn.stmt ws n (nx s2) else Yn.block ws n (nx s2)) := by
      by_cases h13 : opn x = 13
      · rw [if_pos h13] at g4
        obtain ⟨op, t, m, l, a1⟩ := x
        obtain rfl : op = 13 := h13
        have g5 : At (nx s2) (tks (pSt (f + 1) (.mk 13 t m l a1) k) ++ rest) (st + 1 + cnt b) sy fu de := by rw [pSt_if]; exact g4
        have hi : isAt (nx s2) wIf = true := by
          have g6 := g5
          cases h4 with
          | if2 j1 j2 j3 =>
            simp only [sz_mk, szs] at hf
            obtain ⟨f, rfl⟩ : ∃ g, f = g + 1 := ⟨f - 1, by omega⟩
            rw [pSt_if, pBr_two] at g6
            exact isAt_is (y := wd wIf) rfl g6
          | if3 j1 j2 j3 j4 j5 =>
            simp only [sz_mk, szs] at hf
            obtain ⟨f, rfl⟩ : ∃ g, f = g + 1 := ⟨f - 1, by omega⟩
            rw [pSt_if, pBr_three] at g6
            exact isAt_is (y := wd wIf) rfl g6
          | loop j1 => omega
          | leaf j1 => omega
        rw [hi, if_pos rfl]
        exact I.stmt d _ (f + 1) k (nx s2) rest (st + 1 + cnt b) sy fu de h4 (by simp [opn]) hd20 (by omega) g5 (by omega) hel
      · rw [if_neg h13] at g4
        have h5' : opn x = 5 := h5.resolve_right h13
        obtain ⟨q2, eq2⟩ := pBk_hd (k := k) (f := f) h4 h5' (by omega) rest
        have hi : isAt (nx s2) wIf = false := by
          have g6 := g4
          rw [eq2] at g6
          exact isAt_at g6 (show cLb ≠ wIf by decide)
        rw [hi, if_neg (by decide)]
        exact I.block d x f k (nx s2) rest (st + 1 + cnt b) sy fu de h4 h5' hd20 (by omega) g4 (by omega)
    refine Rr.bind key fun v s3 hv hs3 => ?_
    refine Rr.ok ?_ (by rw [← Nat.add_assoc, ← Nat.add_assoc]; exact hs3)
    unfold Se at hz hy hv ⊢
    simp only [er_mk, ers, List.nil_append, List.cons_append, hz, hy, hv]
  | @loop d op c b a h0 h1 h2 h3 =>
    have ec : cnt (.mk op (bs []) 0 [c, b] a) = 1 + cnt b := by
      have : 10 ≤ op ∧ op ≤ 22 := ho
      simp [cnt_mk, cnts, cnt_e h1.1, this.1, this.2]
    rw [ec] at h200 ⊢
    simp only [sz_mk, szs] at hf
    rw [pSt_loop h0] at h
    obtain ⟨q, eq⟩ := pBk_hd (k := k) (f := f) h2 h3 (by omega) rest
    have e1 : tks ([wd (if op = 14 then wWhile else wRepeat), bl] ++ pE c ++ pBk f b k) ++ rest = wd (if op = 14 then wWhile else wRepeat) :: (tks (pE c) ++ (tks (pBk f b k) ++ rest)) := by
      simp only [tks_app, tks_bl, tks_wd, List.append_assoc, List.cons_append, List.nil_append]
    rw [e1] at h
    obtain ⟨g1, g2, g3⟩ := h.up.cons
    rw [eq] at g3
    have key : Rr (Se (.mk op (bs []) 0 [c, b] a)) rest (st + (1 + cnt b)) sy fu de ((Yn.cond ws n (nx (up s))).bind fun c s1 => (Yn.block ws n s1).bind fun b s2 => .ok (.mk op (bs []) 0 ([] ++ [c, b]) (hd s).a) s2) := by
      refine Rr.bind (ex_at hw h1 hd20 g3 (by decide)) fun z s1 hz hs1 => ?_
      rw [← eq] at hs1
      refine Rr.bind (I.block d b f k s1 rest (st + 1) sy fu de h2 h3 hd20 (by omega) hs1 (by omega)) fun y s2 hy hs2 => ?_
      refine Rr.ok ?_ (by rw [← Nat.add_assoc]; exact hs2)
      unfold Se at hz hy ⊢
      simp only [er_mk, ers, List.nil_append, hz, hy]
    rcases h0 with rfl | rfl
    · rw [stmt_while hst (by rw [h.cons.2.1]; decide)]
      exact key
    · rw [stmt_repeat hst (by rw [h.cons.2.1]; decide)]
      exact key
  | @emit d x y a h1 h2 =>
    have ec : cnt (.mk 16 (bs []) 0 [x, y] a) = 1 := by simp [cnt_mk, cnts, cnt_e h1.1, cnt_e h2.1]
    rw [ec]
    rw [pSt_simple (by decide)] at h
    have h' : At s (wd wEmit :: (tks (pE x) ++ sg cCom :: (tks (pE y) ++ sg cSemi :: rest))) st sy fu de := by
      have e1 : tks (smP 16 (bs []) [x, y] ++ [sg cSemi]) ++ rest = wd wEmit :: (tks (pE x) ++ sg cCom :: (tks (pE y) ++ sg cSemi :: rest)) := by
        show tks (([wd wEmit, bl] ++ comP (pEs [x, y])) ++ [sg cSemi]) ++ rest = _
        simp only [pEs, comP, comR, tks_app, tks_bl, tks_sg, tks_wd, tks_nil, List.append_assoc, List.cons_append, List.nil_append]
      rw [e1] at h
      exact h
    obtain ⟨g1, g2, g3⟩ := h'.up.cons
    rw [stmt_emit hst (by rw [h'.cons.2.1]; decide)]
    refine Rr.bind (ex_at hw h1 hd20 g3 (by decide)) fun z s1 hz hs1 => ?_
    refine Rr.bind (take_at rfl hs1) fun _ s2 _ hs2 => ?_
    refine Rr.bind (tail_at hw h2 hd20 hs2) fun v s3 hv hs3 => ?_
    refine Rr.ok ?_ hs3
    unfold Se at hz hv ⊢
    simp only [er_mk, ers, List.nil_append, List.cons_append, hz, hv]
  | @spawn d l a h1 =>
    have ec : cnt (.mk 17 (bs []) 0 l a) = 1 := by simp [cnt_mk, cnts_zero fun x hx => cnt_p (h1 x hx)]
    rw [ec]
    rw [pSt_simple (by decide)] at h
    have h' : At s (wd wSpawn :: (tks (comP (l.map pP)) ++ sg cSemi :: rest)) st sy fu de := by
      have e1 : tks (smP 17 (bs []) l ++ [sg cSemi]) ++ rest = wd wSpawn :: (tks (comP (l.map pP)) ++ sg cSemi :: rest) := by
        show tks (([wd wSpawn] ++ ((if l.length = 0 then [] else [bl]) ++ comP (l.map pP))) ++ [sg cSemi]) ++ rest = _
        split <;> simp only [tks_app, tks_bl, tks_sg, tks_wd, tks_nil, List.append_assoc, List.cons_append, List.nil_append]
      rw [e1] at h
      exact h
    obtain ⟨g1, g2, g3⟩ := h'.up.cons
    rw [stmt_spawn hst (by rw [h'.cons.2.1]; decide)]
    refine Rr.bind (P := fun m => ers m = ers l) (l := sg cSemi :: rest) (st := st + 1) (sy := sy) (fu := fu) (de := de) ?_ fun m s1 hm hs1 => ?_
    · unfold listS
      cases l with
      | nil =>
        have g3' : At (nx (up s)) (sg cSemi :: rest) (st + 1) sy fu de := g3
        rw [isAt_sg g3', if_pos rfl]
        exact Rr.ok rfl g3'
      | cons x r =>
        rw [List.map_cons, comP, tks_app, List.append_assoc] at g3
        have hne : hdT (tks (pP x) ++ (tks (comR (r.map pP)) ++ sg cSemi :: rest)) ≠ cSemi := by
          obtain ⟨e, t, l, a, rfl, rfl, ht, hl⟩ := h1 x (List.mem_cons_self ..)
          exact wrd_ne ht.1 59 (by decide)
        rw [isAt_at g3 hne, if_neg (by decide)]
        refine Rr.bind (part_at hw (h1 x (List.mem_cons_self ..)) hd20 g3) fun u s4 hu hs4 => ?_
        have := parts_at hw n d [u] r s4 rest (st + 1) sy fu de (fun v hv => h1 v (List.mem_cons_of_mem _ hv)) hd20 hs4
        have e3 : ers [u] ++ ers r = ers (x :: r) := by
          unfold Se at hu
          rw [ers_one, hu, ers]
          rfl
        rw [e3, parts_items] at this
        exact this
    · refine Rr.bind (take_at rfl hs1) fun _ s2 _ hs2 => ?_
      refine Rr.ok ?_ hs2
      unfold Se
      simp only [er_mk, hm]
  | @add d p a h1 =>
    have ec : cnt (.mk 18 (bs []) 0 [p] a) = 1 := by simp [cnt_mk, cnts, cnt_p h1]
    rw [ec]
    rw [pSt_simple (by decide)] at h
    have h' : At s (wd wAdd :: (tks (pP p) ++ sg cSemi :: rest)) st sy fu de := by
      have e1 : tks (smP 18 (bs []) [p] ++ [sg cSemi]) ++ rest = wd wAdd :: (tks (pP p) ++ sg cSemi :: rest) := by
        show tks (([wd wAdd] ++ ([bl] ++ comP ([p].map pP))) ++ [sg cSemi]) ++ rest = _
        simp only [List.map_cons, List.map_nil, comP, comR, tks_app, tks_bl, tks_sg, tks_wd, tks_nil, List.append_assoc, List.cons_append, List.nil_append]
      rw [e1] at h
      exact h
    obtain ⟨g1, g2, g3⟩ := h'.up.cons
    rw [stmt_add hst (by rw [h'.cons.2.1]; decide)]
    refine Rr.bind (part_at hw h1 hd20 g3) fun u s1 hu hs1 => ?_
    refine Rr.bind (take_at rfl hs1) fun _ s2 _ hs2 => ?_
    refine Rr.ok ?_ hs2
    unfold Se at hu ⊢
    simp only [er_mk, ers, List.nil_append, hu]
  | @remove d u a h1 =>
    have ec : cnt (.mk 19 u 0 [] a) = 1 := by simp [cnt_mk, cnts]
    rw [ec]
    rw [pSt_simple (by decide)] at h
    have h' : At s (wd wRemove :: wd u :: sg cSemi :: rest) st sy fu de := h
    obtain ⟨g1, g2, g3⟩ := h'.up.cons
    rw [stmt_remove hst (by rw [h'.cons.2.1]; decide)]
    refine Rr.bind (name_at h1.2 g3) fun v s1 hv hs1 => ?_
    refine Rr.bind (take_at rfl hs1) fun _ s2 _ hs2 => ?_
    refine Rr.ok ?_ hs2
    unfold Se
    simp only [er_mk, hv]
  | @leaf d op a h1 =>
    rcases h1 with rfl | rfl
    · have ec : cnt (.mk 20 (bs []) 0 [] a) = 1 := by simp [cnt_mk, cnts]
      rw [ec]
      rw [pSt_simple (by decide)] at h
      have h' : At s (wd wDie :: sg cSemi :: rest) st sy fu de := h
      obtain ⟨g1, g2, g3⟩ := h'.up.cons
      rw [stmt_die hst (by rw [h'.cons.2.1]; decide)]
      refine Rr.bind (take_at rfl g3) fun _ s2 _ hs2 => ?_
      exact Rr.ok rfl hs2
    · have ec : cnt (.mk 21 (bs []) 0 [] a) = 1 := by simp [cnt_mk, cnts]
      rw [ec]
      rw [pSt_simple (by decide)] at h
      have h' : At s (wd wStop :: sg cSemi :: rest) st sy fu de := h
      obtain ⟨g1, g2, g3⟩ := h'.up.cons
      rw [stmt_stop hst (by rw [h'.cons.2.1]; decide)]
      refine Rr.bind (take_at rfl g3) fun _ s2 _ hs2 => ?_
      exact Rr.ok rfl hs2
  | @ret d x a h1 =>
    have ec : cnt (.mk 22 (bs []) 0 [x] a) = 1 := by simp [cnt_mk, cnts, cnt_e h1.1]
    rw [ec]
    rw [pSt_simple (by decide)] at h
    have h' : At s (wd wReturn :: (tks (pE x) ++ sg cSemi :: rest)) st sy fu de := by
      have e1 : tks (smP 22 (bs []) [x] ++ [sg cSemi]) ++ rest = wd wReturn :: (tks (pE x) ++ sg cSemi :: rest) := by
        show tks (([wd wReturn, bl] ++ pE x) ++ [sg cSemi]) ++ rest = _
        simp only [tks_app, tks_bl, tks_sg, tks_wd, tks_nil, List.append_assoc, List.cons_append, List.nil_append]
      rw [e1] at h
      exact h
    obtain ⟨g1, g2, g3⟩ := h'.up.cons
    rw [stmt_return hst (by rw [h'.cons.2.1]; decide)]
    refine Rr.bind (tail_at hw h1 hd20 g3) fun z s1 hz hs1 => ?_
    refine Rr.ok ?_ hs1
    unfold Se at hz ⊢
    simp only [er_mk, ers, List.nil_append, hz]
  | block => exact absurd ho (by simp [opn])
theorem allC {ws : List ByteArray} (hw : Wsok ws) : ∀ n, AllC ws n
  | 0 => allC_zero ws
  | n + 1 => have I := allC hw n; ⟨stmt_c hw I, block_c I, stmts_c hw I⟩
end Go.Proofs.YtmfoehaeejhlpaaGreatDoor.Yn
