import Derived.Test.YtmfoehaeejhlpaaGreatDoorProg
import Derived.WalkKit
import Derived.WalkSpells
import Derived.WalkLawsBesides
import Derived.Laws.CopyOwn
import Derived.Laws.AppendOwnNone
import Derived.Maps.AppendAt
import Derived.Laws.OwnMore
import Derived.Below
import Derived.RowKit
import Derived.Deep.DeepCutAuto
import Derived.Deep.RegionWith
import Derived.Deep.RegionLaw
import Derived.Deep.RegionHeld3
import Derived.Deep.QuietTactic
import Derived.Deep.CutBlock
import Derived.Deep.AppendLies
import Derived.BigQuiet
import Derived.BigRegion
import Derived.OrdersHeld
import Derived.Recover
/-
  What changes, and what stays: what all texts of this seat share.
-/
namespace Go.Proofs.YtmfoehaeejhlpaaGreatDoor
open Go.RowKit
set_option maxRecDepth 100000
theorem hide {p : Prop} (h : p) : Hid p := h
/-! ### What changes -/
theorem grown_later {w w' : World} (h : Below w.heap.size w w') : w.grownBy w' none := ⟨h.os, h.tape, h.output, h.size, fun k hk _ => h.block k hk⟩
theorem grown_set (w : World) (g k : Nat) (u : Value) : w.grownBy (w.setCell ⟨g, k, none⟩ u) (some g) :=
  ⟨rfl, rfl, rfl, by simp, fun q _ hq => heap_setCell_other w ⟨g, k, none⟩ q u (fun e => hq (by rw [e]))⟩
theorem lt_of_block {w : World} {g : Nat} {o : Obj} (h : w.heap[g]? = some o) : g < w.heap.size := (Array.getElem?_eq_some_iff.1 h).1
theorem below_drawn (w : World) : ∀ n, Below w.heap.size w (w.drewN n)
  | 0 => Below.refl _ _
  | n + 1 => by
    have := below_drawn w n
    simpa using this.drew
theorem below_drew (w : World) : Below w.heap.size w w.drew := (Below.refl _ w).drew
theorem below_alloc (w : World) (o : Obj) : Below w.heap.size w (w.alloc o) := (Below.refl _ w).alloc (Nat.le_refl _) o
theorem below_on {w0 w w' : World} (h : Below w0.heap.size w0 w) (k : Below w.heap.size w w') : Below w0.heap.size w0 w' := h.trans (k.mono h.size)
/-- But for some blocks all that was there is as it was. -/
def Mv (w w' : World) (S : Nat → Prop) : Prop := w'.os = w.os ∧ w'.tape = w.tape ∧ w'.output = w.output ∧ w.heap.size ≤ w'.heap.size ∧ ∀ k, k < w.heap.size → ¬ S k → w'.heap[k]? = w.heap[k]?
section
variable {w w' w2 : World} {S S' : Nat → Prop}
theorem Mv.refl (w : World) (S : Nat → Prop) : Mv w w S := ⟨rfl, rfl, rfl, Nat.le_refl _, fun _ _ _ => rfl⟩
theorem Mv.size (h : Mv w w' S) : w.heap.size ≤ w'.heap.size := h.2.2.2.1
theorem Mv.trans (h : Mv w w' S) (k : Mv w' w2 S') (hs : ∀ k, k < w.heap.size → S' k → S k) : Mv w w2 S :=
  ⟨k.1.trans h.1, k.2.1.trans h.2.1, k.2.2.1.trans h.2.2.1, Nat.le_trans h.2.2.2.1 k.2.2.2.1, fun q hq hn => (k.2.2.2.2 q (Nat.lt_of_lt_of_le hq h.2.2.2.1) (fun e => hn (hs q hq e))).trans (h.2.2.2.2 q hq hn)⟩
theorem Mv.grown {row : Option Nat} (h : Mv w w' S) (hg : w'.grownBy w2 row) (hr : ∀ k, k < w.heap.size → row = some k → S k) : Mv w w2 S :=
  ⟨hg.1.trans h.1, hg.2.trans h.2.1, hg.3.trans h.2.2.1, Nat.le_trans h.2.2.2.1 hg.size, fun k hk h1 => (hg.block k (Nat.lt_of_lt_of_le hk h.2.2.2.1) (fun e => h1 (hr k hk e.symm))).trans (h.2.2.2.2 k hk h1)⟩
theorem Mv.alloc (h : Mv w w' S) (o : Obj) : Mv w (w'.alloc o) S := h.grown (World.grownBy_alloc w' o none) (fun _ _ e => by cases e)
theorem Mv.set (h : Mv w w' S) {g : Nat} (hg : S g) (k : Nat) (u : Value) : Mv w (w'.setCell ⟨g, k, none⟩ u) S := h.grown (grown_set w' g k u) (fun q _ e => by cases e; exact hg)
theorem Mv.later (h : Mv w w' S) (hb : Below w'.heap.size w' w2) : Mv w w2 S := h.grown (grown_later hb) (fun _ _ e => by cases e)
theorem Mv.mono (h : Mv w w' S) (hs : ∀ k, k < w.heap.size → S k → S' k) : Mv w w' S' := ⟨h.1, h.2.1, h.2.2.1, h.2.2.2.1, fun k hk hn => h.2.2.2.2 k hk (fun e => hn (hs k hk e))⟩
theorem Mv.of_below (h : Below w.heap.size w w') (S : Nat → Prop) : Mv w w' S := (Mv.refl w S).later h
theorem Mv.own {v : Value} {B e s n : Nat} {xs : List Value} (h : Mv w w' S) (hv : w.ownsRow B e s v n xs) (h1 : ∀ k, v.ownBlock = some k → ¬ S k) : w'.ownsRow B e s v n xs := by
  refine ⟨hv.1, ?_⟩
  rcases hv.2 with h0 | ⟨g, cap, cur, rfl, hb, hg, hr⟩
  · exact .inl h0
  · exact .inr ⟨g, cap, cur, rfl, hb, (h.2.2.2.2 g (Array.getElem?_eq_some_iff.1 hg).1 (h1 g rfl)).trans hg, hr⟩
theorem Mv.at {g : Nat} {o : Obj} (h : Mv w w' S) (hg : w.heap[g]? = some o) (h1 : ¬ S g) : w'.heap[g]? = some o := (h.2.2.2.2 g (Array.getElem?_eq_some_iff.1 hg).1 h1).trans hg
theorem Mv.cell {a : Addr} {x : Value} (h : Mv w w' S) (hc : w.cell? a = some x) (h1 : ¬ S a.block) : w'.cell? a = some x :=
  (World.cell?_of_block (h.2.2.2.2 a.block (World.block_lt_of_cell? w a hc) h1)).trans hc
theorem Mv.below {B : Nat} (h : Mv w w' S) (hB : B ≤ w.heap.size) (hs : ∀ k, S k → B ≤ k) : Below B w w' :=
  ⟨h.1, h.2.1, h.2.2.1, h.2.2.2.1, fun k hk => h.2.2.2.2 k (Nat.lt_of_lt_of_le hk hB) (fun e => by have := hs k e; omega)⟩
end
/-- The blocks of S, and those that are new since w. -/
def Nw (w : World) (S : Nat → Prop) : Nat → Prop := fun k => S k ∨ w.heap.size ≤ k
theorem Nw.old {w : World} {S : Nat → Prop} {k : Nat} (h : S k) : Nw w S k := .inl h
def In (S : Nat → Prop) (v : Value) : Prop := ∀ k, v.ownBlock = some k → S k
theorem In.mono {S S' : Nat → Prop} {v : Value} (h : In S v) (hs : ∀ k, S k → S' k) : In S' v := fun k e => hs k (h k e)
theorem In.nil (S : Nat → Prop) : In S (.slice none 0 0) := fun k e => by simp [Value.ownBlock] at e
/-- Two values that lie in no block together. -/
def Ap (u v : Value) : Prop := ∀ g, u.ownBlock = some g → v.ownBlock = some g → False
theorem Ap.symm {u v : Value} (h : Ap u v) : Ap v u := fun g h1 h2 => h g h2 h1
theorem own_len {w : World} {B e s n : Nat} {v : Value} {xs : List Value} (h : w.ownsRow B e s v n xs) : ∃ ao c, v = .slice ao n c := by
  rcases h.2 with ⟨rfl, rfl⟩ | ⟨g, cap, cur, rfl, _⟩
  · exact ⟨_, _, rfl⟩
  · exact ⟨_, _, rfl⟩
theorem own_cap {w : World} {B e s n c : Nat} {ao : Option Addr} {xs : List Value} (h : w.ownsRow B e s (.slice ao n c) n xs) : n ≤ c ∧ c ≤ 9223372036854775807 := by
  rcases h.2 with ⟨e, h0⟩ | ⟨g, c', cur, e, _, _, h1, h2, _⟩
  · simp only [Value.slice.injEq] at e
    obtain ⟨_, _, rfl⟩ := e
    exact ⟨by omega, by omega⟩
  · simp only [Value.slice.injEq] at e
    obtain ⟨_, _, rfl⟩ := e
    unfold maxLen at h2
    exact ⟨h1, by omega⟩
theorem own_form {w : World} {B e s n : Nat} {v : Value} {xs : List Value} (h : w.ownsRow B e s v n xs) (h0 : 0 < n) : ∃ g c, v = .slice (some ⟨g, 0, none⟩) n c ∧ n ≤ c ∧ c ≤ 9223372036854775807 := by
  rcases h.2 with ⟨_, h'⟩ | ⟨g, c, cur, rfl, _, _, h1, h2, _⟩
  · omega
  · exact ⟨g, c, rfl, h1, by unfold maxLen at h2; omega⟩
theorem own_later {w w' : World} {B e s n : Nat} {v : Value} {xs : List Value} (h : w.ownsRow B e s v n xs) (hb : Below w.heap.size w w') : w'.ownsRow B e s v n xs :=
  h.kept (grown_later hb) (by cases v.ownBlock <;> simp)
theorem own_set {w : World} {B e s n g k : Nat} {v u : Value} {xs : List Value} (h : w.ownsRow B e s v n xs) (hne : v.ownBlock ≠ some g) : (w.setCell ⟨g, k, none⟩ u).ownsRow B e s v n xs :=
  h.kept (grown_set w g k u) (.inr hne)
end Go.Proofs.YtmfoehaeejhlpaaGreatDoor

/-
  The grammar, as plain functions: what Parse reads of tokens. No program in this text.
-/
namespace Go.Proofs.YtmfoehaeejhlpaaGreatDoor.Yn
set_option maxRecDepth 100000
structure Tok where
  k : Nat
  t : ByteArray
  a : Nat
structure S where
  ts : List Tok
  sy : Nat
  fu : Nat
  st : Nat
  de : Nat
inductive Tree | mk (op : Nat) (t : ByteArray) (n : Int) (l : List Tree) (a : Nat)
/-- What comes of reading: a thing and what is left; or a fault; or too little was given to go on. -/
inductive R (α : Type) | ok (x : α) (s : S) | no (a e : Nat) | out
def R.bind {α β : Type} (r : R α) (f : α → S → R β) : R β := match r with | .ok x s => f x s | .no a e => .no a e | .out => .out
def bs (l : List UInt8) : ByteArray := ⟨l.toArray⟩
def hd (s : S) : Tok := s.ts.headD ⟨0, bs [], 0⟩
def nx (s : S) : S := { s with ts := s.ts.tail }
def isAt (s : S) (x : ByteArray) : Bool := decide ((hd s).t = x)
def fail {α : Type} (s : S) (e : Nat) : R α := .no (hd s).a e
def take (x : ByteArray) (s : S) : R Tok := if isAt s x then .ok (hd s) (nx s) else fail s 100
def openS (x : ByteArray) (s : S) : R Unit := if isAt s x then (if s.de = 20 then fail s 101 else .ok () { nx s with de := s.de + 1 }) else fail s 100
def leave (s : S) : S := { s with de := s.de - 1 }
def inW (ws : List ByteArray) (t : ByteArray) : Bool := ws.any fun x => decide (x = t)
theorem inW_mem {ws : List ByteArray} {t : ByteArray} : inW ws t = true ↔ t ∈ ws := by
  unfold inW
  rw [List.any_eq_true]
  constructor
  · rintro ⟨x, hx, e⟩
    rw [decide_eq_true_eq] at e
    exact e ▸ hx
  · intro h
    exact ⟨t, h, decide_eq_true rfl⟩
variable (ws : List ByteArray)
def isName (s : S) : Bool := decide ((hd s).k = 1) && !(inW ws (hd s).t)
def needName (s : S) : R Unit := if isName ws s then .ok () s else fail s 100
def name (s : S) : R ByteArray := if isName ws s then .ok (hd s).t (nx s) else fail s 100
def nameNode (s : S) : R Tree := if isName ws s then .ok (.mk 31 (hd s).t 0 [] (hd s).a) (nx s) else fail s 100
def cCom := bs [44]
def cOpen := bs [40]
def cClose := bs [41]
def cLb := bs [123]
def cRb := bs [125]
def cSemi := bs [59]
def cCol := bs [58]
def cQu := bs [63]
def cDot := bs [46]
def cEq := bs [61]
def cMin := bs [45]
def cNot := bs [33]
def wTick := bs [116, 105, 99, 107]
def wMe := bs [109, 101]
def wHas := bs [104, 97, 115]
def wSystem := bs [115, 121, 115, 116, 101, 109]
def wFunc := bs [102, 117, 110, 99]
def wElse := bs [101, 108, 115, 101]
def wIf := bs [105, 102]
/-- One name at least, and no more than most. -/
def names : Nat → Nat → Nat → List Tree → S → R (List Tree)
  | 0, _, _, _, _ => .out
  | n + 1, most, sum, l, s => (needName ws s).bind fun _ s =>
    if sum = most then fail s 102 else (nameNode ws s).bind fun x s =>
    if isAt s cCom then names n most (sum + 1) (l ++ [x]) (nx s) else .ok (l ++ [x]) s
def binding (t : ByteArray) : Nat :=
  if t = bs [124, 124] then 1 else if t = bs [38, 38] then 2 else if t = bs [61, 61] ∨ t = bs [33, 61] then 3
  else if t = bs [60] ∨ t = bs [60, 61] ∨ t = bs [62] ∨ t = bs [62, 61] then 4 else if t = bs [43] ∨ t = bs [45] then 5 else if t = bs [42] ∨ t = bs [47] ∨ t = bs [37] then 6 else 0
def isBuiltIn (t : ByteArray) : Bool := decide (t = bs [114, 97, 110, 100] ∨ t = bs [105, 110, 112, 117, 116] ∨ t = bs [109, 105, 110] ∨ t = bs [109, 97, 120] ∨ t = bs [97, 98, 115])
def digits (t : ByteArray) : Int := t.data.toList.foldl (fun (a : Int) c => a * 10 + ((c.toNat : Int) - 48)) 0
mutual
def cond : Nat → S → R Tree
  | 0, _ => .out
  | n + 1, s => (binary n 1 s).bind fun first s =>
    if isAt s cQu then (openS cQu s).bind fun _ s1 => (cond n s1).bind fun second s2 => (take cCol s2).bind fun _ s3 => (cond n s3).bind fun third s4 => .ok (.mk 35 (bs []) 0 [first, second, third] (hd s).a) (leave s4)
    else .ok first s
def binary : Nat → Nat → S → R Tree
  | 0, _, _ => .out
  | n + 1, least, s => (unary n s).bind fun left s => binL n least left s
def binL : Nat → Nat → Tree → S → R Tree
  | 0, _, _, _ => .out
  | n + 1, least, left, s => if binding (hd s).t < least then .ok left s else (binary n (binding (hd s).t + 1) (nx s)).bind fun right s1 => binL n least (.mk 33 (hd s).t 0 [left, right] (hd s).a) s1
def unary : Nat → S → R Tree
  | 0, _ => .out
  | n + 1, s => if isAt s cMin || isAt s cNot then (openS (hd s).t s).bind fun _ s1 => (unary n s1).bind fun x s2 => .ok (.mk 34 (hd s).t 0 [x] (hd s).a) (leave s2)
    else primary n s
def primary : Nat → S → R Tree
  | 0, _ => .out
  | n + 1, s =>
    if isAt s cOpen then (openS cOpen s).bind fun _ s1 => (cond n s1).bind fun x s2 => (take cClose s2).bind fun _ s3 => .ok x (leave s3)
    else if (hd s).k = 2 then .ok (.mk 30 (bs []) (digits (hd s).t) [] (hd s).a) (nx s)
    else if isAt s wTick || isAt s wMe then .ok (.mk 38 (hd s).t 0 [] (hd s).a) (nx s)
    else if isAt s wHas then (take wHas s).bind fun _ s1 => (take cOpen s1).bind fun _ s2 => (name ws s2).bind fun t s3 => (take cClose s3).bind fun _ s4 => .ok (.mk 37 t 0 [] (hd s).a) s4
    else if isBuiltIn (hd s).t then (args n (nx s)).bind fun l s1 => .ok (.mk 36 (hd s).t 0 l (hd s).a) s1
    else (nameNode ws s).bind fun _ s1 =>
      if isAt s1 cOpen then (args n s1).bind fun l s2 => .ok (.mk 36 (hd s).t 0 l (hd s).a) s2
      else if isAt s1 cDot then (nameNode ws (nx s1)).bind fun f s2 => .ok (.mk 32 (hd s).t 0 [f] (hd s).a) s2
      else .ok (.mk 31 (hd s).t 0 [] (hd s).a) s1
def args : Nat → S → R (List Tree)
  | 0, _ => .out
  | n + 1, s => (openS cOpen s).bind fun _ s => (if isAt s cClose then .ok [] s else (cond n s).bind fun x s => conds n [x] s).bind fun l s => (take cClose s).bind fun _ s => .ok l (leave s)
def conds : Nat → List Tree → S → R (List Tree)
  | 0, _, _ => .out
  | n + 1, l, s => if isAt s cCom then (cond n (nx s)).bind fun x s => conds n (l ++ [x]) s else .ok l s
end
/-- A field of a part, with its value. -/
def field (n : Nat) (s : S) : R Tree := (name ws s).bind fun t s1 => (take cCol s1).bind fun _ s2 => (cond ws n s2).bind fun x s3 => .ok (.mk 24 t 0 [x] (hd s).a) s3
def fields : Nat → List Tree → S → R (List Tree)
  | 0, _, _ => .out
  | n + 1, l, s => if isAt s cCom then (field ws n (nx s)).bind fun x s => fields n (l ++ [x]) s else .ok l s
def part (n : Nat) (s : S) : R Tree := (name ws s).bind fun t s1 => (openS cLb s1).bind fun _ s2 => (if isAt s2 cRb then .ok [] s2 else (field ws n s2).bind fun x s => fields ws n [x] s).bind fun l s3 => (take cRb s3).bind fun _ s4 => .ok (.mk 23 t 0 l (hd s).a) (leave s4)
def parts : Nat → List Tree → S → R (List Tree)
  | 0, _, _ => .out
  | n + 1, l, s => if isAt s cCom then (part ws n (nx s)).bind fun x s => parts n (l ++ [x]) s else .ok l s
/-- The last expression of a statement, and its end. -/
def tail (n : Nat) (s : S) : R Tree := (cond ws n s).bind fun x s => (take cSemi s).bind fun _ s => .ok x s
def ways : List (ByteArray × Nat) := [(bs [108, 101, 116], 10), (wIf, 13), (bs [119, 104, 105, 108, 101], 14), (bs [114, 101, 112, 101, 97, 116], 15), (bs [101, 109, 105, 116], 16), (bs [115, 112, 97, 119, 110], 17), (bs [97, 100, 100], 18), (bs [114, 101, 109, 111, 118, 101], 19), (bs [100, 105, 101], 20), (bs [115, 116, 111, 112], 21), (bs [114, 101, 116, 117, 114, 110], 22)]
/-- Which statement begins with a word; 0: one that begins with a name. -/
def wayOf (t : ByteArray) : Nat := match ways.find? (fun p => decide (p.1 = t)) with | some p => p.2 | none => 0
mutual
def stmt : Nat → S → R Tree
  | 0, _ => .out
  | n + 1, s => (if wayOf (hd s).t = 0 then needName ws s else .ok () s).bind fun _ _ =>
    if s.st = 200 then fail s 102 else
    match wayOf (hd s).t with
    | 0 => (name ws { s with st := s.st + 1 }).bind fun t s1 =>
        (if isAt s1 cDot then (nameNode ws (nx s1)).bind fun f s2 => .ok [f] s2 else .ok [] s1).bind fun l s3 => (take cEq s3).bind fun _ s4 => (tail ws n s4).bind fun x s5 => .ok (.mk (if l.isEmpty then 11 else 12) t 0 (l ++ [x]) (hd s).a) s5
    | 10 => (name ws (nx { s with st := s.st + 1 })).bind fun t s1 => (take cEq s1).bind fun _ s2 => (tail ws n s2).bind fun x s3 => .ok (.mk 10 t 0 [x] (hd s).a) s3
    | 13 => (cond ws n (nx { s with st := s.st + 1 })).bind fun c s1 => (block n s1).bind fun b s2 =>
        if isAt s2 wElse then (if isAt (nx s2) wIf then stmt n (nx s2) else block n (nx s2)).bind fun x s3 => .ok (.mk 13 (bs []) 0 [c, b, x] (hd s).a) s3
        else .ok (.mk 13 (bs []) 0 [c, b] (hd s).a) s2
    | 16 => (cond ws n (nx { s with st := s.st + 1 })).bind fun x s1 => (take cCom s1).bind fun _ s2 => (tail ws n s2).bind fun y s3 => .ok (.mk 16 (bs []) 0 [x, y] (hd s).a) s3
    | 17 => (if isAt (nx s) cSemi then .ok [] (nx { s with st := s.st + 1 }) else (part ws n (nx { s with st := s.st + 1 })).bind fun x s => parts ws n [x] s).bind fun l s1 => (take cSemi s1).bind fun _ s2 => .ok (.mk 17 (bs []) 0 l (hd s).a) s2
    | 18 => (part ws n (nx { s with st := s.st + 1 })).bind fun x s1 => (take cSemi s1).bind fun _ s2 => .ok (.mk 18 (bs []) 0 [x] (hd s).a) s2
    | 19 => (name ws (nx { s with st := s.st + 1 })).bind fun t s1 => (take cSemi s1).bind fun _ s2 => .ok (.mk 19 t 0 [] (hd s).a) s2
    | 20 => (take cSemi (nx { s with st := s.st + 1 })).bind fun _ s1 => .ok (.mk 20 (bs []) 0 [] (hd s).a) s1
    | 21 => (take cSemi (nx { s with st := s.st + 1 })).bind fun _ s1 => .ok (.mk 21 (bs []) 0 [] (hd s).a) s1
    | 22 => (tail ws n (nx { s with st := s.st + 1 })).bind fun x s1 => .ok (.mk 22 (bs []) 0 [x] (hd s).a) s1
    | op => (cond ws n (nx { s with st := s.st + 1 })).bind fun c s1 => (block n s1).bind fun b s2 => .ok (.mk op (bs []) 0 [c, b] (hd s).a) s2
def block : Nat → S → R Tree
  | 0, _ => .out
  | n + 1, s => (openS cLb s).bind fun _ s1 => (stmts n [] s1).bind fun l s2 => .ok (.mk 5 (bs []) 0 l (hd s).a) (leave s2)
def stmts : Nat → List Tree → S → R (List Tree)
  | 0, _, _ => .out
  | n + 1, l, s => if isAt s cRb then .ok l (nx s) else (stmt n s).bind fun x s1 => stmts n (l ++ [x]) s1
end
end Go.Proofs.YtmfoehaeejhlpaaGreatDoor.Yn

/-
  The reader in memory: its tokens; now, isAt, next, fail.
-/
namespace Go.Proofs.YtmfoehaeejhlpaaGreatDoor
open Go.RowKit Yn
set_option maxRecDepth 100000
/-- Tokens that are read: one at least. -/
def Tks (W : World) (v : Value) (ts : List Tok) : Prop :=
  ∃ g o c, v = .slice (some ⟨g, o, none⟩) ts.length c ∧ ts.length ≤ c ∧ c ≤ maxLen ∧ ∀ i (h : i < ts.length), W.cell? ⟨g, o + i * 3, none⟩ = some (.int .i64 (ts[i].k : Int)) ∧ W.cell? ⟨g, o + i * 3 + 1, none⟩ = some (.string ts[i].t) ∧ W.cell? ⟨g, o + i * 3 + 2, none⟩ = some (.int .i64 (ts[i].a : Int))
def Wds (W : World) (v : Value) (ws : List ByteArray) : Prop :=
  ∃ g c, v = .slice (some ⟨g, 0, none⟩) ws.length c ∧ ws.length ≤ c ∧ c ≤ maxLen ∧ ∀ i (h : i < ws.length), W.cell? ⟨g, i, none⟩ = some (.string ws[i])
/-- A number's text: digits, no more than a word holds. -/
def Dg (t : ByteArray) : Prop := t ≠ bs [] ∧ t.size ≤ 9223372036854775806 ∧ (∀ c ∈ t.data.toList, 48 ≤ c.toNat ∧ c.toNat ≤ 57) ∧ digits t ≤ 9223372036854775807
/-- The end stands last, and nowhere else; a number is one. -/
def Gd (ts : List Tok) : Prop := ∃ l e, ts = l ++ [e] ∧ e.k = 0 ∧ e.t = bs [] ∧ ∀ t ∈ l, t.k ≠ 0 ∧ t.t ≠ bs [] ∧ (t.k = 2 → Dg t.t)
theorem Gd.num {ts : List Tok} (h : Gd ts) (hk : (ts.headD ⟨0, bs [], 0⟩).k = 2) : Dg (ts.headD ⟨0, bs [], 0⟩).t := by
  obtain ⟨l, e, rfl, h1, h2, h3⟩ := h
  cases l with
  | nil =>
    have hk' : e.k = 2 := hk
    omega
  | cons x l => exact (h3 x List.mem_cons_self).2.2 hk
theorem Gd.pos {ts : List Tok} (h : Gd ts) : 0 < ts.length := by
  obtain ⟨l, e, rfl, -⟩ := h
  simp
theorem Gd.next {ts : List Tok} (h : Gd ts) (hn : (ts.headD ⟨0, bs [], 0⟩).k ≠ 0 ∨ (ts.headD ⟨0, bs [], 0⟩).t ≠ bs []) : Gd ts.tail := by
  obtain ⟨l, e, rfl, h1, h2, h3⟩ := h
  cases l with
  | nil => rcases hn with hn | hn <;> simp [h1, h2] at hn
  | cons x l => exact ⟨l, e, rfl, h1, h2, fun t ht => h3 t (List.mem_cons_of_mem _ ht)⟩
def Rd (W : World) (B k : Nat) (ws : List ByteArray) (s : S) : Prop :=
  B ≤ k ∧ (s.sy ≤ 16 ∧ s.fu ≤ 16 ∧ s.st ≤ 200 ∧ s.de ≤ 20) ∧ Gd s.ts ∧ ∃ vt vw, W.heap[k]? = some (.cells #[vt, vw, .int .i64 (s.sy : Int), .int .i64 (s.fu : Int), .int .i64 (s.st : Int), .int .i64 (s.de : Int)] 60 (0, 0)) ∧ Tks W vt s.ts ∧ (∀ j, vt.ownBlock = some j → j < B) ∧ Wds W vw ws ∧ ∀ j, vw.ownBlock = some j → j < B
section
variable {W W' : World} {B k : Nat} {ws : List ByteArray} {s : S}
theorem Tks.mv {v : Value} {ts : List Tok} {X : Nat → Prop} (h : Tks W v ts) (hm : Mv W W' X) (hs : ∀ j, v.ownBlock = some j → ¬ X j) : Tks W' v ts := by
  obtain ⟨g, o, c, rfl, h1, h2, h3⟩ := h
  refine ⟨g, o, c, rfl, h1, h2, fun i hi => ?_⟩
  obtain ⟨a, b, d⟩ := h3 i hi
  exact ⟨hm.cell a (hs g rfl), hm.cell b (hs g rfl), hm.cell d (hs g rfl)⟩
theorem Wds.mv {v : Value} {X : Nat → Prop} (h : Wds W v ws) (hm : Mv W W' X) (hs : ∀ j, v.ownBlock = some j → ¬ X j) : Wds W' v ws := by
  obtain ⟨g, c, rfl, h1, h2, h3⟩ := h
  exact ⟨g, c, rfl, h1, h2, fun i hi => hm.cell (h3 i hi) (hs g rfl)⟩
theorem Rd.mv {X : Nat → Prop} (h : Rd W B k ws s) (hm : Mv W W' X) (hs : ∀ j, X j → B ≤ j ∧ j ≠ k) : Rd W' B k ws s := by
  obtain ⟨h1, h2, h3, vt, vw, h4, h5, h6, h7, h8⟩ := h
  refine ⟨h1, h2, h3, vt, vw, hm.at h4 (fun e => (hs k e).2 rfl), h5.mv hm (fun j e e2 => ?_), h6, h7.mv hm (fun j e e2 => ?_), h8⟩
  · have := (hs j e2).1
    have := h6 j e
    omega
  · have := (hs j e2).1
    have := h8 j e
    omega
theorem Rd.later (h : Rd W B k ws s) (hb : Below W.heap.size W W') : Rd W' B k ws s := h.mv (Mv.of_below hb (fun _ => False)) (fun _ e => e.elim)
theorem Rd.lt (h : Rd W B k ws s) : k < W.heap.size := by
  obtain ⟨h1, h2, h3, vt, vw, h4, -⟩ := h
  exact lt_of_block h4
def tokV (t : Tok) : Value := .agg #[.int .i64 (t.k : Int), .string t.t, .int .i64 (t.a : Int)]
theorem hd_at (h : 0 < s.ts.length) : hd s = s.ts[0] := by
  unfold hd
  rw [List.headD_eq_head?_getD, List.head?_eq_getElem?, List.getElem?_eq_getElem h, Option.getD_some]
theorem fld0 (x z : Int) (y : ByteArray) (w : World) : (Instr.field 73 (.agg #[.int .i64 x, .string y, .int .i64 z]) 0).run Tryz.prog w = .ok (.int .i64 x) w := by kernel_rfl
theorem fld1 (x z : Int) (y : ByteArray) (w : World) : (Instr.field 73 (.agg #[.int .i64 x, .string y, .int .i64 z]) 1).run Tryz.prog w = .ok (.string y) w := by kernel_rfl
theorem fld2 (x z : Int) (y : ByteArray) (w : World) : (Instr.field 73 (.agg #[.int .i64 x, .string y, .int .i64 z]) 2).run Tryz.prog w = .ok (.int .i64 z) w := by kernel_rfl
theorem und73 : (Tryz.prog.underlying 73).map (fun d => match d with | .struct _ | .array _ _ => true | _ => false) = some true := by kernel_rfl
theorem res_tok {fn : Func} {p : Tmp} (hr : fn.results = #[.cell p 73]) {tmps : Array Value} {W : World} {g : Nat} {t : Tok} (hp : tmps.getD p undef = .pointer (some ⟨g, 0, none⟩)) (hg : W.heap[g]? = some (.cells #[.int .i64 (t.k : Int), .string t.t, .int .i64 (t.a : Int)] 73 (0, 0))) : (results fn tmps).run Tryz.prog W = .ok (tokV t) W := by
  obtain ⟨d, hu, hd⟩ := Option.map_eq_some_iff.1 und73
  exact results_cell_row hr tmps W g 73 _ (0, 0) d hp hg hu (by cases d <;> first | rfl | cases hd) (by kernel_rfl)
set_option maxHeartbeats 1000000 in
theorem now_any (h : Rd W B k ws s) : Calls Tryz.prog 77 #[.pointer (some ⟨k, 0, none⟩)] W fun e W' => e = .returned (tokV (hd s)) ∧ Below W.heap.size W W' := by
  obtain ⟨h1, h2, h3, vt, vw, h4, ⟨g, o, c, rfl, h5, h6, h7⟩, -⟩ := h
  have hp := h3.pos
  rw [hd_at hp]
  obtain ⟨a, b, d⟩ := h7 0 hp
  simp only [Nat.zero_mul, Nat.add_zero] at a b d
  have hc : c ≤ 9223372036854775807 := by unfold maxLen at h6; omega
  have c0 : W.cell? ⟨k, 0, none⟩ = some (.slice (some ⟨g, o, none⟩) s.ts.length c) := by rw [cell_of_row W k _ _ 60 (0, 0) h4]; rfl
  have hkl := lt_of_block h4
  have hgl := World.block_lt_of_cell? W _ a
  have B0 := below_alloc W (.cells #[.int .i64 0, .string (bs []), .int .i64 0] 73)
  have t1 : (0 : Int) < (s.ts.length : Int) := by omega
  clear h4 h7 h3 h2
  generalize s.ts[0] = x at *
  generalize s.ts.length = n at *
  go_enter Tryz.func77, Tryz.ntmps77
  go_wp2_with fail
  refine bodyPost_ret (v := tokV x) ?_ rfl ⟨rfl, below_alloc W _⟩
  have hb : (W.alloc (.cells #[.int .i64 (x.k : Int), .string x.t, .int .i64 (x.a : Int)] 73)).heap[W.heap.size]? = some (.cells #[.int .i64 (x.k : Int), .string x.t, .int .i64 (x.a : Int)] 73 (0, 0)) := heap_alloc_new W _
  exact res_tok rfl rfl hb
theorem beq_list (a b : ByteArray) : (a.toList == b.toList) = decide (a = b) := by
  have h : a.toList = b.toList ↔ a = b := by
    constructor
    · intro h
      rw [ByteArray.toList_eq, ByteArray.toList_eq] at h
      exact ByteArray.ext (Array.toList_inj.1 h)
    · rintro rfl; rfl
  rw [Bool.eq_iff_iff, beq_iff_eq, decide_eq_true_eq]
  exact h
theorem ret_bool {a b : Bool} (h : a = b) : Ending.returned (.bool a) = .returned (.bool b) := by rw [h]
theorem isAt_any (h : Rd W B k ws s) (x : ByteArray) : Calls Tryz.prog 105 #[.pointer (some ⟨k, 0, none⟩), .string x] W fun e W' => e = .returned (.bool (isAt s x)) ∧ Below W.heap.size W W' := by
  have J := hide (now_any h)
  clear h
  unfold isAt
  generalize hd s = t at *
  unfold tokV at J
  have f1 := fld1
  go_enter Tryz.func105, Tryz.ntmps105
  go_wp2_with fail
  refine J.out.mono ?_
  rintro e w1 ⟨rfl, hb⟩
  have HB := hide hb
  clear hb J
  go_wp2_with fail
  go_ret
  exact ⟨ret_bool (beq_list _ _), HB.out⟩
/-- A fault is thrown. -/
def Pn (W : World) (k a er : Nat) (e : Ending) (W' : World) : Prop :=
  ∃ g, e = .panicked [{ v := .iface 61 (.pointer (some ⟨g, 0, none⟩)), recovered := false }] ∧ W.heap.size ≤ g ∧ W'.heap[g]? = some (.cells #[.int .i64 (a : Int), .int .i64 (er : Int)] 77 (0, 0)) ∧ Mv W W' (fun j => j = k)
theorem fail_any (h : Rd W B k ws s) (er : Nat) : Calls Tryz.prog 139 #[.pointer (some ⟨k, 0, none⟩), .int .i64 (er : Int)] W (Pn W k (hd s).a er) := by
  have J := hide (now_any h)
  clear h
  generalize hd s = t at *
  unfold tokV at J
  have f2 := fld2
  go_enter Tryz.func139, Tryz.ntmps139
  go_wp2_with fail
  refine J.out.mono ?_
  rintro e w1 ⟨rfl, hb⟩
  have HB := hide hb
  clear hb J
  go_wp2_with fail
  refine ⟨rfl, w1.heap.size, rfl, HB.out.size, heap_alloc_new w1 _, Mv.of_below (below_on HB.out (below_alloc w1 _)) _⟩
theorem Tks.next {g o c : Nat} {ts : List Tok} (h : Tks W (.slice (some ⟨g, o, none⟩) ts.length c) ts) (h2 : 2 ≤ ts.length) : Tks W (.slice (some ⟨g, o + 3, none⟩) (ts.length - 1) (c - 1)) ts.tail := by
  obtain ⟨g', o', c', e, h1, h2', h3⟩ := h
  simp only [Value.slice.injEq, Option.some.injEq, Addr.mk.injEq, and_true, true_and] at e
  obtain ⟨⟨rfl, rfl⟩, rfl⟩ := e
  refine ⟨g, o + 3, c - 1, by rw [List.length_tail], by rw [List.length_tail]; omega, by omega, fun i hi => ?_⟩
  rw [List.length_tail] at hi
  obtain ⟨a, b, d⟩ := h3 (i + 1) (by omega)
  rw [List.getElem_tail]
  rw [show o + 3 + i * 3 = o + (i + 1) * 3 by omega]
  exact ⟨a, b, d⟩
set_option maxHeartbeats 2000000 in
theorem next_any (h : Rd W B k ws s) (hn : (hd s).k ≠ 0 ∨ (hd s).t ≠ bs []) : Calls Tryz.prog 158 #[.pointer (some ⟨k, 0, none⟩)] W fun e W' => e = .returned (tokV (hd s)) ∧ Rd W' B k ws (nx s) ∧ Mv W W' (fun j => j = k) := by
  have B0 := below_alloc W (.cells #[.int .i64 0, .string ⟨#[]⟩, .int .i64 0] 73)
  have J := hide (now_any (h.later B0))
  have hg := h.2.2.1.next hn
  have hl2 : 2 ≤ s.ts.length := by
    have := hg.pos
    rw [List.length_tail] at this
    omega
  obtain ⟨h1, h2, h3, vt, vw, h4, hT, h8, h9, h10⟩ := h
  have HT := hide hT
  obtain ⟨g, o, c, rfl, h5, h6, -⟩ := hT
  have hgB := h8 g rfl
  have hkl := lt_of_block h4
  have HK := hide h4
  have hc : c ≤ 9223372036854775807 := by unfold maxLen at h6; omega
  have H9 := hide h9
  have H10 := hide h10
  have HG := hide hg
  have H2 := hide h2
  obtain ⟨n, hn'⟩ : ∃ n, n = s.ts.length := ⟨_, rfl⟩
  have HN := hide hn'
  have hn2 : ¬ (1 : Int) = (c : Int) := by omega
  have hn3 : (1 : Int) ≤ (n : Int) := by omega
  rw [← hn'] at HT HK hl2 h5
  obtain ⟨x, hx⟩ : ∃ x, x = hd s := ⟨_, rfl⟩
  rw [← hx] at J ⊢
  unfold tokV at J
  clear h8 h9 h10 hg hn hx hn' h4 h3 h2
  go_enter Tryz.func158, Tryz.ntmps158
  go_wp2_with fail
  refine J.out.mono ?_
  rintro e w1 ⟨rfl, hb1⟩
  obtain ⟨r0, hr0⟩ : ∃ r, r = W.heap.size := ⟨_, rfl⟩
  have hz1 := hb1.size
  have hz0 : (W.alloc (.cells #[.int .i64 0, .string ⟨#[]⟩, .int .i64 0] 73)).heap.size = W.heap.size + 1 := by simp
  rw [hz0] at hz1
  have hr1 : w1.heap[r0]? = some (.cells #[.int .i64 0, .string ⟨#[]⟩, .int .i64 0] 73 (0, 0)) := by
    rw [hr0]
    exact (hb1.block _ (by rw [hz0]; omega)).trans (heap_alloc_new W _)
  have hb01 : Below W.heap.size W w1 := below_on (below_alloc W _) hb1
  have hk1 := (hb01.block k hkl).trans HK.out
  obtain ⟨w2, hw2⟩ : ∃ X, X = w1.alloc (.cells #[.int .i64 (x.k : Int), .string x.t, .int .i64 (x.a : Int)] 73) := ⟨_, rfl⟩
  have hb2 : Below w1.heap.size w1 w2 := hw2 ▸ below_alloc w1 _
  have hk2 := (hb2.block k (lt_of_block hk1)).trans hk1
  have hr2 := (hb2.block r0 (lt_of_block hr1)).trans hr1
  have hx2 : w2.heap[w1.heap.size]? = some (.cells #[.int .i64 (x.k : Int), .string x.t, .int .i64 (x.a : Int)] 73 (0, 0)) := hw2 ▸ heap_alloc_new w1 _
  obtain ⟨kx, hkx⟩ : ∃ r, r = w1.heap.size := ⟨_, rfl⟩
  have c0 : w2.cell? ⟨k, 0, none⟩ = some (.slice (some ⟨g, o, none⟩) n c) := by rw [cell_of_row w2 k _ _ 60 (0, 0) hk2]; rfl
  have f0 : w2.frozen? ⟨k, 0, none⟩ = false := frozen_of_row w2 k 0 _ 60 hk2
  rw [← hkx] at hx2
  have HB2 := hide (below_on hb01 hb2)
  have hkr : k ≠ r0 := by omega
  have hkk : k ≠ kx := by omega
  have hrk : r0 ≠ kx := by omega
  have HR0 := hide hr0
  have hk3 := heap_setCell_same w2 k 0 _ 60 (.slice (some ⟨g, o + 3, none⟩) (n - 1) (c - 1)) hk2
  have hx3 : (w2.setCell ⟨k, 0, none⟩ (.slice (some ⟨g, o + 3, none⟩) (n - 1) (c - 1))).heap[kx]? = some (.cells #[.int .i64 (x.k : Int), .string x.t, .int .i64 (x.a : Int)] 73 (0, 0)) := (heap_setCell_other w2 ⟨k, 0, none⟩ kx _ (Ne.symm hkk)).trans hx2
  have hr3 : (w2.setCell ⟨k, 0, none⟩ (.slice (some ⟨g, o + 3, none⟩) (n - 1) (c - 1))).heap[r0]? = some (.cells #[.int .i64 0, .string ⟨#[]⟩, .int .i64 0] 73 (0, 0)) := (heap_setCell_other w2 ⟨k, 0, none⟩ r0 _ (Ne.symm hkr)).trans hr2
  obtain ⟨w3, hw3⟩ : ∃ X, X = w2.setCell ⟨k, 0, none⟩ (.slice (some ⟨g, o + 3, none⟩) (n - 1) (c - 1)) := ⟨_, rfl⟩
  have M3 : Hid (Mv W w3 (fun j => j = k)) := hw3 ▸ (Mv.of_below HB2.out (fun j => j = k)).set (g := k) rfl _ _
  rw [← hw3] at hk3 hx3 hr3
  have x0 : w3.cell? ⟨kx, 0, none⟩ = some (.int .i64 (x.k : Int)) := by rw [cell_of_row w3 kx _ _ 73 (0, 0) hx3]; rfl
  have x1 : w3.cell? ⟨kx, 1, none⟩ = some (.string x.t) := by rw [cell_of_row w3 kx _ _ 73 (0, 0) hx3]; rfl
  have x2 : w3.cell? ⟨kx, 2, none⟩ = some (.int .i64 (x.a : Int)) := by rw [cell_of_row w3 kx _ _ 73 (0, 0) hx3]; rfl
  have y0 : w3.cell? ⟨r0, 0, none⟩ = some (.int .i64 0) := by rw [cell_of_row w3 r0 _ _ 73 (0, 0) hr3]; rfl
  have y1 : w3.cell? ⟨r0, 1, none⟩ = some (.string ⟨#[]⟩) := by rw [cell_of_row w3 r0 _ _ 73 (0, 0) hr3]; rfl
  have y2 : w3.cell? ⟨r0, 2, none⟩ = some (.int .i64 0) := by rw [cell_of_row w3 r0 _ _ 73 (0, 0) hr3]; rfl
  have z : ∀ q, w3.frozen? ⟨r0, q, none⟩ = false := fun q => frozen_of_row w3 r0 q _ 73 hr3
  have HK3 := hide hk3
  have HR3 := hide hr3
  clear hb1 hb2 hb01 hz0 hz1 J HK hk1 hr1 hk2 hr2 hx2 hk3 hr3 hx3
  go_upto_region 2 with fail
  rw [← hw2, ← hkx, ← hr0]
  have HW3 := hide hw3
  clear hw2 hkx hr0 hw3
  go_upto_region 3 with fail
  rw [← HW3.out]
  clear c0 f0 HW3
  go_wp2_with fail
  have hR3 : Rd w3 B k ws (nx s) := by
    refine ⟨h1, H2.out, HG.out, _, vw, HK3.out, ?_, fun j e => by cases e; exact hgB, H9.out.mv M3.out (fun j e e2 => ?_), H10.out⟩
    · have h' : Tks w3 (.slice (some ⟨g, o, none⟩) s.ts.length c) s.ts := by
        have := HT.out.mv M3.out (fun j e e2 => by cases e; have : g = k := e2; omega)
        rwa [HN.out] at this
      have := Tks.next h' (by have := HN.out; omega)
      rwa [← HN.out] at this
    · have := H10.out j e
      omega
  have hm4 : Mv w3 (((w3.setCell ⟨r0, 0, none⟩ (.int .i64 (x.k : Int))).setCell ⟨r0, 1, none⟩ (.string x.t)).setCell ⟨r0, 2, none⟩ (.int .i64 (x.a : Int))) (fun j => j = r0) := (((Mv.refl w3 (fun j => j = r0)).set (g := r0) rfl _ _).set (g := r0) rfl _ _).set (g := r0) rfl _ _
  have hr4 : (((w3.setCell ⟨r0, 0, none⟩ (.int .i64 (x.k : Int))).setCell ⟨r0, 1, none⟩ (.string x.t)).setCell ⟨r0, 2, none⟩ (.int .i64 (x.a : Int))).heap[r0]? = some (.cells #[.int .i64 (x.k : Int), .string x.t, .int .i64 (x.a : Int)] 73 (0, 0)) := heap_setCell_same _ r0 2 _ 73 _ (heap_setCell_same _ r0 1 _ 73 _ (heap_setCell_same w3 r0 0 _ 73 _ HR3.out))
  refine bodyPost_ret (v := tokV x) (res_tok rfl rfl hr4) rfl ⟨rfl, hR3.mv hm4 (fun j e => ?_), M3.out.trans hm4 (fun j hj e => ?_)⟩
  · have := HR0.out
    omega
  · have := HR0.out
    omega
end
end Go.Proofs.YtmfoehaeejhlpaaGreatDoor
