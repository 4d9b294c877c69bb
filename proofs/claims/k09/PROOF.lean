import PyProof.Rows.All
import Wide.All
import OpenK.AllK
import Wide.FinOn
import HandS.ForMost
import HandS.ForExc
import HandS.IsInst
import HandS.Flow
import HandS.StrMore
import HandS.TryMany
import HandS.ExcInit
import HandS.Wide
import HandS.WideBits
import HandS.TupAny
import HandS.Style
import HandS.Small
import HandS.Replace
import HandS.Deep
import PyProof.Draws
import PyProof.ReprRoads
import PyProof.StrBlock2
import KE.DataMinKey
import PyProof.WalkInts
import HandS.ReplaceLit
import HandS.ReplaceList
import HandS.ExcField
import HandS.ExcOwn
import HandS.WordsExc
import KE.KRevSl
import PyProof.SliceStr2
import HandS.Ends
import KE.KExcInit
import PyProof.ExcBaseAll.LookupError
import PyProof.ReprLen
import PyProof.StrLawsRepr
import KE.KWords
import KE.DatumOrd
import PySem.Challenge.RW_callwords_k09_lines_that_break_off
set_option Elab.async false
set_option linter.all false
set_option maxRecDepth 100000
set_option maxHeartbeats 4000000  -- own
/-! the cutting of lines, as plain functions over codes -/
namespace M
/-- words whole, the begun one, the open quote (0: none), where it was opened, a stroke ahead -/
structure Sc where
  ws : List (List Nat)
  bg : Option (List Nat)
  qt : Nat
  op : Nat
  tk : Bool
  deriving DecidableEq
def sc0 : Sc := ⟨[], none, 0, 0, false⟩
/-- the program's turn -/
def stP (s : Sc) (i c : Nat) : Except Nat Sc :=
  if c = 10 ∧ (s.tk = true ∨ s.qt ≠ 0) then .error i
  else if s.tk = true then (if ((s.bg.getD []) ++ [c]).length > 40 then .error i else .ok { s with bg := some ((s.bg.getD []) ++ [c]), tk := false })
  else if c = 92 ∧ s.qt ≠ 39 then .ok { s with tk := true }
  else if c = s.qt then .ok { s with qt := 0 }
  else if s.qt = 0 ∧ (c = 39 ∨ c = 34) then .ok { s with bg := some (s.bg.getD []), qt := c, op := i }
  else if s.qt = 0 ∧ (c = 32 ∨ c = 10) then .ok { s with ws := (match s.bg with | some b => s.ws ++ [b] | none => s.ws), bg := none }
  else if ((s.bg.getD []) ++ [c]).length > 40 then .error i else .ok { s with bg := some ((s.bg.getD []) ++ [c]) }
/-- the law's turn -/
def stL (s : Sc) (i c : Nat) : Except Nat Sc :=
  if s.tk = true ∨ (s.qt ≠ 0 ∧ c ≠ s.qt ∧ (c ≠ 92 ∨ s.qt = 39)) ∨ (s.qt = 0 ∧ c ≠ 32 ∧ c ≠ 10 ∧ c ≠ 39 ∧ c ≠ 34 ∧ c ≠ 92) then
    (if c = 10 ∨ ((s.bg.getD []) ++ [c]).length > 40 then .error i else .ok { s with bg := some ((s.bg.getD []) ++ [c]), tk := false })
  else if c = 92 then .ok { s with bg := some (s.bg.getD []), tk := true }
  else if s.qt ≠ 0 then .ok { s with qt := 0 }
  else if c = 39 ∨ c = 34 then .ok { s with bg := some (s.bg.getD []), qt := c, op := i }
  else .ok { s with ws := (match s.bg with | some b => s.ws ++ [b] | none => s.ws), bg := none }
def scan (st : Sc → Nat → Nat → Except Nat Sc) : Nat → Sc → List Nat → Except Nat Sc
  | _, s, [] => .ok s
  | i, s, c :: l => match st s i c with
    | .ok t => scan st (i + 1) t l
    | .error e => .error e
theorem scan_snoc (st : Sc → Nat → Nat → Except Nat Sc) : ∀ (l : List Nat) (i : Nat) (s : Sc) (c : Nat), scan st i s (l ++ [c]) = match scan st i s l with | .ok t => st t (i + l.length) c | .error e => .error e
  | [], i, s, c => by
    simp only [List.nil_append, scan, List.length_nil, Nat.add_zero]
    cases st s i c <;> rfl
  | d :: l, i, s, c => by
    simp only [List.cons_append, scan]
    cases h : st s i d with
    | error e => rfl
    | ok t =>
      have ih := scan_snoc st l (i + 1) t c
      have e : i + 1 + l.length = i + (d :: l).length := by simp only [List.length_cons]; omega
      rw [e] at ih
      exact ih
theorem scan_app (st : Sc → Nat → Nat → Except Nat Sc) : ∀ (l m : List Nat) (i : Nat) (s : Sc), scan st i s (l ++ m) = match scan st i s l with | .ok t => scan st (i + l.length) t m | .error e => .error e
  | [], m, i, s => by simp [scan]
  | d :: l, m, i, s => by
    simp only [List.cons_append, scan]
    cases h : st s i d with
    | error e => rfl
    | ok t =>
      have ih := scan_app st l m (i + 1) t
      have e : i + 1 + l.length = i + (d :: l).length := by simp only [List.length_cons]; omega
      rw [e] at ih
      exact ih
theorem scan_take_succ {st : Sc → Nat → Nat → Except Nat Sc} {l : List Nat} {i c : Nat} {s t : Sc} (h : l[i]? = some c) (hs : scan st 0 s (l.take i) = .ok t) : scan st 0 s (l.take (i + 1)) = st t i c := by
  have e : l.take (i + 1) = l.take i ++ [c] := by rw [List.take_add_one, h]; rfl
  have li : (l.take i).length = i := by
    have := (List.getElem?_eq_some_iff.mp h).1
    rw [List.length_take]; omega
  rw [e, scan_snoc, hs, li]
  simp
theorem scan_take_err {st : Sc → Nat → Nat → Except Nat Sc} {l : List Nat} {i e : Nat} {s : Sc} (h : scan st 0 s (l.take i) = .error e) : scan st 0 s l = .error e := by
  have := scan_app st (l.take i) (l.drop i) 0 s
  rw [List.take_append_drop, h] at this
  exact this
/-- the state in which the law is where the program is -/
def lw (s : Sc) : Sc := if s.tk = true then { s with bg := some (s.bg.getD []) } else s
theorem lw_sc0 : lw sc0 = sc0 := rfl
/-- the quote is none, or one of the two -/
def Gd (s : Sc) : Prop := (s.qt = 0 ∨ s.qt = 39 ∨ s.qt = 34) ∧ (s.tk = true → s.qt ≠ 39)
theorem st_eq {s : Sc} (g : Gd s) (i c : Nat) (h0 : c ≠ 0) : match stP s i c with | .ok t => stL (lw s) i c = .ok (lw t) ∧ Gd t | .error e => stL (lw s) i c = .error e := by
  obtain ⟨ws, bg, qt, op, tk⟩ := s
  obtain ⟨g1, g2⟩ := g
  simp only at g1 g2
  cases tk
  · have lw0 : lw ⟨ws, bg, qt, op, false⟩ = ⟨ws, bg, qt, op, false⟩ := rfl
    rw [lw0]
    unfold stP stL
    simp only [Bool.false_eq_true, false_or, if_false, ne_eq]
    by_cases c10 : c = 10
    · subst c10
      rcases g1 with rfl | rfl | rfl
      · simp [lw, Gd]
      · simp [lw, Gd]
      · simp [lw, Gd]
    · by_cases c92 : c = 92
      · subst c92
        rcases g1 with rfl | rfl | rfl
        · simp [lw, Gd]
        · by_cases hl : 40 < (bg.getD []).length + 1 <;> simp [lw, Gd, hl]
        · simp [lw, Gd]
      · by_cases cq : c = qt
        · subst cq
          rcases g1 with h | h | h
          · exact absurd h h0
          · subst h; simp [lw, Gd]
          · subst h; simp [lw, Gd]
        · rcases g1 with rfl | rfl | rfl
          · by_cases c39 : c = 39
            · subst c39; simp [lw, Gd]
            · by_cases c34 : c = 34
              · subst c34; simp [lw, Gd]
              · by_cases c32 : c = 32
                · subst c32; simp [lw, Gd]
                · by_cases hl : 40 < (bg.getD []).length + 1 <;> simp [lw, Gd, hl, c10, c92, cq, c39, c34, c32]
          · by_cases hl : 40 < (bg.getD []).length + 1 <;> simp [lw, Gd, hl, c10, c92, cq]
          · by_cases hl : 40 < (bg.getD []).length + 1 <;> simp [lw, Gd, hl, c10, c92, cq]
  · have lw0 : lw ⟨ws, bg, qt, op, true⟩ = ⟨ws, some (bg.getD []), qt, op, true⟩ := rfl
    rw [lw0]
    unfold stP stL
    by_cases c10 : c = 10
    · subst c10; simp
    · by_cases hl : ((bg.getD []) ++ [c]).length > 40
      · simp only [c10, false_and, if_false, if_true, hl, or_true, true_or, Option.getD_some, false_or]
      · simp only [c10, false_and, if_false, if_true, hl, or_false, true_or, Option.getD_some, false_or, lw, Bool.false_eq_true]
        exact ⟨trivial, g1, fun h => by simp at h⟩
theorem scan_eq : ∀ (l : List Nat) (i : Nat) (s : Sc), Gd s → (∀ c ∈ l, c ≠ 0) → match scan stP i s l with | .ok t => scan stL i (lw s) l = .ok (lw t) ∧ Gd t | .error e => scan stL i (lw s) l = .error e
  | [], i, s, g, _ => ⟨rfl, g⟩
  | c :: l, i, s, g, h => by
    have e := st_eq g i c (h c (List.mem_cons_self ..))
    simp only [scan]
    cases q : stP s i c with
    | error x => rw [q] at e; rw [e]
    | ok t =>
      rw [q] at e
      obtain ⟨e, g'⟩ := e
      rw [e]
      exact scan_eq l (i + 1) t g' fun d hd => h d (List.mem_cons_of_mem _ hd)
end M

/-! quoting, and that what is quoted is cut to the same -/
namespace M
def N1 : List Nat := [32, 39, 34, 92]
def N2 : List Nat := [34, 92]
def esc (need : List Nat) : List Nat → List Nat
  | [] => []
  | c :: l => (if c ∈ need then [92, c] else [c]) ++ esc need l
def ways (l : List Nat) : List (List Nat) := (if l = [] then [] else [esc N1 l]) ++ ((if 39 ∈ l then [] else [39 :: l ++ [39]]) ++ [34 :: esc N2 l ++ [34]])
/-- the first of the shortest -/
def FM (xs : List (List Nat)) (v : List Nat) : Prop := ∃ i : Nat, xs[i]? = some v ∧ ∀ j w, xs[j]? = some w → v.length ≤ w.length ∧ (j < i → v.length < w.length)
theorem FM.uniq {xs : List (List Nat)} {v w : List Nat} (a : FM xs v) (b : FM xs w) : v = w := by
  obtain ⟨i, hi, a⟩ := a
  obtain ⟨j, hj, b⟩ := b
  rcases Nat.lt_trichotomy i j with h | h | h
  · have := (a j w hj).1; have := (b i v hi).2 h; omega
  · subst h; rw [hi] at hj; exact Option.some.inj hj
  · have := (b i v hi).1; have := (a j w hj).2 h; omega
theorem FM.cons {x v : List Nat} {xs : List (List Nat)} (h : xs[0]? = some x) (a : FM (x :: xs) v) : FM xs v := by
  obtain ⟨i, hi, a⟩ := a
  cases i with
  | zero =>
    have e : x = v := by simpa using hi
    subst e
    exact ⟨0, h, fun j w hj => ⟨(a (j + 1) w (by simpa using hj)).1, fun q => absurd q (Nat.not_lt_zero _)⟩⟩
  | succ i => exact ⟨i, by simpa using hi, fun j w hj => ⟨(a (j + 1) w (by simpa using hj)).1, fun q => (a (j + 1) w (by simpa using hj)).2 (by omega)⟩⟩
theorem esc_none {need l : List Nat} (h : ∀ c ∈ l, c ∉ need) : esc need l = l := by
  induction l with
  | nil => rfl
  | cons c l ih =>
    unfold esc
    rw [if_neg (h c (List.mem_cons_self ..)), ih fun d hd => h d (List.mem_cons_of_mem _ hd)]
    rfl
theorem esc_len (need : List Nat) : ∀ l : List Nat, (esc need l).length ≤ 2 * l.length
  | [] => Nat.le_refl _
  | c :: l => by
    have := esc_len need l
    unfold esc
    split <;> simp only [List.length_append, List.length_cons, List.length_nil] <;> omega
theorem esc_eq (need : List Nat) : ∀ l : List Nat, esc need l = (l.map fun c => if c ∈ need then [92, c] else [c]).flatten
  | [] => rfl
  | c :: l => by
    unfold esc
    rw [esc_eq need l]; rfl
theorem esc_mem {need : List Nat} : ∀ {l : List Nat} {c : Nat}, c ∈ esc need l → c = 92 ∨ c ∈ l
  | [], c, h => by simp [esc] at h
  | d :: l, c, h => by
    unfold esc at h
    rcases List.mem_append.mp h with h | h  -- own
    · split at h
      · rcases List.mem_cons.mp h with h | h
        · exact .inl h
        · exact .inr (List.mem_cons.mpr (.inl (List.mem_singleton.mp h)))
      · exact .inr (List.mem_cons.mpr (.inl (List.mem_singleton.mp h)))
    · rcases esc_mem h with h | h
      · exact .inl h
      · exact .inr (List.mem_cons_of_mem _ h)
/-- a word: at most forty signs -/
def Wd (l : List Nat) : Prop := l.length ≤ 40 ∧ ∀ c ∈ l, 32 ≤ c ∧ c ≤ 126
theorem scan_esc1 : ∀ (l : List Nat) (i : Nat) (ws : List (List Nat)) (b : Option (List Nat)) (op : Nat), (∀ c ∈ l, 32 ≤ c ∧ c ≤ 126) → (b.getD []).length + l.length ≤ 40 →
    scan stP i ⟨ws, b, 0, op, false⟩ (esc N1 l) = .ok ⟨ws, if l = [] then b else some (b.getD [] ++ l), 0, op, false⟩
  | [], i, ws, b, op, _, _ => by simp [esc, scan]
  | c :: l, i, ws, b, op, h, hl => by
    have hc := h c (List.mem_cons_self ..)  -- own
    have hl' : l.length + 1 + (b.getD []).length ≤ 40 := by simpa [Nat.add_comm] using hl
    have ih := fun i => scan_esc1 l i ws (some (b.getD [] ++ [c])) op (fun d hd => h d (List.mem_cons_of_mem _ hd)) (by simp; omega)
    have fin : (if l = [] then some (b.getD [] ++ [c]) else some ((some (b.getD [] ++ [c])).getD [] ++ l)) = some (b.getD [] ++ c :: l) := by
      split
      · rename_i e; subst e; rfl
      · simp
    have n1 : ¬ 40 < (b.getD []).length + 1 := by omega
    have n2 : ¬ c = 10 := by omega
    have n3 : ¬ c = 0 := by omega
    unfold esc
    split
    · rename_i hm
      have e1 : stP ⟨ws, b, 0, op, false⟩ i 92 = .ok ⟨ws, b, 0, op, true⟩ := by simp [stP]
      have e2 : stP ⟨ws, b, 0, op, true⟩ (i + 1) c = .ok ⟨ws, some (b.getD [] ++ [c]), 0, op, false⟩ := by simp [stP, n1, n2]
      simp only [List.cons_append, List.nil_append, scan, e1, e2]
      rw [ih, fin]
      simp
    · rename_i hm
      simp [N1] at hm
      obtain ⟨m1, m2, m3, m4⟩ := hm
      have e2 : stP ⟨ws, b, 0, op, false⟩ i c = .ok ⟨ws, some (b.getD [] ++ [c]), 0, op, false⟩ := by simp [stP, n1, n2, n3, m1, m2, m3, m4]
      simp only [List.cons_append, List.nil_append, scan, e2]
      rw [ih, fin]
      simp
theorem scan_in1 : ∀ (l : List Nat) (i : Nat) (ws : List (List Nat)) (b : List Nat) (op : Nat), (∀ c ∈ l, 32 ≤ c ∧ c ≤ 126) → 39 ∉ l → b.length + l.length ≤ 40 →
    scan stP i ⟨ws, some b, 39, op, false⟩ l = .ok ⟨ws, some (b ++ l), 39, op, false⟩
  | [], i, ws, b, op, _, _, _ => by simp [scan]
  | c :: l, i, ws, b, op, h, h39, hl => by
    have hc := h c (List.mem_cons_self ..)  -- own
    have hl' : l.length + 1 + b.length ≤ 40 := by simpa [Nat.add_comm] using hl
    have n1 : ¬ 40 < b.length + 1 := by omega
    have n2 : ¬ c = 10 := by omega
    have n3 : ¬ c = 39 := fun e => h39 (by rw [e]; exact List.mem_cons_self ..)
    have e2 : stP ⟨ws, some b, 39, op, false⟩ i c = .ok ⟨ws, some (b ++ [c]), 39, op, false⟩ := by simp [stP, n1, n2, n3]
    simp only [scan, e2]
    rw [scan_in1 l (i + 1) ws (b ++ [c]) op (fun d hd => h d (List.mem_cons_of_mem _ hd)) (fun e => h39 (List.mem_cons_of_mem _ e)) (by simp; omega)]
    simp
theorem scan_in2 : ∀ (l : List Nat) (i : Nat) (ws : List (List Nat)) (b : List Nat) (op : Nat), (∀ c ∈ l, 32 ≤ c ∧ c ≤ 126) → b.length + l.length ≤ 40 →
    scan stP i ⟨ws, some b, 34, op, false⟩ (esc N2 l) = .ok ⟨ws, some (b ++ l), 34, op, false⟩
  | [], i, ws, b, op, _, _ => by simp [scan, esc]
  | c :: l, i, ws, b, op, h, hl => by
    have hc := h c (List.mem_cons_self ..)  -- own
    have hl' : l.length + 1 + b.length ≤ 40 := by simpa [Nat.add_comm] using hl
    have n1 : ¬ 40 < b.length + 1 := by omega
    have n2 : ¬ c = 10 := by omega
    have ih := fun i => scan_in2 l i ws (b ++ [c]) op (fun d hd => h d (List.mem_cons_of_mem _ hd)) (by simp; omega)
    unfold esc
    split
    · rename_i hm
      have e1 : stP ⟨ws, some b, 34, op, false⟩ i 92 = .ok ⟨ws, some b, 34, op, true⟩ := by simp [stP]
      have e2 : stP ⟨ws, some b, 34, op, true⟩ (i + 1) c = .ok ⟨ws, some (b ++ [c]), 34, op, false⟩ := by simp [stP, n1, n2]
      simp only [List.cons_append, List.nil_append, scan, e1, e2]
      rw [ih]
      simp
    · rename_i hm
      simp [N2] at hm
      obtain ⟨m3, m4⟩ := hm
      have e2 : stP ⟨ws, some b, 34, op, false⟩ i c = .ok ⟨ws, some (b ++ [c]), 34, op, false⟩ := by simp [stP, n1, n2, m3, m4]
      simp only [List.cons_append, List.nil_append, scan, e2]
      rw [ih]
      simp
/-- each way, from between two words: the word is begun -/
theorem scan_way {l v : List Nat} (w : Wd l) (hv : v ∈ ways l) (i : Nat) (ws : List (List Nat)) (op : Nat) : ∃ o, scan stP i ⟨ws, none, 0, op, false⟩ v = .ok ⟨ws, some l, 0, o, false⟩ := by
  obtain ⟨wl, wc⟩ := w
  unfold ways at hv
  rcases List.mem_append.mp hv with h | h
  · split at h
    · cases h
    · rename_i ne
      rw [List.mem_singleton.mp h]
      refine ⟨op, ?_⟩
      rw [scan_esc1 l i ws none op wc (by simpa using wl), if_neg ne]
      simp
  · rcases List.mem_append.mp h with h | h  -- own
    · split at h
      · cases h
      · rename_i h39
        rw [List.mem_singleton.mp h]
        refine ⟨i, ?_⟩
        have e1 : stP ⟨ws, none, 0, op, false⟩ i 39 = .ok ⟨ws, some [], 39, i, false⟩ := by simp [stP]
        simp only [List.cons_append, scan, e1]
        rw [scan_app, scan_in1 l _ ws [] i wc h39 (by simpa using wl)]
        simp [scan, stP]
    · rw [List.mem_singleton.mp h]
      refine ⟨i, ?_⟩
      have e1 : stP ⟨ws, none, 0, op, false⟩ i 34 = .ok ⟨ws, some [], 34, i, false⟩ := by simp [stP]
      simp only [List.cons_append, scan, e1]
      rw [scan_app, scan_in2 l _ ws [] i wc (by simpa using wl)]
      simp [scan, stP]
theorem way_len {l v : List Nat} (w : Wd l) (hv : v ∈ ways l) : v.length ≤ 82 ∧ ∀ c ∈ v, 32 ≤ c ∧ c ≤ 126 := by
  obtain ⟨wl, wc⟩ := w
  have g1 := esc_len N1 l
  have g2 := esc_len N2 l
  have hm : ∀ need, ∀ c ∈ esc need l, 32 ≤ c ∧ c ≤ 126 := fun need c hc => by
    rcases esc_mem hc with h | h
    · omega
    · exact wc c h
  unfold ways at hv
  rcases List.mem_append.mp hv with h | h
  · split at h
    · cases h
    · rw [List.mem_singleton.mp h]; exact ⟨by omega, hm _⟩
  · rcases List.mem_append.mp h with h | h  -- own
    · split at h
      · cases h
      · rw [List.mem_singleton.mp h]
        refine ⟨by simp only [List.length_append, List.length_cons, List.length_nil]; omega, fun c hc => ?_⟩
        simp only [List.cons_append, List.mem_cons, List.mem_append, List.not_mem_nil, or_false] at hc
        rcases hc with h | h | h
        · omega
        · exact wc c h
        · omega
    · rw [List.mem_singleton.mp h]
      refine ⟨by simp only [List.length_append, List.length_cons, List.length_nil]; omega, fun c hc => ?_⟩
      simp only [List.cons_append, List.mem_cons, List.mem_append, List.not_mem_nil, or_false] at hc
      rcases hc with h | h | h
      · omega
      · exact hm _ c h
      · omega
/-- many words: each quoted in some way, a blank between -/
def jn : List (List Nat) → List Nat
  | [] => []
  | [x] => x
  | x :: y :: r => x ++ 32 :: jn (y :: r)
inductive Ways : List (List Nat) → List (List Nat) → Prop
  | nil : Ways [] []
  | cons {l v : List Nat} {ls vs : List (List Nat)} (w : Wd l) (h : v ∈ ways l) (r : Ways ls vs) : Ways (l :: ls) (v :: vs)
theorem scan_jn : ∀ {ls vs : List (List Nat)}, Ways ls vs → ∀ (i : Nat) (ws : List (List Nat)) (op : Nat), ∃ o, scan stP i ⟨ws, none, 0, op, false⟩ (jn vs) = .ok ⟨ws ++ ls.dropLast, ls.getLast?, 0, o, false⟩
  | _, _, .nil, i, ws, op => ⟨op, by simp [jn, scan]⟩
  | _, _, .cons (l := l) (v := v) (ls := ls) (vs := vs) w h r, i, ws, op => by
    cases r with
    | nil =>
      obtain ⟨o, e⟩ := scan_way w h i ws op
      exact ⟨o, by simpa [jn] using e⟩
    | cons w2 h2 r2 =>
      rename_i l2 v2 ls2 vs2
      obtain ⟨o, e⟩ := scan_way w h i ws op
      obtain ⟨o2, e2⟩ := scan_jn (.cons w2 h2 r2) (i + v.length + 1) (ws ++ [l]) o
      refine ⟨o2, ?_⟩
      have e3 : stP ⟨ws, some l, 0, o, false⟩ (i + v.length) 32 = .ok ⟨ws ++ [l], none, 0, o, false⟩ := by simp [stP]
      simp only [jn]
      rw [scan_app, e]
      simp only [scan, e3]
      rw [e2]
      simp
theorem jn_ok : ∀ {ls vs : List (List Nat)}, Ways ls vs → (jn vs).length ≤ 83 * ls.length ∧ ∀ c ∈ jn vs, 32 ≤ c ∧ c ≤ 126
  | _, _, .nil => ⟨Nat.le_refl _, fun c h => by simp [jn] at h⟩
  | _, _, .cons (l := l) (v := v) (ls := ls) (vs := vs) w h r => by
    obtain ⟨a, b⟩ := way_len w h
    cases r with
    | nil => exact ⟨by simp [jn]; omega, b⟩
    | cons w2 h2 r2 =>
      obtain ⟨a2, b2⟩ := jn_ok (.cons w2 h2 r2)
      refine ⟨?_, fun c hc => ?_⟩
      · simp only [jn, List.length_append, List.length_cons] at a2 ⊢; omega
      · simp only [jn, List.mem_append, List.mem_cons] at hc b2
        rcases hc with h | h | h
        · exact b c h
        · omega
        · exact b2 c h
end M

/-! lines written part by part in drawn ways -/
namespace M
/-- the signs of l, some with a stroke ahead, all of need -/
inductive Strk (need : List Nat) : List Nat → List Nat → Prop
  | nil : Strk need [] []
  | bare {c : Nat} {l o : List Nat} (h : c ∉ need) (r : Strk need l o) : Strk need (c :: l) (c :: o)
  | str {c : Nat} {l o : List Nat} (r : Strk need l o) : Strk need (c :: l) (92 :: c :: o)
theorem Strk.app {need : List Nat} : ∀ {l o m q : List Nat}, Strk need l o → Strk need m q → Strk need (l ++ m) (o ++ q)
  | _, _, _, _, .nil, s => s
  | _, _, _, _, .bare h r, s => .bare h (r.app s)
  | _, _, _, _, .str r, s => .str (r.app s)
theorem Strk.len {need : List Nat} : ∀ {l o : List Nat}, Strk need l o → o.length ≤ 2 * l.length
  | _, _, .nil => Nat.le_refl _
  | _, _, .bare h r => by have := r.len; simp only [List.length_cons]; omega
  | _, _, .str r => by have := r.len; simp only [List.length_cons]; omega
theorem Strk.mem {need : List Nat} : ∀ {l o : List Nat}, Strk need l o → ∀ c ∈ o, c = 92 ∨ c ∈ l
  | _, _, .nil, c, h => (List.not_mem_nil h).elim
  | _, _, .bare _ r, c, h => by
    rcases List.mem_cons.mp h with q | q  -- own
    · exact .inr (by rw [q]; exact List.mem_cons_self ..)
    · exact (r.mem c q).imp id (List.mem_cons_of_mem _)
  | _, _, .str r, c, h => by
    rcases List.mem_cons.mp h with q | q  -- own
    · exact .inl q
    rcases List.mem_cons.mp q with q | q
    · exact .inr (by rw [q]; exact List.mem_cons_self ..)
    · exact (r.mem c q).imp id (List.mem_cons_of_mem _)
theorem scan_strk1 : ∀ {l o : List Nat}, Strk N1 l o → ∀ (i : Nat) (ws : List (List Nat)) (b : Option (List Nat)) (op : Nat), (∀ c ∈ l, 32 ≤ c ∧ c ≤ 126) → (b.getD []).length + l.length ≤ 40 →
    scan stP i ⟨ws, b, 0, op, false⟩ o = .ok ⟨ws, if l = [] then b else some (b.getD [] ++ l), 0, op, false⟩
  | _, _, .nil, i, ws, b, op, _, _ => by simp [scan]
  | _, _, .bare (c := c) (l := l) (o := o) m r, i, ws, b, op, h, hl => by
    have hc := h c (List.mem_cons_self ..)  -- own
    rw [List.length_cons] at hl
    have ih := fun i => scan_strk1 r i ws (some (b.getD [] ++ [c])) op (fun d hd => h d (List.mem_cons_of_mem _ hd)) (by simp; omega)
    simp [N1] at m
    obtain ⟨m1, m2, m3, m4⟩ := m
    have n1 : ¬ 40 < (b.getD []).length + 1 := by omega
    have n2 : ¬ c = 10 := by omega
    have n3 : ¬ c = 0 := by omega
    have e2 : stP ⟨ws, b, 0, op, false⟩ i c = .ok ⟨ws, some (b.getD [] ++ [c]), 0, op, false⟩ := by simp [stP, n1, n2, n3, m1, m2, m3, m4]
    simp only [scan, e2]
    rw [ih]
    by_cases q : l = [] <;> simp [q]
  | _, _, .str (c := c) (l := l) (o := o) r, i, ws, b, op, h, hl => by
    have hc := h c (List.mem_cons_self ..)  -- own
    rw [List.length_cons] at hl
    have ih := fun i => scan_strk1 r i ws (some (b.getD [] ++ [c])) op (fun d hd => h d (List.mem_cons_of_mem _ hd)) (by simp; omega)
    have n1 : ¬ 40 < (b.getD []).length + 1 := by omega
    have n2 : ¬ c = 10 := by omega
    have e1 : stP ⟨ws, b, 0, op, false⟩ i 92 = .ok ⟨ws, b, 0, op, true⟩ := by simp [stP]
    have e2 : stP ⟨ws, b, 0, op, true⟩ (i + 1) c = .ok ⟨ws, some (b.getD [] ++ [c]), 0, op, false⟩ := by simp [stP, n1, n2]
    simp only [scan, e1, e2]
    rw [ih]
    by_cases q : l = [] <;> simp [q]
theorem scan_strk2 : ∀ {l o : List Nat}, Strk N2 l o → ∀ (i : Nat) (ws : List (List Nat)) (b : List Nat) (op : Nat), (∀ c ∈ l, 32 ≤ c ∧ c ≤ 126) → b.length + l.length ≤ 40 →
    scan stP i ⟨ws, some b, 34, op, false⟩ o = .ok ⟨ws, some (b ++ l), 34, op, false⟩
  | _, _, .nil, i, ws, b, op, _, _ => by simp [scan]
  | _, _, .bare (c := c) (l := l) (o := o) m r, i, ws, b, op, h, hl => by
    have hc := h c (List.mem_cons_self ..)  -- own
    rw [List.length_cons] at hl
    have ih := fun i => scan_strk2 r i ws (b ++ [c]) op (fun d hd => h d (List.mem_cons_of_mem _ hd)) (by simp; omega)
    simp [N2] at m
    obtain ⟨m3, m4⟩ := m
    have n1 : ¬ 40 < b.length + 1 := by omega
    have n2 : ¬ c = 10 := by omega
    have e2 : stP ⟨ws, some b, 34, op, false⟩ i c = .ok ⟨ws, some (b ++ [c]), 34, op, false⟩ := by simp [stP, n1, n2, m3, m4]
    simp only [scan, e2]
    rw [ih]; simp
  | _, _, .str (c := c) (l := l) (o := o) r, i, ws, b, op, h, hl => by
    have hc := h c (List.mem_cons_self ..)  -- own
    rw [List.length_cons] at hl
    have ih := fun i => scan_strk2 r i ws (b ++ [c]) op (fun d hd => h d (List.mem_cons_of_mem _ hd)) (by simp; omega)
    have n1 : ¬ 40 < b.length + 1 := by omega
    have n2 : ¬ c = 10 := by omega
    have e1 : stP ⟨ws, some b, 34, op, false⟩ i 92 = .ok ⟨ws, some b, 34, op, true⟩ := by simp [stP]
    have e2 : stP ⟨ws, some b, 34, op, true⟩ (i + 1) c = .ok ⟨ws, some (b ++ [c]), 34, op, false⟩ := by simp [stP, n1, n2]
    simp only [scan, e1, e2]
    rw [ih]; simp
/-- one part of a word, in one of three ways -/
inductive Pc : List Nat → List Nat → Prop
  | sq {p : List Nat} (h : 39 ∉ p) : Pc p (39 :: p ++ [39])
  | dq {p o : List Nat} (h : Strk N2 p o) : Pc p (34 :: o ++ [34])
  | ba {p o : List Nat} (h : Strk N1 p o) : Pc p o
theorem Pc.len {p q : List Nat} (h : Pc p q) : q.length ≤ 2 * p.length + 2 := by
  cases h with
  | sq _ => simp only [List.length_append, List.length_cons, List.length_nil]; omega
  | dq r => have := r.len; simp only [List.length_append, List.length_cons, List.length_nil]; omega
  | ba r => have := r.len; omega
theorem Pc.mem {p q : List Nat} (h : Pc p q) (hp : ∀ c ∈ p, 32 ≤ c ∧ c ≤ 126) : ∀ c ∈ q, 32 ≤ c ∧ c ≤ 126 := by
  have k : ∀ {need o}, Strk need p o → ∀ c ∈ o, 32 ≤ c ∧ c ≤ 126 := fun r c hc => by
    rcases r.mem c hc with q | q
    · omega
    · exact hp c q
  intro c hc
  cases h with
  | sq _ =>
    rcases List.mem_append.mp hc with q | q
    · rcases List.mem_cons.mp q with q | q  -- own
      · omega
      · exact hp c q
    · have := List.mem_singleton.mp q; omega
  | dq r =>
    rcases List.mem_append.mp hc with q | q
    · rcases List.mem_cons.mp q with q | q  -- own
      · omega
      · exact k r c q
    · have := List.mem_singleton.mp q; omega
  | ba r => exact k r c hc
theorem scan_pc {p q : List Nat} (h : Pc p q) (hp : ∀ c ∈ p, 32 ≤ c ∧ c ≤ 126) (hn : p ≠ []) (i : Nat) (ws : List (List Nat)) (b : Option (List Nat)) (op : Nat) (hl : (b.getD []).length + p.length ≤ 40) :
    ∃ o, scan stP i ⟨ws, b, 0, op, false⟩ q = .ok ⟨ws, some (b.getD [] ++ p), 0, o, false⟩ := by
  cases h with
  | sq h =>
    refine ⟨i, ?_⟩
    have e1 : stP ⟨ws, b, 0, op, false⟩ i 39 = .ok ⟨ws, some (b.getD []), 39, i, false⟩ := by simp [stP]
    have e2 := scan_in1 p (i + 1) ws (b.getD []) i hp h hl
    have e3 : ∀ j, stP ⟨ws, some (b.getD [] ++ p), 39, i, false⟩ j 39 = .ok ⟨ws, some (b.getD [] ++ p), 0, i, false⟩ := fun j => by simp [stP]
    rw [List.cons_append]
    simp only [scan, e1]
    rw [scan_app, e2]
    simp only [scan, e3]
  | dq h =>
    refine ⟨i, ?_⟩
    have e1 : stP ⟨ws, b, 0, op, false⟩ i 34 = .ok ⟨ws, some (b.getD []), 34, i, false⟩ := by simp [stP]
    have e2 := scan_strk2 h (i + 1) ws (b.getD []) i hp hl
    have e3 : ∀ j, stP ⟨ws, some (b.getD [] ++ p), 34, i, false⟩ j 34 = .ok ⟨ws, some (b.getD [] ++ p), 0, i, false⟩ := fun j => by simp [stP]
    rw [List.cons_append]
    simp only [scan, e1]
    rw [scan_app, e2]
    simp only [scan, e3]
  | ba h =>
    refine ⟨op, ?_⟩
    rw [scan_strk1 h i ws b op hp hl, if_neg hn]
/-- parts, one behind the other -/
inductive Wrt : List Nat → List Nat → Prop
  | nil : Wrt [] []
  | snoc {l o p q : List Nat} (h : Wrt l o) (n : p ≠ []) (k : Pc p q) : Wrt (l ++ p) (o ++ q)
theorem Wrt.len : ∀ {l o : List Nat}, Wrt l o → o.length ≤ 4 * l.length
  | _, _, .nil => Nat.le_refl _
  | _, _, .snoc (p := p) h n k => by
    have := h.len
    have := k.len
    have : 0 < p.length := List.length_pos_iff.mpr n
    simp only [List.length_append]; omega
theorem Wrt.mem : ∀ {l o : List Nat}, Wrt l o → (∀ c ∈ l, 32 ≤ c ∧ c ≤ 126) → ∀ c ∈ o, 32 ≤ c ∧ c ≤ 126
  | _, _, .nil, _, c, h => (List.not_mem_nil h).elim
  | _, _, .snoc h n k, hp, c, hc => by
    rcases List.mem_append.mp hc with q | q
    · exact h.mem (fun d hd => hp d (List.mem_append_left _ hd)) c q
    · exact k.mem (fun d hd => hp d (List.mem_append_right _ hd)) c q
theorem scan_wrt : ∀ {l o : List Nat}, Wrt l o → (∀ c ∈ l, 32 ≤ c ∧ c ≤ 126) → l.length ≤ 40 → ∀ (i : Nat) (ws : List (List Nat)) (op : Nat), ∃ o', scan stP i ⟨ws, none, 0, op, false⟩ o = .ok ⟨ws, if l = [] then none else some l, 0, o', false⟩
  | _, _, .nil, _, _, i, ws, op => ⟨op, by simp [scan]⟩
  | _, _, .snoc (l := l) (o := o) (p := p) (q := q) h n k, hp, hl, i, ws, op => by
    rw [List.length_append] at hl
    obtain ⟨o1, e1⟩ := scan_wrt h (fun d hd => hp d (List.mem_append_left _ hd)) (by omega) i ws op
    have hb : (if l = [] then (none : Option (List Nat)) else some l).getD [] = l := by
      by_cases z : l = []
      · rw [if_pos z, z]; rfl
      · rw [if_neg z]; rfl
    obtain ⟨o2, e2⟩ := scan_pc k (fun d hd => hp d (List.mem_append_right _ hd)) n (i + o.length) ws (if l = [] then none else some l) o1 (by rw [hb]; omega)
    refine ⟨o2, ?_⟩
    rw [scan_app, e1]
    simp only
    rw [e2, hb, if_neg (by simp [n])]
/-- a word as it is written -/
def WrO (l o : List Nat) : Prop := (l = [] ∧ o ∈ [[39, 39], [34, 34], [39, 39, 34, 34], [34, 34, 34, 34]]) ∨ (l ≠ [] ∧ Wrt l o)
theorem WrO.len {l o : List Nat} (h : WrO l o) (hl : l.length ≤ 40) : o.length ≤ 160 := by
  rcases h with ⟨_, h⟩ | ⟨_, h⟩
  · simp only [List.mem_cons, List.not_mem_nil, or_false] at h
    rcases h with h | h | h | h <;> subst h <;> decide
  · have := h.len; omega
theorem WrO.mem {l o : List Nat} (h : WrO l o) (hp : ∀ c ∈ l, 32 ≤ c ∧ c ≤ 126) : ∀ c ∈ o, 32 ≤ c ∧ c ≤ 126 := by
  rcases h with ⟨_, h⟩ | ⟨_, h⟩
  · simp only [List.mem_cons, List.not_mem_nil, or_false] at h
    rcases h with h | h | h | h <;> subst h <;> decide
  · exact h.mem hp
theorem scan_wro {l o : List Nat} (h : WrO l o) (hp : ∀ c ∈ l, 32 ≤ c ∧ c ≤ 126) (hl : l.length ≤ 40) (i : Nat) (ws : List (List Nat)) (op : Nat) : ∃ o', scan stP i ⟨ws, none, 0, op, false⟩ o = .ok ⟨ws, some l, 0, o', false⟩ := by
  rcases h with ⟨e, h⟩ | ⟨n, h⟩
  · subst e
    simp only [List.mem_cons, List.not_mem_nil, or_false] at h
    rcases h with h | h | h | h <;> subst h <;> exact ⟨_, by simp [scan, stP]; rfl⟩
  · obtain ⟨o', e⟩ := scan_wrt h hp hl i ws op
    exact ⟨o', by rw [e, if_neg n]⟩
/-- a gap -/
def Gp (g : List Nat) : Prop := ∀ c ∈ g, c = 32 ∨ c = 10
theorem scan_gap : ∀ (g : List Nat), Gp g → ∀ (i : Nat) (ws : List (List Nat)) (b : Option (List Nat)) (op : Nat), scan stP i ⟨ws, b, 0, op, false⟩ g = .ok (if g = [] then ⟨ws, b, 0, op, false⟩ else ⟨ws ++ b.toList, none, 0, op, false⟩)
  | [], _, i, ws, b, op => by simp [scan]
  | c :: g, h, i, ws, b, op => by
    have hc := h c (List.mem_cons_self ..)  -- own
    have e1 : stP ⟨ws, b, 0, op, false⟩ i c = .ok ⟨ws ++ b.toList, none, 0, op, false⟩ := by
      rcases hc with q | q <;> subst q <;> cases b <;> simp [stP]
    have ih := scan_gap g (fun d hd => h d (List.mem_cons_of_mem _ hd)) (i + 1) (ws ++ b.toList) none op
    simp only [scan, e1]
    rw [ih]
    by_cases q : g = [] <;> simp [q]
end M
namespace M
/-- so far: these words, the last one begun, nothing open -/
def SoFar (ls : List (List Nat)) (f : List Nat) : Prop := ∃ o, scan stP 0 sc0 f = .ok ⟨ls.dropLast, ls.getLast?, 0, o, false⟩
/-- .. and a gap behind: all words are whole -/
def Whole (ls : List (List Nat)) (f : List Nat) : Prop := ∃ o, scan stP 0 sc0 f = .ok ⟨ls, none, 0, o, false⟩
theorem last_split : ∀ ls : List (List Nat), ls.dropLast ++ ls.getLast?.toList = ls
  | [] => rfl
  | [x] => rfl
  | x :: y :: r => by rw [List.dropLast_cons₂, List.getLast?_cons_cons, List.cons_append, last_split (y :: r)]
theorem Whole.zero {g : List Nat} (h : Gp g) : Whole [] g := by
  refine ⟨0, ?_⟩
  have := scan_gap g h 0 [] none 0
  rw [show sc0 = ⟨[], none, 0, 0, false⟩ from rfl, this]
  by_cases q : g = [] <;> simp [q]
theorem Whole.soFar {f : List Nat} (h : Whole [] f) : SoFar [] f := h
theorem SoFar.gap {ls : List (List Nat)} {f g : List Nat} (h : SoFar ls f) (hg : Gp g) (n : g ≠ [] ∨ ls = []) : Whole ls (f ++ g) := by
  obtain ⟨o, e⟩ := h
  refine ⟨o, ?_⟩
  rw [scan_app, e]
  simp only
  rw [scan_gap g hg, last_split]
  rcases n with n | n
  · rw [if_neg n]
  · subst n
    by_cases q : g = [] <;> simp [q]
theorem Whole.word {ls : List (List Nat)} {f l w : List Nat} (h : Whole ls f) (hw : WrO l w) (hp : ∀ c ∈ l, 32 ≤ c ∧ c ≤ 126) (hl : l.length ≤ 40) : SoFar (ls ++ [l]) (f ++ w) := by
  obtain ⟨o, e⟩ := h
  obtain ⟨o', e'⟩ := scan_wro hw hp hl (0 + f.length) ls o
  refine ⟨o', ?_⟩
  rw [scan_app, e]
  simp only
  rw [e', List.dropLast_concat, List.getLast?_concat]
/-- the line's end: it is cut to the words -/
theorem SoFar.done {ls : List (List Nat)} {f g : List Nat} (h : SoFar ls f) (hg : Gp g) : ∃ t, scan stP 0 sc0 (f ++ g) = .ok t ∧ t.tk = false ∧ t.qt = 0 ∧ t.ws ++ t.bg.toList = ls := by
  obtain ⟨o, e⟩ := h
  rw [scan_app, e]
  simp only
  rw [scan_gap g hg]
  by_cases q : g = []
  · rw [if_pos q]; exact ⟨_, rfl, rfl, rfl, last_split ls⟩
  · rw [if_neg q]; exact ⟨_, rfl, rfl, rfl, by rw [last_split]; simp⟩
/-- a good line, a blank, what can't be cut -/
theorem bad_end {f : List Nat} {t : Sc} (h : scan stP 0 sc0 f = .ok t) (h1 : t.tk = false) (h2 : t.qt = 0) {b : List Nat} (hb : b ∈ [[39], [34], [39, 97], [34, 98, 32, 99], [100, 92], [34, 92]]) :
    ∃ u, scan stP 0 sc0 (f ++ 32 :: b) = .ok u ∧ (u.tk = true ∨ u.tk = false ∧ u.qt ≠ 0) := by
  obtain ⟨ws, bg, qt, op, tk⟩ := t
  simp only at h1 h2
  subst h1 h2
  have e1 : ∀ i, stP ⟨ws, bg, 0, op, false⟩ i 32 = .ok ⟨ws ++ bg.toList, none, 0, op, false⟩ := fun i => by cases bg <;> simp [stP]
  rw [scan_app, h]
  simp only [scan, e1]
  simp only [List.mem_cons, List.not_mem_nil, or_false] at hb  -- own
  rcases hb with q | q | q | q | q | q <;> subst q <;> refine ⟨_, by simp [scan, stP]; rfl, ?_⟩ <;> simp
end M

/-! own rules over the layer -/
namespace J
open PySem PySem.Spec PyProof.Rows L2  -- own

/-! ### texts as lists of codes -/
/-- the text of these codes -/
def S (l : List Nat) : Str := ⟨l.toArray⟩
theorem S_cps (l : List Nat) : (S l).cps.toList = l := by simp [S]
theorem S_of (x : Str) : S x.cps.toList = x := by cases x; simp [S]
theorem S_len (l : List Nat) : (S l).length = l.length := by simp [S, Str.length]
theorem S_inj {l m : List Nat} : S l = S m ↔ l = m := ⟨fun h => by have := congrArg (fun z : Str => z.cps.toList) h; simpa [S_cps] using this, fun h => by rw [h]⟩
theorem S_app (l m : List Nat) : S l ++ S m = S (l ++ m) := by
  show (⟨(S l).cps ++ (S m).cps⟩ : Str) = _
  simp [S]
theorem S_one (c : Nat) : (⟨#[c]⟩ : Str) = S [c] := rfl

section
variable {X : Cx}
/-- either of two readings of an operation -/
theorem orR {f : Value → Value → Sem Value} {r q : R2} (a : OpR X f r) (b : OpR X f q) : OpR X f (fun x y H Q => r x y H Q ∨ q x y H Q) :=
  fun pins s σ H x y v u Q I rx ry h => h.elim (fun z => a pins s σ H x y v u Q I rx ry z) fun z => b pins s σ H x y v u Q I rx ry z
def rMulS : R2 := fun x y H Q => ∃ (z : Str) (n : Int), x = .str z ∧ y = .int n ∧ MulOk z n ∧ Q (.str (Txt.mul z n)) H
theorem op_mulS : OpR X (binaryOp .Mult) rMulS := fun pins s σ H x y v u Q I rx ry h => by
  obtain ⟨z, n, ex, ey, ok, q⟩ := h
  subst ex ey
  obtain ⟨t, rfl⟩ := rx
  obtain ⟨t', rfl⟩ := ry
  exact SB.mul ok fun _ _ => ⟨.str _, H, I.tok _, ⟨_, rfl⟩, q⟩
/-- a + b: ints, texts, lists, tuples -/
def rAddI : R2 := fun x y H Q => ∃ i j : Int, x = .int i ∧ y = .int j ∧ Q (.int (i + j)) H
def rAddS : R2 := fun x y H Q => ∃ a b : Str, x = .str a ∧ y = .str b ∧ a.length + b.length ≤ sizeLine ∧ Q (.str (a ++ b)) H
def rAdd (K : PySem.W.Frag) : R2 := fun x y H Q => rAddI x y H Q ∨ rAddS x y H Q ∨ rCat x y H Q ∨ rCatA K x y H Q
theorem oAdd : OpR X (binaryOp .Add) (rAdd X.K) :=
  orR (fun pins s σ H x y v u Q I rx ry h => L2.op_add pins s σ H x y v u Q I rx ry h) (orR (fun pins s σ H x y v u Q I rx ry h => L2.op_add_str pins s σ H x y v u Q I rx ry h) (orR L2.op_cat L2.op_catA))
/-- a * b: ints, a text, a list by an int -/
def rMul : R2 := fun x y H Q => rI CMulW (fun i j => .int (i * j)) x y H Q ∨ rMulS x y H Q ∨ rRep x y H Q
theorem oMul : OpR X (binaryOp .Mult) rMul := orR L2.op_mulW (orR op_mulS L2.op_rep)
/-- == and != -/
def rEqA (K : PySem.W.Frag) : R2 := fun x y H Q => rEq x y H Q ∨ rEqD K x y H Q
def rNeA (K : PySem.W.Frag) : R2 := fun x y H Q => rNe x y H Q ∨ rNeD K x y H Q
theorem op_eqA (hu : X.A.units + 64 < cLine) : OpR X (compareOp .Eq) (rEqA X.K) := orR L2.op_eq (L2.op_eqD hu)
theorem op_neA (hu : X.A.units + 64 < cLine) : OpR X (compareOp .NotEq) (rNeA X.K) := orR L2.op_ne (L2.op_neD hu)
/-- in, not in: a sign in a text, a flat thing in a list or tuple -/
def rInS (neg : Bool) : R2 := fun x y H Q => ∃ (c : Nat) (z : Str), x = .str ⟨#[c]⟩ ∧ y = .str z ∧ Q (.bl (if neg = true then !decide (c ∈ z.cps.toList) else decide (c ∈ z.cps.toList))) H
def rInA (K : PySem.W.Frag) (neg : Bool) : R2 := fun x y H Q => rInS neg x y H Q ∨ rIn K neg x y H Q
theorem op_inA : OpR X (compareOp .In) (rInA X.K false) :=
  orR (fun pins s σ H x y v u Q I rx ry h => by obtain ⟨c, z, a, b, q⟩ := h; exact L2.op_in_sign pins s σ H x y v u Q I rx ry ⟨c, z, a, b, by simpa using q⟩) L2.op_in_seq
theorem op_notInA : OpR X (compareOp .NotIn) (rInA X.K true) :=
  orR (fun pins s σ H x y v u Q I rx ry h => by obtain ⟨c, z, a, b, q⟩ := h; exact L2.op_notIn_sign pins s σ H x y v u Q I rx ry ⟨c, z, a, b, by simpa using q⟩) L2.op_notIn_seq
/-- slices -/
def rSl (K : PySem.W.Frag) : V → Option Int → Option Int → Hp → VK → Prop := fun x lo hi H Q => rSlL K x lo hi H Q ∨ rSlS x lo hi H Q
theorem sl_any : SlR X (rSl X.K) := L2.sl_list.or L2.sl_str
/-- repr of data, where no repr is running -/
def rRepr (K : PySem.W.Frag) : List V → Hp → VK → Prop := fun xs H Q => ∃ (x : V) (d : PyData), xs = [x] ∧ Dp K H x d ∧ d.showable = true ∧ d.depth ≤ 60 ∧ d.hasDict = false ∧ d.shown.length ≤ sizeLine ∧ Q (.str d.shown) H
theorem call_repr (hg : X.A.guards = some []) (hu : X.A.units + 64 < cLine) : CallR X (.builtin "repr") (rRepr X.K) := fun pins s σ H xs us Q I r h => by
  obtain ⟨x, d, ex, hd, hs, hdp, hnd, hz, q⟩ := h
  subst ex
  obtain ⟨u, rfl, ru⟩ := vals1 r  -- own
  have hsm : ∀ as : List Addr, d.hasDict = true → sysModules ∉ as := fun as z => by rw [hnd] at z; cases z
  have far : ∀ {a : Addr} {as : List Addr}, Reads s.heap (.ref a) d as → wpAny (model X.prog X.w) X.A (call (.builtin "repr") [.ref a]) (EP X pins σ Q) X.xe s := fun {a as} rd =>
    repr_of_reads' rd hs (hsm as) hg (by omega) (fun _ _ e => e) (fun h' t tk hk => ⟨.str _, H, I.kept hk, ⟨_, rfl⟩, q⟩) hz
  obtain ⟨as, rd⟩ := Dp.reads I d x u hd ru
  cases hd with
  | non => cases (show u = Value.none from ru); exact PySem.P.repr_of_none ⟨.str _, H, I.tok _, ⟨_, rfl⟩, q⟩
  | bl b =>
    cases (show u = Value.bool b from ru)
    exact PySem.P.repr_of_bool ⟨.str _, H, I.tok _, ⟨_, rfl⟩, q⟩
  | int i =>
    obtain ⟨t, e⟩ := (show ∃ t, u = Value.int i t from ru)
    subst e
    exact PySem.P.repr_of_int (by simpa [PyData.showable] using hs) ⟨.str _, H, I.tok _, ⟨_, rfl⟩, q⟩
  | str z =>
    obtain ⟨t, e⟩ := (show ∃ t, u = Value.str z t from ru)
    subst e
    exact PySem.P.repr_of_str ⟨.str _, H, I.tok _, ⟨_, rfl⟩, q⟩ hz
  | lst a b =>
    cases (show u = Value.ref _ from ru)
    exact far rd
  | tup a b =>
    cases (show u = Value.ref _ from ru)
    exact far rd
end
end J

/-! loops: one form for all that is walked; enumerate(text) -/
namespace J
open PySem PySem.Spec PyProof.Rows L2  -- own

/-- the loop's question -/
def LoopQ (J : It) (g : TG) (tb : TS) (D : Ends) (σ : L2.St) (H : Hp) : Prop :=
  ∃ W : Nat → Nat → L2.St → Hp → Prop, (∃ m, W 0 m σ H) ∧
    ∀ i m σ H, W i m σ H → (J.stop i H ∧ D.nx σ H) ∨
      (J.go i H ∧ ∃ N : L2.St → Hp → Prop, (∀ σ' H', N σ' H' → ∃ m', m' < m ∧ W (i + 1) m' σ' H') ∧
        ∀ x H', J.yld i H x H' → g x σ H' fun σ2 H2 => tb { D with nx := N, ct := N, bk := D.nx } σ2 H2)
/-- by an invariant over the turn: n turns -/
theorem loop_of {J : It} {g : TG} {tb : TS} {D : Ends} {σ : L2.St} {H : Hp} (n : Nat) (I : Nat → L2.St → Hp → Prop) (start : I 0 σ H)
    (go : ∀ i σ H, i < n → I i σ H → J.go i H) (stop : ∀ σ H, I n σ H → J.stop n H)
    (turn : ∀ i σ H x H', i < n → I i σ H → J.yld i H x H' → g x σ H' fun σ2 H2 => tb { D with nx := I (i + 1), ct := I (i + 1), bk := D.nx } σ2 H2)
    (fin : ∀ σ H, I n σ H → D.nx σ H) : LoopQ J g tb D σ H := by
  refine ⟨fun i m σ H => m = n - i ∧ i ≤ n ∧ I i σ H, ⟨n, by omega, Nat.zero_le _, start⟩, fun i m σ H w => ?_⟩
  obtain ⟨hm, hi, w⟩ := w
  subst hm
  rcases Nat.lt_or_ge i n with lt | ge
  · exact .inr ⟨go i σ H lt w, I (i + 1), fun σ' H' w' => ⟨n - (i + 1), by omega, rfl, lt, w'⟩, fun x H' y => turn i σ H x H' lt w y⟩
  · obtain rfl : i = n := by omega
    exact .inl ⟨stop σ H w, fin σ H w⟩
/-- the comprehension's question -/
def CompQ (J : It) (g : TG) (tt : TT) (te : TE) (vs : List Nat) (σ : L2.St) (H1 : Hp) (D : Addr) (Z : Hp → Prop) : Prop :=
  ∃ W : Nat → Nat → Hp → Prop, (∃ m, W 0 m (upd H1 D (.lst []))) ∧
    ∀ i m H, W i m H → (J.stop i H ∧ Z H) ∨
      (J.go i H ∧ ∃ Nx : Hp → Prop, (∀ H', Nx H' → ∃ m', m' < m ∧ W (i + 1) m' H') ∧
        ∀ x H', J.yld i H x H' → g x (wipe σ vs) H' fun σ2 H2 => wipe σ2 vs = wipe σ vs ∧ tt σ2 H2 fun b H3 =>
          if b = true then te σ2 H3 fun y H4 => ∃ acc, H4 D = some (.lst acc) ∧ acc.length < sizeLine ∧ Nx (upd H4 D (.lst (acc ++ [y]))) else Nx H3)  -- own
theorem comp_of {J : It} {g : TG} {tt : TT} {te : TE} {vs : List Nat} {σ : L2.St} {H1 : Hp} {D : Addr} {Z : Hp → Prop} (n : Nat) (I : Nat → Hp → Prop) (start : I 0 (upd H1 D (.lst [])))
    (go : ∀ i H, i < n → I i H → J.go i H) (stop : ∀ H, I n H → J.stop n H)
    (turn : ∀ i H x H', i < n → I i H → J.yld i H x H' → g x (wipe σ vs) H' fun σ2 H2 => wipe σ2 vs = wipe σ vs ∧ tt σ2 H2 fun b H3 =>
      if b = true then te σ2 H3 fun y H4 => ∃ acc, H4 D = some (.lst acc) ∧ acc.length < sizeLine ∧ I (i + 1) (upd H4 D (.lst (acc ++ [y]))) else I (i + 1) H3)
    (fin : ∀ H, I n H → Z H) : CompQ J g tt te vs σ H1 D Z := by
  refine ⟨fun i m H => m = n - i ∧ i ≤ n ∧ I i H, ⟨n, by omega, Nat.zero_le _, start⟩, fun i m H w => ?_⟩
  obtain ⟨hm, hi, w⟩ := w
  subst hm
  rcases Nat.lt_or_ge i n with lt | ge
  · exact .inr ⟨go i H lt w, I (i + 1), fun H' w' => ⟨n - (i + 1), by omega, rfl, lt, w'⟩, fun x H' y => turn i H x H' lt w y⟩
  · obtain rfl : i = n := by omega
    exact .inl ⟨stop H w, fin H w⟩

/-! ### enumerate(text) -/
/-- each sign with its number, in a new pair -/
def Ites (z : Str) : It :=
  ⟨fun i _ => i < z.cps.size, fun i H v H' => ∃ (T : Addr) (c : Nat), v = .ref T ∧ H T = none ∧ H' = upd H T (.tup [.int (i : Nat), .str ⟨#[c]⟩]) ∧ z.cps[i]? = some c, fun i _ => i = z.cps.size⟩
theorem draws_str {P : Program} {w : World} {A : Around} (hh : A.handled = none) (it : Addr) (z : Str) (t : Tok) :
    Draws P w A it [it] z.cps.size (fun i v => ∃ c u, z.cps[i]? = some c ∧ v = .str ⟨#[c]⟩ u) (fun i h => h.IsStrIter it (strIterType z) z t i) := by
  unfold strIterType
  split
  · exact Draws.strAscii hh it z t
  · exact Draws.strWide hh it z t
theorem turn_enumS {P : Program} {w : World} {K : PySem.W.Frag} {elts : List Expr} {kk : Nat} {tpos : Pos} (z : Str) (t : Tok) (e it : Addr) :
    Turn P w K (.Tuple elts kk tpos) (Ites z) [e, it] e (fun i h => (∃ old, IsEnum h e it ((i : Nat) : Int) old) ∧ h.IsStrIter it (strIterType z) z t i ∧ e ≠ it) where
  mem := List.mem_cons_self ..
  obj := fun i h st b hb => by
    obtain ⟨⟨old, he⟩, ⟨o, ho, hc, hd⟩, _⟩ := st  -- own
    rcases List.mem_cons.mp hb with q | q
    · subst q; exact ⟨_, he, fun v q => nomatch q⟩
    · obtain rfl := List.mem_singleton.mp q
      exact ⟨o, ho, fun v q => by rw [hd] at q; cases q⟩
  keep := fun i h h' st k => by
    obtain ⟨⟨old, he⟩, ⟨o, ho, r⟩, ne⟩ := st
    exact ⟨⟨old, k e (List.mem_cons_self ..) _ he⟩, ⟨o, k it (List.mem_cons_of_mem _ (List.mem_singleton_self _)) o ho, r⟩, ne⟩
  item := by
    intro X hP hw hK hc i pins s σ H E I hf st hg  -- own
    subst hP hw hK
    obtain ⟨⟨old, he⟩, hit, ne⟩ := st
    have D := draws_str (P := X.prog) (w := X.w) (A := X.A.in1) (I.ok.hd hc) it z t
    have nin : e ∉ [it] := fun q => ne (List.mem_singleton.mp q)
    have le : e < s.heap.objs.size := Heap.lt_size he
    have li : it < s.heap.objs.size := by obtain ⟨_, q⟩ := D.live _ _ hit; exact Heap.lt_size q
    refine wpAny_pyNext_enum_itemD D he hit hg ne nin fun x h' tk hx ho hit' hT hsz hk => ⟨_, rfl, ?_⟩
    obtain ⟨c, u, hcx, rfl⟩ := hx
    refine wpAny_letOwnedTupleGo_enum (s := { s with heap := h', toks := tk + 1 }) ho fun h2 he2 sb => ?_
    have hT2 : h2.get? s.heap.objs.size = some { cls := .type "tuple", data := .seq #[.int i tk, .str ⟨#[c]⟩ u] } := (sb.2 _ (Nat.ne_of_gt le)).trans hT
    have new : ObjOk X.prog X.w (upd H s.heap.objs.size (.tup [.int (i : Nat), .str ⟨#[c]⟩])) h2 s.heap.objs.size (.tup [.int (i : Nat), .str ⟨#[c]⟩]) :=
      ⟨by show 2 ≤ sizeLine; decide, [.int i tk, .str ⟨#[c]⟩ u], .cons ⟨_, rfl⟩ (.cons ⟨_, rfl⟩ .nil), ⟨_, hT2, rfl, _, rfl⟩⟩
    have kp : ∀ b o, b ∉ [e, it] → s.heap.get? b = some o → h2.get? b = some o := fun b o hb q => by
      have n1 : b ≠ e := fun w => hb (w ▸ List.mem_cons_self ..)
      have n2 : b ≠ it := fun w => hb (w ▸ List.mem_cons_of_mem _ (List.mem_singleton_self _))
      exact (sb.2 b n1).trans (hk b o n1 n2 q)
    have I1 := Inv.turnedNew (h' := h2) (t' := tk + 1) (ch := [e, it]) I kp hf (Nat.le_refl _) new
    refine ⟨.ref s.heap.objs.size, _, I1, rfl, ⟨_, c, rfl, I.hok.fresh (Nat.le_refl _), rfl, hcx⟩, ⟨⟨_, he2⟩, D.frame _ _ _ hit' fun b hb o q => ?_, ne⟩, fun b hb => ?_⟩
    · exact (sb.2 b fun w => nin (w ▸ hb)).trans q
    · have lb : b < s.heap.objs.size := by
        rcases List.mem_cons.mp hb with q | q
        · rw [q]; exact le
        · rw [List.mem_singleton.mp q]; exact li
      rw [upd_ne (Nat.ne_of_lt lb)]
      exact (hf b hb).1
  done := by
    intro X hP hw hK hc i pins s σ H E I hf st hg  -- own
    subst hP hw hK
    obtain ⟨⟨old, he⟩, hit, ne⟩ := st
    obtain ⟨f0, f1, f2, f3, f4, f5⟩ := hf it (List.mem_cons_of_mem _ (List.mem_singleton_self _))
    have D := draws_str (P := X.prog) (w := X.w) (A := X.A.in1) (I.ok.hd hc) it z t
    have ei : i = z.cps.size := hg
    subst ei
    exact wpAny_pyNext_enum_endD D he hit fun h' eb => ⟨rfl, I.turned (t' := s.toks) (fun b o hb q => eb b o hb q) f0 f1 f3 f4 f5⟩
  self := fun A i s Q E st h => by  -- own
    obtain ⟨⟨_, he⟩, _⟩ := st
    exact wpAny_pyIter_enum he h
def iEnumS (ta : TA) : TI := fun σ H R => ta σ H fun vs H1 => ∃ z : Str, vs = [.str z] ∧ R (Ites z) H1
theorem pi_enumS {X : Cx} {e : Expr} {ta : TA} {p pos tpos : Pos} {elts : List Expr} {kk : Nat} (hg : Gl X "enumerate") (hm : X.mg "enumerate" = none) (ha : PA X [e] ta)
    (hs : starEach [e] X.env = [(false, eval e X.env)] := by rfl) : PI X (.Tuple elts kk tpos) (.Call (.Name "enumerate" p) [e] [] pos) (iEnumS ta) := by
  refine ⟨fun pins s σ H R I h => Call_ (ld_blt I hg hm boot_enumerate (PyProof.Rows.callWith_type1 (thn (ha.run pos pins s σ H _ I h) fun us s1 q => ?_) hs rfl))⟩
  obtain ⟨vs, H1, I1, r1, z, ez, q1⟩ := q
  subst ez
  obtain ⟨u, rfl, t, rfl⟩ := vals1 r1
  refine call_enumerate_str fun h' he hit hsz hk => wpAny_pyIter_enum he ?_
  have I2 : Inv X pins σ H1 { s1 with heap := h' } := I1.kept (t' := s1.toks) hk  -- own
  refine ⟨s1.heap.objs.size + 1, [s1.heap.objs.size + 1, s1.heap.objs.size], _, _, H1, rfl, I2, turn_enumS z t (s1.heap.objs.size + 1) s1.heap.objs.size, ⟨⟨.none, he⟩, hit, Nat.succ_ne_self _⟩, fun b hb => ?_, q1⟩
  have lb : s1.heap.objs.size ≤ b := by
    rcases List.mem_cons.mp hb with w | w
    · rw [w]; exact Nat.le_succ _
    · rw [List.mem_singleton.mp w]; exact Nat.le_refl _
  exact I1.fpOk lb (I1.hok.fresh lb)
end J

/-! the reading, step by step; heaps; the law's box -/
namespace J
open PySem PySem.Spec PyProof.Rows L2  -- own

section
variable {X : Cx}
/-! ### comparisons of ints or of texts -/
def rCmp (f : Int → Int → Bool) (g : List Nat → List Nat → Bool) : R2 := fun x y H Q => (∃ i j : Int, x = .int i ∧ y = .int j ∧ Q (.bl (f i j)) H) ∨ (∃ a b : Str, x = .str a ∧ y = .str b ∧ Q (.bl (g a.cps.toList b.cps.toList)) H)
theorem op_ltA : OpR X (compareOp .Lt) (rCmp (fun i j => decide (i < j)) fun a b => decide (a < b)) := orR (fun pins s σ H x y v u Q I rx ry h => L2.op_lt pins s σ H x y v u Q I rx ry h) (fun pins s σ H x y v u Q I rx ry h => L2.op_lt_str pins s σ H x y v u Q I rx ry h)
theorem op_leA : OpR X (compareOp .LtE) (rCmp (fun i j => decide (i ≤ j)) fun a b => !decide (b < a)) := orR (fun pins s σ H x y v u Q I rx ry h => L2.op_le pins s σ H x y v u Q I rx ry h) (fun pins s σ H x y v u Q I rx ry h => L2.op_le_str pins s σ H x y v u Q I rx ry h)
theorem op_gtA : OpR X (compareOp .Gt) (rCmp (fun i j => decide (j < i)) fun a b => decide (b < a)) := orR (fun pins s σ H x y v u Q I rx ry h => L2.op_gt pins s σ H x y v u Q I rx ry h) (fun pins s σ H x y v u Q I rx ry h => L2.op_gt_str pins s σ H x y v u Q I rx ry h)
theorem op_geA : OpR X (compareOp .GtE) (rCmp (fun i j => decide (j ≤ i)) fun a b => !decide (a < b)) := orR (fun pins s σ H x y v u Q I rx ry h => L2.op_ge pins s σ H x y v u Q I rx ry h) (fun pins s σ H x y v u Q I rx ry h => L2.op_ge_str pins s σ H x y v u Q I rx ry h)
end

/-! ### steps of the reading: a goal's head tells the one that fits -/
section
variable {σ : L2.St} {H : Hp} {Q : VK} {D : Ends} {K : PySem.W.Frag}
theorem r_var {i : Nat} {v : V} (h : σ[i]? = some (some v)) (k : Q v H) : tVar i σ H Q := ⟨v, h, k⟩
theorem r_c {v : V} (k : Q v H) : tC v σ H Q := k
theorem r_op {r : R2} {ta tb : TE} (k : ta σ H fun x H1 => tb σ H1 fun y H2 => r x y H2 Q) : tOp r ta tb σ H Q := k
theorem r_un {r : V → Hp → VK → Prop} {ta : TE} (k : ta σ H fun x H1 => r x H1 Q) : tUn r ta σ H Q := k
theorem r_cb {r : List V → Hp → VK → Prop} {t : TA} (k : t σ H fun vs H1 => r vs H1 Q) : tCB r t σ H Q := k
theorem r_nil {Q : List V → Hp → Prop} (k : Q [] H) : tNil σ H Q := k
theorem r_cons {ta : TE} {tr : TA} {Q : List V → Hp → Prop} (k : ta σ H fun x H1 => tr σ H1 fun xs H2 => Q (x :: xs) H2) : tCons ta tr σ H Q := k
theorem r_tb {t : TE} {Q : Bool → Hp → Prop} (k : t σ H fun x H1 => ∃ c, x = .bl c ∧ Q c H1) : tB t σ H Q := k
theorem r_test {t : TE} {Q : Bool → Hp → Prop} (k : t σ H fun x H1 => ∃ c, x = .bl c ∧ Q c H1) : tTest t σ H Q := k
theorem r_bl {b : Bool} {Q : Bool → Prop} (k : Q b) : ∃ c, V.bl b = .bl c ∧ Q c := ⟨b, rfl, k⟩
theorem r_not {t : TT} {Q : Bool → Hp → Prop} (k : t σ H fun c H1 => Q (!c) H1) : tNot t σ H Q := k
theorem r_and {t u : TT} {Q : Bool → Hp → Prop} (k : t σ H fun c H1 => if c = true then u σ H1 Q else Q false H1) : tAnd t u σ H Q := k
theorem r_or {t u : TT} {Q : Bool → Hp → Prop} (k : t σ H fun c H1 => if c = true then Q true H1 else u σ H1 Q) : tOr t u σ H Q := k
theorem r_ifE {t : TT} {a b : TE} (k : t σ H fun c H1 => if c = true then a σ H1 Q else b σ H1 Q) : tIf t a b σ H Q := k
theorem r_call {sp : Sp} {dvs : List V} {E : XK} {t : TA} (k : t σ H fun vs H1 => sp (vs ++ dvs) H1 Q E) : tCall sp dvs E t σ H Q := k
theorem r_lst {t : TA} (k : t σ H fun xs H1 => xs.length ≤ sizeLine ∧ ∀ p, H1 p = none → Q (.ref p) (upd H1 p (.lst xs))) : tLst t σ H Q := k
theorem r_tup {t : TA} (k : t σ H fun xs H1 => xs.length ≤ sizeLine ∧ ∀ p, H1 p = none → Q (.ref p) (upd H1 p (.tup xs))) : tTup t σ H Q := k
-- values
theorem r_addI {i j : Int} (k : Q (.int (i + j)) H) : rAdd K (.int i) (.int j) H Q := .inl ⟨i, j, rfl, rfl, k⟩
theorem r_addS {a b : Str} (h : a.length + b.length ≤ sizeLine) (k : Q (.str (a ++ b)) H) : rAdd K (.str a) (.str b) H Q := .inr (.inl ⟨a, b, rfl, rfl, h, k⟩)
theorem r_subI {i j : Int} (k : Q (.int (i - j)) H) : rI0 (fun i j => .int (i - j)) (.int i) (.int j) H Q := ⟨i, j, rfl, rfl, k⟩
theorem r_rI {C : Int → Int → Prop} {g : Int → Int → V} {i j : Int} (h : C i j) (k : Q (g i j) H) : rI C g (.int i) (.int j) H Q := ⟨i, j, rfl, rfl, h, k⟩
theorem r_mulI {i j : Int} (h : CMulW i j) (k : Q (.int (i * j)) H) : rMul (.int i) (.int j) H Q := .inl ⟨i, j, rfl, rfl, h, k⟩
theorem r_mulS {z : Str} {n : Int} (h : MulOk z n) (k : Q (.str (Txt.mul z n)) H) : rMul (.str z) (.int n) H Q := .inr (.inl ⟨z, n, rfl, rfl, h, k⟩)
theorem r_cmpI {f : Int → Int → Bool} {g : List Nat → List Nat → Bool} {i j : Int} (k : Q (.bl (f i j)) H) : rCmp f g (.int i) (.int j) H Q := .inl ⟨i, j, rfl, rfl, k⟩
theorem r_cmpS {f : Int → Int → Bool} {g : List Nat → List Nat → Bool} {a b : Str} (k : Q (.bl (g a.cps.toList b.cps.toList)) H) : rCmp f g (.str a) (.str b) H Q := .inr ⟨a, b, rfl, rfl, k⟩
theorem dec_int {i j : Int} : decide (V.int i = V.int j) = decide (i = j) := by by_cases h : i = j <;> simp [h]
theorem dec_str {i j : Str} : decide (V.str i = V.str j) = decide (i = j) := by by_cases h : i = j <;> simp [h]
theorem r_eqI {i j : Int} (k : Q (.bl (decide (i = j))) H) : rEqA K (.int i) (.int j) H Q := .inl ⟨rfl, by rw [dec_int]; exact k⟩
theorem r_neI {i j : Int} (k : Q (.bl (!decide (i = j))) H) : rNeA K (.int i) (.int j) H Q := .inl ⟨rfl, by rw [dec_int]; exact k⟩
theorem r_eqS {i j : Str} (k : Q (.bl (decide (i = j))) H) : rEqA K (.str i) (.str j) H Q := .inl ⟨rfl, by rw [dec_str]; exact k⟩
theorem r_neS {i j : Str} (k : Q (.bl (!decide (i = j))) H) : rNeA K (.str i) (.str j) H Q := .inl ⟨rfl, by rw [dec_str]; exact k⟩
theorem r_inSF {c : Nat} {z : Str} (k : Q (.bl (decide (c ∈ z.cps.toList))) H) : rInA K false (.str ⟨#[c]⟩) (.str z) H Q := .inl ⟨c, z, rfl, rfl, k⟩
theorem r_inST {c : Nat} {z : Str} (k : Q (.bl (!decide (c ∈ z.cps.toList))) H) : rInA K true (.str ⟨#[c]⟩) (.str z) H Q := .inl ⟨c, z, rfl, rfl, k⟩
theorem log2_small {n : Nat} (h : n < 2 ^ 200) : n.log2 < 300000 := by
  by_cases h0 : n = 0
  · subst h0; decide
  · exact Nat.lt_of_lt_of_le ((Nat.log2_lt h0).mpr h) (by decide)
theorem cmulW {i j : Int} (hi : i.natAbs < 2 ^ 200) (hj : j.natAbs < 2 ^ 200) : CMulW i j := by
  have := log2_small hi
  have := log2_small hj
  show _ + _ < _
  omega
-- items
theorem r_ixL {p : Addr} {xs : List V} {i : Int} {v : V} (h : SqL K H p xs) (e : atI xs i = some v) (k : Q v H) : rIx K (.ref p) (.int i) H Q := .inl ⟨p, xs, i, v, rfl, rfl, h, e, k⟩
theorem r_ixT {p : Addr} {xs : List V} {i : Int} {v : V} (h : SqT K H p xs) (e : atI xs i = some v) (k : Q v H) : rIx K (.ref p) (.int i) H Q := .inr (.inl ⟨p, xs, i, v, rfl, rfl, h, e, k⟩)
theorem r_ixS {z : Str} {i : Int} {c : Nat} (h : z.length ≤ sizeLine) (e : atI z.cps.toList i = some c) (k : Q (.str ⟨#[c]⟩) H) : rIx K (.str z) (.int i) H Q := .inr (.inr ⟨z, i, c, rfl, rfl, h, e, k⟩)
-- statements
theorem r_seq {t u : TS} {n : L2.St → Hp → Prop} {rt : VK} {bk ct : L2.St → Hp → Prop} (k : t { nx := u ⟨n, rt, bk, ct⟩, rt := rt, bk := bk, ct := ct } σ H) : tSeq t u ⟨n, rt, bk, ct⟩ σ H := k
theorem r_next {n : L2.St → Hp → Prop} {rt : VK} {bk ct : L2.St → Hp → Prop} (k : n σ H) : tNext ⟨n, rt, bk, ct⟩ σ H := k
theorem r_ret {te : TE} {n : L2.St → Hp → Prop} {rt : VK} {bk ct : L2.St → Hp → Prop} (k : te σ H rt) : tRet te ⟨n, rt, bk, ct⟩ σ H := k
theorem r_drop {te : TE} {n : L2.St → Hp → Prop} {rt : VK} {bk ct : L2.St → Hp → Prop} (k : te σ H fun _ H1 => n σ H1) : tDrop te ⟨n, rt, bk, ct⟩ σ H := k
theorem r_rI0 {g : Int → Int → V} {i j : Int} (k : Q (g i j) H) : rI0 g (.int i) (.int j) H Q := ⟨i, j, rfl, rfl, k⟩
theorem r_setL {p : Addr} {xs : List V} {i : Int} {j : Nat} {v : V} {Q : Hp → Prop} (h : H p = some (.lst xs)) (e : ixN xs.length i = some j) (k : Q (upd H p (.lst (xs.set j v)))) : rSetL (.ref p) (.int i) v H Q := ⟨p, xs, i, j, rfl, rfl, h, e, k⟩
theorem r_sets {te : TE} {g : TG} {n : L2.St → Hp → Prop} {rt : VK} {bk ct : L2.St → Hp → Prop} (k : te σ H fun x H1 => g x σ H1 n) : tAsg te g ⟨n, rt, bk, ct⟩ σ H := k
theorem r_gname {i : Nat} {v : V} {Q : L2.St → Hp → Prop} (k : Q (σ.set i (some v)) H) : gName i v σ H Q := k
theorem r_ifS {c : TT} {t u : TS} (k : c σ H fun b H1 => if b = true then t D σ H1 else u D σ H1) : tIfS c t u D σ H := k
theorem r_gsub {to ti : TE} {t : TSet} {v : V} {Q : L2.St → Hp → Prop} (k : to σ H fun o H1 => ti σ H1 fun i H2 => t o i v H2 fun H3 => Q σ H3) : gSub to ti t v σ H Q := k
end
/-! ### tests -/
theorem r_ite {b : Bool} {A B : Prop} (h1 : b = true → A) (h2 : b = false → B) : if b = true then A else B := by cases b <;> simp_all
theorem r_iteD {p : Prop} {inst : Decidable p} {A B : Prop} (h1 : p → A) (h2 : ¬ p → B) : if decide p = true then A else B := by by_cases h : p <;> simp_all
theorem r_iteN {p : Prop} {inst : Decidable p} {A B : Prop} (h1 : ¬ p → A) (h2 : p → B) : if (!decide p) = true then A else B := by by_cases h : p <;> simp_all

/-! ### heaps: all but what stands at b is as it was -/
def Keep (b : Addr) (H H' : Hp) : Prop := ∀ p o, H p = some o → p ≠ b → H' p = some o
theorem Keep.refl (b : Addr) (H : Hp) : Keep b H H := fun _ _ h _ => h
theorem Keep.trans {b : Addr} {H H1 H2 : Hp} (x : Keep b H H1) (y : Keep b H1 H2) : Keep b H H2 := fun p o h n => y p o (x p o h n) n
theorem Keep.upd (b : Addr) (H : Hp) (o : HO) : Keep b H (upd H b o) := fun p u h n => by rw [upd_ne n]; exact h
theorem Keep.new {b p : Addr} {H : Hp} (o : HO) (h : H p = none) : Keep b H (L2.upd H p o) := fun q u hq _ => by rw [upd_ne (ne_of_none hq h)]; exact hq
theorem Keep.same {b : Addr} {H H' : Hp} (h : Same H H') : Keep b H H' := fun p o q _ => h p o q
theorem Keep.seq {K : PySem.W.Frag} {b a : Addr} {xs : List V} {H H' : Hp} (x : Keep b H H') (n : a ≠ b) (h : SqL K H a xs) : SqL K H' a xs := by
  rcases h with (h | ⟨o, h⟩) | h  -- own
  · exact .inl (.inl (x _ _ h n))
  · exact .inl (.inr ⟨o, x _ _ h n⟩)
  · exact .inr h
theorem Keep.free {b a : Addr} {H H' : Hp} (x : Keep b H H') (n : a ≠ b) (h : H' a = none) : H a = none := by
  cases q : H a with
  | none => rfl
  | some o => rw [x a o q n] at h; cases h
theorem new_ne {H : Hp} {p q : Addr} {o : HO} (h : H p = none) (h' : H q = some o) : p ≠ q := fun e => by rw [e, h'] at h; cases h

/-! ### the law's box: three ints, at most n draws -/
def Bx (H : Hp) (b : Addr) (n : Nat) : Prop := ∃ x y z : Int, H b = some (.lst [.int x, .int y, .int z]) ∧ 0 ≤ x ∧ 0 ≤ y ∧ y < 2147483629 ∧ 0 ≤ z ∧ z ≤ n
theorem Bx.mono {H : Hp} {b : Addr} {n m : Nat} (h : Bx H b n) (l : n ≤ m) : Bx H b m := by
  obtain ⟨x, y, z, e, a1, a2, a3, a4, a5⟩ := h
  exact ⟨x, y, z, e, a1, a2, a3, a4, by omega⟩
theorem Bx.new {H : Hp} {b p : Addr} {n : Nat} {o : HO} (h : Bx H b n) (f : H p = none) : Bx (upd H p o) b n := by
  obtain ⟨x, y, z, e, r⟩ := h
  exact ⟨x, y, z, by rw [upd_ne (new_ne f e).symm]; exact e, r⟩
/-- a draw: below m -/
def spTake : Sp := fun vs H Q _ => ∃ (b : Addr) (m : Int) (n : Nat), vs = [.ref b, .int m] ∧ Bx H b n ∧ n ≤ 1000000000 ∧ 1 ≤ m ∧ m < 1000000000 ∧
  ∀ (k : Int) (H' : Hp), 0 ≤ k → k < m → Keep b H H' → Bx H' b (n + 1) → Q (.int k) H'
end J

/-! the promises of the defs that cut and quote lines -/
namespace J
open PySem PySem.Spec PyProof.Rows L2 M

abbrev cd (z : Str) : List Nat := z.cps.toList
theorem cd_S (l : List Nat) : cd (S l) = l := S_cps l
theorem cd_app (a b : Str) : cd (a ++ b) = cd a ++ cd b := by show (a.cps ++ b.cps).toList = _; simp
theorem cd_one (c : Nat) : cd ⟨#[c]⟩ = [c] := rfl
theorem len_cd (z : Str) : z.length = (cd z).length := by simp [Str.length]
theorem str_eq {a b : Str} : a = b ↔ cd a = cd b := ⟨fun h => by rw [h], fun h => by rw [← S_of a, ← S_of b]; exact congrArg S h⟩
/-- a text of signs -/
def sg (l : List Nat) : Bool := l.all fun c => decide (32 ≤ c ∧ c ≤ 126)
theorem sg_iff {l : List Nat} : sg l = true ↔ ∀ c ∈ l, 32 ≤ c ∧ c ≤ 126 := by simp [sg]
def wV (l : List Nat) : V := .str (S l)
def obV : Option (List Nat) → V
  | none => .non
  | some l => .str (S l)
def qV (q : Nat) : V := .str (if q = 0 then S [] else S [q])
/-- a line without line feeds: signs, at most 2,000 -/
def Ln (l : List Nat) : Prop := l.length ≤ 2000 ∧ ∀ c ∈ l, 32 ≤ c ∧ c ≤ 126

def spSigns : Sp := fun vs H Q _ => ∃ z : Str, vs = [.str z] ∧ z.length ≤ 10000000 ∧ ∀ H', Same H H' → Q (.bl (sg (cd z))) H'
def spIsWord : Sp := fun vs H Q _ => ∃ z : Str, vs = [.str z] ∧ z.length ≤ 10000000 ∧ ∀ H', Same H H' → Q (.bl (decide (z.length ≤ 40) && sg (cd z))) H'
def spIsLine : Sp := fun vs H Q _ => ∃ z : Str, vs = [.str z] ∧ Ln (cd z) ∧ ∀ H', Same H H' → Q (.bl true) H'
def spAreWords (K : PySem.W.Frag) : Sp := fun vs H Q _ => ∃ (a : Addr) (ls : List (List Nat)), vs = [.ref a] ∧ (H a = some (.lst (ls.map wV)) ∨ H a = some (.tup (ls.map wV))) ∧ ls.length ≤ 40 ∧ (∀ l ∈ ls, Wd l) ∧ ∀ H', Same H H' → Q (.bl true) H'
def spLonger : Sp := fun vs H Q _ => ∃ (b : Option (List Nat)) (c : Nat) (i : Int), vs = [obV b, .str ⟨#[c]⟩, .int i] ∧ (b.getD []).length + 1 ≤ 40 ∧ Q (.str (S (b.getD [] ++ [c]))) H
def spRefuse : Sp := fun vs H Q _ => ∃ n : Int, vs = [.int n] ∧ n ≤ 40 ∧ Q .non H
def spScanned : Sp := fun vs H Q _ => ∃ (z : Str) (t : Sc), vs = [.str z] ∧ Ln (cd z) ∧ scan stP 0 sc0 (cd z) = .ok t ∧ t.tk = false ∧
  ∀ (p w : Addr) (H' : Hp), H p = none → H w = none → Same H H' → H' p = some (.tup [.ref w, obV t.bg, qV t.qt, .int t.op]) → H' w = some (.lst (t.ws.map wV)) → p ≠ w → Q (.ref p) H'
/-- all words of a state -/
def fin (t : Sc) : List (List Nat) := t.ws ++ t.bg.toList
def spCut : Sp := fun vs H Q _ => ∃ (z : Str) (t : Sc), vs = [.str z] ∧ Ln (cd z) ∧ scan stP 0 sc0 (cd z) = .ok t ∧ t.tk = false ∧ t.qt = 0 ∧ (fin t).length ≤ 40 ∧
  ∀ (w : Addr) (H' : Hp), H w = none → Same H H' → H' w = some (.lst ((fin t).map wV)) → Q (.ref w) H'
def spEscaped : Sp := fun vs H Q _ => ∃ z n : Str, vs = [.str z, .str n] ∧ z.length ≤ 100000 ∧ ∀ H', Same H H' → Q (.str (S (esc (cd n) (cd z)))) H'
def spWays : Sp := fun vs H Q _ => ∃ z : Str, vs = [.str z] ∧ z.length ≤ 100000 ∧ ∀ (w : Addr) (H' : Hp), H w = none → Same H H' → H' w = some (.lst ((ways (cd z)).map wV)) → Q (.ref w) H'
def spQuoted : Sp := fun vs H Q _ => ∃ z : Str, vs = [.str z] ∧ Wd (cd z) ∧ ∀ (v : List Nat) (H' : Hp), FM (ways (cd z)) v → Same H H' → Q (.str (S v)) H'
/-- each of a list's first shortest ways -/
inductive FMs : List (List Nat) → List (List Nat) → Prop
  | nil : FMs [] []
  | cons {l v : List Nat} {ls vs : List (List Nat)} (h : FM (ways l) v) (r : FMs ls vs) : FMs (l :: ls) (v :: vs)
theorem FM.mem {xs : List (List Nat)} {v : List Nat} (h : FM xs v) : v ∈ xs := let ⟨_, hi, _⟩ := h; List.mem_of_getElem? hi
theorem FMs.ways : ∀ {ls vs : List (List Nat)}, FMs ls vs → (∀ l ∈ ls, Wd l) → Ways ls vs
  | _, _, .nil, _ => .nil
  | _, _, .cons h r, w => .cons (w _ (List.mem_cons_self ..)) (FM.mem h) (r.ways fun l hl => w l (List.mem_cons_of_mem _ hl))
theorem FMs.uniq : ∀ {ls vs us : List (List Nat)}, FMs ls vs → FMs ls us → vs = us
  | _, _, _, .nil, .nil => rfl
  | _, _, _, .cons h r, .cons h' r' => by rw [FM.uniq h h', r.uniq r']
theorem FMs.snoc : ∀ {ls vs : List (List Nat)} {l v : List Nat}, FMs ls vs → FM (M.ways l) v → FMs (ls ++ [l]) (vs ++ [v])
  | _, _, _, _, .nil, h => .cons h .nil  -- own
  | _, _, _, _, .cons h' r, h => .cons h' (r.snoc h)
theorem FMs.len : ∀ {ls vs : List (List Nat)}, FMs ls vs → ls.length = vs.length
  | _, _, .nil => rfl
  | _, _, .cons _ r => by simp [r.len]  -- own
def spJoined (K : PySem.W.Frag) : Sp := fun vs H Q _ => ∃ (a : Addr) (ls : List (List Nat)), vs = [.ref a] ∧ (H a = some (.lst (ls.map wV)) ∨ H a = some (.tup (ls.map wV))) ∧ ls.length ≤ 40 ∧ (∀ l ∈ ls, Wd l) ∧
  ∀ (us : List (List Nat)) (H' : Hp), FMs ls us → Same H H' → Q (.str (S (jn us))) H'
-- the law's
def spBox : Sp := fun vs H Q _ => ∃ c : Int, vs = [.int c] ∧ ∀ (p : Addr) (H' : Hp), H p = none → Same H H' → Bx H' p 0 → Q (.ref p) H'
def spPick (K : PySem.W.Frag) : Sp := fun vs H Q _ => ∃ (b : Addr) (n : Nat), Bx H b n ∧ n ≤ 900000000 ∧
  ((∃ z : Str, vs = [.ref b, .str z] ∧ 0 < z.length ∧ z.length ≤ 1000 ∧ ∀ (c : Nat) (H' : Hp), c ∈ cd z → Keep b H H' → Bx H' b (n + 1) → Q (.str ⟨#[c]⟩) H') ∨
   (∃ (a : Addr) (xs : List V), vs = [.ref b, .ref a] ∧ a ≠ b ∧ SqL K H a xs ∧ 0 < xs.length ∧ xs.length ≤ 1000 ∧ ∀ (v : V) (H' : Hp), v ∈ xs → Keep b H H' → Bx H' b (n + 1) → Q v H'))
def spSign : Sp := fun vs H Q _ => ∃ (b : Addr) (n : Nat), vs = [.ref b] ∧ Bx H b n ∧ n ≤ 800000000 ∧ ∀ (c : Nat) (H' : Hp), 32 ≤ c → c ≤ 126 → Keep b H H' → Bx H' b (n + 2) → Q (.str ⟨#[c]⟩) H'
def spWord : Sp := fun vs H Q _ => ∃ (b : Addr) (n m : Nat), vs = [.ref b, .int m] ∧ m ≤ 40 ∧ Bx H b n ∧ n ≤ 700000000 ∧ ∀ (l : List Nat) (H' : Hp), l.length ≤ max m 8 → Wd l → Keep b H H' → Bx H' b (n + 100) → Q (.str (S l)) H'
end J

/-! min(texts, key=len); replace where there is nothing to replace; more steps of the reading -/
namespace J
open PySem PySem.Spec PyProof.Rows L2 M
open Sem (wp)

theorem argBest_first (f : Nat → Int) : ∀ k : Nat, argBest (fun i j => decide (f i < f j)) k ≤ k ∧ ∀ j, j ≤ k → f (argBest (fun i j => decide (f i < f j)) k) ≤ f j ∧ (j < argBest (fun i j => decide (f i < f j)) k → f (argBest (fun i j => decide (f i < f j)) k) < f j)
  | 0 => ⟨Nat.le_refl _, fun j hj => by
      obtain rfl : j = 0 := by omega
      exact ⟨Int.le_refl _, fun h => absurd h (Nat.lt_irrefl _)⟩⟩
  | k + 1 => by
    obtain ⟨h1, h2⟩ := argBest_first f k
    unfold argBest
    by_cases c : f (k + 1) < f (argBest (fun i j => decide (f i < f j)) k)
    · rw [if_pos (decide_eq_true c)]  -- own
      refine ⟨Nat.le_refl _, fun j hj => ?_⟩  -- own
      rcases Nat.lt_or_ge k j with q | q
      · obtain rfl : j = k + 1 := by omega
        exact ⟨Int.le_refl _, fun h => absurd h (Nat.lt_irrefl _)⟩
      · have := (h2 j q).1
        exact ⟨by omega, fun _ => by omega⟩  -- own
    · rw [if_neg (by simpa using c)]
      refine ⟨by omega, fun j hj => ?_⟩  -- own
      rcases Nat.lt_or_ge k j with q | q
      · obtain rfl : j = k + 1 := by omega
        exact ⟨by omega, fun h => by omega⟩
      · exact h2 j q
section
variable {X : Cx}
/-- min(xs, key=len) of a list of texts: the first of the shortest -/
def tMinLen (K : PySem.W.Frag) (te : TE) : TE := fun σ H Q => te σ H fun x H1 => ∃ (a : Addr) (ls : List (List Nat)), x = .ref a ∧ SqL K H1 a (ls.map wV) ∧ 0 < ls.length ∧ (∀ l ∈ ls, l.length < 1000000) ∧ ∀ v, FM ls v → Q (.str (S v)) H1
theorem pe_minLen {e : Expr} {te : TE} {p p2 kp pos : Pos} (he : PE X e te) (hc : X.calm = true) (hg : Gl X "min") (hm : X.mg "min" = none) (hg2 : Gl X "len") (hm2 : X.mg "len" = none)
    (h1 : backTo pos (starEach [e] X.env) = (false, eval e X.env) :: backTo pos (starEach [] X.env) := by rfl) (h2 : (backTo pos (starEach [e] X.env)).any (·.1) = false := by rfl)
    (h3 : (backToKw pos (keywordEach [⟨some "key", .Name "len" p2, kp⟩] X.env)).all (·.1.isSome) = true := by rfl) (h4 : (backToKw pos (keywordEach [⟨some "key", .Name "len" p2, kp⟩] X.env)).any (·.1.isNone) = false := by rfl)
    (h0 : starEach [e] X.env = (false, eval e X.env) :: starEach [] X.env := by rfl)
    (h5 : (backToKw pos (keywordEach [⟨some "key", .Name "len" p2, kp⟩] X.env)).filterMap (·.1) = [Str.ofString "key"] := by rfl) :
    PE X (.Call (.Name "min" p) [e] [⟨some "key", .Name "len" p2, kp⟩] pos) (tMinLen X.K te) := by
  refine ⟨fun pins s σ H Q I h => wpAny_Call_Name_kw (ld_blt (u := .builtin "min") I hg hm (by decide +kernel) ?_ (by decide) (by decide))⟩
  refine PyProof.Rows.callWith_kw (thn ((pa_cons he pa_nil h0).run pos pins s σ H (fun vs H1 => match vs with
    | [x] => ∃ (a : Addr) (ls : List (List Nat)), x = .ref a ∧ SqL X.K H1 a (ls.map wV) ∧ 0 < ls.length ∧ (∀ l ∈ ls, l.length < 1000000) ∧ ∀ v, FM ls v → Q (.str (S v)) H1
    | _ => False) I h) fun us s1 hh => ?_) h1 h2 h3 h4
  obtain ⟨vs, H1, I1, r1, q1⟩ := hh
  cases r1 with
  | nil => exact q1.elim
  | cons rx rr =>
    cases rr with
    | cons _ _ => exact q1.elim
    | nil =>
      obtain ⟨a, ls, ex, hs, hn, hl, q⟩ := q1
      subst ex
      cases rx
      rw [h5]
      show wpAny _ _ (evalAll [do let v ← eval (.Name "len" p2) X.env; standAt pos; pure v]) _ _ s1
      refine wpAny_evalAll_cons (wpAny_bind (ld_blt (u := .builtin "len") I1 hg2 hm2 (by decide +kernel) (wpAny_bind (wpAny_standAt (wpAny_pure (wpAny_evalAll_nil ?_)))) (by decide) (by decide)))
      show wpAny _ _ (call (.builtin "min") [.ref a] [(Str.ofString "key", .builtin "len")]) _ _ s1
      obtain ⟨its, rv, hL, hz⟩ := I1.list hs
      have hlen := rv.length
      rw [List.length_map] at hlen
      have hla : a < s1.heap.objs.size := by obtain ⟨o, e, _⟩ := hL.isList; exact Heap.lt_size e
      have at_ : ∀ (i : Nat) (v : Value), its.toArray[i]? = some v → ∃ l t, ls[i]? = some l ∧ v = .str (S l) t := fun i v hv => by
        have hv' : its[i]? = some v := by simpa using hv  -- own
        cases e : ls[i]? with
        | none =>
          have := Vals.none_of rv (i := i) (by rw [List.getElem?_map, e]; rfl)
          rw [hv'] at this; cases this
        | some l =>
          obtain ⟨u, hu, ru⟩ := rv.get (i := i) (x := wV l) (by rw [List.getElem?_map, e]; rfl)
          rw [hv'] at hu; cases hu
          obtain ⟨t, et⟩ := (show ∃ t, v = Value.str (S l) t from ru)
          exact ⟨l, t, rfl, et⟩
      refine call_min_walkKB (wpAny_pyIter_list hL.isList ?_)
      have W := (Walks.list (prog := X.prog) (w := X.w) (A := X.A.in1) (I1.ok.hd hc) s1.heap.objs.size a (Nat.ne_of_lt hla) its.toArray).toS
      refine ⟨_, _, _, _, _, _, _, (fun s' : Shared => (∀ b o, s1.heap.get? b = some o → s'.heap.get? b = some o) ∧ s'.gens = s1.gens ∧ s'.drawn = s1.drawn ∧ s'.os = s1.os), (fun (i : Nat) (k : Value) (_ : Shared) => ∃ t, k = Value.int (((ls[i]?.getD []).length : Nat) : Int) t),
        (fun i j => decide ((((ls[i]?.getD []).length : Nat) : Int) < (((ls[j]?.getD []).length : Nat) : Int))), rfl, W, ⟨⟨_, Heap.get?_push_size _ rfl, rfl, rfl⟩, hL.isList.push _⟩, fun b hb => ?_, by simp; omega, ⟨?_, ?_, ?_, ?_⟩, ⟨fun b o e => Heap.get?_push_of_some _ e, rfl, rfl, rfl⟩, fun v s' hv hJ => ?_⟩
      · show b < (s1.heap.push _).objs.size
        rw [Heap.size_push]
        rcases List.mem_cons.mp hb with q | q
        · rw [q]; exact Nat.lt_succ_self _
        · rw [List.mem_singleton.mp q]; exact Nat.lt_succ_of_lt hla
      · intro s2 s3 ⟨k1, k2, k3, k4⟩ m
        refine ⟨fun b o e => m.heap b o (fun hm => ?_) (k1 b o e), (show s3.gens = s2.gens from m.gens).trans k2, m.drawn.trans k3, m.os.trans k4⟩
        have lb := Heap.lt_size e
        simp only [List.mem_cons, List.not_mem_nil, or_false] at hm  -- own
        have sz : (s1.heap.push { cls := Value.type "list_iterator", data := Data.fields #[Value.ref a, Value.int 0 0] }).objs.size = s1.heap.objs.size + 1 := Heap.size_push ..
        rcases hm with q | q
        · have q' : b = s1.heap.objs.size + 1 := q.trans sz
          rw [q'] at lb
          exact Nat.lt_irrefl _ (Nat.lt_of_succ_lt lb)
        · rw [q] at lb
          exact Nat.lt_irrefl _ lb
      · exact fun _ _ _ _ h _ => h
      · intro i v s2 o Q' E' hi hP hJ hst hS hq
        obtain ⟨l, t, hl', rfl⟩ := at_ i v hP
        refine PySem.P.len_str ?_ (hq _ _ hJ hst hS ⟨_, by rw [hl', S_len]; rfl⟩ fun _ _ h => h)
        have := hl l (List.mem_of_getElem? hl')
        rw [S_len]; omega
      · intro i j ki kj s2 Q' E' _ hi hj h
        obtain ⟨t, rfl⟩ := hi
        obtain ⟨u, rfl⟩ := hj
        exact richCompare_gives (op := .Lt) (typeIs_int s2 _ t) (typeIs_int s2 _ u) PySem.F.slot_int_lt PySem.F.entry_int_lt (PySem.F.args_int_lt_2 _ _) (gives_int_lt _ _ t u) (fun x => nomatch x) h
      · obtain ⟨l, t, hl', rfl⟩ := at_ _ v hv
        obtain ⟨k1, k2, k3, k4⟩ := hJ
        obtain ⟨h', g', d', t', o'⟩ := s'  -- own
        simp only at k1 k2 k3 k4
        subst k2 k3 k4
        obtain ⟨b1, b2⟩ := argBest_first (fun i => (((ls[i]?.getD []).length : Nat) : Int)) (its.toArray.size - 1)
        refine ⟨.str (S l), H1, I1.kept k1, ⟨t, rfl⟩, q l ⟨_, hl', fun j w hj => ?_⟩⟩
        have lj := (List.getElem?_eq_some_iff.mp hj).1
        have := b2 j (by simp; omega)
        simp only [hl', hj, Option.getD_some] at this
        exact ⟨by omega, fun q => by have := this.2 q; omega⟩

/-! ### replace where there is nothing to replace -/
def rRep0 : V → List V → Hp → VK → Prop := fun x xs H Q => ∃ (a b : Str) (c : Nat), x = .str a ∧ xs = [.str ⟨#[c]⟩, .str b] ∧ c ∉ cd a ∧ Q (.str a) H
theorem occ_nil {x : Str} {c : Nat} (h : c ∉ cd x) : (Builtin.Str.occurrences x ⟨#[c]⟩ 0 x.length (x.length + 1)).isEmpty = true := by
  obtain ⟨f, q⟩ := StrLaws.occ_chain x ⟨#[c]⟩ (x.length + 1)
  cases e : Builtin.Str.occurrences x ⟨#[c]⟩ 0 x.length (x.length + 1) with
  | nil => rfl
  | cons i r =>
    rw [e] at q
    exact absurd (List.mem_of_getElem? ((StrLaws.subAt_one x c i).mp q.2.1)) h
theorem mt_rep0 : MtR X "str.replace" rRep0 := fun pins s σ H x xs v us Q I r rr h => by
  obtain ⟨a, b, c, ex, exs, hc, q⟩ := h
  subst ex exs
  obtain ⟨t, rfl⟩ := r
  obtain ⟨u1, u2, rfl, r1, r2⟩ := vals2 rr
  obtain ⟨t1, rfl⟩ := (show ∃ t, u1 = Value.str ⟨#[c]⟩ t from r1)
  obtain ⟨t2, rfl⟩ := (show ∃ t, u2 = Value.str b t from r2)
  have e := occ_nil hc
  refine call_gives PySem.F.slot_str_replace (typeIs_str _ _ _) PySem.F.entry_str_replace (PySem.F.args_str_replace_3 _ _ _) (gives_str_replace a ⟨#[c]⟩ b t t1 t2 fun z => by rw [e] at z; cases z) ?_
  rw [e]
  exact ⟨.str a, H, I, ⟨t, rfl⟩, q⟩
end
/-! ### joined texts -/
theorem l_nil' : cd (Str.ofString "") = [] := by decide +kernel
theorem l_sp' : cd (Str.ofString " ") = [32] := by decide +kernel
theorem tj (a : Str) (ys : List Str) : Txt.join a ys = Str.join a ys := StrLaws.glued_eq_join ..
theorem join_nil : ∀ ls : List (List Nat), Txt.join (Str.ofString "") (ls.map S) = S ls.flatten
  | [] => by decide +kernel
  | [x] => by rw [tj]; show S x = _; simp
  | x :: y :: r => by
    have ih := join_nil (y :: r)
    rw [tj] at ih ⊢
    show S x ++ Str.ofString "" ++ Str.join (Str.ofString "") ((y :: r).map S) = _
    rw [ih, str_eq, cd_app, cd_app, cd_S, cd_S, cd_S, l_nil']
    simp
theorem join_sp : ∀ ls : List (List Nat), Txt.join (Str.ofString " ") (ls.map S) = S (jn ls)
  | [] => by decide +kernel
  | [x] => by rw [tj]; rfl
  | x :: y :: r => by
    have ih := join_sp (y :: r)
    rw [tj] at ih ⊢
    show S x ++ Str.ofString " " ++ Str.join (Str.ofString " ") ((y :: r).map S) = _
    rw [ih, str_eq, cd_app, cd_app, cd_S, cd_S, cd_S, l_sp']
    simp [jn]
theorem sum_le : ∀ (ls : List (List Nat)) (B : Nat), (∀ l ∈ ls, l.length ≤ B) → ((ls.map S).map (·.length)).sum ≤ B * ls.length
  | [], B, _ => by simp
  | l :: ls, B, h => by
    have ih := sum_le ls B fun m hm => h m (List.mem_cons_of_mem _ hm)
    have := h l (List.mem_cons_self ..)
    simp only [List.map_cons, List.sum_cons, List.length_cons, S_len]
    rw [Nat.mul_add, Nat.mul_one]
    omega
/-! ### built-ins, their readings named -/
def rLen (K : PySem.W.Frag) : List V → Hp → VK → Prop := fun xs H Q => ∃ x n, xs = [x] ∧ LenV K x H n ∧ Q (.int (n : Nat)) H
def rIntA : List V → Hp → VK → Prop := fun xs H Q => (∃ i, xs = [V.int i] ∧ Q (V.int i) H) ∨ ∃ k, xs = [V.bl k] ∧ Q (V.int (if k = true then 1 else 0)) H
def rMax2 : List V → Hp → VK → Prop := fun xs H Q => ∃ i j, xs = [V.int i, V.int j] ∧ Q (V.int (if j > i then j else i)) H
def rMin2 : List V → Hp → VK → Prop := fun xs H Q => ∃ i j, xs = [V.int i, V.int j] ∧ Q (V.int (if j < i then j else i)) H
def rListOf (K : PySem.W.Frag) : List V → Hp → VK → Prop := fun xs H Q => ∃ p ys, xs = [.ref p] ∧ (SqL K H p ys ∨ SqT K H p ys) ∧ ∀ l, H l = none → Q (.ref l) (upd H l (.lst ys))
def rTupOf (K : PySem.W.Frag) : List V → Hp → VK → Prop := fun xs H Q => ∃ p ys, xs = [.ref p] ∧ ((SqL K H p ys ∧ ∀ l, H l = none → Q (.ref l) (upd H l (.tup ys))) ∨ (SqT K H p ys ∧ Q (.ref p) H))
def rJoin (K : PySem.W.Frag) : V → List V → Hp → VK → Prop := fun x xs H Q => ∃ a p, ∃ ys : List Str, x = .str a ∧ xs = [.ref p] ∧ (SqL K H p (ys.map V.str) ∨ SqT K H p (ys.map V.str)) ∧ (ys.map (·.length)).sum + ys.length * a.length ≤ 16777216 ∧ Q (.str (Txt.join a ys)) H
section
variable {X : Cx}
theorem call_lenA : CallR X (.builtin "len") (rLen X.K) := L2.call_len
theorem call_intA : CallR X (.type "int") rIntA := L2.call_int1
theorem call_maxA (hc : X.calm = true) : CallR X (.builtin "max") rMax2 := L2.call_max2 hc
theorem call_minA (hc : X.calm = true) : CallR X (.builtin "min") rMin2 := L2.call_min2 hc
theorem call_listA : CallR X (.type "list") (rListOf X.K) := L2.call_list_of
theorem call_tupA : CallR X (.type "tuple") (rTupOf X.K) := L2.call_tuple_of
end
/-! ### the written part by its own name -/
section
variable {X : Cx} {K : PySem.W.Frag} {e tg : Expr} {T : String} {r : V → List V → Hp → VK → Prop} {to tb : TE} {t : TA}
theorem asBM (eK : X.K = K) (h : PE X e (tBM X.K T r to t)) : PE X e (tBM K T r to t) := eK ▸ h
theorem asJoin (eK : X.K = K) (h : PE X e (tM1 (rJoin X.K) to tb)) : PE X e (tM1 (rJoin K) to tb) := eK ▸ h
theorem asOrT (eK : X.K = K) (h : PE X e (tOrT X.K to tb)) : PE X e (tOrT K to tb) := eK ▸ h
theorem asMin (eK : X.K = K) (h : PE X e (tMinLen X.K to)) : PE X e (tMinLen K to) := eK ▸ h
theorem asList (eK : X.K = K) (h : PI X tg e (iList X.K to)) : PI X tg e (iList K to) := eK ▸ h
theorem asTup (eK : X.K = K) (h : PI X tg e (iTup X.K to)) : PI X tg e (iTup K to) := eK ▸ h
end
/-! ### constants of the module -/
section
variable {X : Cx} {x : Str} {pos : Pos}
theorem pe_gI {n : Int} (h : ∃ t, X.mg x = some (.int n t)) (hg : Gl X x) (hd : (x == ("__debug__" : Str)) = false := by decide) : PE X (.Name x pos) (tC (.int n)) := let ⟨t, e⟩ := h; pe_glob hg e ⟨t, rfl⟩ hd
theorem pe_gS {z : Str} (h : ∃ t, X.mg x = some (.str z t)) (hg : Gl X x) (hd : (x == ("__debug__" : Str)) = false := by decide) : PE X (.Name x pos) (tC (.str z)) := let ⟨t, e⟩ := h; pe_glob hg e ⟨t, rfl⟩ hd
theorem pe_gR {a : Addr} (h : X.mg x = some (.ref a)) (hg : Gl X x) (hd : (x == ("__debug__" : Str)) = false := by decide) : PE X (.Name x pos) (tC (.ref a)) := pe_glob hg h rfl hd
end
/-- a def as the top has left it -/
structure DAt (K : PySem.W.Frag) (mg : Str → Option Value) (x : Str) (st : Stmt) (ps : List Str) (f : Addr) (fd : FuncData) : Prop where
  fn : Fun K x x st f fd
  gl : mg x = some (.ref f)
  bd : Binds K fd ps []
/-! ### heaps, again -/
theorem _root_.L2.Same.at {H H' : Hp} {p : Addr} (s : Same H H') (n : H p = none) (o : HO) : Same H (upd H' p o) := fun b u h => by rw [upd_ne (ne_of_none h n)]; exact s b u h
theorem _root_.L2.Same.new {H H' : Hp} {p : Addr} (s : Same H H') (n : H' p = none) (o : HO) : Same H (upd H' p o) := fun b u h => by rw [upd_ne (ne_of_none (s b u h) n)]; exact s b u h
theorem _root_.L2.Same.seqT {K : PySem.W.Frag} {H H' : Hp} {a : Addr} {xs : List V} (e : Same H H') (h : SqT K H a xs) : SqT K H' a xs := by
  rcases h with (h | ⟨o, h⟩) | h  -- own
  · exact .inl (.inl (e _ _ h))
  · exact .inl (.inr ⟨o, e _ _ h⟩)  -- own
  · exact .inr h
theorem take_snoc {α : Type} {l : List α} {i : Nat} {c : α} (h : l[i]? = some c) : l.take (i + 1) = l.take i ++ [c] := by rw [List.take_add_one, h]; rfl
theorem cps_at {z : Str} {i c : Nat} (h : z.cps[i]? = some c) : (cd z)[i]? = some c := by simpa using h
theorem one_lt {a b : Nat} : ([a] < [b]) ↔ a < b := by simp [List.cons_lt_cons_iff]
theorem not_dec {p : Prop} {i : Decidable p} : (!decide p) = decide (¬ p) := by by_cases h : p <;> simp [h]
theorem l_sp : (Str.ofString " ").cps.toList = [32] := by decide +kernel
theorem l_til : (Str.ofString "~").cps.toList = [126] := by decide +kernel
theorem l_nl : (Str.ofString "\n").cps.toList = [10] := by decide +kernel
theorem l_q1 : (Str.ofString "'").cps.toList = [39] := by decide +kernel
theorem l_q2 : (Str.ofString "\"").cps.toList = [34] := by decide +kernel
theorem l_bs : (Str.ofString "\\").cps.toList = [92] := by decide +kernel
theorem l_nil : (Str.ofString "").cps.toList = [] := by decide +kernel
theorem l_part : (Str.ofString " \n").cps.toList = [32, 10] := by decide +kernel
theorem l_need : (Str.ofString " '\"\\").cps.toList = [32, 39, 34, 92] := by decide +kernel
theorem l_need2 : (Str.ofString "\"\\").cps.toList = [34, 92] := by decide +kernel
theorem l_all : (Str.ofString " \n'\"\\").cps.toList = [32, 10, 39, 34, 92] := by decide +kernel
theorem l_qs : (Str.ofString "'\"").cps.toList = [39, 34] := by decide +kernel
theorem one_cps (c : Nat) : (⟨#[c]⟩ : Str).cps.toList = [c] := rfl
theorem len_app (a b : Str) : (a ++ b).length = a.length + b.length := by rw [len_cd, cd_app, List.length_append, ← len_cd, ← len_cd]
theorem S_nil_app (c : Nat) : (Str.ofString "" ++ ⟨#[c]⟩ : Str) = S ([] ++ [c]) := by rw [str_eq, cd_app, cd_S]; simp [l_nil]
theorem S_app_one (l : List Nat) (c : Nat) : (S l ++ ⟨#[c]⟩ : Str) = S (l ++ [c]) := S_app l [c]
theorem le_line {n : Nat} (h : n ≤ 16777216) : n ≤ sizeLine := h
theorem big : (1000000 : Nat) < sizeLine := by decide
/-! ### more steps -/
section
variable {σ : L2.St} {H : Hp} {Q : VK} {D : Ends} {K : PySem.W.Frag}
theorem r_andV {a b : TE} (k : a σ H fun x H1 => ∃ c, x = .bl c ∧ if c = true then b σ H1 Q else Q (.bl false) H1) : tAndV a b σ H Q := k
theorem r_orV {a b : TE} (k : a σ H fun x H1 => ∃ c, x = .bl c ∧ if c = true then Q (.bl true) H1 else b σ H1 Q) : tOrV a b σ H Q := k
theorem r_notV {a : TE} (k : a σ H fun x H1 => ∃ c, x = .bl c ∧ Q (.bl (!c)) H1) : tNotV a σ H Q := k
theorem r_chain {r r' : R2} {ta tb tc : TE} (k : ta σ H fun x H1 => tb σ H1 fun y H2 => r x y H2 fun z H3 => ∃ k, z = .bl k ∧ (if k = true then tc σ H3 fun w' H4 => r' y w' H4 Q else Q (.bl false) H3)) : tChain r r' ta tb tc σ H Q := k
theorem r_slice {r : V → Option Int → Option Int → Hp → VK → Prop} {te : TE} {tl th : TO} (k : te σ H fun x H1 => tl σ H1 fun l H2 => th σ H2 fun u H3 => r x l u H3 Q) : tSl r te tl th σ H Q := k
theorem r_nop {Q : Option Int → Hp → Prop} (k : Q none H) : tNoPart σ H Q := k
theorem r_part {t : TE} {Q : Option Int → Hp → Prop} (k : t σ H fun x H1 => ∃ i, x = .int i ∧ Q (some i) H1) : tPart t σ H Q := k
theorem r_isI {i : Int} {Q : Int → Prop} (k : Q i) : ∃ j, V.int i = .int j ∧ Q j := ⟨i, rfl, k⟩
theorem r_isiStr {z : Str} (k : Q (.bl true) H) : rIsi K [.str z, .ty "str"] H Q := ⟨_, _, _, _, true, rfl, .ty _, .base (.str z), kit_ty (by decide +kernel), k⟩
theorem r_len {z : Str} (h : z.length ≤ sizeLine) (k : Q (.int (z.length : Nat)) H) : rLen K [V.str z] H Q := ⟨_, _, rfl, ⟨h, rfl⟩, k⟩
theorem r_lenL {p : Addr} {xs : List V} (h : SqL K H p xs) (k : Q (.int (xs.length : Nat)) H) : rLen K [V.ref p] H Q := ⟨_, _, rfl, .inl ⟨xs, h, rfl⟩, k⟩
theorem r_lenT {p : Addr} {xs : List V} (h : SqT K H p xs) (k : Q (.int (xs.length : Nat)) H) : rLen K [V.ref p] H Q := ⟨_, _, rfl, .inr ⟨xs, h, rfl⟩, k⟩
theorem r_bm {T : String} {r : V → List V → Hp → VK → Prop} {to : TE} {t : TA} (k : to σ H fun x H1 => tyV K T x H1 ∧ t σ H1 fun xs H2 => r x xs H2 Q) : tBM K T r to t σ H Q := k
theorem r_m1 {r : V → List V → Hp → VK → Prop} {to te : TE} (k : to σ H fun x H1 => (∃ a, x = .str a) ∧ te σ H1 fun y H2 => r x [y] H2 Q) : tM1 r to te σ H Q := k
theorem r_isStr {z : Str} {P : Prop} (k : P) : (∃ a, V.str z = .str a) ∧ P := ⟨⟨z, rfl⟩, k⟩
theorem r_isS {z : Str} {Q : Str → Prop} (k : Q z) : ∃ x, V.str z = .str x ∧ Q x := ⟨z, rfl, k⟩
theorem r_lcS {te te' : TE} {g : TG} {tt : TT} {vs : List Nat} (k : te σ H fun v H1 => ∃ z, v = .str z ∧ ∀ E, H1 E = none → CompQ (Its z) g tt te' vs σ H1 E fun H => Q (.ref E) H) : tLc (iStr te) g tt te' vs σ H Q := k
theorem r_lcL {te te' : TE} {g : TG} {tt : TT} {vs : List Nat} (k : te σ H fun v H1 => ∃ a, v = .ref a ∧ (∃ xs, SqL K H1 a xs) ∧ ∀ E, H1 E = none → CompQ (Itl K a) g tt te' vs σ H1 E fun H => Q (.ref E) H) : tLc (iList K te) g tt te' vs σ H Q := k
theorem r_orT {te tb : TE} (k : te σ H fun x H1 => ∃ k, TruV K x H1 k ∧ if k = true then Q x H1 else tb σ H1 Q) : tOrT K te tb σ H Q := k
theorem r_truN {A B : Prop} (h : B) : ∃ k, TruV K .non H k ∧ if k = true then A else B := ⟨false, rfl, iteF h⟩
theorem r_truS {z : Str} {A B : Prop} (hl : z.length ≤ sizeLine) (h0 : z.length = 0 → B) (h1 : z.length ≠ 0 → A) : ∃ k, TruV K (.str z) H k ∧ if k = true then A else B := by
  by_cases e : z.length = 0
  · exact ⟨false, ⟨hl, by rw [e]; rfl⟩, iteF (h0 e)⟩
  · exact ⟨true, ⟨hl, by simp [e]⟩, iteT (h1 e)⟩
theorem r_join {a : Str} {p : Addr} {ls : List (List Nat)} (h : SqL K H p (ls.map wV)) (B : Nat) (hB : ∀ l ∈ ls, l.length ≤ B) (hn : B * ls.length + ls.length * a.length ≤ 16777216) (k : Q (.str (Txt.join a (ls.map S))) H) : rJoin K (.str a) [.ref p] H Q := by
  have := sum_le ls B hB
  exact ⟨a, p, ls.map S, rfl, rfl, .inl (by rw [List.map_map]; exact h), by rw [List.length_map]; omega, k⟩
theorem r_app {l : Addr} {xs : List V} {y : V} (h : H l = some (.lst xs)) (hz : xs.length < sizeLine) (k : Q .non (upd H l (.lst (xs ++ [y])))) : rAppend (.ref l) [y] H Q := ⟨l, xs, y, rfl, rfl, h, hz, k⟩
theorem r_tyL {l : Addr} {xs : List V} {B : Prop} (h : H l = some (.lst xs)) (k : B) : tyV K "list" (.ref l) H ∧ B := ⟨.inl ⟨rfl, _, SqL.of h⟩, k⟩
/-- a statement ahead of others: the rest is shown once -/
theorem r_seqJ {t u : TS} {n : L2.St → Hp → Prop} {rt : VK} {bk ct : L2.St → Hp → Prop} (Mid : L2.St → Hp → Prop) (first : ∀ N : L2.St → Hp → Prop, (∀ σ' H', Mid σ' H' → N σ' H') → t ⟨N, rt, bk, ct⟩ σ H)
    (rest : ∀ σ' H', Mid σ' H' → u ⟨n, rt, bk, ct⟩ σ' H') : tSeq t u ⟨n, rt, bk, ct⟩ σ H := first _ rest
theorem r_intI {i : Int} (k : Q (.int i) H) : rIntA [.int i] H Q := .inl ⟨i, rfl, k⟩
theorem r_intB {b : Bool} (k : Q (.int (if b = true then 1 else 0)) H) : rIntA [.bl b] H Q := .inr ⟨b, rfl, k⟩
theorem r_max2 {i j : Int} (k : Q (.int (if j > i then j else i)) H) : rMax2 [.int i, .int j] H Q := ⟨i, j, rfl, k⟩
theorem r_min2 {i j : Int} (k : Q (.int (if j < i then j else i)) H) : rMin2 [.int i, .int j] H Q := ⟨i, j, rfl, k⟩
theorem r_yes {Q : Bool → Hp → Prop} (k : Q true H) : tYes σ H Q := k
end
end J

/-! a list or a tuple walked; comprehensions that leave the heap as it was -/
namespace J
open PySem PySem.Spec PyProof.Rows L2 M

/-- a walk over what stays -/
structure SeqIt (J : It) (xs : List V) (H0 : Hp) : Prop where
  go : ∀ i H, Same H0 H → i < xs.length → J.go i H
  stop : ∀ H, Same H0 H → J.stop xs.length H
  yld : ∀ i H x H', Same H0 H → J.yld i H x H' → H' = H ∧ xs[i]? = some x
theorem _root_.L2.Same.seqL {K : PySem.W.Frag} {H H' : Hp} {a : Addr} {xs : List V} (e : Same H H') (h : SqL K H a xs) : SqL K H' a xs := by
  rcases h with (h | ⟨o, h⟩) | h  -- own
  · exact .inl (.inl (e _ _ h))
  · exact .inl (.inr ⟨o, e _ _ h⟩)  -- own
  · exact .inr h
theorem seqIt_l {K : PySem.W.Frag} {a : Addr} {xs : List V} {H : Hp} (h : SqL K H a xs) : SeqIt (Itl K a) xs H where
  go := fun i H' s hi => ⟨xs, _, s.seqL h, List.getElem?_eq_getElem hi⟩
  stop := fun H' s => ⟨xs, s.seqL h, Nat.le_refl _⟩
  yld := fun i H' x H'' s y => ⟨y.1, y.2 xs (s.seqL h)⟩
theorem seqIt_t {K : PySem.W.Frag} {a : Addr} {xs : List V} {H : Hp} (h : SqT K H a xs) : SeqIt (Itt K a) xs H where
  go := fun i H' s hi => ⟨xs, _, s.seqT h, List.getElem?_eq_getElem hi⟩
  stop := fun H' s => ⟨xs, s.seqT h, Nat.le_refl _⟩
  yld := fun i H' x H'' s y => ⟨y.1, y.2 xs (s.seqT h)⟩
def sgnV (c : Nat) : V := .str ⟨#[c]⟩
theorem seqIt_s {z : Str} {H : Hp} : SeqIt (Its z) ((cd z).map sgnV) H where
  go := fun i H' s hi => by
    have : (cd z).length = z.cps.size := by simp
    rw [List.length_map, this] at hi; exact hi
  stop := fun H' s => by
    have : (cd z).length = z.cps.size := by simp
    rw [List.length_map, this]; exact Nat.le_refl _
  yld := fun i H' x H'' s y => by
    obtain ⟨rfl, c, hc, rfl⟩ := y
    exact ⟨rfl, by rw [List.getElem?_map, cps_at hc]; rfl⟩
theorem SeqIt.mono {J : It} {xs : List V} {H H1 : Hp} (a : SeqIt J xs H) (s : Same H H1) : SeqIt J xs H1 :=
  ⟨fun i H' t hi => a.go i H' (s.trans t) hi, fun H' t => a.stop H' (s.trans t), fun i H' x H'' t y => a.yld i H' x H'' (s.trans t) y⟩
/-- one y for each x, all else as it was -/
theorem comp_same {J : It} {g : TG} {te : TE} {vs : List Nat} {σ : L2.St} {H1 : Hp} {D : Addr} {Z : Hp → Prop} {xs : List V} (SI : SeqIt J xs H1) (hD : H1 D = none) (ys : List V) (hl : ys.length = xs.length) (hs : xs.length < sizeLine)
    (turn : ∀ (i : Nat) (x : V) (H : Hp) (N : V → Hp → Prop), xs[i]? = some x → Same H1 H → (∀ y H4, ys[i]? = some y → Same H H4 → N y H4) → g x (wipe σ vs) H fun σ2 H2 => wipe σ2 vs = wipe σ vs ∧ te σ2 H2 N)
    (fin : ∀ H, Same H1 H → H D = some (.lst ys) → Z H) : CompQ J g tYes te vs σ H1 D Z := by
  refine comp_of xs.length (fun i H => Same H1 H ∧ H D = some (.lst (ys.take i))) ⟨(Same.refl H1).at hD _, by rw [upd_same]; rfl⟩ (fun i H hi w => SI.go i H w.1 hi) (fun H w => SI.stop H w.1) (fun i H x H' hi w y => ?_) (fun H w => ?_)
  · obtain ⟨rfl, hx⟩ := SI.yld i H x H' w.1 y
    exact turn i x H' _ hx w.1 fun y H4 hy s => ⟨_, s _ _ w.2, Nat.lt_of_le_of_lt (by rw [List.length_take]; omega) hs, (w.1.trans s).at hD _, by rw [upd_same, take_snoc hy]⟩
  · have : ys.take xs.length = ys := List.take_of_length_le (Nat.le_of_eq hl)
    rw [this] at w
    exact fin H w.1 w.2
/-- a list or a tuple walked -/
def iSeq (K : PySem.W.Frag) (tl : TE) : TI := fun σ H R => tl σ H fun x H1 => ∃ a xs, x = .ref a ∧ ((SqL K H1 a xs ∧ R (Itl K a) H1) ∨ (SqT K H1 a xs ∧ R (Itt K a) H1))
theorem pi_seq {X : Cx} {tg l : Expr} {tl : TE} (hl : PE X l tl) : PI X tg l (iSeq X.K tl) := by
  refine ⟨fun pins s σ H R I h => ?_⟩  -- own
  refine thn (hl.run pins s σ H _ I h) fun v s1 ⟨x, H1, I1, r1, q1⟩ => ?_  -- own
  obtain ⟨a, xs, e, q⟩ := q1
  subst e
  cases r1
  have low : ∀ b, b ∈ [s1.heap.objs.size] → b = s1.heap.objs.size := fun b hb => by simpa using hb
  rcases q with ⟨hq, q⟩ | ⟨hq, q⟩  -- own
  · obtain ⟨its, rv, p, hz⟩ := I1.list hq
    refine wpAny_pyIter_list p.isList ⟨s1.heap.objs.size, [s1.heap.objs.size], _, _, H1, rfl, I1.kept (t' := s1.toks) fun b o e => Heap.get?_push_of_some _ e, turn_list a _, ⟨_, Heap.get?_push_size _ rfl, rfl, rfl⟩, fun b hb => ?_, q⟩
    rw [low b hb]
    exact I1.fpOk (Nat.le_refl _) (I1.hok.fresh (Nat.le_refl _))  -- own
  · obtain ⟨its, rv, p, hz⟩ := I1.tuple hq
    refine wpAny_pyIter_tuple (show s1.heap.IsTuple a its.toArray from p) ⟨s1.heap.objs.size, [s1.heap.objs.size], _, _, H1, rfl, I1.kept (t' := s1.toks) fun b o e => Heap.get?_push_of_some _ e, turn_tuple a _, ⟨_, Heap.get?_push_size _ rfl, rfl, rfl⟩, fun b hb => ?_, q⟩
    rw [low b hb]
    exact I1.fpOk (Nat.le_refl _) (I1.hok.fresh (Nat.le_refl _))  -- own
theorem asSeq {X : Cx} {K : PySem.W.Frag} {e tg : Expr} {to : TE} (eK : X.K = K) (h : PI X tg e (iSeq X.K to)) : PI X tg e (iSeq K to) := eK ▸ h
section
variable {σ : L2.St} {H : Hp} {Q : VK} {K : PySem.W.Frag}
/-- of a variable -/
theorem r_lcV {i : Nat} {a : Addr} {xs : List V} {te' : TE} {g : TG} {tt : TT} {vs : List Nat} (hv : σ[i]? = some (some (.ref a))) (hs : SqL K H a xs ∨ SqT K H a xs) (k : ∀ J, SeqIt J xs H → ∀ E, H E = none → CompQ J g tt te' vs σ H E fun H => Q (.ref E) H) :
    tLc (iSeq K (tVar i)) g tt te' vs σ H Q := by
  exact ⟨.ref a, hv, a, xs, rfl, hs.elim (fun h => .inl ⟨h, fun E hE => k _ (seqIt_l h) E hE⟩) fun h => .inr ⟨h, fun E hE => k _ (seqIt_t h) E hE⟩⟩
theorem r_iteNT {A B : Prop} (h : B) : if (!true) = true then A else B := h
theorem r_iteNF {A B : Prop} (h : A) : if (!false) = true then A else B := h
theorem r_minL {te : TE} (k : te σ H fun x H1 => ∃ (a : Addr) (ls : List (List Nat)), x = .ref a ∧ SqL K H1 a (ls.map wV) ∧ 0 < ls.length ∧ (∀ l ∈ ls, l.length < 1000000) ∧ ∀ v, FM ls v → Q (.str (S v)) H1) : tMinLen K te σ H Q := k
theorem r_inLT {a z : Str} (c : Nat) (e : cd a = [c]) (k : Q (.bl (!decide (c ∈ cd z))) H) : rInA K true (.str a) (.str z) H Q := by
  obtain rfl : a = ⟨#[c]⟩ := by rw [str_eq, e]
  exact r_inST k
theorem r_inLF {a z : Str} (c : Nat) (e : cd a = [c]) (k : Q (.bl (decide (c ∈ cd z))) H) : rInA K false (.str a) (.str z) H Q := by
  obtain rfl : a = ⟨#[c]⟩ := by rw [str_eq, e]
  exact r_inSF k
end
/-! ### the first of the shortest is there -/
theorem FM_ex {xs : List (List Nat)} (h : 0 < xs.length) : ∃ v, FM xs v := by
  obtain ⟨b1, b2⟩ := argBest_first (fun i => (((xs[i]?.getD []).length : Nat) : Int)) (xs.length - 1)
  have hb : argBest (fun i j => decide ((((xs[i]?.getD []).length : Nat) : Int) < (((xs[j]?.getD []).length : Nat) : Int))) (xs.length - 1) < xs.length := by omega
  refine ⟨_, _, List.getElem?_eq_getElem hb, fun j w hj => ?_⟩
  have lj := (List.getElem?_eq_some_iff.mp hj).1
  have := b2 j (by omega)
  simp only [List.getElem?_eq_getElem hb, hj, Option.getD_some] at this
  exact ⟨by omega, fun q => by have := this.2 q; omega⟩
theorem ways_pos (l : List Nat) : 0 < (ways l).length := by simp only [ways, List.length_append, List.length_cons]; omega
theorem FMs.ex : ∀ ls : List (List Nat), ∃ us, FMs ls us
  | [] => ⟨_, .nil⟩
  | l :: ls => let ⟨_, h⟩ := FM_ex (ways_pos l); let ⟨_, r⟩ := FMs.ex ls; ⟨_, .cons h r⟩
theorem FMs.at : ∀ {ls us : List (List Nat)}, FMs ls us → ∀ {i : Nat} {l v : List Nat}, ls[i]? = some l → FM (M.ways l) v → us[i]? = some v
  | _, _, .cons h r, 0, l, v, e, hv => by
    cases (show some _ = some l from e)
    exact congrArg some (FM.uniq h hv)
  | _, _, .cons h r, i + 1, l, v, e, hv => r.at (i := i) e hv
/-- isinstance of a list or a tuple, by both classes -/
theorem r_isiLT {K : PySem.W.Frag} {H : Hp} {Q : VK} {a p : Addr} {xs : List V} (hs : H a = some (.lst xs) ∨ H a = some (.tup xs)) (hp : H p = some (.tup [V.ty "list", V.ty "tuple"])) (k : Q (.bl true) H) : rIsiT K [.ref a, .ref p] H Q := by
  rcases hs with h | h
  · exact ⟨_, p, _, _, _, true, rfl, hp, .cons (.ty _) (.cons (.ty _) .nil), .base (.lst h), rfl, k⟩
  · exact ⟨_, p, _, _, _, true, rfl, hp, .cons (.ty _) (.cons (.ty _) .nil), .base (.tup h), rfl, k⟩
theorem r_len2 {K : PySem.W.Frag} {H : Hp} {Q : VK} {a : Addr} {xs : List V} (hs : SqL K H a xs ∨ SqT K H a xs) (k : Q (.int (xs.length : Nat)) H) : rLen K [V.ref a] H Q := hs.elim (fun h => r_lenL h k) fun h => r_lenT h k
end J

/-! tuple targets, two stores at once, loops over a text's signs with their numbers -/
namespace J
open PySem PySem.Spec PyProof.Rows L2 M
theorem asGTup {X : Cx} {K : PySem.W.Frag} {tg : Expr} {n : Nat} {t : TGs} (eK : X.K = K) (h : PG X tg (gTup X.K n t)) : PG X tg (gTup K n t) := eK ▸ h
section
variable {σ : L2.St} {H : Hp} {Q : L2.St → Hp → Prop} {K : PySem.W.Frag}
theorem r_gtup {a : Addr} {xs : List V} {n : Nat} {t : TGs} (h : SqT K H a xs) (hn : xs.length = n) (k : t xs σ H Q) : gTup K n t (.ref a) σ H Q := ⟨a, xs, rfl, h, hn, k⟩
theorem r_gcons {v : V} {r : List V} {t : TG} {u : TGs} (k : t v σ H fun σ' H' => u r σ' H' Q) : gCons t u (v :: r) σ H Q := ⟨v, r, rfl, k⟩
theorem r_gnil (k : Q σ H) : gNil [] σ H Q := ⟨rfl, k⟩
theorem r_par {i j : Nat} {ta : TA} {n : L2.St → Hp → Prop} {rt : VK} {bk ct : L2.St → Hp → Prop} (k : ta σ H fun vs H1 => ∃ v w, vs = [v, w] ∧ n ((σ.set i (some v)).set j (some w)) H1) : tPar i j ta ⟨n, rt, bk, ct⟩ σ H := k
theorem r_is2 {v w : V} {P : V → V → Prop} (k : P v w) : ∃ v' w', [v, w] = [v', w'] ∧ P v' w' := ⟨v, w, rfl, k⟩
theorem r_par3 {i j l : Nat} {ta : TA} {n : L2.St → Hp → Prop} {rt : VK} {bk ct : L2.St → Hp → Prop} (k : ta σ H fun vs H1 => ∃ u v w, vs = [u, v, w] ∧ n (((σ.set i (some u)).set j (some v)).set l (some w)) H1) : tPar3 i j l ta ⟨n, rt, bk, ct⟩ σ H := k
theorem r_is3 {u v w : V} {P : V → V → V → Prop} (k : P u v w) : ∃ u' v' w', [u, v, w] = [u', v', w'] ∧ P u' v' w' := ⟨u, v, w, rfl, k⟩
/-- for i, c in enumerate(text): an invariant over the number of signs walked -/
theorem r_forEnum {z : Str} {i : Nat} {g : TG} {tb : TS} {n : L2.St → Hp → Prop} {rt : VK} {bk ct : L2.St → Hp → Prop} (hv : σ[i]? = some (some (.str z))) (I : Nat → L2.St → Hp → Prop) (start : I 0 σ H)
    (turn : ∀ (j : Nat) σ1 H1 (T : Addr) (c : Nat), (cd z)[j]? = some c → I j σ1 H1 → H1 T = none → g (.ref T) σ1 (upd H1 T (.tup [.int (j : Nat), .str ⟨#[c]⟩])) fun σ2 H2 => tb ⟨I (j + 1), rt, n, I (j + 1)⟩ σ2 H2)
    (fin : ∀ σ1 H1, I (cd z).length σ1 H1 → n σ1 H1) : tFor (iEnumS (tCons (tVar i) tNil)) g tb ⟨n, rt, bk, ct⟩ σ H := by
  have e : (cd z).length = z.cps.size := by simp
  refine ⟨.str z, hv, z, rfl, ?_⟩
  exact loop_of (D := ⟨n, rt, bk, ct⟩) z.cps.size I start (fun j _ _ hj _ => hj) (fun _ _ _ => rfl) (fun j σ1 H1 x H' hj w y => by
    obtain ⟨T, c, rfl, hT, rfl, hc⟩ := y
    exact turn j σ1 H1 T c (cps_at hc) w hT) (fun σ1 H1 w => fin σ1 H1 (by rw [e]; exact w))
end
end J

/-! single signs and quotes compared -/
namespace J
open PySem PySem.Spec PyProof.Rows L2 M
def qS (q : Nat) : Str := if q = 0 then S [] else S [q]
theorem one_eq {b : Str} {c d : Nat} (h : cd b = [d]) : (⟨#[c]⟩ : Str) = b ↔ c = d := by
  rw [str_eq, h]; show [c] = [d] ↔ _; simp
theorem qS_cd (q : Nat) : cd (qS q) = if q = 0 then [] else [q] := by unfold qS; split <;> exact cd_S _
theorem one_nl {c : Nat} : (⟨#[c]⟩ : Str) = Str.ofString "\n" ↔ c = 10 := one_eq l_nl
theorem one_bs {c : Nat} : (⟨#[c]⟩ : Str) = Str.ofString "\\" ↔ c = 92 := one_eq l_bs
theorem one_q1 {c : Nat} : (⟨#[c]⟩ : Str) = Str.ofString "'" ↔ c = 39 := one_eq l_q1
theorem one_q2 {c : Nat} : (⟨#[c]⟩ : Str) = Str.ofString "\"" ↔ c = 34 := one_eq l_q2
theorem qS_nil {q : Nat} : qS q = Str.ofString "" ↔ q = 0 := by
  rw [str_eq, qS_cd, show cd (Str.ofString "") = [] from l_nil]; split <;> simp_all
theorem qS_q1 {q : Nat} : qS q = Str.ofString "'" ↔ q = 39 := by
  rw [str_eq, qS_cd, show cd (Str.ofString "'") = [39] from l_q1]; split <;> simp_all
theorem one_qS {c q : Nat} : (⟨#[c]⟩ : Str) = qS q ↔ c = q ∧ q ≠ 0 := by
  rw [str_eq, qS_cd]; show [c] = _ ↔ _; split <;> simp_all
theorem mem_part {c : Nat} : c ∈ (Str.ofString " \n").cps.toList ↔ c = 32 ∨ c = 10 := by rw [l_part]; simp
theorem mem_qs {c : Nat} : c ∈ (Str.ofString "'\"").cps.toList ↔ c = 39 ∨ c = 34 := by rw [l_qs]; simp
theorem mem_all {c : Nat} : c ∈ (Str.ofString " \n'\"\\").cps.toList ↔ c = 32 ∨ c = 10 ∨ c = 39 ∨ c = 34 ∨ c = 92 := by rw [l_all]; simp
theorem iteDT {p : Prop} {i : Decidable p} {A B : Prop} (h : p) (k : A) : if decide p = true then A else B := by rw [if_pos (decide_eq_true h)]; exact k
theorem iteDF {p : Prop} {i : Decidable p} {A B : Prop} (h : ¬ p) (k : B) : if decide p = true then A else B := by rw [if_neg (by rw [decide_eq_false h]; exact Bool.false_ne_true)]; exact k
theorem iteNT {p : Prop} {i : Decidable p} {A B : Prop} (h : ¬ p) (k : A) : if (!decide p) = true then A else B := by rw [if_pos (by rw [decide_eq_false h]; rfl)]; exact k
theorem iteNF {p : Prop} {i : Decidable p} {A B : Prop} (h : p) (k : B) : if (!decide p) = true then A else B := by rw [if_neg (by rw [decide_eq_true h]; exact Bool.false_ne_true)]; exact k
section
variable {σ : L2.St} {H : Hp} {Q : VK} {K : PySem.W.Frag}
theorem r_inQ {a : Addr} {c : Nat} (h : SqT K H a [.str "'", .str "\""]) (k : Q (.bl (decide (c = 39 ∨ c = 34))) H) : rInA K false (.str ⟨#[c]⟩) (.ref a) H Q := by
  refine .inr ⟨a, _, rfl, .inr h, rfl, rfl, ?_⟩
  have e : inV (V.str ⟨#[c]⟩) [.str "'", .str "\""] = decide (c = 39 ∨ c = 34) := by
    unfold inV
    simp only [List.any_cons, List.any_nil, Bool.or_false]
    have e1 : eqV (V.str (Str.ofString "'")) (V.str ⟨#[c]⟩) = decide (c = 39) := by
      show decide (Str.ofString "'" = ⟨#[c]⟩) = _
      exact decide_eq_decide.mpr (eq_comm.trans one_q1)
    have e2 : eqV (V.str (Str.ofString "\"")) (V.str ⟨#[c]⟩) = decide (c = 34) := by
      show decide (Str.ofString "\"" = ⟨#[c]⟩) = _
      exact decide_eq_decide.mpr (eq_comm.trans one_q2)
    rw [e1, e2]
    exact (Bool.decide_or _ _).symm
  rw [e]
  exact k
end
theorem scan_inv {st : Sc → Nat → Nat → Except Nat Sc} (Pr : Sc → Prop) (h : ∀ s i c t, Pr s → st s i c = .ok t → Pr t) : ∀ (l : List Nat) (i : Nat) (s t : Sc), Pr s → scan st i s l = .ok t → Pr t
  | [], _, s, t, p, e => by cases e; exact p
  | c :: l, i, s, t, p, e => by
    unfold M.scan at e
    cases hs : st s i c with
    | error x => rw [hs] at e; cases e
    | ok u => rw [hs] at e; exact scan_inv Pr h l (i + 1) u t (h s i c u p hs) e
theorem stP_bg {s t : Sc} {i c : Nat} (p : (s.bg.getD []).length ≤ 40) (e : stP s i c = .ok t) : (t.bg.getD []).length ≤ 40 := by
  unfold stP at e
  repeat' split at e
  all_goals first
    | cases e; done
    | (cases e; first | exact p | (simp only [Option.getD_some]; omega) | (simp only [Option.getD_some]; exact p) | exact Nat.zero_le _)
theorem scan_bg {l : List Nat} {t : Sc} (h : scan stP 0 sc0 l = .ok t) : (t.bg.getD []).length ≤ 40 := scan_inv (fun s => (s.bg.getD []).length ≤ 40) (fun _ _ _ _ p e => stP_bg p e) l 0 sc0 t (Nat.zero_le _) h
end J

/-! ranges; texts of drawn signs; the law's states -/
namespace J
open PySem PySem.Spec PyProof.Rows L2 M
theorem Keep.at {b D : Addr} {H H' : Hp} (k : Keep b H H') (n : H D = none) (o : HO) : Keep b H (L2.upd H' D o) := fun q u hq ne => by rw [upd_ne (ne_of_none hq n)]; exact k q u hq ne
theorem Bx.at {b D : Addr} {H : Hp} {n : Nat} (h : Bx H b n) (ne : D ≠ b) (o : HO) : Bx (upd H D o) b n := by
  obtain ⟨x, y, z, e, r⟩ := h
  exact ⟨x, y, z, by rw [upd_ne ne.symm]; exact e, r⟩
theorem Bx.ne {b p : Addr} {H : Hp} {n : Nat} (h : Bx H b n) (hp : H p = none) : p ≠ b := by
  obtain ⟨_, _, _, e, _⟩ := h
  exact new_ne hp e
section
variable {σ : L2.St} {H : Hp} {Q : VK} {K : PySem.W.Frag}
theorem r_lcR {i q : Nat} {te' : TE} {g : TG} {tt : TT} {vs : List Nat} (hv : σ[i]? = some (some (.int (q : Nat)))) (hq : q < 2 ^ 62) (k : ∀ E, H E = none → CompQ (Itr 0 q) g tt te' vs σ H E fun H => Q (.ref E) H) : tLc (iRng1 (tCons (tVar i) tNil)) g tt te' vs σ H Q := by
  refine ⟨_, hv, q, rfl, by omega, by omega, ?_⟩
  rw [Int.toNat_natCast]
  exact k
theorem r_forR {n' : L2.St → Hp → Prop} {rt : VK} {bk ct : L2.St → Hp → Prop} {q : Nat} {g : TG} {tb : TS} (hq : q < 2 ^ 62) (I : Nat → L2.St → Hp → Prop) (start : I 0 σ H)
    (turn : ∀ (j : Nat) σ1 H1, j < q → I j σ1 H1 → g (.int (j : Nat)) σ1 H1 fun σ2 H2 => tb ⟨I (j + 1), rt, n', I (j + 1)⟩ σ2 H2)
    (fin : ∀ σ1 H1, I q σ1 H1 → n' σ1 H1) : tFor (iRng1 (tCons (tC (.int (q : Nat))) tNil)) g tb ⟨n', rt, bk, ct⟩ σ H := by
  refine ⟨q, rfl, by omega, by omega, ?_⟩
  rw [Int.toNat_natCast]
  exact loop_of (D := ⟨n', rt, bk, ct⟩) q I start (fun j _ _ hj _ => hj) (fun _ _ _ => Nat.le_refl _) (fun j σ1 H1 x H' hj w y => by
    obtain ⟨rfl, rfl⟩ := y
    have e : (0 + (j : Nat) : Int) = (j : Nat) := by omega
    rw [e]
    exact turn j σ1 H' hj w) fin
theorem map_sgn (l : List Nat) : l.map sgnV = (l.map fun c => [c]).map wV := by rw [List.map_map]; rfl
theorem flat_one (l : List Nat) : (l.map fun c => [c]).flatten = l := by
  induction l with
  | nil => rfl
  | cons c l ih => rw [List.map_cons, List.flatten_cons, ih]; rfl
/-- signs joined by nothing -/
theorem r_joinC {p : Addr} {l : List Nat} (h : H p = some (.lst (l.map sgnV))) (hl : l.length ≤ 1000000) (k : Q (.str (S l)) H) : rJoin K (.str (Str.ofString "")) [.ref p] H Q := by
  refine r_join (ls := l.map fun c => [c]) (SqL.of (by rw [← map_sgn]; exact h)) 1 (fun v hv => ?_) ?_ ?_
  · obtain ⟨c, _, rfl⟩ := List.mem_map.mp hv
    exact Nat.le_refl _
  · have : (Str.ofString "").length = 0 := rfl
    rw [List.length_map, this]; omega
  · rw [_root_.J.join_nil, flat_one]
    exact k
end
end J

/-! lists of words compared; comprehensions that leave out -/
namespace J
open PySem PySem.Spec PyProof.Rows L2 M
/-- what is left, each x by f -/
theorem comp_filt {J : It} {g : TG} {tt : TT} {te : TE} {vs : List Nat} {σ : L2.St} {H1 : Hp} {D : Addr} {Z : Hp → Prop} {xs : List V} (SI : SeqIt J xs H1) (hD : H1 D = none) (f : V → Option V) (hs : xs.length < sizeLine)
    (turn : ∀ (i : Nat) (x : V) (H : Hp) (N : V → Hp → Prop) (N0 : Hp → Prop), xs[i]? = some x → Same H1 H → (∀ y H4, f x = some y → Same H H4 → N y H4) → (∀ H4, f x = none → Same H H4 → N0 H4) →
      g x (wipe σ vs) H fun σ2 H2 => wipe σ2 vs = wipe σ vs ∧ tt σ2 H2 fun b H3 => if b = true then te σ2 H3 N else N0 H3)
    (fin : ∀ H, Same H1 H → H D = some (.lst (xs.filterMap f)) → Z H) : CompQ J g tt te vs σ H1 D Z := by
  refine comp_of xs.length (fun i H => Same H1 H ∧ H D = some (.lst ((xs.take i).filterMap f))) ⟨(Same.refl H1).at hD _, by rw [upd_same]; rfl⟩ (fun i H hi w => SI.go i H w.1 hi) (fun H w => SI.stop H w.1) (fun i H x H' hi w y => ?_) (fun H w => ?_)
  · obtain ⟨rfl, hx⟩ := SI.yld i H x H' w.1 y
    refine turn i x H' _ _ hx w.1 (fun y H4 hy s => ⟨_, s _ _ w.2, ?_, (w.1.trans s).at hD _, ?_⟩) fun H4 hn s => ⟨w.1.trans s, ?_⟩
    · exact Nat.lt_of_le_of_lt (Nat.le_trans (List.length_filterMap_le ..) (by rw [List.length_take]; omega)) hs
    · rw [upd_same, take_snoc hx, List.filterMap_append]; simp [hy]
    · rw [s _ _ w.2, take_snoc hx, List.filterMap_append]; simp [hn]
  · have : xs.take xs.length = xs := List.take_of_length_le (Nat.le_refl _)
    rw [this] at w
    exact fin H w.1 w.2
def dW (l : List Nat) : PyData := .str (S l)
def dWs (ls : List (List Nat)) : PyData := .list (ls.map dW)
theorem dp_all {K : PySem.W.Frag} {H : Hp} : ∀ ls : List (List Nat), DpAll K H (ls.map wV) (ls.map dW)
  | [] => .nil
  | l :: ls => .cons (.str _) (dp_all ls)
theorem dp_ws {K : PySem.W.Frag} {H : Hp} {a : Addr} {ls : List (List Nat)} (h : SqL K H a (ls.map wV)) : Dp K H (.ref a) (dWs ls) := .lst h (dp_all ls)
theorem can_w {l : List Nat} (h : ∀ c ∈ l, c ≤ 126) : PyData.canLay0 (dW l) = true := by
  show (S l).cps.all _ = true
  rw [Array.all_eq_true']
  intro x hx
  have : x ∈ l := by rw [← S_cps l]; exact Array.mem_toList_iff.mpr hx
  have := h x this
  simp; omega
theorem can_ws : ∀ {ls : List (List Nat)}, (∀ l ∈ ls, ∀ c ∈ l, c ≤ 126) → PyData.canLayAll0 (ls.map dW) = true
  | [], _ => rfl
  | l :: ls, h => by
    show (PyData.canLay0 (dW l) && PyData.canLayAll0 (ls.map dW)) = true
    rw [can_w (h l (List.mem_cons_self ..)), can_ws fun m hm => h m (List.mem_cons_of_mem _ hm)]; rfl
theorem dep_ws : ∀ ls : List (List Nat), PyData.depthAll (ls.map dW) = 0
  | [] => rfl
  | l :: ls => by
    show max 0 (PyData.depthAll (ls.map dW)) = 0
    rw [dep_ws ls]; rfl
theorem sh_ws {ls : List (List Nat)} (h : ∀ l ∈ ls, ∀ c ∈ l, c ≤ 126) : SeqAt.shaped (dWs ls) = true := by
  show (PyData.canLayAll0 (ls.map dW) && decide (PyData.depthAll (ls.map dW) + 1 ≤ 64)) = true
  rw [can_ws h, dep_ws]; rfl
/-- ['told', words] -/
theorem sh_two {t : Str} {ls : List (List Nat)} (ht : ∀ c ∈ cd t, c ≤ 126) (h : ∀ l ∈ ls, ∀ c ∈ l, c ≤ 126) : SeqAt.shaped (.list [.str t, dWs ls]) = true := by
  have e : PyData.canLay0 (.str t) = true := by
    have := can_w ht
    rwa [show dW (cd t) = .str t from congrArg PyData.str (S_of t)] at this
  show (PyData.canLay0 (.str t) && (PyData.canLayAll0 (ls.map dW) && true) && decide (max 0 (max (PyData.depthAll (ls.map dW) + 1) 0) + 1 ≤ 64)) = true
  rw [e, can_ws h, dep_ws]; rfl
theorem wd126 {ls : List (List Nat)} (h : ∀ l ∈ ls, Wd l) : ∀ l ∈ ls, ∀ c ∈ l, c ≤ 126 := fun l hl c hc => ((h l hl).2 c hc).2
section
variable {H : Hp} {Q : VK} {K : PySem.W.Frag}
/-- two lists of the same words -/
theorem r_neWs {a b : Addr} {ls : List (List Nat)} (ha : SqL K H a (ls.map wV)) (hb : SqL K H b (ls.map wV)) (h : ∀ l ∈ ls, ∀ c ∈ l, c ≤ 126) (k : Q (.bl false) H) : rNeA K (.ref a) (.ref b) H Q := by
  refine .inr ⟨dWs ls, dWs ls, dp_ws ha, dp_ws hb, sh_ws h, sh_ws h, ?_⟩
  rw [SeqAt.eqv_refl _ (SeqAt.canLay_of_shaped (sh_ws h))]
  exact k
theorem r_neTwo {a b a1 b1 : Addr} {t : Str} {ls : List (List Nat)} (ha : SqL K H a [.str t, .ref a1]) (ha1 : SqL K H a1 (ls.map wV)) (hb : SqL K H b [.str t, .ref b1]) (hb1 : SqL K H b1 (ls.map wV)) (ht : ∀ c ∈ cd t, c ≤ 126) (h : ∀ l ∈ ls, ∀ c ∈ l, c ≤ 126) (k : Q (.bl false) H) : rNeA K (.ref a) (.ref b) H Q := by
  refine .inr ⟨.list [.str t, dWs ls], .list [.str t, dWs ls], .lst ha (.cons (.str _) (.cons (dp_ws ha1) .nil)), .lst hb (.cons (.str _) (.cons (dp_ws hb1) .nil)), sh_two ht h, sh_two ht h, ?_⟩
  rw [SeqAt.eqv_refl _ (SeqAt.canLay_of_shaped (sh_two ht h))]
  exact k
/-- a list of words and the empty one -/
theorem r_eqNil {a b : Addr} {ls : List (List Nat)} (ha : SqL K H a (ls.map wV)) (hb : SqL K H b []) (h : ∀ l ∈ ls, ∀ c ∈ l, c ≤ 126) (k : Q (.bl (decide (ls = []))) H) : rEqA K (.ref a) (.ref b) H Q := by
  refine .inr ⟨dWs ls, dWs [], dp_ws ha, dp_ws hb, sh_ws h, sh_ws (fun _ h => (List.not_mem_nil h).elim), ?_⟩
  have e : PyData.eqv (dWs ls) (dWs []) = decide (ls = []) := by cases ls <;> rfl
  rw [e]
  exact k
end
theorem mul_0 {z : Str} : MulOk z 0 ∧ Txt.mul z 0 = Str.ofString "" := ⟨⟨by decide, fun h => absurd (by decide) h, fun h => absurd (by decide) h⟩, rfl⟩
theorem mul_1 {z : Str} : MulOk z 1 ∧ Txt.mul z 1 = z := ⟨⟨by decide, fun _ h => by simp at h, fun _ h => by simp at h⟩, rfl⟩
section
variable {σ : L2.St} {H : Hp} {Q : VK} {K : PySem.W.Frag}
theorem r_lcLV {i : Nat} {a : Addr} {xs : List V} {te' : TE} {g : TG} {tt : TT} {vs : List Nat} (hv : σ[i]? = some (some (.ref a))) (h : SqL K H a xs) (k : ∀ E, H E = none → CompQ (Itl K a) g tt te' vs σ H E fun H => Q (.ref E) H) :
    tLc (iList K (tVar i)) g tt te' vs σ H Q := ⟨.ref a, hv, a, rfl, ⟨xs, h⟩, k⟩
end
/-- the first of the length that is the least -/
theorem FM_first (m : Nat) : ∀ xs : List (List Nat), (∃ x ∈ xs, x.length = m) → (∀ x ∈ xs, m ≤ x.length) → ∃ v, (xs.filter fun x => decide (x.length = m))[0]? = some v ∧ v.length = m ∧ FM xs v
  | [], ⟨x, h, _⟩, _ => (List.not_mem_nil h).elim
  | x :: r, ⟨y, hy, ey⟩, h => by
    by_cases c : x.length = m
    · refine ⟨x, by rw [List.filter_cons_of_pos (by simp [c])]; rfl, c, 0, rfl, fun j w hw => ⟨by rw [c]; exact h w (List.mem_of_getElem? hw), fun q => absurd q (Nat.not_lt_zero _)⟩⟩
    · obtain ⟨v, h1, h2, i, hi, hm⟩ := FM_first m r ⟨y, (List.mem_cons.mp hy).resolve_left fun e => c (by rw [← e]; exact ey), ey⟩ fun z hz => h z (List.mem_cons_of_mem _ hz)
      have hx := h x (List.mem_cons_self ..)
      refine ⟨v, by rw [List.filter_cons_of_neg (by simp [c])]; exact h1, h2, i + 1, hi, fun j w hw => ?_⟩
      cases j with
      | zero =>
        cases (show some x = some w from hw)
        exact ⟨by omega, fun _ => by omega⟩  -- own
      | succ j =>
        obtain ⟨a, b⟩ := hm j w hw
        exact ⟨a, fun q => b (by omega)⟩
def kpS (need : List Nat) (v : V) : Option V := if v ∈ need.map sgnV then some v else none
def kpL (m : Nat) : V → Option V
  | .str z => if z.length = m then some (.str z) else none
  | _ => none
theorem mem_sgn {need : List Nat} {c : Nat} : sgnV c ∈ need.map sgnV ↔ c ∈ need := by
  rw [List.mem_map]
  exact ⟨fun ⟨d, hd, q⟩ => by
    have : d = c := by simpa [sgnV] using q
    rw [← this]; exact hd, fun h => ⟨c, h, rfl⟩⟩
theorem kpS_pos {need : List Nat} {c : Nat} (h : c ∈ need) : kpS need (.str ⟨#[c]⟩) = some (.str ⟨#[c]⟩) := if_pos (mem_sgn.mpr h)
theorem kpS_neg {need : List Nat} {c : Nat} (h : c ∉ need) : kpS need (.str ⟨#[c]⟩) = none := if_neg fun q => h (mem_sgn.mp q)
theorem filt_sgn (need : List Nat) : ∀ l : List Nat, (l.map sgnV).filterMap (kpS need) = (l.filter fun c => decide (c ∈ need)).map sgnV
  | [] => rfl
  | c :: l => by
    rw [List.map_cons, List.filterMap_cons, filt_sgn need l]
    by_cases q : c ∈ need
    · rw [show kpS need (sgnV c) = some (sgnV c) from kpS_pos q, List.filter_cons_of_pos (by simp [q])]; rfl
    · rw [show kpS need (sgnV c) = none from kpS_neg q, List.filter_cons_of_neg (by simp [q])]
theorem kpL_pos {m : Nat} {l : List Nat} (h : l.length = m) : kpL m (.str (S l)) = some (.str (S l)) := if_pos (by rw [S_len]; exact h)
theorem kpL_neg {m : Nat} {l : List Nat} (h : l.length ≠ m) : kpL m (.str (S l)) = none := if_neg (by rw [S_len]; exact h)
theorem filt_len (m : Nat) : ∀ ls : List (List Nat), (ls.map wV).filterMap (kpL m) = (ls.filter fun x => decide (x.length = m)).map wV
  | [] => rfl
  | l :: ls => by
    have e : kpL m (wV l) = if l.length = m then some (wV l) else none := by
      show (if (S l).length = m then some (wV l) else none) = _
      rw [S_len]
    rw [List.map_cons, List.filterMap_cons, filt_len m ls, e]
    by_cases q : l.length = m
    · rw [if_pos q, List.filter_cons_of_pos (by simp [q])]; rfl
    · rw [if_neg q, List.filter_cons_of_neg (by simp [q])]
/-- what the law lays ahead -/
def plainW (l : List Nat) : List (List Nat) := if l ≠ [] ∧ (l.filter fun c => decide (c ∈ N1)) = [] then [l] else []
theorem FM_plain {l v : List Nat} (h : FM (plainW l ++ ways l) v) : FM (ways l) v := by
  unfold plainW at h
  split at h
  · rename_i c
    refine FM.cons ?_ h
    have : esc N1 l = l := esc_none fun d hd hn => by
      have : d ∈ l.filter fun c => decide (c ∈ N1) := List.mem_filter.mpr ⟨hd, by simp [hn]⟩
      rw [c.2] at this
      exact List.not_mem_nil this
    unfold ways
    rw [if_neg c.1, this]; rfl
  · exact h
end J

/-! small dicts; tests whose outcome is known; the law's state -/
namespace J
open PySem PySem.Spec PyProof.Rows L2 M
def stD (wd : Addr) (t : Sc) : List (Key × V) := [(.inr "bad", .non), (.inr "words", .ref wd), (.inr "begun", obV t.bg), (.inr "quote", .str (qS t.qt)), (.inr "opened", .int (t.op : Nat))]
theorem merge_st (wd : Addr) (t : Sc) : mergeK [] (stD wd t) = stD wd t := by
  unfold stD mergeK
  simp only [List.foldl_cons, List.foldl_nil]
  rfl
theorem get_bad (wd : Addr) (t : Sc) : valV (stD wd t) (.inr "bad") = some .non := rfl
theorem get_words (wd : Addr) (t : Sc) : valV (stD wd t) (.inr "words") = some (.ref wd) := rfl
theorem get_begun (wd : Addr) (t : Sc) : valV (stD wd t) (.inr "begun") = some (obV t.bg) := rfl
theorem get_quote (wd : Addr) (t : Sc) : valV (stD wd t) (.inr "quote") = some (.str (qS t.qt)) := rfl
/-- the law's looks at a line that can be cut -/
def spState : Sp := fun vs H Q _ => ∃ (z : Str) (t : Sc), vs = [.str z] ∧ Ln (cd z) ∧ M.scan stL 0 sc0 (cd z) = .ok t ∧ t.tk = false ∧ t.ws.length ≤ 2000 ∧
  ∀ (p wd : Addr) (H' : Hp), H p = none → Same H H' → H' p = some (.dK (stD wd t)) → H' wd = some (.lst (t.ws.map wV)) → Q (.ref p) H'
def spDue : Sp := fun vs H Q _ => ∃ (z : Str) (t : Sc), vs = [.str z] ∧ Ln (cd z) ∧ M.scan stL 0 sc0 (cd z) = .ok t ∧ t.tk = false ∧ t.qt = 0 ∧ (fin t).length ≤ 40 ∧
  ∀ (p wd : Addr) (H' : Hp), Same H H' → H' p = some (.lst [.str "told", .ref wd]) → H' wd = some (.lst ((fin t).map wV)) → Q (.ref p) H'
section
variable {σ : L2.St} {H : Hp} {Q : VK} {K : PySem.W.Frag} {D : Ends}
theorem r_ifK {c : TT} {t u : TS} (b : Bool) (h : ∀ N : Bool → Hp → Prop, N b H → c σ H N) (k1 : b = true → t D σ H) (k2 : b = false → u D σ H) : tIfS c t u D σ H := h _ (by
  cases b
  · exact k2 rfl
  · exact k1 rfl)
theorem r_pairs {tk tv : TE} {r : List (TE × TE)} {Q : List (V × V) → Hp → Prop} (k : tk σ H fun x H1 => tv σ H1 fun y H2 => tPairs r σ H2 fun ps H3 => Q ((x, y) :: ps) H3) : tPairs ((tk, tv) :: r) σ H Q := k
theorem r_pairs0 {Q : List (V × V) → Hp → Prop} (k : Q [] H) : tPairs [] σ H Q := k
theorem r_dget {td ty : TE} (k : td σ H fun x H1 => ty σ H1 fun y H2 => ∃ a v, x = .ref a ∧ DGet H2 a y (some v) ∧ Q v H2) : tDGet td ty σ H Q := k
theorem r_dgetK {p : Addr} {kvs : List (Key × V)} {k : Str} {v : V} {Q : V → Prop} (h : H p = some (.dK kvs)) (e : valV kvs (.inr k) = some v) (q : Q v) : ∃ a v', V.ref p = .ref a ∧ DGet H a (.str k) (some v') ∧ Q v' := ⟨p, v, rfl, .inl ⟨kvs, .inr k, .inl h, rfl, e.symm⟩, q⟩
theorem r_rep {l : Addr} {xs : List V} {b : Bool} (h : H l = some (.lst xs)) (hx : xs.length ≤ 1000) (k : ∀ p, H p = none → Q (.ref p) (upd H p (.lst (if b = true then xs else [])))) : J.rMul (.ref l) (.int (if b = true then 1 else 0)) H Q := by
  refine .inr (.inr ⟨l, _, xs, rfl, rfl, h, ?_, ?_, ?_, fun p hp => ?_⟩)
  · cases b <;> decide
  · cases b <;> decide
  · cases b
    · exact Nat.zero_le _
    · exact Nat.le_trans (show xs.length * 1 ≤ 1000 by omega) (by decide)
  · have := k p hp
    cases b
    · exact this
    · simpa using this
theorem r_cat {l m : Addr} {xs ys : List V} (h : H l = some (.lst xs)) (g : H m = some (.lst ys)) (hx : xs.length + ys.length ≤ 16777216) (k : ∀ p, H p = none → Q (.ref p) (upd H p (.lst (xs ++ ys)))) : J.rAdd K (.ref l) (.ref m) H Q := .inr (.inr (.inl ⟨l, m, xs, ys, rfl, rfl, h, g, hx, k⟩))
end
theorem stL_bg {s t : Sc} {i c : Nat} (p : (s.bg.getD []).length ≤ 40) (e : stL s i c = .ok t) : (t.bg.getD []).length ≤ 40 := by
  unfold stL at e
  repeat' split at e
  all_goals first
    | cases e; done
    | (cases e; first | exact p | (simp only [Option.getD_some]; omega) | (simp only [Option.getD_some]; exact p) | exact Nat.zero_le _)
theorem scanL_bg {l : List Nat} {t : Sc} (h : M.scan stL 0 sc0 l = .ok t) : (t.bg.getD []).length ≤ 40 := scan_inv (fun s => (s.bg.getD []).length ≤ 40) (fun _ _ _ _ p e => stL_bg p e) l 0 sc0 t (Nat.zero_le _) h
end J

/-! loops over lists; small repeated texts; lines that are cut to what was quoted -/
namespace J
open PySem PySem.Spec PyProof.Rows L2 M
theorem _root_.L2.Same.keep {b : Addr} {H0 H1 H2 : Hp} (s : Same H0 H1) (n : H0 b = none) (k : Keep b H1 H2) : Same H0 H2 := fun a o h => k a o (s a o h) (ne_of_none h n)
theorem _root_.L2.Same.none {H0 H1 : Hp} {b : Addr} (s : Same H0 H1) (n : H1 b = none) : H0 b = none := by
  cases q : H0 b with
  | none => rfl
  | some o => rw [s _ _ q] at n; cases n
section
variable {σ : L2.St} {H : Hp} {Q : VK} {K : PySem.W.Frag} {D : Ends}
theorem r_for {wi : TI} {g : TG} {tb : TS} (k : wi σ H fun J H1 => LoopQ J g tb D σ H1) : tFor wi g tb D σ H := k
theorem r_ilist {te : TE} {R : It → Hp → Prop} (k : te σ H fun x H1 => ∃ a, x = .ref a ∧ (∃ xs, SqL K H1 a xs) ∧ R (Itl K a) H1) : iList K te σ H R := k
theorem r_isRL {a : Addr} {xs : List V} {H : Hp} {P : Addr → Prop} (h : SqL K H a xs) (k : P a) : ∃ b, V.ref a = .ref b ∧ (∃ xs, SqL K H b xs) ∧ P b := ⟨a, rfl, ⟨xs, h⟩, k⟩
theorem loop_seq {J : It} {g : TG} {tb : TS} {n' : L2.St → Hp → Prop} {rt : VK} {bk ct : L2.St → Hp → Prop} {xs : List V} {H0 : Hp} (SI : SeqIt J xs H0) (I : Nat → L2.St → Hp → Prop) (keep : ∀ i σ H, I i σ H → Same H0 H) (start : I 0 σ H)
    (turn : ∀ (i : Nat) (x : V) σ1 H1, xs[i]? = some x → I i σ1 H1 → g x σ1 H1 fun σ2 H2 => tb ⟨I (i + 1), rt, n', I (i + 1)⟩ σ2 H2)
    (fin : ∀ σ1 H1, I xs.length σ1 H1 → n' σ1 H1) : LoopQ J g tb ⟨n', rt, bk, ct⟩ σ H :=
  loop_of (D := ⟨n', rt, bk, ct⟩) xs.length I start (fun i σ H hi w => SI.go i H (keep i σ H w) hi) (fun σ H w => SI.stop H (keep _ σ H w)) (fun i σ1 H1 x H' hi w y => by
    obtain ⟨rfl, hx⟩ := SI.yld i H1 x H' (keep i σ1 H1 w) y
    exact turn i x σ1 H' hx w) fin
end
theorem mul_rep (z : Str) (c : Nat) (h : cd z = [c]) (h0 : z.length = 1) (k : Int) (a : 0 ≤ k) (b : k < 4) : MulOk z k ∧ Txt.mul z k = S (List.replicate k.toNat c) := by
  have hz : z = S [c] := by rw [str_eq, h, cd_S]
  rcases (show k = 0 ∨ k = 1 ∨ k = 2 ∨ k = 3 by omega) with rfl | rfl | rfl | rfl
  · exact ⟨mul_0.1, mul_0.2.trans (by rw [str_eq, cd_S]; exact l_nil)⟩
  · exact ⟨mul_1.1, mul_1.2.trans hz⟩
  · refine ⟨⟨by decide, fun _ _ => by rw [h0]; decide, fun _ _ => by rw [h0]; decide⟩, ?_⟩
    subst hz; rfl
  · refine ⟨⟨by decide, fun _ _ => by rw [h0]; decide, fun _ _ => by rw [h0]; decide⟩, ?_⟩
    subst hz; rfl
/-- a written word is cut to it -/
theorem cut_way {l v : List Nat} (w : Wd l) (hv : v ∈ ways l) : Ln v ∧ ∃ t, M.scan stP 0 sc0 v = .ok t ∧ M.scan stL 0 sc0 v = .ok t ∧ t.tk = false ∧ t.qt = 0 ∧ fin t = [l] := by
  obtain ⟨h1, h2⟩ := way_len w hv
  obtain ⟨o, e⟩ := scan_way w hv 0 [] 0
  have q := scan_eq v 0 sc0 ⟨.inl rfl, fun h => by cases h⟩ fun c hc => by have := h2 c hc; omega
  rw [show M.scan stP 0 sc0 v = _ from e] at q
  exact ⟨⟨Nat.le_trans h1 (by decide), h2⟩, _, e, q.1, rfl, rfl, rfl⟩
theorem last_app {α : Type} : ∀ ls : List α, ls.dropLast ++ ls.getLast?.toList = ls
  | [] => rfl
  | [x] => rfl
  | x :: y :: r => by
    have := last_app (y :: r)
    rw [List.dropLast_cons₂, List.getLast?_cons_cons, List.cons_append, this]
theorem cut_jn {ls vs : List (List Nat)} (h : Ways ls vs) (hl : (jn vs).length ≤ 2000) : Ln (jn vs) ∧ ∃ t, M.scan stP 0 sc0 (jn vs) = .ok t ∧ M.scan stL 0 sc0 (jn vs) = .ok t ∧ t.tk = false ∧ t.qt = 0 ∧ fin t = ls := by
  obtain ⟨h1, h2⟩ := jn_ok h
  obtain ⟨o, e⟩ := scan_jn h 0 [] 0
  have q := scan_eq (jn vs) 0 sc0 ⟨.inl rfl, fun h => by cases h⟩ fun c hc => by have := h2 c hc; omega
  rw [show M.scan stP 0 sc0 (jn vs) = _ from e] at q
  refine ⟨⟨hl, h2⟩, _, e, q.1, rfl, rfl, ?_⟩
  show [] ++ ls.dropLast ++ ls.getLast?.toList = ls
  rw [List.nil_append]
  exact last_app ls
end J
namespace J
open PySem PySem.Spec PyProof.Rows L2 M
theorem cutV_map {α : Type} (f : α → V) (ls : List α) (lo hi : Option Int) : ∃ ls' : List α, cutV (ls.map f) lo hi = ls'.map f ∧ (∀ l ∈ ls', l ∈ ls) ∧ ls'.length ≤ ls.length ∧ ls'.length ≤ HT.sIx ls.length ls.length hi - HT.sIx ls.length 0 lo := by
  refine ⟨(ls.drop (HT.sIx ls.length 0 lo)).take (HT.sIx ls.length ls.length hi - HT.sIx ls.length 0 lo), ?_, fun l hl => List.mem_of_mem_drop (List.mem_of_mem_take hl), ?_, ?_⟩
  · unfold cutV
    rw [List.length_map, List.map_take, List.map_drop]
  · rw [List.length_take, List.length_drop]; omega
  · rw [List.length_take]; omega
section
variable {σ : L2.St} {H : Hp} {Q : VK} {K : PySem.W.Frag} {D : Ends}
theorem r_slL {a : Addr} {xs : List V} {lo hi : Option Int} (h : SqL K H a xs) (k : ∀ p, H p = none → Q (.ref p) (upd H p (.lst (cutV xs lo hi)))) : rSl K (.ref a) lo hi H Q := .inl ⟨a, xs, rfl, h, k⟩
theorem r_listOf {p : Addr} {ys : List V} (h : SqL K H p ys ∨ SqT K H p ys) (k : ∀ l, H l = none → Q (.ref l) (upd H l (.lst ys))) : rListOf K [.ref p] H Q := ⟨p, ys, rfl, h, k⟩
theorem r_tupOf {p : Addr} {ys : List V} (h : SqL K H p ys) (k : ∀ l, H l = none → Q (.ref l) (upd H l (.tup ys))) : rTupOf K [.ref p] H Q := ⟨p, ys, rfl, .inl ⟨h, k⟩⟩
end
def spLaw (K : PySem.W.Frag) : Sp := fun vs H Q _ => ∃ (a : Addr) (ns : List Int), vs = [.ref a] ∧ SqL K H a (ns.map V.int) ∧ ns.length ≤ 63 ∧ ∀ H', Q (.bl true) H'  -- own
end J
namespace J
open PySem PySem.Spec PyProof.Rows L2 M
theorem r_rep4 {l : Addr} {xs : List V} {H : Hp} {Q : VK} (h : H l = some (.lst xs)) (hx : xs.length ≤ 1000) (k : ∀ p, H p = none → Q (.ref p) (upd H p (.lst (List.replicate 4 xs).flatten))) : J.rMul (.ref l) (.int 4) H Q :=
  .inr (.inr ⟨l, 4, xs, rfl, rfl, h, by decide, by decide, Nat.le_trans (show xs.length * 4 ≤ 4000 by omega) (by decide), k⟩)
theorem rep4_map (f : List Nat → V) (ls : List (List Nat)) : (List.replicate 4 (ls.map f)).flatten = ((List.replicate 4 ls).flatten).map f := by
  simp [List.replicate, List.flatten_cons, List.map_append]
theorem rep4_mem {ls : List (List Nat)} {l : List Nat} (h : l ∈ (List.replicate 4 ls).flatten) : l ∈ ls := by
  obtain ⟨m, hm, hl⟩ := List.mem_flatten.mp h
  rw [List.eq_of_mem_replicate hm] at hl
  exact hl
end J

/-! a try whose clauses have names; what none of them takes does not come -/
namespace J
open PySem PySem.Spec PyProof.Rows L2  -- own
/-- the ends of a suite that holds its exception in slot i -/
def unset (D : Ends) (i : Nat) : Ends := ⟨fun τ G => D.nx (τ.set i none) G, D.rt, fun τ G => D.bk (τ.set i none) G, fun τ G => D.ct (τ.set i none) G⟩
abbrev Clause := Value × Nat × (Addr → Value → Option Addr → TS)
def wN (K : PySem.W.Frag) (D : Ends) : List Clause → WX
  | [] => fun _ _ _ _ => False
  | (c, i, ts) :: r => fun cls d σ H => ∃ b, PySem.W.exmOne K cls c = some b ∧ (b = true → ∀ a, H a = none → ts a cls d (unset D i) (σ.set i (some (.ref a))) H) ∧ (b = false → wN K D r cls d σ H)
inductive HN (X : Cx) : List ExceptHandler → List Clause → Prop
  | any (rest : List ExceptHandler) : HN X rest []
  | cons {x n : Str} {c : Value} {i : Nat} {ts : Addr → Value → Option Addr → TS} {b₀ : Stmt} {bs : List Stmt} {p1 p2 : Pos} {hds : List ExceptHandler} {l : List Clause} (hi : X.N[i]? = some n) (hl : X.env.kindOf n = some .local) (hc : Names X x c)
      (su : ∀ (a : Addr) (o : Obj) (cls : Value) (d : Option Addr) (pn : List (Addr × Obj)), Zc cls d o → (∃ vs, o.data = .fields vs) → PSs (X.suite a ((a, o) :: pn)) (b₀ :: bs) (ts a cls d)) (r : HN X hds l) :
      HN X (.ExceptHandler (some (.Name x p1)) (some n) (b₀ :: bs) p2 :: hds) ((c, i, ts) :: l)
theorem ps_tryN {X : Cx} {body : List Stmt} {h₀ : ExceptHandler} {hds : List ExceptHandler} {l : List Clause} {pos : Pos} {tb : WX → TS} (hs : X.stack = X.env :: X.outer) (hf : X.env.frame = some X.env.locals) (hN : X.N.Nodup)
    (hb : ∀ (W : WX) (pn : List (Addr × Obj)) (xe : Value → Shared → Prop), Takes (X.tr pn xe) W → PassesOwn (model X.prog X.w) X.A X.env xe → PSs (X.tr pn xe) body (tb W)) (hh : HN X (h₀ :: hds) l) :
    PS X (.Try body (h₀ :: hds) [] [] pos) (fun D σ H => tb (wN X.K D l) D σ H) := by
  constructor
  intro pins s σ H D I q0
  have fs0 : X.A.frames = some (X.env :: X.outer) := I.ok.frames.trans (congrArg some hs)
  apply wpAny_Try_except
  let catch_ : Value → Shared → Prop := fun e t => wpAny (model X.prog X.w) X.A (noteFrame e X.env) (fun _ t2 => wpAny (model X.prog X.w) X.A (setFlight e none) (fun _ t3 => wpAny (model X.prog X.w) X.A (handleBy e X.env (h₀ :: hds)) (SP X pins D) X.xe t3) X.xe t2) X.xe t
  have caught : Takes (X.tr (X.pn ++ pins) catch_) (wN X.K D l) := by
    rintro u t ⟨e, B, sI, pins2, σ2, H2, cls, d, rfl, J2, nb, up, sky, ne, os, ag, w⟩
    have J := J2.ofTry I.ok
    refine Sky.land Zc.steady fs0 hf (hs ▸ sky : Sky B (X.env :: X.outer) e (Zc cls d) X.env.locals t.heap) fun h3 f3 up3 => ?_
    obtain ⟨o3, v3, e3, z3, d3⟩ := f3.there
    have away : e ∉ frs (X.env :: X.outer) := fun hm => by
      obtain ⟨_, o', g, nf⟩ := f3.2.2.1.mem hm
      cases e3.symm.trans g
      exact nf _ d3
    have away1 : e ≠ X.env.locals := fun z => away (List.mem_filterMap.mpr ⟨X.env, List.mem_cons_self, hf.trans (congrArg some z.symm)⟩)
    have away2 : e ∉ X.fs := fun hm => let ⟨g, g1, g2⟩ := List.mem_filterMap.mp hm; away (List.mem_filterMap.mpr ⟨g, List.mem_cons_of_mem _ g1, g2⟩)
    have J3 : Inv X pins σ2 H2 { t with heap := h3 } := J.landed nb f3.1 (up.trans up3) os ag
    have S3 := J3.suite e3 d3 ne away1 away2
    -- down the clauses
    suffices go : ∀ {hs' : List ExceptHandler} {l' : List Clause}, HN X hs' l' → wN X.K D l' cls d σ2 H2 → wpAny (model X.prog X.w) X.A (handleBy (.ref e) X.env hs') (SP X pins D) X.xe { t with heap := h3 } from go hh w
    intro hs' l' k
    induction k with
    | any rest => exact False.elim
    | @cons x n c i ts b₀ bs p1 p2 hds2 l2 hi hl hc su r ih =>
      rintro ⟨b, m, yes, no⟩
      refine wpAny_handleBy_cons (codeAny_handlers_test ?_) (fun z => nomatch z)
      have lk := PySem.W.exm_one (M := model X.prog X.w) J3.kIn (fun A Q E s' k' q' => wpAny_typeOf_ref (k' _ _ e3) (z3.1.symm ▸ q')) m
      have name : ∀ {Q E : Value → Shared → Prop}, Q c { t with heap := h3 } → wpAny (model X.prog X.w) (X.A.mark (some (.ref e))) (eval (.Name x p1) X.env) Q E { t with heap := h3 } := fun {Q E} q' => by
        obtain ⟨g1, g2, g3⟩ := hc
        rcases g3 with g3 | ⟨g3, g4, g5⟩
        · exact ld_glob (X := X.suite e ((e, o3) :: (X.pn ++ pins))) S3 g1 g3 q' g2
        · exact ld_blt (X := X.suite e ((e, o3) :: (X.pn ++ pins))) S3 g1 g3 g4 q' g5 g2
      refine name (lk.here ?_)
      cases b
      · exact ih (no rfl)
      · refine codeAny_handlers_suite_as (HandSPX.lands_againZ f3 fun h4 f4 up4 => ?_)
        obtain ⟨o4, v4, e4, z4, d4⟩ := f4.there
        have J4 : Inv X pins σ2 H2 { t with heap := h4 } := J.landed nb f4.1 ((up.trans up3).trans up4) os ag
        refine store_ok (X := X.suite e ((e, o4) :: (X.pn ++ pins))) (v := .ref e) (J4.suite e4 d4 ne away1 away2) hN hi (.inl hl) rfl (fun s5 S5 => ?_) (.inr hl)
        refine wpAny_mono ((su e o4 cls d (X.pn ++ pins) z4 ⟨_, d4⟩).run [] s5 _ H2 _ S5 (yes rfl e ne)) (fun f s6 r6 => ?_) (fun _ _ z => False.elim z)
        have last : ∀ {τ : L2.St} {G : Hp} {Q : Shared → Prop}, Inv (X.suite e ((e, o4) :: (X.pn ++ pins))) [] τ G s6 → (∀ s7, Inv X pins (τ.set i none) G s7 → Q s7) → wpAny (model X.prog X.w) X.A (do bindName X.env n .none; unbindBehindTheSuite X.env n p2) (fun _ s7 => Q s7) X.xe s6 := fun {τ G Q} S6 hq => gone_ok (Q := fun _ s7 => Q s7) (S6.unsuite I.ok) hN hi hl hq
        cases f with
        | ret u => exact let ⟨_, _, _, S6, rv, q6⟩ := r6; last S6 fun s7 J7 => ⟨_, _, _, J7, rv, q6⟩
        | next => exact let ⟨_, _, S6, q6⟩ := r6; last S6 fun s7 J7 => ⟨_, _, J7, q6⟩
        | brk => exact let ⟨_, _, S6, q6⟩ := r6; last S6 fun s7 J7 => ⟨_, _, J7, q6⟩
        | cont => exact let ⟨_, _, S6, q6⟩ := r6; last S6 fun s7 J7 => ⟨_, _, J7, q6⟩
  refine wpAny_mono ((hb (wN X.K D l) (X.pn ++ pins) catch_ caught PassesOwn.looking).run [] s σ H D (I.toTry _) q0) (fun f s1 r1 => ?_) (fun _ _ z => z)
  cases f with
  | ret u => exact let ⟨_, _, _, J1, rv, q1⟩ := r1; ⟨_, _, _, J1.ofTry I.ok, rv, q1⟩
  | next => exact let ⟨_, _, J1, q1⟩ := r1; wpAny_execs_nil ⟨_, _, J1.ofTry I.ok, q1⟩
  | brk => exact let ⟨_, _, J1, q1⟩ := r1; ⟨_, _, J1.ofTry I.ok, q1⟩
  | cont => exact let ⟨_, _, J1, q1⟩ := r1; ⟨_, _, J1.ofTry I.ok, q1⟩
end J

/-! replace within a chain of and: the len ahead of it gives out a token -/
namespace J
open PySem PySem.Spec PyProof.Rows L2 CwR
/-- behind it a token has been given out -/
def PE1 (X : Cx) (e : Expr) (t : TE) : Prop := ∀ (pins : List (Addr × Obj)) (s : Shared) (σ : L2.St) (H : Hp) (Q : VK), Inv X pins σ H s → t σ H Q → wpAny (model X.prog X.w) X.A (eval e X.env) (fun v s1 => 1 ≤ s1.toks ∧ EP X pins σ Q v s1) X.xe s
def tLenS (te : TE) : TE := fun σ H Q => te σ H fun x H1 => ∃ z : Str, x = .str z ∧ z.length ≤ sizeLine ∧ Q (.int (z.length : Nat)) H1
section
variable {X : Cx} {e a b c f : Expr} {te ta tb tc : TE} {p pos pos' pos2 : Pos}
theorem pe1_len (hg : Gl X "len") (hm : X.mg "len" = none) (he : PE X e te) (hs : starEach (e :: []) X.env = (false, eval e X.env) :: starEach [] X.env := by rfl) (hpl : (backTo pos (starEach [] X.env)).any (·.1) = false := by rfl) : PE1 X (.Call (.Name "len" p) [e] [] pos) (tLenS te) := by
  intro pins s σ H Q I h
  refine wpAny_Call_Name_kw (ld_blt (u := .builtin "len") I hg hm (by decide +kernel) (PyProof.Rows.callWith_builtin1 (thn ((pa_cons he pa_nil hs).run pos pins s σ H (fun vs H1 => match vs with | [x] => ∃ z : Str, x = .str z ∧ z.length ≤ sizeLine ∧ Q (.int (z.length : Nat)) H1 | _ => False) I h) fun us s1 r => ?_) hs hpl) (by decide) (by decide))
  obtain ⟨vs, H1, I1, rv, q⟩ := r
  cases rv with
  | nil => exact q.elim
  | cons r1 r2 =>
    cases r2 with
    | cons _ _ => exact q.elim
    | nil =>
      obtain ⟨z, rfl, hz, q⟩ := q
      obtain ⟨t, rfl⟩ := r1
      have h63 := line63
      refine len_str (by omega) ⟨by show 1 ≤ s1.toks + 1 + 1; omega, .int _, H1, I1.tok _, ⟨_, rfl⟩, q⟩
theorem pe1_cmp {op : CmpOp} {r : R2} (ho : OpR X (compareOp op) r) (ha : PE1 X a ta) (hb : PE X b tb) (hm : behindInMarks op b = false) : PE1 X (.Compare a [op] [b] pos) (tOp r ta tb) := by
  intro pins s σ H Q I h
  refine wpAny_Compare1 (thn (ha pins s σ H _ I h) fun v s1 q => ?_) hm
  obtain ⟨k1, x, H1, I1, r1, q1⟩ := q
  refine wpAny_mono (wpAny_toks_of k1 (hb.run pins s1 σ H1 _ I1 q1)) (fun u s2 q => ?_) fun _ _ z => z.2
  obtain ⟨k2, y, H2, I2, r2, q2⟩ := q
  exact wpAny_mono (wpAny_toks_of k2 (ho pins s2 σ H2 x y v u _ I2 r1 r2 q2)) (fun _ _ z => z) fun _ _ z => z.2
/-- a and b and c: b gives out a token, c wants one -/
theorem pe_and3 (ha : PE X a ta) (hb : PE1 X b tb) (hc : PET X c tc) : PE X (.BoolOp .And [a, b, c] pos) (tAndV ta (tAndV tb tc)) := by
  refine ⟨fun pins s σ H Q I h => ?_⟩  -- own
  refine BoolOp_and (thn (ha.run pins s σ H _ I h) fun v s1 q => ?_)
  obtain ⟨x, H1, I1, r1, k, rfl, q1⟩ := q
  cases r1
  refine wpAny_truthy_bool ?_
  cases k with
  | false => exact ⟨.bl false, H1, I1, rfl, q1⟩  -- own
  | true =>
    refine BoolOp_and (thn (hb pins s1 σ H1 _ I1 q1) fun v2 s2 q => ?_)
    obtain ⟨k2, y, H2, I2, r2, kk, rfl, q2⟩ := q
    cases r2
    refine wpAny_truthy_bool ?_
    cases kk with
    | false => exact ⟨.bl false, H2, I2, rfl, q2⟩
    | true => exact BoolOp_one (hc pins s2 σ H2 Q k2 I2 q2)
theorem pet_call {CX : CXT} {k : Nat} {g : Addr} {fd : FuncData} {ps : List Str} {sp : Sp} {ds : List Value} {dvs : List V} {E : XK} {x : Str} {es : List Expr} {t : TA} (F : FnOk X.prog X.w X.K X.mg X.base CX k g fd ps sp) (hr : Room k X.A) (hg : Gl X x) (hm : X.mg x = some (.ref g))
    (hk : PySem.W.keepIn X.K (.ref g) = true) (hb : Binds X.K fd ps ds) (hd : Vals dvs ds) (hx : Passes CX X E) (ha : PAT X (e :: es) t) (hdb : (x == ("__debug__" : Str)) = false := by decide)
    (he : starEach (e :: es) X.env = (false, eval e X.env) :: starEach es X.env := by rfl) (hpl : (backTo pos (starEach es X.env)).any (·.1) = false := by rfl) : PET X (.Call (.Name x p) (e :: es) [] pos) (tCall sp dvs E t) := by
  intro pins s σ H Q h0 I h
  exact wpAny_Call_Name_kw (ld_glob I hg hm (PySem.W.callWith_K (h₀ := X.base) I.ok.mod.kin hk (thn (ha pos pins s σ H _ h0 I h) fun us s1 q => let ⟨vs, H1, I1, r, w⟩ := q; ⟨I1.kIn, run_fn F hr hb hd hx I1 r w⟩) he hpl) hdb)
end
end J

/-! own errors with one field; lines with line feeds, cut or refused -/
namespace J
open PySem PySem.Spec PyProof.Rows L2 M
/-- raise C(x) -/
def tRz (C : Addr) (sp : Sp) (ta : TA) (W : WX) : TS := fun _ σ H => tMkO C sp [] ta σ H fun cls d H' => W cls d σ H'
theorem ps_rz {X : Cx} {W : WX} {e : Expr} {C : Addr} {sp : Sp} {ta : TA} {pos : Pos} (hc : X.calm = true) (tk : Takes X W) (he : PMk X e (tMkO C sp [] ta)) : PS X (.Raise (some e) none pos) (tRz C sp ta W) := ps_raise hc tk he
/-- an __init__ that keeps its one argument as f -/
def spInit (K : PySem.W.Frag) (f : Str) : Sp := fun vs H Q _ => ∃ (a C : Addr) (v : V), vs = [.ref a, v] ∧ OexC K C ∧ PySem.W.findIn K (.ref C) f = some none ∧ H a = some (exo a C none) ∧ ∀ dx, H dx = none → dx ≠ a → Q .non (upd (upd H dx (exd dx [(f, v)])) a (exo a C (some dx)))
/-- an error of the class at C, its field f being v, may be raised from H -/
def Err (C : Addr) (f : Str) (v : V) (H : Hp) (E : XK) : Prop := ∀ (d : Addr) (H' : Hp), H d = none → Same H H' → H' d = some (.xd [(f, v)]) → E (.ref C) (some d) H'
theorem Err.at {C : Addr} {f : Str} {v : V} {H H1 : Hp} {E : XK} (e : Err C f v H E) (s : Same H H1) : Err C f v H1 E := fun d H' n t h => e d H' (by
  cases q : H d with
  | none => rfl
  | some o => rw [s _ _ q] at n; cases n) (s.trans t) h
def RzQ (C : Addr) (sp : Sp) (W : WX) (σ : L2.St) (vs : List V) (H1 : Hp) : Prop := vs.length ≤ 1000 ∧ ∀ a, H1 a = none → sp (.ref a :: (vs ++ [])) (upd H1 a (exo a C none))
  (fun v H2 => v = .non ∧ ∃ (d : Addr) (fs : List (Str × V)), H2 a = some (exo a C (some d)) ∧ H2 d = some (exd d fs) ∧ H1 d = none ∧ W (.ref C) (some d) σ (upd (del H2 a) d (.xd fs))) (fun _ _ _ => False)
theorem r_rz {σ : L2.St} {H : Hp} {D : Ends} {C : Addr} {sp : Sp} {W : WX} {ta : TA} (k : ta σ H fun vs H1 => RzQ C sp W σ vs H1) : tRz C sp ta W D σ H := k
theorem rz_one {K : PySem.W.Frag} {σ : L2.St} {H1 : Hp} {C : Addr} {f : Str} {W : WX} {v : V} (T : OexC K C) (hf : PySem.W.findIn K (.ref C) f = some none) (er : Err C f v H1 (fun cls d H' => W cls d σ H')) : RzQ C (spInit K f) W σ [v] H1 := by
  refine ⟨show 1 ≤ 1000 by decide, fun a ha => ⟨a, C, v, rfl, T, hf, upd_same, fun dx hd ne => ⟨rfl, dx, [(f, v)], upd_same, by rw [upd_ne ne, upd_same], ?_, ?_⟩⟩⟩
  · rwa [upd_ne ne] at hd
  · rw [upd_ne ne] at hd
    refine er dx _ hd (fun b o hb => ?_) upd_same
    have b1 := ne_of_none hb hd
    have b2 := ne_of_none hb ha
    rw [upd_ne b1, del_ne b2, upd_ne b2, upd_ne b1, upd_ne b2]
    exact hb
theorem asOst {X : Cx} {K : PySem.W.Frag} {st : Stmt} {f : Str} {to te : TE} (eK : X.K = K) (h : PS X st (tOst X.K f to te)) : PS X st (tOst K f to te) := eK ▸ h
theorem r_ost {K : PySem.W.Frag} {σ : L2.St} {H : Hp} {f : Str} {to te : TE} {n : L2.St → Hp → Prop} {rt : VK} {bk ct : L2.St → Hp → Prop} (k : te σ H fun y H1 => to σ H1 fun x H2 => ∃ a C : Addr, x = .ref a ∧ OexC K C ∧ PySem.W.findIn K (.ref C) f = some none ∧
  ((H2 a = some (exo a C none) ∧ ∀ dx, H2 dx = none → dx ≠ a → n σ (upd (upd H2 dx (exd dx [(f, y)])) a (exo a C (some dx)))) ∨
    ∃ (dx : Addr) (fs : List (Str × V)), H2 a = some (exo a C (some dx)) ∧ H2 dx = some (exd dx fs) ∧ fs.length ≤ 900 ∧ n σ (upd H2 dx (exd dx ((f, y) :: fs))))) : tOst K f to te ⟨n, rt, bk, ct⟩ σ H := k
theorem r_callS {σ : L2.St} {H : Hp} {Q : VK} {sp : Sp} {E : L2.St → XK} {t : TA} (k : t σ H fun vs H1 => sp vs H1 Q (E σ)) : tCallS sp E t σ H Q := k
/-! ### lines with line feeds -/
/-- signs and line feeds, at most 2,000 -/
def Lf (l : List Nat) : Prop := l.length ≤ 2000 ∧ ∀ c ∈ l, c = 10 ∨ 32 ≤ c ∧ c ≤ 126
/-- the words, or the first sign that is wrong -/
def cutR (st : Sc → Nat → Nat → Except Nat Sc) (l : List Nat) : Except Nat (List (List Nat)) := match M.scan st 0 sc0 l with
  | .error e => .error e
  | .ok t => if t.tk = true then .error (l.length - 1) else if t.qt ≠ 0 then .error t.op else .ok (fin t)
theorem cutR_eq {l : List Nat} (h : ∀ c ∈ l, c ≠ 0) : cutR stL l = cutR stP l := by
  have q := scan_eq l 0 sc0 ⟨.inl rfl, fun h => by cases h⟩ h
  unfold cutR
  cases e : M.scan stP 0 sc0 l with
  | error x => rw [e] at q; rw [show M.scan stL 0 sc0 l = _ from q]
  | ok t =>
    rw [e] at q
    rw [show M.scan stL 0 sc0 l = _ from q.1]
    obtain ⟨ws, bg, qt, op, tk⟩ := t
    cases tk <;> rfl
theorem replL_one (d : Nat) : ∀ l : List Nat, PySem.StrLaws.replL [d] [] l = l.filter fun c => decide (c ≠ d)
  | [] => PySem.StrLaws.replL_nil
  | c :: l => by
    by_cases h : c = d
    · rw [PySem.StrLaws.replL_hit (List.cons_ne_nil _ _) (by simp [h]), List.filter_cons_of_neg (by simp [h])]
      exact replL_one d l
    · rw [PySem.StrLaws.replL_miss (by simp [h]), List.filter_cons_of_pos (by simp [h]), replL_one d l]
/-- a replaced text: without line feeds -/
theorem repl_nl {z : Str} : cd (Txt.replace z (Str.ofString "\n") (Str.ofString "")) = (cd z).filter fun c => decide (c ≠ 10) := by
  rw [show cd (Txt.replace z (Str.ofString "\n") (Str.ofString "")) = _ from PySem.StrLaws.replace_list (by decide +kernel)]
  rw [l_nl, l_nil]
  exact replL_one 10 _
def spIsLineX : Sp := fun vs H Q _ => ∃ z : Str, vs = [.str z] ∧ z.length ≤ 1000000 ∧ ∀ H', Same H H' → Q (.bl (decide (z.length ≤ 2000) && sg ((cd z).filter fun c => decide (c ≠ 10)))) H'
theorem lf_line {z : Str} (h : Lf (cd z)) : (decide (z.length ≤ 2000) && sg ((cd z).filter fun c => decide (c ≠ 10))) = true := by
  rw [decide_eq_true (by rw [len_cd]; exact h.1), Bool.true_and]
  refine sg_iff.mpr fun c hc => ?_
  obtain ⟨h1, h2⟩ := List.mem_filter.mp hc
  rcases h.2 c h1 with h3 | h3
  · exact absurd h3 (of_decide_eq_true h2)
  · exact h3
def spLongerX (C : Addr) : Sp := fun vs H Q E => ∃ (b : Option (List Nat)) (c : Nat) (i : Int), vs = [obV b, .str ⟨#[c]⟩, .int i] ∧ (b.getD []).length ≤ 40 ∧ ((b.getD []).length + 1 ≤ 40 → Q (.str (S (b.getD [] ++ [c]))) H) ∧ (40 < (b.getD []).length + 1 → Err C "at" (.int i) H E)
def spScannedX (C : Addr) : Sp := fun vs H Q E => ∃ z : Str, vs = [.str z] ∧ Lf (cd z) ∧
  (∀ e, M.scan stP 0 sc0 (cd z) = .error e → Err C "at" (.int (e : Nat)) H E) ∧
  (∀ t, M.scan stP 0 sc0 (cd z) = .ok t → t.tk = true → Err C "at" (.int (((cd z).length : Nat) - 1 : Int)) H E) ∧
  (∀ t, M.scan stP 0 sc0 (cd z) = .ok t → t.tk = false → ∀ (p w : Addr) (H' : Hp), H p = none → H w = none → Same H H' → H' p = some (.tup [.ref w, obV t.bg, qV t.qt, .int t.op]) → H' w = some (.lst (t.ws.map wV)) → p ≠ w → Q (.ref p) H')
def spCutX (C : Addr) : Sp := fun vs H Q E => ∃ z : Str, vs = [.str z] ∧ Lf (cd z) ∧ (∀ ws, cutR stP (cd z) = .ok ws → ws.length ≤ 40) ∧
  (∀ e, cutR stP (cd z) = .error e → Err C "at" (.int (e : Nat)) H E) ∧
  (∀ ws, cutR stP (cd z) = .ok ws → ∀ (w : Addr) (H' : Hp), H w = none → Same H H' → H' w = some (.lst (ws.map wV)) → Q (.ref w) H')
end J
namespace J
open PySem PySem.Spec PyProof.Rows L2 M
/-- what the written part says of an own error x with one field f -/
structure OE (P : Program) (w : World) (K : PySem.W.Frag) (mg : Str → Option Value) (base : Heap) (x f : Str) (C : Addr) : Prop where
  T : OexC K C
  nf : PySem.W.findIn K (.ref C) f = some none
  gl : mg x = some (.ref C)
  ini : ∃ (fI : Addr) (fdI : FuncData), PySem.W.findIn K (.ref C) "__init__" = some (some (.ref fI)) ∧ PySem.W.typeIn K (.ref fI) = some (.type "function") ∧ FnOk P w K mg base CX0 1 fI fdI ["self", f] (spInit K f) ∧ Binds K fdI ["self", f] []
theorem ps_rzK {X : Cx} {K : PySem.W.Frag} {W : WX} {e : Expr} {C : Addr} {x f : Str} {ta : TA} {p pos pos2 : Pos} (eK : X.K = K) (hc : X.calm = true) (tk : Takes X W) (O : OE X.prog X.w X.K X.mg X.base x f C) (hr : Room 2 X.A) (hg : Gl X x) (ha : PA X [e] ta)
    (hdb : (x == ("__debug__" : Str)) = false := by decide) (he : starEach (e :: []) X.env = (false, eval e X.env) :: starEach [] X.env := by rfl) (hpl : (backTo pos (starEach [] X.env)).any (·.1) = false := by rfl) :
    PS X (.Raise (some (.Call (.Name x p) [e] [] pos)) none pos2) (tRz C (spInit K f) ta W) := by
  subst eK
  obtain ⟨fI, fdI, i1, i2, i3, i4⟩ := O.ini
  exact ps_rz hc tk (pmk_oex O.T i1 i2 i3 hr i4 .nil pass0 hg O.gl ha hdb he hpl)
end J

/-! data that stays; lists of words compared; doors of the lines -/
namespace J
open PySem PySem.Spec PyProof.Rows L2 M
mutual
theorem dp_mono {K : PySem.W.Frag} {H H' : Hp} (s : Same H H') : ∀ {v : V} {d : PyData}, Dp K H v d → Dp K H' v d
  | _, _, .non => .non
  | _, _, .bl b => .bl b
  | _, _, .int i => .int i
  | _, _, .str x => .str x
  | _, _, .lst h a => .lst (s.seqL h) (dpa_mono s a)
  | _, _, .tup h a => .tup (s.seqT h) (dpa_mono s a)
theorem dpa_mono {K : PySem.W.Frag} {H H' : Hp} (s : Same H H') : ∀ {vs : List V} {ds : List PyData}, DpAll K H vs ds → DpAll K H' vs ds
  | _, _, .nil => .nil
  | _, _, .cons h r => .cons (dp_mono s h) (dpa_mono s r)
end
theorem eqv_ws : ∀ a b : List (List Nat), PyData.eqv (dWs a) (dWs b) = decide (a = b)
  | [], [] => rfl
  | [], _ :: _ => rfl
  | _ :: _, [] => rfl
  | x :: a, y :: b => by
    have ih := eqv_ws a b
    show (PyData.eqv (dW x) (dW y) && PyData.eqv (dWs a) (dWs b)) = _
    rw [ih]
    have e : PyData.eqv (dW x) (dW y) = decide (x = y) := by
      show (S x == S y) = _
      by_cases h : x = y
      · subst h; simp
      · rw [decide_eq_false h]
        simp [S_inj, h]
    rw [e, ← Bool.decide_and]
    exact decide_eq_decide.mpr (by simp)
/-- the words of a good line are words -/
theorem scan_wd : ∀ {l : List Nat} {t : Sc}, (∀ c ∈ l, c ≤ 126) → M.scan stP 0 sc0 l = .ok t → (∀ w ∈ t.ws, ∀ c ∈ w, c ≤ 126) ∧ ∀ c ∈ t.bg.getD [], c ≤ 126 := by
  suffices key : ∀ (l : List Nat) (i : Nat) (s t : Sc), (∀ c ∈ l, c ≤ 126) → ((∀ w ∈ s.ws, ∀ c ∈ w, c ≤ 126) ∧ ∀ c ∈ s.bg.getD [], c ≤ 126) → M.scan stP i s l = .ok t → (∀ w ∈ t.ws, ∀ c ∈ w, c ≤ 126) ∧ ∀ c ∈ t.bg.getD [], c ≤ 126 from
    fun {l t} h e => key l 0 sc0 t h ⟨fun _ h => (List.not_mem_nil h).elim, fun _ h => (List.not_mem_nil h).elim⟩ e
  intro l
  induction l with
  | nil => intro i s t _ p e; cases e; exact p
  | cons d l ih =>
    intro i s t h p e
    have hd := h d (List.mem_cons_self ..)
    unfold M.scan at e
    cases hs : stP s i d with
    | error x => rw [hs] at e; cases e
    | ok u =>
      rw [hs] at e
      refine ih (i + 1) u t (fun c hc => h c (List.mem_cons_of_mem _ hc)) ?_ e
      have add : ∀ c ∈ s.bg.getD [] ++ [d], c ≤ 126 := fun c hc => by
        rcases List.mem_append.mp hc with q | q
        · exact p.2 c q
        · rw [List.mem_singleton.mp q]; exact hd
      unfold stP at hs
      repeat' split at hs
      all_goals first
        | (cases hs; done)
        | (cases hs; exact ⟨p.1, add⟩)
        | (cases hs; exact p)
        | skip
      all_goals (cases hs; refine ⟨?_, fun _ h => (List.not_mem_nil h).elim⟩)
      all_goals (intro w hw c hc)
      · rename_i b hb
        rcases List.mem_append.mp hw with q | q
        · exact p.1 w q c hc
        · rw [List.mem_singleton.mp q] at hc
          exact p.2 c (by rw [hb]; exact hc)
      · exact p.1 w hw c hc
theorem cutR_wd {l : List Nat} {ws : List (List Nat)} (h : Lf l) (e : cutR stP l = .ok ws) : ∀ w ∈ ws, ∀ c ∈ w, c ≤ 126 := by
  unfold cutR at e
  cases hs : M.scan stP 0 sc0 l with
  | error x => rw [hs] at e; cases e
  | ok t =>
    rw [hs] at e
    simp only at e
    split at e
    · cases e
    · split at e
      · cases e
      · cases e
        obtain ⟨h1, h2⟩ := scan_wd (fun c hc => by rcases h.2 c hc with q | q <;> omega) hs
        intro w hw c hc
        rcases List.mem_append.mp hw with q | q
        · exact h1 w q c hc
        · cases hb : t.bg with
          | none => rw [hb] at q; exact (List.not_mem_nil q).elim
          | some b =>
            rw [hb] at q
            rw [List.mem_singleton.mp q] at hc
            exact h2 c (by rw [hb]; exact hc)
end J
namespace J
open PySem PySem.Spec PyProof.Rows L2 M
/-- neither a list nor a tuple -/
def NoSeq (H : Hp) (x : V) : Prop := x = .non ∨ (∃ y, x = .str y) ∨ ∃ a kvs, x = .ref a ∧ H a = some (.dK kvs)
theorem NoSeq.mono {H H' : Hp} {x : V} (s : Same H H') (h : NoSeq H x) : NoSeq H' x := by
  rcases h with h | h | ⟨a, kvs, e, h⟩
  · exact .inl h
  · exact .inr (.inl h)
  · exact .inr (.inr ⟨a, kvs, e, s _ _ h⟩)
theorem r_isiNo {K : PySem.W.Frag} {H : Hp} {Q : VK} {x : V} {p : Addr} (h : NoSeq H x) (hp : H p = some (.tup [V.ty "list", V.ty "tuple"])) (k : Q (.bl false) H) : rIsiT K [x, .ref p] H Q := by
  rcases h with rfl | ⟨y, rfl⟩ | ⟨a, kvs, rfl, h⟩
  · exact ⟨_, p, _, _, _, false, rfl, hp, .cons (.ty _) (.cons (.ty _) .nil), .base .non, rfl, k⟩
  · exact ⟨_, p, _, _, _, false, rfl, hp, .cons (.ty _) (.cons (.ty _) .nil), .base (.str y), rfl, k⟩
  · exact ⟨_, p, _, _, _, false, rfl, hp, .cons (.ty _) (.cons (.ty _) .nil), .base (.dK h), rfl, k⟩
def spAlike (C : Addr) : Sp := fun vs H Q E => ∃ z y : Str, vs = [.str z, .str y] ∧ Lf (cd z) ∧ Lf (cd y) ∧ (∀ ws, cutR stP (cd z) = .ok ws → ws.length ≤ 40) ∧ (∀ ws, cutR stP (cd y) = .ok ws → ws.length ≤ 40) ∧
  (∀ e, cutR stP (cd z) = .error e → Err C "at" (.int (e : Nat)) H E) ∧
  (∀ ws, cutR stP (cd z) = .ok ws → (∀ e, cutR stP (cd y) = .error e → Err C "at" (.int (e : Nat)) H E) ∧ ∀ us, cutR stP (cd y) = .ok us → ∀ H', Same H H' → Q (.bl (decide (ws = us))) H')
def spShows (K : PySem.W.Frag) (C : Addr) : Sp := fun vs H Q E => ∃ (z : Str) (x : V), vs = [.str z, x] ∧ Lf (cd z) ∧ (∀ ws, cutR stP (cd z) = .ok ws → ws.length ≤ 40) ∧ (∀ e, cutR stP (cd z) = .error e → Err C "at" (.int (e : Nat)) H E) ∧
  ∀ ws, cutR stP (cd z) = .ok ws → (NoSeq H x ∧ ∀ H', Same H H' → Q (.bl false) H') ∨
    ∃ (a : Addr) (xs : List V) (ds : List PyData), x = .ref a ∧ (H a = some (.lst xs) ∨ H a = some (.tup xs)) ∧ DpAll K H xs ds ∧ SeqAt.shaped (.list ds) = true ∧ ∀ H', Same H H' → Q (.bl (PyData.eqv (.list ds) (dWs ws))) H'
theorem r_eqWW {K : PySem.W.Frag} {H : Hp} {Q : VK} {a b : Addr} {ls ms : List (List Nat)} (ha : SqL K H a (ls.map wV)) (hb : SqL K H b (ms.map wV)) (h1 : ∀ l ∈ ls, ∀ c ∈ l, c ≤ 126) (h2 : ∀ l ∈ ms, ∀ c ∈ l, c ≤ 126) (k : Q (.bl (decide (ls = ms))) H) : rEqA K (.ref a) (.ref b) H Q :=
  .inr ⟨dWs ls, dWs ms, dp_ws ha, dp_ws hb, sh_ws h1, sh_ws h2, by rw [eqv_ws]; exact k⟩
end J

/-! the law's drawn lines -/
namespace J
open PySem PySem.Spec PyProof.Rows L2 M
def spStroked : Sp := fun vs H Q _ => ∃ (b : Addr) (n : Nat) (z d : Str), vs = [.ref b, .str z, .str d] ∧ Bx H b n ∧ n ≤ 700000000 ∧ (cd z).length ≤ 40 ∧ ∀ (o : List Nat) (H' : Hp), Strk (cd d) (cd z) o → Keep b H H' → Bx H' b (n + 40) → Q (.str (S o)) H'
def spWritten : Sp := fun vs H Q _ => ∃ (b : Addr) (n : Nat) (z : Str), vs = [.ref b, .str z] ∧ Bx H b n ∧ n ≤ 600000000 ∧ Wd (cd z) ∧ ∀ (o : List Nat) (H' : Hp), WrO (cd z) o → Keep b H H' → Bx H' b (n + 2000) → Q (.str (S o)) H'
def spGap : Sp := fun vs H Q _ => ∃ (b : Addr) (n few : Nat), vs = [.ref b, .int few] ∧ few ≤ 1 ∧ Bx H b n ∧ n ≤ 700000000 ∧ ∀ (g : List Nat) (H' : Hp), Gp g → g.length ≤ few + 1 → few ≤ g.length → Keep b H H' → Bx H' b (n + 10) → Q (.str (S g)) H'
/-- a line of these words -/
def LineOf (ls : List (List Nat)) (f : List Nat) : Prop := f.length ≤ 4 + 170 * ls.length ∧ (∀ c ∈ f, c = 10 ∨ 32 ≤ c ∧ c ≤ 126) ∧ ∃ t, M.scan stP 0 sc0 f = .ok t ∧ t.tk = false ∧ t.qt = 0 ∧ fin t = ls
def spLineOf (K : PySem.W.Frag) : Sp := fun vs H Q _ => ∃ (b a : Addr) (n : Nat) (ls : List (List Nat)), vs = [.ref b, .ref a] ∧ a ≠ b ∧ SqL K H a (ls.map wV) ∧ ls.length ≤ 10 ∧ (∀ l ∈ ls, Wd l) ∧ Bx H b n ∧ n ≤ 500000000 ∧ ∀ (f : List Nat) (H' : Hp), LineOf ls f → Keep b H H' → Bx H' b (n + 25000) → Q (.str (S f)) H'
end J
namespace J
open PySem PySem.Spec PyProof.Rows L2 M
section
variable {σ : L2.St} {H : Hp} {Q : VK} {K : PySem.W.Frag} {D : Ends}
theorem r_slS {z : Str} {lo hi : Option Int} (h : z.length ≤ 16777216) (k : Q (.str (cutS z lo hi)) H) : rSl K (.str z) lo hi H Q := .inr ⟨z, rfl, h, k⟩
theorem r_while {c : TT} {tb : TS} {n : L2.St → Hp → Prop} {rt : VK} {bk ct : L2.St → Hp → Prop} (I : Nat → L2.St → Hp → Prop) (m0 : Nat) (start : I m0 σ H)
    (turn : ∀ m σ1 H1, I m σ1 H1 → c σ1 H1 fun b H2 => if b = true then (∃ N : L2.St → Hp → Prop, (∀ σ' H', N σ' H' → ∃ m', m' < m ∧ I m' σ' H') ∧ tb ⟨N, rt, n, N⟩ σ1 H2) else n σ1 H2) : tWhile c tb ⟨n, rt, bk, ct⟩ σ H := ⟨I, ⟨m0, start⟩, turn⟩
theorem cutS_take (z : Str) (k : Nat) : cutS z none (some (k : Int)) = S ((cd z).take k) := by
  rw [str_eq, cd_S]
  unfold cutS
  rw [HT.sIx_nat, HT.sIx_none]
  show ((cd z).drop 0).take (min k z.length - 0) = _
  rw [List.drop_zero, Nat.sub_zero, len_cd, ← List.take_take, List.take_length]
theorem cutS_drop (z : Str) (k : Nat) : cutS z (some (k : Int)) none = S ((cd z).drop k) := by
  rw [str_eq, cd_S]
  unfold cutS
  rw [HT.sIx_nat, HT.sIx_none]
  show ((cd z).drop (min k z.length)).take (z.length - min k z.length) = _
  rw [len_cd]
  by_cases h : k ≤ (cd z).length
  · rw [Nat.min_eq_left h]
    exact List.take_of_length_le (by rw [List.length_drop]; omega)  -- own
  · rw [Nat.min_eq_right (by omega), List.drop_eq_nil_of_le (show (cd z).length ≤ (cd z).length from Nat.le_refl _), List.drop_eq_nil_of_le (by omega)]
    simp
end
theorem strk_one {need : List Nat} {c : Nat} (b : Bool) (h : c ∈ need → b = true) : Strk need [c] (if b = true then [92, c] else [c]) := by
  cases b
  · exact .bare (fun q => by have := h q; cases this) .nil
  · exact .str .nil
/-- a stroke, or none, and a sign -/
theorem r_stroke {K : PySem.W.Frag} {H : Hp} {N : VK} {c : Nat} {b : Bool} (k : N (.str (S (if b = true then [92, c] else [c]))) H) : J.rMul (.str "\\") (.int (if b = true then 1 else 0)) H fun x H1 => J.rAdd K x (.str ⟨#[c]⟩) H1 N := by
  cases b
  · rw [if_neg Bool.false_ne_true]
    refine r_mulS mul_0.1 ?_
    rw [mul_0.2]
    refine r_addS (a := "") (b := ⟨#[c]⟩) (le_line (show 0 + 1 ≤ 16777216 by decide)) ?_
    rw [S_nil_app]
    exact k
  · rw [if_pos rfl]
    refine r_mulS mul_1.1 ?_
    rw [mul_1.2]
    refine r_addS (a := "\\") (b := ⟨#[c]⟩) (le_line (show 1 + 1 ≤ 16777216 by decide)) ?_
    have e : (Str.ofString "\\" ++ ⟨#[c]⟩ : Str) = S [92, c] := by rw [str_eq, cd_app, cd_S]; rfl
    rw [e]
    exact k
end J
namespace J
open PySem PySem.Spec PyProof.Rows L2 M
theorem r_strokeV {K : PySem.W.Frag} {H : Hp} {σ : L2.St} {N : VK} {c i : Nat} (b : Bool) (hv : σ[i]? = some (some (.str ⟨#[c]⟩))) (k : N (.str (S (if b = true then [92, c] else [c]))) H) :
    J.rMul (.str "\\") (.int (if b = true then 1 else 0)) H fun x H1 => tVar i σ H1 fun y H2 => J.rAdd K x y H2 N := by
  have key := r_stroke (K := K) (b := b) k
  cases b
  · rw [if_neg Bool.false_ne_true] at key ⊢
    refine r_mulS mul_0.1 ?_
    rw [mul_0.2]
    refine r_var hv (r_addS (a := "") (b := ⟨#[c]⟩) (le_line (show 0 + 1 ≤ 16777216 by decide)) ?_)
    rw [S_nil_app]
    exact k
  · rw [if_pos rfl] at key ⊢
    refine r_mulS mul_1.1 ?_
    rw [mul_1.2]
    refine r_var hv (r_addS (a := "\\") (b := ⟨#[c]⟩) (le_line (show 1 + 1 ≤ 16777216 by decide)) ?_)
    have e : (Str.ofString "\\" ++ ⟨#[c]⟩ : Str) = S [92, c] := by rw [str_eq, cd_app, cd_S]; rfl
    rw [e]
    exact k
/-- for i, x in enumerate(list): an invariant over the number walked -/
theorem r_forEnumL {K : PySem.W.Frag} {σ : L2.St} {H : Hp} {i : Nat} {a : Addr} {xs : List V} {g : TG} {tb : TS} {n : L2.St → Hp → Prop} {rt : VK} {bk ct : L2.St → Hp → Prop} (hv : σ[i]? = some (some (.ref a))) (I : Nat → L2.St → Hp → Prop) (list : ∀ j σ1 H1, I j σ1 H1 → SqL K H1 a xs) (start : I 0 σ H)
    (turn : ∀ (j : Nat) σ1 H1 (T : Addr) (x : V), xs[j]? = some x → I j σ1 H1 → H1 T = none → g (.ref T) σ1 (upd H1 T (.tup [.int (j : Nat), x])) fun σ2 H2 => tb ⟨I (j + 1), rt, n, I (j + 1)⟩ σ2 H2)
    (fin : ∀ σ1 H1, I xs.length σ1 H1 → n σ1 H1) : tFor (iEnum K (tCons (tVar i) tNil)) g tb ⟨n, rt, bk, ct⟩ σ H := by
  refine ⟨.ref a, hv, a, xs, rfl, list _ _ _ start, ?_⟩
  exact loop_of (D := ⟨n, rt, bk, ct⟩) xs.length I start (fun j σ1 H1 hj w => ⟨xs, _, list _ _ _ w, List.getElem?_eq_getElem hj⟩) (fun σ1 H1 w => ⟨xs, list _ _ _ w, Nat.le_refl _⟩) (fun j σ1 H1 x H' hj w y => by
    obtain ⟨T, c, rfl, hT, rfl, hc⟩ := y
    exact turn j σ1 H1 T c (hc xs (list _ _ _ w)) w hT) fin
theorem asEnum {X : Cx} {K : PySem.W.Frag} {tg e : Expr} {ta : TA} (eK : X.K = K) (h : PI X tg e (iEnum X.K ta)) : PI X tg e (iEnum K ta) := eK ▸ h
end J
namespace J
open PySem PySem.Spec PyProof.Rows L2 M
theorem r_lcRG {σ : L2.St} {H : Hp} {Q : VK} {ta : TA} {te' : TE} {g : TG} {tt : TT} {vs : List Nat} (k : ta σ H fun ws H1 => ∃ j : Int, ws = [.int j] ∧ -(2 ^ 62) ≤ j ∧ j < 2 ^ 62 ∧ ∀ E, H1 E = none → CompQ (Itr 0 j.toNat) g tt te' vs σ H1 E fun H => Q (.ref E) H) : tLc (iRng1 ta) g tt te' vs σ H Q := k
end J
namespace J
open PySem PySem.Spec PyProof.Rows L2 M
def badD (i : Int) : List (Key × V) := [(.inr "bad", .int i)]
theorem merge_bad (i : Int) : mergeK [] (badD i) = badD i := rfl
theorem get_badI (i : Int) : valV (badD i) (.inr "bad") = some (.int i) := rfl
theorem get_opened (wd : Addr) (t : Sc) : valV (stD wd t) (.inr "opened") = some (.int (t.op : Nat)) := rfl
def Lf3 (l : List Nat) : Prop := l.length ≤ 3000 ∧ ∀ c ∈ l, c = 10 ∨ 32 ≤ c ∧ c ≤ 126
def spStateX : Sp := fun vs H Q _ => ∃ z : Str, vs = [.str z] ∧ Lf3 (cd z) ∧
  (∀ e, M.scan stL 0 sc0 (cd z) = .error e → ∀ (p : Addr) (H' : Hp), Same H H' → H' p = some (.dK (badD (e : Nat))) → Q (.ref p) H') ∧
  (∀ t, M.scan stL 0 sc0 (cd z) = .ok t → t.tk = true → ∀ (p : Addr) (H' : Hp), Same H H' → H' p = some (.dK (badD (((cd z).length : Nat) - 1 : Int))) → Q (.ref p) H') ∧
  (∀ t, M.scan stL 0 sc0 (cd z) = .ok t → t.tk = false → ∀ (p wd : Addr) (H' : Hp), Same H H' → H' p = some (.dK (stD wd t)) → H' wd = some (.lst (t.ws.map wV)) → Q (.ref p) H')
def spDueX : Sp := fun vs H Q _ => ∃ z : Str, vs = [.str z] ∧ Lf3 (cd z) ∧ (∀ ws, cutR stL (cd z) = .ok ws → ws.length ≤ 40) ∧
  (∀ e, cutR stL (cd z) = .error e → ∀ (p : Addr) (H' : Hp), Same H H' → H' p = some (.lst [.str "sign", .int (e : Nat)]) → Q (.ref p) H') ∧
  (∀ ws, cutR stL (cd z) = .ok ws → ∀ (p wd : Addr) (H' : Hp), Same H H' → H' p = some (.lst [.str "told", .ref wd]) → H' wd = some (.lst (ws.map wV)) → Q (.ref p) H')
end J

/-! what the doors tell -/
namespace J
open PySem PySem.Spec PyProof.Rows L2 M
def outA (l m : List Nat) : Except Nat Bool := match cutR stP l with
  | .error e => .error e
  | .ok ws => match cutR stP m with
    | .error e => .error e
    | .ok us => .ok (decide (ws = us))
def outS (l : List Nat) (f : List (List Nat) → Bool) : Except Nat Bool := match cutR stP l with
  | .error e => .error e
  | .ok ws => .ok (f ws)
def outV : Except Nat Bool → List V
  | .error e => [.str "sign", .int (e : Nat)]
  | .ok b => [.str "told", .bl b]
def Few (l : List Nat) : Prop := ∀ ws, cutR stP l = .ok ws → ws.length ≤ 40
def spTold (K : PySem.W.Frag) : Sp := fun vs H Q _ => ∃ (door : Int) (z : Str) (x : V) (o : Except Nat Bool), vs = [.int door, .str z, x] ∧ Lf (cd z) ∧ Few (cd z) ∧
  ((door = 0 ∧ ∃ y : Str, x = .str y ∧ Lf (cd y) ∧ Few (cd y) ∧ o = outA (cd z) (cd y)) ∨
   (door = 1 ∧ ((NoSeq H x ∧ o = outS (cd z) fun _ => false) ∨
     ∃ (a : Addr) (xs : List V) (ds : List PyData), x = .ref a ∧ (H a = some (.lst xs) ∨ H a = some (.tup xs)) ∧ DpAll K H xs ds ∧ SeqAt.shaped (.list ds) = true ∧ o = outS (cd z) fun ws => PyData.eqv (.list ds) (dWs ws)))) ∧
  ∀ (p : Addr) (H' : Hp), Same H H' → H' p = some (.lst (outV o)) → Q (.ref p) H'
theorem r_xf {a C dd : Addr} {cls : Value} {d : Option Addr} {f : Str} {i : Nat} {v : V} {σ : L2.St} {H : Hp} {Q : VK} (hv : σ[i]? = some (some (.ref a))) (hc : cls = .ref C) (hd : d = some dd) (h : H dd = some (.xd [(f, v)])) (k : Q v H) : tXf a cls d C f (tVar i) σ H Q :=
  ⟨_, hv, rfl, hc, dd, _, v, hd, h, by simp [List.lookup], k⟩
end J

/-! a text the other way about -/
namespace J
open PySem PySem.Spec PyProof.Rows L2 M
theorem range_all (l : Array Nat) : (List.range l.size).filterMap (l[·]?) = l.toList := by
  apply List.ext_getElem?
  intro i
  rw [show (List.range l.size).filterMap (l[·]?) = (List.range l.size).filterMap (fun j => l.toList[j]?) from by congr 1; funext j; simp]
  have : ∀ (m : List Nat), (List.range m.length).filterMap (fun j => m[j]?) = m := fun m => by
    induction m with
    | nil => rfl
    | cons a m ih =>
      rw [List.length_cons, List.range_succ_eq_map, List.filterMap_cons]
      simp only [List.getElem?_cons_zero, List.filterMap_map]
      congr 1
  have h := this l.toList
  rw [Array.length_toList] at h
  rw [h]
theorem picked_rev (z : Str) (t : Tok) : (slicePicked z none none (some (-1, t))).filterMap (z.cps[·]?) = z.cps.toList.reverse := by
  have e : slicePicked z none none (some (-1, t)) = (List.range z.cps.size).reverse := by
    show sliceRange ((z.cps.size : Int) - 1) (-1) (-1) = _
    rw [PySem.W.krv_sliceRange, PySem.W.krv_range]
  rw [e, List.filterMap_reverse, range_all]
def tRevS (te : TE) : TE := fun σ H Q => te σ H fun x H1 => ∃ z : Str, x = .str z ∧ z.length ≤ sizeLine ∧ Q (.str (S (cd z).reverse)) H1
theorem pe_revS {X : Cx} {e : Expr} {te : TE} {k : Nat} {p1 p2 p3 pos : Pos} (he : PE X e te) : PE X (.Subscript e (.Slice none none (some (.UnaryOp .USub (.Constant (.int 1) k p1) p2)) p3) pos) (tRevS te) := by
  constructor
  intro pins s σ H Q I h
  apply Subscript_
  refine thn (he.run pins s σ H _ I h) fun v s1 r => ?_
  obtain ⟨x, H1, I1, rx, z, rfl, hz, q⟩ := r
  obtain ⟨tz, rfl⟩ := rx
  apply wpAny_Slice
  refine thn (po_none.run pins s1 σ H1 (fun o G => o = none ∧ G = H1) I1 ⟨rfl, rfl⟩) fun a s2 r => ?_
  obtain ⟨a', G, I2, pa, ea, rfl⟩ := r
  subst ea
  refine thn (po_none.run pins s2 σ G (fun o G' => o = none ∧ G' = G) I2 ⟨rfl, rfl⟩) fun b s3 r => ?_
  obtain ⟨b', G', I3, pb, eb, rfl⟩ := r
  subst eb
  have minus : PO X (some (.UnaryOp .USub (.Constant (.int 1) k p1) p2)) (tPart (tUn (rU fun i => .int (-i)) (tC (.int 1)))) := po_some (pe_un un_neg pe_int)
  refine thn (minus.run pins s3 σ G' (fun o F => o = some (-1) ∧ F = G') I3 ⟨1, rfl, -1, rfl, rfl, rfl⟩) fun c s4 r => ?_
  obtain ⟨c', F, I4, pc, ec, rfl⟩ := r
  subst ec
  obtain ⟨l1, rfl, e1⟩ := IsPart.raw pa
  obtain ⟨l2, rfl, e2⟩ := IsPart.raw pb
  obtain ⟨l3, rfl, e3⟩ := IsPart.raw pc
  obtain ⟨rfl⟩ : l1 = none := by cases l1 with | none => rfl | some _ => cases e1
  obtain ⟨rfl⟩ : l2 = none := by cases l2 with | none => rfl | some _ => cases e2
  obtain ⟨t3, rfl⟩ : ∃ t3, l3 = some (-1, t3) := by
    cases l3 with
    | none => cases e3
    | some y => obtain ⟨i, t3⟩ := y; cases e3; exact ⟨t3, rfl⟩
  refine tail_any (ops := [.ref s4.heap.objs.size, .str z tz]) (typeIs_str _ z tz) PySem.F.slot_str_getitem.lookup ?_ (by with_unfolding_all rfl)
  refine wpAny_getItem_str_slice (l := none) (u := none) (st := some (-1, t3)) ⟨_, Heap.get?_push_size _ rfl, rfl, rfl⟩ rfl ?_
  have me : sliceMade z tz none none (some (-1, t3)) = .str (S (cd z).reverse) := by
    unfold sliceMade
    rw [picked_rev]
    rfl
  rw [me]
  have I5 : Inv X pins σ F { s4 with heap := s4.heap.push { cls := .type "slice", data := .fields #[partValue none, partValue none, partValue (some (-1, t3))] } } := I4.kept (t' := s4.toks) fun b ob h => Heap.get?_push_of_some _ h
  exact ⟨by rw [S_len, List.length_reverse, ← len_cd]; exact hz, .str _, F, I5.tok _, ⟨_, rfl⟩, q⟩
end J
namespace J
open PySem PySem.Spec PyProof.Rows L2 M
def spOtherwise (K : PySem.W.Frag) : Sp := fun vs H Q _ => ∃ (b a : Addr) (n : Nat) (ls : List (List Nat)), vs = [.ref b, .ref a] ∧ a ≠ b ∧ H a = some (.lst (ls.map wV)) ∧ ls.length ≤ 5 ∧ (∀ l ∈ ls, l.length ≤ 20 ∧ ∀ c ∈ l, 32 ≤ c ∧ c ≤ 126) ∧ Bx H b n ∧ n ≤ 700000000 ∧
  ∀ (os : List (List Nat)) (p : Addr) (H' : Hp), os.length ≤ 6 → (∀ o ∈ os, Wd o) → Keep b H H' → Bx H' b (n + 10) → H' p = some (.lst (os.map wV)) → p ≠ b → Q (.ref p) H'
theorem r_rev {te : TE} {σ : L2.St} {H : Hp} {Q : VK} (k : te σ H fun x H1 => ∃ z : Str, x = .str z ∧ z.length ≤ sizeLine ∧ Q (.str (S (cd z).reverse)) H1) : tRevS te σ H Q := k
/-- lists that are put together: all as it was, a new one -/
theorem r_catN {K : PySem.W.Frag} {l m : Addr} {xs ys : List (List Nat)} {H : Hp} {Q : VK} (h : H l = some (.lst (xs.map wV))) (g : H m = some (.lst (ys.map wV))) (hx : xs.length + ys.length ≤ 1000) (k : ∀ p H', H p = none → (∀ q o, H q = some o → H' q = some o) → H' p = some (.lst ((xs ++ ys).map wV)) → (∀ b n, Bx H b n → Bx H' b n) → Q (.ref p) H') : J.rAdd K (.ref l) (.ref m) H Q := by
  refine r_cat h g (by rw [List.length_map, List.length_map]; exact Nat.le_trans hx (by decide)) fun p hp => ?_
  exact k p _ hp (fun q o hq => by rw [upd_ne (ne_of_none hq hp)]; exact hq) (by rw [upd_same, List.map_append]) fun b n hb => hb.new hp
theorem r_slN {K : PySem.W.Frag} {a : Addr} {ls : List (List Nat)} {lo hi : Option Int} {H : Hp} {Q : VK} (h : H a = some (.lst (ls.map wV))) (k : ∀ p H' ms, H p = none → (∀ q o, H q = some o → H' q = some o) → H' p = some (.lst (List.map wV ms)) → (∀ l ∈ ms, l ∈ ls) → ms.length ≤ HT.sIx ls.length ls.length hi - HT.sIx ls.length 0 lo → (∀ b n, Bx H b n → Bx H' b n) → Q (.ref p) H') : rSl K (.ref a) lo hi H Q := by
  refine r_slL (SqL.of h) fun p hp => ?_
  obtain ⟨ms, e, h1, _, h2⟩ := cutV_map wV ls lo hi
  rw [e]
  exact k p _ ms hp (fun q o hq => by rw [upd_ne (ne_of_none hq hp)]; exact hq) upd_same h1 h2 fun b n hb => hb.new hp
theorem r_lstN {H : Hp} {Q : VK} (os : List (List Nat)) (hl : os.length ≤ 1000) (k : ∀ p H', H p = none → (∀ q o, H q = some o → H' q = some o) → H' p = some (.lst (os.map wV)) → (∀ b n, Bx H b n → Bx H' b n) → Q (.ref p) H') : (os.map wV).length ≤ sizeLine ∧ ∀ p, H p = none → Q (.ref p) (upd H p (.lst (os.map wV))) := by
  refine ⟨by rw [List.length_map]; exact Nat.le_trans hl (by decide), fun p hp => ?_⟩
  exact k p _ hp (fun q o hq => by rw [upd_ne (ne_of_none hq hp)]; exact hq) upd_same fun b n hb => hb.new hp
end J

/-! what is told compared; dicts of pairs; lists of pairs -/
namespace J
open PySem PySem.Spec PyProof.Rows L2 M
def rDictP (K : PySem.W.Frag) : List V → Hp → VK → Prop := fun xs H Q => ∃ (a : Addr) (ps : List Addr) (kvs : List (Key × V)), xs = [.ref a] ∧ SqL K H a (ps.map V.ref) ∧ Paired (fun p kv => SqT K H p [kV kv.1, kv.2]) ps kvs ∧ ∀ p, H p = none → Q (.ref p) (upd H p (.dK (mergeK [] kvs)))
theorem call_dictA {X : Cx} (hc : X.calm = true) : CallR X (.type "dict") (rDictP X.K) := L2.call_dictP hc
def outD : Except Nat Bool → List PyData
  | .error e => [.str "sign", .int (e : Nat)]
  | .ok b => [.str "told", .bool b]
theorem dp_out {K : PySem.W.Frag} {H : Hp} : ∀ o : Except Nat Bool, DpAll K H (outV o) (outD o)
  | .error e => .cons (.str _) (.cons (.int _) .nil)
  | .ok b => .cons (.str _) (.cons (.bl _) .nil)
theorem sh_out : ∀ o : Except Nat Bool, SeqAt.shaped (.list (outD o)) = true
  | .error e => by show (PyData.canLay0 (.list [.str "sign", .int _]) && _) = true; simp [PyData.canLay0, PyData.canLayAll0, PyData.depth, PyData.depthAll]; exact ⟨by decide +kernel, by simp [outD, PyData.depth, PyData.depthAll]⟩
  | .ok b => by show (PyData.canLay0 (.list [.str "told", .bool b]) && _) = true; simp [PyData.canLay0, PyData.canLayAll0, PyData.depth, PyData.depthAll]; exact ⟨by decide +kernel, by simp [outD, PyData.depth, PyData.depthAll]⟩
theorem eqv_out : ∀ o : Except Nat Bool, PyData.eqv (.list (outD o)) (.list (outD o)) = true
  | .error e => by simp [outD, PyData.eqv, PyData.eqvAll]
  | .ok b => by simp [outD, PyData.eqv, PyData.eqvAll]
theorem r_neOut {K : PySem.W.Frag} {H : Hp} {Q : VK} {a b : Addr} {xs ys : List V} (o : Except Nat Bool) (ha : H a = some (.lst xs)) (hb : H b = some (.lst ys)) (ex : xs = outV o) (ey : ys = outV o) (k : Q (.bl false) H) : rNeA K (.ref a) (.ref b) H Q := by
  subst ex ey
  exact .inr ⟨_, _, .lst (SqL.of ha) (dp_out o), .lst (SqL.of hb) (dp_out o), sh_out o, sh_out o, by rw [eqv_out]; exact k⟩
theorem r_eqOut {K : PySem.W.Frag} {H : Hp} {Q : VK} {a b : Addr} {xs ys : List V} (o : Except Nat Bool) (ha : H a = some (.lst xs)) (hb : H b = some (.lst ys)) (ex : xs = outV o) (ey : ys = outV o) (k : Q (.bl true) H) : rEqA K (.ref a) (.ref b) H Q := by
  subst ex ey
  exact .inr ⟨_, _, .lst (SqL.of ha) (dp_out o), .lst (SqL.of hb) (dp_out o), sh_out o, sh_out o, by rw [eqv_out]; exact k⟩
/-- [(word, 1) for word in words] -/
theorem comp_pairs {J : It} {g : TG} {te : TE} {vs : List Nat} {σ : L2.St} {H1 : Hp} {D : Addr} {Z : Hp → Prop} {ls : List (List Nat)} (SI : SeqIt J (ls.map wV) H1) (hD : H1 D = none) (hs : ls.length < 1000)
    (turn : ∀ (l : List Nat) (H : Hp) (N : V → Hp → Prop), Same H1 H → (∀ p, H p = none → N (.ref p) (upd H p (.tup [wV l, .int 1]))) → g (wV l) (wipe σ vs) H fun σ2 H2 => wipe σ2 vs = wipe σ vs ∧ te σ2 H2 N)
    (fin : ∀ H ps, Same H1 H → H D = some (.lst (ps.map V.ref)) → Paired (fun p l => H p = some (.tup [wV l, .int 1])) ps ls → Z H) : CompQ J g tYes te vs σ H1 D Z := by
  refine comp_of ls.length (fun i H => Same H1 H ∧ ∃ ps : List Addr, H D = some (.lst (ps.map V.ref)) ∧ Paired (fun p l => H p = some (.tup [wV l, .int 1]) ∧ p ≠ D) ps (ls.take i)) ⟨(Same.refl H1).at hD _, [], upd_same, .nil⟩ (fun i H hi w => SI.go i H w.1 (by rw [List.length_map]; exact hi)) (fun H w => by have := SI.stop H w.1; rwa [List.length_map] at this) (fun i H x H' hi w y => ?_) (fun H w => ?_)
  · obtain ⟨s, ps, hps, pr⟩ := w
    obtain ⟨rfl, hx⟩ := SI.yld i H x H' s y
    rw [List.getElem?_map] at hx
    obtain ⟨l, hl, rfl⟩ := Option.map_eq_some_iff.mp hx
    refine turn l H' _ s fun p hp => ?_
    have pD : p ≠ D := fun e => by rw [e, hps] at hp; cases hp
    have e1 : upd H' p (.tup [wV l, .int 1]) D = some (.lst (ps.map V.ref)) := by rw [upd_ne pD.symm]; exact hps
    refine ⟨_, e1, ?_, (s.new hp _).at hD _, ps ++ [p], by rw [upd_same, List.map_append]; rfl, ?_⟩
    · have := pr.length
      rw [List.length_map, this, List.length_take]
      exact Nat.lt_of_le_of_lt (show _ ≤ 1000 by omega) (by decide)
    · rw [take_snoc hl]
      refine Paired.snoc (L2.Paired.mapP pr fun q m ⟨h1, h2⟩ => ⟨?_, h2⟩) ⟨by rw [upd_ne pD, upd_same], pD⟩
      rw [upd_ne h2, upd_ne (ne_of_none h1 hp)]
      exact h1
  · obtain ⟨s, ps, hps, pr⟩ := w
    rw [List.take_of_length_le (Nat.le_refl _)] at pr
    exact fin H ps s hps (L2.Paired.mapP pr fun _ _ h => h.1)
/-- a dict of such pairs -/
theorem pairs_key {K : PySem.W.Frag} {H : Hp} {ps : List Addr} {ls : List (List Nat)} (h : Paired (fun p l => H p = some (.tup [wV l, .int 1])) ps ls) : Paired (fun p (kv : Key × V) => SqT K H p [kV kv.1, kv.2]) ps (ls.map fun l => ((.inr (S l) : Key), V.int 1)) := by
  induction h with
  | nil => exact .nil
  | cons h _ ih => exact .cons (SqT.of h) ih
theorem eqv_lw {d : PyData} {l : List Nat} (h : ∀ x, d ≠ .str x) : PyData.eqv d (dW l) = false := by
  cases d <;> first | rfl | exact absurd rfl (h _)
theorem eqvAll_len : ∀ (xs ys : List PyData), xs.length ≠ ys.length → PyData.eqvAll xs ys = false
  | [], [], h => absurd rfl h
  | [], _ :: _, _ => rfl
  | _ :: _, [], _ => rfl
  | x :: xs, y :: ys, h => by
    show (PyData.eqv x y && PyData.eqvAll xs ys) = false
    rw [eqvAll_len xs ys (by simpa using h), Bool.and_false]
end J

/-! the doors asked of lines that can be cut, or can't -/
namespace J
open PySem PySem.Spec PyProof.Rows L2 M
/-- a line that is cut to these words -/
def Cu (ws : List (List Nat)) (f : List Nat) : Prop := Lf f ∧ cutR stP f = .ok ws ∧ ws.length ≤ 40
theorem Cu.of {ls : List (List Nat)} {f : List Nat} (h : LineOf ls f) (hl : ls.length ≤ 10) : Cu ls f := by
  obtain ⟨h1, h2, t, h3, h4, h5, h6⟩ := h
  refine ⟨⟨by omega, h2⟩, ?_, by omega⟩
  unfold cutR
  rw [h3]
  simp only [h4, h5, h6]
  rfl
theorem Cu.few {ws : List (List Nat)} {f : List Nat} (h : Cu ws f) : Few f := fun us e => by
  rw [h.2.1] at e; cases e; exact h.2.2
/-- a line that can't be cut: its first wrong sign -/
def Bd (e : Nat) (f : List Nat) : Prop := Lf f ∧ cutR stP f = .error e
theorem Bd.few {e : Nat} {f : List Nat} (h : Bd e f) : Few f := fun us q => by rw [h.2] at q; cases q
theorem bd_end {ls : List (List Nat)} {f : List Nat} (h : LineOf ls f) (hl : ls.length ≤ 10) {b : List Nat} (hb : b ∈ [[39], [34], [39, 97], [34, 98, 32, 99], [100, 92], [34, 92]]) : ∃ e, Bd e (f ++ 32 :: b) := by
  obtain ⟨h1, h2, t, h3, h4, h5, h6⟩ := h
  obtain ⟨u, e1, e2⟩ := bad_end h3 h4 h5 hb
  have lb : b.length ≤ 4 ∧ ∀ c ∈ b, 32 ≤ c ∧ c ≤ 126 := by
    simp only [List.mem_cons, List.not_mem_nil, or_false] at hb  -- own
    rcases hb with q | q | q | q | q | q <;> subst q <;> decide
  have lf : Lf (f ++ 32 :: b) := ⟨by simp only [List.length_append, List.length_cons]; omega, fun c hc => by
    rcases List.mem_append.mp hc with q | q
    · exact h2 c q
    rcases List.mem_cons.mp q with q | q
    · omega
    · exact .inr (lb.2 c q)⟩
  have key : ∃ e, cutR stP (f ++ 32 :: b) = .error e := by
    unfold cutR
    rw [e1]
    rcases e2 with e2 | ⟨e2, e3⟩
    · exact ⟨_, by simp only [e2]; rfl⟩
    · exact ⟨_, by simp only [e2, Bool.false_eq_true, if_false, ne_eq, e3, not_false_eq_true, if_true]; rfl⟩
  obtain ⟨e, he⟩ := key
  exact ⟨e, lf, he⟩
theorem lf_ne {f : List Nat} (h : Lf f) : ∀ c ∈ f, c ≠ 0 := fun c hc => by have := h.2 c hc; omega
theorem Lf.three {f : List Nat} (h : Lf f) : Lf3 f := ⟨Nat.le_trans h.1 (by decide), h.2⟩
/-- what is no list of these words, and can be asked about -/
def Odd (K : PySem.W.Frag) (ws : List (List Nat)) (H : Hp) (x : V) : Prop := NoSeq H x ∨ ∃ (a : Addr) (xs : List V) (ds : List PyData), x = .ref a ∧ (H a = some (.lst xs) ∨ H a = some (.tup xs)) ∧ DpAll K H xs ds ∧ SeqAt.shaped (.list ds) = true ∧ PyData.eqv (.list ds) (dWs ws) = false
theorem Odd.mono {K : PySem.W.Frag} {ws : List (List Nat)} {H H' : Hp} {x : V} (s : Same H H') (h : Odd K ws H x) : Odd K ws H' x := by
  rcases h with h | ⟨a, xs, ds, e, h1, h2, h3⟩
  · exact .inl (h.mono s)
  · exact .inr ⟨a, xs, ds, e, h1.imp (s _ _) (s _ _), dpa_mono s h2, h3⟩
section
variable {K : PySem.W.Frag} {H : Hp} {Q : VK} {E : XK}
theorem told_two {z y : Str} {ls ms : List (List Nat)} (b : Bool) (h : Cu ls (cd z)) (g : Cu ms (cd y)) (hb : decide (ls = ms) = b) (k : ∀ (p : Addr) (H' : Hp), Same H H' → H' p = some (.lst (outV (.ok b))) → Q (.ref p) H') : spTold K [.int 0, .str z, .str y] H Q E :=
  ⟨0, z, .str y, .ok b, rfl, h.1, h.few, .inl ⟨rfl, y, rfl, g.1, g.few, by simp only [outA, h.2.1, g.2.1, hb]⟩, k⟩
theorem told_bd1 {z y : Str} {ls : List (List Nat)} {e : Nat} (h : Cu ls (cd z)) (g : Bd e (cd y)) (k : ∀ (p : Addr) (H' : Hp), Same H H' → H' p = some (.lst (outV (.error e))) → Q (.ref p) H') : spTold K [.int 0, .str z, .str y] H Q E :=
  ⟨0, z, .str y, .error e, rfl, h.1, h.few, .inl ⟨rfl, y, rfl, g.1, g.few, by simp only [outA, h.2.1, g.2]⟩, k⟩
theorem told_bd2 {z y : Str} {e : Nat} (h : Bd e (cd z)) (g : Lf (cd y)) (gf : Few (cd y)) (k : ∀ (p : Addr) (H' : Hp), Same H H' → H' p = some (.lst (outV (.error e))) → Q (.ref p) H') : spTold K [.int 0, .str z, .str y] H Q E :=
  ⟨0, z, .str y, .error e, rfl, h.1, h.few, .inl ⟨rfl, y, rfl, g, gf, by simp only [outA, h.2]⟩, k⟩
theorem told_bd3 {z : Str} {e : Nat} (h : Bd e (cd z)) (k : ∀ (p : Addr) (H' : Hp), Same H H' → H' p = some (.lst (outV (.error e))) → Q (.ref p) H') : spTold K [.int 1, .str z, .non] H Q E :=
  ⟨1, z, .non, .error e, rfl, h.1, h.few, .inr ⟨rfl, .inl ⟨.inl rfl, by simp only [outS, h.2]⟩⟩, k⟩
theorem told_ws {z : Str} {a : Addr} {ls ms : List (List Nat)} (b : Bool) (h : Cu ls (cd z)) (ha : H a = some (.lst (ms.map wV)) ∨ H a = some (.tup (ms.map wV))) (hm : ∀ l ∈ ms, ∀ c ∈ l, c ≤ 126) (hb : decide (ms = ls) = b) (k : ∀ (p : Addr) (H' : Hp), Same H H' → H' p = some (.lst (outV (.ok b))) → Q (.ref p) H') : spTold K [.int 1, .str z, .ref a] H Q E :=
  ⟨1, z, .ref a, .ok b, rfl, h.1, h.few, .inr ⟨rfl, .inr ⟨a, _, ms.map dW, rfl, ha, dp_all ms, sh_ws hm, by simp only [outS, h.2.1]; rw [show PyData.eqv (.list (ms.map dW)) (dWs ls) = _ from eqv_ws ms ls, hb]⟩⟩, k⟩
theorem told_odd {z : Str} {x : V} {ls : List (List Nat)} (h : Cu ls (cd z)) (o : Odd K ls H x) (k : ∀ (p : Addr) (H' : Hp), Same H H' → H' p = some (.lst (outV (.ok false))) → Q (.ref p) H') : spTold K [.int 1, .str z, x] H Q E := by
  rcases o with o | ⟨a, xs, ds, e, h1, h2, h3, h4⟩
  · exact ⟨1, z, x, .ok false, rfl, h.1, h.few, .inr ⟨rfl, .inl ⟨o, by simp only [outS, h.2.1]⟩⟩, k⟩
  · exact ⟨1, z, x, .ok false, rfl, h.1, h.few, .inr ⟨rfl, .inr ⟨a, xs, ds, e, h1, h2, h3, by simp only [outS, h.2.1, h4]⟩⟩, k⟩
theorem ne_told {a : Addr} {xs : List V} {o : Except Nat Bool} (ha : H a = some (.lst (outV o))) (ex : xs = outV o) (k : ∀ H', Same H H' → Q (.bl false) H') : xs.length ≤ sizeLine ∧ ∀ p, H p = none → rNeA K (.ref a) (.ref p) (upd H p (.lst xs)) Q := by
  refine ⟨?_, fun p hp => r_neOut o (by rw [upd_ne (new_ne hp ha).symm]; exact ha) upd_same rfl ex (k _ ((Same.refl H).new hp _))⟩
  rw [ex]; cases o <;> exact show 2 ≤ sizeLine by decide
theorem eq_told {a : Addr} {xs : List V} {o : Except Nat Bool} (ha : H a = some (.lst (outV o))) (ex : xs = outV o) (k : ∀ H', Same H H' → Q (.bl true) H') : xs.length ≤ sizeLine ∧ ∀ p, H p = none → rEqA K (.ref a) (.ref p) (upd H p (.lst xs)) Q := by
  refine ⟨?_, fun p hp => r_eqOut o (by rw [upd_ne (new_ne hp ha).symm]; exact ha) upd_same rfl ex (k _ ((Same.refl H).new hp _))⟩
  rw [ex]; cases o <;> exact show 2 ≤ sizeLine by decide
end
def spRight : Sp := fun vs H Q _ => ∃ (b a : Addr) (n : Nat) (ls : List (List Nat)), vs = [.ref b, .ref a] ∧ a ≠ b ∧ H a = some (.lst (ls.map wV)) ∧ ls.length ≤ 5 ∧ (∀ l ∈ ls, l.length ≤ 20 ∧ ∀ c ∈ l, 32 ≤ c ∧ c ≤ 126) ∧ Bx H b n ∧ n ≤ 400000000 ∧ ∀ H', Keep b H H' → Bx H' b (n + 100000) → Q (.bl true) H'
end J

/-! things that are no list of the words -/
namespace J
open PySem PySem.Spec PyProof.Rows L2 M
theorem jn_len : ∀ (ls : List (List Nat)) (B : Nat), (∀ l ∈ ls, l.length ≤ B) → (jn ls).length ≤ (B + 1) * ls.length
  | [], B, _ => Nat.zero_le _
  | [x], B, h => by
    have := h x (List.mem_cons_self ..)
    simp only [jn, List.length_cons, List.length_nil]; omega
  | x :: y :: r, B, h => by
    have h1 := h x (List.mem_cons_self ..)  -- own
    have h2 := jn_len (y :: r) B fun l hl => h l (List.mem_cons_of_mem _ hl)
    simp only [jn, List.length_append, List.length_cons, Nat.mul_add, Nat.mul_one] at h2 ⊢; omega
theorem can_app : ∀ {xs ys : List PyData}, PyData.canLayAll0 xs = true → PyData.canLayAll0 ys = true → PyData.canLayAll0 (xs ++ ys) = true
  | [], ys, _, h => h
  | x :: xs, ys, h, g => by
    have h := Bool.and_eq_true_iff.mp (show (PyData.canLay0 x && PyData.canLayAll0 xs) = true from h)
    show (PyData.canLay0 x && PyData.canLayAll0 (xs ++ ys)) = true
    rw [h.1, can_app h.2 g]; rfl
theorem dep_wsN : ∀ ls : List (List Nat), PyData.depthAll (ls.map dW ++ [.none]) = 0
  | [] => by simp [PyData.depthAll, PyData.depth]
  | l :: ls => by
    have := dep_wsN ls
    rw [List.map_cons, List.cons_append]
    simp [PyData.depthAll, PyData.depth, dW, this]
theorem dpa_app {K : PySem.W.Frag} {H : Hp} : ∀ {xs : List V} {ds : List PyData} {ys : List V} {es : List PyData}, DpAll K H xs ds → DpAll K H ys es → DpAll K H (xs ++ ys) (ds ++ es)
  | _, _, _, _, .nil, h => h
  | _, _, _, _, .cons a r, h => .cons a (dpa_app r h)
section
variable {K : PySem.W.Frag} {H : Hp} {ls : List (List Nat)}
theorem odd_in {p a : Addr} (hp : H p = some (.lst [.ref a])) (ha : H a = some (.lst (ls.map wV))) (h : ∀ l ∈ ls, ∀ c ∈ l, c ≤ 126) : Odd K ls H (.ref p) := by
  refine .inr ⟨p, _, [dWs ls], rfl, .inl hp, .cons (dp_ws (SqL.of ha)) .nil, ?_, ?_⟩
  · show (PyData.canLay0 (.list [dWs ls]) && decide _) = true
    have c : PyData.canLay0 (.list [dWs ls]) = true := by
      show (PyData.canLayAll0 (ls.map dW) && true) = true
      rw [can_ws h]; rfl
    rw [c, Bool.true_and]
    refine decide_eq_true ?_
    simp [PyData.depth, PyData.depthAll, dWs, dep_ws]
  · show PyData.eqvAll [dWs ls] (ls.map dW) = false
    cases ls with
    | nil => rfl
    | cons l r => rfl
theorem odd_more {p : Addr} (hp : H p = some (.lst (ls.map wV ++ [.non]))) (h : ∀ l ∈ ls, ∀ c ∈ l, c ≤ 126) : Odd K ls H (.ref p) := by
  refine .inr ⟨p, _, ls.map dW ++ [.none], rfl, .inl hp, dpa_app (dp_all ls) (.cons .non .nil), ?_, ?_⟩
  · show (PyData.canLayAll0 (ls.map dW ++ [.none]) && decide _) = true
    rw [can_app (can_ws h) rfl, Bool.true_and]
    refine decide_eq_true ?_
    simp only [PyData.depth]
    rw [dep_wsN]; decide
  · exact eqvAll_len _ _ (by simp)
end
end J

namespace J
open PySem PySem.Spec PyProof.Rows L2  -- own
/-- a class is what an except clause that names it takes -/
theorem exm_same {K : PySem.W.Frag} {C : Addr} (a : PySem.W.subIn K (.ref C) (.type "BaseException") = some true) (b : PySem.W.isClsIn K C = true) (c : PySem.W.typeIn K (.ref C) = some (.type "type")) (d : PySem.W.subIn K (.ref C) (.ref C) = some true) : PySem.W.exmOne K (.ref C) (.ref C) = some true := by
  have x : (PySem.W.subIn K (.ref C) (.type "BaseException") == some true) = true := by rw [a]; rfl
  have y : ((PySem.W.clsIn K C).isSome && PySem.W.typeIn K (.ref C) == some (.type "type")) = true := by
    rw [show (PySem.W.clsIn K C).isSome = true from b, c]; rfl
  have z : PySem.W.kitCls K (.ref C) (.ref C) = some true := by
    show (if ((PySem.W.clsIn K C).isSome && PySem.W.typeIn K (.ref C) == some (.type "type")) = true then PySem.W.subIn K (.ref C) (.ref C) else none) = some true
    rw [if_pos y, d]
  unfold PySem.W.exmOne
  rw [if_pos x, z]
end J

/-! promises of defs that are called where no repr is running: so their bodies may ask for the repr of lists -/
namespace J
open PySem PySem.Spec PyProof.Rows L2  -- own
/-- as FnOk, of calls with no repr around -/
structure FnG (P : Program) (w : World) (K : PySem.W.Frag) (mg : Str → Option Value) (base : Heap) (CX : CXT) (k : Nat) (f : Addr) (fd : FuncData) (ps : List Str) (sp : Sp) : Prop where
  long : ∀ vs H Q E, sp vs H Q E → vs.length = ps.length
  goes : ∀ (A : Around), A.guards = some [] → Room k A → ∀ (outer : List Env) (s : Shared) (H : Hp), Env0 P w K mg base A outer s H → ∀ (args : Args) (us : List Value) (vs : List V) (Q : VK) (E : XK),
    BindsTo s fd args (ps.zip us) → Vals vs us → sp vs H Q E → codeAny (model P w) A (.call (.ref f) args) (CR CX outer P w H s Q E) s
theorem FnG.of {P : Program} {w : World} {K : PySem.W.Frag} {mg : Str → Option Value} {base : Heap} {CX : CXT} {k : Nat} {f : Addr} {fd : FuncData} {ps : List Str} {sp : Sp} (F : FnOk P w K mg base CX k f fd ps sp) : FnG P w K mg base CX k f fd ps sp :=
  ⟨F.len, fun A _ hr outer s H e0 args us vs Q E b r h => F.run A outer s H args us vs Q E hr e0 b r h⟩
section
variable {P : Program} {w : World} {K : PySem.W.Frag} {mg : Str → Option Value} {base : Heap}  -- own
/-- a def's promise from its body's, where no repr is running -/
theorem fun_g {x qual : Str} {st : Stmt} {f : Addr} {fd : FuncData} {N ps : List Str} {k : Nat} {sp : Sp} (F : Fun K x qual st f fd) (S : FnScope N ps (defScope st)) (long : ∀ vs H Q E, sp vs H Q E → vs.length = ps.length)
    (body : ∀ (cdv : Value) (A : Around) (outer : List Env) (s : Shared) (H : Hp) (vs : List V) (Q : VK) (E : XK), A.guards = some [] → Room k (A.deeper (envOfC qual (defScope st) s.heap.objs.size f cdv)) → sp vs H Q E →
      ∃ t, PSs (cxOf CX0 P w K mg base N qual (defScope st) f cdv A outer s H E).nox (defBody st) t ∧ t { nx := fun _ H' => Q .non H', rt := Q } (start N vs) H) : FnG P w K mg base CX0 (k + 1) f fd ps sp := by
  obtain ⟨oc, od, kV, doc, pm, an, cdv, ct, osl, e, lk, hcd⟩ := F.ex
  subst e
  refine ⟨long, fun A hg hr outer s H e0 args us vs Q E b r h => ?_⟩
  have hl : vs.length = ps.length := long _ _ _ _ h
  have stay := fun (a : Addr) (o : Obj) (q : base.get? a = some o) => (e0.bs a o q).1
  have kin : K.In s.heap := e0.mod.kin.keeps stay
  have free := e0.mod.nolimit.keeps stay
  refine codeAny_call_function hr.depth (kin _ _ lk) rfl S.co S.gen rfl (PySem.W.codeRec_of kin hcd) (b _ _ _ _ ?_)
  have known : ∀ y ∈ ps.zip us, (defScope st).names.lookup y.1 = some .local ∨ ((defScope st).names.lookup y.1 = some .cell ∧ ((cellsFrom (s.heap.objs.size + 1) (defScope st).names []).lookup y.1).isSome = true) := by
    rintro ⟨n, v⟩ hy
    exact (S.par n (List.of_mem_zip hy).1).imp id fun q => ⟨q, PySem.W.cellsFrom_some _ _ _ (.inl q)⟩
  refine wpAny_newFunctionEnv_cells S.kind known fun env he s1 xx => ?_
  subst he
  refine ⟨free.keeps xx.toInCall.keep, codeAny_func ?_⟩
  obtain ⟨t, pt, q⟩ := body cdv A outer s H vs Q E hg (hr.deeper _) h
  have I1 : Inv (cxOf CX0 P w K mg base N qual (defScope st) f cdv A outer s H E) [] (start N vs) H s1 := inv_start S hr.hd e0 hl r xx
  refine wpAny_mono (pt.nox.run [] s1 (start N vs) H _ I1 q) (fun fl s2 hs => ?_) fun _ _ z => z
  cases fl with
  | brk => exact hs.elim fun _ z => z.elim fun _ z => z.2.elim
  | cont => exact hs.elim fun _ z => z.elim fun _ z => z.2.elim
  | next => obtain ⟨_, H2, J2, q2⟩ := hs; exact ⟨.non, H2, J2.os, J2.bare, J2.base, J2.hok, rfl, q2⟩
  | ret u => obtain ⟨v, _, H2, J2, rv, q2⟩ := hs; exact ⟨v, H2, J2.os, J2.bare, J2.base, J2.hok, rv, q2⟩
end
section
variable {X : Cx} {CX : CXT} {k : Nat} {f : Addr} {fd : FuncData} {ps : List Str} {sp : Sp} {dvs : List V} {ds : List Value} {E : XK} {x : Str} {p pos : Pos} {e : Expr} {es : List Expr} {t : TA}
/-- f(..) of such a def, from a body of the same sort -/
theorem pe_callG (F : FnG X.prog X.w X.K X.mg X.base CX k f fd ps sp) (hG : X.A.guards = some []) (hr : Room k X.A) (hg : Gl X x) (hm : X.mg x = some (.ref f)) (hk : PySem.W.keepIn X.K (.ref f) = true) (hb : Binds X.K fd ps ds) (hd : Vals dvs ds) (hx : Passes CX X E)
    (ha : PA X (e :: es) t) (hdb : (x == ("__debug__" : Str)) = false := by decide) (he : starEach (e :: es) X.env = (false, eval e X.env) :: starEach es X.env := by rfl) (hpl : (backTo pos (starEach es X.env)).any (·.1) = false := by rfl) :  -- own
    PE X (.Call (.Name x p) (e :: es) [] pos) (tCall sp dvs E t) := ⟨fun pins s σ H Q I h => by
  refine wpAny_Call_Name_kw (ld_glob I hg hm ?_ hdb)  -- own
  refine PySem.W.callWith_K (h₀ := X.base) I.ok.mod.kin hk (thn (ha.run pos pins s σ H _ I h) fun us s1 z => ?_) he hpl
  obtain ⟨vs, H1, I1, r, q⟩ := z
  have r2 := r.append hd
  have n2 : (us ++ ds).length = ps.length := r2.length ▸ F.long _ _ _ _ q
  refine ⟨I1.kIn, wpAny_call (codeAny_mono (F.goes X.A hG hr X.stack s1 H1 I1.env0 ⟨us, []⟩ (us ++ ds) (vs ++ dvs) Q E (hb s1 us I1.kIn n2) r2 q) fun r s2 hq => ?_)⟩
  cases r with
  | error e => exact hx pins σ H1 s1 e s2 I1 hq
  | ok fl => cases fl with
    | ret u => exact I1.after hq
    | _ => exact hq.elim⟩
end
end J

/-! the end of a law whose own def asks for the repr of lists -/
namespace J
open PySem PySem.Spec PyProof.Rows L2  -- own
/-- what a law's call comes to -/
abbrev Fine (s s' : Shared) (r : Result) : Prop := r = .ok (.ret (.bool true)) ∧ OldK s.heap s'.heap ∧ s'.os = s.os ∧ AllBare s'.gens
section
variable {P : Program} {w : World} {K : PySem.W.Frag} {mg mb : Str → Option Value} {k : Nat} {fa a : Addr} {fd : FuncData} {x : Str} {sp : Sp} {s : Shared}
/-- with just the script tracked, or nothing -/
theorem top_at (kin : K.In s.heap) (hns : s.heap.Ns mainGlobals mg) (hmb : s.heap.Ns builtinsNs mb) (hbb : ∀ x : Str, x ≠ "__name__" → mb x = bootBuiltins x) (free : s.heap.NoLimit) (hg : s.gens = #[]) (hr : Room k callerA)
    (F : ∀ base : Heap, K.In base → base.Ns mainGlobals mg → FnG P w K mg base CX0 k fa fd [x] sp) (bind : ∀ (s : Shared) (u : Value), BindsTo s fd ⟨[u], []⟩ [(x, u)])
    {H : Hp} (only : Only H) (hok : HOk P w H s.heap) (just : ∀ b, H b ≠ none → b = a) (apart : H a ≠ none → K.lookup a = none) (list : ∀ o, s.heap.get? a = some o → ∀ es ep, o.data ≠ .dict es ep)
    (h : sp [.ref a] H (fun v _ => v = .bl true) fun _ _ _ => False) : codeAny (model P w) callerA (.call (.ref fa) ⟨[.ref a], []⟩) (fun r s' => Fine s s' r) s := by
  have off : ∀ {b : Addr} {m : Str → Option Value}, s.heap.Ns b m → (hidT s.heap H).Ns b m := fun {b m} ns => by
    obtain ⟨o, es, ep, e, d, r⟩ := ns
    refine ⟨o, es, ep, hidT_get e (Classical.byContradiction fun z => ?_), d, r⟩
    have := just b z
    subst this
    exact list o e es ep d
  have kb : K.In (hidT s.heap H) := fun b o e => hidT_get (kin b o e) (Classical.byContradiction fun z => by
    have := just b z
    subst this
    rw [apart z] at e
    cases e)
  have mod : Mod K mg (hidT s.heap H) := ⟨kb, off hns, ⟨mb, off hmb, hbb⟩, free.elim fun mc z => ⟨mc, off z.1, z.2⟩⟩
  have e0 : Env0 P w K mg (hidT s.heap H) callerA [] s H := ⟨rfl, mod, fun b o e => of_hidT e, Nat.le_of_eq (hidT_size _ _), trivial, fun b hb => (List.not_mem_nil hb).elim, hok, .of_eq hg⟩
  refine codeAny_mono ((F _ kb (off hns)).goes callerA rfl hr [] s H e0 ⟨[.ref a], []⟩ [.ref a] [.ref a] _ _ (bind s (.ref a)) (.cons rfl .nil) h) fun r s' q => ?_
  match r, q with
  | .error e, q => exact (show False from q).elim
  | .ok .next, q => exact q.elim
  | .ok .brk, q => exact q.elim
  | .ok .cont, q => exact q.elim
  | .ok (.ret u), q =>
    obtain ⟨v, H', os, bare, un, hok', rv, ev⟩ := q
    obtain rfl : v = .bl true := ev
    obtain rfl : u = Value.bool true := rv
    refine ⟨rfl, OldK.of_keep fun b o e => ?_, os, bare⟩  -- own
    rcases only b with z | ⟨ob, xs, z⟩
    · exact un.keep b o e z List.not_mem_nil List.not_mem_nil
    · have g1 := (hok b _ z).1
      have g2 := (hok' b _ (un.frzs b ob _ z)).1
      rw [e] at g1
      cases g1
      exact g2
/-- the law's promise, at the heap behind the top -/
theorem top_call {n : Nat} {vs : List Value} {ns : List Int} (kin : K.In s.heap) (hns : s.heap.Ns mainGlobals mg) (hmb : s.heap.Ns builtinsNs mb) (hbb : ∀ x : Str, x ≠ "__name__" → mb x = bootBuiltins x) (free : s.heap.NoLimit) (hg : s.gens = #[]) (hr : Room k callerA)
    (F : ∀ base : Heap, K.In base → base.Ns mainGlobals mg → FnG P w K mg base CX0 k fa fd [x] sp) (bind : ∀ (s : Shared) (u : Value), BindsTo s fd ⟨[u], []⟩ [(x, u)])
    (ha : s.heap.get? a = some { cls := .type "list", data := .seq vs.toArray }) (hi : IntsAre vs ns) (hl : ns.length ≤ n) (hn : n ≤ sizeLine)
    (h : ∀ H : Hp, Only H → SqL K H a (ns.map V.int) → sp [.ref a] H (fun v _ => v = .bl true) fun _ _ _ => False) :
    codeAny (model P w) callerA (.call (.ref fa) ⟨[.ref a], []⟩) (fun r s' => Fine s s' r) s := by
  have rv := vals_ints hi
  have nd : ∀ o, s.heap.get? a = some o → ∀ es ep, o.data ≠ .dict es ep := fun o e es ep z => by
    rw [ha] at e
    cases e
    cases (show Data.seq vs.toArray _ = Data.dict es ep from z)
  have small : ns.length ≤ sizeLine := Nat.le_trans hl hn
  cases q : K.lookup a with
  | some o =>
    have e := kin a o q
    rw [ha] at e
    cases e
    refine top_at kin hns hmb hbb free hg hr F bind (H := fun _ => none) (fun _ => .inl rfl) (fun _ _ z => nomatch z) (fun _ z => (z rfl).elim) (fun z => (z rfl).elim) nd (h _ (fun _ => .inl rfl) (.inr ⟨_, vs.toArray, _, q, rfl, rfl, rfl, ?_, by simpa using rv⟩))
    rw [List.size_toArray, hi.length]  -- own
    exact small
  | none =>
    let ob : Obj := { cls := .type "list", data := .seq vs.toArray }
    have at_a : (fun b : Addr => if b = a then some (HO.frz ob (.lst (ns.map V.int))) else none) a = some (HO.frz ob (.lst (ns.map V.int))) := if_pos rfl
    have off : ∀ b : Addr, b ≠ a → (fun b : Addr => if b = a then some (HO.frz ob (.lst (ns.map V.int))) else none) b = none := fun b z => if_neg z
    have only : Only (fun b : Addr => if b = a then some (HO.frz ob (.lst (ns.map V.int))) else none) := fun b => (Classical.em (b = a)).elim (fun z => .inr ⟨ob, ns.map V.int, z ▸ at_a⟩) fun z => .inl (off b z)
    refine top_at kin hns hmb hbb free hg hr F bind (H := fun b : Addr => if b = a then some (HO.frz ob (.lst (ns.map V.int))) else none) only (fun b u z => ?_) (fun b z => Classical.byContradiction fun y => z (off b y)) (fun _ => q) nd (h _ only (.inl (.inr ⟨ob, at_a⟩)))
    rcases Classical.em (b = a) with y | y
    · subst y
      cases at_a.symm.trans z
      exact ⟨ha, by rw [List.length_map]; exact small, vs, _, rv, ha⟩
    · cases (off b y).symm.trans z
end
theorem walk_ofG {l : PySem.W.OpenLaw} {n k : Nat} {q : Program} {loose : List Str} {XP : (Str → Option Value) → Heap → Prop} {YP : World → Heap → Prop} {d : DefRec} {K : Params → PySem.W.Frag} {sp : World → Sp} {x : Str}
    (hn : l.most = some n) (hn2 : n ≤ sizeLine) (hdf : d.params.defaults = []) (hr : Room k callerA) (hY : ∀ (w : World) (h : Heap), YP w h → (K w.params).In h)  -- own
    (F : ∀ (w : World) (mg : Str → Option Value) (fa : Addr) (h : Heap), (K w.params).In h → h.Ns mainGlobals mg → mg d.name = some (.ref fa) →  -- own
      ∃ fd : FuncData, (∀ (s : Shared) (u : Value), BindsTo s fd ⟨[u], []⟩ [(x, u)]) ∧ ∀ base : Heap, (K w.params).In base → base.Ns mainGlobals mg → FnG l.prog w (K w.params) mg base CX0 k fa fd [x] (sp w))
    (hsp : ∀ (w : World) (H : Hp) (a : Addr) (ns : List Int), ns.length ≤ n → Only H → SqL (K w.params) H a (ns.map V.int) → sp w [.ref a] H (fun v _ => v = .bl true) fun _ _ _ => False) :
    PySem.W.WalkO q loose XP YP l.row.toRowW d [] (fun f vs => PySem.call f vs) :=  -- own
  Att.attach_call hn hdf fun w s₀ s₁ mg mb fa o pm cd doc a vs ns G Y ho hd hcd hmg hobj hints hlen hg =>
    let ⟨_, hb, hF⟩ := F w mg fa _ (hY w _ Y) G.T.g hmg
    top_call (hY w _ Y) G.T.g G.T.b G.T.builtins G.T.nolimit hg hr hF hb hobj hints hlen hn2 fun H hO hS => hsp w H a ns hlen hO hS
end J

/-! own errors over LookupError: the library's rules for those over ValueError, with the base left open -/
namespace PySem
namespace JX
open PySem.W PySem.Calls PyProof.Rows PySem.HandSPX Builtin Builtin.ObjectAttr
/-- own classes, then a base's mro -/
def Over (tail : List Value) (l : List Value) : Prop := ∃ cs : List Addr, l = cs.map Value.ref ++ tail
theorem Over.pass {tail : List Value} {self : Value} (h : refuseLoop self "__setattr__" tail = pure ()) {l : List Value} (o : Over tail l) : refuseLoop self "__setattr__" l = pure () := by
  obtain ⟨cs, rfl⟩ := o
  induction cs with
  | nil => exact h
  | cons c cs ih => exact (refuseLoop_ref ..).trans ih
theorem Over.has {tail : List Value} {l : List Value} (o : Over tail l) (x : String) : l.contains (.type x) = tail.contains (.type x) := by
  obtain ⟨cs, rfl⟩ := o
  induction cs with
  | nil => rfl
  | cons c cs ih => rw [List.map_cons, List.cons_append, List.contains_cons, ih]; rfl
theorem Over.more {tail : List Value} {l : List Value} (o : Over tail l) (c : Addr) : Over tail (.ref c :: l) := by
  obtain ⟨cs, rfl⟩ := o
  exact ⟨c :: cs, rfl⟩
section
variable {prog : Program} {w : World} {A : Around} {R : Result → Shared → Prop} {hp : Heap} {g : Array GenState} {d : Drawn} {t : Nat} {os : OsState} {K : W.Frag} {name : Str} {tk : Tok} {v : Value} {x C : Addr} {fv : Array Value} {cd : ClassData}
/-- the first attribute of an exception -/
theorem first_attr (kin : K.In hp) (at_x : hp.get? x = some { cls := .ref C, data := .fields fv }) (cls : W.clsIn K C = some cd) (some_ : cd.mro.isEmpty = false) (ob : cd.mro.contains (.type "object") = true)
    (ps : refuseLoop (.ref x) "__setattr__" cd.mro = pure ()) (hd : cd.hasDict = true) (none_ : W.findIn K (.ref C) name = some none)
    (q : ∀ h' tk' dx, (∀ b o, b ≠ x → hp.get? b = some o → h'.get? b = some o) → hp.objs.size ≤ dx → dx ≠ x → h'.get? x = some { cls := .ref C, dict := some dx, data := .fields fv } →
      h'.Ns1 dx (fun y => if y = name then some v else none) → R (.ok (.ret .none)) ⟨h', g, d, tk', os⟩) :  -- own
    codeAny (model prog w) A (.call (.builtin "object.__setattr__") ⟨[.ref x, .str name tk, v], []⟩) R ⟨hp, g, d, t, os⟩ := by  -- own
  have old : x ≠ hp.objs.size := Nat.ne_of_lt (Heap.lt_size at_x)
  have ia : W.InstAt hp x { cls := .ref C, data := .fields fv } C none := ⟨at_x, rfl, rfl, trivial⟩
  have isob : W.Looks (model prog w) hp (isInstance (.ref x) (.type "object")) true := ia.type.andThen (W.looks_mroIn kin (by unfold W.mroIn; rw [cls, Option.bind_some, if_neg (by rw [some_]; decide), ob]))
  refine codeAny_call_builtin F.store_object.slot.plain F.store_object.entry (@W.check_slot (model prog w) _ _ ⟨hp, g, d, t, os⟩ "object.__setattr__" "object" "__setattr__" (.ref x) [.str name tk, v] [] _ F.store_object.kind F.store_object.split isob (F.store_object.args (.ref x) (.str name tk) v) ?_)
  have own : W.Looks (model prog w) hp (classData C) cd := W.looks_clsIn kin cls
  have line : W.Looks (model prog w) hp (mroOf (.ref C)) cd.mro := own.andThen .now
  have tk0 : W.Looks (model prog w) hp (storeTaker? none) none := .now
  rw [W.osa_eq, refuse_eq]
  refine wpAny_bind (wpAny_bind (ia.type.at (wpAny_bind (line.at ?_))))
  rw [ps]
  refine wpAny_pure (wpAny_bind (ia.type.at (wpAny_bind ((W.looks_findIn kin none_).at (wpAny_bind (tk0.at ?_))))))
  show wpAny _ _ (storeInOwnDict (.ref x) (.ref C) (.str name tk) name v false) _ _ _  -- own
  rcases cd with ⟨nm, bs, mro, ns, qn, hdd, sn, sb, ab, col, del⟩
  cases hd
  unfold storeInOwnDict ownDictForStores  -- own
  repeat (first | with_reducible refine store_in_new ?_ ?_ | with_reducible refine wpAny_loadPart_at at_x ?_ | with_reducible refine own.at ?_ | wp_step)
  · exact ⟨_, #[], _, (Heap.get?_update_ne _ _ _ _ old.symm).trans (Heap.get?_push_at rfl rfl), rfl, fun e he => absurd he (by simp), fun _ => rfl⟩
  · intro h' tk' hn' hs
    refine q h' tk' hp.objs.size (fun b o hb ho => (hs.2 b (Nat.ne_of_lt (Heap.lt_size ho))).trans ((Heap.get?_update_ne _ _ _ _ hb).trans (Heap.get?_push_of_some _ ho))) (Nat.le_refl _) old.symm ?_ hn'
    exact (hs.2 x old).trans (Heap.get?_update_self _ (Heap.get?_push_of_some _ at_x) rfl)
end
end JX
end PySem
namespace J
open PySem PySem.Spec PyProof.Rows L2  -- own
abbrev leTail : List Value := [.type "LookupError", .type "Exception", .type "BaseException", .type "object"]
/-- what the written part says of an own class over LookupError -/
structure OexL (K : PySem.W.Frag) (C : Addr) : Prop where
  cls : ∃ nm q N bs bm sn sub ab col dd k0 k1 k2 k3 k5, K.lookup C = some (excClassObj nm q C N bs bm true sn sub ab col dd k0 k1 k2 k3 k5 "LookupError.__new__") ∧ PySem.JX.Over leTail bm
  sa : PySem.W.findIn K (.ref C) "__setattr__" = some (some (.builtin "object.__setattr__"))  -- own
  ex : PySem.W.subIn K (.ref C) (.type "BaseException") = some true
  ty : PySem.W.typeIn K (.ref C) = some (.type "type")
  kp : PySem.W.keepIn K (.ref C) = true  -- own
section
variable {X : Cx} {pins : List (Addr × Obj)} {σ : L2.St} {H : Hp} {s : Shared} {a C : Addr} {f : Str} {y : V} {u : Value} {Q : Unit → Shared → Prop} {E : Value → Shared → Prop} {A : Around}
theorem set_firstL (T : OexL X.K C) (I : Inv X pins σ H s) (ea : H a = some (exo a C none)) (nf : PySem.W.findIn X.K (.ref C) f = some none) (ry : RelV y u)
    (h : ∀ dx s', H dx = none → dx ≠ a → Inv X pins σ (upd (upd H dx (exd dx [(f, y)])) a (exo a C (some dx))) s' → Q () s') : wpAny (model X.prog X.w) A (setAttr (.ref a) f u) Q E s := by  -- own
  obtain ⟨nm, q, N, bs, bm, sn, sub, ab, col, dd, k0, k1, k2, k3, k5, hC, ov⟩ := T.cls
  have cls : PySem.W.clsIn X.K C = some { name := nm, bases := bs, mro := .ref C :: bm, ns := N, qualname := q, hasDict := true, slotNames := sn, subclasses := sub, abstract := ab, collection := col, hasDel := false } := by
    unfold PySem.W.clsIn
    rw [hC]
  obtain ⟨t1, ho⟩ := exo_at I.hok ea
  cases s with
  | mk hp g d t os =>
  refine PySem.W.set_plain I.kIn (od := none) ⟨ho, rfl, rfl, trivial⟩ T.sa ?_
  refine PySem.JX.first_attr I.kIn ho cls rfl (((ov.more C).has "object").trans (by decide +kernel)) ((ov.more C).pass (PySem.F.store_LookupError.passes (.ref a))) rfl nf fun h' tk' dx stay big ne hx hn => ?_
  have free : H dx = none := I.hok.fresh big
  have else_ : ∀ {b : Addr} {o : Obj}, hp.get? b = some o → b ≠ dx := fun {b o} z e => by
    have := Heap.lt_size z
    rw [e] at this
    exact Nat.not_le_of_lt this big
  have away : ∀ {b : Addr}, H b = none → b ≠ a := fun {b} z e => by rw [e, ea] at z; cases z
  have un : Un X.fs [] H (upd (upd H dx (exd dx [(f, y)])) a (exo a C (some dx))) hp h' :=
    { keep := fun b o z n _ _ => stay b o (away n) z
      slot := fun b o z n _ _ => ⟨_, stay b o (away n) z⟩
      free := fun b o z n _ => by rw [upd_ne (away n), upd_ne (else_ z)]; exact n
      there := fun b o z _ => (Classical.em (b = a)).elim (fun e => ⟨_, e ▸ hx⟩) fun e => ⟨o, stay b o e z⟩
      tups := fun b xs z => by rw [upd_ne (at_ne ea z exo_tup), upd_ne (ne_of_none z free)]; exact z
      frzs := fun b o v z => by rw [upd_ne (at_ne ea z exo_frz), upd_ne (ne_of_none z free)]; exact z
      tbls := fun b ps z => ⟨#[], by rw [upd_ne (at_ne ea z exo_tbl), upd_ne (ne_of_none z free), z]; simp⟩ }
  refine h dx _ free ne (I.un (t' := tk') un fun b o z => ?_)
  rcases Classical.em (b = a) with e | e
  · subst e
    rw [upd_same] at z
    cases z
    exact exo_ok hx
  rw [upd_ne e] at z
  rcases Classical.em (b = dx) with e2 | e2
  · subst e2
    rw [upd_same] at z
    cases z
    exact exd_ok hn (relO_put (fs := []) ry fun _ => True.intro)
  rw [upd_ne e2] at z
  refine (I.hok b o z).stay (fun c v hc w => stay c v (hc.elim (fun q => q ▸ e) fun q => at_ne ea q exo_own) w) (fun c hc => ?_) fun c xs hc => ?_
  · rw [upd_ne (at_ne ea hc exo_own), upd_ne (ne_of_none hc free)]; exact hc
  · rw [upd_ne (at_ne ea hc exo_tup), upd_ne (ne_of_none hc free)]; exact hc
end
/-- self.f = y, of an exception that has no attribute yet -/
def tOsL (K : PySem.W.Frag) (f : Str) (to te : TE) : TS := fun D σ H => te σ H fun y H1 => to σ H1 fun x H2 => ∃ a C : Addr, x = .ref a ∧ OexL K C ∧ PySem.W.findIn K (.ref C) f = some none ∧
  H2 a = some (exo a C none) ∧ ∀ dx, H2 dx = none → dx ≠ a → D.nx σ (upd (upd H2 dx (exd dx [(f, y)])) a (exo a C (some dx)))
section
variable {X : Cx} {o e : Expr} {es : List Expr} {to te : TE} {ta : TA} {f : Str} {p p' pos : Pos}
theorem ps_osL (ho : PE X o to) (he : PE X e te) (hs : swapsWith e (some (.Attribute o f p')) pos.line X.env = pure false := by rfl) : PS X (.Assign [.Attribute o f p'] e pos) (tOsL X.K f to te) := ⟨fun pins s σ H D I h => by
  refine plainObj_wpAny_Assign_Attribute (thn (he.run pins s σ H _ I h) fun v s1 z => ?_) hs
  obtain ⟨y, H1, I1, r1, q1⟩ := z
  refine thn (ho.run pins s1 σ H1 _ I1 q1) fun u s2 z => ?_
  obtain ⟨x, H2, I2, r2, a, C, ex, T, nf, ea, q⟩ := z
  subst ex
  obtain rfl : u = Value.ref a := r2  -- own
  exact set_firstL T I2 ea nf r1 fun dx s' n ne J => ⟨σ, _, J, q dx n ne⟩⟩
theorem pmk_oexL {CX : CXT} {x : Str} {C fI : Addr} {k : Nat} {fd : FuncData} {ps : List Str} {sp : Sp} {ds : List Value} {dvs : List V} (T : OexL X.K C) (iC : PySem.W.findIn X.K (.ref C) "__init__" = some (some (.ref fI))) (tI : PySem.W.typeIn X.K (.ref fI) = some (.type "function"))
    (G : FnOk X.prog X.w X.K X.mg X.base CX k fI fd ps sp) (hr : Room (k + 1) X.A) (hb : Binds X.K fd ps ds) (hd : Vals dvs ds) (hx : Passes CX X (fun _ _ _ => False)) (hg : Gl X x) (hm : X.mg x = some (.ref C)) (ha : PA X (e :: es) ta)
    (hdb : (x == ("__debug__" : Str)) = false := by decide) (he : starEach (e :: es) X.env = (false, eval e X.env) :: starEach es X.env := by rfl) (hpl : (backTo pos (starEach es X.env)).any (·.1) = false := by rfl) :  -- own
    PMk X (.Call (.Name x p) (e :: es) [] pos) (tMkO C sp dvs ta) := fun pins s σ H Q I h => by
  obtain ⟨nm, q, N, bs, bm, sn, sub, ab, col, dd, k0, k1, k2, k3, k5, hC, ov⟩ := T.cls
  refine wpAny_Call_Name_kw (ld_glob I hg hm ?_ hdb)  -- own
  refine PySem.W.callWith_K (h₀ := X.base) I.ok.mod.kin T.kp (thn (ha.run pos pins s σ H _ I h) fun us s1 z => ?_) he hpl
  obtain ⟨vs, H1, I1, r1, hz, q1⟩ := z
  refine ⟨I1.kIn, ?_⟩
  cases s1 with
  | mk hp g dr tk os =>
  let n := hp.objs.size + 1
  let h2 := (hp.push (PySem.W.kdv_tup us)).push (PySem.HandSPX.excO C hp.objs.size)
  have le : hp.objs.size ≤ n := Nat.le_succ _
  have hq := q1 n (I1.hok.fresh le)
  have there : h2.get? n = some (PySem.HandSPX.excO C hp.objs.size) := by
    show ((hp.push (PySem.W.kdv_tup us)).push (PySem.HandSPX.excO C hp.objs.size)).get? (hp.objs.size + 1) = _
    heap_get
  have I2 : Inv X pins σ (upd H1 n (exo n C none)) ⟨h2, g, dr, tk, os⟩ := I1.laid (t' := tk) (a := n) (o := exo n C none) (h' := h2) (fun b o z => Heap.get?_push_of_some _ (Heap.get?_push_of_some _ z)) le (exo_ok there)
  have r2 : Vals (V.ref n :: (vs ++ dvs)) (Value.ref n :: (us ++ ds)) := .cons rfl (r1.append hd)
  have hl : (Value.ref n :: us ++ ds).length = ps.length := r2.length.symm.trans (G.len _ _ _ _ hq)
  have small : us.length ≤ sizeLine := by
    rw [← Paired.length r1, sizeLine_eq]; omega
  have run := G.run _ X.stack _ _ ⟨Value.ref n :: us, []⟩ (Value.ref n :: (us ++ ds)) _ _ (fun _ _ _ => False) (hr.make C us []) (I2.env0.make C us []) (hb _ (Value.ref n :: us) I2.kIn hl) r2 hq
  refine wpAny_call (PySem.HandSPX.call_own PySem.F.excBase_LookupError (fun Y => ov.has Y) (I1.kIn _ _ hC) (PySem.W.looks_findIn I1.kIn iC) (fun self => PySem.W.bind_fn I1.kIn self tI) small (codeAny_mono run fun r s' hq' => ?_))
  match r, hq' with
  | .error er, z => exact hx pins σ _ _ er s' I2 z
  | .ok .next, z => exact z.elim
  | .ok .brk, z => exact z.elim
  | .ok .cont, z => exact z.elim
  | .ok (.ret u), z =>
    obtain ⟨v, H2, os2, bare2, un2, hok2, rv, ev, d, fs, ea, ed, hd1, q2⟩ := z
    subst ev
    cases s' with
    | mk h3 g2 d2 t2 os' => exact ⟨rv, mk_end (raises_own T.ex T.ty) I1 le (fun b o z => Heap.get?_push_of_some _ (Heap.get?_push_of_some _ z)) un2 hok2 os2 bare2 ea ed hd1 q2⟩
end
end J

/-! own errors over LookupError, raised and taken; what is told of a line, and its repr -/
namespace J
open PySem PySem.Spec PyProof.Rows L2 M
def spInitL (K : PySem.W.Frag) (f : Str) : Sp := fun vs H Q _ => ∃ (a C : Addr) (v : V), vs = [.ref a, v] ∧ OexL K C ∧ PySem.W.findIn K (.ref C) f = some none ∧ H a = some (exo a C none) ∧ ∀ dx, H dx = none → dx ≠ a → Q .non (upd (upd H dx (exd dx [(f, v)])) a (exo a C (some dx)))
theorem rz_oneL {K : PySem.W.Frag} {σ : L2.St} {H1 : Hp} {C : Addr} {f : Str} {W : WX} {v : V} (T : OexL K C) (hf : PySem.W.findIn K (.ref C) f = some none) (er : Err C f v H1 (fun cls d H' => W cls d σ H')) : RzQ C (spInitL K f) W σ [v] H1 := by
  refine ⟨show 1 ≤ 1000 by decide, fun a ha => ⟨a, C, v, rfl, T, hf, upd_same, fun dx hd ne => ⟨rfl, dx, [(f, v)], upd_same, by rw [upd_ne ne, upd_same], ?_, ?_⟩⟩⟩
  · rwa [upd_ne ne] at hd
  · rw [upd_ne ne] at hd
    refine er dx _ hd (fun b o hb => ?_) upd_same
    have b1 := ne_of_none hb hd
    have b2 := ne_of_none hb ha
    rw [upd_ne b1, del_ne b2, upd_ne b2, upd_ne b1, upd_ne b2]
    exact hb
theorem asOsL {X : Cx} {K : PySem.W.Frag} {st : Stmt} {f : Str} {to te : TE} (eK : X.K = K) (h : PS X st (tOsL X.K f to te)) : PS X st (tOsL K f to te) := eK ▸ h
theorem r_osL {K : PySem.W.Frag} {σ : L2.St} {H : Hp} {f : Str} {to te : TE} {n : L2.St → Hp → Prop} {rt : VK} {bk ct : L2.St → Hp → Prop} (k : te σ H fun y H1 => to σ H1 fun x H2 => ∃ a C : Addr, x = .ref a ∧ OexL K C ∧ PySem.W.findIn K (.ref C) f = some none ∧
  H2 a = some (exo a C none) ∧ ∀ dx, H2 dx = none → dx ≠ a → n σ (upd (upd H2 dx (exd dx [(f, y)])) a (exo a C (some dx)))) : tOsL K f to te ⟨n, rt, bk, ct⟩ σ H := k
/-- what the written part says of an own error x over LookupError with one field f -/
structure OL (P : Program) (w : World) (K : PySem.W.Frag) (mg : Str → Option Value) (base : Heap) (x f : Str) (C : Addr) : Prop where
  T : OexL K C
  nf : PySem.W.findIn K (.ref C) f = some none
  gl : mg x = some (.ref C)
  ini : ∃ (fI : Addr) (fdI : FuncData), PySem.W.findIn K (.ref C) "__init__" = some (some (.ref fI)) ∧ PySem.W.typeIn K (.ref fI) = some (.type "function") ∧ FnOk P w K mg base CX0 1 fI fdI ["self", f] (spInitL K f) ∧ Binds K fdI ["self", f] []
theorem ps_rzL {X : Cx} {K : PySem.W.Frag} {W : WX} {e : Expr} {C : Addr} {x f : Str} {ta : TA} {p pos pos2 : Pos} (eK : X.K = K) (hc : X.calm = true) (tk : Takes X W) (O : OL X.prog X.w X.K X.mg X.base x f C) (hr : Room 2 X.A) (hg : Gl X x) (ha : PA X [e] ta)
    (hdb : (x == ("__debug__" : Str)) = false := by decide) (he : starEach (e :: []) X.env = (false, eval e X.env) :: starEach [] X.env := by rfl) (hpl : (backTo pos (starEach [] X.env)).any (·.1) = false := by rfl) :
    PS X (.Raise (some (.Call (.Name x p) [e] [] pos)) none pos2) (tRz C (spInitL K f) ta W) := by
  subst eK
  obtain ⟨fI, fdI, i1, i2, i3, i4⟩ := O.ini
  exact ps_rz hc tk (pmk_oexL O.T i1 i2 i3 hr i4 .nil pass0 hg O.gl ha hdb he hpl)
/-- an except clause that names another class takes none of these -/
theorem exm_other {K : PySem.W.Frag} {C B : Addr} (a : PySem.W.subIn K (.ref B) (.type "BaseException") = some true) (b : PySem.W.isClsIn K B = true) (c : PySem.W.typeIn K (.ref B) = some (.type "type")) (d : PySem.W.subIn K (.ref C) (.ref B) = some false) : PySem.W.exmOne K (.ref C) (.ref B) = some false := by
  have x : (PySem.W.subIn K (.ref B) (.type "BaseException") == some true) = true := by rw [a]; rfl
  have y : ((PySem.W.clsIn K B).isSome && PySem.W.typeIn K (.ref B) == some (.type "type")) = true := by
    rw [show (PySem.W.clsIn K B).isSome = true from b, c]; rfl
  have z : PySem.W.kitCls K (.ref C) (.ref B) = some false := by
    show (if ((PySem.W.clsIn K B).isSome && PySem.W.typeIn K (.ref B) == some (.type "type")) = true then PySem.W.subIn K (.ref C) (.ref B) else none) = some false
    rw [if_pos y, d]
  unfold PySem.W.exmOne
  rw [if_pos x, z]
/-! ### what is told of a line -/
/-- the words of a line, or the first wrong sign, or how many words there are -/
def spRefuseY (C : Addr) : Sp := fun vs H Q E => ∃ n : Int, vs = [.int n] ∧ (n ≤ 40 → Q .non H) ∧ (40 < n → Err C "many" (.int n) H E)
def spCutY (C CT : Addr) : Sp := fun vs H Q E => ∃ z : Str, vs = [.str z] ∧ Lf (cd z) ∧
  (∀ e, cutR stP (cd z) = .error e → Err C "at" (.int (e : Nat)) H E) ∧
  (∀ ws, cutR stP (cd z) = .ok ws → 40 < ws.length → Err CT "many" (.int (ws.length : Nat)) H E) ∧
  (∀ ws, cutR stP (cd z) = .ok ws → ws.length ≤ 40 → ∀ (w : Addr) (H' : Hp), H w = none → Same H H' → H' w = some (.lst (ws.map wV)) → Q (.ref w) H')
/-- at p: what is told; its words, where there are any, stand at a place that was free in H0 -/
def Told (H0 H : Hp) (p : Addr) (r : Except Nat (List (List Nat))) : Prop :=
  (∃ e, r = .error e ∧ H p = some (.lst [.str "sign", .int (e : Nat)])) ∨
  (∃ ws wd, r = .ok ws ∧ ws.length ≤ 40 ∧ H p = some (.lst [.str "told", .ref wd]) ∧ H wd = some (.lst (ws.map wV)) ∧ H0 wd = none ∧ wd ≠ p) ∨
  (∃ ws, r = .ok ws ∧ 40 < ws.length ∧ H p = some (.lst [.str "many", .int (ws.length : Nat)]))
def toldD : Except Nat (List (List Nat)) → PyData
  | .error e => .list [.str "sign", .int (e : Nat)]
  | .ok ws => if ws.length ≤ 40 then .list [.str "told", dWs ws] else .list [.str "many", .int (ws.length : Nat)]
theorem Told.dp {K : PySem.W.Frag} {H0 H : Hp} {p : Addr} {r : Except Nat (List (List Nat))} (h : Told H0 H p r) : Dp K H (.ref p) (toldD r) := by
  rcases h with ⟨e, rfl, h⟩ | ⟨ws, wd, rfl, q, h1, h2, _⟩ | ⟨ws, rfl, q, h⟩
  · exact .lst (SqL.of h) (.cons (.str _) (.cons (.int _) .nil))
  · simp only [toldD, if_pos q]
    exact .lst (SqL.of h1) (.cons (.str _) (.cons (dp_ws (SqL.of h2)) .nil))
  · simp only [toldD, if_neg (Nat.not_le_of_lt q)]
    exact .lst (SqL.of h) (.cons (.str _) (.cons (.int _) .nil))
theorem Told.mono {H0 H H' : Hp} {p : Addr} {r : Except Nat (List (List Nat))} (s : Same H H') (h : Told H0 H p r) : Told H0 H' p r := by
  rcases h with ⟨e, er, h⟩ | ⟨ws, wd, er, q, h1, h2, h3⟩ | ⟨ws, er, q, h⟩
  · exact .inl ⟨e, er, s _ _ h⟩
  · exact .inr (.inl ⟨ws, wd, er, q, s _ _ h1, s _ _ h2, h3⟩)
  · exact .inr (.inr ⟨ws, er, q, s _ _ h⟩)
theorem Told.back {H0 H1 H : Hp} {p : Addr} {r : Except Nat (List (List Nat))} (s : Same H0 H1) (h : Told H1 H p r) : Told H0 H p r := by
  rcases h with h | ⟨ws, wd, er, q, h1, h2, h3, h4⟩ | h
  · exact .inl h
  · exact .inr (.inl ⟨ws, wd, er, q, h1, h2, s.none h3, h4⟩)
  · exact .inr (.inr h)
/-- small enough to be shown -/
def Small (r : Except Nat (List (List Nat))) : Prop := match r with
  | .error e => e ≤ 100000
  | .ok ws => ws.length ≤ 100000 ∧ ∀ w ∈ ws, w.length ≤ 40 ∧ ∀ c ∈ w, c ≤ 126
theorem show_w {w : List Nat} (h : w.length ≤ 40 ∧ ∀ c ∈ w, c ≤ 126) : (PyData.shown (dW w)).length ≤ 402 := by
  have := PySem.StrLaws.reprText_len (S w) (fun c hc => by rw [S_cps] at hc; have := h.2 c hc; exact Nat.lt_of_le_of_lt this (by decide))
  rw [S_len] at this
  exact Nat.le_trans this (by have := h.1; omega)
theorem show_ws : ∀ {ws : List (List Nat)}, (∀ w ∈ ws, w.length ≤ 40 ∧ ∀ c ∈ w, c ≤ 126) → ((PyData.shownAll (ws.map dW)).map (·.length)).sum ≤ 402 * ws.length ∧ (PyData.shownAll (ws.map dW)).length = ws.length ∧ PyData.showableAll (ws.map dW) = true ∧ PyData.hasDictAll (ws.map dW) = false
  | [], _ => ⟨Nat.le_refl _, rfl, rfl, rfl⟩
  | w :: ws, h => by
    obtain ⟨a, b, c, d⟩ := show_ws (ws := ws) fun x hx => h x (List.mem_cons_of_mem _ hx)
    have := show_w (h w (List.mem_cons_self ..))
    refine ⟨?_, by rw [List.map_cons, PyData.shownAll, List.length_cons, b, List.length_cons], ?_, ?_⟩
    · rw [List.map_cons, PyData.shownAll, List.map_cons, List.sum_cons, List.length_cons]; omega
    · show (PyData.showable (dW w) && PyData.showableAll (ws.map dW)) = true
      rw [c]; rfl
    · show (PyData.hasDict (dW w) || PyData.hasDictAll (ws.map dW)) = false
      rw [d]; rfl
theorem log_small {n : Nat} (h : n ≤ 100000) : (n : Int).natAbs.log2 < 1920 := by
  rw [Int.natAbs_natCast]
  by_cases h0 : n = 0
  · subst h0; decide
  · exact Nat.lt_of_lt_of_le ((Nat.log2_lt h0).mpr (Nat.lt_of_le_of_lt h (show 100000 < 2 ^ 20 by decide))) (by decide)
theorem show_i {n : Nat} (h : n ≤ 100000) : (PyData.shown (.int (n : Nat))).length ≤ 21 := by
  show (Str.ofString (toString (n : Int))).length ≤ 21
  have := int_text_length_le (a := (n : Int)) (k := 20) (by decide) (by
    rw [Int.natAbs_natCast]
    by_cases h0 : n = 0
    · subst h0; decide
    · exact (Nat.log2_lt h0).mpr (Nat.lt_of_le_of_lt h (by decide)))
  have e : (Str.ofString (toString (n : Int))).length = (toString (n : Int)).length := PySem.ofString_length _
  omega
theorem show_two {t : Str} {d : PyData} {n : Nat} (ht : (PyData.shown (.str t)).length ≤ 10) (hd : d.shown.length ≤ n) : (PyData.shown (.list [.str t, d])).length ≤ n + 17 := by
  have := listText_len_le (PyData.shownAll [.str t, d])
  simp only [PyData.shownAll, List.map_cons, List.map_nil, List.sum_cons, List.sum_nil, List.length_cons, List.length_nil] at this
  show (listText (PyData.shownAll [.str t, d])).length ≤ _
  simp only [PyData.shownAll]
  omega
/-- what may be asked for its repr -/
def Showy (d : PyData) : Prop := d.showable = true ∧ d.depth ≤ 60 ∧ d.hasDict = false ∧ d.shown.length ≤ sizeLine
theorem showy_told {r : Except Nat (List (List Nat))} (h : Small r) : Showy (toldD r) := by
  cases r with
  | error e =>
    have h : e ≤ 100000 := h
    refine ⟨?_, by simp [toldD, PyData.depth, PyData.depthAll], rfl, Nat.le_trans (show_two (t := "sign") (by decide +kernel) (show_i h)) (by decide)⟩
    show (PyData.showable (.str "sign") && (PyData.showable (.int (e : Nat)) && true)) = true
    rw [show PyData.showable (.int (e : Nat)) = true from decide_eq_true (log_small h)]; rfl
  | ok ws =>
    obtain ⟨h1, h2⟩ : ws.length ≤ 100000 ∧ ∀ w ∈ ws, w.length ≤ 40 ∧ ∀ c ∈ w, c ≤ 126 := h
    by_cases q : ws.length ≤ 40
    · simp only [toldD, if_pos q]
      obtain ⟨a, b, c, d⟩ := show_ws h2
      have e : (PyData.shown (dWs ws)).length ≤ 20000 := by
        have := listText_len_le (PyData.shownAll (ws.map dW))
        show (listText (PyData.shownAll (ws.map dW))).length ≤ _
        omega
      refine ⟨?_, ?_, ?_, Nat.le_trans (show_two (t := "told") (by decide +kernel) e) (by decide)⟩
      · show (PyData.showable (.str "told") && (PyData.showableAll (ws.map dW) && true)) = true
        rw [c]; rfl
      · simp [PyData.depth, PyData.depthAll, dWs, dep_ws]
      · show (PyData.hasDict (.str "told") || (PyData.hasDictAll (ws.map dW) || false)) = false
        rw [d]; rfl
    · simp only [toldD, if_neg q]
      refine ⟨?_, by simp [PyData.depth, PyData.depthAll], rfl, Nat.le_trans (show_two (t := "many") (by decide +kernel) (show_i h1)) (by decide)⟩
      show (PyData.showable (.str "many") && (PyData.showable (.int (ws.length : Nat)) && true)) = true
      rw [show PyData.showable (.int (ws.length : Nat)) = true from decide_eq_true (log_small h1)]; rfl
theorem r_repr {K : PySem.W.Frag} {H : Hp} {Q : VK} {x : V} {d : PyData} (h : Dp K H x d) (s : Showy d) (k : Q (.str d.shown) H) : rRepr K [x] H Q := ⟨x, d, rfl, h, s.1, s.2.1, s.2.2.1, s.2.2.2, k⟩
def spTells (st : Sc → Nat → Nat → Except Nat Sc) : Sp := fun vs H Q _ => ∃ z : Str, vs = [.str z] ∧ Lf (cd z) ∧ ∀ (p : Addr) (H' : Hp), Same H H' → H p = none → Told H H' p (cutR st (cd z)) → Q (.ref p) H'
end J

/-! what is told of a line is small -/
namespace J
open PySem PySem.Spec PyProof.Rows L2 M
def Mid (i : Nat) (s : Sc) : Prop := s.op ≤ i ∧ s.ws.length ≤ i ∧ (∀ w ∈ s.ws, w.length ≤ 40) ∧ (s.bg.getD []).length ≤ 40
theorem mid_step {s t : Sc} {i c : Nat} (m : Mid i s) (e : stP s i c = .ok t) : Mid (i + 1) t := by
  obtain ⟨ws, bg, qt, op, tk⟩ := s
  obtain ⟨m1, m2, m3, m4⟩ := m
  simp only at m1 m2 m3 m4
  unfold stP at e
  simp only at e
  have up : ∀ {b : Option (List Nat)} {q : Nat} {o : Nat} {k : Bool}, o ≤ i + 1 → (b.getD []).length ≤ 40 → Mid (i + 1) ⟨ws, b, q, o, k⟩ := fun h1 h2 => ⟨h1, by show ws.length ≤ _; omega, m3, h2⟩
  split at e
  · cases e
  split at e
  · split at e
    · cases e
    · rename_i h
      cases e
      exact up (by omega) (by simpa using h)
  split at e
  · cases e; exact up (by omega) m4
  split at e
  · cases e; exact up (by omega) m4
  split at e
  · cases e; exact up (by omega) (by simpa using m4)
  split at e
  · cases e
    cases bg with
    | none => exact ⟨by show op ≤ _; omega, by show ws.length ≤ _; omega, m3, Nat.zero_le _⟩
    | some b =>
      refine ⟨by show op ≤ _; omega, by show (ws ++ [b]).length ≤ _; rw [List.length_append]; simp; omega, fun w hw => ?_, Nat.zero_le _⟩
      rcases List.mem_append.mp hw with h | h
      · exact m3 w h
      · rw [List.mem_singleton.mp h]; exact m4
  split at e
  · cases e
  · rename_i h
    cases e
    exact up (by omega) (by simpa using h)
theorem err_step {s : Sc} {i c e : Nat} (h : stP s i c = .error e) : e = i := by
  unfold stP at h
  repeat' split at h
  all_goals first | (injection h with h; exact h.symm) | (cases h; done)
theorem mid_scan : ∀ (l : List Nat) (i : Nat) (s : Sc), Mid i s → match M.scan stP i s l with | .ok t => Mid (i + l.length) t | .error e => e < i + l.length
  | [], i, s, m => m
  | c :: l, i, s, m => by
    simp only [M.scan]
    cases q : stP s i c with
    | error e =>
      have := err_step q
      show e < _
      rw [List.length_cons]; omega
    | ok t =>
      have := mid_scan l (i + 1) t (mid_step m q)
      rw [List.length_cons, show i + (l.length + 1) = i + 1 + l.length by omega]
      exact this
theorem small_cut {l : List Nat} (h : Lf l) : Small (cutR stP l) := by
  have m := mid_scan l 0 sc0 ⟨Nat.le_refl _, Nat.le_refl _, fun _ h => (List.not_mem_nil h).elim, Nat.zero_le _⟩
  rw [Nat.zero_add] at m
  have h1 := h.1
  unfold cutR
  cases q : M.scan stP 0 sc0 l with
  | error e =>
    rw [q] at m
    exact show e ≤ 100000 by have : e < l.length := m; omega
  | ok t =>
    rw [q] at m
    obtain ⟨m1, m2, m3, m4⟩ := m
    by_cases k1 : t.tk = true
    · simp only [if_pos k1]; exact show l.length - 1 ≤ 100000 by omega
    simp only [if_neg k1]
    by_cases k2 : t.qt ≠ 0
    · simp only [if_pos k2]; exact show t.op ≤ 100000 by omega
    simp only [if_neg k2]
    have wd := scan_wd (fun c hc => by have := h.2 c hc; omega) q
    refine ⟨?_, fun w hw => ?_⟩
    · show (t.ws ++ t.bg.toList).length ≤ _
      have : t.bg.toList.length ≤ 1 := by cases t.bg <;> simp
      rw [List.length_append]; omega
    · rcases List.mem_append.mp hw with x | x
      · exact ⟨m3 w x, wd.1 w x⟩
      · cases b : t.bg with
        | none => rw [b] at x; cases x
        | some y =>
          rw [b] at x m4 wd
          rw [List.mem_singleton.mp x]
          exact ⟨m4, wd.2⟩
end J

/-! whole lines of up to forty words; texts some times over -/
namespace J
open PySem PySem.Spec PyProof.Rows L2 M
theorem scan_ws {l : List Nat} {t : Sc} (h : M.scan stP 0 sc0 l = .ok t) : t.ws.length ≤ l.length := by
  have m := mid_scan l 0 sc0 ⟨Nat.le_refl _, Nat.le_refl _, fun _ h => (List.not_mem_nil h).elim, Nat.zero_le _⟩
  rw [h] at m
  have := m.2.1
  omega
theorem scanL_ws {l : List Nat} {t : Sc} (n : ∀ c ∈ l, c ≠ 0) (h : M.scan stL 0 sc0 l = .ok t) : t.ws.length ≤ l.length := by
  have q := scan_eq l 0 sc0 ⟨.inl rfl, fun h => by cases h⟩ n
  cases e : M.scan stP 0 sc0 l with
  | error x =>
    rw [e] at q
    rw [show M.scan stL 0 sc0 l = _ from q] at h
    cases h
  | ok u =>
    rw [e] at q
    rw [show M.scan stL 0 sc0 l = _ from q.1] at h
    cases h
    have := scan_ws e
    obtain ⟨ws, bg, qt, op, tk⟩ := u
    unfold lw
    split <;> exact this
theorem foldl_cat (l : Array Nat) : ∀ (k : Nat) (acc : Array Nat), ((List.replicate k l).foldl (· ++ ·) acc).toList = acc.toList ++ (List.replicate k l.toList).flatten
  | 0, acc => by simp
  | k + 1, acc => by
    rw [List.replicate_succ, List.foldl_cons, foldl_cat l k, List.replicate_succ, List.flatten_cons]
    simp
theorem mul_cd (z : Str) (n : Nat) : cd (Txt.mul z (n : Int)) = (List.replicate n (cd z)).flatten := by
  unfold Txt.mul
  by_cases h1 : (n : Int) < 1
  · rw [if_pos h1, show n = 0 by omega]; rfl
  · rw [if_neg h1]
    by_cases h2 : n = 1
    · subst h2; simp
    · by_cases h3 : z.length = 0
      · rw [if_pos (by rw [h3]; simp)]
        have e : cd z = [] := by rw [len_cd] at h3; exact List.eq_nil_of_length_eq_zero h3
        rw [e]
        simp
      · rw [if_neg (by simp; omega)]
        show ((List.replicate ((n : Nat) : Int).toNat z.cps).foldl (· ++ ·) #[]).toList = _
        rw [foldl_cat, Int.toNat_natCast]; simp
theorem mul_ok {z : Str} {n : Nat} (hz : z.length ≤ 1000) (hn : n ≤ 1000) : MulOk z (n : Int) := by
  refine ⟨by simp; omega, fun h1 _ => ?_, fun h1 _ => ?_⟩
  · have : (1000 : Int) ≤ (2 ^ 63 - 1) / (n : Int) := Int.le_ediv_of_mul_le (by omega) (by omega)
    omega
  · have : z.length * ((n : Nat) : Int).toNat ≤ 1000 * 1000 := Nat.mul_le_mul hz (by omega)
    unfold Builtin.Str.tooLong
    refine decide_eq_false (Nat.not_lt.mpr (Nat.le_trans this (by decide)))
theorem rep_len (n : Nat) (l : List Nat) : (List.replicate n l).flatten.length = n * l.length := by simp
theorem rep_mem {n : Nat} {l : List Nat} {c : Nat} (h : c ∈ (List.replicate n l).flatten) : c ∈ l := by
  obtain ⟨m, hm, hc⟩ := List.mem_flatten.mp h
  rw [(List.mem_replicate.mp hm).2] at hc
  exact hc
theorem wro_len {l o : List Nat} (h : WrO l o) : o.length ≤ 4 + 4 * l.length := by
  rcases h with ⟨_, h⟩ | ⟨_, h⟩
  · simp only [List.mem_cons, List.not_mem_nil, or_false] at h  -- own
    rcases h with h | h | h | h <;> subst h <;> simp only [List.length_cons, List.length_nil] <;> omega
  · have := h.len; omega
/-- a line of these words, not long -/
def LineA (ls : List (List Nat)) (f : List Nat) : Prop := f.length ≤ 1200 ∧ (∀ c ∈ f, c = 10 ∨ 32 ≤ c ∧ c ≤ 126) ∧ ∃ t, M.scan stP 0 sc0 f = .ok t ∧ t.tk = false ∧ t.qt = 0 ∧ fin t = ls
theorem LineA.cut {ls : List (List Nat)} {f : List Nat} (h : LineA ls f) : cutR stP f = .ok ls := by
  obtain ⟨_, _, t, e, h1, h2, h3⟩ := h
  unfold cutR
  rw [e]
  simp only [h1, Bool.false_eq_true, if_false]
  rw [if_neg (fun q => q h2), h3]
theorem LineA.lf {ls : List (List Nat)} {f : List Nat} (h : LineA ls f) : Lf f := ⟨Nat.le_trans h.1 (by decide), h.2.1⟩
def spGood : Sp := fun vs H Q _ => ∃ (b : Addr) (n : Nat), vs = [.ref b] ∧ Bx H b n ∧ n ≤ 500000000 ∧ ∀ (ls : List (List Nat)) (f : List Nat) (p wd : Addr) (H' : Hp), ls.length ≤ 40 → (∀ l ∈ ls, Wd l) → LineA ls f → Keep b H H' → Bx H' b (n + 100000) →
  H' p = some (.tup [.ref wd, .str (S f)]) → H' wd = some (.lst (ls.map wV)) → p ≠ b → wd ≠ b → Q (.ref p) H'
def spLineZ : Sp := fun vs H Q _ => ∃ (b : Addr) (n : Nat), vs = [.ref b] ∧ Bx H b n ∧ n ≤ 400000000 ∧ ∀ (f : List Nat) (H' : Hp), f.length ≤ 1300 → (∀ c ∈ f, c = 10 ∨ 32 ≤ c ∧ c ≤ 126) → Keep b H H' → Bx H' b (n + 200000) → Q (.str (S f)) H'
def spRightZ : Sp := fun vs H Q _ => ∃ z : Str, vs = [.str z] ∧ Lf (cd z) ∧ ∀ H', Same H H' → Q (.bl true) H'
theorem sh_told {ls : List (List Nat)} (h : ∀ l ∈ ls, Wd l) : SeqAt.shaped (.list [.str "told", dWs ls]) = true := sh_two (by decide +kernel) (wd126 h)
end J

namespace J
open PySem PySem.Spec PyProof.Rows L2 M
theorem Bx.same {b : Addr} {H H' : Hp} {n : Nat} (h : Bx H b n) (s : Same H H') : Bx H' b n := let ⟨x, y, z, e, r⟩ := h; ⟨x, y, z, s _ _ e, r⟩
theorem lf_app {x y : Str} (hx : (cd x).length ≤ 1000) (hy : (cd y).length ≤ 1000) (cx : ∀ c ∈ cd x, c = 10 ∨ 32 ≤ c ∧ c ≤ 126) (cy : ∀ c ∈ cd y, c = 10 ∨ 32 ≤ c ∧ c ≤ 126) : Lf (cd (x ++ y)) := by
  rw [cd_app]
  refine ⟨by rw [List.length_append]; omega, fun c hc => (List.mem_append.mp hc).elim (cx c) (cy c)⟩
end J

/-! what is told of a line that breaks off, and its repr -/
namespace J
open PySem PySem.Spec PyProof.Rows L2 M
def stR (st : Sc → Nat → Nat → Except Nat Sc) (l : List Nat) : Except Nat Sc := match M.scan st 0 sc0 l with
  | .error e => .error e
  | .ok t => if t.tk = true then .error (l.length - 1) else .ok t
def cnt (t : Sc) : Nat := t.ws.length + t.bg.toList.length
theorem stR_eq {l : List Nat} (h : ∀ c ∈ l, c ≠ 0) : stR stL l = stR stP l := by
  have q := scan_eq l 0 sc0 ⟨.inl rfl, fun h => by cases h⟩ h
  unfold stR
  cases e : M.scan stP 0 sc0 l with
  | error x => rw [e] at q; rw [show M.scan stL 0 sc0 l = _ from q]
  | ok t =>
    rw [e] at q
    rw [show M.scan stL 0 sc0 l = _ from q.1]
    obtain ⟨ws, bg, qt, op, tk⟩ := t
    cases tk <;> rfl
def ToldS (F : Prop) (H0 H : Hp) (p : Addr) (r : Except Nat Sc) : Prop :=
  (∃ e, r = .error e ∧ H p = some (.lst [.str "sign", .int (e : Nat)])) ∨
  (∃ t q wd, r = .ok t ∧ cnt t ≤ 40 ∧ H p = some (.lst [.str "told", .ref q]) ∧ H q = some (.tup [.ref wd, obV t.bg, .str (qS t.qt)]) ∧ H wd = some (.lst (t.ws.map wV)) ∧ (F → H0 wd = none) ∧ wd ≠ p ∧ wd ≠ q) ∨
  (∃ t, r = .ok t ∧ 40 < cnt t ∧ H p = some (.lst [.str "many", .int (cnt t : Nat)]))
def obD : Option (List Nat) → PyData
  | none => .none
  | some l => dW l
def stD3 (t : Sc) : PyData := .tuple [dWs t.ws, obD t.bg, .str (qS t.qt)]
def tlS : Except Nat Sc → PyData
  | .error e => .list [.str "sign", .int (e : Nat)]
  | .ok t => if cnt t ≤ 40 then .list [.str "told", stD3 t] else .list [.str "many", .int (cnt t : Nat)]
theorem dp_ob {K : PySem.W.Frag} {H : Hp} : ∀ b : Option (List Nat), Dp K H (obV b) (obD b)
  | none => .non
  | some l => .str _
theorem ToldS.dp {F : Prop} {K : PySem.W.Frag} {H0 H : Hp} {p : Addr} {r : Except Nat Sc} (h : ToldS F H0 H p r) : Dp K H (.ref p) (tlS r) := by
  rcases h with ⟨e, rfl, h⟩ | ⟨t, q, wd, rfl, c, h1, h2, h3, _⟩ | ⟨t, rfl, c, h⟩
  · exact .lst (SqL.of h) (.cons (.str _) (.cons (.int _) .nil))
  · simp only [tlS, if_pos c]
    exact .lst (SqL.of h1) (.cons (.str _) (.cons (.tup (SqT.of h2) (.cons (dp_ws (SqL.of h3)) (.cons (dp_ob _) (.cons (.str _) .nil)))) .nil))
  · simp only [tlS, if_neg (Nat.not_le_of_lt c)]
    exact .lst (SqL.of h) (.cons (.str _) (.cons (.int _) .nil))
theorem ToldS.mono {F : Prop} {H0 H H' : Hp} {p : Addr} {r : Except Nat Sc} (s : Same H H') (h : ToldS F H0 H p r) : ToldS F H0 H' p r := by
  rcases h with ⟨e, er, h⟩ | ⟨t, q, wd, er, c, h1, h2, h3, h4⟩ | ⟨t, er, c, h⟩
  · exact .inl ⟨e, er, s _ _ h⟩
  · exact .inr (.inl ⟨t, q, wd, er, c, s _ _ h1, s _ _ h2, s _ _ h3, h4⟩)
  · exact .inr (.inr ⟨t, er, c, s _ _ h⟩)
def SmallS (r : Except Nat Sc) : Prop := match r with
  | .error e => e ≤ 100000
  | .ok t => t.ws.length ≤ 100000 ∧ (∀ w ∈ t.ws, w.length ≤ 40 ∧ ∀ c ∈ w, c ≤ 126) ∧ ((t.bg.getD []).length ≤ 40 ∧ ∀ c ∈ t.bg.getD [], c ≤ 126) ∧ (t.qt = 0 ∨ t.qt = 39 ∨ t.qt = 34)
theorem small_st {l : List Nat} (h : Lf l) : SmallS (stR stP l) := by
  have m := mid_scan l 0 sc0 ⟨Nat.le_refl _, Nat.le_refl _, fun _ h => (List.not_mem_nil h).elim, Nat.zero_le _⟩
  have g := scan_eq l 0 sc0 ⟨.inl rfl, fun h => by cases h⟩ (lf_ne h)
  rw [Nat.zero_add] at m
  have h1 := h.1
  unfold stR
  cases q : M.scan stP 0 sc0 l with
  | error e =>
    rw [q] at m
    exact show e ≤ 100000 by have : e < l.length := m; omega
  | ok t =>
    rw [q] at m g
    obtain ⟨m1, m2, m3, m4⟩ := m
    by_cases k1 : t.tk = true
    · simp only [if_pos k1]; exact show l.length - 1 ≤ 100000 by omega
    simp only [if_neg k1]
    have wd := scan_wd (fun c hc => by have := h.2 c hc; omega) q
    exact ⟨by omega, fun w hw => ⟨m3 w hw, wd.1 w hw⟩, ⟨m4, wd.2⟩, g.2.1⟩
theorem show_ob {b : Option (List Nat)} (h : (b.getD []).length ≤ 40 ∧ ∀ c ∈ b.getD [], c ≤ 126) : (PyData.shown (obD b)).length ≤ 402 ∧ (obD b).showable = true ∧ (obD b).hasDict = false ∧ (obD b).depth = 0 := by
  cases b with
  | none => exact ⟨by decide +kernel, rfl, rfl, rfl⟩
  | some l => exact ⟨show_w h, rfl, rfl, rfl⟩
theorem show_qs {q : Nat} (h : q = 0 ∨ q = 39 ∨ q = 34) : (PyData.shown (.str (qS q))).length ≤ 10 := by
  rcases h with rfl | rfl | rfl <;> decide +kernel
theorem showy_st {r : Except Nat Sc} (h : SmallS r) : Showy (tlS r) := by
  cases r with
  | error e =>
    have h : e ≤ 100000 := h
    refine ⟨?_, by simp [tlS, PyData.depth, PyData.depthAll], rfl, Nat.le_trans (show_two (t := "sign") (by decide +kernel) (show_i h)) (by decide)⟩
    show (PyData.showable (.str "sign") && (PyData.showable (.int (e : Nat)) && true)) = true
    rw [show PyData.showable (.int (e : Nat)) = true from decide_eq_true (log_small h)]; rfl
  | ok t =>
    obtain ⟨h1, h2, h3, h4⟩ : t.ws.length ≤ 100000 ∧ (∀ w ∈ t.ws, w.length ≤ 40 ∧ ∀ c ∈ w, c ≤ 126) ∧ ((t.bg.getD []).length ≤ 40 ∧ ∀ c ∈ t.bg.getD [], c ≤ 126) ∧ (t.qt = 0 ∨ t.qt = 39 ∨ t.qt = 34) := h
    by_cases q : cnt t ≤ 40
    · simp only [tlS, if_pos q]
      obtain ⟨a, b, c, d⟩ := show_ws h2
      obtain ⟨o1, o2, o3, o4⟩ := show_ob h3
      have q1 := show_qs h4
      have wl : t.ws.length ≤ 40 := by unfold cnt at q; omega
      have e : (PyData.shown (dWs t.ws)).length ≤ 20000 := by
        have := listText_len_le (PyData.shownAll (t.ws.map dW))
        show (listText (PyData.shownAll (t.ws.map dW))).length ≤ _
        omega
      have e3 : (PyData.shown (stD3 t)).length ≤ 21000 := by
        have := tupleText_len_le (PyData.shownAll [dWs t.ws, obD t.bg, .str (qS t.qt)])
        simp only [PyData.shownAll, List.map_cons, List.map_nil, List.sum_cons, List.sum_nil, List.length_cons, List.length_nil] at this
        show (tupleText (PyData.shownAll [dWs t.ws, obD t.bg, .str (qS t.qt)])).length ≤ _
        simp only [PyData.shownAll]
        omega
      refine ⟨?_, ?_, ?_, Nat.le_trans (show_two (t := "told") (by decide +kernel) e3) (by decide)⟩
      · show (PyData.showable (.str "told") && ((PyData.showableAll (t.ws.map dW) && (PyData.showable (obD t.bg) && (PyData.showable (.str (qS t.qt)) && true))) && true)) = true
        rw [c, o2]; rfl
      · simp [PyData.depth, PyData.depthAll, stD3, dWs, dep_ws, o4]
      · show (PyData.hasDict (.str "told") || ((PyData.hasDictAll (t.ws.map dW) || (PyData.hasDict (obD t.bg) || (PyData.hasDict (.str (qS t.qt)) || false))) || false)) = false
        rw [d, o3]; rfl
    · simp only [tlS, if_neg q]
      have : cnt t ≤ 100001 := by unfold cnt; have : t.bg.toList.length ≤ 1 := (by cases t.bg <;> simp); omega
      have c5 : cnt t ≤ 100000 ∨ cnt t = 100001 := by omega
      have lg : (((cnt t : Nat) : Int)).natAbs.log2 < 1920 := by
        rcases c5 with c5 | c5
        · exact log_small c5
        · rw [c5]; decide +kernel
      have sh : (PyData.shown (.int (cnt t : Nat))).length ≤ 21 := by
        rcases c5 with c5 | c5
        · exact show_i c5
        · rw [c5]; decide +kernel
      refine ⟨?_, by simp [PyData.depth, PyData.depthAll], rfl, Nat.le_trans (show_two (t := "many") (by decide +kernel) sh) (by decide)⟩
      show (PyData.showable (.str "many") && (PyData.showable (.int (cnt t : Nat)) && true)) = true
      rw [show PyData.showable (.int (cnt t : Nat)) = true from decide_eq_true lg]; rfl
def spTellsS (F : Prop) (st : Sc → Nat → Nat → Except Nat Sc) : Sp := fun vs H Q _ => ∃ z : Str, vs = [.str z] ∧ Lf (cd z) ∧ ∀ (p : Addr) (H' : Hp), Same H H' → H p = none → ToldS F H H' p (stR st (cd z)) → Q (.ref p) H'
def spStateOf (C CT : Addr) : Sp := fun vs H Q E => ∃ z : Str, vs = [.str z] ∧ Lf (cd z) ∧
  (∀ e, stR stP (cd z) = .error e → Err C "at" (.int (e : Nat)) H E) ∧
  (∀ t, stR stP (cd z) = .ok t → 40 < cnt t → Err CT "many" (.int (cnt t : Nat)) H E) ∧
  (∀ t, stR stP (cd z) = .ok t → cnt t ≤ 40 → ∀ (p wd : Addr) (H' : Hp), H p = none → H wd = none → Same H H' → H' p = some (.tup [.ref wd, obV t.bg, .str (qS t.qt)]) → H' wd = some (.lst (t.ws.map wV)) → wd ≠ p → Q (.ref p) H')
/-- for i in range(lo, lo + q) -/
theorem r_for2 {σ : L2.St} {H : Hp} {n' : L2.St → Hp → Prop} {rt : VK} {bk ct : L2.St → Hp → Prop} {lo q : Nat} {g : TG} {tb : TS} (I : Nat → L2.St → Hp → Prop) (start : I 0 σ H)
    (turn : ∀ (j : Nat) σ1 H1, j < q → I j σ1 H1 → g (.int ((lo + j : Nat))) σ1 H1 fun σ2 H2 => tb ⟨I (j + 1), rt, n', I (j + 1)⟩ σ2 H2)
    (fin : ∀ σ1 H1, I q σ1 H1 → n' σ1 H1) : LoopQ (Itr (lo : Nat) q) g tb ⟨n', rt, bk, ct⟩ σ H := by
  exact loop_of (D := ⟨n', rt, bk, ct⟩) q I start (fun j _ _ hj _ => hj) (fun _ _ _ => Nat.le_refl _) (fun j σ1 H1 x H' hj w y => by
    obtain ⟨rfl, rfl⟩ := y
    have := turn j σ1 _ hj w
    rwa [show (((lo + j : Nat)) : Int) = (lo : Int) + (j : Int) from by omega] at this) fin
theorem r_repn {l : Addr} {xs : List V} {n : Nat} {H : Hp} {Q : VK} (h : H l = some (.lst xs)) (hx : xs.length ≤ 1000) (hn : n ≤ 1000) (k : ∀ p, H p = none → Q (.ref p) (upd H p (.lst (List.replicate n xs).flatten))) : J.rMul (.ref l) (.int (n : Nat)) H Q :=
  .inr (.inr ⟨l, _, xs, rfl, rfl, h, by omega, by omega, by rw [Int.toNat_natCast]; exact Nat.le_trans (Nat.mul_le_mul hx hn) (by decide), by rw [Int.toNat_natCast]; exact k⟩)
end J

namespace J
open PySem PySem.Spec PyProof.Rows L2 M
theorem r_irng2 {ta : TA} {σ : L2.St} {H : Hp} {R : It → Hp → Prop} (k : ta σ H fun vs H1 => ∃ i j : Int, vs = [.int i, .int j] ∧ (-(2 ^ 62) ≤ i ∧ i < 2 ^ 62 ∧ -(2 ^ 62) ≤ j ∧ j < 2 ^ 62) ∧ R (Itr i (j - i).toNat) H1) : iRng2 ta σ H R := k
theorem dpa_rep {K : PySem.W.Frag} {H : Hp} {x : V} {d : PyData} (h : Dp K H x d) : ∀ n : Nat, DpAll K H (List.replicate n x) (List.replicate n d)
  | 0 => .nil
  | n + 1 => .cons h (dpa_rep h n)
theorem r_neD0 {K : PySem.W.Frag} {H : Hp} {Q : VK} {x y : V} {d e : PyData} (hd : Dp K H x d) (he : Dp K H y e) (sd : SeqAt.shaped d = true) (se : SeqAt.shaped e = true) (q : PyData.eqv d e = true) (k : Q (.bl false) H) : rNeA K x y H Q := .inr ⟨d, e, hd, he, sd, se, by rw [q]; exact k⟩
theorem rep_one (n : Nat) (x : V) : (List.replicate n [x]).flatten = List.replicate n x := by
  induction n with
  | zero => rfl
  | succ n ih => rw [List.replicate_succ, List.flatten_cons, ih]; rfl
def isSt : Except Nat Sc → Sc → Bool
  | .ok t, u => decide (t.ws = u.ws ∧ t.bg = u.bg ∧ t.qt = u.qt ∧ t.op = u.op ∧ t.tk = u.tk)
  | _, _ => false
theorem isSt_eq {r : Except Nat Sc} {u : Sc} (h : isSt r u = true) : r = .ok u := by
  cases r with
  | error e => cases h
  | ok t =>
    obtain ⟨a, b, c, d, e⟩ := of_decide_eq_true (show decide (t.ws = u.ws ∧ t.bg = u.bg ∧ t.qt = u.qt ∧ t.op = u.op ∧ t.tk = u.tk) = true from h)
    obtain ⟨ws, bg, qt, op, tk⟩ := t
    obtain ⟨ws', bg', qt', op', tk'⟩ := u
    simp only at a b c d e
    subst a b c d e
    rfl
def s39 : Sc := ⟨List.replicate 39 [97], some [98], 0, 0, false⟩
def s40 : Sc := ⟨List.replicate 40 [97], some [], 39, 80, false⟩
theorem st39 : stR stP ((List.replicate 39 [97, 32]).flatten ++ [98]) = .ok s39 := isSt_eq (by decide +kernel)
theorem st40 : stR stP ((List.replicate 40 [97, 32]).flatten ++ [39]) = .ok s40 := isSt_eq (by decide +kernel)
def d39 : PyData := .list [.str "told", .tuple [.list (List.replicate 39 (.str "a")), .str "b", .str ""]]
theorem eqv39 : PyData.eqv (tlS (.ok s39)) d39 = true ∧ SeqAt.shaped (tlS (.ok s39)) = true ∧ SeqAt.shaped d39 = true := by decide +kernel
def d41 : PyData := .list [.str "many", .int 41]
theorem eqv41 : PyData.eqv (tlS (.ok s40)) d41 = true ∧ SeqAt.shaped (tlS (.ok s40)) = true ∧ SeqAt.shaped d41 = true := by decide +kernel
theorem lf39 : Lf ((List.replicate 39 [97, 32]).flatten ++ [98]) := ⟨by decide +kernel, by decide +kernel⟩
theorem lf40 : Lf ((List.replicate 40 [97, 32]).flatten ++ [39]) := ⟨by decide +kernel, by decide +kernel⟩
theorem t39 : cd (Txt.mul "a " 39 ++ Str.ofString "b") = (List.replicate 39 [97, 32]).flatten ++ [98] := by
  rw [cd_app, show cd (Txt.mul "a " 39) = _ from mul_cd "a " 39]; decide +kernel
theorem t40 : cd (Txt.mul "a " 40 ++ Str.ofString "'") = (List.replicate 40 [97, 32]).flatten ++ [39] := by
  rw [cd_app, show cd (Txt.mul "a " 40) = _ from mul_cd "a " 40]; decide +kernel
end J

/-! questions of a text's signs; max(ints, default=d); a line's words by its gaps -/
namespace J
open PySem PySem.Spec PyProof.Rows L2 M
/-! ### questions of a text -/
def rIs (f : Str → Bool) : V → List V → Hp → VK → Prop := fun x xs H Q => ∃ a, x = .str a ∧ xs = [] ∧ True ∧ Q (.bl (f a)) H
def rWords : V → List V → Hp → VK → Prop := fun x xs H Q => ∃ a, x = .str a ∧ xs = [] ∧ a.length + 2 ≤ sizeLine ∧ rNewStrs (Txt.words a) H Q
theorem r_m0 {σ : L2.St} {H : Hp} {Q : VK} {r : V → List V → Hp → VK → Prop} {to : TE} (k : to σ H fun x H1 => (∃ a, x = .str a) ∧ r x [] H1 Q) : tM0 r to σ H Q := k
theorem r_is {f : Str → Bool} {z : Str} {H : Hp} {Q : VK} (k : Q (.bl (f z)) H) : rIs f (.str z) [] H Q := ⟨z, rfl, rfl, trivial, k⟩
theorem mA_isascii {X : Cx} : MtR X "str.isascii" (rIs Txt.isascii) := mt_isascii
theorem mA_isprintable {X : Cx} : MtR X "str.isprintable" (rIs Txt.isprintable) := mt_isprintable
theorem mA_isalnum {X : Cx} : MtR X "str.isalnum" (rIs Txt.isalnum) := mt_isalnum
theorem mA_isalpha {X : Cx} : MtR X "str.isalpha" (rIs Txt.isalpha) := mt_isalpha
theorem mA_islower {X : Cx} : MtR X "str.islower" (rIs Txt.islower) := mt_islower
theorem mA_isdigit {X : Cx} : MtR X "str.isdigit" (rIs Txt.isdigit) := mt_isdigit
theorem mA_words {X : Cx} : MtR X "str.split" rWords := mt_words
theorem all_cd {p : Nat → Bool} {z : Str} : z.cps.all p = (cd z).all p := by rw [← Array.all_toList]
theorem pr_c : ∀ c, c < 128 → Unicode.isPrintable c = decide (32 ≤ c ∧ c ≤ 126) := by decide +kernel
theorem an_c : ∀ c, c < 128 → Unicode.isAlnum c = true → 32 ≤ c ∧ c ≤ 126 ∧ c ≠ 32 ∧ c ≠ 39 ∧ c ≠ 34 ∧ c ≠ 92 := by decide +kernel
theorem sp_c : ∀ c, c < 128 → (c = 10 ∨ 32 ≤ c) → Unicode.isSpace c = decide (c = 10 ∨ c = 32) := by decide +kernel
/-- both questions together: each is a sign -/
theorem ascii_sg (z : Str) : (Txt.isascii z && Txt.isprintable z) = sg (cd z) := by
  unfold Txt.isascii Txt.isprintable sg
  rw [all_cd, all_cd, Bool.eq_iff_iff, Bool.and_eq_true, List.all_eq_true, List.all_eq_true, List.all_eq_true]
  refine ⟨fun h c hc => ?_, fun h => ⟨fun c hc => ?_, fun c hc => ?_⟩⟩
  · rw [← pr_c c (of_decide_eq_true (h.1 c hc))]
    exact h.2 c hc
  · have := of_decide_eq_true (h c hc)
    exact decide_eq_true (by omega)  -- own
  · have := of_decide_eq_true (h c hc)
    rw [pr_c c (by omega)]
    exact h c hc
/-- letters and figures: none that needs a stroke, and at least one -/
theorem alnum_sg {z : Str} (h : ∀ c ∈ cd z, 32 ≤ c ∧ c ≤ 126) (e : Txt.isalnum z = true) : cd z ≠ [] ∧ ∀ c ∈ cd z, c ∉ N1 := by
  unfold Txt.isalnum at e
  rw [all_cd, Bool.and_eq_true, List.all_eq_true] at e
  refine ⟨fun q => ?_, fun c hc => ?_⟩
  · have := of_decide_eq_true e.1
    rw [len_cd, q] at this
    exact Nat.lt_irrefl 0 this
  · have := an_c c (by have := h c hc; omega) (e.2 c hc)
    simp only [N1, List.mem_cons, List.not_mem_nil, or_false]
    omega
/-- such a word is its own shortest way -/
theorem FM_alnum {l : List Nat} (h0 : l ≠ []) (h : ∀ c ∈ l, c ∉ N1) : FM (ways l) l := by
  have e1 : esc N1 l = l := esc_none h
  have n39 : 39 ∉ l := fun q => h 39 q (by decide)
  refine ⟨0, ?_, fun j w hj => ?_⟩
  · simp only [ways, if_neg h0, e1]; rfl
  · refine ⟨?_, fun q => absurd q (Nat.not_lt_zero _)⟩
    have hw : w ∈ ways l := List.mem_of_getElem? hj
    simp only [ways, if_neg h0, if_neg n39, e1, List.cons_append, List.nil_append, List.mem_cons, List.not_mem_nil, or_false] at hw
    rcases hw with rfl | rfl | rfl
    · exact Nat.le_refl _
    · simp only [List.length_cons, List.length_append]; omega
    · have : ∀ n : List Nat, ∀ l : List Nat, l.length ≤ (esc n l).length := fun n l => by
        induction l with
        | nil => exact Nat.zero_le _
        | cons c r ih =>
          rw [esc_eq, List.map_cons, List.flatten_cons, ← esc_eq, List.length_append, List.length_cons]
          split <;> simp only [List.length_cons, List.length_nil] <;> omega
      have := this N2 l
      simp only [List.length_cons, List.length_append]; omega
/-! ### the words of a line without quotes and strokes -/
theorem run_keeps : ∀ (l : List Nat) (st : KWd.St), (∀ w ∈ st.1, w ∈ (l.foldl KWd.step st).1) ∧ (st.2.length ≤ (l.foldl KWd.step st).2.length ∨ ∃ w ∈ (l.foldl KWd.step st).1, st.2.length ≤ w.length)
  | [], st => ⟨fun _ h => h, .inl (Nat.le_refl _)⟩
  | c :: l, st => by
    rw [List.foldl_cons]
    obtain ⟨i1, i2⟩ := run_keeps l (KWd.step st c)
    unfold KWd.step at i1 i2 ⊢
    by_cases hs : Unicode.isSpace c = true
    · simp only [hs, if_true] at i1 i2 ⊢
      by_cases h0 : st.2.length = 0
      · simp only [h0, if_true] at i1 i2 ⊢
        exact ⟨i1, .inl (Nat.zero_le _)⟩
      · simp only [h0, if_false] at i1 i2 ⊢
        exact ⟨fun w hw => i1 w (List.mem_append_left _ hw), .inr ⟨st.2, i1 _ (List.mem_append_right _ (List.mem_singleton.mpr rfl)), Nat.le_refl _⟩⟩
    · simp only [hs, if_false] at i1 i2 ⊢
      have le : st.2.length ≤ (st.2 ++ ⟨#[c]⟩ : Str).length := by rw [len_app]; omega
      refine ⟨i1, i2.imp (fun h => Nat.le_trans le h) fun ⟨w, hw, h⟩ => ⟨w, hw, Nat.le_trans le h⟩⟩
def bgOf (r : Str) : Option (List Nat) := if r.length = 0 then none else some (cd r)
theorem bg_len (r : Str) : ((bgOf r).getD []).length = r.length := by
  unfold bgOf
  split
  · rename_i h; rw [h]; rfl
  · rw [len_cd]; rfl
theorem bg_getD (r : Str) : (bgOf r).getD [] = cd r := by
  unfold bgOf
  split
  · rename_i h
    rw [len_cd] at h
    exact (List.eq_nil_of_length_eq_zero h).symm
  · rfl
theorem scan_plain : ∀ (l : List Nat) (i : Nat) (st : KWd.St), (∀ c ∈ l, (c = 10 ∨ 32 ≤ c ∧ c ≤ 126) ∧ c ≠ 39 ∧ c ≠ 34 ∧ c ≠ 92) →
    (∀ w ∈ (l.foldl KWd.step st).1, w.length ≤ 40) → (l.foldl KWd.step st).2.length ≤ 40 →
    M.scan stP i ⟨st.1.map (fun z => cd z), bgOf st.2, 0, 0, false⟩ l = .ok ⟨(l.foldl KWd.step st).1.map (fun z => cd z), bgOf (l.foldl KWd.step st).2, 0, 0, false⟩
  | [], i, st, _, _, _ => rfl
  | c :: l, i, st, h, hw, hr => by
    obtain ⟨hc, n39, n34, n92⟩ := h c (List.mem_cons_self ..)
    rw [List.foldl_cons] at hw hr ⊢
    have ih := scan_plain l (i + 1) (KWd.step st c) (fun d hd => h d (List.mem_cons_of_mem _ hd)) hw hr
    have e : stP ⟨st.1.map (fun z => cd z), bgOf st.2, 0, 0, false⟩ i c = .ok ⟨(KWd.step st c).1.map (fun z => cd z), bgOf (KWd.step st c).2, 0, 0, false⟩ := by
      have sp := sp_c c (by omega) (by omega)
      have c0 : c ≠ 0 := by omega
      by_cases hs : c = 10 ∨ c = 32
      · have st1 : stP ⟨st.1.map (fun z => cd z), bgOf st.2, 0, 0, false⟩ i c = .ok ⟨(match bgOf st.2 with | some b => st.1.map (fun z => cd z) ++ [b] | none => st.1.map (fun z => cd z)), none, 0, 0, false⟩ := by
          unfold stP
          rw [if_neg (by simp), if_neg (by simp), if_neg (by simp; omega), if_neg (by simp; omega), if_neg (by simp; omega), if_pos (by simp; omega)]
          all_goals (cases bgOf st.2 <;> rfl)
        rw [st1]
        unfold KWd.step
        rw [sp, decide_eq_true hs]
        simp only [if_true]
        by_cases h0 : st.2.length = 0
        · rw [if_pos h0]
          have : bgOf st.2 = none := if_pos h0
          rw [this]
        · rw [if_neg h0]
          have b1 : bgOf st.2 = some (cd st.2) := if_neg h0
          have b2 : bgOf Str.empty = none := rfl
          rw [b1, b2, List.map_append]; rfl
      · have k : KWd.step st c = (st.1, st.2 ++ ⟨#[c]⟩) := by
          unfold KWd.step
          rw [sp, decide_eq_false hs]; rfl
        have rk := (run_keeps l (KWd.step st c)).2
        rw [k] at rk hw hr ⊢
        have le : (st.2 ++ ⟨#[c]⟩ : Str).length ≤ 40 := rk.elim (fun q => Nat.le_trans q hr) fun ⟨w, hw', q⟩ => Nat.le_trans q (hw w hw')
        rw [len_app] at le
        have le : st.2.length + 1 ≤ 40 := le
        clear rk
        have st1 : stP ⟨st.1.map (fun z => cd z), bgOf st.2, 0, 0, false⟩ i c = .ok ⟨st.1.map (fun z => cd z), some ((bgOf st.2).getD [] ++ [c]), 0, 0, false⟩ := by
          unfold stP
          rw [if_neg (by simp), if_neg (by simp), if_neg (by simp; omega), if_neg (by simp; omega), if_neg (by simp; omega), if_neg (by simp; omega), if_neg (by rw [List.length_append, bg_len]; simp only [List.length_cons, List.length_nil]; omega)]
        rw [st1, bg_getD]
        have : bgOf (st.2 ++ ⟨#[c]⟩) = some (cd st.2 ++ [c]) := by
          unfold bgOf
          rw [if_neg (by rw [len_app]; exact Nat.succ_ne_zero _), cd_app]
        rw [this]
    show (match stP ⟨st.1.map (fun z => cd z), bgOf st.2, 0, 0, false⟩ i c with | .ok t => M.scan stP (i + 1) t l | .error e => .error e) = _
    rw [e]
    exact ih
def plainWs (z : Str) : List (List Nat) := (Txt.words z).map fun y => cd y
theorem words_wV (z : Str) : (Txt.words z).map V.str = (plainWs z).map wV := by
  unfold plainWs
  rw [List.map_map]
  refine List.map_congr_left fun y _ => ?_
  show V.str y = V.str (S (cd y))
  rw [S_of]
theorem plain_few {z : Str} (h : (cd z).length ≤ 2000) : (plainWs z).length ≤ 2000 ∧ ∀ w ∈ plainWs z, w.length ≤ 2001 := by
  have q := PySem.StrLaws.words_weight z
  rw [len_cd] at q
  have e : (plainWs z).length = (Txt.words z).length := List.length_map ..
  have sm : ∀ (ns : List Nat) (n : Nat), n ∈ ns → n ≤ ns.sum := fun ns n hn => by
    induction ns with
    | nil => cases hn
    | cons m r ih =>
      rw [List.sum_cons]
      rcases List.mem_cons.mp hn with rfl | q
      · omega
      · have := ih q; omega
  have pos : ∀ y ∈ Txt.words z, 1 ≤ y.length := PySem.StrLaws.words_pos z
  have ge : ∀ ys : List Str, (∀ y ∈ ys, 1 ≤ y.length) → ys.length ≤ (ys.map (·.length)).sum := fun ys h => by
    induction ys with
    | nil => exact Nat.zero_le _
    | cons y r ih =>
      rw [List.map_cons, List.sum_cons, List.length_cons]
      have := ih fun u hu => h u (List.mem_cons_of_mem _ hu)
      have := h y (List.mem_cons_self ..)
      omega
  have g := ge _ pos
  refine ⟨by omega, fun w hw => ?_⟩
  obtain ⟨y, hy, rfl⟩ := List.mem_map.mp hw
  have := sm ((Txt.words z).map (·.length)) y.length (List.mem_map.mpr ⟨y, hy, rfl⟩)
  rw [← len_cd]
  omega
theorem r_words {z : Str} {H : Hp} {Q : VK} (h : z.length + 2 ≤ sizeLine) (k : ∀ p, H p = none → Q (.ref p) (upd H p (.lst ((plainWs z).map wV)))) : rWords (.str z) [] H Q :=
  ⟨z, rfl, rfl, h, fun p hp => by rw [words_wV]; exact k p hp⟩
/-- such a line's words, where none is too long -/
theorem cut_plain {z : Str} (h : Lf (cd z)) (h39 : 39 ∉ cd z) (h34 : 34 ∉ cd z) (h92 : 92 ∉ cd z) (hw : ∀ w ∈ plainWs z, w.length ≤ 40) : cutR stP (cd z) = .ok (plainWs z) := by
  have e : Txt.words z = KWd.fin (KWd.scan z) := KWd.words_scan z
  have hw' : ∀ y ∈ KWd.fin (KWd.scan z), y.length ≤ 40 := fun y hy => by
    rw [len_cd]
    exact hw _ (List.mem_map.mpr ⟨y, by rw [e]; exact hy, rfl⟩)
  have hs := scan_plain (cd z) 0 ([], Str.empty) (fun c hc => ⟨h.2 c hc, fun q => h39 (q ▸ hc), fun q => h34 (q ▸ hc), fun q => h92 (q ▸ hc)⟩)
    (fun w hw2 => hw' w (by unfold KWd.fin; split; exact hw2; exact List.mem_append_left _ hw2))
    (by
      show (KWd.scan z).2.length ≤ 40
      unfold KWd.fin at hw'
      by_cases h0 : (KWd.scan z).2.length = 0
      · omega
      · rw [if_neg h0] at hw'
        exact hw' _ (List.mem_append_right _ (List.mem_singleton.mpr rfl)))
  have hs : M.scan stP 0 sc0 (cd z) = .ok ⟨(KWd.scan z).1.map (fun z => cd z), bgOf (KWd.scan z).2, 0, 0, false⟩ := hs
  unfold cutR
  rw [hs]
  show Except.ok (J.fin _) = _
  unfold plainWs
  rw [e]
  unfold KWd.fin J.fin bgOf
  by_cases h0 : (KWd.scan z).2.length = 0
  · simp only [h0, if_true]; simp
  · simp only [h0, if_false]; simp
/-! ### max(ints, default=d) -/
def tMaxD (K : PySem.W.Frag) (te td : TE) : TE := fun σ H Q => te σ H fun x H1 => td σ H1 fun y H2 => ∃ (a : Addr) (ns : List Int) (d : Int), x = .ref a ∧ y = .int d ∧ SqL K H2 a (ns.map .int) ∧ ∀ m : Int, (ns = [] → m = d) → (ns ≠ [] → m ∈ ns ∧ ∀ n ∈ ns, n ≤ m) → Q (.int m) H2
theorem reads_ints {h : Heap} : ∀ {ns : List Int} {us : List Value}, Vals (ns.map V.int) us → ∃ as, ReadsAll h us (ns.map PySem.W.Datum.toD) as
  | [], _, .nil => ⟨_, .nil⟩
  | n :: ns, _, .cons r t => by
    obtain ⟨k, rfl⟩ := r
    obtain ⟨as, q⟩ := reads_ints (h := h) t
    exact ⟨_, .cons (.int n k) q⟩
theorem maxOf_int : ∀ (xs : List Int) (x : Int), PySem.W.maxOf x xs ∈ x :: xs ∧ ∀ n ∈ x :: xs, n ≤ PySem.W.maxOf x xs
  | [], x => ⟨List.mem_singleton.mpr rfl, fun n hn => by rw [List.mem_singleton.mp hn]; exact Int.le_refl _⟩
  | y :: ys, x => by
    have e : PySem.W.maxOf x (y :: ys) = PySem.W.maxOf (if x < y then y else x) ys := by
      show List.foldl _ _ _ = List.foldl _ _ _
      rw [List.foldl_cons]
      congr 1
      show (if decide (x < y) = true then y else x) = _
      by_cases h : x < y <;> simp [h]
    obtain ⟨i1, i2⟩ := maxOf_int ys (if x < y then y else x)
    rw [e]
    have i3 := i2 _ (List.mem_cons_self ..)
    refine ⟨?_, fun n hn => ?_⟩
    · rcases List.mem_cons.mp i1 with q | q
      · rw [q]
        split
        · exact List.mem_cons_of_mem _ (List.mem_cons_self ..)
        · exact List.mem_cons_self ..
      · exact List.mem_cons_of_mem _ (List.mem_cons_of_mem _ q)
    · rcases List.mem_cons.mp hn with rfl | q
      · exact Int.le_trans (by split <;> omega) i3
      · rcases List.mem_cons.mp q with rfl | q  -- own
        · exact Int.le_trans (by split <;> omega) i3
        · exact i2 n (List.mem_cons_of_mem _ q)
theorem pe_maxD {X : Cx} {e d : Expr} {te td : TE} {p kp pos : Pos} (he : PE X e te) (hd : PE X d td) (hc : X.calm = true) (hg : Gl X "max") (hm : X.mg "max" = none) (hu : X.A.units + 64 < cLine)
    (h1 : backTo pos (starEach [e] X.env) = (false, eval e X.env) :: backTo pos (starEach [] X.env) := by rfl) (h2 : (backTo pos (starEach [e] X.env)).any (·.1) = false := by rfl)
    (h3 : (backToKw pos (keywordEach [⟨some "default", d, kp⟩] X.env)).all (·.1.isSome) = true := by rfl) (h4 : (backToKw pos (keywordEach [⟨some "default", d, kp⟩] X.env)).any (·.1.isNone) = false := by rfl)
    (h0 : starEach [e] X.env = (false, eval e X.env) :: starEach [] X.env := by rfl)
    (h5 : (backToKw pos (keywordEach [⟨some "default", d, kp⟩] X.env)).filterMap (·.1) = [Str.ofString "default"] := by rfl) :
    PE X (.Call (.Name "max" p) [e] [⟨some "default", d, kp⟩] pos) (tMaxD X.K te td) := by
  refine ⟨fun pins s σ H Q I h => wpAny_Call_Name_kw (ld_blt (u := .builtin "max") I hg hm (by decide +kernel) ?_ (by decide) (by decide))⟩
  refine PyProof.Rows.callWith_kw (thn ((pa_cons he pa_nil h0).run pos pins s σ H (fun vs H1 => match vs with
    | [x] => td σ H1 fun y H2 => ∃ (a : Addr) (ns : List Int) (d : Int), x = .ref a ∧ y = .int d ∧ SqL X.K H2 a (ns.map .int) ∧ ∀ m : Int, (ns = [] → m = d) → (ns ≠ [] → m ∈ ns ∧ ∀ n ∈ ns, n ≤ m) → Q (.int m) H2
    | _ => False) I h) fun us s1 hh => ?_) h1 h2 h3 h4
  obtain ⟨vs, H1, I1, r1, q1⟩ := hh
  cases r1 with
  | nil => exact q1.elim
  | cons rx rr =>
    cases rr with
    | cons _ _ => exact q1.elim
    | nil =>
      rw [h5]
      show wpAny _ _ (evalAll [do let v ← eval d X.env; standAt pos; pure v]) _ _ s1
      refine wpAny_evalAll_cons (wpAny_bind (thn (hd.run pins s1 σ H1 _ I1 q1) fun u2 s2 ⟨y, H2, I2, ry, a, ns, d0, ex, ey, hs, q⟩ => wpAny_bind (wpAny_standAt (wpAny_pure (wpAny_evalAll_nil ?_)))))
      subst ex ey
      cases rx
      obtain ⟨t, rfl⟩ := ry
      show wpAny _ _ (call (.builtin "max") [.ref a] [(Str.ofString "default", .int d0 t)]) _ _ s2
      obtain ⟨its, rv, hL, hz⟩ := I2.list hs
      refine PySem.W.max_list_datum_default (α := Int) (xs := ns) (I2.ok.hd hc) hL.isList (show PySem.W.HoldAll s2.heap its.toArray.toList ns by rw [List.toList_toArray]; exact reads_ints rv) (by show X.A.units + 1 + 0 < cLine; omega) (fun e0 h' tk hk => ?_) fun y ys i v h' tk e0 hi hv hk => ?_
      · exact ⟨.int d0, H2, I2.kept hk, ⟨t, rfl⟩, q d0 (fun _ => rfl) fun n => absurd e0 n⟩
      · subst e0
        obtain ⟨as, r⟩ := hv
        have : ∃ t', v = .int (PySem.W.maxOf y ys) t' := by
          cases r with
          | int i t' => exact ⟨t', rfl⟩
        obtain ⟨t', rfl⟩ := this
        have m := maxOf_int ys y
        exact ⟨.int _, H2, I2.kept hk, ⟨t', rfl⟩, q _ (fun n => by cases n) fun _ => m⟩
theorem asMaxD {X : Cx} {K : PySem.W.Frag} {e : Expr} {te td : TE} (eK : X.K = K) (h : PE X e (tMaxD X.K te td)) : PE X e (tMaxD K te td) := eK ▸ h
theorem r_maxD {K : PySem.W.Frag} {σ : L2.St} {H : Hp} {Q : VK} {te td : TE} (k : te σ H fun x H1 => td σ H1 fun y H2 => ∃ (a : Addr) (ns : List Int) (d : Int), x = .ref a ∧ y = .int d ∧ SqL K H2 a (ns.map .int) ∧ ∀ m : Int, (ns = [] → m = d) → (ns ≠ [] → m ∈ ns ∧ ∀ n ∈ ns, n ≤ m) → Q (.int m) H2) : tMaxD K te td σ H Q := k
/-- a line without quotes and strokes: its words, or nothing -/
def spCutPl : Sp := fun vs H Q _ => ∃ z : Str, vs = [.str z] ∧ Lf (cd z) ∧ (∀ H', Same H H' → Q .non H') ∧
  (∀ ws, cutR stP (cd z) = .ok ws → ws.length ≤ 2000 → ∀ (w : Addr) (H' : Hp), H w = none → Same H H' → H' w = some (.lst (ws.map wV)) → Q (.ref w) H')
end J

namespace K09
open PySem PySem.Spec PyProof.Rows L2 J M
def topS (i : Nat) : Stmt := PySem.Challenge.pw_callwords_k09_lines_that_break_off.main.body.getD i (.Pass ⟨0, 0, 0, 0⟩)
abbrev s_are_signs : Stmt := topS 9
abbrev N_are_signs : List Str := ["text"]
abbrev P_are_signs : List Str := ["text"]
theorem sc_are_signs : FnScope N_are_signs P_are_signs (defScope s_are_signs) := ⟨rfl, rfl, rfl, by decide +kernel, rfl, by decide +kernel, by decide +kernel⟩
abbrev s_is_line : Stmt := topS 15
abbrev N_is_line : List Str := ["thing"]
abbrev P_is_line : List Str := ["thing"]
theorem sc_is_line : FnScope N_is_line P_is_line (defScope s_is_line) := ⟨rfl, rfl, rfl, by decide +kernel, rfl, by decide +kernel, by decide +kernel⟩
abbrev s_state_of : Stmt := topS 16
abbrev N_state_of : List Str := ["line", "words", "begun", "quote", "_"]
abbrev P_state_of : List Str := ["line"]
theorem sc_state_of : FnScope N_state_of P_state_of (defScope s_state_of) := ⟨rfl, rfl, rfl, by decide +kernel, rfl, by decide +kernel, by decide +kernel⟩
abbrev s_scanned : Stmt := topS 17
abbrev N_scanned : List Str := ["line", "words", "begun", "quote", "opened", "escaping", "at", "sign"]
abbrev P_scanned : List Str := ["line"]
theorem sc_scanned : FnScope N_scanned P_scanned (defScope s_scanned) := ⟨rfl, rfl, rfl, by decide +kernel, rfl, by decide +kernel, by decide +kernel⟩
abbrev s_longer : Stmt := topS 18
abbrev N_longer : List Str := ["begun", "sign", "at", "word"]
abbrev P_longer : List Str := ["begun", "sign", "at"]
theorem sc_longer : FnScope N_longer P_longer (defScope s_longer) := ⟨rfl, rfl, rfl, by decide +kernel, rfl, by decide +kernel, by decide +kernel⟩
abbrev s_refuse_too_many : Stmt := topS 19
abbrev N_refuse_too_many : List Str := ["many"]
abbrev P_refuse_too_many : List Str := ["many"]
theorem sc_refuse_too_many : FnScope N_refuse_too_many P_refuse_too_many (defScope s_refuse_too_many) := ⟨rfl, rfl, rfl, by decide +kernel, rfl, by decide +kernel, by decide +kernel⟩
abbrev s_law_box : Stmt := topS 21
abbrev N_law_box : List Str := ["_law_cell"]
abbrev P_law_box : List Str := ["_law_cell"]
theorem sc_law_box : FnScope N_law_box P_law_box (defScope s_law_box) := ⟨rfl, rfl, rfl, by decide +kernel, rfl, by decide +kernel, by decide +kernel⟩
abbrev s_law_take : Stmt := topS 22
abbrev N_law_take : List Str := ["_law_box_here", "_law_many", "_law_digit", "_law_number"]
abbrev P_law_take : List Str := ["_law_box_here", "_law_many"]
theorem sc_law_take : FnScope N_law_take P_law_take (defScope s_law_take) := ⟨rfl, rfl, rfl, by decide +kernel, rfl, by decide +kernel, by decide +kernel⟩
abbrev s_law_pick : Stmt := topS 23
abbrev N_law_pick : List Str := ["_law_box_here", "_law_some"]
abbrev P_law_pick : List Str := ["_law_box_here", "_law_some"]
theorem sc_law_pick : FnScope N_law_pick P_law_pick (defScope s_law_pick) := ⟨rfl, rfl, rfl, by decide +kernel, rfl, by decide +kernel, by decide +kernel⟩
abbrev s_law_sign : Stmt := topS 24
abbrev N_law_sign : List Str := ["_law_box_here", "_law_every"]
abbrev P_law_sign : List Str := ["_law_box_here"]
theorem sc_law_sign : FnScope N_law_sign P_law_sign (defScope s_law_sign) := ⟨rfl, rfl, rfl, by decide +kernel, rfl, by decide +kernel, by decide +kernel⟩
abbrev s_law_word : Stmt := topS 25
abbrev N_law_word : List Str := ["_law_box_here", "_law_most", "_law_many", "_law_k"]
abbrev P_law_word : List Str := ["_law_box_here", "_law_most"]
theorem sc_law_word : FnScope N_law_word P_law_word (defScope s_law_word) := ⟨rfl, rfl, rfl, by decide +kernel, rfl, by decide +kernel, by decide +kernel⟩
abbrev s_law_stroked : Stmt := topS 26
abbrev N_law_stroked : List Str := ["_law_box_here", "_law_word_here", "_law_needs", "_law_sign_here"]
abbrev P_law_stroked : List Str := ["_law_box_here", "_law_word_here", "_law_needs"]
theorem sc_law_stroked : FnScope N_law_stroked P_law_stroked (defScope s_law_stroked) := ⟨rfl, rfl, rfl, by decide +kernel, rfl, by decide +kernel, by decide +kernel⟩
abbrev s_law_written : Stmt := topS 27
abbrev N_law_written : List Str := ["_law_box_here", "_law_word_here", "_law_found", "_law_left", "_law_many", "_law_piece", "_law_way"]
abbrev P_law_written : List Str := ["_law_box_here", "_law_word_here"]
theorem sc_law_written : FnScope N_law_written P_law_written (defScope s_law_written) := ⟨rfl, rfl, rfl, by decide +kernel, rfl, by decide +kernel, by decide +kernel⟩
abbrev s_law_gap : Stmt := topS 28
abbrev N_law_gap : List Str := ["_law_box_here", "_law_few", "_law_k"]
abbrev P_law_gap : List Str := ["_law_box_here", "_law_few"]
theorem sc_law_gap : FnScope N_law_gap P_law_gap (defScope s_law_gap) := ⟨rfl, rfl, rfl, by decide +kernel, rfl, by decide +kernel, by decide +kernel⟩
abbrev s_law_good : Stmt := topS 29
abbrev N_law_good : List Str := ["_law_box_here", "_law_many", "_law_words", "_law_found", "_law_at", "_law_word_here", "_law_k"]
abbrev P_law_good : List Str := ["_law_box_here"]
theorem sc_law_good : FnScope N_law_good P_law_good (defScope s_law_good) := ⟨rfl, rfl, rfl, by decide +kernel, rfl, by decide +kernel, by decide +kernel⟩
abbrev s_law_line : Stmt := topS 30
abbrev N_law_line : List Str := ["_law_box_here", "_law_way", "_law_words", "_law_line_here", "_law_at", "_law_more", "_law_k"]
abbrev P_law_line : List Str := ["_law_box_here"]
theorem sc_law_line : FnScope N_law_line P_law_line (defScope s_law_line) := ⟨rfl, rfl, rfl, by decide +kernel, rfl, by decide +kernel, by decide +kernel⟩
abbrev s_law_state : Stmt := topS 31
abbrev N_law_state : List Str := ["_law_line_here", "_law_words", "_law_begun", "_law_quote", "_law_opened", "_law_taken", "_law_at", "_law_sign_here", "_law_within"]
abbrev P_law_state : List Str := ["_law_line_here"]
theorem sc_law_state : FnScope N_law_state P_law_state (defScope s_law_state) := ⟨rfl, rfl, rfl, by decide +kernel, rfl, by decide +kernel, by decide +kernel⟩
abbrev s_law_broken : Stmt := topS 33
abbrev N_law_broken : List Str := ["_law_line_here", "_law_found", "_law_many"]
abbrev P_law_broken : List Str := ["_law_line_here"]
theorem sc_law_broken : FnScope N_law_broken P_law_broken (defScope s_law_broken) := ⟨rfl, rfl, rfl, by decide +kernel, rfl, by decide +kernel, by decide +kernel⟩
abbrev s_law_told : Stmt := topS 34
abbrev N_law_told : List Str := ["_law_line_here", "e"]
abbrev P_law_told : List Str := ["_law_line_here"]
theorem sc_law_told : FnScope N_law_told P_law_told (defScope s_law_told) := ⟨rfl, rfl, rfl, by decide +kernel, rfl, by decide +kernel, by decide +kernel⟩
abbrev s_law : Stmt := topS 35
abbrev N_law : List Str := ["_law_script", "_law_cell", "_law_box_here", "_law_turn", "_law_line_here", "_law_first", "_law_at", "_law_due_here", "_law_found"]
abbrev P_law : List Str := ["_law_script"]
theorem sc_law : FnScope N_law P_law (defScope s_law) := ⟨rfl, rfl, rfl, by decide +kernel, rfl, by decide +kernel, by decide +kernel⟩
local macro_rules | `(tactic| walk_at "hp") => `(tactic| first | assumption | exact upd_same | (rw [upd_ne (by assumption)]; walk_at "hp") | (rw [upd_ne (Ne.symm (by assumption))]; walk_at "hp"))
local macro_rules | `(tactic| walk_at "s") => `(tactic| first
  | ((with_reducible refine' r_var ?h ?k); (case h => exact rfl))
  | (with_reducible refine r_c ?_)
  | (with_reducible refine r_op ?_)
  | (with_reducible refine r_un ?_)
  | (with_reducible refine r_seq ?_)
  | (with_reducible refine r_next ?_)
  | (with_reducible refine r_sets ?_)
  | (with_reducible refine r_gname ?_)
  | (with_reducible refine r_ifS ?_)
  | (with_reducible refine r_gsub ?_)
  | (with_reducible refine r_test ?_)
  | (with_reducible refine r_tb ?_)
  | (with_reducible refine r_not ?_)
  | (with_reducible refine r_and ?_)
  | (with_reducible refine r_or ?_)
  | (with_reducible refine r_andV ?_)
  | (with_reducible refine r_orV ?_)
  | (with_reducible refine r_notV ?_)
  | (with_reducible refine r_ifE ?_)
  | (with_reducible refine r_chain ?_)
  | (with_reducible refine r_cb ?_)
  | (with_reducible refine r_cons ?_)
  | (with_reducible refine r_nil ?_)
  | (with_reducible refine r_call ?_)
  | (with_reducible refine r_lst ?_)
  | (with_reducible refine r_tup ?_)
  | (with_reducible refine r_slice ?_)
  | (with_reducible refine r_nop ?_)
  | (with_reducible refine r_part ?_)
  | (with_reducible refine r_bm ?_)
  | (with_reducible refine r_m1 ?_)
  | (with_reducible refine r_m0 ?_)
  | (with_reducible refine r_is ?_)
  | (with_reducible refine r_maxD ?_)
  | (with_reducible refine r_orT ?_)
  | (with_reducible refine r_truN ?_)
  | (with_reducible refine r_intI ?_)
  | (with_reducible refine r_intB ?_)
  | (with_reducible refine r_max2 ?_)
  | (with_reducible refine r_min2 ?_)
  | (with_reducible refine r_yes ?_)
  | (with_reducible refine r_bl ?_)
  | (with_reducible refine iteT ?_)
  | (with_reducible refine iteF ?_)
  | (with_reducible refine r_iteNT ?_)
  | (with_reducible refine r_iteNF ?_)
  | (with_reducible refine r_minL ?_)
  | (with_reducible refine r_gcons ?_)
  | (with_reducible refine r_gnil ?_)
  | (with_reducible refine r_par ?_)
  | (with_reducible refine r_par3 ?_)
  | (with_reducible refine r_is2 ?_)
  | (with_reducible refine r_is3 ?_)
  | (with_reducible refine r_dget ?_)
  | (with_reducible refine r_callS ?_)
  | (with_reducible refine r_rz ?_)
  | (with_reducible refine r_rev ?_)
  | (with_reducible refine r_isI ?_)
  | (with_reducible refine r_isStr ?_)
  | (with_reducible refine r_ret ?_)
  | (with_reducible refine r_drop ?_)
  | (with_reducible refine r_rI0 ?_)
  | (with_reducible refine r_addI ?_)
  | ((with_reducible show rI (fun _ j => 0 < j) _ (.int _) (.int _) _ _); refine r_rI (by first | omega | decide) ?_)
  | ((with_reducible show rI CDiv _ (.int _) (.int _) _ _); refine r_rI (by constructor <;> omega) ?_)
  | ((with_reducible show rI CPow _ (.int _) (.int _) _ _); refine r_rI (by refine ⟨by decide, by decide, ?_⟩; omega) ?_)
  | ((with_reducible show rMul (.int _) (.int _) _ _); refine r_mulI (cmulW (by omega) (by omega)) ?_)
  | (with_reducible refine r_cmpI ?_)
  | (with_reducible refine r_cmpS ?_)
  | (with_reducible refine r_eqI ?_)
  | (with_reducible refine r_neI ?_)
  | (with_reducible refine r_eqS ?_)
  | (with_reducible refine r_neS ?_)
  | (with_reducible refine r_inSF ?_)
  | (with_reducible refine r_inST ?_)
  | (with_reducible refine r_isiStr ?_)
  | ((with_reducible show rIx _ (.ref _) (.int _) _ _); refine' r_ixL (SqL.of ?h) ?e ?_; (case h => walk_at "hp"); (case e => rfl))
  | ((with_reducible show rSetL (.ref _) (.int _) _ _ _); refine' r_setL ?h ?e ?_; (case h => walk_at "hp"); (case e => rfl)))
local macro_rules | `(tactic| walk_at "g") => `(tactic| repeat walk_at "s")


structure Tx (K : PySem.W.Frag) (mg : Str → Option Value) : Prop where
  z_len : mg "len" = none
  z_all : mg "all" = none
  z_isinstance : mg "isinstance" = none
  z_str : mg "str" = none
  z_list : mg "list" = none
  z_tuple : mg "tuple" = none
  z_int : mg "int" = none
  z_min : mg "min" = none
  z_repr : mg "repr" = none
  z_max : mg "max" = none
  z_dict : mg "dict" = none
  z_range : mg "range" = none
  z_enumerate : mg "enumerate" = none
  c_MOST_SIGNS : ∃ t, mg "MOST_SIGNS" = some (.int 40 t)
  c_MOST_LINE : ∃ t, mg "MOST_LINE" = some (.int 2000 t)
  c_MOST_WORDS : ∃ t, mg "MOST_WORDS" = some (.int 40 t)
  c_PARTING : ∃ t, mg "PARTING" = some (.str " \n" t)
  c_QUOTES : ∃ a, mg "QUOTES" = some (.ref a) ∧ ∀ H, SqT K H a [.str "'", .str "\""]
section
variable {P : Program} {w : World} {K : PySem.W.Frag} {mg : Str → Option Value} {base : Heap}  -- own
theorem ok_are_signs (T : Tx K mg) {f : Addr} {fd : FuncData} (F : Fun K "are_signs" "are_signs" s_are_signs f fd) : FnOk P w K mg base CX0 1 f fd P_are_signs spSigns := by
  refine F.ok sc_are_signs (fun vs H Q E h => ?_) (fun cdv A outer s H vs Q E hr h => ?_)
  · obtain ⟨z, rfl, _⟩ := h
    rfl
  · obtain ⟨z, rfl, hz, k⟩ := h
    refine ⟨_, (pss_one (ps_ret (pe_and (pe_m0 PySem.F.slot_str_isascii PySem.F.type_str_isascii mA_isascii (pv 0)) (pe_one (pe_m0 PySem.F.slot_str_isprintable PySem.F.type_str_isprintable mA_isprintable (pv 0)))))), ?_⟩
    have k := k H (Same.refl H)
    rw [← ascii_sg] at k
    walk_at "g"
    refine r_ite (fun e => ?_) fun e => ?_
    · rw [e] at k
      walk_at "g"
      exact k
    · rw [e] at k
      exact k
theorem ok_refuse (T : Tx K mg) {CT : Addr} (O_TooMany : OL P w K mg base "TooMany" "many" CT) {f : Addr} {fd : FuncData} (F : Fun K "_refuse_too_many" "_refuse_too_many" s_refuse_too_many f fd) : FnOk P w K mg base (L2.CX P w) 4 f fd P_refuse_too_many (spRefuseY CT) := by
  refine F.okX sc_refuse_too_many (fun vs H Q E h => ?_) (fun cdv A outer s H vs Q E hr h => ?_)
  · obtain ⟨n, rfl, _⟩ := h
    rfl
  · obtain ⟨n, rfl, k, ke⟩ := h
    refine ⟨_, (pss_one (ps_if (pt_cmpR op_gtA (pv 0) (pe_gI T.c_MOST_WORDS rfl) (nomark _)) (pss_one (ps_rzL (K := K) (W := (fun cls d _ H' => E cls d H')) rfl rfl (takes_of rfl rfl rfl rfl) O_TooMany (hr.mono (by decide)) rfl (by exact (pa_cons (pv 0) pa_nil)))) pss_nil)), ?_⟩
    walk_at "g"
    refine r_iteD (fun c => ?_) fun c => ?_
    · walk_at "g"
      exact rz_oneL O_TooMany.T O_TooMany.nf (ke c)
    · walk_at "g"
      exact k (by omega)
theorem ok_is_line (T : Tx K mg) {f f_are_signs : Addr} {fd fd_are_signs : FuncData} (F : Fun K "is_line" "is_line" s_is_line f fd) (D_are_signs : DAt K mg "are_signs" s_are_signs P_are_signs f_are_signs fd_are_signs) : FnOk P w K mg base CX0 2 f fd P_is_line spIsLineX := by
  have G_are_signs : FnOk P w K mg base CX0 1 f_are_signs fd_are_signs P_are_signs spSigns := ok_are_signs T D_are_signs.fn
  refine F.ok sc_is_line (fun vs H Q E h => ?_) (fun cdv A outer s H vs Q E hr h => ?_)
  · obtain ⟨z, rfl, _⟩ := h
    rfl
  · obtain ⟨z, rfl, hz, k⟩ := h
    refine ⟨_, (pss_one (ps_ret (pe_and3 (pe_callB (L2.call_isi : CallR _ _ (rIsi K)) (by rfl) T.z_isinstance (by decide +kernel) (pa_cons (pv 0) (pa_cons (pe_bltn (v := .ty "str") (u := .type "str") rfl T.z_str (by decide +kernel) rfl) pa_nil))) (pe1_cmp op_leA (pe1_len rfl T.z_len (pv 0)) (pe_gI T.c_MOST_LINE rfl) (nomark _))
      (pet_call G_are_signs (hr.mono (by decide)) rfl D_are_signs.gl D_are_signs.fn.kp D_are_signs.bd .nil pass0 (pat_cons (CwR.pet_replC (pv 0)) pat_nil))))), ?_⟩
    walk_at "g"
    refine ⟨.str z, rfl, z, rfl, Nat.le_trans hz (by decide), ?_⟩
    walk_at "g"
    refine r_iteD (fun c => ?_) fun c => ?_
    · have c' : z.length ≤ 2000 := by omega
      walk_at "g"
      refine ⟨.str z, rfl, z, rfl, Nat.le_trans (show _ ≤ 2000 by show z.length + (z.length + 1) * 0 ≤ 2000; omega) (by decide), ?_⟩
      walk_at "g"
      refine ⟨_, rfl, ?_, fun H' s => ?_⟩
      · rw [len_cd, repl_nl]
        exact Nat.le_trans (List.length_filter_le ..) (by rw [← len_cd]; omega)
      · rw [repl_nl]
        have := k H' s
        rwa [decide_eq_true c', Bool.true_and] at this
    · have c' : ¬ z.length ≤ 2000 := by omega
      have := k H (Same.refl H)
      rwa [decide_eq_false c', Bool.false_and] at this
theorem ok_longer (T : Tx K mg) {CB : Addr} (O_BadSign : OE P w K mg base "BadSign" "at" CB) {f : Addr} {fd : FuncData} (F : Fun K "_longer" "_longer" s_longer f fd) : FnOk P w K mg base (L2.CX P w) 4 f fd P_longer (spLongerX CB) := by
  refine F.okX sc_longer (fun vs H Q E h => ?_) (fun cdv A outer s H vs Q E hr h => ?_)
  · obtain ⟨b, c, i, rfl, _⟩ := h
    rfl
  · obtain ⟨b, c, i, rfl, hl, k, ke⟩ := h
    refine ⟨_, (pss_cons (ps_set (i := 3) sc_longer.nd rfl (Or.inl rfl) (pe_op (oAdd : OpR _ _ (J.rAdd K)) (asOrT (K := K) rfl (pe_orT (pv 0) (pe_one pe_str))) (pv 1))) (pss_cons (ps_if (pt_cmpR op_gtA (pe_callB (call_lenA : CallR _ _ (rLen K)) (by rfl) T.z_len (by decide +kernel) (pa_cons (pv 3) pa_nil)) (pe_gI T.c_MOST_SIGNS rfl) (nomark _)) (pss_one (ps_rzK (K := K) (W := (fun cls d _ H' => E cls d H')) rfl rfl (takes_of rfl rfl rfl rfl) O_BadSign (hr.mono (by decide)) rfl (by exact (pa_cons (pv 2) pa_nil)))) pss_nil) (pss_one (ps_ret (pv 3))))), ?_⟩
    have fin : ∀ l : List Nat, l = b.getD [] ++ [c] → tSeq (tIfS (tTest (tOp (rCmp (fun i j => decide (j < i)) fun a b => decide (b < a)) (tCB (rLen K) (tCons (tVar 3) tNil)) (tC (.int 40)))) (tRz CB (spInit K "at") (tCons (tVar 2) tNil) fun cls d _ H' => E cls d H') tNext) (tRet (tVar 3)) { nx := fun _ H' => Q .non H', rt := Q } [some (obV b), some (.str ⟨#[c]⟩), some (.int i), some (.str (S l))] H := fun l hl' => by
      subst hl'
      have hl2 : (b.getD [] ++ [c]).length = (b.getD []).length + 1 := by simp
      walk_at "g"
      refine r_len (le_line (by rw [S_len, hl2]; omega)) ?_
      walk_at "g"
      refine r_iteD (fun c1 => ?_) fun c1 => ?_
      · walk_at "g"
        exact rz_one O_BadSign.T O_BadSign.nf (ke (by rw [S_len, hl2] at c1; omega))
      · walk_at "g"
        exact k (by rw [S_len, hl2] at c1; omega)
    refine r_seqJ (fun σ' H' => σ' = [some (obV b), some (.str ⟨#[c]⟩), some (.int i), some (.str (S (b.getD [] ++ [c])))] ∧ H' = H) (fun N hN => ?_) ?_
    · cases b with
      | none =>
        simp only [obV]
        walk_at "g"
        refine r_addS (a := "") (b := ⟨#[c]⟩) (le_line (show 0 + 1 ≤ 16777216 by decide)) ?_
        rw [S_nil_app]
        walk_at "g"
        exact hN _ _ ⟨rfl, rfl⟩
      | some l =>
        simp only [obV]
        walk_at "g"
        refine r_truS (Nat.le_trans (show _ ≤ 40 by rw [S_len]; exact hl) (by decide)) (fun e => ?_) fun _ => ?_
        · rw [S_len] at e
          obtain rfl := List.eq_nil_of_length_eq_zero e
          walk_at "g"
          refine r_addS (a := "") (b := ⟨#[c]⟩) (le_line (show 0 + 1 ≤ 16777216 by decide)) ?_
          rw [S_nil_app]
          walk_at "g"
          exact hN _ _ ⟨rfl, rfl⟩
        · walk_at "g"
          refine r_addS (a := S l) (b := ⟨#[c]⟩) (le_line (Nat.le_trans (show _ ≤ 40 + 1 by rw [S_len]; exact Nat.add_le_add_right hl 1) (by decide))) ?_
          rw [S_app_one]
          walk_at "g"
          exact hN _ _ ⟨rfl, rfl⟩
    rintro σ' H' ⟨rfl, rfl⟩
    exact fin _ rfl
end
end K09

namespace K09
open PySem PySem.Spec PyProof.Rows L2 J M
local macro_rules | `(tactic| walk_at "hp") => `(tactic| first | assumption | exact upd_same | (rw [upd_ne (by assumption)]; walk_at "hp") | (rw [upd_ne (Ne.symm (by assumption))]; walk_at "hp"))
local macro_rules | `(tactic| walk_at "s") => `(tactic| first
  | ((with_reducible refine' r_var ?h ?k); (case h => exact rfl))
  | (with_reducible refine r_c ?_)
  | (with_reducible refine r_op ?_)
  | (with_reducible refine r_un ?_)
  | (with_reducible refine r_seq ?_)
  | (with_reducible refine r_next ?_)
  | (with_reducible refine r_sets ?_)
  | (with_reducible refine r_gname ?_)
  | (with_reducible refine r_ifS ?_)
  | (with_reducible refine r_gsub ?_)
  | (with_reducible refine r_test ?_)
  | (with_reducible refine r_tb ?_)
  | (with_reducible refine r_not ?_)
  | (with_reducible refine r_and ?_)
  | (with_reducible refine r_or ?_)
  | (with_reducible refine r_andV ?_)
  | (with_reducible refine r_orV ?_)
  | (with_reducible refine r_notV ?_)
  | (with_reducible refine r_ifE ?_)
  | (with_reducible refine r_chain ?_)
  | (with_reducible refine r_cb ?_)
  | (with_reducible refine r_cons ?_)
  | (with_reducible refine r_nil ?_)
  | (with_reducible refine r_call ?_)
  | (with_reducible refine r_lst ?_)
  | (with_reducible refine r_tup ?_)
  | (with_reducible refine r_slice ?_)
  | (with_reducible refine r_nop ?_)
  | (with_reducible refine r_part ?_)
  | (with_reducible refine r_bm ?_)
  | (with_reducible refine r_m1 ?_)
  | (with_reducible refine r_m0 ?_)
  | (with_reducible refine r_is ?_)
  | (with_reducible refine r_maxD ?_)
  | (with_reducible refine r_orT ?_)
  | (with_reducible refine r_truN ?_)
  | (with_reducible refine r_intI ?_)
  | (with_reducible refine r_intB ?_)
  | (with_reducible refine r_max2 ?_)
  | (with_reducible refine r_min2 ?_)
  | (with_reducible refine r_yes ?_)
  | (with_reducible refine r_bl ?_)
  | (with_reducible refine iteT ?_)
  | (with_reducible refine iteF ?_)
  | (with_reducible refine r_iteNT ?_)
  | (with_reducible refine r_iteNF ?_)
  | (with_reducible refine r_minL ?_)
  | (with_reducible refine r_gcons ?_)
  | (with_reducible refine r_gnil ?_)
  | (with_reducible refine r_par ?_)
  | (with_reducible refine r_par3 ?_)
  | (with_reducible refine r_is2 ?_)
  | (with_reducible refine r_is3 ?_)
  | (with_reducible refine r_dget ?_)
  | (with_reducible refine r_callS ?_)
  | (with_reducible refine r_rz ?_)
  | (with_reducible refine r_rev ?_)
  | (with_reducible refine r_isI ?_)
  | (with_reducible refine r_isStr ?_)
  | (with_reducible refine r_ret ?_)
  | (with_reducible refine r_drop ?_)
  | (with_reducible refine r_rI0 ?_)
  | (with_reducible refine r_addI ?_)
  | ((with_reducible show rI (fun _ j => 0 < j) _ (.int _) (.int _) _ _); refine r_rI (by first | omega | decide) ?_)
  | ((with_reducible show rI CDiv _ (.int _) (.int _) _ _); refine r_rI (by constructor <;> omega) ?_)
  | ((with_reducible show rI CPow _ (.int _) (.int _) _ _); refine r_rI (by refine ⟨by decide, by decide, ?_⟩; omega) ?_)
  | ((with_reducible show rMul (.int _) (.int _) _ _); refine r_mulI (cmulW (by omega) (by omega)) ?_)
  | (with_reducible refine r_cmpI ?_)
  | (with_reducible refine r_cmpS ?_)
  | (with_reducible refine r_eqI ?_)
  | (with_reducible refine r_neI ?_)
  | (with_reducible refine r_eqS ?_)
  | (with_reducible refine r_neS ?_)
  | (with_reducible refine r_inSF ?_)
  | (with_reducible refine r_inST ?_)
  | (with_reducible refine r_isiStr ?_)
  | ((with_reducible show rIx _ (.ref _) (.int _) _ _); refine' r_ixL (SqL.of ?h) ?e ?_; (case h => walk_at "hp"); (case e => rfl))
  | ((with_reducible show rSetL (.ref _) (.int _) _ _ _); refine' r_setL ?h ?e ?_; (case h => walk_at "hp"); (case e => rfl)))
local macro_rules | `(tactic| walk_at "g") => `(tactic| repeat walk_at "s")


local macro_rules | `(tactic| walk_at "x") => `(tactic| first | omega | (simp only [one_nl, one_bs, one_q1, one_q2, qS_nil, qS_q1, one_qS, mem_part, mem_qs, mem_all]; omega))
local macro_rules | `(tactic| walk_at "d") => `(tactic| first
  | (with_reducible refine iteDT (by walk_at "x") ?_)
  | (with_reducible refine iteDF (by walk_at "x") ?_)
  | (with_reducible refine iteNT (by walk_at "x") ?_)
  | (with_reducible refine iteNF (by walk_at "x") ?_))
local macro_rules | `(tactic| walk_at "G") => `(tactic| repeat (first | walk_at "s" | walk_at "d"))
section
variable {P : Program} {w : World} {K : PySem.W.Frag} {mg : Str → Option Value} {base : Heap}  -- own
theorem ok_scanned (T : Tx K mg) {CB : Addr} (O_BadSign : OE P w K mg base "BadSign" "at" CB) {f f_is_line f_are_signs f_longer : Addr} {fd fd_is_line fd_are_signs fd_longer : FuncData} (F : Fun K "_scanned" "_scanned" s_scanned f fd)
    (D_is_line : DAt K mg "is_line" s_is_line P_is_line f_is_line fd_is_line) (D_are_signs : DAt K mg "are_signs" s_are_signs P_are_signs f_are_signs fd_are_signs) (D_longer : DAt K mg "_longer" s_longer P_longer f_longer fd_longer) : FnOk P w K mg base (L2.CX P w) 5 f fd P_scanned (spScannedX CB) := by
  have G_is_line : FnOk P w K mg base CX0 2 f_is_line fd_is_line P_is_line spIsLineX := ok_is_line T D_is_line.fn D_are_signs
  have G_longer : FnOk P w K mg base (L2.CX P w) 4 f_longer fd_longer P_longer (spLongerX CB) := ok_longer T O_BadSign D_longer.fn
  obtain ⟨qa, hqa, sqa⟩ := T.c_QUOTES
  refine F.okX sc_scanned (fun vs H Q E h => ?_) (fun cdv A outer s H vs Q E hr h => ?_)
  · obtain ⟨z, rfl, _⟩ := h
    rfl
  · obtain ⟨z, rfl, hz, ke, kt, k⟩ := h
    refine ⟨_, (pss_cons (ps_if (pt_not (pt_val (pe_call G_is_line (hr.mono (by decide)) rfl D_is_line.gl D_is_line.fn.kp D_is_line.bd .nil pass0 (pa_cons (pv 0) pa_nil)))) (pss_one ps_never) pss_nil) (pss_cons (ps_asg (pe_tup (pa_cons (pe_lst pa_nil) (pa_cons pe_non (pa_cons pe_str (pa_cons pe_int (pa_cons pe_bl pa_nil)))))) (asGTup (K := K) rfl (pg_tup rfl (pgs_cons (pg_name (i := 1) sc_scanned.nd rfl (Or.inl rfl)) (pgs_cons (pg_name (i := 2) sc_scanned.nd rfl (Or.inl rfl)) (pgs_cons (pg_name (i := 3) sc_scanned.nd rfl (Or.inl rfl)) (pgs_cons (pg_name (i := 4) sc_scanned.nd rfl (Or.inl rfl)) (pgs_cons (pg_name (i := 5) sc_scanned.nd rfl (Or.inl rfl)) pgs_nil)))))))) (pss_cons (ps_for (passes_of rfl) rfl (pi_enumS rfl T.z_enumerate (pa_cons (pv 0) pa_nil)) (asGTup (K := K) rfl (pg_tup rfl (pgs_cons (pg_name (i := 6) sc_scanned.nd rfl (Or.inl rfl)) (pgs_cons (pg_name (i := 7) sc_scanned.nd rfl (Or.inl rfl)) pgs_nil)))) (pss_cons (ps_if (PW.pt (pw_and (pt_cmpR ((op_eqA hr.units) : OpR _ _ (rEqA K)) (pv 7) pe_str (nomark _)) (pw_and1 (PW.pt (pw_or (pt_val (pv 5)) (pw_or1 (pt_cmpR ((op_neA hr.units) : OpR _ _ (rNeA K)) (pv 3) pe_str (nomark _)))))))) (pss_one (ps_rzK (K := K) (W := (fun cls d _ H' => E cls d H')) rfl rfl (takes_of rfl rfl rfl rfl) O_BadSign (hr.mono (by decide)) rfl (by exact (pa_cons (pv 6) pa_nil)))) pss_nil) (pss_one (ps_if (pt_val (pv 5)) (pss_one (ps_par (i := 2) (j := 5) rfl sc_scanned.nd rfl rfl (by decide) rfl rfl (pa_cons (pe_callS (E := WE (fun cls d _ H' => E cls d H')) G_longer (hr.mono (by decide)) rfl D_longer.gl D_longer.fn.kp D_longer.bd (fun σ => passAt (takes_of rfl rfl rfl rfl) σ) (by exact (pa_cons (pv 2) (pa_cons (pv 7) (pa_cons (pv 6) pa_nil))))) (pa_cons pe_bl pa_nil)) rfl)) (pss_one (ps_if (PW.pt (pw_and (pt_cmpR ((op_eqA hr.units) : OpR _ _ (rEqA K)) (pv 7) pe_str (nomark _)) (pw_and1 (pt_cmpR ((op_neA hr.units) : OpR _ _ (rNeA K)) (pv 3) pe_str (nomark _))))) (pss_one (ps_set (i := 5) sc_scanned.nd rfl (Or.inl rfl) pe_bl)) (pss_one (ps_if (pt_cmpR ((op_eqA hr.units) : OpR _ _ (rEqA K)) (pv 7) (pv 3) (nomark _)) (pss_one (ps_set (i := 3) sc_scanned.nd rfl (Or.inl rfl) pe_str)) (pss_one (ps_if (PW.pt (pw_and (pt_cmpR ((op_eqA hr.units) : OpR _ _ (rEqA K)) (pv 3) pe_str (nomark _)) (pw_and1 (pt_cmpR (op_inA : OpR _ _ (rInA K false)) (pv 7) (pe_gR hqa rfl) (by rfl))))) (pss_one (ps_par3 (i := 2) (j := 3) (l := 4) rfl sc_scanned.nd rfl rfl rfl (by decide) (by decide) (by decide) rfl rfl rfl (pa_cons (asOrT (K := K) rfl (pe_orT (pv 2) (pe_one pe_str))) (pa_cons (pv 7) (pa_cons (pv 6) pa_nil))) rfl)) (pss_one (ps_if (PW.pt (pw_and (pt_cmpR ((op_eqA hr.units) : OpR _ _ (rEqA K)) (pv 3) pe_str (nomark _)) (pw_and1 (pt_cmpR (op_inA : OpR _ _ (rInA K false)) (pv 7) (pe_gS T.c_PARTING rfl) (by rfl))))) (pss_cons (ps_if (pt_cmpR L2.op_notN (pv 2) pe_non (nomark _)) (pss_one (ps_expr (asBM (K := K) rfl (pe_bm PySem.F.plainAttrs_list PySem.F.slot_list_append PySem.F.type_list_append mt_append (pv 1) (pa_cons (pv 2) pa_nil))))) pss_nil) (pss_one (ps_set (i := 2) sc_scanned.nd rfl (Or.inl rfl) pe_non))) (pss_one (ps_set (i := 2) sc_scanned.nd rfl (Or.inl rfl) (pe_callS (E := WE (fun cls d _ H' => E cls d H')) G_longer (hr.mono (by decide)) rfl D_longer.gl D_longer.fn.kp D_longer.bd (fun σ => passAt (takes_of rfl rfl rfl rfl) σ) (by exact (pa_cons (pv 2) (pa_cons (pv 7) (pa_cons (pv 6) pa_nil))))))))))))))))))) (pss_cons (ps_if (pt_val (pv 5)) (pss_one (ps_rzK (K := K) (W := (fun cls d _ H' => E cls d H')) rfl rfl (takes_of rfl rfl rfl rfl) O_BadSign (hr.mono (by decide)) rfl (by exact (pa_cons (pe_op L2.op_sub (pe_callB (call_lenA : CallR _ _ (rLen K)) (by rfl) T.z_len (by decide +kernel) (pa_cons (pv 0) pa_nil)) pe_int) pa_nil)))) pss_nil) (pss_one (ps_ret (pe_tup (pa_cons (pv 1) (pa_cons (pv 2) (pa_cons (pv 3) (pa_cons (pv 4) pa_nil))))))))))), ?_⟩
    walk_at "g"
    refine ⟨z, rfl, by rw [len_cd]; exact Nat.le_trans hz.1 (by decide), fun H1 s1 => ?_⟩
    rw [lf_line hz]
    walk_at "g"
    refine ⟨by decide, fun p hp => ?_⟩
    walk_at "g"
    refine ⟨show 5 ≤ sizeLine by decide, fun p2 hp2 => ?_⟩
    have n2 : p ≠ p2 := (new_ne hp2 upd_same).symm
    refine r_gtup (SqT.of upd_same) rfl ?_
    walk_at "g"
    have hn : H p = none := s1.none hp
    refine r_forEnum (z := z) rfl (fun j σ' H' => ∃ (u : Sc) (x y : Option V), scan stP 0 sc0 ((cd z).take j) = .ok u ∧ σ' = [some (.str z), some (.ref p), some (obV u.bg), some (.str (qS u.qt)), some (.int u.op), some (.bl u.tk), x, y] ∧
      Same H H' ∧ H' p = some (.lst (u.ws.map wV)) ∧ u.ws.length ≤ j) ?_ ?_ ?_
    · exact ⟨sc0, _, _, rfl, rfl, ((s1.trans ((Same.refl H1).at hp _)).new hp2 _), by rw [upd_ne n2, upd_same]; rfl, Nat.le_refl _⟩
    · rintro j σ1 H2 A1 c hc ⟨⟨ws, bg, qt, op, tk1⟩, x, y, hsc, rfl, s2, h2, hl⟩ hA
      have c0 := hz.2 c (List.mem_of_getElem? hc)
      have nA : p ≠ A1 := (new_ne hA h2).symm
      have s3 := s2.new hA (HO.tup [.int (j : Nat), .str ⟨#[c]⟩])
      have h3 : upd H2 A1 (HO.tup [.int (j : Nat), .str ⟨#[c]⟩]) p = some (.lst (ws.map wV)) := by rw [upd_ne nA]; exact h2
      have hA3 : upd H2 A1 (HO.tup [.int (j : Nat), .str ⟨#[c]⟩]) A1 = some (HO.tup [.int (j : Nat), .str ⟨#[c]⟩]) := upd_same
      generalize upd H2 A1 (HO.tup [.int (j : Nat), .str ⟨#[c]⟩]) = H3 at s3 h3 hA3 ⊢
      refine r_gtup (SqT.of hA3) rfl ?_
      have j1 : ws.length ≤ j := hl
      have j0 : j ≤ 2000 := Nat.le_trans (Nat.le_of_lt (List.getElem?_eq_some_iff.mp hc).1) hz.1
      have bgl : (bg.getD []).length ≤ 40 := scan_bg hsc
      have e0 := scan_take_succ hc hsc
      have nxt : ∀ v, stP ⟨ws, bg, qt, op, tk1⟩ j c = .ok v → scan stP 0 sc0 ((cd z).take (j + 1)) = .ok v := fun v h => e0.trans h
      have err : ∀ e, stP ⟨ws, bg, qt, op, tk1⟩ j c = .error e → Err CB "at" (.int (e : Nat)) H3 E := fun e h => (ke e (scan_take_err (e0.trans h))).at s3
      simp only [stP] at nxt err
      walk_at "s"
      walk_at "s"
      walk_at "s"
      walk_at "s"
      walk_at "s"
      refine r_seqJ (fun σ' H' => σ' = [some (.str z), some (.ref p), some (obV bg), some (.str (qS qt)), some (.int op), some (.bl tk1), some (.int j), some (.str ⟨#[c]⟩)] ∧ H' = H3 ∧ ¬ (c = 10 ∧ (tk1 = true ∨ qt ≠ 0))) (fun N hN => ?_) ?_
      · by_cases cN : c = 10 ∧ (tk1 = true ∨ qt ≠ 0)
        · rw [if_pos cN] at err
          have er := err _ rfl
          cases tk1 with
          | true =>
            walk_at "G"
            exact rz_one O_BadSign.T O_BadSign.nf er
          | false =>
            have q0 : qt ≠ 0 := cN.2.resolve_left (fun h => by cases h)
            walk_at "G"
            exact rz_one O_BadSign.T O_BadSign.nf er
        · by_cases c10 : c = 10
          · cases tk1 with
            | true => exact absurd ⟨c10, .inl rfl⟩ cN
            | false =>
              have q0 : qt = 0 := Classical.byContradiction fun h => cN ⟨c10, .inr h⟩
              walk_at "G"
              exact hN _ _ ⟨rfl, rfl, cN⟩
          · walk_at "G"
            exact hN _ _ ⟨rfl, rfl, cN⟩
      rintro σ3 H4 ⟨rfl, rfl, cN⟩
      rw [if_neg cN] at nxt err
      have leaf : ∀ v : Sc, scan stP 0 sc0 ((cd z).take (j + 1)) = .ok v → v.ws = ws → ∀ x y : Option V, ∃ (u : Sc) (x' y' : Option V), scan stP 0 sc0 ((cd z).take (j + 1)) = .ok u ∧ [some (V.str z), some (.ref p), some (obV v.bg), some (.str (qS v.qt)), some (.int v.op), some (.bl v.tk), x, y] = [some (.str z), some (.ref p), some (obV u.bg), some (.str (qS u.qt)), some (.int u.op), some (.bl u.tk), x', y'] ∧ Same H H4 ∧ H4 p = some (.lst (u.ws.map wV)) ∧ u.ws.length ≤ j + 1 :=
        fun v hv hw x y => ⟨v, x, y, hv, rfl, s3, by rw [hw]; exact h3, by rw [hw]; exact Nat.le_succ_of_le j1⟩
      have ll : (bg.getD [] ++ [c]).length = (bg.getD []).length + 1 := by simp
      cases tk1 with
      | true =>
        rw [if_pos rfl] at nxt err
        walk_at "G"
        refine ⟨bg, c, j, rfl, bgl, fun lb => ?_, fun lb => ?_⟩
        · rw [if_neg (by omega)] at nxt
          walk_at "G"
          exact leaf _ (nxt _ rfl) rfl _ _
        · rw [if_pos (by omega)] at err
          exact err _ rfl
      | false =>
        rw [if_neg Bool.false_ne_true] at nxt err
        by_cases cA : c = 92 ∧ qt ≠ 39
        · rw [if_pos cA] at nxt
          walk_at "G"
          exact leaf _ (nxt _ rfl) rfl _ _
        rw [if_neg cA] at nxt err
        by_cases cB : c = qt
        · rw [if_pos cB] at nxt
          by_cases c92 : c = 92
          · omega
          walk_at "G"
          exact leaf _ (nxt _ rfl) rfl _ _
        rw [if_neg cB] at nxt err
        by_cases cC : qt = 0 ∧ (c = 39 ∨ c = 34)
        · rw [if_pos cC] at nxt
          by_cases c92 : c = 92
          · omega
          walk_at "G"
          refine r_inQ (sqa _) ?_
          walk_at "G"
          have e0 : qS c = ⟨#[c]⟩ := by rw [eq_comm, one_qS]; omega
          have lf := leaf _ (nxt _ rfl) rfl (some (.int j)) (some (.str ⟨#[c]⟩))
          simp only [e0] at lf
          cases bg with
          | none =>
            simp only [obV]
            walk_at "G"
            exact lf
          | some l =>
            simp only [obV]
            refine r_truS (Nat.le_trans (show _ ≤ 40 by rw [S_len]; exact bgl) (by decide)) (fun e => ?_) fun _ => ?_
            · rw [S_len] at e
              obtain rfl := List.eq_nil_of_length_eq_zero e
              walk_at "G"
              exact lf
            · walk_at "G"
              exact lf
        rw [if_neg cC] at nxt err
        by_cases cD : qt = 0 ∧ (c = 32 ∨ c = 10)
        · rw [if_pos cD] at nxt
          by_cases c92 : c = 92
          · omega
          walk_at "G"
          refine r_inQ (sqa _) ?_
          walk_at "G"
          refine ⟨rfl, ?_⟩
          walk_at "G"
          cases bg with
          | none =>
            refine iteNF rfl ?_
            walk_at "G"
            exact leaf _ (nxt _ rfl) rfl _ _
          | some l =>
            refine iteNT (fun e => by cases e) ?_
            walk_at "G"
            refine r_tyL h3 ?_
            walk_at "G"
            refine r_app h3 (by rw [List.length_map]; exact Nat.lt_of_le_of_lt j1 (Nat.lt_of_le_of_lt j0 (by decide))) ?_
            walk_at "G"
            exact ⟨_, _, _, nxt _ rfl, rfl, s3.at hn _, by rw [upd_same, List.map_append]; rfl, by rw [List.length_append]; exact Nat.succ_le_succ j1⟩
        rw [if_neg cD] at nxt err
        by_cases c92 : c = 92
        · walk_at "G"
          refine ⟨bg, c, j, rfl, bgl, fun lb => ?_, fun lb => ?_⟩
          · rw [if_neg (by omega)] at nxt
            walk_at "G"
            exact leaf _ (nxt _ rfl) rfl _ _
          · rw [if_pos (by omega)] at err
            exact err _ rfl
        · by_cases q0 : qt = 0
          · walk_at "G"
            refine r_inQ (sqa _) ?_
            walk_at "G"
            refine ⟨bg, c, j, rfl, bgl, fun lb => ?_, fun lb => ?_⟩
            · rw [if_neg (by omega)] at nxt
              walk_at "G"
              exact leaf _ (nxt _ rfl) rfl _ _
            · rw [if_pos (by omega)] at err
              exact err _ rfl
          · walk_at "G"
            refine ⟨bg, c, j, rfl, bgl, fun lb => ?_, fun lb => ?_⟩
            · rw [if_neg (by omega)] at nxt
              walk_at "G"
              exact leaf _ (nxt _ rfl) rfl _ _
            · rw [if_pos (by omega)] at err
              exact err _ rfl
    · rintro σ1 H2 ⟨u, x, y, hsc, rfl, s2, h2, hl⟩
      rw [List.take_length] at hsc
      obtain ⟨ws, bg, qt, op, tk1⟩ := u
      cases tk1 with
      | true =>
        walk_at "G"
        refine r_len (by rw [len_cd]; exact Nat.le_trans hz.1 (by decide)) ?_
        rw [len_cd]
        walk_at "G"
        exact rz_one O_BadSign.T O_BadSign.nf ((kt _ hsc rfl).at s2)
      | false =>
        walk_at "G"
        refine ⟨show 4 ≤ sizeLine by decide, fun p3 hp3 => ?_⟩
        walk_at "G"
        have n3 : p ≠ p3 := (new_ne hp3 h2).symm
        exact k _ hsc rfl p3 p _ (s2.none hp3) hn (s2.new hp3 _) upd_same (by rw [upd_ne n3]; exact h2) n3.symm
end
end K09

namespace K09
open PySem PySem.Spec PyProof.Rows L2 J M
local macro_rules | `(tactic| walk_at "hp") => `(tactic| first | assumption | exact upd_same | (rw [upd_ne (by assumption)]; walk_at "hp") | (rw [upd_ne (Ne.symm (by assumption))]; walk_at "hp"))
local macro_rules | `(tactic| walk_at "s") => `(tactic| first
  | ((with_reducible refine' r_var ?h ?k); (case h => exact rfl))
  | (with_reducible refine r_c ?_)
  | (with_reducible refine r_op ?_)
  | (with_reducible refine r_un ?_)
  | (with_reducible refine r_seq ?_)
  | (with_reducible refine r_next ?_)
  | (with_reducible refine r_sets ?_)
  | (with_reducible refine r_gname ?_)
  | (with_reducible refine r_ifS ?_)
  | (with_reducible refine r_gsub ?_)
  | (with_reducible refine r_test ?_)
  | (with_reducible refine r_tb ?_)
  | (with_reducible refine r_not ?_)
  | (with_reducible refine r_and ?_)
  | (with_reducible refine r_or ?_)
  | (with_reducible refine r_andV ?_)
  | (with_reducible refine r_orV ?_)
  | (with_reducible refine r_notV ?_)
  | (with_reducible refine r_ifE ?_)
  | (with_reducible refine r_chain ?_)
  | (with_reducible refine r_cb ?_)
  | (with_reducible refine r_cons ?_)
  | (with_reducible refine r_nil ?_)
  | (with_reducible refine r_call ?_)
  | (with_reducible refine r_lst ?_)
  | (with_reducible refine r_tup ?_)
  | (with_reducible refine r_slice ?_)
  | (with_reducible refine r_nop ?_)
  | (with_reducible refine r_part ?_)
  | (with_reducible refine r_bm ?_)
  | (with_reducible refine r_m1 ?_)
  | (with_reducible refine r_m0 ?_)
  | (with_reducible refine r_is ?_)
  | (with_reducible refine r_maxD ?_)
  | (with_reducible refine r_orT ?_)
  | (with_reducible refine r_truN ?_)
  | (with_reducible refine r_intI ?_)
  | (with_reducible refine r_intB ?_)
  | (with_reducible refine r_max2 ?_)
  | (with_reducible refine r_min2 ?_)
  | (with_reducible refine r_yes ?_)
  | (with_reducible refine r_bl ?_)
  | (with_reducible refine iteT ?_)
  | (with_reducible refine iteF ?_)
  | (with_reducible refine r_iteNT ?_)
  | (with_reducible refine r_iteNF ?_)
  | (with_reducible refine r_minL ?_)
  | (with_reducible refine r_gcons ?_)
  | (with_reducible refine r_gnil ?_)
  | (with_reducible refine r_par ?_)
  | (with_reducible refine r_par3 ?_)
  | (with_reducible refine r_is2 ?_)
  | (with_reducible refine r_is3 ?_)
  | (with_reducible refine r_dget ?_)
  | (with_reducible refine r_callS ?_)
  | (with_reducible refine r_rz ?_)
  | (with_reducible refine r_rev ?_)
  | (with_reducible refine r_isI ?_)
  | (with_reducible refine r_isStr ?_)
  | (with_reducible refine r_ret ?_)
  | (with_reducible refine r_drop ?_)
  | (with_reducible refine r_rI0 ?_)
  | (with_reducible refine r_addI ?_)
  | ((with_reducible show rI (fun _ j => 0 < j) _ (.int _) (.int _) _ _); refine r_rI (by first | omega | decide) ?_)
  | ((with_reducible show rI CDiv _ (.int _) (.int _) _ _); refine r_rI (by constructor <;> omega) ?_)
  | ((with_reducible show rI CPow _ (.int _) (.int _) _ _); refine r_rI (by refine ⟨by decide, by decide, ?_⟩; omega) ?_)
  | ((with_reducible show rMul (.int _) (.int _) _ _); refine r_mulI (cmulW (by omega) (by omega)) ?_)
  | (with_reducible refine r_cmpI ?_)
  | (with_reducible refine r_cmpS ?_)
  | (with_reducible refine r_eqI ?_)
  | (with_reducible refine r_neI ?_)
  | (with_reducible refine r_eqS ?_)
  | (with_reducible refine r_neS ?_)
  | (with_reducible refine r_inSF ?_)
  | (with_reducible refine r_inST ?_)
  | (with_reducible refine r_isiStr ?_)
  | ((with_reducible show rIx _ (.ref _) (.int _) _ _); refine' r_ixL (SqL.of ?h) ?e ?_; (case h => walk_at "hp"); (case e => rfl))
  | ((with_reducible show rSetL (.ref _) (.int _) _ _ _); refine' r_setL ?h ?e ?_; (case h => walk_at "hp"); (case e => rfl)))
local macro_rules | `(tactic| walk_at "g") => `(tactic| repeat walk_at "s")


local macro_rules | `(tactic| walk_at "x") => `(tactic| first | omega | (simp only [one_nl, one_bs, one_q1, one_q2, qS_nil, qS_q1, one_qS, mem_part, mem_qs, mem_all]; omega))
local macro_rules | `(tactic| walk_at "d") => `(tactic| first
  | (with_reducible refine iteDT (by walk_at "x") ?_)
  | (with_reducible refine iteDF (by walk_at "x") ?_)
  | (with_reducible refine iteNT (by walk_at "x") ?_)
  | (with_reducible refine iteNF (by walk_at "x") ?_))
local macro_rules | `(tactic| walk_at "G") => `(tactic| repeat (first | walk_at "s" | walk_at "d"))
section
variable {P : Program} {w : World} {K : PySem.W.Frag} {mg : Str → Option Value} {base : Heap}  -- own
theorem ok_state_of (T : Tx K mg) {CB CT : Addr} (O_BadSign : OE P w K mg base "BadSign" "at" CB) (O_TooMany : OL P w K mg base "TooMany" "many" CT) {f f_scanned f_refuse_too_many f_is_line f_are_signs f_longer : Addr} {fd fd_scanned fd_refuse_too_many fd_is_line fd_are_signs fd_longer : FuncData} (F : Fun K "state_of" "state_of" s_state_of f fd)
    (D_scanned : DAt K mg "_scanned" s_scanned P_scanned f_scanned fd_scanned) (D_refuse_too_many : DAt K mg "_refuse_too_many" s_refuse_too_many P_refuse_too_many f_refuse_too_many fd_refuse_too_many)
    (D_is_line : DAt K mg "is_line" s_is_line P_is_line f_is_line fd_is_line) (D_are_signs : DAt K mg "are_signs" s_are_signs P_are_signs f_are_signs fd_are_signs) (D_longer : DAt K mg "_longer" s_longer P_longer f_longer fd_longer) : FnOk P w K mg base (L2.CX P w) 6 f fd P_state_of (spStateOf CB CT) := by
  have G_scanned : FnOk P w K mg base (L2.CX P w) 5 f_scanned fd_scanned P_scanned (spScannedX CB) := ok_scanned T O_BadSign D_scanned.fn D_is_line D_are_signs D_longer
  have G_refuse_too_many : FnOk P w K mg base (L2.CX P w) 4 f_refuse_too_many fd_refuse_too_many P_refuse_too_many (spRefuseY CT) := ok_refuse T O_TooMany D_refuse_too_many.fn
  refine F.okX sc_state_of (fun vs H Q E h => ?_) (fun cdv A outer s H vs Q E hr h => ?_)
  · obtain ⟨z, rfl, _⟩ := h
    rfl
  · obtain ⟨z, rfl, hz, ke, km, k⟩ := h
    refine ⟨_, (pss_cons (ps_asg (pe_callS (E := WE (fun cls d _ H' => E cls d H')) G_scanned (hr.mono (by decide)) rfl D_scanned.gl D_scanned.fn.kp D_scanned.bd (fun σ => passAt (takes_of rfl rfl rfl rfl) σ) (by exact (pa_cons (pv 0) pa_nil))) (asGTup (K := K) rfl (pg_tup rfl (pgs_cons (pg_name (i := 1) sc_state_of.nd rfl (Or.inl rfl)) (pgs_cons (pg_name (i := 2) sc_state_of.nd rfl (Or.inl rfl)) (pgs_cons (pg_name (i := 3) sc_state_of.nd rfl (Or.inl rfl)) (pgs_cons (pg_name (i := 4) sc_state_of.nd rfl (Or.inl rfl)) pgs_nil))))))) (pss_cons (ps_expr (pe_callS (E := WE (fun cls d _ H' => E cls d H')) G_refuse_too_many (hr.mono (by decide)) rfl D_refuse_too_many.gl D_refuse_too_many.fn.kp D_refuse_too_many.bd (fun σ => passAt (takes_of rfl rfl rfl rfl) σ) (by exact (pa_cons (pe_ifExp (pt_cmpR L2.op_isN (pv 2) pe_non (nomark _)) (pe_callB (call_lenA : CallR _ _ (rLen K)) (by rfl) T.z_len (by decide +kernel) (pa_cons (pv 1) pa_nil)) (pe_op (oAdd : OpR _ _ (J.rAdd K)) (pe_callB (call_lenA : CallR _ _ (rLen K)) (by rfl) T.z_len (by decide +kernel) (pa_cons (pv 1) pa_nil)) pe_int)) pa_nil)))) (pss_one (ps_ret (pe_tup (pa_cons (pv 1) (pa_cons (pv 2) (pa_cons (pv 3) pa_nil)))))))), ?_⟩
    walk_at "G"
    refine ⟨z, rfl, hz, fun e h => ke e (by unfold stR; rw [h]), fun t h htk => ?_, fun t ht tk p wd H1 hp hw s1 h1 h2 n => ?_⟩
    · have hne : cd z ≠ [] := fun e => by rw [e] at h; cases h; cases htk
      have := ke ((cd z).length - 1) (by unfold stR; rw [h]; exact if_pos htk)
      have hl : 0 < (cd z).length := List.length_pos_iff.mpr hne
      rw [show (((cd z).length - 1 : Nat) : Int) = (((cd z).length : Nat) : Int) - 1 by omega] at this
      exact this
    have cr : stR stP (cd z) = .ok t := by unfold stR; rw [ht]; simp only [tk]; rfl
    have tw : t.ws.length ≤ 2000 := Nat.le_trans (scan_ws ht) hz.1
    have km := km _ cr
    have k := k _ cr
    refine r_gtup (SqT.of h1) rfl ?_
    have eq : qV t.qt = .str (qS t.qt) := rfl
    rw [eq]
    obtain ⟨ws, bg, qt, op, tk1⟩ := t
    walk_at "G"
    refine ⟨rfl, ?_⟩
    walk_at "G"
    cases bg with
    | none =>
      have e : J.cnt ⟨ws, none, qt, op, tk1⟩ = ws.length := rfl
      rw [e] at km k
      refine iteDT rfl ?_
      walk_at "G"
      refine r_lenL (SqL.of h2) ?_
      rw [List.length_map]
      refine ⟨_, rfl, fun c => ?_, fun c => (km (by have c : (40 : Int) < (ws.length : Nat) := c; omega)).at s1⟩
      have c : ((ws.length : Nat) : Int) ≤ 40 := c
      walk_at "G"
      refine ⟨show 3 ≤ sizeLine by decide, fun p3 hp3 => ?_⟩
      exact k (by omega) p3 wd _ (s1.none hp3) hw (s1.new hp3 _) upd_same (by rw [upd_ne (new_ne hp3 h2).symm]; exact h2) (new_ne hp3 h2).symm
    | some l =>
      have e : J.cnt ⟨ws, some l, qt, op, tk1⟩ = ws.length + 1 := rfl
      rw [e] at km k
      refine iteDF (fun e => by cases e) ?_
      walk_at "G"
      refine r_lenL (SqL.of h2) ?_
      rw [List.length_map]
      walk_at "G"
      have e1 : ((ws.length : Nat) : Int) + 1 = ((ws.length + 1 : Nat) : Int) := rfl
      refine ⟨_, rfl, fun c => ?_, fun c => ?_⟩
      · have c : ((ws.length : Nat) : Int) + 1 ≤ 40 := c
        walk_at "G"
        refine ⟨show 3 ≤ sizeLine by decide, fun p3 hp3 => ?_⟩
        exact k (by omega) p3 wd _ (s1.none hp3) hw (s1.new hp3 _) upd_same (by rw [upd_ne (new_ne hp3 h2).symm]; exact h2) (new_ne hp3 h2).symm
      · have c : (40 : Int) < ((ws.length : Nat) : Int) + 1 := c
        exact (km (by omega)).at s1
end
end K09

namespace K09
open PySem PySem.Spec PyProof.Rows L2 J M
local macro_rules | `(tactic| walk_at "hp") => `(tactic| first | assumption | exact upd_same | (rw [upd_ne (by assumption)]; walk_at "hp") | (rw [upd_ne (Ne.symm (by assumption))]; walk_at "hp"))
local macro_rules | `(tactic| walk_at "s") => `(tactic| first
  | ((with_reducible refine' r_var ?h ?k); (case h => exact rfl))
  | (with_reducible refine r_c ?_)
  | (with_reducible refine r_op ?_)
  | (with_reducible refine r_un ?_)
  | (with_reducible refine r_seq ?_)
  | (with_reducible refine r_next ?_)
  | (with_reducible refine r_sets ?_)
  | (with_reducible refine r_gname ?_)
  | (with_reducible refine r_ifS ?_)
  | (with_reducible refine r_gsub ?_)
  | (with_reducible refine r_test ?_)
  | (with_reducible refine r_tb ?_)
  | (with_reducible refine r_not ?_)
  | (with_reducible refine r_and ?_)
  | (with_reducible refine r_or ?_)
  | (with_reducible refine r_andV ?_)
  | (with_reducible refine r_orV ?_)
  | (with_reducible refine r_notV ?_)
  | (with_reducible refine r_ifE ?_)
  | (with_reducible refine r_chain ?_)
  | (with_reducible refine r_cb ?_)
  | (with_reducible refine r_cons ?_)
  | (with_reducible refine r_nil ?_)
  | (with_reducible refine r_call ?_)
  | (with_reducible refine r_lst ?_)
  | (with_reducible refine r_tup ?_)
  | (with_reducible refine r_slice ?_)
  | (with_reducible refine r_nop ?_)
  | (with_reducible refine r_part ?_)
  | (with_reducible refine r_bm ?_)
  | (with_reducible refine r_m1 ?_)
  | (with_reducible refine r_m0 ?_)
  | (with_reducible refine r_is ?_)
  | (with_reducible refine r_maxD ?_)
  | (with_reducible refine r_orT ?_)
  | (with_reducible refine r_truN ?_)
  | (with_reducible refine r_intI ?_)
  | (with_reducible refine r_intB ?_)
  | (with_reducible refine r_max2 ?_)
  | (with_reducible refine r_min2 ?_)
  | (with_reducible refine r_yes ?_)
  | (with_reducible refine r_bl ?_)
  | (with_reducible refine iteT ?_)
  | (with_reducible refine iteF ?_)
  | (with_reducible refine r_iteNT ?_)
  | (with_reducible refine r_iteNF ?_)
  | (with_reducible refine r_minL ?_)
  | (with_reducible refine r_gcons ?_)
  | (with_reducible refine r_gnil ?_)
  | (with_reducible refine r_par ?_)
  | (with_reducible refine r_par3 ?_)
  | (with_reducible refine r_is2 ?_)
  | (with_reducible refine r_is3 ?_)
  | (with_reducible refine r_dget ?_)
  | (with_reducible refine r_callS ?_)
  | (with_reducible refine r_rz ?_)
  | (with_reducible refine r_rev ?_)
  | (with_reducible refine r_isI ?_)
  | (with_reducible refine r_isStr ?_)
  | (with_reducible refine r_ret ?_)
  | (with_reducible refine r_drop ?_)
  | (with_reducible refine r_rI0 ?_)
  | (with_reducible refine r_addI ?_)
  | ((with_reducible show rI (fun _ j => 0 < j) _ (.int _) (.int _) _ _); refine r_rI (by first | omega | decide) ?_)
  | ((with_reducible show rI CDiv _ (.int _) (.int _) _ _); refine r_rI (by constructor <;> omega) ?_)
  | ((with_reducible show rI CPow _ (.int _) (.int _) _ _); refine r_rI (by refine ⟨by decide, by decide, ?_⟩; omega) ?_)
  | ((with_reducible show rMul (.int _) (.int _) _ _); refine r_mulI (cmulW (by omega) (by omega)) ?_)
  | (with_reducible refine r_cmpI ?_)
  | (with_reducible refine r_cmpS ?_)
  | (with_reducible refine r_eqI ?_)
  | (with_reducible refine r_neI ?_)
  | (with_reducible refine r_eqS ?_)
  | (with_reducible refine r_neS ?_)
  | (with_reducible refine r_inSF ?_)
  | (with_reducible refine r_inST ?_)
  | (with_reducible refine r_isiStr ?_)
  | ((with_reducible show rIx _ (.ref _) (.int _) _ _); refine' r_ixL (SqL.of ?h) ?e ?_; (case h => walk_at "hp"); (case e => rfl))
  | ((with_reducible show rSetL (.ref _) (.int _) _ _ _); refine' r_setL ?h ?e ?_; (case h => walk_at "hp"); (case e => rfl)))
local macro_rules | `(tactic| walk_at "g") => `(tactic| repeat walk_at "s")


local macro_rules | `(tactic| walk_at "x") => `(tactic| first | omega | (simp only [one_nl, one_bs, one_q1, one_q2, qS_nil, qS_q1, one_qS, mem_part, mem_qs, mem_all]; omega))
local macro_rules | `(tactic| walk_at "d") => `(tactic| first
  | (with_reducible refine iteDT (by walk_at "x") ?_)
  | (with_reducible refine iteDF (by walk_at "x") ?_)
  | (with_reducible refine iteNT (by walk_at "x") ?_)
  | (with_reducible refine iteNF (by walk_at "x") ?_))
local macro_rules | `(tactic| walk_at "G") => `(tactic| repeat (first | walk_at "s" | walk_at "d"))
section
variable {P : Program} {w : World} {K : PySem.W.Frag} {mg : Str → Option Value} {base : Heap}  -- own
theorem ok_take {f : Addr} {fd : FuncData} (F : Fun K "_law_take" "_law_take" s_law_take f fd) : FnOk P w K mg base CX0 1 f fd P_law_take spTake := by
  refine F.ok sc_law_take (fun vs H Q E h => ?_) (fun cdv A outer s H vs Q E hr h => ?_)
  · obtain ⟨b, m, n, rfl, _⟩ := h
    rfl
  · obtain ⟨b, m, n, rfl, ⟨x, y, z, hb, x0, y0, y1, z0, z1⟩, hn, m0, m1, k⟩ := h
    refine ⟨_, (pss_cons (ps_if (pt_cmpR op_gtA (pe_ix (ix_seq : IxR _ (rIx K)) (pv 0) pe_int (fun _ _ => rfl)) pe_int (nomark _)) (pss_cons (ps_set (i := 2) sc_law_take.nd rfl (Or.inl rfl) (pe_op L2.op_mod (pe_ix (ix_seq : IxR _ (rIx K)) (pv 0) pe_int (fun _ _ => rfl)) (pv 1))) (pss_cons (ps_asg (pe_op L2.op_fdiv (pe_ix (ix_seq : IxR _ (rIx K)) (pv 0) pe_int (fun _ _ => rfl)) (pv 1)) (pg_sub (pv 0) pe_int set_list)) (pss_one (ps_ret (pv 2))))) pss_nil) (pss_cons (ps_asg (pe_op (oAdd : OpR _ _ (J.rAdd K)) (pe_ix (ix_seq : IxR _ (rIx K)) (pv 0) pe_int (fun _ _ => rfl)) pe_int) (pg_sub (pv 0) pe_int set_list)) (pss_cons (ps_set (i := 3) sc_law_take.nd rfl (Or.inl rfl) (pe_op L2.op_mod (pe_op L2.op_pow (pe_op (oAdd : OpR _ _ (J.rAdd K)) (pe_op (oAdd : OpR _ _ (J.rAdd K)) (pe_ix (ix_seq : IxR _ (rIx K)) (pv 0) pe_int (fun _ _ => rfl)) (pe_op oMul pe_int (pe_ix (ix_seq : IxR _ (rIx K)) (pv 0) pe_int (fun _ _ => rfl)))) pe_int) pe_int) pe_int)) (pss_cons (ps_set (i := 3) sc_law_take.nd rfl (Or.inl rfl) (pe_op L2.op_mod (pe_op L2.op_pow (pe_op (oAdd : OpR _ _ (J.rAdd K)) (pe_op oMul (pv 3) (pe_ix (ix_seq : IxR _ (rIx K)) (pv 0) pe_int (fun _ _ => rfl))) pe_int) pe_int) pe_int)) (pss_one (ps_ret (pe_op L2.op_mod (pe_op L2.op_fdiv (pv 3) pe_int) (pv 1)))))))), ?_⟩
    walk_at "g"
    refine r_iteD (fun c => ?_) fun c => ?_
    · walk_at "g"
      exact k _ _ (Int.emod_nonneg _ (by omega)) (Int.emod_lt_of_pos _ (by omega)) (Keep.upd _ _ _) ⟨x / m, y, z, upd_same, Int.ediv_nonneg x0 (by omega), y0, y1, z0, by omega⟩
    · walk_at "g"
      have u0 := Int.emod_nonneg ((y + 7919 * (z + 1) + 31) ^ Int.toNat 5) (b := 2147483647) (by decide)
      have u1 := Int.emod_lt_of_pos ((y + 7919 * (z + 1) + 31) ^ Int.toNat 5) (b := 2147483647) (by decide)
      generalize (y + 7919 * (z + 1) + 31) ^ Int.toNat 5 % 2147483647 = u at u0 u1 ⊢
      have v0 : 0 ≤ u * (z + 1) := Int.mul_nonneg u0 (by omega)
      have v1 : u * (z + 1) ≤ 2147483647 * (z + 1) := Int.mul_le_mul_of_nonneg_right (by omega) (by omega)
      walk_at "g"
      exact k _ _ (Int.emod_nonneg _ (by omega)) (Int.emod_lt_of_pos _ (by omega)) (Keep.upd _ _ _) ⟨x, y, z + 1, upd_same, x0, y0, y1, by omega, by omega⟩
theorem ok_box (T : Tx K mg) {f : Addr} {fd : FuncData} (F : Fun K "_law_box" "_law_box" s_law_box f fd) : FnOk P w K mg base CX0 1 f fd P_law_box spBox := by
  refine F.ok sc_law_box (fun vs H Q E h => ?_) (fun cdv A outer s H vs Q E hr h => ?_)
  · obtain ⟨c, rfl, _⟩ := h
    rfl
  · obtain ⟨c, rfl, k⟩ := h
    refine ⟨_, (pss_one (ps_ret (pe_lst (pa_cons (pe_callB (call_maxA rfl) (by rfl) T.z_max (by decide +kernel) (pa_cons pe_int (pa_cons (pe_op L2.op_sub (pv 0) (pe_op L2.op_pow pe_int pe_int)) pa_nil))) (pa_cons (pe_op L2.op_mod (pv 0) pe_int) (pa_cons pe_int pa_nil)))))), ?_⟩
    walk_at "g"
    refine ⟨show 3 ≤ sizeLine by decide, fun p hp => k p _ hp ((Same.refl H).at hp _) ⟨_, _, _, upd_same, ?_, Int.emod_nonneg _ (by decide), Int.emod_lt_of_pos _ (by decide), Int.le_refl _, Int.le_refl _⟩⟩
    split <;> omega
theorem ok_pick (T : Tx K mg) {f f_law_take : Addr} {fd fd_law_take : FuncData} (F : Fun K "_law_pick" "_law_pick" s_law_pick f fd) (D_law_take : DAt K mg "_law_take" s_law_take P_law_take f_law_take fd_law_take) : FnOk P w K mg base CX0 2 f fd P_law_pick (spPick K) := by
  have G_law_take : FnOk P w K mg base CX0 1 f_law_take fd_law_take P_law_take spTake := ok_take D_law_take.fn
  refine F.ok sc_law_pick (fun vs H Q E h => ?_) (fun cdv A outer s H vs Q E hr h => ?_)
  · obtain ⟨b, n, _, _, ⟨z, rfl, _⟩ | ⟨a, xs, rfl, _⟩⟩ := h <;> rfl
  · obtain ⟨b, n, hb, hn, h⟩ := h
    have ih : ∀ {k : Int} {m : Nat}, 0 ≤ k → k < (m : Nat) → ∃ j : Nat, k = j ∧ j < m := fun {k m} a b => ⟨k.toNat, by omega, by omega⟩
    rcases h with ⟨z, rfl, z0, z1, k⟩ | ⟨a, xs, rfl, ha, hx, x0, x1, k⟩
    · refine ⟨_, (pss_one (ps_ret (pe_ix (ix_seq : IxR _ (rIx K)) (pv 1) (pe_call G_law_take (hr.mono (by decide)) rfl D_law_take.gl D_law_take.fn.kp D_law_take.bd .nil pass0 (pa_cons (pv 0) (pa_cons (pe_callB (call_lenA : CallR _ _ (rLen K)) (by rfl) T.z_len (by decide +kernel) (pa_cons (pv 1) pa_nil)) pa_nil))) (fun _ _ => rfl)))), ?_⟩
      walk_at "g"
      refine r_len (Nat.le_trans z1 (by decide)) ?_
      walk_at "g"
      refine ⟨b, _, n, rfl, hb, by omega, by omega, by omega, fun i H1 i0 i1 kp hb1 => ?_⟩
      walk_at "g"
      obtain ⟨j, rfl, hj⟩ := ih i0 i1
      rw [len_cd] at hj
      refine r_ixS (Nat.le_trans z1 (by decide)) (c := (cd z)[j]) (by rw [atI_nat]; exact List.getElem?_eq_getElem hj) ?_
      exact k _ _ (List.getElem_mem hj) kp hb1
    · refine ⟨_, (pss_one (ps_ret (pe_ix (ix_seq : IxR _ (rIx K)) (pv 1) (pe_call G_law_take (hr.mono (by decide)) rfl D_law_take.gl D_law_take.fn.kp D_law_take.bd .nil pass0 (pa_cons (pv 0) (pa_cons (pe_callB (call_lenA : CallR _ _ (rLen K)) (by rfl) T.z_len (by decide +kernel) (pa_cons (pv 1) pa_nil)) pa_nil))) (fun _ _ => rfl)))), ?_⟩
      walk_at "g"
      refine r_lenL hx ?_
      walk_at "g"
      refine ⟨b, _, n, rfl, hb, by omega, by omega, by omega, fun i H1 i0 i1 kp hb1 => ?_⟩
      walk_at "g"
      obtain ⟨j, rfl, hj⟩ := ih i0 i1
      refine r_ixL (kp.seq ha hx) (v := xs[j]) (by rw [atI_nat]; exact List.getElem?_eq_getElem hj) ?_
      exact k _ _ (List.getElem_mem hj) kp hb1
theorem ok_sign {f f_law_take f_law_pick : Addr} {fd fd_law_take fd_law_pick : FuncData} (T : Tx K mg) (F : Fun K "_law_sign" "_law_sign" s_law_sign f fd) (D_law_take : DAt K mg "_law_take" s_law_take P_law_take f_law_take fd_law_take) (D_law_pick : DAt K mg "_law_pick" s_law_pick P_law_pick f_law_pick fd_law_pick) : FnOk P w K mg base CX0 3 f fd P_law_sign spSign := by
  have G_law_take : FnOk P w K mg base CX0 1 f_law_take fd_law_take P_law_take spTake := ok_take D_law_take.fn
  have G_law_pick : FnOk P w K mg base CX0 2 f_law_pick fd_law_pick P_law_pick (spPick K) := ok_pick T D_law_pick.fn D_law_take
  refine F.ok sc_law_sign (fun vs H Q E h => ?_) (fun cdv A outer s H vs Q E hr h => ?_)
  · obtain ⟨b, n, rfl, _⟩ := h
    rfl
  · obtain ⟨b, n, rfl, hb, hn, k⟩ := h
    refine ⟨_, (pss_cons (ps_set (i := 1) sc_law_sign.nd rfl (Or.inl rfl) pe_str) (pss_one (ps_ret (pe_call G_law_pick (hr.mono (by decide)) rfl D_law_pick.gl D_law_pick.fn.kp D_law_pick.bd .nil pass0 (pa_cons (pv 0) (pa_cons (pe_ix (ix_seq : IxR _ (rIx K)) (pe_lst (pa_cons pe_str (pa_cons pe_str (pa_cons (pv 1) pa_nil)))) (pe_call G_law_take (hr.mono (by decide)) rfl D_law_take.gl D_law_take.fn.kp D_law_take.bd .nil pass0 (pa_cons (pv 0) (pa_cons pe_int pa_nil))) (fun _ _ => rfl)) pa_nil)))))), ?_⟩
    walk_at "g"
    refine ⟨show 3 ≤ sizeLine by decide, fun p hp => ?_⟩
    walk_at "g"
    refine ⟨b, _, n, rfl, hb.new hp, by omega, by omega, by omega, fun i H1 i0 i1 kp hb1 => ?_⟩
    have pb : p ≠ b := by
      obtain ⟨_, _, _, e, _⟩ := hb
      exact new_ne hp e
    have h1 := kp p _ upd_same pb
    have fin : ∀ (z : Str), sg (cd z) = true → 0 < z.length → z.length ≤ 1000 → spPick K [.ref b, .str z] H1 Q E0 := fun z hz z0 z1 =>
      ⟨b, n + 1, hb1, by omega, .inl ⟨z, rfl, z0, z1, fun c H2 hc kp2 hb2 => k c H2 (sg_iff.mp hz c hc).1 (sg_iff.mp hz c hc).2 (((Keep.new _ hp).trans kp).trans kp2) hb2⟩⟩
    rcases (show i = 0 ∨ i = 1 ∨ i = 2 by omega) with rfl | rfl | rfl
    all_goals
      refine r_ixL (SqL.of h1) rfl ?_
      walk_at "g"
      exact fin _ (by decide +kernel) (by decide +kernel) (by decide +kernel)
theorem ok_word {f f_law_take f_law_pick f_law_sign : Addr} {fd fd_law_take fd_law_pick fd_law_sign : FuncData} (T : Tx K mg) (F : Fun K "_law_word" "_law_word" s_law_word f fd) (D_law_take : DAt K mg "_law_take" s_law_take P_law_take f_law_take fd_law_take) (D_law_pick : DAt K mg "_law_pick" s_law_pick P_law_pick f_law_pick fd_law_pick)
    (D_law_sign : DAt K mg "_law_sign" s_law_sign P_law_sign f_law_sign fd_law_sign) : FnOk P w K mg base CX0 4 f fd P_law_word spWord := by
  have G_law_take : FnOk P w K mg base CX0 1 f_law_take fd_law_take P_law_take spTake := ok_take D_law_take.fn
  have G_law_sign : FnOk P w K mg base CX0 3 f_law_sign fd_law_sign P_law_sign spSign := ok_sign T D_law_sign.fn D_law_take D_law_pick
  refine F.ok sc_law_word (fun vs H Q E h => ?_) (fun cdv A outer s H vs Q E hr h => ?_)
  · obtain ⟨b, n, m, rfl, _⟩ := h
    rfl
  · obtain ⟨b, n, m, rfl, hm, hb, hn, k⟩ := h
    refine ⟨_, (pss_cons (ps_set (i := 2) sc_law_word.nd rfl (Or.inl rfl) (pe_ix (ix_seq : IxR _ (rIx K)) (pe_lst (pa_cons pe_int (pa_cons pe_int (pa_cons pe_int (pa_cons pe_int (pa_cons (pe_call G_law_take (hr.mono (by decide)) rfl D_law_take.gl D_law_take.fn.kp D_law_take.bd .nil pass0 (pa_cons (pv 0) (pa_cons pe_int pa_nil))) (pa_cons (pv 1) pa_nil))))))) (pe_call G_law_take (hr.mono (by decide)) rfl D_law_take.gl D_law_take.fn.kp D_law_take.bd .nil pass0 (pa_cons (pv 0) (pa_cons pe_int pa_nil))) (fun _ _ => rfl))) (pss_one (ps_ret (asJoin (K := K) rfl (pe_join pe_str (pe_lc (own := [("_law_k", 3)]) (g := (gName 3)) rfl sc_law_word.nd (pi_range1 rfl T.z_range (pa_cons (pv 2) pa_nil)) (blkOk_by (N := N_law_word) (sc := defScope s_law_word) (by decide +kernel)) (fun _ _ _ _ _ => pg_name (i := 3) sc_law_word.nd rfl (Or.inl rfl)) (fun _ _ _ _ _ => pts_nil) (fun _ _ _ _ _ => (pe_call G_law_sign (hr.mono (by decide)) rfl D_law_sign.gl D_law_sign.fn.kp D_law_sign.bd .nil pass0 (pa_cons (pv 0) pa_nil))))))))), ?_⟩
    walk_at "g"
    refine ⟨b, _, n, rfl, hb, by omega, by omega, by omega, fun i H1 i0 i1 kp1 hb1 => ?_⟩
    walk_at "g"
    refine ⟨show 6 ≤ sizeLine by decide, fun p hp => ?_⟩
    walk_at "g"
    refine ⟨b, _, n + 1, rfl, hb1.new hp, by omega, by omega, by omega, fun j H2 j0 j1 kp2 hb2 => ?_⟩
    have pb : p ≠ b := by
      obtain ⟨_, _, _, e, _⟩ := hb1
      exact new_ne hp e
    have h2 := kp2 p _ upd_same pb
    have key : ∃ q : Nat, atI [V.int 0, V.int 1, V.int 2, V.int 3, V.int i, V.int (m : Nat)] j = some (V.int (q : Nat)) ∧ q ≤ max m 8 ∧ q ≤ 40 := by
      rcases (show j = 0 ∨ j = 1 ∨ j = 2 ∨ j = 3 ∨ j = 4 ∨ j = 5 by omega) with rfl | rfl | rfl | rfl | rfl | rfl
      · exact ⟨0, rfl, by omega, by omega⟩
      · exact ⟨1, rfl, by omega, by omega⟩
      · exact ⟨2, rfl, by omega, by omega⟩
      · exact ⟨3, rfl, by omega, by omega⟩
      · exact ⟨i.toNat, by rw [Int.toNat_of_nonneg i0]; rfl, by omega, by omega⟩
      · exact ⟨m, rfl, by omega, by omega⟩
    obtain ⟨q, hq, q1, q2⟩ := key
    refine r_ixL (SqL.of h2) hq ?_
    have kp : Keep b H H2 := (kp1.trans (Keep.new _ hp)).trans kp2
    walk_at "g"
    refine r_lcR rfl (by omega) fun D hD => ?_
    have Db : D ≠ b := by
      obtain ⟨_, _, _, e, _⟩ := hb2
      exact new_ne hD e
    refine comp_of q (fun i H' => ∃ cs : List Nat, cs.length = i ∧ (∀ c ∈ cs, 32 ≤ c ∧ c ≤ 126) ∧ H' D = some (.lst (cs.map sgnV)) ∧ Keep b H H' ∧ Bx H' b (n + 2 + 2 * i)) ⟨[], rfl, fun _ h => (List.not_mem_nil h).elim, upd_same, kp.trans (Keep.new _ hD), (hb2.new hD).mono (by omega)⟩ (fun i H' hi _ => hi) (fun _ _ => Nat.le_refl _) ?_ ?_
    · rintro i H1 x H' hi ⟨cs, hl, hc, hd, kp1, hb1⟩ ⟨rfl, rfl⟩
      walk_at "g"
      refine ⟨rfl, ?_⟩
      walk_at "g"
      refine ⟨b, _, rfl, hb1, by omega, fun c H2 c0 c1 kp2 hb2 => ?_⟩
      exact ⟨_, kp2 D _ hd Db, by rw [List.length_map]; exact Nat.lt_of_le_of_lt (show _ ≤ 40 by omega) (by decide), cs ++ [c], by rw [List.length_append, hl]; rfl, fun d hm => by
        rcases List.mem_append.mp hm with h | h
        · exact hc d h
        · rw [List.mem_singleton.mp h]; exact ⟨c0, c1⟩, by rw [upd_same, List.map_append]; rfl, (kp1.trans kp2).at (kp.free Db hD) _, (hb2.at Db _).mono (by omega)⟩
    · rintro H' ⟨cs, hl, hc, hd, kp1, hb1⟩
      refine r_joinC hd (by omega) ?_
      exact k cs H' (by omega) ⟨by omega, hc⟩ kp1 (hb1.mono (by omega))
end
end K09

namespace K09
open PySem PySem.Spec PyProof.Rows L2 J M
local macro_rules | `(tactic| walk_at "hp") => `(tactic| first | assumption | exact upd_same | (rw [upd_ne (by assumption)]; walk_at "hp") | (rw [upd_ne (Ne.symm (by assumption))]; walk_at "hp"))
local macro_rules | `(tactic| walk_at "s") => `(tactic| first
  | ((with_reducible refine' r_var ?h ?k); (case h => exact rfl))
  | (with_reducible refine r_c ?_)
  | (with_reducible refine r_op ?_)
  | (with_reducible refine r_un ?_)
  | (with_reducible refine r_seq ?_)
  | (with_reducible refine r_next ?_)
  | (with_reducible refine r_sets ?_)
  | (with_reducible refine r_gname ?_)
  | (with_reducible refine r_ifS ?_)
  | (with_reducible refine r_gsub ?_)
  | (with_reducible refine r_test ?_)
  | (with_reducible refine r_tb ?_)
  | (with_reducible refine r_not ?_)
  | (with_reducible refine r_and ?_)
  | (with_reducible refine r_or ?_)
  | (with_reducible refine r_andV ?_)
  | (with_reducible refine r_orV ?_)
  | (with_reducible refine r_notV ?_)
  | (with_reducible refine r_ifE ?_)
  | (with_reducible refine r_chain ?_)
  | (with_reducible refine r_cb ?_)
  | (with_reducible refine r_cons ?_)
  | (with_reducible refine r_nil ?_)
  | (with_reducible refine r_call ?_)
  | (with_reducible refine r_lst ?_)
  | (with_reducible refine r_tup ?_)
  | (with_reducible refine r_slice ?_)
  | (with_reducible refine r_nop ?_)
  | (with_reducible refine r_part ?_)
  | (with_reducible refine r_bm ?_)
  | (with_reducible refine r_m1 ?_)
  | (with_reducible refine r_m0 ?_)
  | (with_reducible refine r_is ?_)
  | (with_reducible refine r_maxD ?_)
  | (with_reducible refine r_orT ?_)
  | (with_reducible refine r_truN ?_)
  | (with_reducible refine r_intI ?_)
  | (with_reducible refine r_intB ?_)
  | (with_reducible refine r_max2 ?_)
  | (with_reducible refine r_min2 ?_)
  | (with_reducible refine r_yes ?_)
  | (with_reducible refine r_bl ?_)
  | (with_reducible refine iteT ?_)
  | (with_reducible refine iteF ?_)
  | (with_reducible refine r_iteNT ?_)
  | (with_reducible refine r_iteNF ?_)
  | (with_reducible refine r_minL ?_)
  | (with_reducible refine r_gcons ?_)
  | (with_reducible refine r_gnil ?_)
  | (with_reducible refine r_par ?_)
  | (with_reducible refine r_par3 ?_)
  | (with_reducible refine r_is2 ?_)
  | (with_reducible refine r_is3 ?_)
  | (with_reducible refine r_dget ?_)
  | (with_reducible refine r_callS ?_)
  | (with_reducible refine r_rz ?_)
  | (with_reducible refine r_rev ?_)
  | (with_reducible refine r_isI ?_)
  | (with_reducible refine r_isStr ?_)
  | (with_reducible refine r_ret ?_)
  | (with_reducible refine r_drop ?_)
  | (with_reducible refine r_rI0 ?_)
  | (with_reducible refine r_addI ?_)
  | ((with_reducible show rI (fun _ j => 0 < j) _ (.int _) (.int _) _ _); refine r_rI (by first | omega | decide) ?_)
  | ((with_reducible show rI CDiv _ (.int _) (.int _) _ _); refine r_rI (by constructor <;> omega) ?_)
  | ((with_reducible show rI CPow _ (.int _) (.int _) _ _); refine r_rI (by refine ⟨by decide, by decide, ?_⟩; omega) ?_)
  | ((with_reducible show rMul (.int _) (.int _) _ _); refine r_mulI (cmulW (by omega) (by omega)) ?_)
  | (with_reducible refine r_cmpI ?_)
  | (with_reducible refine r_cmpS ?_)
  | (with_reducible refine r_eqI ?_)
  | (with_reducible refine r_neI ?_)
  | (with_reducible refine r_eqS ?_)
  | (with_reducible refine r_neS ?_)
  | (with_reducible refine r_inSF ?_)
  | (with_reducible refine r_inST ?_)
  | (with_reducible refine r_isiStr ?_)
  | ((with_reducible show rIx _ (.ref _) (.int _) _ _); refine' r_ixL (SqL.of ?h) ?e ?_; (case h => walk_at "hp"); (case e => rfl))
  | ((with_reducible show rSetL (.ref _) (.int _) _ _ _); refine' r_setL ?h ?e ?_; (case h => walk_at "hp"); (case e => rfl)))
local macro_rules | `(tactic| walk_at "g") => `(tactic| repeat walk_at "s")


local macro_rules | `(tactic| walk_at "x") => `(tactic| first | omega | (simp only [one_nl, one_bs, one_q1, one_q2, qS_nil, qS_q1, one_qS, mem_part, mem_qs, mem_all]; omega))
local macro_rules | `(tactic| walk_at "d") => `(tactic| first
  | (with_reducible refine iteDT (by walk_at "x") ?_)
  | (with_reducible refine iteDF (by walk_at "x") ?_)
  | (with_reducible refine iteNT (by walk_at "x") ?_)
  | (with_reducible refine iteNF (by walk_at "x") ?_))
local macro_rules | `(tactic| walk_at "G") => `(tactic| repeat (first | walk_at "s" | walk_at "d"))
section
variable {P : Program} {w : World} {K : PySem.W.Frag} {mg : Str → Option Value} {base : Heap}  -- own
theorem ok_stroked (T : Tx K mg) {f f_law_take : Addr} {fd fd_law_take : FuncData} (F : Fun K "_law_stroked" "_law_stroked" s_law_stroked f fd) (D_law_take : DAt K mg "_law_take" s_law_take P_law_take f_law_take fd_law_take) : FnOk P w K mg base CX0 2 f fd P_law_stroked spStroked := by
  have G_law_take : FnOk P w K mg base CX0 1 f_law_take fd_law_take P_law_take spTake := ok_take D_law_take.fn
  refine F.ok sc_law_stroked (fun vs H Q E h => ?_) (fun cdv A outer s H vs Q E hr h => ?_)
  · obtain ⟨b, n, z, d, rfl, _⟩ := h
    rfl
  · obtain ⟨b, n, z, d, rfl, hb, hn, hz, k⟩ := h
    refine ⟨_, (pss_one (ps_ret (asJoin (K := K) rfl (pe_join pe_str (pe_lc (own := [("_law_sign_here", 3)]) (g := (gName 3)) rfl sc_law_stroked.nd (pi_str (pv 1)) (blkOk_by (N := N_law_stroked) (sc := defScope s_law_stroked) (by decide +kernel)) (fun _ _ _ _ _ => pg_name (i := 3) sc_law_stroked.nd rfl (Or.inl rfl)) (fun _ _ _ _ _ => pts_nil) (fun _ _ _ _ _ => (pe_op (oAdd : OpR _ _ (J.rAdd K)) (pe_op oMul pe_str (pe_callTy call_intA (by rfl) T.z_int (by decide +kernel) (pa_cons (pe_or (pe_cmpR (op_inA : OpR _ _ (rInA K false)) (pv 3) (pv 2) (by rfl)) (pe_one (pe_cmpR ((op_eqA hr.units) : OpR _ _ (rEqA K)) (pe_call G_law_take (hr.mono (by decide)) rfl D_law_take.gl D_law_take.fn.kp D_law_take.bd .nil pass0 (pa_cons (pv 0) (pa_cons pe_int pa_nil))) pe_int (nomark _)))) pa_nil))) (pv 3)))))))), ?_⟩
    walk_at "g"
    refine r_lcS ?_
    walk_at "g"
    refine r_isS fun D hD => ?_
    have Db : D ≠ b := hb.ne hD
    refine comp_of z.cps.size (fun i H' => ∃ os : List (List Nat), os.length = i ∧ (∀ o ∈ os, o.length ≤ 2) ∧ Strk (cd d) ((cd z).take i) os.flatten ∧ H' D = some (.lst (os.map wV)) ∧ Keep b H H' ∧ Bx H' b (n + i)) ⟨[], rfl, fun _ h => (List.not_mem_nil h).elim, .nil, upd_same, Keep.new _ hD, hb.new hD⟩ (fun i H' hi _ => hi) (fun _ _ => Nat.le_refl _) ?_ ?_
    · rintro i H1 x H' hi ⟨os, hl, ho, hs, hd, kp, hb1⟩ ⟨rfl, c, hc, rfl⟩
      have hi' : i < (cd z).length := by have := (List.getElem?_eq_some_iff.mp (cps_at hc)).1; exact this
      walk_at "g"
      refine ⟨rfl, ?_⟩
      walk_at "g"
      have fin : ∀ (bb : Bool) (H2 : Hp), (c ∈ cd d → bb = true) → Keep b H' H2 → Bx H2 b (n + (i + 1)) → ∃ acc, H2 D = some (HO.lst acc) ∧ acc.length < sizeLine ∧ ∃ os : List (List Nat), os.length = i + 1 ∧ (∀ o ∈ os, o.length ≤ 2) ∧ Strk (cd d) ((cd z).take (i + 1)) os.flatten ∧
          upd H2 D (.lst (acc ++ [V.str (S (if bb = true then [92, c] else [c]))])) D = some (.lst (os.map wV)) ∧ Keep b H (upd H2 D (.lst (acc ++ [V.str (S (if bb = true then [92, c] else [c]))]))) ∧ Bx (upd H2 D (.lst (acc ++ [V.str (S (if bb = true then [92, c] else [c]))]))) b (n + (i + 1)) := fun bb H2 hb2 kp2 bx2 => by
        refine ⟨_, kp2 D _ hd Db, by rw [List.length_map]; exact Nat.lt_of_le_of_lt (show _ ≤ 40 by omega) (by decide), os ++ [if bb = true then [92, c] else [c]], by rw [List.length_append, hl]; rfl, fun o hm => ?_, ?_, by rw [upd_same, List.map_append]; rfl, (kp.trans kp2).at hD _, bx2.at Db _⟩
        · rcases List.mem_append.mp hm with q | q
          · exact ho o q
          · rw [List.mem_singleton.mp q]; split <;> simp
        · rw [take_snoc (cps_at hc), List.flatten_append]
          have := hs.app (strk_one bb hb2)
          simpa using this
      refine r_iteD (fun c1 => ?_) fun c1 => ?_
      · walk_at "g"
        exact r_strokeV true rfl (fin true H' (fun _ => rfl) (Keep.refl _ _) (hb1.mono (by omega)))
      · walk_at "g"
        refine ⟨b, _, _, rfl, hb1, by omega, by omega, by omega, fun q H2 q0 q1 kp2 bx2 => ?_⟩
        walk_at "g"
        exact r_strokeV _ rfl (fin _ H2 (fun h => absurd h c1) kp2 (bx2.mono (by omega)))
    · rintro H' ⟨os, hl, ho, hs, hd, kp, hb1⟩
      have hzl : z.cps.size = (cd z).length := by simp
      refine r_join (SqL.of hd) 2 ho ?_ ?_
      · have : (Str.ofString "").length = 0 := rfl
        rw [this, hl]; omega
      · rw [_root_.J.join_nil]
        rw [hzl, List.take_length] at hs
        exact k _ _ hs kp (hb1.mono (by omega))
theorem ok_gap (T : Tx K mg) {f f_law_take f_law_pick : Addr} {fd fd_law_take fd_law_pick : FuncData} (F : Fun K "_law_gap" "_law_gap" s_law_gap f fd) (D_law_take : DAt K mg "_law_take" s_law_take P_law_take f_law_take fd_law_take) (D_law_pick : DAt K mg "_law_pick" s_law_pick P_law_pick f_law_pick fd_law_pick) : FnOk P w K mg base CX0 3 f fd P_law_gap spGap := by
  have G_law_take : FnOk P w K mg base CX0 1 f_law_take fd_law_take P_law_take spTake := ok_take D_law_take.fn
  have G_law_pick : FnOk P w K mg base CX0 2 f_law_pick fd_law_pick P_law_pick (spPick K) := ok_pick T D_law_pick.fn D_law_take
  refine F.ok sc_law_gap (fun vs H Q E h => ?_) (fun cdv A outer s H vs Q E hr h => ?_)
  · obtain ⟨b, n, few, rfl, _⟩ := h
    rfl
  · obtain ⟨b, n, few, rfl, hf, hb, hn, k⟩ := h
    refine ⟨_, (pss_one (ps_ret (asJoin (K := K) rfl (pe_join pe_str (pe_lc (own := [("_law_k", 2)]) (g := (gName 2)) rfl sc_law_gap.nd (pi_range1 rfl T.z_range (pa_cons (pe_op (oAdd : OpR _ _ (J.rAdd K)) (pv 1) (pe_op L2.op_fdiv (pe_call G_law_take (hr.mono (by decide)) rfl D_law_take.gl D_law_take.fn.kp D_law_take.bd .nil pass0 (pa_cons (pv 0) (pa_cons pe_int pa_nil))) pe_int)) pa_nil)) (blkOk_by (N := N_law_gap) (sc := defScope s_law_gap) (by decide +kernel)) (fun _ _ _ _ _ => pg_name (i := 2) sc_law_gap.nd rfl (Or.inl rfl)) (fun _ _ _ _ _ => pts_nil) (fun _ _ _ _ _ => (pe_call G_law_pick (hr.mono (by decide)) rfl D_law_pick.gl D_law_pick.fn.kp D_law_pick.bd .nil pass0 (pa_cons (pv 0) (pa_cons pe_str pa_nil))))))))), ?_⟩
    walk_at "g"
    refine r_lcRG ?_
    walk_at "g"
    refine ⟨b, _, n, rfl, hb, by omega, by omega, by omega, fun t H1 t0 t1 kp1 bx1 => ?_⟩
    walk_at "g"
    have tq : ∃ q : Nat, (few : Int) + t / 2 = q ∧ few ≤ q ∧ q ≤ few + 1 := ⟨(few + t / 2).toNat, by omega, by omega, by omega⟩
    obtain ⟨q, hq, q0, q1⟩ := tq
    rw [hq]
    refine ⟨_, rfl, by omega, by omega, fun D hD => ?_⟩
    rw [Int.toNat_natCast]
    have Db : D ≠ b := bx1.ne hD
    refine comp_of q (fun i H' => ∃ cs : List Nat, cs.length = i ∧ Gp cs ∧ H' D = some (.lst (cs.map sgnV)) ∧ Keep b H H' ∧ Bx H' b (n + 1 + i)) ⟨[], rfl, fun _ h => (List.not_mem_nil h).elim, upd_same, kp1.trans (Keep.new _ hD), (bx1.new hD).mono (by omega)⟩ (fun i H' hi _ => hi) (fun _ _ => Nat.le_refl _) ?_ ?_
    · rintro i H2 x H' hi ⟨cs, hl, hc, hd, kp2, bx2⟩ ⟨rfl, rfl⟩
      walk_at "g"
      refine ⟨rfl, ?_⟩
      walk_at "g"
      refine ⟨b, _, bx2, by omega, .inl ⟨_, rfl, by decide +kernel, by decide +kernel, fun c H3 hcm kp3 bx3 => ?_⟩⟩
      have c32 : c = 32 ∨ c = 10 := by
        have e : cd (Str.ofString "  \n") = [32, 32, 10] := by decide +kernel
        rw [e] at hcm
        simp at hcm
        exact hcm
      exact ⟨_, kp3 D _ hd Db, by rw [List.length_map]; exact Nat.lt_of_le_of_lt (show _ ≤ 2 by omega) (by decide), cs ++ [c], by rw [List.length_append, hl]; rfl, fun d hm => by
        rcases List.mem_append.mp hm with h | h
        · exact hc d h
        · rw [List.mem_singleton.mp h]; exact c32, by rw [upd_same, List.map_append]; rfl, (kp2.trans kp3).at (kp1.free Db hD) _, (bx3.at Db _).mono (by omega)⟩
    · rintro H' ⟨cs, hl, hc, hd, kp2, bx2⟩
      refine r_joinC hd (by omega) ?_
      exact k cs H' hc (by omega) (by omega) kp2 (bx2.mono (by omega))
theorem ok_written (T : Tx K mg) {f f_law_take f_law_pick f_law_stroked : Addr} {fd fd_law_take fd_law_pick fd_law_stroked : FuncData} (F : Fun K "_law_written" "_law_written" s_law_written f fd) (D_law_take : DAt K mg "_law_take" s_law_take P_law_take f_law_take fd_law_take) (D_law_pick : DAt K mg "_law_pick" s_law_pick P_law_pick f_law_pick fd_law_pick)
    (D_law_stroked : DAt K mg "_law_stroked" s_law_stroked P_law_stroked f_law_stroked fd_law_stroked) : FnOk P w K mg base CX0 3 f fd P_law_written spWritten := by
  have G_law_take : FnOk P w K mg base CX0 1 f_law_take fd_law_take P_law_take spTake := ok_take D_law_take.fn
  have G_law_pick : FnOk P w K mg base CX0 2 f_law_pick fd_law_pick P_law_pick (spPick K) := ok_pick T D_law_pick.fn D_law_take
  have G_law_stroked : FnOk P w K mg base CX0 2 f_law_stroked fd_law_stroked P_law_stroked spStroked := ok_stroked T D_law_stroked.fn D_law_take
  refine F.ok sc_law_written (fun vs H Q E h => ?_) (fun cdv A outer s H vs Q E hr h => ?_)
  · obtain ⟨b, n, z, rfl, _⟩ := h
    rfl
  · obtain ⟨b, n, z, rfl, hb, hn, hz, k⟩ := h
    refine ⟨_, (pss_cons (ps_if (pt_cmpR ((op_eqA hr.units) : OpR _ _ (rEqA K)) (pv 1) pe_str (nomark _)) (pss_one (ps_ret (pe_call G_law_pick (hr.mono (by decide)) rfl D_law_pick.gl D_law_pick.fn.kp D_law_pick.bd .nil pass0 (pa_cons (pv 0) (pa_cons (pe_lst (pa_cons pe_str (pa_cons pe_str (pa_cons pe_str (pa_cons pe_str pa_nil))))) pa_nil))))) pss_nil) (pss_cons (ps_par (i := 2) (j := 3) rfl sc_law_written.nd rfl rfl (by decide) rfl rfl (pa_cons pe_str (pa_cons (pv 1) pa_nil)) rfl) (pss_cons (ps_while (PassesOwn.never) (pt_cmpR ((op_neA hr.units) : OpR _ _ (rNeA K)) (pv 3) pe_str (nomark _)) (pss_cons (ps_set (i := 4) sc_law_written.nd rfl (Or.inl rfl) (pe_op (oAdd : OpR _ _ (J.rAdd K)) pe_int (pe_call G_law_take (hr.mono (by decide)) rfl D_law_take.gl D_law_take.fn.kp D_law_take.bd .nil pass0 (pa_cons (pv 0) (pa_cons (pe_callB (call_lenA : CallR _ _ (rLen K)) (by rfl) T.z_len (by decide +kernel) (pa_cons (pv 3) pa_nil)) pa_nil))))) (pss_cons (ps_par (i := 5) (j := 3) rfl sc_law_written.nd rfl rfl (by decide) rfl rfl (pa_cons (pe_slice (sl_any : SlR _ (rSl K)) (pv 3) po_none (po_some (pv 4))) (pa_cons (pe_slice (sl_any : SlR _ (rSl K)) (pv 3) (po_some (pv 4)) po_none) pa_nil)) rfl) (pss_cons (ps_set (i := 6) sc_law_written.nd rfl (Or.inl rfl) (pe_call G_law_take (hr.mono (by decide)) rfl D_law_take.gl D_law_take.fn.kp D_law_take.bd .nil pass0 (pa_cons (pv 0) (pa_cons pe_int pa_nil)))) (pss_one (ps_if (PW.pt (pw_and (pt_cmpR ((op_eqA hr.units) : OpR _ _ (rEqA K)) (pv 6) pe_int (nomark _)) (pw_and1 (pt_cmpR (op_notInA : OpR _ _ (rInA K true)) pe_str (pv 5) (by rfl))))) (pss_one (ps_set (i := 2) sc_law_written.nd rfl (Or.inl rfl) (pe_op (oAdd : OpR _ _ (J.rAdd K)) (pe_op (oAdd : OpR _ _ (J.rAdd K)) (pe_op (oAdd : OpR _ _ (J.rAdd K)) (pv 2) pe_str) (pv 5)) pe_str))) (pss_one (ps_if (pt_cmpR ((op_eqA hr.units) : OpR _ _ (rEqA K)) (pv 6) pe_int (nomark _)) (pss_one (ps_set (i := 2) sc_law_written.nd rfl (Or.inl rfl) (pe_op (oAdd : OpR _ _ (J.rAdd K)) (pe_op (oAdd : OpR _ _ (J.rAdd K)) (pe_op (oAdd : OpR _ _ (J.rAdd K)) (pv 2) pe_str) (pe_call G_law_stroked (hr.mono (by decide)) rfl D_law_stroked.gl D_law_stroked.fn.kp D_law_stroked.bd .nil pass0 (pa_cons (pv 0) (pa_cons (pv 5) (pa_cons pe_str pa_nil))))) pe_str))) (pss_one (ps_set (i := 2) sc_law_written.nd rfl (Or.inl rfl) (pe_op (oAdd : OpR _ _ (J.rAdd K)) (pv 2) (pe_call G_law_stroked (hr.mono (by decide)) rfl D_law_stroked.gl D_law_stroked.fn.kp D_law_stroked.bd .nil pass0 (pa_cons (pv 0) (pa_cons (pv 5) (pa_cons pe_str pa_nil))))))))))))))) (pss_one (ps_ret (pv 2)))))), ?_⟩
    obtain ⟨l, rfl⟩ : ∃ l, z = S l := ⟨cd z, (S_of z).symm⟩
    rw [cd_S] at hz k
    walk_at "g"
    refine r_iteD (fun c => ?_) fun c => ?_
    · have hl : l = [] := by rw [str_eq, cd_S, show cd (Str.ofString "") = [] from l_nil] at c; exact c
      subst hl
      walk_at "g"
      refine ⟨show 4 ≤ sizeLine by decide, fun p hp => ?_⟩
      walk_at "g"
      have pb := hb.ne hp
      refine ⟨b, n, hb.new hp, by omega, .inr ⟨p, _, rfl, pb, SqL.of upd_same, by decide, show 4 ≤ 1000 by decide, fun v H' hv kp bx => ?_⟩⟩
      have fin : ∀ o : List Nat, o ∈ [[39, 39], [34, 34], [39, 39, 34, 34], [34, 34, 34, 34]] → Q (.str (S o)) H' := fun o ho => k o H' (.inl ⟨rfl, ho⟩) ((Keep.new _ hp).trans kp) (bx.mono (by omega))
      simp only [List.mem_cons, List.not_mem_nil, or_false] at hv
      rcases hv with q | q | q | q
      · rw [q, show Str.ofString "''" = S [39, 39] by decide +kernel]; exact fin _ (by simp)
      · rw [q, show Str.ofString "\"\"" = S [34, 34] by decide +kernel]; exact fin _ (by simp)
      · rw [q, show Str.ofString "''\"\"" = S [39, 39, 34, 34] by decide +kernel]; exact fin _ (by simp)
      · rw [q, show Str.ofString "\"\"\"\"" = S [34, 34, 34, 34] by decide +kernel]; exact fin _ (by simp)
    · have hl : l ≠ [] := fun e => c (by rw [e]; decide +kernel)
      walk_at "g"
      refine r_while (fun m σ' H' => ∃ (pre left fo : List Nat) (x4 x5 x6 : Option V), σ' = [some (.ref b), some (.str (S l)), some (.str (S fo)), some (.str (S left)), x4, x5, x6] ∧ m = left.length ∧ pre ++ left = l ∧ Wrt pre fo ∧ Keep b H H' ∧ Bx H' b (n + 45 * pre.length)) l.length ⟨[], l, [], _, _, _, by rw [show S [] = Str.ofString "" by decide +kernel]; rfl, rfl, rfl, .nil, Keep.refl _ _, hb⟩ ?_
      rintro m σ1 H1 ⟨pre, left, fo, x4, x5, x6, rfl, rfl, hpl, hw, kp1, bx1⟩
      have lens : pre.length + left.length = l.length := by rw [← hpl, List.length_append]
      have l40 := hz.1
      have fol := hw.len
      walk_at "g"
      refine r_iteN (fun c1 => ?_) fun c1 => ?_
      · have hleft : left ≠ [] := fun e => c1 (by rw [e]; decide +kernel)
        have ll : 0 < left.length := List.length_pos_iff.mpr hleft
        refine ⟨_, fun _ _ h => h, ?_⟩
        walk_at "g"
        refine r_len (by rw [S_len]; exact Nat.le_trans (show _ ≤ 40 by omega) (by decide)) ?_
        rw [S_len]
        walk_at "g"
        refine ⟨b, _, _, rfl, bx1, by omega, by omega, by omega, fun k1 H2 k10 k11 kp2 bx2 => ?_⟩
        walk_at "g"
        rw [show (1 : Int) + k1 = ((k1.toNat + 1 : Nat) : Int) by omega]
        refine r_slS (by rw [S_len]; omega) ?_
        rw [cutS_take, cd_S]
        walk_at "g"
        refine r_slS (by rw [S_len]; omega) ?_
        rw [cutS_drop, cd_S]
        walk_at "g"
        refine ⟨b, _, _, rfl, bx2, by omega, by omega, by omega, fun k2 H3 k20 k21 kp3 bx3 => ?_⟩
        have hp : left.take (k1.toNat + 1) ≠ [] := fun e => by have := congrArg List.length e; rw [List.length_take, List.length_nil] at this; omega
        have pl : (left.take (k1.toNat + 1)).length ≤ 40 := by rw [List.length_take]; omega
        have spl : left.take (k1.toNat + 1) ++ left.drop (k1.toNat + 1) = left := List.take_append_drop ..
        have dl : (left.drop (k1.toNat + 1)).length < left.length := by rw [List.length_drop]; omega
        have pp : 0 < (left.take (k1.toNat + 1)).length := List.length_pos_iff.mpr hp
        generalize left.take (k1.toNat + 1) = pc at hp pl spl pp ⊢
        generalize left.drop (k1.toNat + 1) = rest at spl dl ⊢
        have fin : ∀ (q : List Nat) (H4 : Hp) (x4 x5 x6 : Option V), Pc pc q → Keep b H3 H4 → Bx H4 b (n + 45 * pre.length + 1 + 1 + 40) → ∃ m', m' < left.length ∧ ∃ (pre' left' fo' : List Nat) (y4 y5 y6 : Option V), [some (V.ref b), some (.str (S l)), some (.str (S (fo ++ q))), some (.str (S rest)), x4, x5, x6] = [some (.ref b), some (.str (S l)), some (.str (S fo')), some (.str (S left')), y4, y5, y6] ∧ m' = left'.length ∧ pre' ++ left' = l ∧ Wrt pre' fo' ∧ Keep b H H4 ∧ Bx H4 b (n + 45 * pre'.length) := fun q H4 x4 x5 x6 hq kp4 bx4 =>
          ⟨_, dl, pre ++ pc, rest, fo ++ q, x4, x5, x6, rfl, rfl, by rw [List.append_assoc, spl]; exact hpl, hw.snoc hp hq, ((kp1.trans kp2).trans kp3).trans kp4, bx4.mono (by rw [List.length_append]; omega)⟩
        have pcl : pc.length ≤ 40 := pl
        have fl160 : fo.length ≤ 160 := by omega
        have e1 : (Str.ofString "'").length = 1 := rfl
        have e2 : (Str.ofString "\"").length = 1 := rfl
        refine r_gname ?_
        refine r_ifK (decide (k2 = 0 ∧ 39 ∉ pc)) (fun N hN => ?_) (fun hb' => ?_) fun hb' => ?_
        · walk_at "g"
          refine r_iteD (fun w0 => ?_) fun w0 => ?_
          · walk_at "g"
            refine r_inLT 39 l_q1 ?_
            rw [cd_S]
            walk_at "g"
            have : (!decide (39 ∈ pc)) = decide (k2 = 0 ∧ 39 ∉ pc) := by simp [w0]
            rw [this]
            exact hN
          · rw [decide_eq_false (fun q => w0 q.1)] at hN
            exact hN
        · have hb2 := of_decide_eq_true hb'
          walk_at "g"
          refine r_addS (by rw [e1, S_len]; exact Nat.le_trans (show _ ≤ 161 by omega) (by decide)) ?_
          walk_at "g"
          refine r_addS (by rw [len_app, e1, S_len, S_len]; exact Nat.le_trans (show _ ≤ 201 by omega) (by decide)) ?_
          walk_at "g"
          refine r_addS (by rw [len_app, len_app, e1, S_len, S_len]; exact Nat.le_trans (show _ ≤ 202 by omega) (by decide)) ?_
          have : (S fo ++ Str.ofString "'" ++ S pc ++ Str.ofString "'" : Str) = S (fo ++ (39 :: pc ++ [39])) := by rw [str_eq, cd_app, cd_app, cd_app, cd_S, cd_S, cd_S]; simp [l_q1]
          rw [this]
          walk_at "g"
          exact fin _ H3 _ _ _ (.sq hb2.2) (Keep.refl _ _) (bx3.mono (by omega))
        · walk_at "g"
          refine r_iteD (fun w1 => ?_) fun w1 => ?_
          · walk_at "g"
            refine r_addS (by rw [e2, S_len]; exact Nat.le_trans (show _ ≤ 161 by omega) (by decide)) ?_
            walk_at "g"
            refine ⟨b, _, _, _, rfl, bx3, by omega, by rw [cd_S]; exact pcl, fun o H4 ho kp4 bx4 => ?_⟩
            rw [cd_S] at ho
            have ol := ho.len
            refine r_addS (by rw [len_app, e2, S_len, S_len]; exact Nat.le_trans (show _ ≤ 241 by omega) (by decide)) ?_
            walk_at "g"
            refine r_addS (by rw [len_app, len_app, e2, S_len, S_len]; exact Nat.le_trans (show _ ≤ 242 by omega) (by decide)) ?_
            have : (S fo ++ Str.ofString "\"" ++ S o ++ Str.ofString "\"" : Str) = S (fo ++ (34 :: o ++ [34])) := by rw [str_eq, cd_app, cd_app, cd_app, cd_S, cd_S, cd_S]; simp [l_q2]
            rw [this]
            walk_at "g"
            have hd : cd (Str.ofString "\"\\") = N2 := l_need2
            rw [hd] at ho
            exact fin _ H4 _ _ _ (.dq ho) kp4 (bx4.mono (by omega))
          · walk_at "g"
            refine ⟨b, _, _, _, rfl, bx3, by omega, by rw [cd_S]; exact pcl, fun o H4 ho kp4 bx4 => ?_⟩
            rw [cd_S] at ho
            have ol := ho.len
            refine r_addS (by rw [S_len, S_len]; exact Nat.le_trans (show _ ≤ 240 by omega) (by decide)) ?_
            rw [S_app]
            walk_at "g"
            have hd : cd (Str.ofString " '\"\\") = N1 := l_need
            rw [hd] at ho
            exact fin _ H4 _ _ _ (.ba ho) kp4 (bx4.mono (by omega))
      · have hleft : left = [] := by rw [str_eq, cd_S, show cd (Str.ofString "") = [] from l_nil] at c1; exact c1
        subst hleft
        walk_at "g"
        rw [List.append_nil] at hpl
        subst hpl
        exact k fo H1 (.inr ⟨hl, hw⟩) kp1 (bx1.mono (by omega))
end
end K09

namespace K09
open PySem PySem.Spec PyProof.Rows L2 J M
local macro_rules | `(tactic| walk_at "hp") => `(tactic| first | assumption | exact upd_same | (rw [upd_ne (by assumption)]; walk_at "hp") | (rw [upd_ne (Ne.symm (by assumption))]; walk_at "hp"))
local macro_rules | `(tactic| walk_at "s") => `(tactic| first
  | ((with_reducible refine' r_var ?h ?k); (case h => exact rfl))
  | (with_reducible refine r_c ?_)
  | (with_reducible refine r_op ?_)
  | (with_reducible refine r_un ?_)
  | (with_reducible refine r_seq ?_)
  | (with_reducible refine r_next ?_)
  | (with_reducible refine r_sets ?_)
  | (with_reducible refine r_gname ?_)
  | (with_reducible refine r_ifS ?_)
  | (with_reducible refine r_gsub ?_)
  | (with_reducible refine r_test ?_)
  | (with_reducible refine r_tb ?_)
  | (with_reducible refine r_not ?_)
  | (with_reducible refine r_and ?_)
  | (with_reducible refine r_or ?_)
  | (with_reducible refine r_andV ?_)
  | (with_reducible refine r_orV ?_)
  | (with_reducible refine r_notV ?_)
  | (with_reducible refine r_ifE ?_)
  | (with_reducible refine r_chain ?_)
  | (with_reducible refine r_cb ?_)
  | (with_reducible refine r_cons ?_)
  | (with_reducible refine r_nil ?_)
  | (with_reducible refine r_call ?_)
  | (with_reducible refine r_lst ?_)
  | (with_reducible refine r_tup ?_)
  | (with_reducible refine r_slice ?_)
  | (with_reducible refine r_nop ?_)
  | (with_reducible refine r_part ?_)
  | (with_reducible refine r_bm ?_)
  | (with_reducible refine r_m1 ?_)
  | (with_reducible refine r_m0 ?_)
  | (with_reducible refine r_is ?_)
  | (with_reducible refine r_maxD ?_)
  | (with_reducible refine r_orT ?_)
  | (with_reducible refine r_truN ?_)
  | (with_reducible refine r_intI ?_)
  | (with_reducible refine r_intB ?_)
  | (with_reducible refine r_max2 ?_)
  | (with_reducible refine r_min2 ?_)
  | (with_reducible refine r_yes ?_)
  | (with_reducible refine r_bl ?_)
  | (with_reducible refine iteT ?_)
  | (with_reducible refine iteF ?_)
  | (with_reducible refine r_iteNT ?_)
  | (with_reducible refine r_iteNF ?_)
  | (with_reducible refine r_minL ?_)
  | (with_reducible refine r_gcons ?_)
  | (with_reducible refine r_gnil ?_)
  | (with_reducible refine r_par ?_)
  | (with_reducible refine r_par3 ?_)
  | (with_reducible refine r_is2 ?_)
  | (with_reducible refine r_is3 ?_)
  | (with_reducible refine r_dget ?_)
  | (with_reducible refine r_callS ?_)
  | (with_reducible refine r_rz ?_)
  | (with_reducible refine r_rev ?_)
  | (with_reducible refine r_isI ?_)
  | (with_reducible refine r_isStr ?_)
  | (with_reducible refine r_ret ?_)
  | (with_reducible refine r_drop ?_)
  | (with_reducible refine r_rI0 ?_)
  | (with_reducible refine r_addI ?_)
  | ((with_reducible show rI (fun _ j => 0 < j) _ (.int _) (.int _) _ _); refine r_rI (by first | omega | decide) ?_)
  | ((with_reducible show rI CDiv _ (.int _) (.int _) _ _); refine r_rI (by constructor <;> omega) ?_)
  | ((with_reducible show rI CPow _ (.int _) (.int _) _ _); refine r_rI (by refine ⟨by decide, by decide, ?_⟩; omega) ?_)
  | ((with_reducible show rMul (.int _) (.int _) _ _); refine r_mulI (cmulW (by omega) (by omega)) ?_)
  | (with_reducible refine r_cmpI ?_)
  | (with_reducible refine r_cmpS ?_)
  | (with_reducible refine r_eqI ?_)
  | (with_reducible refine r_neI ?_)
  | (with_reducible refine r_eqS ?_)
  | (with_reducible refine r_neS ?_)
  | (with_reducible refine r_inSF ?_)
  | (with_reducible refine r_inST ?_)
  | (with_reducible refine r_isiStr ?_)
  | ((with_reducible show rIx _ (.ref _) (.int _) _ _); refine' r_ixL (SqL.of ?h) ?e ?_; (case h => walk_at "hp"); (case e => rfl))
  | ((with_reducible show rSetL (.ref _) (.int _) _ _ _); refine' r_setL ?h ?e ?_; (case h => walk_at "hp"); (case e => rfl)))
local macro_rules | `(tactic| walk_at "g") => `(tactic| repeat walk_at "s")


local macro_rules | `(tactic| walk_at "x") => `(tactic| first | omega | (simp only [one_nl, one_bs, one_q1, one_q2, qS_nil, qS_q1, one_qS, mem_part, mem_qs, mem_all]; omega))
local macro_rules | `(tactic| walk_at "d") => `(tactic| first
  | (with_reducible refine iteDT (by walk_at "x") ?_)
  | (with_reducible refine iteDF (by walk_at "x") ?_)
  | (with_reducible refine iteNT (by walk_at "x") ?_)
  | (with_reducible refine iteNF (by walk_at "x") ?_))
local macro_rules | `(tactic| walk_at "G") => `(tactic| repeat (first | walk_at "s" | walk_at "d"))
section
variable {P : Program} {w : World} {K : PySem.W.Frag} {mg : Str → Option Value} {base : Heap}  -- own
theorem ok_good (T : Tx K mg) {f f_law_take f_law_pick f_law_sign f_law_word f_law_stroked f_law_gap f_law_written : Addr} {fd fd_law_take fd_law_pick fd_law_sign fd_law_word fd_law_stroked fd_law_gap fd_law_written : FuncData} (F : Fun K "_law_good" "_law_good" s_law_good f fd) (D_law_take : DAt K mg "_law_take" s_law_take P_law_take f_law_take fd_law_take) (D_law_pick : DAt K mg "_law_pick" s_law_pick P_law_pick f_law_pick fd_law_pick)
    (D_law_sign : DAt K mg "_law_sign" s_law_sign P_law_sign f_law_sign fd_law_sign) (D_law_word : DAt K mg "_law_word" s_law_word P_law_word f_law_word fd_law_word)
    (D_law_stroked : DAt K mg "_law_stroked" s_law_stroked P_law_stroked f_law_stroked fd_law_stroked) (D_law_gap : DAt K mg "_law_gap" s_law_gap P_law_gap f_law_gap fd_law_gap) (D_law_written : DAt K mg "_law_written" s_law_written P_law_written f_law_written fd_law_written) : FnOk P w K mg base CX0 5 f fd P_law_good spGood := by
  have G_law_take : FnOk P w K mg base CX0 1 f_law_take fd_law_take P_law_take spTake := ok_take D_law_take.fn
  have G_law_word : FnOk P w K mg base CX0 4 f_law_word fd_law_word P_law_word spWord := ok_word T D_law_word.fn D_law_take D_law_pick D_law_sign
  have G_law_gap : FnOk P w K mg base CX0 3 f_law_gap fd_law_gap P_law_gap spGap := ok_gap T D_law_gap.fn D_law_take D_law_pick
  have G_law_written : FnOk P w K mg base CX0 3 f_law_written fd_law_written P_law_written spWritten := ok_written T D_law_written.fn D_law_take D_law_pick D_law_stroked
  refine F.ok sc_law_good (fun vs H Q E h => ?_) (fun cdv A outer s H vs Q E hr h => ?_)
  · obtain ⟨b, n, rfl, _⟩ := h
    rfl
  · obtain ⟨b, n, rfl, hb, hn, k⟩ := h
    refine ⟨_, (pss_cons (ps_set (i := 1) sc_law_good.nd rfl (Or.inr rfl) (pe_ix (ix_seq : IxR _ (rIx K)) (pe_lst (pa_cons pe_int (pa_cons pe_int (pa_cons pe_int (pa_cons pe_int (pa_cons (pe_call G_law_take (hr.mono (by decide)) rfl D_law_take.gl D_law_take.fn.kp D_law_take.bd .nil pass0 (pa_cons (pv 0) (pa_cons pe_int pa_nil))) (pa_cons pe_int pa_nil))))))) (pe_call G_law_take (hr.mono (by decide)) rfl D_law_take.gl D_law_take.fn.kp D_law_take.bd .nil pass0 (pa_cons (pv 0) (pa_cons pe_int pa_nil))) (fun _ _ => rfl))) (pss_cons (ps_setLc (i := 2) (own := [("_law_k", 6)]) (g := (gName 6)) rfl sc_law_good.nd rfl rfl (sw_true rfl rfl rfl (by decide +kernel)) (pi_range1 rfl T.z_range (pa_cons (pv 1) pa_nil)) (blkOk_by (N := N_law_good) (sc := defScope s_law_good) (by decide +kernel)) (fun _ _ _ _ _ => pg_name (i := 6) sc_law_good.nd rfl (Or.inl rfl)) (fun _ _ _ _ _ => pts_nil) (fun _ _ _ _ _ => (pe_slice (sl_any : SlR _ (rSl K)) (pe_call G_law_word (hr.mono (by decide)) rfl D_law_word.gl D_law_word.fn.kp D_law_word.bd .nil pass0 (pa_cons (pv 0) (pa_cons (pe_ix (ix_seq : IxR _ (rIx K)) (pe_lst (pa_cons pe_int (pa_cons pe_int pa_nil))) (pe_callTy call_intA (by rfl) T.z_int (by decide +kernel) (pa_cons (pe_cmpR op_gtA (pv 1) pe_int (nomark _)) pa_nil)) (fun _ _ => rfl)) pa_nil))) po_none (po_some (pe_ix (ix_seq : IxR _ (rIx K)) (pe_lst (pa_cons pe_int (pa_cons pe_int pa_nil))) (pe_callTy call_intA (by rfl) T.z_int (by decide +kernel) (pa_cons (pe_cmpR op_gtA (pv 1) pe_int (nomark _)) pa_nil)) (fun _ _ => rfl)))))) (pss_cons (ps_set (i := 3) sc_law_good.nd rfl (Or.inl rfl) (pe_call G_law_gap (hr.mono (by decide)) rfl D_law_gap.gl D_law_gap.fn.kp D_law_gap.bd .nil pass0 (pa_cons (pv 0) (pa_cons pe_int pa_nil)))) (pss_cons (ps_for (PassesOwn.never) rfl (asEnum (K := K) rfl (pi_enum rfl T.z_enumerate (pa_cons (pv 2) pa_nil))) (asGTup (K := K) rfl (pg_tup rfl (pgs_cons (pg_name (i := 4) sc_law_good.nd rfl (Or.inl rfl)) (pgs_cons (pg_name (i := 5) sc_law_good.nd rfl (Or.inl rfl)) pgs_nil)))) (pss_one (ps_set (i := 3) sc_law_good.nd rfl (Or.inl rfl) (pe_op (oAdd : OpR _ _ (J.rAdd K)) (pe_op (oAdd : OpR _ _ (J.rAdd K)) (pv 3) (pe_call G_law_gap (hr.mono (by decide)) rfl D_law_gap.gl D_law_gap.fn.kp D_law_gap.bd .nil pass0 (pa_cons (pv 0) (pa_cons (pe_callTy call_intA (by rfl) T.z_int (by decide +kernel) (pa_cons (pe_cmpR op_gtA (pv 4) pe_int (nomark _)) pa_nil)) pa_nil)))) (pe_call G_law_written (hr.mono (by decide)) rfl D_law_written.gl D_law_written.fn.kp D_law_written.bd .nil pass0 (pa_cons (pv 0) (pa_cons (pv 5) pa_nil))))))) (pss_one (ps_ret (pe_tup (pa_cons (pv 2) (pa_cons (pe_op (oAdd : OpR _ _ (J.rAdd K)) (pv 3) (pe_call G_law_gap (hr.mono (by decide)) rfl D_law_gap.gl D_law_gap.fn.kp D_law_gap.bd .nil pass0 (pa_cons (pv 0) (pa_cons pe_int pa_nil)))) pa_nil))))))))), ?_⟩
    walk_at "G"
    refine ⟨b, _, n, rfl, hb, by omega, by omega, by omega, fun i H1 i0 i1 kp1 bx1 => ?_⟩
    walk_at "G"
    refine ⟨show 6 ≤ sizeLine by decide, fun p hp => ?_⟩
    walk_at "G"
    refine ⟨b, _, n + 1, rfl, bx1.new hp, by omega, by omega, by omega, fun j H2 j0 j1 kp2 bx2 => ?_⟩
    have pb : p ≠ b := bx1.ne hp
    have h2 := kp2 p _ upd_same pb
    have kpz : Keep b H H2 := (kp1.trans (Keep.new _ hp)).trans kp2
    have key : ∃ q : Nat, atI [V.int 0, V.int 1, V.int 2, V.int 3, V.int i, V.int 40] j = some (V.int (q : Nat)) ∧ (q ≤ 5 ∨ q = 40) := by
      rcases (show j = 0 ∨ j = 1 ∨ j = 2 ∨ j = 3 ∨ j = 4 ∨ j = 5 by omega) with rfl | rfl | rfl | rfl | rfl | rfl
      · exact ⟨0, rfl, by omega⟩
      · exact ⟨1, rfl, by omega⟩
      · exact ⟨2, rfl, by omega⟩
      · exact ⟨3, rfl, by omega⟩
      · exact ⟨i.toNat, by rw [Int.toNat_of_nonneg i0]; rfl, by omega⟩
      · exact ⟨40, rfl, by omega⟩
    obtain ⟨q, hq, q5⟩ := key
    refine r_ixL (SqL.of h2) hq ?_
    walk_at "G"
    refine r_lcR rfl (by omega) fun D hD => ?_
    have Db : D ≠ b := bx2.ne hD
    have most : ∃ m : Nat, (m = 40 ∨ m = 2) ∧ (q ≤ 5 → m = 40) ∧ (q = 40 → m = 2) ∧ atI [V.int 40, V.int 2] (if decide ((q : Int) > 6) = true then 1 else 0) = some (V.int (m : Nat)) := by
      rcases q5 with h | h
      · exact ⟨40, .inl rfl, fun _ => rfl, fun h => by omega, by rw [decide_eq_false (by omega)]; rfl⟩
      · exact ⟨2, .inr rfl, fun h => by omega, fun _ => rfl, by rw [decide_eq_true (by omega)]; rfl⟩
    obtain ⟨m, m2, m3, m4, hm⟩ := most
    refine comp_of q (fun i H' => ∃ ls : List (List Nat), ls.length = i ∧ (∀ l ∈ ls, l.length ≤ m ∧ Wd l) ∧ H' D = some (.lst (ls.map wV)) ∧ Keep b H H' ∧ Bx H' b (n + 2 + 100 * i)) ⟨[], rfl, fun _ h => (List.not_mem_nil h).elim, upd_same, kpz.trans (Keep.new _ hD), (bx2.new hD).mono (by omega)⟩ (fun i H' hi _ => hi) (fun _ _ => Nat.le_refl _) ?_ ?_
    · rintro i H1 x H' hi ⟨ls, hl, hc, hd, kp1, hb1⟩ ⟨rfl, rfl⟩
      walk_at "G"
      refine ⟨rfl, ?_⟩
      walk_at "G"
      refine ⟨show 2 ≤ sizeLine by decide, fun p3 hp3 => ?_⟩
      walk_at "G"
      refine r_ixL (SqL.of upd_same) hm ?_
      walk_at "G"
      refine ⟨b, _, m, rfl, by omega, hb1.new hp3, by omega, fun l H3 ll wl kp3 bx3 => ?_⟩
      walk_at "G"
      refine ⟨show 2 ≤ sizeLine by decide, fun p4 hp4 => ?_⟩
      walk_at "G"
      refine r_ixL (SqL.of upd_same) hm ?_
      walk_at "G"
      refine r_slS (by rw [S_len]; exact Nat.le_trans wl.1 (by decide)) ?_
      rw [cutS_take, cd_S]
      have kp4 := (Keep.new (b := b) (HO.lst [V.int 40, V.int 2]) hp3).trans (kp3.trans (Keep.new (HO.lst [V.int 40, V.int 2]) hp4))
      have bx4 := bx3.new (o := HO.lst [V.int 40, V.int 2]) hp4
      refine ⟨_, kp4 D _ hd Db, by rw [List.length_map]; exact Nat.lt_of_le_of_lt (show _ ≤ 40 by omega) (by decide), ls ++ [l.take m], by rw [List.length_append, hl]; rfl, fun d hx => ?_, by rw [upd_same, List.map_append]; rfl, (kp1.trans kp4).at (kpz.free Db hD) _, (bx4.at Db _).mono (by omega)⟩
      rcases List.mem_append.mp hx with h | h
      · exact hc d h
      · rw [List.mem_singleton.mp h]
        exact ⟨by rw [List.length_take]; omega, by rw [List.length_take]; have := wl.1; omega, fun c hc => wl.2 c (List.mem_of_mem_take hc)⟩
    · rintro H3 ⟨ls, hl, hw, hd, kp3, bx3⟩
      walk_at "G"
      refine ⟨b, _, 0, rfl, by decide, bx3, by omega, fun g0 H4 hg0 gl0 _ kp4 bx4 => ?_⟩
      have gpc : ∀ {g : List Nat}, Gp g → ∀ c ∈ g, c = 10 ∨ 32 ≤ c ∧ c ≤ 126 := fun hg c hc => by have := hg c hc; omega
      have hd4 := kp4 D _ hd Db
      have kp5 := kp3.trans kp4
      walk_at "G"
      refine r_forEnumL rfl (fun j σ' H' => ∃ (fo : List Nat) (x4 x5 x6 : Option V), σ' = [some (.ref b), some (.int q), some (.ref D), some (.str (S fo)), x4, x5, x6] ∧ SoFar (ls.take j) fo ∧ fo.length ≤ 1 + (6 + 4 * m) * j ∧ (∀ c ∈ fo, c = 10 ∨ 32 ≤ c ∧ c ≤ 126) ∧ Keep b H H' ∧ H' D = some (.lst (ls.map wV)) ∧ Bx H' b (n + 12 + 100 * q + 2010 * j)) (fun j σ' H' ⟨_, _, _, _, _, _, _, _, _, hd, _⟩ => SqL.of hd) ⟨g0, _, _, _, rfl, (Whole.zero hg0).soFar, gl0, gpc hg0, kp5, hd4, bx4.mono (by omega)⟩ ?_ ?_
      · rintro j σ1 H5 A1 x hx ⟨fo, x4, x5, x6, rfl, hs, fl, fc, kp6, hd6, bx6⟩ hA
        rw [List.getElem?_map] at hx
        obtain ⟨l, hll, rfl⟩ := Option.map_eq_some_iff.mp hx
        have hj : j < ls.length := (List.getElem?_eq_some_iff.mp hll).1
        have fb : (6 + 4 * m) * j ≤ 1000 := by
          rcases q5 with h | h
          · have : (6 + 4 * m) * j ≤ 166 * 4 := Nat.mul_le_mul (by omega) (by omega)
            omega
          · have : (6 + 4 * m) * j ≤ 14 * 40 := Nat.mul_le_mul (by have := m4 h; omega) (by omega)
            omega
        have wl := hw l (List.mem_of_getElem? hll)
        have kp7 := kp6.trans (Keep.new (HO.tup [.int (j : Nat), wV l]) hA)
        have hd7 : upd H5 A1 (HO.tup [.int (j : Nat), wV l]) D = some (.lst (ls.map wV)) := by rw [upd_ne (new_ne hA hd6).symm]; exact hd6
        have bx7 := bx6.new (o := HO.tup [.int (j : Nat), wV l]) hA
        refine r_gtup (SqT.of upd_same) rfl ?_
        generalize upd H5 A1 (HO.tup [.int (j : Nat), wV l]) = H6 at kp7 bx7 hd7 ⊢
        simp only [wV]
        walk_at "G"
        have few : (if decide ((j : Int) > 0) = true then (1 : Int) else 0) = ((if 0 < j then 1 else 0 : Nat) : Int) := by
          by_cases q : 0 < j
          · rw [if_pos q, if_pos (decide_eq_true (by omega))]; rfl
          · rw [if_neg q, if_neg (by rw [decide_eq_false (by omega)]; exact Bool.false_ne_true)]; rfl
        rw [few]
        refine ⟨b, _, _, rfl, by split <;> decide, bx7, by omega, fun g H7 hg gl0 gl1 kp8 bx8 => ?_⟩
        have gl2 : g.length ≤ 2 := by split at gl0 <;> omega
        have wh : Whole (ls.take j) (fo ++ g) := hs.gap hg (by
          by_cases q : 0 < j
          · rw [if_pos q] at gl1
            exact .inl (fun e => by rw [e] at gl1; simp at gl1)
          · exact .inr (by rw [show j = 0 by omega]; rfl))
        refine r_addS (by rw [S_len, S_len]; exact Nat.le_trans (show _ ≤ 2000 by omega) (by decide)) ?_
        rw [S_app]
        walk_at "G"
        refine ⟨b, _, S l, rfl, bx8, by omega, by rw [cd_S]; exact wl.2, fun o H8 ho kp9 bx9 => ?_⟩
        rw [cd_S] at ho
        have ol := wro_len ho
        have l1 := wl.1
        have sf := wh.word ho wl.2.2 wl.2.1
        have e1 : (6 + 4 * m) * (j + 1) = (6 + 4 * m) * j + (6 + 4 * m) := Nat.mul_succ _ _
        refine r_addS (by rw [S_len, S_len, List.length_append]; exact Nat.le_trans (show _ ≤ 2000 by omega) (by decide)) ?_
        rw [S_app]
        walk_at "G"
        refine ⟨fo ++ g ++ o, _, _, _, rfl, by rw [take_snoc hll]; exact sf, by rw [List.length_append, List.length_append, e1]; omega, fun c hc => ?_, (kp7.trans kp8).trans kp9, kp9 D _ (kp8 D _ hd7 Db) Db, bx9.mono (by omega)⟩
        rcases List.mem_append.mp hc with q | q
        · rcases List.mem_append.mp q with q | q  -- own
          · exact fc c q
          · exact gpc hg c q
        · exact .inr (ho.mem wl.2.2 c q)
      · rintro σ1 H5 ⟨fo, x4, x5, x6, rfl, hs, fl, fc, kp6, hd6, bx6⟩
        rw [List.length_map] at hs fl bx6
        rw [List.take_length] at hs
        have fb : (6 + 4 * m) * ls.length ≤ 1000 := by
          rcases q5 with h | h
          · have : (6 + 4 * m) * ls.length ≤ 166 * 5 := Nat.mul_le_mul (by omega) (by omega)
            omega
          · have : (6 + 4 * m) * ls.length ≤ 14 * 40 := Nat.mul_le_mul (by have := m4 h; omega) (by omega)
            omega
        walk_at "G"
        refine ⟨b, _, 0, rfl, by decide, bx6, by omega, fun g H7 hg gl0 gl1 kp8 bx8 => ?_⟩
        refine r_addS (by rw [S_len, S_len]; exact Nat.le_trans (show _ ≤ 3000 by omega) (by decide)) ?_
        rw [S_app]
        walk_at "G"
        refine ⟨show 2 ≤ sizeLine by decide, fun p9 hp9 => ?_⟩
        have hd8 := kp8 D _ hd6 Db
        refine k ls (fo ++ g) p9 D _ (by omega) (fun l h => (hw l h).2) ⟨by rw [List.length_append]; omega, fun c hc => ?_, hs.done hg⟩ ((kp6.trans kp8).trans (Keep.new _ hp9)) ((bx8.new hp9).mono (by omega)) upd_same (by rw [upd_ne (new_ne hp9 hd8).symm]; exact hd8) (bx8.ne hp9) Db
        rcases List.mem_append.mp hc with q | q
        · exact fc c q
        · exact gpc hg c q
end
end K09

namespace K09
open PySem PySem.Spec PyProof.Rows L2 J M
local macro_rules | `(tactic| walk_at "hp") => `(tactic| first | assumption | exact upd_same | (rw [upd_ne (by assumption)]; walk_at "hp") | (rw [upd_ne (Ne.symm (by assumption))]; walk_at "hp"))
local macro_rules | `(tactic| walk_at "s") => `(tactic| first
  | ((with_reducible refine' r_var ?h ?k); (case h => exact rfl))
  | (with_reducible refine r_c ?_)
  | (with_reducible refine r_op ?_)
  | (with_reducible refine r_un ?_)
  | (with_reducible refine r_seq ?_)
  | (with_reducible refine r_next ?_)
  | (with_reducible refine r_sets ?_)
  | (with_reducible refine r_gname ?_)
  | (with_reducible refine r_ifS ?_)
  | (with_reducible refine r_gsub ?_)
  | (with_reducible refine r_test ?_)
  | (with_reducible refine r_tb ?_)
  | (with_reducible refine r_not ?_)
  | (with_reducible refine r_and ?_)
  | (with_reducible refine r_or ?_)
  | (with_reducible refine r_andV ?_)
  | (with_reducible refine r_orV ?_)
  | (with_reducible refine r_notV ?_)
  | (with_reducible refine r_ifE ?_)
  | (with_reducible refine r_chain ?_)
  | (with_reducible refine r_cb ?_)
  | (with_reducible refine r_cons ?_)
  | (with_reducible refine r_nil ?_)
  | (with_reducible refine r_call ?_)
  | (with_reducible refine r_lst ?_)
  | (with_reducible refine r_tup ?_)
  | (with_reducible refine r_slice ?_)
  | (with_reducible refine r_nop ?_)
  | (with_reducible refine r_part ?_)
  | (with_reducible refine r_bm ?_)
  | (with_reducible refine r_m1 ?_)
  | (with_reducible refine r_m0 ?_)
  | (with_reducible refine r_is ?_)
  | (with_reducible refine r_maxD ?_)
  | (with_reducible refine r_orT ?_)
  | (with_reducible refine r_truN ?_)
  | (with_reducible refine r_intI ?_)
  | (with_reducible refine r_intB ?_)
  | (with_reducible refine r_max2 ?_)
  | (with_reducible refine r_min2 ?_)
  | (with_reducible refine r_yes ?_)
  | (with_reducible refine r_bl ?_)
  | (with_reducible refine iteT ?_)
  | (with_reducible refine iteF ?_)
  | (with_reducible refine r_iteNT ?_)
  | (with_reducible refine r_iteNF ?_)
  | (with_reducible refine r_minL ?_)
  | (with_reducible refine r_gcons ?_)
  | (with_reducible refine r_gnil ?_)
  | (with_reducible refine r_par ?_)
  | (with_reducible refine r_par3 ?_)
  | (with_reducible refine r_is2 ?_)
  | (with_reducible refine r_is3 ?_)
  | (with_reducible refine r_dget ?_)
  | (with_reducible refine r_callS ?_)
  | (with_reducible refine r_rz ?_)
  | (with_reducible refine r_rev ?_)
  | (with_reducible refine r_isI ?_)
  | (with_reducible refine r_isStr ?_)
  | (with_reducible refine r_ret ?_)
  | (with_reducible refine r_drop ?_)
  | (with_reducible refine r_rI0 ?_)
  | (with_reducible refine r_addI ?_)
  | ((with_reducible show rI (fun _ j => 0 < j) _ (.int _) (.int _) _ _); refine r_rI (by first | omega | decide) ?_)
  | ((with_reducible show rI CDiv _ (.int _) (.int _) _ _); refine r_rI (by constructor <;> omega) ?_)
  | ((with_reducible show rI CPow _ (.int _) (.int _) _ _); refine r_rI (by refine ⟨by decide, by decide, ?_⟩; omega) ?_)
  | ((with_reducible show rMul (.int _) (.int _) _ _); refine r_mulI (cmulW (by omega) (by omega)) ?_)
  | (with_reducible refine r_cmpI ?_)
  | (with_reducible refine r_cmpS ?_)
  | (with_reducible refine r_eqI ?_)
  | (with_reducible refine r_neI ?_)
  | (with_reducible refine r_eqS ?_)
  | (with_reducible refine r_neS ?_)
  | (with_reducible refine r_inSF ?_)
  | (with_reducible refine r_inST ?_)
  | (with_reducible refine r_isiStr ?_)
  | ((with_reducible show rIx _ (.ref _) (.int _) _ _); refine' r_ixL (SqL.of ?h) ?e ?_; (case h => walk_at "hp"); (case e => rfl))
  | ((with_reducible show rSetL (.ref _) (.int _) _ _ _); refine' r_setL ?h ?e ?_; (case h => walk_at "hp"); (case e => rfl)))
local macro_rules | `(tactic| walk_at "g") => `(tactic| repeat walk_at "s")


local macro_rules | `(tactic| walk_at "x") => `(tactic| first | omega | (simp only [one_nl, one_bs, one_q1, one_q2, qS_nil, qS_q1, one_qS, mem_part, mem_qs, mem_all]; omega))
local macro_rules | `(tactic| walk_at "d") => `(tactic| first
  | (with_reducible refine iteDT (by walk_at "x") ?_)
  | (with_reducible refine iteDF (by walk_at "x") ?_)
  | (with_reducible refine iteNT (by walk_at "x") ?_)
  | (with_reducible refine iteNF (by walk_at "x") ?_))
local macro_rules | `(tactic| walk_at "G") => `(tactic| repeat (first | walk_at "s" | walk_at "d"))
section
variable {P : Program} {w : World} {K : PySem.W.Frag} {mg : Str → Option Value} {base : Heap}  -- own
theorem ok_line (T : Tx K mg) {f f_law_take f_law_pick f_law_sign f_law_word f_law_stroked f_law_gap f_law_written f_law_good : Addr} {fd fd_law_take fd_law_pick fd_law_sign fd_law_word fd_law_stroked fd_law_gap fd_law_written fd_law_good : FuncData} (F : Fun K "_law_line" "_law_line" s_law_line f fd) (D_law_take : DAt K mg "_law_take" s_law_take P_law_take f_law_take fd_law_take) (D_law_pick : DAt K mg "_law_pick" s_law_pick P_law_pick f_law_pick fd_law_pick)
    (D_law_sign : DAt K mg "_law_sign" s_law_sign P_law_sign f_law_sign fd_law_sign) (D_law_word : DAt K mg "_law_word" s_law_word P_law_word f_law_word fd_law_word)
    (D_law_stroked : DAt K mg "_law_stroked" s_law_stroked P_law_stroked f_law_stroked fd_law_stroked) (D_law_gap : DAt K mg "_law_gap" s_law_gap P_law_gap f_law_gap fd_law_gap) (D_law_written : DAt K mg "_law_written" s_law_written P_law_written f_law_written fd_law_written) (D_law_good : DAt K mg "_law_good" s_law_good P_law_good f_law_good fd_law_good) : FnOk P w K mg base CX0 6 f fd P_law_line spLineZ := by
  have G_law_take : FnOk P w K mg base CX0 1 f_law_take fd_law_take P_law_take spTake := ok_take D_law_take.fn
  have G_law_pick : FnOk P w K mg base CX0 2 f_law_pick fd_law_pick P_law_pick (spPick K) := ok_pick T D_law_pick.fn D_law_take
  have G_law_sign : FnOk P w K mg base CX0 3 f_law_sign fd_law_sign P_law_sign spSign := ok_sign T D_law_sign.fn D_law_take D_law_pick
  have G_law_good : FnOk P w K mg base CX0 5 f_law_good fd_law_good P_law_good spGood := ok_good T D_law_good.fn D_law_take D_law_pick D_law_sign D_law_word D_law_stroked D_law_gap D_law_written
  refine F.ok sc_law_line (fun vs H Q E h => ?_) (fun cdv A outer s H vs Q E hr h => ?_)
  · obtain ⟨b, n, rfl, _⟩ := h
    rfl
  · obtain ⟨b, n, rfl, hb, hn, k⟩ := h
    refine ⟨_, (pss_cons (ps_set (i := 1) sc_law_line.nd rfl (Or.inl rfl) (pe_call G_law_take (hr.mono (by decide)) rfl D_law_take.gl D_law_take.fn.kp D_law_take.bd .nil pass0 (pa_cons (pv 0) (pa_cons pe_int pa_nil)))) (pss_cons (ps_if (pt_cmpR ((op_eqA hr.units) : OpR _ _ (rEqA K)) (pv 1) pe_int (nomark _)) (pss_one (ps_ret (asJoin (K := K) rfl (pe_join pe_str (pe_lc (own := [("_law_k", 6)]) (g := (gName 6)) rfl sc_law_line.nd (pi_range1 rfl T.z_range (pa_cons (pe_call G_law_take (hr.mono (by decide)) rfl D_law_take.gl D_law_take.fn.kp D_law_take.bd .nil pass0 (pa_cons (pv 0) (pa_cons pe_int pa_nil))) pa_nil)) (blkOk_by (N := N_law_line) (sc := defScope s_law_line) (by decide +kernel)) (fun _ _ _ _ _ => pg_name (i := 6) sc_law_line.nd rfl (Or.inl rfl)) (fun _ _ _ _ _ => pts_nil) (fun _ _ _ _ _ => (pe_call G_law_pick (hr.mono (by decide)) rfl D_law_pick.gl D_law_pick.fn.kp D_law_pick.bd .nil pass0 (pa_cons (pv 0) (pa_cons (pe_lst (pa_cons (pe_call G_law_sign (hr.mono (by decide)) rfl D_law_sign.gl D_law_sign.fn.kp D_law_sign.bd .nil pass0 (pa_cons (pv 0) pa_nil)) (pa_cons pe_str pa_nil))) pa_nil))))))))) pss_nil) (pss_cons (ps_asg (pe_call G_law_good (hr.mono (by decide)) rfl D_law_good.gl D_law_good.fn.kp D_law_good.bd .nil pass0 (pa_cons (pv 0) pa_nil)) (asGTup (K := K) rfl (pg_tup rfl (pgs_cons (pg_name (i := 2) sc_law_line.nd rfl (Or.inl rfl)) (pgs_cons (pg_name (i := 3) sc_law_line.nd rfl (Or.inl rfl)) pgs_nil))))) (pss_cons (ps_set (i := 4) sc_law_line.nd rfl (Or.inl rfl) (pe_call G_law_take (hr.mono (by decide)) rfl D_law_take.gl D_law_take.fn.kp D_law_take.bd .nil pass0 (pa_cons (pv 0) (pa_cons (pe_op (oAdd : OpR _ _ (J.rAdd K)) (pe_callB (call_lenA : CallR _ _ (rLen K)) (by rfl) T.z_len (by decide +kernel) (pa_cons (pv 3) pa_nil)) pe_int) pa_nil)))) (pss_cons (ps_set (i := 5) sc_law_line.nd rfl (Or.inl rfl) (pe_ix (ix_seq : IxR _ (rIx K)) (pe_lst (pa_cons (pe_op oMul pe_str pe_int) (pa_cons pe_str (pa_cons pe_str (pa_cons pe_str (pa_cons pe_str (pa_cons pe_str (pa_cons pe_str pa_nil)))))))) (pe_call G_law_take (hr.mono (by decide)) rfl D_law_take.gl D_law_take.fn.kp D_law_take.bd .nil pass0 (pa_cons (pv 0) (pa_cons pe_int pa_nil))) (fun _ _ => rfl))) (pss_one (ps_ret (pe_ix (ix_seq : IxR _ (rIx K)) (pe_lst (pa_cons (pv 3) (pa_cons (pe_op (oAdd : OpR _ _ (J.rAdd K)) (pe_op (oAdd : OpR _ _ (J.rAdd K)) (pe_slice (sl_any : SlR _ (rSl K)) (pv 3) po_none (po_some (pv 4))) (pv 5)) (pe_slice (sl_any : SlR _ (rSl K)) (pv 3) (po_some (pv 4)) po_none)) (pa_cons (pe_op (oAdd : OpR _ _ (J.rAdd K)) (pe_slice (sl_any : SlR _ (rSl K)) (pv 3) po_none (po_some (pv 4))) (pe_slice (sl_any : SlR _ (rSl K)) (pv 3) (po_some (pe_op (oAdd : OpR _ _ (J.rAdd K)) (pv 4) pe_int)) po_none)) (pa_cons (pe_slice (sl_any : SlR _ (rSl K)) (pv 3) po_none (po_some (pv 4))) pa_nil))))) (pe_op L2.op_sub (pv 1) pe_int) (fun _ _ => rfl))))))))), ?_⟩
    walk_at "G"
    refine ⟨b, _, n, rfl, hb, by omega, by omega, by omega, fun w0 H1 w1 w2 kp1 bx1 => ?_⟩
    walk_at "G"
    refine r_iteD (fun c => ?_) fun c => ?_
    · walk_at "G"
      refine r_lcRG ?_
      walk_at "G"
      refine ⟨b, _, _, rfl, bx1, by omega, by omega, by omega, fun t H2 t0 t1 kp2 bx2 => ?_⟩
      obtain ⟨q, rfl, hq⟩ : ∃ q : Nat, t = q ∧ q < 30 := ⟨t.toNat, by omega, by omega⟩
      refine ⟨_, rfl, by omega, by omega, fun D hD => ?_⟩
      rw [Int.toNat_natCast]
      have Db : D ≠ b := bx2.ne hD
      have kp := kp1.trans kp2
      refine comp_of q (fun i H' => ∃ cs : List Nat, cs.length = i ∧ (∀ c ∈ cs, c = 10 ∨ 32 ≤ c ∧ c ≤ 126) ∧ H' D = some (.lst (cs.map sgnV)) ∧ Keep b H H' ∧ Bx H' b (n + 2 + 3 * i)) ⟨[], rfl, fun _ h => (List.not_mem_nil h).elim, upd_same, kp.trans (Keep.new _ hD), (bx2.new hD).mono (by omega)⟩ (fun i H' hi _ => hi) (fun _ _ => Nat.le_refl _) ?_ ?_
      · rintro i H3 x H' hi ⟨cs, hl, hc, hd, kp3, bx3⟩ ⟨rfl, rfl⟩
        walk_at "G"
        refine ⟨rfl, ?_⟩
        walk_at "G"
        refine ⟨b, _, rfl, bx3, by omega, fun c H4 c0 c1 kp4 bx4 => ?_⟩
        walk_at "G"
        refine ⟨show 2 ≤ sizeLine by decide, fun p hp => ?_⟩
        have pb := bx4.ne hp
        refine ⟨b, _, bx4.new hp, by omega, .inr ⟨p, _, rfl, pb, SqL.of upd_same, (show 0 < 2 by decide), (show 2 ≤ 1000 by decide), fun v H5 hv kp5 bx5 => ?_⟩⟩
        have kp6 := (kp4.trans (Keep.new _ hp)).trans kp5
        have hv2 : ∃ d, v = sgnV d ∧ (d = 10 ∨ 32 ≤ d ∧ d ≤ 126) := by
          rcases List.mem_cons.mp hv with h | h
          · exact ⟨c, h, .inr ⟨c0, c1⟩⟩
          · rw [List.mem_singleton.mp h]
            exact ⟨10, by rw [show (Str.ofString "\n" : Str) = ⟨#[10]⟩ from by rw [str_eq]; exact l_nl]; rfl, .inl rfl⟩
        obtain ⟨d, rfl, hd1⟩ := hv2
        exact ⟨_, kp6 D _ hd Db, by rw [List.length_map]; exact Nat.lt_of_le_of_lt (show _ ≤ 40 by omega) (by decide), cs ++ [d], by rw [List.length_append, hl]; rfl, fun e hm => by
          rcases List.mem_append.mp hm with h | h
          · exact hc e h
          · rw [List.mem_singleton.mp h]; exact hd1, by rw [upd_same, List.map_append]; rfl, (kp3.trans kp6).at (kp.free Db hD) _, (bx5.at Db _).mono (by omega)⟩
      · rintro H' ⟨cs, hl, hc, hd, kp3, bx3⟩
        refine r_joinC hd (by omega) ?_
        exact k cs H' (by omega) hc kp3 (bx3.mono (by omega))
    · walk_at "G"
      refine ⟨b, _, rfl, bx1, by omega, fun ls f p wd H2 hl hw lf kp2 bx2 h1 h2 pb wb => ?_⟩
      refine r_gtup (SqT.of h1) rfl ?_
      walk_at "G"
      have fl := lf.1
      have fc := lf.2.1
      refine r_len (by rw [S_len]; exact Nat.le_trans fl (by decide)) ?_
      rw [S_len]
      walk_at "G"
      refine ⟨b, _, _, rfl, bx2, by omega, by omega, by omega, fun i H3 i0 i1 kp3 bx3 => ?_⟩
      obtain ⟨a, rfl, ha⟩ : ∃ a : Nat, i = a ∧ a ≤ f.length := ⟨i.toNat, by omega, by omega⟩
      walk_at "G"
      refine r_mulS (mul_ok (z := "a") (n := 41) (by decide +kernel) (by decide)) ?_
      walk_at "G"
      refine ⟨show 7 ≤ sizeLine by decide, fun p4 hp4 => ?_⟩
      walk_at "G"
      refine ⟨b, _, _, rfl, bx3.new hp4, by omega, by omega, by omega, fun j H4 j0 j1 kp4 bx4 => ?_⟩
      have key : ∃ z : Str, atI [V.str (Txt.mul "a" 41), V.str " x", V.str "'", V.str "\"", V.str "\\", V.str "\n", V.str "\\\n"] j = some (V.str z) ∧ (cd z).length ≤ 41 ∧ ∀ c ∈ cd z, c = 10 ∨ 32 ≤ c ∧ c ≤ 126 := by
        have e41 : cd (Txt.mul "a" 41) = (List.replicate 41 (cd "a")).flatten := mul_cd "a" 41
        rcases (show j = 0 ∨ j = 1 ∨ j = 2 ∨ j = 3 ∨ j = 4 ∨ j = 5 ∨ j = 6 by omega) with rfl | rfl | rfl | rfl | rfl | rfl | rfl
        · exact ⟨_, rfl, by rw [e41]; decide +kernel, by rw [e41]; decide +kernel⟩
        all_goals exact ⟨_, rfl, by decide +kernel, by decide +kernel⟩
      obtain ⟨z, hz, zl, zc⟩ := key
      refine r_ixL (SqL.of (kp4 p4 _ upd_same (bx3.ne hp4))) hz ?_
      have fin : ∀ (o : List Nat) (H' : Hp), o.length ≤ 1300 → (∀ c ∈ o, c = 10 ∨ 32 ≤ c ∧ c ≤ 126) → Same H4 H' → Bx H' b (n + 200000) → Q (.str (S o)) H' := fun o H' ol oc s hb => k o H' ol oc ((((kp1.trans kp2).trans kp3).trans ((Keep.new _ hp4).trans kp4)).trans (Keep.same s)) hb
      walk_at "G"
      have zz : z = S (cd z) := by rw [str_eq, cd_S]
      have tk : ∀ c ∈ f.take a, c = 10 ∨ 32 ≤ c ∧ c ≤ 126 := fun c hc => fc c (List.mem_of_mem_take hc)
      have tl : (f.take a).length ≤ 1200 := by rw [List.length_take]; omega
      have dl : ∀ m, (f.drop m).length ≤ f.length - m := fun m => Nat.le_of_eq List.length_drop
      have tla : (f.take a).length = a := by rw [List.length_take]; omega
      refine r_slS (by rw [S_len]; exact Nat.le_trans fl (by decide)) ?_
      rw [cutS_take, cd_S]
      walk_at "G"
      rw [zz]
      refine r_addS (by rw [S_len, S_len]; exact Nat.le_trans (show _ ≤ 2000 by omega) (by decide)) ?_
      rw [S_app]
      walk_at "G"
      refine r_slS (by rw [S_len]; exact Nat.le_trans fl (by decide)) ?_
      rw [cutS_drop, cd_S]
      have := dl a
      refine r_addS (by rw [S_len, S_len, List.length_append]; exact Nat.le_trans (show _ ≤ 4000 by omega) (by decide)) ?_
      rw [S_app]
      walk_at "G"
      refine r_slS (by rw [S_len]; exact Nat.le_trans fl (by decide)) ?_
      rw [cutS_take, cd_S]
      walk_at "G"
      refine r_slS (by rw [S_len]; exact Nat.le_trans fl (by decide)) ?_
      rw [show ((a : Int) + 1) = ((a + 1 : Nat) : Int) from rfl, cutS_drop, cd_S]
      have := dl (a + 1)
      refine r_addS (by rw [S_len, S_len]; exact Nat.le_trans (show _ ≤ 4000 by omega) (by decide)) ?_
      rw [S_app]
      walk_at "G"
      refine r_slS (by rw [S_len]; exact Nat.le_trans fl (by decide)) ?_
      rw [cutS_take, cd_S]
      walk_at "G"
      refine ⟨show 4 ≤ sizeLine by decide, fun p5 hp5 => ?_⟩
      walk_at "G"
      have dr : ∀ m, ∀ c ∈ f.drop m, c = 10 ∨ 32 ≤ c ∧ c ≤ 126 := fun m c hc => fc c (List.mem_of_mem_drop hc)
      have app : ∀ {x y : List Nat}, (∀ c ∈ x, c = 10 ∨ 32 ≤ c ∧ c ≤ 126) → (∀ c ∈ y, c = 10 ∨ 32 ≤ c ∧ c ≤ 126) → ∀ c ∈ x ++ y, c = 10 ∨ 32 ≤ c ∧ c ≤ 126 := fun hx hy c hc => (List.mem_append.mp hc).elim (hx c) (hy c)
      have s5 := (Same.refl H4).new hp5 (HO.lst [V.str (S f), V.str (S (f.take a ++ cd z ++ f.drop a)), V.str (S (f.take a ++ f.drop (a + 1))), V.str (S (f.take a))])
      have bx5 := (bx4.new (o := HO.lst [V.str (S f), V.str (S (f.take a ++ cd z ++ f.drop a)), V.str (S (f.take a ++ f.drop (a + 1))), V.str (S (f.take a))]) hp5).mono (show _ ≤ n + 200000 by omega)
      have da := dl a
      have db := dl (a + 1)
      rcases (show w0 = 1 ∨ w0 = 2 ∨ w0 = 3 ∨ w0 = 4 by omega) with rfl | rfl | rfl | rfl
      · refine r_ixL (SqL.of upd_same) rfl ?_
        exact fin _ _ (by omega) fc s5 bx5
      · refine r_ixL (SqL.of upd_same) rfl ?_
        exact fin _ _ (by rw [List.length_append, List.length_append]; omega) (app (app tk zc) (dr a)) s5 bx5
      · refine r_ixL (SqL.of upd_same) rfl ?_
        exact fin _ _ (by rw [List.length_append]; omega) (app tk (dr (a + 1))) s5 bx5
      · refine r_ixL (SqL.of upd_same) rfl ?_
        exact fin _ _ (by omega) tk s5 bx5
end
end K09

namespace K09
open PySem PySem.Spec PyProof.Rows L2 J M
local macro_rules | `(tactic| walk_at "hp") => `(tactic| first | assumption | exact upd_same | (rw [upd_ne (by assumption)]; walk_at "hp") | (rw [upd_ne (Ne.symm (by assumption))]; walk_at "hp"))
local macro_rules | `(tactic| walk_at "s") => `(tactic| first
  | ((with_reducible refine' r_var ?h ?k); (case h => exact rfl))
  | (with_reducible refine r_c ?_)
  | (with_reducible refine r_op ?_)
  | (with_reducible refine r_un ?_)
  | (with_reducible refine r_seq ?_)
  | (with_reducible refine r_next ?_)
  | (with_reducible refine r_sets ?_)
  | (with_reducible refine r_gname ?_)
  | (with_reducible refine r_ifS ?_)
  | (with_reducible refine r_gsub ?_)
  | (with_reducible refine r_test ?_)
  | (with_reducible refine r_tb ?_)
  | (with_reducible refine r_not ?_)
  | (with_reducible refine r_and ?_)
  | (with_reducible refine r_or ?_)
  | (with_reducible refine r_andV ?_)
  | (with_reducible refine r_orV ?_)
  | (with_reducible refine r_notV ?_)
  | (with_reducible refine r_ifE ?_)
  | (with_reducible refine r_chain ?_)
  | (with_reducible refine r_cb ?_)
  | (with_reducible refine r_cons ?_)
  | (with_reducible refine r_nil ?_)
  | (with_reducible refine r_call ?_)
  | (with_reducible refine r_lst ?_)
  | (with_reducible refine r_tup ?_)
  | (with_reducible refine r_slice ?_)
  | (with_reducible refine r_nop ?_)
  | (with_reducible refine r_part ?_)
  | (with_reducible refine r_bm ?_)
  | (with_reducible refine r_m1 ?_)
  | (with_reducible refine r_m0 ?_)
  | (with_reducible refine r_is ?_)
  | (with_reducible refine r_maxD ?_)
  | (with_reducible refine r_orT ?_)
  | (with_reducible refine r_truN ?_)
  | (with_reducible refine r_intI ?_)
  | (with_reducible refine r_intB ?_)
  | (with_reducible refine r_max2 ?_)
  | (with_reducible refine r_min2 ?_)
  | (with_reducible refine r_yes ?_)
  | (with_reducible refine r_bl ?_)
  | (with_reducible refine iteT ?_)
  | (with_reducible refine iteF ?_)
  | (with_reducible refine r_iteNT ?_)
  | (with_reducible refine r_iteNF ?_)
  | (with_reducible refine r_minL ?_)
  | (with_reducible refine r_gcons ?_)
  | (with_reducible refine r_gnil ?_)
  | (with_reducible refine r_par ?_)
  | (with_reducible refine r_par3 ?_)
  | (with_reducible refine r_is2 ?_)
  | (with_reducible refine r_is3 ?_)
  | (with_reducible refine r_dget ?_)
  | (with_reducible refine r_callS ?_)
  | (with_reducible refine r_rz ?_)
  | (with_reducible refine r_rev ?_)
  | (with_reducible refine r_isI ?_)
  | (with_reducible refine r_isStr ?_)
  | (with_reducible refine r_ret ?_)
  | (with_reducible refine r_drop ?_)
  | (with_reducible refine r_rI0 ?_)
  | (with_reducible refine r_addI ?_)
  | ((with_reducible show rI (fun _ j => 0 < j) _ (.int _) (.int _) _ _); refine r_rI (by first | omega | decide) ?_)
  | ((with_reducible show rI CDiv _ (.int _) (.int _) _ _); refine r_rI (by constructor <;> omega) ?_)
  | ((with_reducible show rI CPow _ (.int _) (.int _) _ _); refine r_rI (by refine ⟨by decide, by decide, ?_⟩; omega) ?_)
  | ((with_reducible show rMul (.int _) (.int _) _ _); refine r_mulI (cmulW (by omega) (by omega)) ?_)
  | (with_reducible refine r_cmpI ?_)
  | (with_reducible refine r_cmpS ?_)
  | (with_reducible refine r_eqI ?_)
  | (with_reducible refine r_neI ?_)
  | (with_reducible refine r_eqS ?_)
  | (with_reducible refine r_neS ?_)
  | (with_reducible refine r_inSF ?_)
  | (with_reducible refine r_inST ?_)
  | (with_reducible refine r_isiStr ?_)
  | ((with_reducible show rIx _ (.ref _) (.int _) _ _); refine' r_ixL (SqL.of ?h) ?e ?_; (case h => walk_at "hp"); (case e => rfl))
  | ((with_reducible show rSetL (.ref _) (.int _) _ _ _); refine' r_setL ?h ?e ?_; (case h => walk_at "hp"); (case e => rfl)))
local macro_rules | `(tactic| walk_at "g") => `(tactic| repeat walk_at "s")


local macro_rules | `(tactic| walk_at "x") => `(tactic| first | omega | (simp only [one_nl, one_bs, one_q1, one_q2, qS_nil, qS_q1, one_qS, mem_part, mem_qs, mem_all]; omega))
local macro_rules | `(tactic| walk_at "d") => `(tactic| first
  | (with_reducible refine iteDT (by walk_at "x") ?_)
  | (with_reducible refine iteDF (by walk_at "x") ?_)
  | (with_reducible refine iteNT (by walk_at "x") ?_)
  | (with_reducible refine iteNF (by walk_at "x") ?_))
local macro_rules | `(tactic| walk_at "G") => `(tactic| repeat (first | walk_at "s" | walk_at "d"))
section
variable {P : Program} {w : World} {K : PySem.W.Frag} {mg : Str → Option Value} {base : Heap}  -- own
theorem ok_state (T : Tx K mg) {f : Addr} {fd : FuncData} (F : Fun K "_law_state" "_law_state" s_law_state f fd) : FnOk P w K mg base CX0 1 f fd P_law_state spStateX := by
  refine F.ok sc_law_state (fun vs H Q E h => ?_) (fun cdv A outer s H vs Q E hr h => ?_)
  · obtain ⟨z, rfl, _⟩ := h
    rfl
  · obtain ⟨z, rfl, hz, ke, kt, k⟩ := h
    refine ⟨_, (pss_cons (ps_asg (pe_tup (pa_cons (pe_lst pa_nil) (pa_cons pe_non (pa_cons pe_str (pa_cons pe_int (pa_cons pe_bl pa_nil)))))) (asGTup (K := K) rfl (pg_tup rfl (pgs_cons (pg_name (i := 1) sc_law_state.nd rfl (Or.inl rfl)) (pgs_cons (pg_name (i := 2) sc_law_state.nd rfl (Or.inl rfl)) (pgs_cons (pg_name (i := 3) sc_law_state.nd rfl (Or.inl rfl)) (pgs_cons (pg_name (i := 4) sc_law_state.nd rfl (Or.inl rfl)) (pgs_cons (pg_name (i := 5) sc_law_state.nd rfl (Or.inl rfl)) pgs_nil)))))))) (pss_cons (ps_for (PassesOwn.never) rfl (pi_enumS rfl T.z_enumerate (pa_cons (pv 0) pa_nil)) (asGTup (K := K) rfl (pg_tup rfl (pgs_cons (pg_name (i := 6) sc_law_state.nd rfl (Or.inl rfl)) (pgs_cons (pg_name (i := 7) sc_law_state.nd rfl (Or.inl rfl)) pgs_nil)))) (pss_cons (ps_set (i := 8) sc_law_state.nd rfl (Or.inl rfl) (pe_and (pe_cmpR ((op_neA hr.units) : OpR _ _ (rNeA K)) (pv 3) pe_str (nomark _)) (pe_and (pe_cmpR ((op_neA hr.units) : OpR _ _ (rNeA K)) (pv 7) (pv 3) (nomark _)) (pe_one (pe_or (pe_cmpR ((op_neA hr.units) : OpR _ _ (rNeA K)) (pv 7) pe_str (nomark _)) (pe_one (pe_cmpR ((op_eqA hr.units) : OpR _ _ (rEqA K)) (pv 3) pe_str (nomark _)))))))) (pss_one (ps_if (PW.pt (pw_or (pt_val (pv 5)) (pw_or (pt_val (pv 8)) (pw_or1 (PW.pt (pw_and (pt_cmpR ((op_eqA hr.units) : OpR _ _ (rEqA K)) (pv 3) pe_str (nomark _)) (pw_and1 (pt_cmpR (op_notInA : OpR _ _ (rInA K true)) (pv 7) pe_str (by rfl))))))))) (pss_cons (ps_par (i := 2) (j := 5) rfl sc_law_state.nd rfl rfl (by decide) rfl rfl (pa_cons (pe_op (oAdd : OpR _ _ (J.rAdd K)) (asOrT (K := K) rfl (pe_orT (pv 2) (pe_one pe_str))) (pv 7)) (pa_cons pe_bl pa_nil)) rfl) (pss_one (ps_if (PW.pt (pw_or (pt_cmpR ((op_eqA hr.units) : OpR _ _ (rEqA K)) (pv 7) pe_str (nomark _)) (pw_or1 (pt_cmpR op_gtA (pe_callB (call_lenA : CallR _ _ (rLen K)) (by rfl) T.z_len (by decide +kernel) (pa_cons (pv 2) pa_nil)) pe_int (nomark _))))) (pss_one (ps_ret (pe_disp (pps_cons pe_str (pv 6) pps_nil) (by rfl) (by rfl) (fun z => by cases z) (by decide)))) pss_nil))) (pss_one (ps_if (pt_cmpR ((op_eqA hr.units) : OpR _ _ (rEqA K)) (pv 7) pe_str (nomark _)) (pss_one (ps_par (i := 2) (j := 5) rfl sc_law_state.nd rfl rfl (by decide) rfl rfl (pa_cons (asOrT (K := K) rfl (pe_orT (pv 2) (pe_one pe_str))) (pa_cons pe_bl pa_nil)) rfl)) (pss_one (ps_if (pt_cmpR ((op_neA hr.units) : OpR _ _ (rNeA K)) (pv 3) pe_str (nomark _)) (pss_one (ps_set (i := 3) sc_law_state.nd rfl (Or.inl rfl) pe_str)) (pss_one (ps_if (pt_cmpR (op_inA : OpR _ _ (rInA K false)) (pv 7) pe_str (by rfl)) (pss_one (ps_par3 (i := 2) (j := 3) (l := 4) rfl sc_law_state.nd rfl rfl rfl (by decide) (by decide) (by decide) rfl rfl rfl (pa_cons (asOrT (K := K) rfl (pe_orT (pv 2) (pe_one pe_str))) (pa_cons (pv 7) (pa_cons (pv 6) pa_nil))) rfl)) (pss_cons (ps_set (i := 1) sc_law_state.nd rfl (Or.inl rfl) (pe_op (oAdd : OpR _ _ (J.rAdd K)) (pv 1) (pe_op oMul (pe_lst (pa_cons (pv 2) pa_nil)) (pe_callTy call_intA (by rfl) T.z_int (by decide +kernel) (pa_cons (pe_cmpR L2.op_notN (pv 2) pe_non (nomark _)) pa_nil))))) (pss_one (ps_set (i := 2) sc_law_state.nd rfl (Or.inl rfl) pe_non))))))))))))) (pss_cons (ps_if (pt_val (pv 5)) (pss_one (ps_ret (pe_disp (pps_cons pe_str (pe_op L2.op_sub (pe_callB (call_lenA : CallR _ _ (rLen K)) (by rfl) T.z_len (by decide +kernel) (pa_cons (pv 0) pa_nil)) pe_int) pps_nil) (by rfl) (by rfl) (fun z => by cases z) (by decide)))) pss_nil) (pss_one (ps_ret (pe_disp (pps_cons pe_str pe_non (pps_cons pe_str (pv 1) (pps_cons pe_str (pv 2) (pps_cons pe_str (pv 3) (pps_cons pe_str (pv 4) pps_nil))))) (by rfl) (by rfl) (fun z => by cases z) (by decide))))))), ?_⟩
    walk_at "g"
    refine ⟨Nat.zero_le _, fun p hp => ?_⟩
    walk_at "g"
    refine ⟨show 5 ≤ sizeLine by decide, fun p2 hp2 => ?_⟩
    have n2 : p ≠ p2 := (new_ne hp2 upd_same).symm
    refine r_gtup (SqT.of upd_same) rfl ?_
    walk_at "g"
    refine r_forEnum (z := z) rfl (fun j σ' H' => ∃ (u : Sc) (wd : Addr) (x y w9 : Option V), M.scan stL 0 sc0 ((cd z).take j) = .ok u ∧ σ' = [some (.str z), some (.ref wd), some (obV u.bg), some (.str (qS u.qt)), some (.int u.op), some (.bl u.tk), x, y, w9] ∧
      Same H H' ∧ H' wd = some (.lst (u.ws.map wV)) ∧ u.ws.length ≤ j) ?_ ?_ ?_
    · exact ⟨sc0, p, _, _, _, rfl, rfl, ((Same.refl H).at hp _).new hp2 _, by rw [upd_ne n2, upd_same]; rfl, Nat.le_refl _⟩
    · rintro j σ1 H2 A1 c hc ⟨⟨ws, bg, qt, op, tk1⟩, wd, x, y, w9, hsc, rfl, s2, h2, hl⟩ hA
      have c0 := hz.2 c (List.mem_of_getElem? hc)
      have nA : wd ≠ A1 := (new_ne hA h2).symm
      have s3 := s2.new hA (HO.tup [.int (j : Nat), .str ⟨#[c]⟩])
      have h3 : upd H2 A1 (HO.tup [.int (j : Nat), .str ⟨#[c]⟩]) wd = some (.lst (ws.map wV)) := by rw [upd_ne nA]; exact h2
      have hA3 : upd H2 A1 (HO.tup [.int (j : Nat), .str ⟨#[c]⟩]) A1 = some (HO.tup [.int (j : Nat), .str ⟨#[c]⟩]) := upd_same
      generalize upd H2 A1 (HO.tup [.int (j : Nat), .str ⟨#[c]⟩]) = H3 at s3 h3 hA3 ⊢
      refine r_gtup (SqT.of hA3) rfl ?_
      have j1 : ws.length ≤ j := hl
      have j0 : j ≤ 3000 := Nat.le_trans (Nat.le_of_lt (List.getElem?_eq_some_iff.mp hc).1) hz.1
      walk_at "s"
      walk_at "s"
      walk_at "s"
      walk_at "s"
      walk_at "s"
      have bgl : (bg.getD []).length ≤ 40 := scanL_bg hsc
      have eS := scan_take_succ hc hsc
      have nxt : ∀ v, stL ⟨ws, bg, qt, op, tk1⟩ j c = .ok v → M.scan stL 0 sc0 ((cd z).take (j + 1)) = .ok v := fun v h => eS.trans h
      have err : ∀ e, stL ⟨ws, bg, qt, op, tk1⟩ j c = .error e → ∀ (p : Addr) (H' : Hp), Same H H' → H' p = some (.dK (badD (e : Nat))) → Q (.ref p) H' := fun e h => ke e (scan_take_err (eS.trans h))
      refine r_seqJ (fun σ' H' => σ' = [some (.str z), some (.ref wd), some (obV bg), some (.str (qS qt)), some (.int op), some (.bl tk1), some (.int j), some (.str ⟨#[c]⟩), some (.bl (decide (qt ≠ 0 ∧ c ≠ qt ∧ (c ≠ 92 ∨ qt = 39))))] ∧ H' = H3) (fun N hN => ?_) ?_
      · have fin : ∀ b : Bool, b = decide (qt ≠ 0 ∧ c ≠ qt ∧ (c ≠ 92 ∨ qt = 39)) → N [some (.str z), some (.ref wd), some (obV bg), some (.str (qS qt)), some (.int op), some (.bl tk1), some (.int j), some (.str ⟨#[c]⟩), some (.bl b)] H3 := fun b hb => hN _ _ ⟨by rw [hb], rfl⟩
        by_cases q0 : qt = 0
        · walk_at "G"
          exact fin _ (decide_eq_false (by omega)).symm
        by_cases qc : c = qt
        · walk_at "G"
          exact fin _ (decide_eq_false (by omega)).symm
        by_cases c92 : c = 92
        · walk_at "G"
          exact fin _ (decide_eq_decide.mpr (qS_q1.trans ⟨fun h => ⟨q0, qc, .inr h⟩, fun h => h.2.2.resolve_left fun e => e c92⟩))
        · walk_at "G"
          exact fin _ (decide_eq_true (by omega)).symm
      rintro σ2 H4 ⟨rfl, rfl⟩
      have hB : (decide (tk1 = true ∨ (qt ≠ 0 ∧ c ≠ qt ∧ (c ≠ 92 ∨ qt = 39)) ∨ (qt = 0 ∧ c ≠ 32 ∧ c ≠ 10 ∧ c ≠ 39 ∧ c ≠ 34 ∧ c ≠ 92))) = decide (tk1 = true ∨ (qt ≠ 0 ∧ c ≠ qt ∧ (c ≠ 92 ∨ qt = 39)) ∨ (qt = 0 ∧ c ≠ 32 ∧ c ≠ 10 ∧ c ≠ 39 ∧ c ≠ 34 ∧ c ≠ 92)) := rfl
      refine r_ifK (decide (tk1 = true ∨ (qt ≠ 0 ∧ c ≠ qt ∧ (c ≠ 92 ∨ qt = 39)) ∨ (qt = 0 ∧ c ≠ 32 ∧ c ≠ 10 ∧ c ≠ 39 ∧ c ≠ 34 ∧ c ≠ 92))) (fun N hN => ?_) (fun hb => ?_) fun hb => ?_
      · cases tk1 with
        | true =>
          rw [decide_eq_true (.inl rfl)] at hN
          walk_at "G"
          exact hN
        | false =>
          by_cases W : qt ≠ 0 ∧ c ≠ qt ∧ (c ≠ 92 ∨ qt = 39)
          · rw [decide_eq_true (.inr (.inl W))] at hN
            walk_at "G"
            exact hN
          · by_cases q0 : qt = 0
            · by_cases B : c ≠ 32 ∧ c ≠ 10 ∧ c ≠ 39 ∧ c ≠ 34 ∧ c ≠ 92
              · rw [decide_eq_true (.inr (.inr ⟨q0, B⟩))] at hN
                walk_at "G"
                rw [decide_eq_false (by rw [mem_all]; omega)]
                exact hN
              · rw [decide_eq_false (by rintro (h | h | h); cases h; exact W h; exact B h.2)] at hN
                walk_at "G"
                rw [decide_eq_true (mem_all.mpr (by omega))]
                exact hN
            · rw [decide_eq_false (by rintro (h | h | h); cases h; exact W h; exact q0 h.1)] at hN
              walk_at "G"
              exact hN
      · have hb' := of_decide_eq_true hb
        simp only [stL] at nxt err
        rw [if_pos hb'] at nxt err
        refine r_seqJ (fun σ' H' => σ' = [some (.str z), some (.ref wd), some (.str (S (bg.getD [] ++ [c]))), some (.str (qS qt)), some (.int op), some (.bl false), some (.int j), some (.str ⟨#[c]⟩), some (.bl (decide (qt ≠ 0 ∧ c ≠ qt ∧ (c ≠ 92 ∨ qt = 39))))] ∧ H' = H4) (fun N hN => ?_) ?_
        · cases bg with
          | none =>
            simp only [obV]
            walk_at "G"
            refine r_addS (a := "") (b := ⟨#[c]⟩) (le_line (show 0 + 1 ≤ 16777216 by decide)) ?_
            rw [S_nil_app]
            walk_at "G"
            exact hN _ _ ⟨rfl, rfl⟩
          | some l =>
            simp only [obV]
            walk_at "G"
            refine r_truS (Nat.le_trans (show _ ≤ 40 by rw [S_len]; exact bgl) (by decide)) (fun e => ?_) fun _ => ?_
            · rw [S_len] at e
              obtain rfl := List.eq_nil_of_length_eq_zero e
              walk_at "G"
              refine r_addS (a := "") (b := ⟨#[c]⟩) (le_line (show 0 + 1 ≤ 16777216 by decide)) ?_
              rw [S_nil_app]
              walk_at "G"
              exact hN _ _ ⟨rfl, rfl⟩
            · walk_at "G"
              refine r_addS (a := S l) (b := ⟨#[c]⟩) (le_line (Nat.le_trans (show _ ≤ 40 + 1 by rw [S_len]; exact Nat.add_le_add_right bgl 1) (by decide))) ?_
              rw [S_app_one]
              walk_at "G"
              exact hN _ _ ⟨rfl, rfl⟩
        rintro σ3 H5 ⟨rfl, rfl⟩
        have ll : (S (bg.getD [] ++ [c])).length ≤ 41 := by rw [S_len]; simp; exact bgl
        have bad : (c = 10 ∨ (bg.getD [] ++ [c]).length > 40) → ∀ (p : Addr) (H' : Hp), Same H H' → H' p = some (.dK (badD (j : Nat))) → Q (.ref p) H' := fun h => err j (if_pos h)
        by_cases c10 : c = 10
        · walk_at "G"
          intro p3 hp3
          refine r_pairs ?_
          walk_at "G"
          refine r_pairs0 ?_
          refine ⟨upd_same, badD (j : Nat), rfl, show 1 ≤ 15 by decide, ?_⟩
          rw [merge_bad]
          exact bad (.inl c10) p3 _ ((s3.new hp3 _).at (s3.none hp3) _) upd_same
        · walk_at "G"
          refine r_len (Nat.le_trans ll (by decide)) ?_
          walk_at "G"
          refine r_iteD (fun c41 => ?_) fun c41 => ?_
          · walk_at "G"
            intro p3 hp3
            refine r_pairs ?_
            walk_at "G"
            refine r_pairs0 ?_
            refine ⟨upd_same, badD (j : Nat), rfl, show 1 ≤ 15 by decide, ?_⟩
            rw [merge_bad]
            exact bad (.inr (by rw [S_len] at c41; omega)) p3 _ ((s3.new hp3 _).at (s3.none hp3) _) upd_same
          · walk_at "G"
            exact ⟨_, _, _, _, _, nxt _ (if_neg (by rw [S_len] at c41; omega)), rfl, s3, h3, Nat.le_succ_of_le j1⟩
      · have hb' := of_decide_eq_false hb
        simp only [stL] at nxt err
        rw [if_neg hb'] at nxt err
        cases tk1 with
        | true => exact absurd (.inl rfl) hb'
        | false =>
          by_cases c92 : c = 92
          · rw [if_pos c92] at nxt
            walk_at "G"
            cases bg with
            | none =>
              simp only [obV]
              walk_at "G"
              exact ⟨_, _, _, _, _, nxt _ rfl, rfl, s3, h3, Nat.le_succ_of_le j1⟩
            | some l =>
              simp only [obV]
              refine r_truS (Nat.le_trans (show _ ≤ 40 by rw [S_len]; exact bgl) (by decide)) (fun e => ?_) fun _ => ?_
              · rw [S_len] at e
                obtain rfl := List.eq_nil_of_length_eq_zero e
                walk_at "G"
                exact ⟨_, _, _, _, _, nxt _ rfl, rfl, s3, h3, Nat.le_succ_of_le j1⟩
              · walk_at "G"
                exact ⟨_, _, _, _, _, nxt _ rfl, rfl, s3, h3, Nat.le_succ_of_le j1⟩
          rw [if_neg c92] at nxt err
          by_cases q0 : qt ≠ 0
          · rw [if_pos q0] at nxt
            walk_at "G"
            exact ⟨_, _, _, _, _, nxt _ rfl, rfl, s3, h3, Nat.le_succ_of_le j1⟩
          rw [if_neg q0] at nxt err
          by_cases cq : c = 39 ∨ c = 34
          · rw [if_pos cq] at nxt
            have e0 : qS c = ⟨#[c]⟩ := by rw [eq_comm, one_qS]; omega
            walk_at "G"
            cases bg with
            | none =>
              simp only [obV]
              walk_at "G"
              exact ⟨_, _, _, _, _, nxt _ rfl, by rw [e0]; rfl, s3, h3, Nat.le_succ_of_le j1⟩
            | some l =>
              simp only [obV]
              refine r_truS (Nat.le_trans (show _ ≤ 40 by rw [S_len]; exact bgl) (by decide)) (fun e => ?_) fun _ => ?_
              · rw [S_len] at e
                obtain rfl := List.eq_nil_of_length_eq_zero e
                walk_at "G"
                exact ⟨_, _, _, _, _, nxt _ rfl, by rw [e0]; rfl, s3, h3, Nat.le_succ_of_le j1⟩
              · walk_at "G"
                exact ⟨_, _, _, _, _, nxt _ rfl, by rw [e0]; rfl, s3, h3, Nat.le_succ_of_le j1⟩
          rw [if_neg cq] at nxt
          walk_at "G"
          refine ⟨show 1 ≤ sizeLine by decide, fun p5 hp5 => ?_⟩
          walk_at "G"
          refine ⟨rfl, ?_⟩
          walk_at "G"
          refine r_rep upd_same (show 1 ≤ 1000 by decide) fun p6 hp6 => ?_
          have h5 : upd H4 p5 (HO.lst [obV bg]) wd = some (.lst (ws.map wV)) := by rw [upd_ne (new_ne hp5 h3).symm]; exact h3
          have s5 := s3.new hp5 (HO.lst [obV bg])
          generalize upd H4 p5 (HO.lst [obV bg]) = H5 at hp6 h5 s5 ⊢
          refine r_cat (by rw [upd_ne (new_ne hp6 h5).symm]; exact h5) upd_same ?_ fun p7 hp7 => ?_
          · rw [List.length_map]
            split
            · exact Nat.le_trans (show _ ≤ 3000 + 1 by simp; omega) (by decide)
            · exact Nat.le_trans (show _ ≤ 3000 by simp; omega) (by decide)
          have s7 := (s5.new hp6 (HO.lst (if (!decide (obV bg = V.non)) = true then [obV bg] else []))).new hp7 (HO.lst (ws.map wV ++ if (!decide (obV bg = V.non)) = true then [obV bg] else []))
          walk_at "G"
          cases bg with
          | none => exact ⟨_, _, _, _, _, nxt _ rfl, rfl, s7, by rw [upd_same]; simp [obV], Nat.le_succ_of_le j1⟩
          | some l => exact ⟨_, _, _, _, _, nxt _ rfl, rfl, s7, by rw [upd_same]; simp [obV, wV], by rw [List.length_append]; exact Nat.succ_le_succ j1⟩
    · rintro σ1 H2 ⟨u, wd, x, y, w9, hsc, rfl, s2, h2, hl⟩
      rw [List.take_length] at hsc
      obtain ⟨ws, bg, qt, op, tk1⟩ := u
      cases tk1 with
      | true =>
        walk_at "G"
        intro p3 hp3
        refine r_pairs ?_
        walk_at "G"
        refine r_len (by rw [len_cd]; exact Nat.le_trans hz.1 (by decide)) ?_
        rw [len_cd]
        walk_at "G"
        refine r_pairs0 ?_
        refine ⟨upd_same, badD (((cd z).length : Nat) - 1 : Int), rfl, show 1 ≤ 15 by decide, ?_⟩
        rw [merge_bad]
        exact kt _ hsc rfl p3 _ ((s2.new hp3 _).at (s2.none hp3) _) upd_same
      | false =>
        walk_at "G"
        intro p3 hp3
        refine r_pairs ?_
        walk_at "G"
        refine r_pairs ?_
        walk_at "G"
        refine r_pairs ?_
        walk_at "G"
        refine r_pairs ?_
        walk_at "G"
        refine r_pairs ?_
        walk_at "G"
        refine r_pairs0 ?_
        refine ⟨upd_same, stD wd ⟨ws, bg, qt, op, false⟩, rfl, show 5 ≤ 15 by decide, ?_⟩
        rw [merge_st]
        have n3 : wd ≠ p3 := (new_ne hp3 h2).symm
        exact k _ hsc rfl p3 wd _ ((s2.new hp3 _).at (s2.none hp3) _) upd_same (by rw [upd_ne n3, upd_ne n3]; exact h2)
end
end K09

namespace K09
open PySem PySem.Spec PyProof.Rows L2 J M
local macro_rules | `(tactic| walk_at "hp") => `(tactic| first | assumption | exact upd_same | (rw [upd_ne (by assumption)]; walk_at "hp") | (rw [upd_ne (Ne.symm (by assumption))]; walk_at "hp"))
local macro_rules | `(tactic| walk_at "s") => `(tactic| first
  | ((with_reducible refine' r_var ?h ?k); (case h => exact rfl))
  | (with_reducible refine r_c ?_)
  | (with_reducible refine r_op ?_)
  | (with_reducible refine r_un ?_)
  | (with_reducible refine r_seq ?_)
  | (with_reducible refine r_next ?_)
  | (with_reducible refine r_sets ?_)
  | (with_reducible refine r_gname ?_)
  | (with_reducible refine r_ifS ?_)
  | (with_reducible refine r_gsub ?_)
  | (with_reducible refine r_test ?_)
  | (with_reducible refine r_tb ?_)
  | (with_reducible refine r_not ?_)
  | (with_reducible refine r_and ?_)
  | (with_reducible refine r_or ?_)
  | (with_reducible refine r_andV ?_)
  | (with_reducible refine r_orV ?_)
  | (with_reducible refine r_notV ?_)
  | (with_reducible refine r_ifE ?_)
  | (with_reducible refine r_chain ?_)
  | (with_reducible refine r_cb ?_)
  | (with_reducible refine r_cons ?_)
  | (with_reducible refine r_nil ?_)
  | (with_reducible refine r_call ?_)
  | (with_reducible refine r_lst ?_)
  | (with_reducible refine r_tup ?_)
  | (with_reducible refine r_slice ?_)
  | (with_reducible refine r_nop ?_)
  | (with_reducible refine r_part ?_)
  | (with_reducible refine r_bm ?_)
  | (with_reducible refine r_m1 ?_)
  | (with_reducible refine r_m0 ?_)
  | (with_reducible refine r_is ?_)
  | (with_reducible refine r_maxD ?_)
  | (with_reducible refine r_orT ?_)
  | (with_reducible refine r_truN ?_)
  | (with_reducible refine r_intI ?_)
  | (with_reducible refine r_intB ?_)
  | (with_reducible refine r_max2 ?_)
  | (with_reducible refine r_min2 ?_)
  | (with_reducible refine r_yes ?_)
  | (with_reducible refine r_bl ?_)
  | (with_reducible refine iteT ?_)
  | (with_reducible refine iteF ?_)
  | (with_reducible refine r_iteNT ?_)
  | (with_reducible refine r_iteNF ?_)
  | (with_reducible refine r_minL ?_)
  | (with_reducible refine r_gcons ?_)
  | (with_reducible refine r_gnil ?_)
  | (with_reducible refine r_par ?_)
  | (with_reducible refine r_par3 ?_)
  | (with_reducible refine r_is2 ?_)
  | (with_reducible refine r_is3 ?_)
  | (with_reducible refine r_dget ?_)
  | (with_reducible refine r_callS ?_)
  | (with_reducible refine r_rz ?_)
  | (with_reducible refine r_rev ?_)
  | (with_reducible refine r_isI ?_)
  | (with_reducible refine r_isStr ?_)
  | (with_reducible refine r_ret ?_)
  | (with_reducible refine r_drop ?_)
  | (with_reducible refine r_rI0 ?_)
  | (with_reducible refine r_addI ?_)
  | ((with_reducible show rI (fun _ j => 0 < j) _ (.int _) (.int _) _ _); refine r_rI (by first | omega | decide) ?_)
  | ((with_reducible show rI CDiv _ (.int _) (.int _) _ _); refine r_rI (by constructor <;> omega) ?_)
  | ((with_reducible show rI CPow _ (.int _) (.int _) _ _); refine r_rI (by refine ⟨by decide, by decide, ?_⟩; omega) ?_)
  | ((with_reducible show rMul (.int _) (.int _) _ _); refine r_mulI (cmulW (by omega) (by omega)) ?_)
  | (with_reducible refine r_cmpI ?_)
  | (with_reducible refine r_cmpS ?_)
  | (with_reducible refine r_eqI ?_)
  | (with_reducible refine r_neI ?_)
  | (with_reducible refine r_eqS ?_)
  | (with_reducible refine r_neS ?_)
  | (with_reducible refine r_inSF ?_)
  | (with_reducible refine r_inST ?_)
  | (with_reducible refine r_isiStr ?_)
  | ((with_reducible show rIx _ (.ref _) (.int _) _ _); refine' r_ixL (SqL.of ?h) ?e ?_; (case h => walk_at "hp"); (case e => rfl))
  | ((with_reducible show rSetL (.ref _) (.int _) _ _ _); refine' r_setL ?h ?e ?_; (case h => walk_at "hp"); (case e => rfl)))
local macro_rules | `(tactic| walk_at "g") => `(tactic| repeat walk_at "s")


local macro_rules | `(tactic| walk_at "x") => `(tactic| first | omega | (simp only [one_nl, one_bs, one_q1, one_q2, qS_nil, qS_q1, one_qS, mem_part, mem_qs, mem_all]; omega))
local macro_rules | `(tactic| walk_at "d") => `(tactic| first
  | (with_reducible refine iteDT (by walk_at "x") ?_)
  | (with_reducible refine iteDF (by walk_at "x") ?_)
  | (with_reducible refine iteNT (by walk_at "x") ?_)
  | (with_reducible refine iteNF (by walk_at "x") ?_))
local macro_rules | `(tactic| walk_at "G") => `(tactic| repeat (first | walk_at "s" | walk_at "d"))
section
variable {P : Program} {w : World} {K : PySem.W.Frag} {mg : Str → Option Value} {base : Heap}  -- own
theorem ok_broken (T : Tx K mg) {f f_law_state : Addr} {fd fd_law_state : FuncData} (F : Fun K "_law_broken" "_law_broken" s_law_broken f fd) (D_law_state : DAt K mg "_law_state" s_law_state P_law_state f_law_state fd_law_state) : FnOk P w K mg base CX0 2 f fd P_law_broken (spTellsS False stL) := by
  have G_law_state : FnOk P w K mg base CX0 1 f_law_state fd_law_state P_law_state spStateX := ok_state T D_law_state.fn
  refine F.ok sc_law_broken (fun vs H Q E h => ?_) (fun cdv A outer s H vs Q E hr h => ?_)
  · obtain ⟨z, rfl, _⟩ := h
    rfl
  · obtain ⟨z, rfl, hz, kk⟩ := h
    refine ⟨_, (pss_cons (ps_set (i := 1) sc_law_broken.nd rfl (Or.inl rfl) (pe_call G_law_state (hr.mono (by decide)) rfl D_law_state.gl D_law_state.fn.kp D_law_state.bd .nil pass0 (pa_cons (pv 0) pa_nil))) (pss_cons (ps_if (pt_cmpR L2.op_notN (pe_dget (hu_of hr) (pv 1) pe_str (fun _ _ => rfl)) pe_non (nomark _)) (pss_one (ps_ret (pe_lst (pa_cons pe_str (pa_cons (pe_dget (hu_of hr) (pv 1) pe_str (fun _ _ => rfl)) pa_nil))))) pss_nil) (pss_cons (ps_set (i := 2) sc_law_broken.nd rfl (Or.inl rfl) (pe_op (oAdd : OpR _ _ (J.rAdd K)) (pe_callB (call_lenA : CallR _ _ (rLen K)) (by rfl) T.z_len (by decide +kernel) (pa_cons (pe_dget (hu_of hr) (pv 1) pe_str (fun _ _ => rfl)) pa_nil)) (pe_callTy call_intA (by rfl) T.z_int (by decide +kernel) (pa_cons (pe_cmpR L2.op_notN (pe_dget (hu_of hr) (pv 1) pe_str (fun _ _ => rfl)) pe_non (nomark _)) pa_nil)))) (pss_one (ps_ret (pe_ifExp (pt_cmpR op_gtA (pv 2) pe_int (nomark _)) (pe_lst (pa_cons pe_str (pa_cons (pv 2) pa_nil))) (pe_lst (pa_cons pe_str (pa_cons (pe_tup (pa_cons (pe_dget (hu_of hr) (pv 1) pe_str (fun _ _ => rfl)) (pa_cons (pe_dget (hu_of hr) (pv 1) pe_str (fun _ _ => rfl)) (pa_cons (pe_dget (hu_of hr) (pv 1) pe_str (fun _ _ => rfl)) pa_nil)))) pa_nil))))))))), ?_⟩
    walk_at "G"
    refine ⟨z, rfl, hz.three, fun e he p H1 s1 h1 => ?_, fun t ht tk p H1 s1 h1 => ?_, fun t ht tk p wd H1 s1 h1 h2 => ?_⟩
    · have cr : stR stL (cd z) = .error e := by unfold stR; rw [he]
      walk_at "G"
      refine r_dgetK h1 (get_badI _) ?_
      walk_at "G"
      refine ⟨rfl, ?_⟩
      walk_at "G"
      refine iteNT (fun h => by cases h) ?_
      walk_at "G"
      refine r_dgetK h1 (get_badI _) ?_
      walk_at "G"
      refine ⟨show 2 ≤ sizeLine by decide, fun p8 hp8 => ?_⟩
      exact kk p8 _ (s1.new hp8 _) (s1.none hp8) (.inl ⟨_, cr, upd_same⟩)
    · have hne : cd z ≠ [] := fun e => by rw [e] at ht; cases ht; cases tk
      have hl : 0 < (cd z).length := List.length_pos_iff.mpr hne
      have cr : stR stL (cd z) = .error ((cd z).length - 1) := by unfold stR; rw [ht]; exact if_pos tk
      rw [show (((cd z).length : Nat) : Int) - 1 = (((cd z).length - 1 : Nat) : Int) by omega] at h1
      walk_at "G"
      refine r_dgetK h1 (get_badI _) ?_
      walk_at "G"
      refine ⟨rfl, ?_⟩
      walk_at "G"
      refine iteNT (fun h => by cases h) ?_
      walk_at "G"
      refine r_dgetK h1 (get_badI _) ?_
      walk_at "G"
      refine ⟨show 2 ≤ sizeLine by decide, fun p8 hp8 => ?_⟩
      exact kk p8 _ (s1.new hp8 _) (s1.none hp8) (.inl ⟨_, cr, upd_same⟩)
    have cr : stR stL (cd z) = .ok t := by unfold stR; rw [ht]; simp only [tk]; rfl
    have tw : t.ws.length ≤ 2000 := Nat.le_trans (scanL_ws (lf_ne hz) ht) hz.1
    walk_at "G"
    refine r_dgetK h1 (get_bad wd t) ?_
    walk_at "G"
    refine ⟨rfl, ?_⟩
    walk_at "G"
    refine iteNF rfl ?_
    walk_at "G"
    refine r_dgetK h1 (get_words wd t) ?_
    walk_at "G"
    refine r_lenL (SqL.of h2) ?_
    walk_at "G"
    refine r_dgetK h1 (get_begun wd t) ?_
    walk_at "G"
    refine ⟨rfl, ?_⟩
    walk_at "G"
    have ec : (((t.ws.map wV).length : Nat) : Int) + (if (!decide (obV t.bg = V.non)) = true then 1 else 0) = ((J.cnt t : Nat) : Int) := by
      rw [List.length_map]
      unfold J.cnt
      cases t.bg <;> simp [obV]
    rw [ec]
    refine r_iteD (fun c => ?_) fun c => ?_
    · walk_at "G"
      refine ⟨show 2 ≤ sizeLine by decide, fun p8 hp8 => ?_⟩
      exact kk p8 _ (s1.new hp8 _) (s1.none hp8) (.inr (.inr ⟨_, cr, by omega, upd_same⟩))
    · walk_at "G"
      refine r_dgetK h1 (get_words wd t) ?_
      walk_at "G"
      refine r_dgetK h1 (get_begun wd t) ?_
      walk_at "G"
      refine r_dgetK h1 (get_quote wd t) ?_
      walk_at "G"
      refine ⟨show 3 ≤ sizeLine by decide, fun p7 hp7 => ?_⟩
      walk_at "G"
      have h7 : upd H1 p7 (HO.tup [.ref wd, obV t.bg, .str (qS t.qt)]) wd = some (.lst (t.ws.map wV)) := by rw [upd_ne (new_ne hp7 h2).symm]; exact h2
      have h6 : upd H1 p7 (HO.tup [.ref wd, obV t.bg, .str (qS t.qt)]) p7 = some (HO.tup [.ref wd, obV t.bg, .str (qS t.qt)]) := upd_same
      have s7 := s1.new hp7 (HO.tup [.ref wd, obV t.bg, .str (qS t.qt)])
      refine ⟨show 2 ≤ sizeLine by decide, fun p8 hp8 => ?_⟩
      exact kk p8 _ (s7.new hp8 _) (s7.none hp8) (.inr (.inl ⟨_, p7, wd, cr, by omega, upd_same, by rw [upd_ne (new_ne hp8 h6).symm]; exact h6, by rw [upd_ne (new_ne hp8 h7).symm]; exact h7, False.elim, (new_ne hp8 h7).symm, (new_ne hp7 h2).symm⟩))
end
end K09

namespace K09
open PySem PySem.Spec PyProof.Rows L2 J M
local macro_rules | `(tactic| walk_at "hp") => `(tactic| first | assumption | exact upd_same | (rw [upd_ne (by assumption)]; walk_at "hp") | (rw [upd_ne (Ne.symm (by assumption))]; walk_at "hp"))
local macro_rules | `(tactic| walk_at "s") => `(tactic| first
  | ((with_reducible refine' r_var ?h ?k); (case h => exact rfl))
  | (with_reducible refine r_c ?_)
  | (with_reducible refine r_op ?_)
  | (with_reducible refine r_un ?_)
  | (with_reducible refine r_seq ?_)
  | (with_reducible refine r_next ?_)
  | (with_reducible refine r_sets ?_)
  | (with_reducible refine r_gname ?_)
  | (with_reducible refine r_ifS ?_)
  | (with_reducible refine r_gsub ?_)
  | (with_reducible refine r_test ?_)
  | (with_reducible refine r_tb ?_)
  | (with_reducible refine r_not ?_)
  | (with_reducible refine r_and ?_)
  | (with_reducible refine r_or ?_)
  | (with_reducible refine r_andV ?_)
  | (with_reducible refine r_orV ?_)
  | (with_reducible refine r_notV ?_)
  | (with_reducible refine r_ifE ?_)
  | (with_reducible refine r_chain ?_)
  | (with_reducible refine r_cb ?_)
  | (with_reducible refine r_cons ?_)
  | (with_reducible refine r_nil ?_)
  | (with_reducible refine r_call ?_)
  | (with_reducible refine r_lst ?_)
  | (with_reducible refine r_tup ?_)
  | (with_reducible refine r_slice ?_)
  | (with_reducible refine r_nop ?_)
  | (with_reducible refine r_part ?_)
  | (with_reducible refine r_bm ?_)
  | (with_reducible refine r_m1 ?_)
  | (with_reducible refine r_m0 ?_)
  | (with_reducible refine r_is ?_)
  | (with_reducible refine r_maxD ?_)
  | (with_reducible refine r_orT ?_)
  | (with_reducible refine r_truN ?_)
  | (with_reducible refine r_intI ?_)
  | (with_reducible refine r_intB ?_)
  | (with_reducible refine r_max2 ?_)
  | (with_reducible refine r_min2 ?_)
  | (with_reducible refine r_yes ?_)
  | (with_reducible refine r_bl ?_)
  | (with_reducible refine iteT ?_)
  | (with_reducible refine iteF ?_)
  | (with_reducible refine r_iteNT ?_)
  | (with_reducible refine r_iteNF ?_)
  | (with_reducible refine r_minL ?_)
  | (with_reducible refine r_gcons ?_)
  | (with_reducible refine r_gnil ?_)
  | (with_reducible refine r_par ?_)
  | (with_reducible refine r_par3 ?_)
  | (with_reducible refine r_is2 ?_)
  | (with_reducible refine r_is3 ?_)
  | (with_reducible refine r_dget ?_)
  | (with_reducible refine r_callS ?_)
  | (with_reducible refine r_rz ?_)
  | (with_reducible refine r_rev ?_)
  | (with_reducible refine r_isI ?_)
  | (with_reducible refine r_isStr ?_)
  | (with_reducible refine r_ret ?_)
  | (with_reducible refine r_drop ?_)
  | (with_reducible refine r_rI0 ?_)
  | (with_reducible refine r_addI ?_)
  | ((with_reducible show rI (fun _ j => 0 < j) _ (.int _) (.int _) _ _); refine r_rI (by first | omega | decide) ?_)
  | ((with_reducible show rI CDiv _ (.int _) (.int _) _ _); refine r_rI (by constructor <;> omega) ?_)
  | ((with_reducible show rI CPow _ (.int _) (.int _) _ _); refine r_rI (by refine ⟨by decide, by decide, ?_⟩; omega) ?_)
  | ((with_reducible show rMul (.int _) (.int _) _ _); refine r_mulI (cmulW (by omega) (by omega)) ?_)
  | (with_reducible refine r_cmpI ?_)
  | (with_reducible refine r_cmpS ?_)
  | (with_reducible refine r_eqI ?_)
  | (with_reducible refine r_neI ?_)
  | (with_reducible refine r_eqS ?_)
  | (with_reducible refine r_neS ?_)
  | (with_reducible refine r_inSF ?_)
  | (with_reducible refine r_inST ?_)
  | (with_reducible refine r_isiStr ?_)
  | ((with_reducible show rIx _ (.ref _) (.int _) _ _); refine' r_ixL (SqL.of ?h) ?e ?_; (case h => walk_at "hp"); (case e => rfl))
  | ((with_reducible show rSetL (.ref _) (.int _) _ _ _); refine' r_setL ?h ?e ?_; (case h => walk_at "hp"); (case e => rfl)))
local macro_rules | `(tactic| walk_at "g") => `(tactic| repeat walk_at "s")


local macro_rules | `(tactic| walk_at "x") => `(tactic| first | omega | (simp only [one_nl, one_bs, one_q1, one_q2, qS_nil, qS_q1, one_qS, mem_part, mem_qs, mem_all]; omega))
local macro_rules | `(tactic| walk_at "d") => `(tactic| first
  | (with_reducible refine iteDT (by walk_at "x") ?_)
  | (with_reducible refine iteDF (by walk_at "x") ?_)
  | (with_reducible refine iteNT (by walk_at "x") ?_)
  | (with_reducible refine iteNF (by walk_at "x") ?_))
local macro_rules | `(tactic| walk_at "G") => `(tactic| repeat (first | walk_at "s" | walk_at "d"))
section
variable {P : Program} {w : World} {K : PySem.W.Frag} {mg : Str → Option Value} {base : Heap}  -- own
theorem ok_told (T : Tx K mg) {CB CT : Addr} (O_BadSign : OE P w K mg base "BadSign" "at" CB) (XF : XfC K CB) (EX : PySem.W.exmOne K (.ref CB) (.ref CB) = some true) (O_TooMany : OL P w K mg base "TooMany" "many" CT) (XFT : XfC K CT) (EXT : PySem.W.exmOne K (.ref CT) (.ref CT) = some true) (EXO : PySem.W.exmOne K (.ref CT) (.ref CB) = some false) {f f_state_of f_scanned f_refuse_too_many f_is_line f_are_signs f_longer : Addr} {fd fd_state_of fd_scanned fd_refuse_too_many fd_is_line fd_are_signs fd_longer : FuncData} (F : Fun K "_law_told" "_law_told" s_law_told f fd)
    (D_state_of : DAt K mg "state_of" s_state_of P_state_of f_state_of fd_state_of) (D_scanned : DAt K mg "_scanned" s_scanned P_scanned f_scanned fd_scanned) (D_refuse_too_many : DAt K mg "_refuse_too_many" s_refuse_too_many P_refuse_too_many f_refuse_too_many fd_refuse_too_many)
    (D_is_line : DAt K mg "is_line" s_is_line P_is_line f_is_line fd_is_line) (D_are_signs : DAt K mg "are_signs" s_are_signs P_are_signs f_are_signs fd_are_signs) (D_longer : DAt K mg "_longer" s_longer P_longer f_longer fd_longer) : FnOk P w K mg base CX0 7 f fd P_law_told (spTellsS True stP) := by
  have G_state_of : FnOk P w K mg base (L2.CX P w) 6 f_state_of fd_state_of P_state_of (spStateOf CB CT) := ok_state_of T O_BadSign O_TooMany D_state_of.fn D_scanned D_refuse_too_many D_is_line D_are_signs D_longer
  refine F.ok sc_law_told (fun vs H Q E h => ?_) (fun cdv A outer s H vs Q E hr h => ?_)
  · obtain ⟨z, rfl, _⟩ := h
    rfl
  · obtain ⟨z, rfl, hz, k⟩ := h
    refine ⟨_, pss_one (ps_tryN (l := [(.ref CB, 1, fun a cls d => tRet (tLst (tCons (tC (.str "sign")) (tCons (tXf a cls d CB "at" (tVar 1)) tNil)))), (.ref CT, 1, fun a cls d => tRet (tLst (tCons (tC (.str "many")) (tCons (tXf a cls d CT "many" (tVar 1)) tNil))))])
      (tb := fun W => tRet (tLst (tCons (tC (.str "told")) (tCons (tCallS (spStateOf CB CT) (WE W) (tCons (tVar 0) tNil)) tNil)))) rfl rfl sc_law_told.nd
      (fun W pn xe tk _ => pss_one (ps_ret (by exact (pe_lst (pa_cons pe_str (pa_cons (pe_callS (E := WE W) G_state_of (hr.mono (by decide)) rfl D_state_of.gl D_state_of.fn.kp D_state_of.bd (fun σ => passAt tk σ) (by exact (pa_cons (pv 0) pa_nil))) pa_nil))))))
      (HN.cons rfl rfl ⟨rfl, by decide, Or.inl O_BadSign.gl⟩ (fun a oe cls d pn hz hf => pss_one (ps_ret (by exact (pe_lst (pa_cons pe_str (pa_cons (pe_xf XF O_BadSign.nf hz hf (pv 1)) pa_nil))))))
        (HN.cons rfl rfl ⟨rfl, by decide, Or.inl O_TooMany.gl⟩ (fun a oe cls d pn hz hf => pss_one (ps_ret (by exact (pe_lst (pa_cons pe_str (pa_cons (pe_xf XFT O_TooMany.nf hz hf (pv 1)) pa_nil)))))) (HN.any _)))), ?_⟩
    walk_at "G"
    refine ⟨z, rfl, hz, fun e he => ?_, fun t ht hl => ?_, fun t ht hl q wd H1 hq hw s1 h1 h2 n => ?_⟩
    · intro d H' hd sd hx
      refine ⟨true, EX, fun _ a ha => ?_, fun h => nomatch h⟩
      refine r_ret ?_
      walk_at "s"
      walk_at "s"
      walk_at "s"
      walk_at "s"
      refine r_xf (v := .int (e : Nat)) rfl rfl rfl hx ?_
      walk_at "G"
      refine ⟨show 2 ≤ sizeLine by decide, fun p hp => ?_⟩
      exact k p _ (sd.new hp _) (sd.none hp) (.inl ⟨e, he, upd_same⟩)
    · intro d H' hd sd hx
      refine ⟨false, EXO, (fun h => nomatch h), fun _ => ⟨true, EXT, fun _ a ha => ?_, fun h => nomatch h⟩⟩
      refine r_ret ?_
      walk_at "s"
      walk_at "s"
      walk_at "s"
      walk_at "s"
      refine r_xf (v := .int (J.cnt t : Nat)) rfl rfl rfl hx ?_
      walk_at "G"
      refine ⟨show 2 ≤ sizeLine by decide, fun p hp => ?_⟩
      exact k p _ (sd.new hp _) (sd.none hp) (.inr (.inr ⟨t, ht, hl, upd_same⟩))
    · walk_at "G"
      refine ⟨show 2 ≤ sizeLine by decide, fun p hp => ?_⟩
      exact k p _ (s1.new hp _) (s1.none hp) (.inr (.inl ⟨t, q, wd, ht, hl, upd_same, by rw [upd_ne (new_ne hp h1).symm]; exact h1, by rw [upd_ne (new_ne hp h2).symm]; exact h2, fun _ => hw, (new_ne hp h2).symm, n⟩))
end
end K09

namespace K09
open PySem PySem.Spec PyProof.Rows L2 J M
local macro_rules | `(tactic| walk_at "hp") => `(tactic| first | assumption | exact upd_same | (rw [upd_ne (by assumption)]; walk_at "hp") | (rw [upd_ne (Ne.symm (by assumption))]; walk_at "hp"))
local macro_rules | `(tactic| walk_at "s") => `(tactic| first
  | ((with_reducible refine' r_var ?h ?k); (case h => exact rfl))
  | (with_reducible refine r_c ?_)
  | (with_reducible refine r_op ?_)
  | (with_reducible refine r_un ?_)
  | (with_reducible refine r_seq ?_)
  | (with_reducible refine r_next ?_)
  | (with_reducible refine r_sets ?_)
  | (with_reducible refine r_gname ?_)
  | (with_reducible refine r_ifS ?_)
  | (with_reducible refine r_gsub ?_)
  | (with_reducible refine r_test ?_)
  | (with_reducible refine r_tb ?_)
  | (with_reducible refine r_not ?_)
  | (with_reducible refine r_and ?_)
  | (with_reducible refine r_or ?_)
  | (with_reducible refine r_andV ?_)
  | (with_reducible refine r_orV ?_)
  | (with_reducible refine r_notV ?_)
  | (with_reducible refine r_ifE ?_)
  | (with_reducible refine r_chain ?_)
  | (with_reducible refine r_cb ?_)
  | (with_reducible refine r_cons ?_)
  | (with_reducible refine r_nil ?_)
  | (with_reducible refine r_call ?_)
  | (with_reducible refine r_lst ?_)
  | (with_reducible refine r_tup ?_)
  | (with_reducible refine r_slice ?_)
  | (with_reducible refine r_nop ?_)
  | (with_reducible refine r_part ?_)
  | (with_reducible refine r_bm ?_)
  | (with_reducible refine r_m1 ?_)
  | (with_reducible refine r_m0 ?_)
  | (with_reducible refine r_is ?_)
  | (with_reducible refine r_maxD ?_)
  | (with_reducible refine r_orT ?_)
  | (with_reducible refine r_truN ?_)
  | (with_reducible refine r_intI ?_)
  | (with_reducible refine r_intB ?_)
  | (with_reducible refine r_max2 ?_)
  | (with_reducible refine r_min2 ?_)
  | (with_reducible refine r_yes ?_)
  | (with_reducible refine r_bl ?_)
  | (with_reducible refine iteT ?_)
  | (with_reducible refine iteF ?_)
  | (with_reducible refine r_iteNT ?_)
  | (with_reducible refine r_iteNF ?_)
  | (with_reducible refine r_minL ?_)
  | (with_reducible refine r_gcons ?_)
  | (with_reducible refine r_gnil ?_)
  | (with_reducible refine r_par ?_)
  | (with_reducible refine r_par3 ?_)
  | (with_reducible refine r_is2 ?_)
  | (with_reducible refine r_is3 ?_)
  | (with_reducible refine r_dget ?_)
  | (with_reducible refine r_callS ?_)
  | (with_reducible refine r_rz ?_)
  | (with_reducible refine r_rev ?_)
  | (with_reducible refine r_isI ?_)
  | (with_reducible refine r_isStr ?_)
  | (with_reducible refine r_ret ?_)
  | (with_reducible refine r_drop ?_)
  | (with_reducible refine r_rI0 ?_)
  | (with_reducible refine r_addI ?_)
  | ((with_reducible show rI (fun _ j => 0 < j) _ (.int _) (.int _) _ _); refine r_rI (by first | omega | decide) ?_)
  | ((with_reducible show rI CDiv _ (.int _) (.int _) _ _); refine r_rI (by constructor <;> omega) ?_)
  | ((with_reducible show rI CPow _ (.int _) (.int _) _ _); refine r_rI (by refine ⟨by decide, by decide, ?_⟩; omega) ?_)
  | ((with_reducible show rMul (.int _) (.int _) _ _); refine r_mulI (cmulW (by omega) (by omega)) ?_)
  | (with_reducible refine r_cmpI ?_)
  | (with_reducible refine r_cmpS ?_)
  | (with_reducible refine r_eqI ?_)
  | (with_reducible refine r_neI ?_)
  | (with_reducible refine r_eqS ?_)
  | (with_reducible refine r_neS ?_)
  | (with_reducible refine r_inSF ?_)
  | (with_reducible refine r_inST ?_)
  | (with_reducible refine r_isiStr ?_)
  | ((with_reducible show rIx _ (.ref _) (.int _) _ _); refine' r_ixL (SqL.of ?h) ?e ?_; (case h => walk_at "hp"); (case e => rfl))
  | ((with_reducible show rSetL (.ref _) (.int _) _ _ _); refine' r_setL ?h ?e ?_; (case h => walk_at "hp"); (case e => rfl)))
local macro_rules | `(tactic| walk_at "g") => `(tactic| repeat walk_at "s")


local macro_rules | `(tactic| walk_at "x") => `(tactic| first | omega | (simp only [one_nl, one_bs, one_q1, one_q2, qS_nil, qS_q1, one_qS, mem_part, mem_qs, mem_all]; omega))
local macro_rules | `(tactic| walk_at "d") => `(tactic| first
  | (with_reducible refine iteDT (by walk_at "x") ?_)
  | (with_reducible refine iteDF (by walk_at "x") ?_)
  | (with_reducible refine iteNT (by walk_at "x") ?_)
  | (with_reducible refine iteNF (by walk_at "x") ?_))
local macro_rules | `(tactic| walk_at "G") => `(tactic| repeat (first | walk_at "s" | walk_at "d"))
abbrev s_init : Stmt := inClass (topS 5) 0
theorem sc_init : FnScope ["self", "at"] ["self", "at"] (defScope s_init) := ⟨rfl, rfl, rfl, by decide +kernel, rfl, by decide +kernel, by decide +kernel⟩
abbrev s_initL : Stmt := inClass (topS 6) 0
theorem sc_initL : FnScope ["self", "many"] ["self", "many"] (defScope s_initL) := ⟨rfl, rfl, rfl, by decide +kernel, rfl, by decide +kernel, by decide +kernel⟩
section
variable {P : Program} {w : World} {K : PySem.W.Frag} {mg : Str → Option Value} {base : Heap}  -- own
theorem ok_init {f : Addr} {fd : FuncData} (F : Fun K "__init__" "BadSign.__init__" s_init f fd) : FnOk P w K mg base CX0 1 f fd ["self", "at"] (spInit K "at") := by
  refine F.ok sc_init (fun vs H Q E h => ?_) (fun cdv A outer s H vs Q E hr h => ?_)
  · obtain ⟨a, C, v, rfl, _⟩ := h
    rfl
  · obtain ⟨a, C, v, rfl, hT, hf, ha, k⟩ := h
    refine ⟨_, pss_one (asOst (K := K) rfl (ps_ost (pv 0) (pv 1))), ?_⟩
    refine r_ost ?_
    walk_at "g"
    exact ⟨a, C, rfl, hT, hf, .inl ⟨ha, fun dx hd ne => k dx hd ne⟩⟩
theorem ok_initL {f : Addr} {fd : FuncData} (F : Fun K "__init__" "TooMany.__init__" s_initL f fd) : FnOk P w K mg base CX0 1 f fd ["self", "many"] (spInitL K "many") := by
  refine F.ok sc_initL (fun vs H Q E h => ?_) (fun cdv A outer s H vs Q E hr h => ?_)
  · obtain ⟨a, C, v, rfl, _⟩ := h
    rfl
  · obtain ⟨a, C, v, rfl, hT, hf, ha, k⟩ := h
    refine ⟨_, pss_one (asOsL (K := K) rfl (ps_osL (pv 0) (pv 1))), ?_⟩
    refine r_osL ?_
    walk_at "g"
    exact ⟨a, C, rfl, hT, hf, ha, fun dx hd ne => k dx hd ne⟩
end
end K09

namespace K09
open PySem PySem.Spec PyProof.Rows L2 J M
local macro_rules | `(tactic| walk_at "hp") => `(tactic| first | assumption | exact upd_same | (rw [upd_ne (by assumption)]; walk_at "hp") | (rw [upd_ne (Ne.symm (by assumption))]; walk_at "hp"))
local macro_rules | `(tactic| walk_at "s") => `(tactic| first
  | ((with_reducible refine' r_var ?h ?k); (case h => exact rfl))
  | (with_reducible refine r_c ?_)
  | (with_reducible refine r_op ?_)
  | (with_reducible refine r_un ?_)
  | (with_reducible refine r_seq ?_)
  | (with_reducible refine r_next ?_)
  | (with_reducible refine r_sets ?_)
  | (with_reducible refine r_gname ?_)
  | (with_reducible refine r_ifS ?_)
  | (with_reducible refine r_gsub ?_)
  | (with_reducible refine r_test ?_)
  | (with_reducible refine r_tb ?_)
  | (with_reducible refine r_not ?_)
  | (with_reducible refine r_and ?_)
  | (with_reducible refine r_or ?_)
  | (with_reducible refine r_andV ?_)
  | (with_reducible refine r_orV ?_)
  | (with_reducible refine r_notV ?_)
  | (with_reducible refine r_ifE ?_)
  | (with_reducible refine r_chain ?_)
  | (with_reducible refine r_cb ?_)
  | (with_reducible refine r_cons ?_)
  | (with_reducible refine r_nil ?_)
  | (with_reducible refine r_call ?_)
  | (with_reducible refine r_lst ?_)
  | (with_reducible refine r_tup ?_)
  | (with_reducible refine r_slice ?_)
  | (with_reducible refine r_nop ?_)
  | (with_reducible refine r_part ?_)
  | (with_reducible refine r_bm ?_)
  | (with_reducible refine r_m1 ?_)
  | (with_reducible refine r_m0 ?_)
  | (with_reducible refine r_is ?_)
  | (with_reducible refine r_maxD ?_)
  | (with_reducible refine r_orT ?_)
  | (with_reducible refine r_truN ?_)
  | (with_reducible refine r_intI ?_)
  | (with_reducible refine r_intB ?_)
  | (with_reducible refine r_max2 ?_)
  | (with_reducible refine r_min2 ?_)
  | (with_reducible refine r_yes ?_)
  | (with_reducible refine r_bl ?_)
  | (with_reducible refine iteT ?_)
  | (with_reducible refine iteF ?_)
  | (with_reducible refine r_iteNT ?_)
  | (with_reducible refine r_iteNF ?_)
  | (with_reducible refine r_minL ?_)
  | (with_reducible refine r_gcons ?_)
  | (with_reducible refine r_gnil ?_)
  | (with_reducible refine r_par ?_)
  | (with_reducible refine r_par3 ?_)
  | (with_reducible refine r_is2 ?_)
  | (with_reducible refine r_is3 ?_)
  | (with_reducible refine r_dget ?_)
  | (with_reducible refine r_callS ?_)
  | (with_reducible refine r_rz ?_)
  | (with_reducible refine r_rev ?_)
  | (with_reducible refine r_isI ?_)
  | (with_reducible refine r_isStr ?_)
  | (with_reducible refine r_ret ?_)
  | (with_reducible refine r_drop ?_)
  | (with_reducible refine r_rI0 ?_)
  | (with_reducible refine r_addI ?_)
  | ((with_reducible show rI (fun _ j => 0 < j) _ (.int _) (.int _) _ _); refine r_rI (by first | omega | decide) ?_)
  | ((with_reducible show rI CDiv _ (.int _) (.int _) _ _); refine r_rI (by constructor <;> omega) ?_)
  | ((with_reducible show rI CPow _ (.int _) (.int _) _ _); refine r_rI (by refine ⟨by decide, by decide, ?_⟩; omega) ?_)
  | ((with_reducible show rMul (.int _) (.int _) _ _); refine r_mulI (cmulW (by omega) (by omega)) ?_)
  | (with_reducible refine r_cmpI ?_)
  | (with_reducible refine r_cmpS ?_)
  | (with_reducible refine r_eqI ?_)
  | (with_reducible refine r_neI ?_)
  | (with_reducible refine r_eqS ?_)
  | (with_reducible refine r_neS ?_)
  | (with_reducible refine r_inSF ?_)
  | (with_reducible refine r_inST ?_)
  | (with_reducible refine r_isiStr ?_)
  | ((with_reducible show rIx _ (.ref _) (.int _) _ _); refine' r_ixL (SqL.of ?h) ?e ?_; (case h => walk_at "hp"); (case e => rfl))
  | ((with_reducible show rSetL (.ref _) (.int _) _ _ _); refine' r_setL ?h ?e ?_; (case h => walk_at "hp"); (case e => rfl)))
local macro_rules | `(tactic| walk_at "g") => `(tactic| repeat walk_at "s")


local macro_rules | `(tactic| walk_at "x") => `(tactic| first | omega | (simp only [one_nl, one_bs, one_q1, one_q2, qS_nil, qS_q1, one_qS, mem_part, mem_qs, mem_all]; omega))
local macro_rules | `(tactic| walk_at "d") => `(tactic| first
  | (with_reducible refine iteDT (by walk_at "x") ?_)
  | (with_reducible refine iteDF (by walk_at "x") ?_)
  | (with_reducible refine iteNT (by walk_at "x") ?_)
  | (with_reducible refine iteNF (by walk_at "x") ?_))
local macro_rules | `(tactic| walk_at "G") => `(tactic| repeat (first | walk_at "s" | walk_at "d"))
section
variable {P : Program} {w : World} {K : PySem.W.Frag} {mg : Str → Option Value} {base : Heap}  -- own
theorem ok_law (T : Tx K mg) {CB CT : Addr} (O_BadSign : OE P w K mg base "BadSign" "at" CB) (XF : XfC K CB) (EX : PySem.W.exmOne K (.ref CB) (.ref CB) = some true) (O_TooMany : OL P w K mg base "TooMany" "many" CT) (XFT : XfC K CT) (EXT : PySem.W.exmOne K (.ref CT) (.ref CT) = some true) (EXO : PySem.W.exmOne K (.ref CT) (.ref CB) = some false)
    {f f_state_of f_scanned f_refuse_too_many f_is_line f_are_signs f_longer f_law_box f_law_take f_law_pick f_law_sign f_law_word f_law_stroked f_law_gap f_law_written f_law_good f_law_line f_law_state f_law_broken f_law_told : Addr} {fd fd_state_of fd_scanned fd_refuse_too_many fd_is_line fd_are_signs fd_longer fd_law_box fd_law_take fd_law_pick fd_law_sign fd_law_word fd_law_stroked fd_law_gap fd_law_written fd_law_good fd_law_line fd_law_state fd_law_broken fd_law_told : FuncData} (F : Fun K "law" "law" s_law f fd)
    (D_state_of : DAt K mg "state_of" s_state_of P_state_of f_state_of fd_state_of)
    (D_scanned : DAt K mg "_scanned" s_scanned P_scanned f_scanned fd_scanned)
    (D_refuse_too_many : DAt K mg "_refuse_too_many" s_refuse_too_many P_refuse_too_many f_refuse_too_many fd_refuse_too_many)
    (D_is_line : DAt K mg "is_line" s_is_line P_is_line f_is_line fd_is_line)
    (D_are_signs : DAt K mg "are_signs" s_are_signs P_are_signs f_are_signs fd_are_signs)
    (D_longer : DAt K mg "_longer" s_longer P_longer f_longer fd_longer)
    (D_law_box : DAt K mg "_law_box" s_law_box P_law_box f_law_box fd_law_box)
    (D_law_take : DAt K mg "_law_take" s_law_take P_law_take f_law_take fd_law_take)
    (D_law_pick : DAt K mg "_law_pick" s_law_pick P_law_pick f_law_pick fd_law_pick)
    (D_law_sign : DAt K mg "_law_sign" s_law_sign P_law_sign f_law_sign fd_law_sign)
    (D_law_word : DAt K mg "_law_word" s_law_word P_law_word f_law_word fd_law_word)
    (D_law_stroked : DAt K mg "_law_stroked" s_law_stroked P_law_stroked f_law_stroked fd_law_stroked)
    (D_law_gap : DAt K mg "_law_gap" s_law_gap P_law_gap f_law_gap fd_law_gap)
    (D_law_written : DAt K mg "_law_written" s_law_written P_law_written f_law_written fd_law_written)
    (D_law_good : DAt K mg "_law_good" s_law_good P_law_good f_law_good fd_law_good)
    (D_law_line : DAt K mg "_law_line" s_law_line P_law_line f_law_line fd_law_line)
    (D_law_state : DAt K mg "_law_state" s_law_state P_law_state f_law_state fd_law_state)
    (D_law_broken : DAt K mg "_law_broken" s_law_broken P_law_broken f_law_broken fd_law_broken)
    (D_law_told : DAt K mg "_law_told" s_law_told P_law_told f_law_told fd_law_told) : FnG P w K mg base CX0 9 f fd P_law (spLaw K) := by
  have G_law_box : FnOk P w K mg base CX0 1 f_law_box fd_law_box P_law_box spBox := ok_box T D_law_box.fn
  have G_law_take : FnOk P w K mg base CX0 1 f_law_take fd_law_take P_law_take spTake := ok_take D_law_take.fn
  have G_law_line : FnOk P w K mg base CX0 6 f_law_line fd_law_line P_law_line spLineZ := ok_line T D_law_line.fn D_law_take D_law_pick D_law_sign D_law_word D_law_stroked D_law_gap D_law_written D_law_good
  have G_law_broken : FnOk P w K mg base CX0 2 f_law_broken fd_law_broken P_law_broken (spTellsS False stL) := ok_broken T D_law_broken.fn D_law_state
  have G_law_told : FnOk P w K mg base CX0 7 f_law_told fd_law_told P_law_told (spTellsS True stP) := ok_told T O_BadSign XF EX O_TooMany XFT EXT EXO D_law_told.fn D_state_of D_scanned D_refuse_too_many D_is_line D_are_signs D_longer
  refine fun_g F sc_law (fun vs H Q E h => ?_) (fun cdv A outer s H vs Q E hg hr h => ?_)
  · obtain ⟨a, ns, rfl, _⟩ := h
    rfl
  · obtain ⟨a, ns, rfl, ha, hn, k⟩ := h
    refine ⟨_, (pss_cons (ps_for (PassesOwn.never) rfl (asList (K := K) rfl (pi_list (pe_slice (sl_any : SlR _ (rSl K)) (pe_op (oAdd : OpR _ _ (J.rAdd K)) (pe_slice (sl_any : SlR _ (rSl K)) (pv 0) po_none (po_some pe_int)) (pe_lst (pa_cons pe_int (pa_cons pe_int pa_nil)))) po_none (po_some (pe_callB (call_maxA rfl) (by rfl) T.z_max (by decide +kernel) (pa_cons pe_int (pa_cons (pe_callB (call_minA rfl) (by rfl) T.z_min (by decide +kernel) (pa_cons pe_int (pa_cons (pe_callB (call_lenA : CallR _ _ (rLen K)) (by rfl) T.z_len (by decide +kernel) (pa_cons (pv 0) pa_nil)) pa_nil))) pa_nil))))))) (pg_name (i := 1) sc_law.nd rfl (Or.inl rfl)) (pss_cons (ps_set (i := 2) sc_law.nd rfl (Or.inl rfl) (pe_call G_law_box (hr.mono (by decide)) rfl D_law_box.gl D_law_box.fn.kp D_law_box.bd .nil pass0 (pa_cons (pv 1) pa_nil))) (pss_cons (ps_for (PassesOwn.never) rfl (pi_range1 rfl T.z_range (pa_cons pe_int pa_nil)) (pg_name (i := 3) sc_law.nd rfl (Or.inl rfl)) (pss_cons (ps_set (i := 4) sc_law.nd rfl (Or.inl rfl) (pe_call G_law_line (hr.mono (by decide)) rfl D_law_line.gl D_law_line.fn.kp D_law_line.bd .nil pass0 (pa_cons (pv 2) pa_nil))) (pss_cons (ps_set (i := 5) sc_law.nd rfl (Or.inl rfl) (pe_call G_law_take (hr.mono (by decide)) rfl D_law_take.gl D_law_take.fn.kp D_law_take.bd .nil pass0 (pa_cons (pv 2) (pa_cons (pe_callB (call_maxA rfl) (by rfl) T.z_max (by decide +kernel) (pa_cons pe_int (pa_cons (pe_op L2.op_sub (pe_callB (call_lenA : CallR _ _ (rLen K)) (by rfl) T.z_len (by decide +kernel) (pa_cons (pv 4) pa_nil)) pe_int) pa_nil))) pa_nil)))) (pss_one (ps_for (PassesOwn.never) rfl (pi_range2 rfl T.z_range (pa_cons (pv 5) (pa_cons (pe_op (oAdd : OpR _ _ (J.rAdd K)) (pe_callB (call_minA rfl) (by rfl) T.z_min (by decide +kernel) (pa_cons (pe_callB (call_lenA : CallR _ _ (rLen K)) (by rfl) T.z_len (by decide +kernel) (pa_cons (pv 4) pa_nil)) (pa_cons (pe_op (oAdd : OpR _ _ (J.rAdd K)) (pv 5) pe_int) pa_nil))) pe_int) pa_nil))) (pg_name (i := 6) sc_law.nd rfl (Or.inl rfl)) (pss_cons (ps_set (i := 7) sc_law.nd rfl (Or.inl rfl) (pe_call G_law_broken (hr.mono (by decide)) rfl D_law_broken.gl D_law_broken.fn.kp D_law_broken.bd .nil pass0 (pa_cons (pe_slice (sl_any : SlR _ (rSl K)) (pv 4) po_none (po_some (pv 6))) pa_nil))) (pss_cons (ps_set (i := 8) sc_law.nd rfl (Or.inl rfl) (pe_call G_law_told (hr.mono (by decide)) rfl D_law_told.gl D_law_told.fn.kp D_law_told.bd .nil pass0 (pa_cons (pe_slice (sl_any : SlR _ (rSl K)) (pv 4) po_none (po_some (pv 6))) pa_nil))) (pss_cons (ps_if (pt_cmpR ((op_neA hr.units) : OpR _ _ (rNeA K)) (pe_callB ((call_repr hg hr.units) : CallR _ _ (rRepr K)) (by rfl) T.z_repr (by decide +kernel) (pa_cons (pv 8) pa_nil)) (pe_callB ((call_repr hg hr.units) : CallR _ _ (rRepr K)) (by rfl) T.z_repr (by decide +kernel) (pa_cons (pv 7) pa_nil)) (nomark _)) (pss_one (ps_ret pe_bl)) pss_nil) (pss_one (ps_if (pt_cmpR ((op_eqA hr.units) : OpR _ _ (rEqA K)) (pe_ix (ix_seq : IxR _ (rIx K)) (pv 7) pe_int (fun _ _ => rfl)) pe_str (nomark _)) (pss_cons (ps_expr (asBM (K := K) rfl (pe_bm PySem.F.plainAttrs_list PySem.F.slot_list_append PySem.F.type_list_append mt_append (pe_ix (ix_seq : IxR _ (rIx K)) (pe_ix (ix_seq : IxR _ (rIx K)) (pv 8) pe_int (fun _ _ => rfl)) pe_int (fun _ _ => rfl)) (pa_cons pe_str pa_nil)))) (pss_one (ps_if (pt_cmpR ((op_neA hr.units) : OpR _ _ (rNeA K)) (pe_callB ((call_repr hg hr.units) : CallR _ _ (rRepr K)) (by rfl) T.z_repr (by decide +kernel) (pa_cons (pe_call G_law_told (hr.mono (by decide)) rfl D_law_told.gl D_law_told.fn.kp D_law_told.bd .nil pass0 (pa_cons (pe_slice (sl_any : SlR _ (rSl K)) (pv 4) po_none (po_some (pv 6))) pa_nil)) pa_nil)) (pe_callB ((call_repr hg hr.units) : CallR _ _ (rRepr K)) (by rfl) T.z_repr (by decide +kernel) (pa_cons (pv 7) pa_nil)) (nomark _)) (pss_one (ps_ret pe_bl)) pss_nil))) pss_nil)))))))))) (pss_one (ps_if (PW.pt (pw_or (pt_cmpR ((op_neA hr.units) : OpR _ _ (rNeA K)) (pe_call G_law_told (hr.mono (by decide)) rfl D_law_told.gl D_law_told.fn.kp D_law_told.bd .nil pass0 (pa_cons (pe_op (oAdd : OpR _ _ (J.rAdd K)) (pe_op oMul pe_str pe_int) pe_str) pa_nil)) (pe_lst (pa_cons pe_str (pa_cons (pe_tup (pa_cons (pe_op oMul (pe_lst (pa_cons pe_str pa_nil)) pe_int) (pa_cons pe_str (pa_cons pe_str pa_nil)))) pa_nil))) (nomark _)) (pw_or1 (pt_cmpR ((op_neA hr.units) : OpR _ _ (rNeA K)) (pe_call G_law_told (hr.mono (by decide)) rfl D_law_told.gl D_law_told.fn.kp D_law_told.bd .nil pass0 (pa_cons (pe_op (oAdd : OpR _ _ (J.rAdd K)) (pe_op oMul pe_str pe_int) pe_str) pa_nil)) (pe_lst (pa_cons pe_str (pa_cons pe_int pa_nil))) (nomark _))))) (pss_one (ps_ret pe_bl)) pss_nil))))) (pss_one (ps_ret pe_bl))), ?_⟩
    walk_at "G"
    refine r_for ?_
    refine r_ilist ?_
    walk_at "G"
    refine r_slL ha fun p1 hp1 => ?_
    walk_at "G"
    refine ⟨show 2 ≤ sizeLine by decide, fun p2 hp2 => ?_⟩
    obtain ⟨n1, e1, _, l1, _⟩ := cutV_map V.int ns none (some 6)
    rw [e1] at hp2 ⊢
    refine r_cat (xs := n1.map V.int) (ys := [V.int 17, V.int 32452843]) (by rw [upd_ne (new_ne hp2 upd_same).symm]; exact upd_same) upd_same (by rw [List.length_map]; show _ + 2 ≤ _; omega) fun p3 hp3 => ?_
    have s3 := (((Same.refl H).at hp1 (HO.lst (n1.map V.int))).new hp2 (HO.lst [V.int 17, V.int 32452843])).new hp3 (HO.lst (n1.map V.int ++ [V.int 17, V.int 32452843]))
    have h3 : upd (upd (upd H p1 (HO.lst (n1.map V.int))) p2 (HO.lst [V.int 17, V.int 32452843])) p3 (HO.lst (n1.map V.int ++ [V.int 17, V.int 32452843])) p3 = some (.lst ((n1 ++ [17, 32452843]).map V.int)) := by rw [upd_same, List.map_append]; rfl
    generalize upd (upd (upd H p1 (HO.lst (n1.map V.int))) p2 (HO.lst [V.int 17, V.int 32452843])) p3 (HO.lst (n1.map V.int ++ [V.int 17, V.int 32452843])) = H3 at s3 h3 ⊢
    walk_at "G"
    refine r_lenL (s3.seqL ha) ?_
    walk_at "G"
    refine r_slL (SqL.of h3) fun p4 hp4 => ?_
    obtain ⟨n4, e4, _, l4, _⟩ := cutV_map V.int (n1 ++ [17, 32452843]) none (some (if (if ((ns.map V.int).length : Int) < 6 then ((ns.map V.int).length : Int) else 6) > 2 then (if ((ns.map V.int).length : Int) < 6 then ((ns.map V.int).length : Int) else 6) else 2))
    rw [e4]
    refine r_isRL (SqL.of upd_same) ?_
    have s4 := s3.new hp4 (HO.lst (n4.map V.int))
    have h4 : upd H3 p4 (HO.lst (n4.map V.int)) p4 = some (HO.lst (n4.map V.int)) := upd_same
    generalize upd H3 p4 (HO.lst (n4.map V.int)) = H4 at s4 h4 ⊢
    refine loop_seq (seqIt_l (SqL.of h4)) (fun _ σ' H' => ∃ x1 x2 x3 x4 x5 x6 x7 x8 : Option V, σ' = [some (.ref a), x1, x2, x3, x4, x5, x6, x7, x8] ∧ Same H4 H') (fun _ _ _ ⟨_, _, _, _, _, _, _, _, _, s⟩ => s) ⟨_, _, _, _, _, _, _, _, rfl, Same.refl _⟩ (fun i x σ1 H5 hx w => ?_) (fun σ1 H5 w => ?_)
    · obtain ⟨x1, x2, x3, x4, x5, x6, x7, x8, rfl, s5⟩ := w
      rw [List.getElem?_map] at hx
      obtain ⟨c, hc, rfl⟩ := Option.map_eq_some_iff.mp hx
      walk_at "G"
      refine ⟨c, rfl, fun b H6 hb s6 bx => ?_⟩
      walk_at "G"
      refine r_forR (q := 6) (by decide) (fun j σ' H' => ∃ x3 x4 x5 x6 x7 x8 : Option V, σ' = [some (.ref a), some (.int c), some (.ref b), x3, x4, x5, x6, x7, x8] ∧ Bx H' b (300000 * j) ∧ Same H5 H') ⟨_, _, _, _, _, _, rfl, bx, s6⟩ ?_ ?_
      · rintro j σ2 H7 hj ⟨y3, y4, y5, y6, y7, y8, rfl, bx7, s7⟩
        walk_at "G"
        refine ⟨b, _, rfl, bx7, by omega, fun f H8 fl fc kp8 bx8 => ?_⟩
        have bn : H5 b = none := hb
        have cf : cd (S f) = f := cd_S f
        walk_at "G"
        refine r_len (by rw [S_len]; exact Nat.le_trans (show _ ≤ 2000 by omega) (by decide)) ?_
        rw [S_len]
        walk_at "G"
        refine ⟨b, _, _, rfl, bx8, by omega, by split <;> omega, by split <;> omega, fun i9 H9 i0 i1 kp9 bx9 => ?_⟩
        obtain ⟨g, rfl, gl⟩ : ∃ g : Nat, i9 = g ∧ g ≤ f.length := ⟨i9.toNat, by omega, by split at i1 <;> omega⟩
        have s9 : Same H5 H9 := s7.keep bn (kp8.trans kp9)
        walk_at "G"
        refine r_for ?_
        refine r_irng2 ?_
        walk_at "G"
        refine r_len (by rw [S_len]; exact Nat.le_trans (show _ ≤ 2000 by omega) (by decide)) ?_
        rw [S_len]
        walk_at "G"
        obtain ⟨q, hq, ql⟩ : ∃ q : Nat, (((if (g : Int) + 60 < (f.length : Int) then (g : Int) + 60 else (f.length : Int)) + 1) - (g : Int)).toNat = q ∧ g + q ≤ f.length + 1 := ⟨_, rfl, by split <;> omega⟩
        refine ⟨_, _, rfl, ⟨by omega, by omega, by split <;> omega, by split <;> omega⟩, ?_⟩
        rw [hq]
        refine r_for2 (fun j2 σ' H' => ∃ x6 x7 x8 : Option V, σ' = [some (.ref a), some (.int c), some (.ref b), some (.int j), some (.str (S f)), some (.int g), x6, x7, x8] ∧ Same H9 H') ⟨_, _, _, rfl, Same.refl _⟩ ?_ ?_
        · rintro j2 σ3 H10 hj2 ⟨z6, z7, z8, rfl, s10⟩
          have hz : Lf (cd (S (f.take (g + j2)))) := by
            rw [cd_S]
            exact ⟨by rw [List.length_take]; omega, fun c hc => fc c (List.mem_of_mem_take hc)⟩
          have sm := showy_st (small_st hz)
          have big : (S f).length ≤ 16777216 := by rw [S_len]; exact Nat.le_trans (show _ ≤ 2000 by omega) (by decide)
          walk_at "G"
          refine r_slS big ?_
          rw [cutS_take, cf]
          refine ⟨_, rfl, hz, fun p11 H11 s11 hp11 t11 => ?_⟩
          rw [stR_eq (lf_ne hz)] at t11
          walk_at "G"
          refine r_slS big ?_
          rw [cutS_take, cf]
          refine ⟨_, rfl, hz, fun p12 H12 s12 hp12 t12 => ?_⟩
          walk_at "G"
          refine r_repr t12.dp sm ?_
          walk_at "G"
          refine r_repr (t11.mono s12).dp sm ?_
          walk_at "G"
          refine iteNF rfl ?_
          walk_at "s"
          have t13 := t11.mono s12
          rcases t13 with ⟨e, er, h⟩ | ⟨t, q1, wd, er, ct, h1, h2, h3, _, _, _⟩ | ⟨t, er, ct, h⟩
          · walk_at "G"
            refine iteDF (by decide +kernel) ?_
            walk_at "G"
            exact ⟨_, _, _, rfl, (s10.trans s11).trans s12⟩
          · walk_at "G"
            refine iteDT rfl ?_
            rcases t12 with ⟨e, er2, g1⟩ | ⟨t2, q2, wd2, er2, ct2, g1, g2, g3, g4, g5, g6⟩ | ⟨t2, er2, ct2, g1⟩
            · rw [er] at er2; cases er2
            rotate_left
            · rw [er] at er2
              cases er2
              omega
            have tw : t2.ws.length ≤ 40 := by unfold J.cnt at ct2; omega
            walk_at "G"
            refine r_ixT (SqT.of g2) rfl ?_
            walk_at "G"
            refine r_tyL g3 ?_
            walk_at "G"
            refine r_app g3 (by rw [List.length_map]; exact Nat.lt_of_le_of_lt tw (by decide)) ?_
            walk_at "G"
            have s13 := s12.at (g4 trivial) (HO.lst (t2.ws.map wV ++ [V.str (Str.ofString "more")]))
            refine r_slS big ?_
            rw [cutS_take, cf]
            refine ⟨_, rfl, hz, fun p14 H14 s14 hp14 t14 => ?_⟩
            walk_at "G"
            refine r_repr t14.dp sm ?_
            walk_at "G"
            refine r_repr ((t11.mono s13).mono s14).dp sm ?_
            walk_at "G"
            refine iteNF rfl ?_
            walk_at "G"
            exact ⟨_, _, _, rfl, ((s10.trans s11).trans s13).trans s14⟩
          · walk_at "G"
            refine iteDF (by decide +kernel) ?_
            walk_at "G"
            exact ⟨_, _, _, rfl, (s10.trans s11).trans s12⟩
        · rintro σ3 H10 ⟨z6, z7, z8, rfl, s10⟩
          walk_at "G"
          exact ⟨_, _, _, _, _, _, rfl, (bx9.same s10).mono (by omega), s9.trans s10⟩
      · rintro σ3 H8 ⟨y3, y4, y5, y6, y7, y8, rfl, bx8, s8⟩
        walk_at "G"
        refine r_mulS (mul_ok (z := "a ") (n := 39) (by decide +kernel) (by decide)) ?_
        walk_at "G"
        refine r_addS (by decide +kernel) ?_
        refine ⟨_, rfl, by rw [t39]; exact lf39, fun p9 H9 s9 hp9 t9 => ?_⟩
        rw [t39, st39] at t9
        walk_at "G"
        refine ⟨show 1 ≤ sizeLine by decide, fun p10 hp10 => ?_⟩
        walk_at "G"
        refine r_repn (n := 39) upd_same (by decide) (by decide) fun p11 hp11 => ?_
        rw [rep_one]
        walk_at "G"
        refine ⟨show 3 ≤ sizeLine by decide, fun p12 hp12 => ?_⟩
        walk_at "G"
        refine ⟨show 2 ≤ sizeLine by decide, fun p13 hp13 => ?_⟩
        have z9 := (((Same.refl H9).new hp10 (HO.lst [V.str "a"])).new hp11 (HO.lst (List.replicate 39 (V.str "a")))).new hp12 (HO.tup [V.ref p11, V.str "b", V.str ""])
        have z13 := z9.new hp13 (HO.lst [V.str "told", V.ref p12])
        have n11 : p11 ≠ p12 := (new_ne hp12 upd_same).symm
        have n12 : p12 ≠ p13 := (new_ne hp13 upd_same).symm
        have n13 : p11 ≠ p13 := (new_ne hp13 (by rw [upd_ne n11]; exact upd_same)).symm
        refine r_neD0 (t9.mono z13).dp (.lst (SqL.of upd_same) (.cons (.str _) (.cons (.tup (SqT.of (by rw [upd_ne n12]; exact upd_same)) (.cons (.lst (SqL.of (by rw [upd_ne n13, upd_ne n11]; exact upd_same)) (dpa_rep (.str _) 39)) (.cons (.str _) (.cons (.str _) .nil)))) .nil))) eqv39.2.1 eqv39.2.2 eqv39.1 ?_
        generalize upd (upd (upd (upd H9 p10 (HO.lst [V.str "a"])) p11 (HO.lst (List.replicate 39 (V.str "a")))) p12 (HO.tup [V.ref p11, V.str "b", V.str ""])) p13 (HO.lst [V.str "told", V.ref p12]) = H14 at z13 ⊢
        walk_at "G"
        refine r_mulS (mul_ok (z := "a ") (n := 40) (by decide +kernel) (by decide)) ?_
        walk_at "G"
        refine r_addS (by decide +kernel) ?_
        refine ⟨_, rfl, by rw [t40]; exact lf40, fun p15 H15 s15 hp15 t15 => ?_⟩
        rw [t40, st40] at t15
        walk_at "G"
        refine ⟨show 2 ≤ sizeLine by decide, fun p16 hp16 => ?_⟩
        have z16 := (Same.refl H15).new hp16 (HO.lst [V.str "many", V.int 41])
        refine r_neD0 (t15.mono z16).dp (.lst (SqL.of upd_same) (.cons (.str _) (.cons (.int _) .nil))) eqv41.2.1 eqv41.2.2 eqv41.1 ?_
        walk_at "G"
        exact ⟨_, _, _, _, _, _, _, _, rfl, s5.trans ((((s8.trans s9).trans z13).trans s15).trans z16)⟩
    · obtain ⟨x1, x2, x3, x4, x5, x6, x7, x8, rfl, s5⟩ := w
      walk_at "G"
      exact k _
end
end K09

namespace K09
open PySem PySem.Spec PyProof.Rows L2 J M
theorem all_mk {l : PySem.W.OpenLaw} {w : World} {K : PySem.W.Frag} {h : Heap} {mg : Str → Option Value} {fa : Addr} (X : K.In h) (G : h.Ns mainGlobals mg) (hfa : mg "law" = some (.ref fa))
    {f_state_of : Addr} {od_state_of an_state_of : Option Addr} {sl_state_of : Array (Option Value)} {oc_state_of kV_state_of dc_state_of pm_state_of cd_state_of ct_state_of : Value}
    (a_state_of : PySem.W.nsIn K mainGlobals "state_of" = some (some (.ref f_state_of))) (l_state_of : K.lookup f_state_of = some ⟨oc_state_of, od_state_of, .func (PySem.W.fnOf "state_of" "state_of" (defArgs s_state_of) (defBody s_state_of) (defScope s_state_of) .none kV_state_of dc_state_of pm_state_of an_state_of cd_state_of ct_state_of), sl_state_of⟩) (c_state_of : PySem.W.codeIn K cd_state_of "state_of" = true) (k_state_of : PySem.W.keepIn K (.ref f_state_of) = true)
    {f_scanned : Addr} {od_scanned an_scanned : Option Addr} {sl_scanned : Array (Option Value)} {oc_scanned kV_scanned dc_scanned pm_scanned cd_scanned ct_scanned : Value}
    (a_scanned : PySem.W.nsIn K mainGlobals "_scanned" = some (some (.ref f_scanned))) (l_scanned : K.lookup f_scanned = some ⟨oc_scanned, od_scanned, .func (PySem.W.fnOf "_scanned" "_scanned" (defArgs s_scanned) (defBody s_scanned) (defScope s_scanned) .none kV_scanned dc_scanned pm_scanned an_scanned cd_scanned ct_scanned), sl_scanned⟩) (c_scanned : PySem.W.codeIn K cd_scanned "_scanned" = true) (k_scanned : PySem.W.keepIn K (.ref f_scanned) = true)
    {f_refuse_too_many : Addr} {od_refuse_too_many an_refuse_too_many : Option Addr} {sl_refuse_too_many : Array (Option Value)} {oc_refuse_too_many kV_refuse_too_many dc_refuse_too_many pm_refuse_too_many cd_refuse_too_many ct_refuse_too_many : Value}
    (a_refuse_too_many : PySem.W.nsIn K mainGlobals "_refuse_too_many" = some (some (.ref f_refuse_too_many))) (l_refuse_too_many : K.lookup f_refuse_too_many = some ⟨oc_refuse_too_many, od_refuse_too_many, .func (PySem.W.fnOf "_refuse_too_many" "_refuse_too_many" (defArgs s_refuse_too_many) (defBody s_refuse_too_many) (defScope s_refuse_too_many) .none kV_refuse_too_many dc_refuse_too_many pm_refuse_too_many an_refuse_too_many cd_refuse_too_many ct_refuse_too_many), sl_refuse_too_many⟩) (c_refuse_too_many : PySem.W.codeIn K cd_refuse_too_many "_refuse_too_many" = true) (k_refuse_too_many : PySem.W.keepIn K (.ref f_refuse_too_many) = true)
    {f_is_line : Addr} {od_is_line an_is_line : Option Addr} {sl_is_line : Array (Option Value)} {oc_is_line kV_is_line dc_is_line pm_is_line cd_is_line ct_is_line : Value}
    (a_is_line : PySem.W.nsIn K mainGlobals "is_line" = some (some (.ref f_is_line))) (l_is_line : K.lookup f_is_line = some ⟨oc_is_line, od_is_line, .func (PySem.W.fnOf "is_line" "is_line" (defArgs s_is_line) (defBody s_is_line) (defScope s_is_line) .none kV_is_line dc_is_line pm_is_line an_is_line cd_is_line ct_is_line), sl_is_line⟩) (c_is_line : PySem.W.codeIn K cd_is_line "is_line" = true) (k_is_line : PySem.W.keepIn K (.ref f_is_line) = true)
    {f_are_signs : Addr} {od_are_signs an_are_signs : Option Addr} {sl_are_signs : Array (Option Value)} {oc_are_signs kV_are_signs dc_are_signs pm_are_signs cd_are_signs ct_are_signs : Value}
    (a_are_signs : PySem.W.nsIn K mainGlobals "are_signs" = some (some (.ref f_are_signs))) (l_are_signs : K.lookup f_are_signs = some ⟨oc_are_signs, od_are_signs, .func (PySem.W.fnOf "are_signs" "are_signs" (defArgs s_are_signs) (defBody s_are_signs) (defScope s_are_signs) .none kV_are_signs dc_are_signs pm_are_signs an_are_signs cd_are_signs ct_are_signs), sl_are_signs⟩) (c_are_signs : PySem.W.codeIn K cd_are_signs "are_signs" = true) (k_are_signs : PySem.W.keepIn K (.ref f_are_signs) = true)
    {f_longer : Addr} {od_longer an_longer : Option Addr} {sl_longer : Array (Option Value)} {oc_longer kV_longer dc_longer pm_longer cd_longer ct_longer : Value}
    (a_longer : PySem.W.nsIn K mainGlobals "_longer" = some (some (.ref f_longer))) (l_longer : K.lookup f_longer = some ⟨oc_longer, od_longer, .func (PySem.W.fnOf "_longer" "_longer" (defArgs s_longer) (defBody s_longer) (defScope s_longer) .none kV_longer dc_longer pm_longer an_longer cd_longer ct_longer), sl_longer⟩) (c_longer : PySem.W.codeIn K cd_longer "_longer" = true) (k_longer : PySem.W.keepIn K (.ref f_longer) = true)
    {f_law_box : Addr} {od_law_box an_law_box : Option Addr} {sl_law_box : Array (Option Value)} {oc_law_box kV_law_box dc_law_box pm_law_box cd_law_box ct_law_box : Value}
    (a_law_box : PySem.W.nsIn K mainGlobals "_law_box" = some (some (.ref f_law_box))) (l_law_box : K.lookup f_law_box = some ⟨oc_law_box, od_law_box, .func (PySem.W.fnOf "_law_box" "_law_box" (defArgs s_law_box) (defBody s_law_box) (defScope s_law_box) .none kV_law_box dc_law_box pm_law_box an_law_box cd_law_box ct_law_box), sl_law_box⟩) (c_law_box : PySem.W.codeIn K cd_law_box "_law_box" = true) (k_law_box : PySem.W.keepIn K (.ref f_law_box) = true)
    {f_law_take : Addr} {od_law_take an_law_take : Option Addr} {sl_law_take : Array (Option Value)} {oc_law_take kV_law_take dc_law_take pm_law_take cd_law_take ct_law_take : Value}
    (a_law_take : PySem.W.nsIn K mainGlobals "_law_take" = some (some (.ref f_law_take))) (l_law_take : K.lookup f_law_take = some ⟨oc_law_take, od_law_take, .func (PySem.W.fnOf "_law_take" "_law_take" (defArgs s_law_take) (defBody s_law_take) (defScope s_law_take) .none kV_law_take dc_law_take pm_law_take an_law_take cd_law_take ct_law_take), sl_law_take⟩) (c_law_take : PySem.W.codeIn K cd_law_take "_law_take" = true) (k_law_take : PySem.W.keepIn K (.ref f_law_take) = true)
    {f_law_pick : Addr} {od_law_pick an_law_pick : Option Addr} {sl_law_pick : Array (Option Value)} {oc_law_pick kV_law_pick dc_law_pick pm_law_pick cd_law_pick ct_law_pick : Value}
    (a_law_pick : PySem.W.nsIn K mainGlobals "_law_pick" = some (some (.ref f_law_pick))) (l_law_pick : K.lookup f_law_pick = some ⟨oc_law_pick, od_law_pick, .func (PySem.W.fnOf "_law_pick" "_law_pick" (defArgs s_law_pick) (defBody s_law_pick) (defScope s_law_pick) .none kV_law_pick dc_law_pick pm_law_pick an_law_pick cd_law_pick ct_law_pick), sl_law_pick⟩) (c_law_pick : PySem.W.codeIn K cd_law_pick "_law_pick" = true) (k_law_pick : PySem.W.keepIn K (.ref f_law_pick) = true)
    {f_law_sign : Addr} {od_law_sign an_law_sign : Option Addr} {sl_law_sign : Array (Option Value)} {oc_law_sign kV_law_sign dc_law_sign pm_law_sign cd_law_sign ct_law_sign : Value}
    (a_law_sign : PySem.W.nsIn K mainGlobals "_law_sign" = some (some (.ref f_law_sign))) (l_law_sign : K.lookup f_law_sign = some ⟨oc_law_sign, od_law_sign, .func (PySem.W.fnOf "_law_sign" "_law_sign" (defArgs s_law_sign) (defBody s_law_sign) (defScope s_law_sign) .none kV_law_sign dc_law_sign pm_law_sign an_law_sign cd_law_sign ct_law_sign), sl_law_sign⟩) (c_law_sign : PySem.W.codeIn K cd_law_sign "_law_sign" = true) (k_law_sign : PySem.W.keepIn K (.ref f_law_sign) = true)
    {f_law_word : Addr} {od_law_word an_law_word : Option Addr} {sl_law_word : Array (Option Value)} {oc_law_word kV_law_word dc_law_word pm_law_word cd_law_word ct_law_word : Value}
    (a_law_word : PySem.W.nsIn K mainGlobals "_law_word" = some (some (.ref f_law_word))) (l_law_word : K.lookup f_law_word = some ⟨oc_law_word, od_law_word, .func (PySem.W.fnOf "_law_word" "_law_word" (defArgs s_law_word) (defBody s_law_word) (defScope s_law_word) .none kV_law_word dc_law_word pm_law_word an_law_word cd_law_word ct_law_word), sl_law_word⟩) (c_law_word : PySem.W.codeIn K cd_law_word "_law_word" = true) (k_law_word : PySem.W.keepIn K (.ref f_law_word) = true)
    {f_law_stroked : Addr} {od_law_stroked an_law_stroked : Option Addr} {sl_law_stroked : Array (Option Value)} {oc_law_stroked kV_law_stroked dc_law_stroked pm_law_stroked cd_law_stroked ct_law_stroked : Value}
    (a_law_stroked : PySem.W.nsIn K mainGlobals "_law_stroked" = some (some (.ref f_law_stroked))) (l_law_stroked : K.lookup f_law_stroked = some ⟨oc_law_stroked, od_law_stroked, .func (PySem.W.fnOf "_law_stroked" "_law_stroked" (defArgs s_law_stroked) (defBody s_law_stroked) (defScope s_law_stroked) .none kV_law_stroked dc_law_stroked pm_law_stroked an_law_stroked cd_law_stroked ct_law_stroked), sl_law_stroked⟩) (c_law_stroked : PySem.W.codeIn K cd_law_stroked "_law_stroked" = true) (k_law_stroked : PySem.W.keepIn K (.ref f_law_stroked) = true)
    {f_law_gap : Addr} {od_law_gap an_law_gap : Option Addr} {sl_law_gap : Array (Option Value)} {oc_law_gap kV_law_gap dc_law_gap pm_law_gap cd_law_gap ct_law_gap : Value}
    (a_law_gap : PySem.W.nsIn K mainGlobals "_law_gap" = some (some (.ref f_law_gap))) (l_law_gap : K.lookup f_law_gap = some ⟨oc_law_gap, od_law_gap, .func (PySem.W.fnOf "_law_gap" "_law_gap" (defArgs s_law_gap) (defBody s_law_gap) (defScope s_law_gap) .none kV_law_gap dc_law_gap pm_law_gap an_law_gap cd_law_gap ct_law_gap), sl_law_gap⟩) (c_law_gap : PySem.W.codeIn K cd_law_gap "_law_gap" = true) (k_law_gap : PySem.W.keepIn K (.ref f_law_gap) = true)
    {f_law_written : Addr} {od_law_written an_law_written : Option Addr} {sl_law_written : Array (Option Value)} {oc_law_written kV_law_written dc_law_written pm_law_written cd_law_written ct_law_written : Value}
    (a_law_written : PySem.W.nsIn K mainGlobals "_law_written" = some (some (.ref f_law_written))) (l_law_written : K.lookup f_law_written = some ⟨oc_law_written, od_law_written, .func (PySem.W.fnOf "_law_written" "_law_written" (defArgs s_law_written) (defBody s_law_written) (defScope s_law_written) .none kV_law_written dc_law_written pm_law_written an_law_written cd_law_written ct_law_written), sl_law_written⟩) (c_law_written : PySem.W.codeIn K cd_law_written "_law_written" = true) (k_law_written : PySem.W.keepIn K (.ref f_law_written) = true)
    {f_law_good : Addr} {od_law_good an_law_good : Option Addr} {sl_law_good : Array (Option Value)} {oc_law_good kV_law_good dc_law_good pm_law_good cd_law_good ct_law_good : Value}
    (a_law_good : PySem.W.nsIn K mainGlobals "_law_good" = some (some (.ref f_law_good))) (l_law_good : K.lookup f_law_good = some ⟨oc_law_good, od_law_good, .func (PySem.W.fnOf "_law_good" "_law_good" (defArgs s_law_good) (defBody s_law_good) (defScope s_law_good) .none kV_law_good dc_law_good pm_law_good an_law_good cd_law_good ct_law_good), sl_law_good⟩) (c_law_good : PySem.W.codeIn K cd_law_good "_law_good" = true) (k_law_good : PySem.W.keepIn K (.ref f_law_good) = true)
    {f_law_line : Addr} {od_law_line an_law_line : Option Addr} {sl_law_line : Array (Option Value)} {oc_law_line kV_law_line dc_law_line pm_law_line cd_law_line ct_law_line : Value}
    (a_law_line : PySem.W.nsIn K mainGlobals "_law_line" = some (some (.ref f_law_line))) (l_law_line : K.lookup f_law_line = some ⟨oc_law_line, od_law_line, .func (PySem.W.fnOf "_law_line" "_law_line" (defArgs s_law_line) (defBody s_law_line) (defScope s_law_line) .none kV_law_line dc_law_line pm_law_line an_law_line cd_law_line ct_law_line), sl_law_line⟩) (c_law_line : PySem.W.codeIn K cd_law_line "_law_line" = true) (k_law_line : PySem.W.keepIn K (.ref f_law_line) = true)
    {f_law_state : Addr} {od_law_state an_law_state : Option Addr} {sl_law_state : Array (Option Value)} {oc_law_state kV_law_state dc_law_state pm_law_state cd_law_state ct_law_state : Value}
    (a_law_state : PySem.W.nsIn K mainGlobals "_law_state" = some (some (.ref f_law_state))) (l_law_state : K.lookup f_law_state = some ⟨oc_law_state, od_law_state, .func (PySem.W.fnOf "_law_state" "_law_state" (defArgs s_law_state) (defBody s_law_state) (defScope s_law_state) .none kV_law_state dc_law_state pm_law_state an_law_state cd_law_state ct_law_state), sl_law_state⟩) (c_law_state : PySem.W.codeIn K cd_law_state "_law_state" = true) (k_law_state : PySem.W.keepIn K (.ref f_law_state) = true)
    {f_law_broken : Addr} {od_law_broken an_law_broken : Option Addr} {sl_law_broken : Array (Option Value)} {oc_law_broken kV_law_broken dc_law_broken pm_law_broken cd_law_broken ct_law_broken : Value}
    (a_law_broken : PySem.W.nsIn K mainGlobals "_law_broken" = some (some (.ref f_law_broken))) (l_law_broken : K.lookup f_law_broken = some ⟨oc_law_broken, od_law_broken, .func (PySem.W.fnOf "_law_broken" "_law_broken" (defArgs s_law_broken) (defBody s_law_broken) (defScope s_law_broken) .none kV_law_broken dc_law_broken pm_law_broken an_law_broken cd_law_broken ct_law_broken), sl_law_broken⟩) (c_law_broken : PySem.W.codeIn K cd_law_broken "_law_broken" = true) (k_law_broken : PySem.W.keepIn K (.ref f_law_broken) = true)
    {f_law_told : Addr} {od_law_told an_law_told : Option Addr} {sl_law_told : Array (Option Value)} {oc_law_told kV_law_told dc_law_told pm_law_told cd_law_told ct_law_told : Value}
    (a_law_told : PySem.W.nsIn K mainGlobals "_law_told" = some (some (.ref f_law_told))) (l_law_told : K.lookup f_law_told = some ⟨oc_law_told, od_law_told, .func (PySem.W.fnOf "_law_told" "_law_told" (defArgs s_law_told) (defBody s_law_told) (defScope s_law_told) .none kV_law_told dc_law_told pm_law_told an_law_told cd_law_told ct_law_told), sl_law_told⟩) (c_law_told : PySem.W.codeIn K cd_law_told "_law_told" = true) (k_law_told : PySem.W.keepIn K (.ref f_law_told) = true)
    {f_law : Addr} {od_law an_law : Option Addr} {sl_law : Array (Option Value)} {oc_law kV_law dc_law pm_law cd_law ct_law : Value}
    (a_law : PySem.W.nsIn K mainGlobals "law" = some (some (.ref f_law))) (l_law : K.lookup f_law = some ⟨oc_law, od_law, .func (PySem.W.fnOf "law" "law" (defArgs s_law) (defBody s_law) (defScope s_law) .none kV_law dc_law pm_law an_law cd_law ct_law), sl_law⟩) (c_law : PySem.W.codeIn K cd_law "law" = true) (k_law : PySem.W.keepIn K (.ref f_law) = true)
    {C_BadSign f_init : Addr} {nm_BadSign q_BadSign : Str} {N_BadSign : Addr} {bs_BadSign bm_BadSign : List Value} {sn_BadSign : List Str} {sub_BadSign : List Value} {ab_BadSign : Bool} {col_BadSign : Option Bool} {dd_BadSign : Option Addr} {m0_BadSign m1_BadSign m2_BadSign m3_BadSign m5_BadSign : Option Value}
    {od_init an_init : Option Addr} {sl_init : Array (Option Value)} {oc_init kV_init dc_init pm_init cd_init ct_init : Value}
    (aC_BadSign : PySem.W.nsIn K mainGlobals "BadSign" = some (some (.ref C_BadSign)))
    (xL_BadSign : K.lookup C_BadSign = some (excClassObj nm_BadSign q_BadSign C_BadSign N_BadSign bs_BadSign bm_BadSign true sn_BadSign sub_BadSign ab_BadSign col_BadSign dd_BadSign m0_BadSign m1_BadSign m2_BadSign m3_BadSign m5_BadSign "ValueError.__new__")) (vb_BadSign : PySem.HandSPX.refsVE bm_BadSign = true)
    (sa_BadSign : PySem.W.findIn K (.ref C_BadSign) "__setattr__" = some (some (.builtin "object.__setattr__"))) (ga_BadSign : PySem.W.findIn K (.ref C_BadSign) "__getattribute__" = some (some (.builtin "BaseException.__getattribute__"))) (gg_BadSign : PySem.W.findIn K (.ref C_BadSign) "__getattr__" = some none) (nb_BadSign : PySem.W.findIn K (.ref C_BadSign) "at" = some none)
    (a1_BadSign : PySem.W.findIn K (.ref C_BadSign) "__init__" = some (some (.ref f_init))) (t1_BadSign : PySem.W.typeIn K (.ref f_init) = some (.type "function"))
    (l1_BadSign : K.lookup f_init = some ⟨oc_init, od_init, .func (PySem.W.fnOf "__init__" "BadSign.__init__" (defArgs s_init) (defBody s_init) (defScope s_init) .none kV_init dc_init pm_init an_init cd_init ct_init), sl_init⟩) (c1_BadSign : PySem.W.codeIn K cd_init "BadSign.__init__" = true) (k1_BadSign : PySem.W.keepIn K (.ref f_init) = true)
    (kC_BadSign : PySem.W.keepIn K (.ref C_BadSign) = true) (eC_BadSign : PySem.W.subIn K (.ref C_BadSign) (.type "BaseException") = some true) (tC_BadSign : PySem.W.typeIn K (.ref C_BadSign) = some (.type "type")) (hC_BadSign : PySem.W.hasDictIn K C_BadSign = true) (iC_BadSign : PySem.W.isClsIn K C_BadSign = true) (sC_BadSign : PySem.W.subIn K (.ref C_BadSign) (.ref C_BadSign) = some true)
    {C_TooMany f_initL : Addr} {nm_TooMany q_TooMany : Str} {N_TooMany : Addr} {bs_TooMany bm_TooMany : List Value} {sn_TooMany : List Str} {sub_TooMany : List Value} {ab_TooMany : Bool} {col_TooMany : Option Bool} {dd_TooMany : Option Addr} {m0_TooMany m1_TooMany m2_TooMany m3_TooMany m5_TooMany : Option Value}
    {od_initL an_initL : Option Addr} {sl_initL : Array (Option Value)} {oc_initL kV_initL dc_initL pm_initL cd_initL ct_initL : Value}
    (aC_TooMany : PySem.W.nsIn K mainGlobals "TooMany" = some (some (.ref C_TooMany)))
    (xL_TooMany : K.lookup C_TooMany = some (excClassObj nm_TooMany q_TooMany C_TooMany N_TooMany bs_TooMany bm_TooMany true sn_TooMany sub_TooMany ab_TooMany col_TooMany dd_TooMany m0_TooMany m1_TooMany m2_TooMany m3_TooMany m5_TooMany "LookupError.__new__")) (vb_TooMany : PySem.JX.Over leTail bm_TooMany)
    (sa_TooMany : PySem.W.findIn K (.ref C_TooMany) "__setattr__" = some (some (.builtin "object.__setattr__"))) (ga_TooMany : PySem.W.findIn K (.ref C_TooMany) "__getattribute__" = some (some (.builtin "BaseException.__getattribute__"))) (gg_TooMany : PySem.W.findIn K (.ref C_TooMany) "__getattr__" = some none) (nb_TooMany : PySem.W.findIn K (.ref C_TooMany) "many" = some none)
    (a1_TooMany : PySem.W.findIn K (.ref C_TooMany) "__init__" = some (some (.ref f_initL))) (t1_TooMany : PySem.W.typeIn K (.ref f_initL) = some (.type "function"))
    (l1_TooMany : K.lookup f_initL = some ⟨oc_initL, od_initL, .func (PySem.W.fnOf "__init__" "TooMany.__init__" (defArgs s_initL) (defBody s_initL) (defScope s_initL) .none kV_initL dc_initL pm_initL an_initL cd_initL ct_initL), sl_initL⟩) (c1_TooMany : PySem.W.codeIn K cd_initL "TooMany.__init__" = true) (k1_TooMany : PySem.W.keepIn K (.ref f_initL) = true)
    (kC_TooMany : PySem.W.keepIn K (.ref C_TooMany) = true) (eC_TooMany : PySem.W.subIn K (.ref C_TooMany) (.type "BaseException") = some true) (tC_TooMany : PySem.W.typeIn K (.ref C_TooMany) = some (.type "type")) (hC_TooMany : PySem.W.hasDictIn K C_TooMany = true) (iC_TooMany : PySem.W.isClsIn K C_TooMany = true) (sC_TooMany : PySem.W.subIn K (.ref C_TooMany) (.ref C_TooMany) = some true)
    (sX_TooMany_BadSign : PySem.W.subIn K (.ref C_TooMany) (.ref C_BadSign) = some false)
    {t_MOST_SIGNS : Tok} (m_MOST_SIGNS : PySem.W.nsIn K mainGlobals "MOST_SIGNS" = some (some (.int 40 t_MOST_SIGNS)))
    {t_MOST_LINE : Tok} (m_MOST_LINE : PySem.W.nsIn K mainGlobals "MOST_LINE" = some (some (.int 2000 t_MOST_LINE)))
    {t_MOST_WORDS : Tok} (m_MOST_WORDS : PySem.W.nsIn K mainGlobals "MOST_WORDS" = some (some (.int 40 t_MOST_WORDS)))
    {t_PARTING : Tok} (m_PARTING : PySem.W.nsIn K mainGlobals "PARTING" = some (some (.str " \n" t_PARTING)))
    {q_QUOTES : Addr} {odq_QUOTES : Option Addr} {nq_QUOTES : Nat} {slq_QUOTES : Array (Option Value)} {t0_QUOTES : Tok} {t1_QUOTES : Tok} (m_QUOTES : PySem.W.nsIn K mainGlobals "QUOTES" = some (some (.ref q_QUOTES))) (lq_QUOTES : K.lookup q_QUOTES = some ⟨.type "tuple", odq_QUOTES, .seq #[.str "'" t0_QUOTES, .str "\"" t1_QUOTES] nq_QUOTES, slq_QUOTES⟩)
    (z_len : PySem.W.nsIn K mainGlobals "len" = some none)
    (z_all : PySem.W.nsIn K mainGlobals "all" = some none)
    (z_isinstance : PySem.W.nsIn K mainGlobals "isinstance" = some none)
    (z_str : PySem.W.nsIn K mainGlobals "str" = some none)
    (z_list : PySem.W.nsIn K mainGlobals "list" = some none)
    (z_tuple : PySem.W.nsIn K mainGlobals "tuple" = some none)
    (z_int : PySem.W.nsIn K mainGlobals "int" = some none)
    (z_min : PySem.W.nsIn K mainGlobals "min" = some none)
    (z_repr : PySem.W.nsIn K mainGlobals "repr" = some none)
    (z_max : PySem.W.nsIn K mainGlobals "max" = some none)
    (z_dict : PySem.W.nsIn K mainGlobals "dict" = some none)
    (z_range : PySem.W.nsIn K mainGlobals "range" = some none)
    (z_enumerate : PySem.W.nsIn K mainGlobals "enumerate" = some none)
    : ∃ fd : FuncData, (∀ (s : Shared) (v : Value), BindsTo s fd ⟨[v], []⟩ [("_law_script", v)]) ∧ ∀ base : Heap, K.In base → base.Ns mainGlobals mg → FnG l.prog w K mg base CX0 9 fa fd ["_law_script"] (spLaw K) := by
  have e := hfa.symm.trans (PySem.W.mg_of X G a_law)
  cases e
  have T : Tx K mg := { z_len := PySem.W.mg_none_of X G z_len, z_all := PySem.W.mg_none_of X G z_all, z_isinstance := PySem.W.mg_none_of X G z_isinstance, z_str := PySem.W.mg_none_of X G z_str, z_list := PySem.W.mg_none_of X G z_list, z_tuple := PySem.W.mg_none_of X G z_tuple, z_int := PySem.W.mg_none_of X G z_int, z_min := PySem.W.mg_none_of X G z_min, z_repr := PySem.W.mg_none_of X G z_repr, z_max := PySem.W.mg_none_of X G z_max, z_dict := PySem.W.mg_none_of X G z_dict, z_range := PySem.W.mg_none_of X G z_range, z_enumerate := PySem.W.mg_none_of X G z_enumerate, c_MOST_SIGNS := ⟨_, PySem.W.mg_of X G m_MOST_SIGNS⟩, c_MOST_LINE := ⟨_, PySem.W.mg_of X G m_MOST_LINE⟩, c_MOST_WORDS := ⟨_, PySem.W.mg_of X G m_MOST_WORDS⟩, c_PARTING := ⟨_, PySem.W.mg_of X G m_PARTING⟩, c_QUOTES := ⟨_, PySem.W.mg_of X G m_QUOTES, fun _ => .inr ⟨_, _, _, lq_QUOTES, rfl, rfl, by show 2 ≤ sizeLine; decide, .cons ⟨_, rfl⟩ (.cons ⟨_, rfl⟩ (.nil))⟩⟩ }
  have F_state_of := fun_mk (st := s_state_of) l_state_of c_state_of k_state_of
  have F_scanned := fun_mk (st := s_scanned) l_scanned c_scanned k_scanned
  have F_refuse_too_many := fun_mk (st := s_refuse_too_many) l_refuse_too_many c_refuse_too_many k_refuse_too_many
  have F_is_line := fun_mk (st := s_is_line) l_is_line c_is_line k_is_line
  have F_are_signs := fun_mk (st := s_are_signs) l_are_signs c_are_signs k_are_signs
  have F_longer := fun_mk (st := s_longer) l_longer c_longer k_longer
  have F_law_box := fun_mk (st := s_law_box) l_law_box c_law_box k_law_box
  have F_law_take := fun_mk (st := s_law_take) l_law_take c_law_take k_law_take
  have F_law_pick := fun_mk (st := s_law_pick) l_law_pick c_law_pick k_law_pick
  have F_law_sign := fun_mk (st := s_law_sign) l_law_sign c_law_sign k_law_sign
  have F_law_word := fun_mk (st := s_law_word) l_law_word c_law_word k_law_word
  have F_law_stroked := fun_mk (st := s_law_stroked) l_law_stroked c_law_stroked k_law_stroked
  have F_law_gap := fun_mk (st := s_law_gap) l_law_gap c_law_gap k_law_gap
  have F_law_written := fun_mk (st := s_law_written) l_law_written c_law_written k_law_written
  have F_law_good := fun_mk (st := s_law_good) l_law_good c_law_good k_law_good
  have F_law_line := fun_mk (st := s_law_line) l_law_line c_law_line k_law_line
  have F_law_state := fun_mk (st := s_law_state) l_law_state c_law_state k_law_state
  have F_law_broken := fun_mk (st := s_law_broken) l_law_broken c_law_broken k_law_broken
  have F_law_told := fun_mk (st := s_law_told) l_law_told c_law_told k_law_told
  have F_law := fun_mk (st := s_law) l_law c_law k_law
  have D_state_of : DAt K mg "state_of" s_state_of P_state_of f_state_of _ := ⟨F_state_of, PySem.W.mg_of X G a_state_of, F_state_of.binds (ps := P_state_of) fun _ _ _ _ _ _ us hl => match us, hl with | [_], _ => rfl⟩
  have D_scanned : DAt K mg "_scanned" s_scanned P_scanned f_scanned _ := ⟨F_scanned, PySem.W.mg_of X G a_scanned, F_scanned.binds (ps := P_scanned) fun _ _ _ _ _ _ us hl => match us, hl with | [_], _ => rfl⟩
  have D_refuse_too_many : DAt K mg "_refuse_too_many" s_refuse_too_many P_refuse_too_many f_refuse_too_many _ := ⟨F_refuse_too_many, PySem.W.mg_of X G a_refuse_too_many, F_refuse_too_many.binds (ps := P_refuse_too_many) fun _ _ _ _ _ _ us hl => match us, hl with | [_], _ => rfl⟩
  have D_is_line : DAt K mg "is_line" s_is_line P_is_line f_is_line _ := ⟨F_is_line, PySem.W.mg_of X G a_is_line, F_is_line.binds (ps := P_is_line) fun _ _ _ _ _ _ us hl => match us, hl with | [_], _ => rfl⟩
  have D_are_signs : DAt K mg "are_signs" s_are_signs P_are_signs f_are_signs _ := ⟨F_are_signs, PySem.W.mg_of X G a_are_signs, F_are_signs.binds (ps := P_are_signs) fun _ _ _ _ _ _ us hl => match us, hl with | [_], _ => rfl⟩
  have D_longer : DAt K mg "_longer" s_longer P_longer f_longer _ := ⟨F_longer, PySem.W.mg_of X G a_longer, F_longer.binds (ps := P_longer) fun _ _ _ _ _ _ us hl => match us, hl with | [_, _, _], _ => rfl⟩
  have D_law_box : DAt K mg "_law_box" s_law_box P_law_box f_law_box _ := ⟨F_law_box, PySem.W.mg_of X G a_law_box, F_law_box.binds (ps := P_law_box) fun _ _ _ _ _ _ us hl => match us, hl with | [_], _ => rfl⟩
  have D_law_take : DAt K mg "_law_take" s_law_take P_law_take f_law_take _ := ⟨F_law_take, PySem.W.mg_of X G a_law_take, F_law_take.binds (ps := P_law_take) fun _ _ _ _ _ _ us hl => match us, hl with | [_, _], _ => rfl⟩
  have D_law_pick : DAt K mg "_law_pick" s_law_pick P_law_pick f_law_pick _ := ⟨F_law_pick, PySem.W.mg_of X G a_law_pick, F_law_pick.binds (ps := P_law_pick) fun _ _ _ _ _ _ us hl => match us, hl with | [_, _], _ => rfl⟩
  have D_law_sign : DAt K mg "_law_sign" s_law_sign P_law_sign f_law_sign _ := ⟨F_law_sign, PySem.W.mg_of X G a_law_sign, F_law_sign.binds (ps := P_law_sign) fun _ _ _ _ _ _ us hl => match us, hl with | [_], _ => rfl⟩
  have D_law_word : DAt K mg "_law_word" s_law_word P_law_word f_law_word _ := ⟨F_law_word, PySem.W.mg_of X G a_law_word, F_law_word.binds (ps := P_law_word) fun _ _ _ _ _ _ us hl => match us, hl with | [_, _], _ => rfl⟩
  have D_law_stroked : DAt K mg "_law_stroked" s_law_stroked P_law_stroked f_law_stroked _ := ⟨F_law_stroked, PySem.W.mg_of X G a_law_stroked, F_law_stroked.binds (ps := P_law_stroked) fun _ _ _ _ _ _ us hl => match us, hl with | [_, _, _], _ => rfl⟩
  have D_law_gap : DAt K mg "_law_gap" s_law_gap P_law_gap f_law_gap _ := ⟨F_law_gap, PySem.W.mg_of X G a_law_gap, F_law_gap.binds (ps := P_law_gap) fun _ _ _ _ _ _ us hl => match us, hl with | [_, _], _ => rfl⟩
  have D_law_written : DAt K mg "_law_written" s_law_written P_law_written f_law_written _ := ⟨F_law_written, PySem.W.mg_of X G a_law_written, F_law_written.binds (ps := P_law_written) fun _ _ _ _ _ _ us hl => match us, hl with | [_, _], _ => rfl⟩
  have D_law_good : DAt K mg "_law_good" s_law_good P_law_good f_law_good _ := ⟨F_law_good, PySem.W.mg_of X G a_law_good, F_law_good.binds (ps := P_law_good) fun _ _ _ _ _ _ us hl => match us, hl with | [_], _ => rfl⟩
  have D_law_line : DAt K mg "_law_line" s_law_line P_law_line f_law_line _ := ⟨F_law_line, PySem.W.mg_of X G a_law_line, F_law_line.binds (ps := P_law_line) fun _ _ _ _ _ _ us hl => match us, hl with | [_], _ => rfl⟩
  have D_law_state : DAt K mg "_law_state" s_law_state P_law_state f_law_state _ := ⟨F_law_state, PySem.W.mg_of X G a_law_state, F_law_state.binds (ps := P_law_state) fun _ _ _ _ _ _ us hl => match us, hl with | [_], _ => rfl⟩
  have D_law_broken : DAt K mg "_law_broken" s_law_broken P_law_broken f_law_broken _ := ⟨F_law_broken, PySem.W.mg_of X G a_law_broken, F_law_broken.binds (ps := P_law_broken) fun _ _ _ _ _ _ us hl => match us, hl with | [_], _ => rfl⟩
  have D_law_told : DAt K mg "_law_told" s_law_told P_law_told f_law_told _ := ⟨F_law_told, PySem.W.mg_of X G a_law_told, F_law_told.binds (ps := P_law_told) fun _ _ _ _ _ _ us hl => match us, hl with | [_], _ => rfl⟩
  have F_init := fun_mk (st := s_init) l1_BadSign c1_BadSign k1_BadSign
  have O_BadSign : ∀ base : Heap, OE l.prog w K mg base "BadSign" "at" C_BadSign := fun base => { T := { cls := ⟨nm_BadSign, q_BadSign, N_BadSign, bs_BadSign, _, sn_BadSign, sub_BadSign, ab_BadSign, col_BadSign, dd_BadSign, m0_BadSign, m1_BadSign, m2_BadSign, m3_BadSign, m5_BadSign, xL_BadSign, vb_BadSign⟩, sa := sa_BadSign, exC := eC_BadSign, tyC := tC_BadSign, kC := kC_BadSign }, nf := nb_BadSign, gl := PySem.W.mg_of X G aC_BadSign, ini := ⟨f_init, _, a1_BadSign, t1_BadSign, ok_init F_init, F_init.binds (ps := ["self", "at"]) fun _ _ _ _ _ _ us hl => match us, hl with | [_, _], _ => rfl⟩ }
  have XF_BadSign : XfC K C_BadSign := ⟨ga_BadSign, gg_BadSign, eC_BadSign, hC_BadSign⟩
  have EX_BadSign : PySem.W.exmOne K (.ref C_BadSign) (.ref C_BadSign) = some true := exm_same eC_BadSign iC_BadSign tC_BadSign sC_BadSign
  have F_initL := fun_mk (st := s_initL) l1_TooMany c1_TooMany k1_TooMany
  have O_TooMany : ∀ base : Heap, OL l.prog w K mg base "TooMany" "many" C_TooMany := fun base => { T := { cls := ⟨nm_TooMany, q_TooMany, N_TooMany, bs_TooMany, _, sn_TooMany, sub_TooMany, ab_TooMany, col_TooMany, dd_TooMany, m0_TooMany, m1_TooMany, m2_TooMany, m3_TooMany, m5_TooMany, xL_TooMany, vb_TooMany⟩, sa := sa_TooMany, ex := eC_TooMany, ty := tC_TooMany, kp := kC_TooMany }, nf := nb_TooMany, gl := PySem.W.mg_of X G aC_TooMany, ini := ⟨f_initL, _, a1_TooMany, t1_TooMany, ok_initL F_initL, F_initL.binds (ps := ["self", "many"]) fun _ _ _ _ _ _ us hl => match us, hl with | [_, _], _ => rfl⟩ }
  have XF_TooMany : XfC K C_TooMany := ⟨ga_TooMany, gg_TooMany, eC_TooMany, hC_TooMany⟩
  have EX_TooMany : PySem.W.exmOne K (.ref C_TooMany) (.ref C_TooMany) = some true := exm_same eC_TooMany iC_TooMany tC_TooMany sC_TooMany
  have EXO_TooMany_BadSign : PySem.W.exmOne K (.ref C_TooMany) (.ref C_BadSign) = some false := exm_other eC_BadSign iC_BadSign tC_BadSign sX_TooMany_BadSign
  exact ⟨PySem.W.fnOf "law" "law" (defArgs s_law) (defBody s_law) (defScope s_law) .none kV_law dc_law pm_law an_law cd_law ct_law, fun s v => .of_eq rfl, fun base _ _ => ok_law T (O_BadSign base) XF_BadSign EX_BadSign (O_TooMany base) XF_TooMany EX_TooMany EXO_TooMany_BadSign F_law D_state_of D_scanned D_refuse_too_many D_is_line D_are_signs D_longer D_law_box D_law_take D_law_pick D_law_sign D_law_word D_law_stroked D_law_gap D_law_written D_law_good D_law_line D_law_state D_law_broken D_law_told⟩
theorem walk {l : PySem.W.OpenLaw} {q : Program} {loose : List Str} {XP : (Str → Option Value) → Heap → Prop} {YP : World → Heap → Prop} {d : DefRec} {K : Params → PySem.W.Frag} (hn : l.most = some 63) (hdf : d.params.defaults = []) (hY : ∀ (w : World) (h : Heap), YP w h → (K w.params).In h)
    (F : ∀ (w : World) (mg : Str → Option Value) (fa : Addr) (h : Heap), (K w.params).In h → h.Ns mainGlobals mg → mg d.name = some (.ref fa) →  -- own
      ∃ fd : FuncData, (∀ (s : Shared) (u : Value), BindsTo s fd ⟨[u], []⟩ [("_law_script", u)]) ∧ ∀ base : Heap, (K w.params).In base → base.Ns mainGlobals mg → FnG l.prog w (K w.params) mg base CX0 9 fa fd ["_law_script"] (spLaw (K w.params))) :
    PySem.W.WalkO q loose XP YP l.row.toRowW d [] (fun f vs => PySem.call f vs) :=  -- own
  walk_ofG (n := 63) (k := 9) (x := "_law_script") (sp := fun w => spLaw (K w.params)) hn (by decide) hdf ⟨rfl, by decide, by decide⟩ hY F (fun _ _ a ns hl _ hS => ⟨a, ns, rfl, hS, hl, fun _ => rfl⟩)
end K09
open PySem PySem.W PyProof.Rows  -- own
set_option maxRecDepth 100000 in  -- own
set_option maxHeartbeats 0 in
theorem PySem.Challenge.cw_callwords_k09_lines_that_break_off_holds : PySem.Challenge.rw_callwords_k09_lines_that_break_off.Holds := by
  w_on; o_law; k_head; (case hw => w_witness2)  -- own
  k_fill
  refine K09.walk (l := PySem.Challenge.rw_callwords_k09_lines_that_break_off) rfl rfl (fun w h Y => PySem.W.kIn_of Y) ?F
  case F =>
    intro w mg fa h KX G hmg
    refine' K09.all_mk KX G hmg ?a_state_of ?l_state_of ?c_state_of ?k_state_of ?a_scanned ?l_scanned ?c_scanned ?k_scanned ?a_refuse_too_many ?l_refuse_too_many ?c_refuse_too_many ?k_refuse_too_many ?a_is_line ?l_is_line ?c_is_line ?k_is_line ?a_are_signs ?l_are_signs ?c_are_signs ?k_are_signs ?a_longer ?l_longer ?c_longer ?k_longer ?a_law_box ?l_law_box ?c_law_box ?k_law_box ?a_law_take ?l_law_take ?c_law_take ?k_law_take ?a_law_pick ?l_law_pick ?c_law_pick ?k_law_pick ?a_law_sign ?l_law_sign ?c_law_sign ?k_law_sign ?a_law_word ?l_law_word ?c_law_word ?k_law_word ?a_law_stroked ?l_law_stroked ?c_law_stroked ?k_law_stroked ?a_law_gap ?l_law_gap ?c_law_gap ?k_law_gap ?a_law_written ?l_law_written ?c_law_written ?k_law_written ?a_law_good ?l_law_good ?c_law_good ?k_law_good ?a_law_line ?l_law_line ?c_law_line ?k_law_line ?a_law_state ?l_law_state ?c_law_state ?k_law_state ?a_law_broken ?l_law_broken ?c_law_broken ?k_law_broken ?a_law_told ?l_law_told ?c_law_told ?k_law_told ?a_law ?l_law ?c_law ?k_law ?aC_BadSign ?xL_BadSign ?vb_BadSign ?sa_BadSign ?ga_BadSign ?gg_BadSign ?nb_BadSign ?a1_BadSign ?t1_BadSign ?l1_BadSign ?c1_BadSign ?k1_BadSign ?kC_BadSign ?eC_BadSign ?tC_BadSign ?hC_BadSign ?iC_BadSign ?sC_BadSign ?aC_TooMany ?xL_TooMany ?vb_TooMany ?sa_TooMany ?ga_TooMany ?gg_TooMany ?nb_TooMany ?a1_TooMany ?t1_TooMany ?l1_TooMany ?c1_TooMany ?k1_TooMany ?kC_TooMany ?eC_TooMany ?tC_TooMany ?hC_TooMany ?iC_TooMany ?sC_TooMany ?sX_TooMany_BadSign ?m_MOST_SIGNS ?m_MOST_LINE ?m_MOST_WORDS ?m_PARTING ?m_QUOTES ?lq_QUOTES ?z_len ?z_all ?z_isinstance ?z_str ?z_list ?z_tuple ?z_int ?z_min ?z_repr ?z_max ?z_dict ?z_range ?z_enumerate
    (case a_state_of => k_is)
    (case l_state_of => k_is)
    (case c_state_of => k_is)
    (case k_state_of => k_is)
    (case a_scanned => k_is)
    (case l_scanned => k_is)
    (case c_scanned => k_is)
    (case k_scanned => k_is)
    (case a_refuse_too_many => k_is)
    (case l_refuse_too_many => k_is)
    (case c_refuse_too_many => k_is)
    (case k_refuse_too_many => k_is)
    (case a_is_line => k_is)
    (case l_is_line => k_is)
    (case c_is_line => k_is)
    (case k_is_line => k_is)
    (case a_are_signs => k_is)
    (case l_are_signs => k_is)
    (case c_are_signs => k_is)
    (case k_are_signs => k_is)
    (case a_longer => k_is)
    (case l_longer => k_is)
    (case c_longer => k_is)
    (case k_longer => k_is)
    (case a_law_box => k_is)
    (case l_law_box => k_is)
    (case c_law_box => k_is)
    (case k_law_box => k_is)
    (case a_law_take => k_is)
    (case l_law_take => k_is)
    (case c_law_take => k_is)
    (case k_law_take => k_is)
    (case a_law_pick => k_is)
    (case l_law_pick => k_is)
    (case c_law_pick => k_is)
    (case k_law_pick => k_is)
    (case a_law_sign => k_is)
    (case l_law_sign => k_is)
    (case c_law_sign => k_is)
    (case k_law_sign => k_is)
    (case a_law_word => k_is)
    (case l_law_word => k_is)
    (case c_law_word => k_is)
    (case k_law_word => k_is)
    (case a_law_stroked => k_is)
    (case l_law_stroked => k_is)
    (case c_law_stroked => k_is)
    (case k_law_stroked => k_is)
    (case a_law_gap => k_is)
    (case l_law_gap => k_is)
    (case c_law_gap => k_is)
    (case k_law_gap => k_is)
    (case a_law_written => k_is)
    (case l_law_written => k_is)
    (case c_law_written => k_is)
    (case k_law_written => k_is)
    (case a_law_good => k_is)
    (case l_law_good => k_is)
    (case c_law_good => k_is)
    (case k_law_good => k_is)
    (case a_law_line => k_is)
    (case l_law_line => k_is)
    (case c_law_line => k_is)
    (case k_law_line => k_is)
    (case a_law_state => k_is)
    (case l_law_state => k_is)
    (case c_law_state => k_is)
    (case k_law_state => k_is)
    (case a_law_broken => k_is)
    (case l_law_broken => k_is)
    (case c_law_broken => k_is)
    (case k_law_broken => k_is)
    (case a_law_told => k_is)
    (case l_law_told => k_is)
    (case c_law_told => k_is)
    (case k_law_told => k_is)
    (case a_law => k_is)
    (case l_law => k_is)
    (case c_law => k_is)
    (case k_law => k_is)
    (case aC_BadSign => k_is)
    (case xL_BadSign => k_is)
    (case vb_BadSign => first | rfl | exact ⟨[_], rfl⟩)
    (case sa_BadSign => k_is)
    (case ga_BadSign => k_is)
    (case gg_BadSign => k_is)
    (case nb_BadSign => k_is)
    (case a1_BadSign => k_is)
    (case t1_BadSign => k_is)
    (case l1_BadSign => k_is)
    (case c1_BadSign => k_is)
    (case k1_BadSign => k_is)
    (case kC_BadSign => k_is)
    (case eC_BadSign => k_is)
    (case tC_BadSign => k_is)
    (case hC_BadSign => k_is)
    (case iC_BadSign => k_is)
    (case sC_BadSign => first | rfl | k_is)
    (case aC_TooMany => k_is)
    (case xL_TooMany => k_is)
    (case vb_TooMany => first | rfl | exact ⟨[_], rfl⟩)
    (case sa_TooMany => k_is)
    (case ga_TooMany => k_is)
    (case gg_TooMany => k_is)
    (case nb_TooMany => k_is)
    (case a1_TooMany => k_is)
    (case t1_TooMany => k_is)
    (case l1_TooMany => k_is)
    (case c1_TooMany => k_is)
    (case k1_TooMany => k_is)
    (case kC_TooMany => k_is)
    (case eC_TooMany => k_is)
    (case tC_TooMany => k_is)
    (case hC_TooMany => k_is)
    (case iC_TooMany => k_is)
    (case sC_TooMany => first | rfl | k_is)
    (case sX_TooMany_BadSign => first | rfl | k_is)
    (case m_MOST_SIGNS => k_is)
    (case m_MOST_LINE => k_is)
    (case m_MOST_WORDS => k_is)
    (case m_PARTING => k_is)
    (case m_QUOTES => k_is)
    (case lq_QUOTES => k_is)
    (case z_len => k_is)
    (case z_all => k_is)
    (case z_isinstance => k_is)
    (case z_str => k_is)
    (case z_list => k_is)
    (case z_tuple => k_is)
    (case z_int => k_is)
    (case z_min => k_is)
    (case z_repr => k_is)
    (case z_max => k_is)
    (case z_dict => k_is)
    (case z_range => k_is)
    (case z_enumerate => k_is)

