import PyProof.Rows.All
import Wide.All
import OpenK.AllK
import Wide.FinOn
import KE.IntTextText
import KE.KIntText
import HandS.ForMost
import HandS.ForExc
import HandS.IsInst
import HandS.Flow
import HandS.StrMore
import HandS.TryMany
import HandS.ExcInit
import HandS.Wide
import HandS.WideBits
import HandS.TupAny
import HandS.Style
import HandS.Small
import HandS.Replace
import HandS.Deep
import PyProof.Draws
import PyProof.ReprRoads
import PyProof.StrBlock2
import KE.DataMinKey
import PyProof.WalkInts
import HandS.ReplaceLit
import HandS.ReplaceList
import HandS.ExcField
import HandS.ExcOwn
import HandS.WordsExc
import KE.KRevSl
import PyProof.SliceStr2
import HandS.Ends
import KE.KExcInit
import PyProof.ExcBaseAll.LookupError
import PyProof.ReprLen
import PyProof.StrLawsRepr
import KE.KWords
import KE.DatumOrd
import HandS.Strs
import HandS.Zip
import PyProof.WalksMore
import PyProof.TupleIter
import KE.IntTextLaws
import HandS.Defaults
import HandS.RaiseMore
import KE.KExcStr
import KE.KExcIs
import PyProof.ExcRepr
import HandS.ExcValue
import HandS.MapObj
import HandS.MapJoin
import HandS.RevTup
import HandS.Rev
import PyProof.FactsAll.dict_1
import PyProof.FactsAll.subtypes
import HandS.TupMul
import KE.KTryMore
import HandS.ExcIs
import PySem.Challenge.RW_callwords_k07_lines_refused
set_option Elab.async false
set_option linter.all false
set_option maxRecDepth 100000
set_option maxHeartbeats 4000000  -- own
/-! the cutting of lines, as plain functions over codes -/
namespace M
/-- words whole, the begun one, the open quote (0: none), where it was opened, a stroke ahead -/
structure Sc where
  ws : List (List Nat)
  bg : Option (List Nat)
  qt : Nat
  op : Nat
  tk : Bool
  deriving DecidableEq
def sc0 : Sc := ⟨[], none, 0, 0, false⟩
/-- the program's turn -/
def stP (s : Sc) (i c : Nat) : Except Nat Sc :=
  if c = 10 ∧ (s.tk = true ∨ s.qt ≠ 0) then .error i
  else if s.tk = true then (if ((s.bg.getD []) ++ [c]).length > 40 then .error i else .ok { s with bg := some ((s.bg.getD []) ++ [c]), tk := false })
  else if c = 92 ∧ s.qt ≠ 39 then .ok { s with tk := true }
  else if c = s.qt then .ok { s with qt := 0 }
  else if s.qt = 0 ∧ (c = 39 ∨ c = 34) then .ok { s with bg := some (s.bg.getD []), qt := c, op := i }
  else if s.qt = 0 ∧ (c = 32 ∨ c = 10) then .ok { s with ws := (match s.bg with | some b => s.ws ++ [b] | none => s.ws), bg := none }
  else if ((s.bg.getD []) ++ [c]).length > 40 then .error i else .ok { s with bg := some ((s.bg.getD []) ++ [c]) }
/-- the law's turn -/
def stL (s : Sc) (i c : Nat) : Except Nat Sc :=
  if s.tk = true ∨ (s.qt ≠ 0 ∧ c ≠ s.qt ∧ (c ≠ 92 ∨ s.qt = 39)) ∨ (s.qt = 0 ∧ c ≠ 32 ∧ c ≠ 10 ∧ c ≠ 39 ∧ c ≠ 34 ∧ c ≠ 92) then
    (if c = 10 ∨ ((s.bg.getD []) ++ [c]).length > 40 then .error i else .ok { s with bg := some ((s.bg.getD []) ++ [c]), tk := false })
  else if c = 92 then .ok { s with bg := some (s.bg.getD []), tk := true }
  else if s.qt ≠ 0 then .ok { s with qt := 0 }
  else if c = 39 ∨ c = 34 then .ok { s with bg := some (s.bg.getD []), qt := c, op := i }
  else .ok { s with ws := (match s.bg with | some b => s.ws ++ [b] | none => s.ws), bg := none }
def scan (st : Sc → Nat → Nat → Except Nat Sc) : Nat → Sc → List Nat → Except Nat Sc
  | _, s, [] => .ok s
  | i, s, c :: l => match st s i c with
    | .ok t => scan st (i + 1) t l
    | .error e => .error e
theorem scan_snoc (st : Sc → Nat → Nat → Except Nat Sc) : ∀ (l : List Nat) (i : Nat) (s : Sc) (c : Nat), scan st i s (l ++ [c]) = match scan st i s l with | .ok t => st t (i + l.length) c | .error e => .error e
  | [], i, s, c => by
    simp only [List.nil_append, scan, List.length_nil, Nat.add_zero]
    cases st s i c <;> rfl
  | d :: l, i, s, c => by
    simp only [List.cons_append, scan]
    cases h : st s i d with
    | error e => rfl
    | ok t =>
      have ih := scan_snoc st l (i + 1) t c
      have e : i + 1 + l.length = i + (d :: l).length := by simp only [List.length_cons]; omega
      rw [e] at ih
      exact ih
theorem scan_app (st : Sc → Nat → Nat → Except Nat Sc) : ∀ (l m : List Nat) (i : Nat) (s : Sc), scan st i s (l ++ m) = match scan st i s l with | .ok t => scan st (i + l.length) t m | .error e => .error e
  | [], m, i, s => by simp [scan]
  | d :: l, m, i, s => by
    simp only [List.cons_append, scan]
    cases h : st s i d with
    | error e => rfl
    | ok t =>
      have ih := scan_app st l m (i + 1) t
      have e : i + 1 + l.length = i + (d :: l).length := by simp only [List.length_cons]; omega
      rw [e] at ih
      exact ih
theorem scan_take_succ {st : Sc → Nat → Nat → Except Nat Sc} {l : List Nat} {i c : Nat} {s t : Sc} (h : l[i]? = some c) (hs : scan st 0 s (l.take i) = .ok t) : scan st 0 s (l.take (i + 1)) = st t i c := by
  have e : l.take (i + 1) = l.take i ++ [c] := by rw [List.take_add_one, h]; rfl
  have li : (l.take i).length = i := by
    have := (List.getElem?_eq_some_iff.mp h).1
    rw [List.length_take]; omega
  rw [e, scan_snoc, hs, li]
  simp
theorem scan_take_err {st : Sc → Nat → Nat → Except Nat Sc} {l : List Nat} {i e : Nat} {s : Sc} (h : scan st 0 s (l.take i) = .error e) : scan st 0 s l = .error e := by
  have := scan_app st (l.take i) (l.drop i) 0 s
  rw [List.take_append_drop, h] at this
  exact this
/-- the state in which the law is where the program is -/
def lw (s : Sc) : Sc := if s.tk = true then { s with bg := some (s.bg.getD []) } else s
theorem lw_sc0 : lw sc0 = sc0 := rfl
/-- the quote is none, or one of the two -/
def Gd (s : Sc) : Prop := (s.qt = 0 ∨ s.qt = 39 ∨ s.qt = 34) ∧ (s.tk = true → s.qt ≠ 39)
theorem st_eq {s : Sc} (g : Gd s) (i c : Nat) (h0 : c ≠ 0) : match stP s i c with | .ok t => stL (lw s) i c = .ok (lw t) ∧ Gd t | .error e => stL (lw s) i c = .error e := by
  obtain ⟨ws, bg, qt, op, tk⟩ := s
  obtain ⟨g1, g2⟩ := g
  simp only at g1 g2
  cases tk
  · have lw0 : lw ⟨ws, bg, qt, op, false⟩ = ⟨ws, bg, qt, op, false⟩ := rfl
    rw [lw0]
    unfold stP stL
    simp only [Bool.false_eq_true, false_or, if_false, ne_eq]
    by_cases c10 : c = 10
    · subst c10
      rcases g1 with rfl | rfl | rfl
      · simp [lw, Gd]
      · simp [lw, Gd]
      · simp [lw, Gd]
    · by_cases c92 : c = 92
      · subst c92
        rcases g1 with rfl | rfl | rfl
        · simp [lw, Gd]
        · by_cases hl : 40 < (bg.getD []).length + 1 <;> simp [lw, Gd, hl]
        · simp [lw, Gd]
      · by_cases cq : c = qt
        · subst cq
          rcases g1 with h | h | h
          · exact absurd h h0
          · subst h; simp [lw, Gd]
          · subst h; simp [lw, Gd]
        · rcases g1 with rfl | rfl | rfl
          · by_cases c39 : c = 39
            · subst c39; simp [lw, Gd]
            · by_cases c34 : c = 34
              · subst c34; simp [lw, Gd]
              · by_cases c32 : c = 32
                · subst c32; simp [lw, Gd]
                · by_cases hl : 40 < (bg.getD []).length + 1 <;> simp [lw, Gd, hl, c10, c92, cq, c39, c34, c32]
          · by_cases hl : 40 < (bg.getD []).length + 1 <;> simp [lw, Gd, hl, c10, c92, cq]
          · by_cases hl : 40 < (bg.getD []).length + 1 <;> simp [lw, Gd, hl, c10, c92, cq]
  · have lw0 : lw ⟨ws, bg, qt, op, true⟩ = ⟨ws, some (bg.getD []), qt, op, true⟩ := rfl
    rw [lw0]
    unfold stP stL
    by_cases c10 : c = 10
    · subst c10; simp
    · by_cases hl : ((bg.getD []) ++ [c]).length > 40
      · simp only [c10, false_and, if_false, if_true, hl, or_true, true_or, Option.getD_some, false_or]
      · simp only [c10, false_and, if_false, if_true, hl, or_false, true_or, Option.getD_some, false_or, lw, Bool.false_eq_true]
        exact ⟨trivial, g1, fun h => by simp at h⟩
theorem scan_eq : ∀ (l : List Nat) (i : Nat) (s : Sc), Gd s → (∀ c ∈ l, c ≠ 0) → match scan stP i s l with | .ok t => scan stL i (lw s) l = .ok (lw t) ∧ Gd t | .error e => scan stL i (lw s) l = .error e
  | [], i, s, g, _ => ⟨rfl, g⟩
  | c :: l, i, s, g, h => by
    have e := st_eq g i c (h c (List.mem_cons_self ..))
    simp only [scan]
    cases q : stP s i c with
    | error x => rw [q] at e; rw [e]
    | ok t =>
      rw [q] at e
      obtain ⟨e, g'⟩ := e
      rw [e]
      exact scan_eq l (i + 1) t g' fun d hd => h d (List.mem_cons_of_mem _ hd)
end M

/-! quoting, and that what is quoted is cut to the same -/
namespace M
def N1 : List Nat := [32, 39, 34, 92]
def N2 : List Nat := [34, 92]
def esc (need : List Nat) : List Nat → List Nat
  | [] => []
  | c :: l => (if c ∈ need then [92, c] else [c]) ++ esc need l
def ways (l : List Nat) : List (List Nat) := (if l = [] then [] else [esc N1 l]) ++ ((if 39 ∈ l then [] else [39 :: l ++ [39]]) ++ [34 :: esc N2 l ++ [34]])
/-- the first of the shortest -/
def FM (xs : List (List Nat)) (v : List Nat) : Prop := ∃ i : Nat, xs[i]? = some v ∧ ∀ j w, xs[j]? = some w → v.length ≤ w.length ∧ (j < i → v.length < w.length)
theorem FM.uniq {xs : List (List Nat)} {v w : List Nat} (a : FM xs v) (b : FM xs w) : v = w := by
  obtain ⟨i, hi, a⟩ := a
  obtain ⟨j, hj, b⟩ := b
  rcases Nat.lt_trichotomy i j with h | h | h
  · have := (a j w hj).1; have := (b i v hi).2 h; omega
  · subst h; rw [hi] at hj; exact Option.some.inj hj
  · have := (b i v hi).1; have := (a j w hj).2 h; omega
theorem FM.cons {x v : List Nat} {xs : List (List Nat)} (h : xs[0]? = some x) (a : FM (x :: xs) v) : FM xs v := by
  obtain ⟨i, hi, a⟩ := a
  cases i with
  | zero =>
    have e : x = v := by simpa using hi
    subst e
    exact ⟨0, h, fun j w hj => ⟨(a (j + 1) w (by simpa using hj)).1, fun q => absurd q (Nat.not_lt_zero _)⟩⟩
  | succ i => exact ⟨i, by simpa using hi, fun j w hj => ⟨(a (j + 1) w (by simpa using hj)).1, fun q => (a (j + 1) w (by simpa using hj)).2 (by omega)⟩⟩
theorem esc_none {need l : List Nat} (h : ∀ c ∈ l, c ∉ need) : esc need l = l := by
  induction l with
  | nil => rfl
  | cons c l ih =>
    unfold esc
    rw [if_neg (h c (List.mem_cons_self ..)), ih fun d hd => h d (List.mem_cons_of_mem _ hd)]
    rfl
theorem esc_len (need : List Nat) : ∀ l : List Nat, (esc need l).length ≤ 2 * l.length
  | [] => Nat.le_refl _
  | c :: l => by
    have := esc_len need l
    unfold esc
    split <;> simp only [List.length_append, List.length_cons, List.length_nil] <;> omega
theorem esc_eq (need : List Nat) : ∀ l : List Nat, esc need l = (l.map fun c => if c ∈ need then [92, c] else [c]).flatten
  | [] => rfl
  | c :: l => by
    unfold esc
    rw [esc_eq need l]; rfl
theorem esc_mem {need : List Nat} : ∀ {l : List Nat} {c : Nat}, c ∈ esc need l → c = 92 ∨ c ∈ l
  | [], c, h => by simp [esc] at h
  | d :: l, c, h => by
    unfold esc at h
    rcases List.mem_append.mp h with h | h  -- own
    · split at h
      · rcases List.mem_cons.mp h with h | h
        · exact .inl h
        · exact .inr (List.mem_cons.mpr (.inl (List.mem_singleton.mp h)))
      · exact .inr (List.mem_cons.mpr (.inl (List.mem_singleton.mp h)))
    · rcases esc_mem h with h | h
      · exact .inl h
      · exact .inr (List.mem_cons_of_mem _ h)
/-- a word: at most forty signs -/
def Wd (l : List Nat) : Prop := l.length ≤ 40 ∧ ∀ c ∈ l, 32 ≤ c ∧ c ≤ 126
theorem scan_esc1 : ∀ (l : List Nat) (i : Nat) (ws : List (List Nat)) (b : Option (List Nat)) (op : Nat), (∀ c ∈ l, 32 ≤ c ∧ c ≤ 126) → (b.getD []).length + l.length ≤ 40 →
    scan stP i ⟨ws, b, 0, op, false⟩ (esc N1 l) = .ok ⟨ws, if l = [] then b else some (b.getD [] ++ l), 0, op, false⟩
  | [], i, ws, b, op, _, _ => by simp [esc, scan]
  | c :: l, i, ws, b, op, h, hl => by
    have hc := h c (List.mem_cons_self ..)  -- own
    have hl' : l.length + 1 + (b.getD []).length ≤ 40 := by simpa [Nat.add_comm] using hl
    have ih := fun i => scan_esc1 l i ws (some (b.getD [] ++ [c])) op (fun d hd => h d (List.mem_cons_of_mem _ hd)) (by simp; omega)
    have fin : (if l = [] then some (b.getD [] ++ [c]) else some ((some (b.getD [] ++ [c])).getD [] ++ l)) = some (b.getD [] ++ c :: l) := by
      split
      · rename_i e; subst e; rfl
      · simp
    have n1 : ¬ 40 < (b.getD []).length + 1 := by omega
    have n2 : ¬ c = 10 := by omega
    have n3 : ¬ c = 0 := by omega
    unfold esc
    split
    · rename_i hm
      have e1 : stP ⟨ws, b, 0, op, false⟩ i 92 = .ok ⟨ws, b, 0, op, true⟩ := by simp [stP]
      have e2 : stP ⟨ws, b, 0, op, true⟩ (i + 1) c = .ok ⟨ws, some (b.getD [] ++ [c]), 0, op, false⟩ := by simp [stP, n1, n2]
      simp only [List.cons_append, List.nil_append, scan, e1, e2]
      rw [ih, fin]
      simp
    · rename_i hm
      simp [N1] at hm
      obtain ⟨m1, m2, m3, m4⟩ := hm
      have e2 : stP ⟨ws, b, 0, op, false⟩ i c = .ok ⟨ws, some (b.getD [] ++ [c]), 0, op, false⟩ := by simp [stP, n1, n2, n3, m1, m2, m3, m4]
      simp only [List.cons_append, List.nil_append, scan, e2]
      rw [ih, fin]
      simp
theorem scan_in1 : ∀ (l : List Nat) (i : Nat) (ws : List (List Nat)) (b : List Nat) (op : Nat), (∀ c ∈ l, 32 ≤ c ∧ c ≤ 126) → 39 ∉ l → b.length + l.length ≤ 40 →
    scan stP i ⟨ws, some b, 39, op, false⟩ l = .ok ⟨ws, some (b ++ l), 39, op, false⟩
  | [], i, ws, b, op, _, _, _ => by simp [scan]
  | c :: l, i, ws, b, op, h, h39, hl => by
    have hc := h c (List.mem_cons_self ..)  -- own
    have hl' : l.length + 1 + b.length ≤ 40 := by simpa [Nat.add_comm] using hl
    have n1 : ¬ 40 < b.length + 1 := by omega
    have n2 : ¬ c = 10 := by omega
    have n3 : ¬ c = 39 := fun e => h39 (by rw [e]; exact List.mem_cons_self ..)
    have e2 : stP ⟨ws, some b, 39, op, false⟩ i c = .ok ⟨ws, some (b ++ [c]), 39, op, false⟩ := by simp [stP, n1, n2, n3]
    simp only [scan, e2]
    rw [scan_in1 l (i + 1) ws (b ++ [c]) op (fun d hd => h d (List.mem_cons_of_mem _ hd)) (fun e => h39 (List.mem_cons_of_mem _ e)) (by simp; omega)]
    simp
theorem scan_in2 : ∀ (l : List Nat) (i : Nat) (ws : List (List Nat)) (b : List Nat) (op : Nat), (∀ c ∈ l, 32 ≤ c ∧ c ≤ 126) → b.length + l.length ≤ 40 →
    scan stP i ⟨ws, some b, 34, op, false⟩ (esc N2 l) = .ok ⟨ws, some (b ++ l), 34, op, false⟩
  | [], i, ws, b, op, _, _ => by simp [scan, esc]
  | c :: l, i, ws, b, op, h, hl => by
    have hc := h c (List.mem_cons_self ..)  -- own
    have hl' : l.length + 1 + b.length ≤ 40 := by simpa [Nat.add_comm] using hl
    have n1 : ¬ 40 < b.length + 1 := by omega
    have n2 : ¬ c = 10 := by omega
    have ih := fun i => scan_in2 l i ws (b ++ [c]) op (fun d hd => h d (List.mem_cons_of_mem _ hd)) (by simp; omega)
    unfold esc
    split
    · rename_i hm
      have e1 : stP ⟨ws, some b, 34, op, false⟩ i 92 = .ok ⟨ws, some b, 34, op, true⟩ := by simp [stP]
      have e2 : stP ⟨ws, some b, 34, op, true⟩ (i + 1) c = .ok ⟨ws, some (b ++ [c]), 34, op, false⟩ := by simp [stP, n1, n2]
      simp only [List.cons_append, List.nil_append, scan, e1, e2]
      rw [ih]
      simp
    · rename_i hm
      simp [N2] at hm
      obtain ⟨m3, m4⟩ := hm
      have e2 : stP ⟨ws, some b, 34, op, false⟩ i c = .ok ⟨ws, some (b ++ [c]), 34, op, false⟩ := by simp [stP, n1, n2, m3, m4]
      simp only [List.cons_append, List.nil_append, scan, e2]
      rw [ih]
      simp
/-- each way, from between two words: the word is begun -/
theorem scan_way {l v : List Nat} (w : Wd l) (hv : v ∈ ways l) (i : Nat) (ws : List (List Nat)) (op : Nat) : ∃ o, scan stP i ⟨ws, none, 0, op, false⟩ v = .ok ⟨ws, some l, 0, o, false⟩ := by
  obtain ⟨wl, wc⟩ := w
  unfold ways at hv
  rcases List.mem_append.mp hv with h | h
  · split at h
    · cases h
    · rename_i ne
      rw [List.mem_singleton.mp h]
      refine ⟨op, ?_⟩
      rw [scan_esc1 l i ws none op wc (by simpa using wl), if_neg ne]
      simp
  · rcases List.mem_append.mp h with h | h  -- own
    · split at h
      · cases h
      · rename_i h39
        rw [List.mem_singleton.mp h]
        refine ⟨i, ?_⟩
        have e1 : stP ⟨ws, none, 0, op, false⟩ i 39 = .ok ⟨ws, some [], 39, i, false⟩ := by simp [stP]
        simp only [List.cons_append, scan, e1]
        rw [scan_app, scan_in1 l _ ws [] i wc h39 (by simpa using wl)]
        simp [scan, stP]
    · rw [List.mem_singleton.mp h]
      refine ⟨i, ?_⟩
      have e1 : stP ⟨ws, none, 0, op, false⟩ i 34 = .ok ⟨ws, some [], 34, i, false⟩ := by simp [stP]
      simp only [List.cons_append, scan, e1]
      rw [scan_app, scan_in2 l _ ws [] i wc (by simpa using wl)]
      simp [scan, stP]
theorem way_len {l v : List Nat} (w : Wd l) (hv : v ∈ ways l) : v.length ≤ 82 ∧ ∀ c ∈ v, 32 ≤ c ∧ c ≤ 126 := by
  obtain ⟨wl, wc⟩ := w
  have g1 := esc_len N1 l
  have g2 := esc_len N2 l
  have hm : ∀ need, ∀ c ∈ esc need l, 32 ≤ c ∧ c ≤ 126 := fun need c hc => by
    rcases esc_mem hc with h | h
    · omega
    · exact wc c h
  unfold ways at hv
  rcases List.mem_append.mp hv with h | h
  · split at h
    · cases h
    · rw [List.mem_singleton.mp h]; exact ⟨by omega, hm _⟩
  · rcases List.mem_append.mp h with h | h  -- own
    · split at h
      · cases h
      · rw [List.mem_singleton.mp h]
        refine ⟨by simp only [List.length_append, List.length_cons, List.length_nil]; omega, fun c hc => ?_⟩
        simp only [List.cons_append, List.mem_cons, List.mem_append, List.not_mem_nil, or_false] at hc
        rcases hc with h | h | h
        · omega
        · exact wc c h
        · omega
    · rw [List.mem_singleton.mp h]
      refine ⟨by simp only [List.length_append, List.length_cons, List.length_nil]; omega, fun c hc => ?_⟩
      simp only [List.cons_append, List.mem_cons, List.mem_append, List.not_mem_nil, or_false] at hc
      rcases hc with h | h | h
      · omega
      · exact hm _ c h
      · omega
/-- many words: each quoted in some way, a blank between -/
def jn : List (List Nat) → List Nat
  | [] => []
  | [x] => x
  | x :: y :: r => x ++ 32 :: jn (y :: r)
inductive Ways : List (List Nat) → List (List Nat) → Prop
  | nil : Ways [] []
  | cons {l v : List Nat} {ls vs : List (List Nat)} (w : Wd l) (h : v ∈ ways l) (r : Ways ls vs) : Ways (l :: ls) (v :: vs)
theorem scan_jn : ∀ {ls vs : List (List Nat)}, Ways ls vs → ∀ (i : Nat) (ws : List (List Nat)) (op : Nat), ∃ o, scan stP i ⟨ws, none, 0, op, false⟩ (jn vs) = .ok ⟨ws ++ ls.dropLast, ls.getLast?, 0, o, false⟩
  | _, _, .nil, i, ws, op => ⟨op, by simp [jn, scan]⟩
  | _, _, .cons (l := l) (v := v) (ls := ls) (vs := vs) w h r, i, ws, op => by
    cases r with
    | nil =>
      obtain ⟨o, e⟩ := scan_way w h i ws op
      exact ⟨o, by simpa [jn] using e⟩
    | cons w2 h2 r2 =>
      rename_i l2 v2 ls2 vs2
      obtain ⟨o, e⟩ := scan_way w h i ws op
      obtain ⟨o2, e2⟩ := scan_jn (.cons w2 h2 r2) (i + v.length + 1) (ws ++ [l]) o
      refine ⟨o2, ?_⟩
      have e3 : stP ⟨ws, some l, 0, o, false⟩ (i + v.length) 32 = .ok ⟨ws ++ [l], none, 0, o, false⟩ := by simp [stP]
      simp only [jn]
      rw [scan_app, e]
      simp only [scan, e3]
      rw [e2]
      simp
theorem jn_ok : ∀ {ls vs : List (List Nat)}, Ways ls vs → (jn vs).length ≤ 83 * ls.length ∧ ∀ c ∈ jn vs, 32 ≤ c ∧ c ≤ 126
  | _, _, .nil => ⟨Nat.le_refl _, fun c h => by simp [jn] at h⟩
  | _, _, .cons (l := l) (v := v) (ls := ls) (vs := vs) w h r => by
    obtain ⟨a, b⟩ := way_len w h
    cases r with
    | nil => exact ⟨by simp [jn]; omega, b⟩
    | cons w2 h2 r2 =>
      obtain ⟨a2, b2⟩ := jn_ok (.cons w2 h2 r2)
      refine ⟨?_, fun c hc => ?_⟩
      · simp only [jn, List.length_append, List.length_cons] at a2 ⊢; omega
      · simp only [jn, List.mem_append, List.mem_cons] at hc b2
        rcases hc with h | h | h
        · exact b c h
        · omega
        · exact b2 c h
end M

/-! lines written part by part in drawn ways -/
namespace M
/-- the signs of l, some with a stroke ahead, all of need -/
inductive Strk (need : List Nat) : List Nat → List Nat → Prop
  | nil : Strk need [] []
  | bare {c : Nat} {l o : List Nat} (h : c ∉ need) (r : Strk need l o) : Strk need (c :: l) (c :: o)
  | str {c : Nat} {l o : List Nat} (r : Strk need l o) : Strk need (c :: l) (92 :: c :: o)
theorem Strk.app {need : List Nat} : ∀ {l o m q : List Nat}, Strk need l o → Strk need m q → Strk need (l ++ m) (o ++ q)
  | _, _, _, _, .nil, s => s
  | _, _, _, _, .bare h r, s => .bare h (r.app s)
  | _, _, _, _, .str r, s => .str (r.app s)
theorem Strk.len {need : List Nat} : ∀ {l o : List Nat}, Strk need l o → o.length ≤ 2 * l.length
  | _, _, .nil => Nat.le_refl _
  | _, _, .bare h r => by have := r.len; simp only [List.length_cons]; omega
  | _, _, .str r => by have := r.len; simp only [List.length_cons]; omega
theorem Strk.mem {need : List Nat} : ∀ {l o : List Nat}, Strk need l o → ∀ c ∈ o, c = 92 ∨ c ∈ l
  | _, _, .nil, c, h => (List.not_mem_nil h).elim
  | _, _, .bare _ r, c, h => by
    rcases List.mem_cons.mp h with q | q  -- own
    · exact .inr (by rw [q]; exact List.mem_cons_self ..)
    · exact (r.mem c q).imp id (List.mem_cons_of_mem _)
  | _, _, .str r, c, h => by
    rcases List.mem_cons.mp h with q | q  -- own
    · exact .inl q
    rcases List.mem_cons.mp q with q | q
    · exact .inr (by rw [q]; exact List.mem_cons_self ..)
    · exact (r.mem c q).imp id (List.mem_cons_of_mem _)
theorem scan_strk1 : ∀ {l o : List Nat}, Strk N1 l o → ∀ (i : Nat) (ws : List (List Nat)) (b : Option (List Nat)) (op : Nat), (∀ c ∈ l, 32 ≤ c ∧ c ≤ 126) → (b.getD []).length + l.length ≤ 40 →
    scan stP i ⟨ws, b, 0, op, false⟩ o = .ok ⟨ws, if l = [] then b else some (b.getD [] ++ l), 0, op, false⟩
  | _, _, .nil, i, ws, b, op, _, _ => by simp [scan]
  | _, _, .bare (c := c) (l := l) (o := o) m r, i, ws, b, op, h, hl => by
    have hc := h c (List.mem_cons_self ..)  -- own
    rw [List.length_cons] at hl
    have ih := fun i => scan_strk1 r i ws (some (b.getD [] ++ [c])) op (fun d hd => h d (List.mem_cons_of_mem _ hd)) (by simp; omega)
    simp [N1] at m
    obtain ⟨m1, m2, m3, m4⟩ := m
    have n1 : ¬ 40 < (b.getD []).length + 1 := by omega
    have n2 : ¬ c = 10 := by omega
    have n3 : ¬ c = 0 := by omega
    have e2 : stP ⟨ws, b, 0, op, false⟩ i c = .ok ⟨ws, some (b.getD [] ++ [c]), 0, op, false⟩ := by simp [stP, n1, n2, n3, m1, m2, m3, m4]
    simp only [scan, e2]
    rw [ih]
    by_cases q : l = [] <;> simp [q]
  | _, _, .str (c := c) (l := l) (o := o) r, i, ws, b, op, h, hl => by
    have hc := h c (List.mem_cons_self ..)  -- own
    rw [List.length_cons] at hl
    have ih := fun i => scan_strk1 r i ws (some (b.getD [] ++ [c])) op (fun d hd => h d (List.mem_cons_of_mem _ hd)) (by simp; omega)
    have n1 : ¬ 40 < (b.getD []).length + 1 := by omega
    have n2 : ¬ c = 10 := by omega
    have e1 : stP ⟨ws, b, 0, op, false⟩ i 92 = .ok ⟨ws, b, 0, op, true⟩ := by simp [stP]
    have e2 : stP ⟨ws, b, 0, op, true⟩ (i + 1) c = .ok ⟨ws, some (b.getD [] ++ [c]), 0, op, false⟩ := by simp [stP, n1, n2]
    simp only [scan, e1, e2]
    rw [ih]
    by_cases q : l = [] <;> simp [q]
theorem scan_strk2 : ∀ {l o : List Nat}, Strk N2 l o → ∀ (i : Nat) (ws : List (List Nat)) (b : List Nat) (op : Nat), (∀ c ∈ l, 32 ≤ c ∧ c ≤ 126) → b.length + l.length ≤ 40 →
    scan stP i ⟨ws, some b, 34, op, false⟩ o = .ok ⟨ws, some (b ++ l), 34, op, false⟩
  | _, _, .nil, i, ws, b, op, _, _ => by simp [scan]
  | _, _, .bare (c := c) (l := l) (o := o) m r, i, ws, b, op, h, hl => by
    have hc := h c (List.mem_cons_self ..)  -- own
    rw [List.length_cons] at hl
    have ih := fun i => scan_strk2 r i ws (b ++ [c]) op (fun d hd => h d (List.mem_cons_of_mem _ hd)) (by simp; omega)
    simp [N2] at m
    obtain ⟨m3, m4⟩ := m
    have n1 : ¬ 40 < b.length + 1 := by omega
    have n2 : ¬ c = 10 := by omega
    have e2 : stP ⟨ws, some b, 34, op, false⟩ i c = .ok ⟨ws, some (b ++ [c]), 34, op, false⟩ := by simp [stP, n1, n2, m3, m4]
    simp only [scan, e2]
    rw [ih]; simp
  | _, _, .str (c := c) (l := l) (o := o) r, i, ws, b, op, h, hl => by
    have hc := h c (List.mem_cons_self ..)  -- own
    rw [List.length_cons] at hl
    have ih := fun i => scan_strk2 r i ws (b ++ [c]) op (fun d hd => h d (List.mem_cons_of_mem _ hd)) (by simp; omega)
    have n1 : ¬ 40 < b.length + 1 := by omega
    have n2 : ¬ c = 10 := by omega
    have e1 : stP ⟨ws, some b, 34, op, false⟩ i 92 = .ok ⟨ws, some b, 34, op, true⟩ := by simp [stP]
    have e2 : stP ⟨ws, some b, 34, op, true⟩ (i + 1) c = .ok ⟨ws, some (b ++ [c]), 34, op, false⟩ := by simp [stP, n1, n2]
    simp only [scan, e1, e2]
    rw [ih]; simp
/-- one part of a word, in one of three ways -/
inductive Pc : List Nat → List Nat → Prop
  | sq {p : List Nat} (h : 39 ∉ p) : Pc p (39 :: p ++ [39])
  | dq {p o : List Nat} (h : Strk N2 p o) : Pc p (34 :: o ++ [34])
  | ba {p o : List Nat} (h : Strk N1 p o) : Pc p o
theorem Pc.len {p q : List Nat} (h : Pc p q) : q.length ≤ 2 * p.length + 2 := by
  cases h with
  | sq _ => simp only [List.length_append, List.length_cons, List.length_nil]; omega
  | dq r => have := r.len; simp only [List.length_append, List.length_cons, List.length_nil]; omega
  | ba r => have := r.len; omega
theorem Pc.mem {p q : List Nat} (h : Pc p q) (hp : ∀ c ∈ p, 32 ≤ c ∧ c ≤ 126) : ∀ c ∈ q, 32 ≤ c ∧ c ≤ 126 := by
  have k : ∀ {need o}, Strk need p o → ∀ c ∈ o, 32 ≤ c ∧ c ≤ 126 := fun r c hc => by
    rcases r.mem c hc with q | q
    · omega
    · exact hp c q
  intro c hc
  cases h with
  | sq _ =>
    rcases List.mem_append.mp hc with q | q
    · rcases List.mem_cons.mp q with q | q  -- own
      · omega
      · exact hp c q
    · have := List.mem_singleton.mp q; omega
  | dq r =>
    rcases List.mem_append.mp hc with q | q
    · rcases List.mem_cons.mp q with q | q  -- own
      · omega
      · exact k r c q
    · have := List.mem_singleton.mp q; omega
  | ba r => exact k r c hc
theorem scan_pc {p q : List Nat} (h : Pc p q) (hp : ∀ c ∈ p, 32 ≤ c ∧ c ≤ 126) (hn : p ≠ []) (i : Nat) (ws : List (List Nat)) (b : Option (List Nat)) (op : Nat) (hl : (b.getD []).length + p.length ≤ 40) :
    ∃ o, scan stP i ⟨ws, b, 0, op, false⟩ q = .ok ⟨ws, some (b.getD [] ++ p), 0, o, false⟩ := by
  cases h with
  | sq h =>
    refine ⟨i, ?_⟩
    have e1 : stP ⟨ws, b, 0, op, false⟩ i 39 = .ok ⟨ws, some (b.getD []), 39, i, false⟩ := by simp [stP]
    have e2 := scan_in1 p (i + 1) ws (b.getD []) i hp h hl
    have e3 : ∀ j, stP ⟨ws, some (b.getD [] ++ p), 39, i, false⟩ j 39 = .ok ⟨ws, some (b.getD [] ++ p), 0, i, false⟩ := fun j => by simp [stP]
    rw [List.cons_append]
    simp only [scan, e1]
    rw [scan_app, e2]
    simp only [scan, e3]
  | dq h =>
    refine ⟨i, ?_⟩
    have e1 : stP ⟨ws, b, 0, op, false⟩ i 34 = .ok ⟨ws, some (b.getD []), 34, i, false⟩ := by simp [stP]
    have e2 := scan_strk2 h (i + 1) ws (b.getD []) i hp hl
    have e3 : ∀ j, stP ⟨ws, some (b.getD [] ++ p), 34, i, false⟩ j 34 = .ok ⟨ws, some (b.getD [] ++ p), 0, i, false⟩ := fun j => by simp [stP]
    rw [List.cons_append]
    simp only [scan, e1]
    rw [scan_app, e2]
    simp only [scan, e3]
  | ba h =>
    refine ⟨op, ?_⟩
    rw [scan_strk1 h i ws b op hp hl, if_neg hn]
/-- parts, one behind the other -/
inductive Wrt : List Nat → List Nat → Prop
  | nil : Wrt [] []
  | snoc {l o p q : List Nat} (h : Wrt l o) (n : p ≠ []) (k : Pc p q) : Wrt (l ++ p) (o ++ q)
theorem Wrt.len : ∀ {l o : List Nat}, Wrt l o → o.length ≤ 4 * l.length
  | _, _, .nil => Nat.le_refl _
  | _, _, .snoc (p := p) h n k => by
    have := h.len
    have := k.len
    have : 0 < p.length := List.length_pos_iff.mpr n
    simp only [List.length_append]; omega
theorem Wrt.mem : ∀ {l o : List Nat}, Wrt l o → (∀ c ∈ l, 32 ≤ c ∧ c ≤ 126) → ∀ c ∈ o, 32 ≤ c ∧ c ≤ 126
  | _, _, .nil, _, c, h => (List.not_mem_nil h).elim
  | _, _, .snoc h n k, hp, c, hc => by
    rcases List.mem_append.mp hc with q | q
    · exact h.mem (fun d hd => hp d (List.mem_append_left _ hd)) c q
    · exact k.mem (fun d hd => hp d (List.mem_append_right _ hd)) c q
theorem scan_wrt : ∀ {l o : List Nat}, Wrt l o → (∀ c ∈ l, 32 ≤ c ∧ c ≤ 126) → l.length ≤ 40 → ∀ (i : Nat) (ws : List (List Nat)) (op : Nat), ∃ o', scan stP i ⟨ws, none, 0, op, false⟩ o = .ok ⟨ws, if l = [] then none else some l, 0, o', false⟩
  | _, _, .nil, _, _, i, ws, op => ⟨op, by simp [scan]⟩
  | _, _, .snoc (l := l) (o := o) (p := p) (q := q) h n k, hp, hl, i, ws, op => by
    rw [List.length_append] at hl
    obtain ⟨o1, e1⟩ := scan_wrt h (fun d hd => hp d (List.mem_append_left _ hd)) (by omega) i ws op
    have hb : (if l = [] then (none : Option (List Nat)) else some l).getD [] = l := by
      by_cases z : l = []
      · rw [if_pos z, z]; rfl
      · rw [if_neg z]; rfl
    obtain ⟨o2, e2⟩ := scan_pc k (fun d hd => hp d (List.mem_append_right _ hd)) n (i + o.length) ws (if l = [] then none else some l) o1 (by rw [hb]; omega)
    refine ⟨o2, ?_⟩
    rw [scan_app, e1]
    simp only
    rw [e2, hb, if_neg (by simp [n])]
/-- a word as it is written -/
def WrO (l o : List Nat) : Prop := (l = [] ∧ o ∈ [[39, 39], [34, 34], [39, 39, 34, 34], [34, 34, 34, 34]]) ∨ (l ≠ [] ∧ Wrt l o)
theorem WrO.len {l o : List Nat} (h : WrO l o) (hl : l.length ≤ 40) : o.length ≤ 160 := by
  rcases h with ⟨_, h⟩ | ⟨_, h⟩
  · simp only [List.mem_cons, List.not_mem_nil, or_false] at h
    rcases h with h | h | h | h <;> subst h <;> decide
  · have := h.len; omega
theorem WrO.mem {l o : List Nat} (h : WrO l o) (hp : ∀ c ∈ l, 32 ≤ c ∧ c ≤ 126) : ∀ c ∈ o, 32 ≤ c ∧ c ≤ 126 := by
  rcases h with ⟨_, h⟩ | ⟨_, h⟩
  · simp only [List.mem_cons, List.not_mem_nil, or_false] at h
    rcases h with h | h | h | h <;> subst h <;> decide
  · exact h.mem hp
theorem scan_wro {l o : List Nat} (h : WrO l o) (hp : ∀ c ∈ l, 32 ≤ c ∧ c ≤ 126) (hl : l.length ≤ 40) (i : Nat) (ws : List (List Nat)) (op : Nat) : ∃ o', scan stP i ⟨ws, none, 0, op, false⟩ o = .ok ⟨ws, some l, 0, o', false⟩ := by
  rcases h with ⟨e, h⟩ | ⟨n, h⟩
  · subst e
    simp only [List.mem_cons, List.not_mem_nil, or_false] at h
    rcases h with h | h | h | h <;> subst h <;> exact ⟨_, by simp [scan, stP]; rfl⟩
  · obtain ⟨o', e⟩ := scan_wrt h hp hl i ws op
    exact ⟨o', by rw [e, if_neg n]⟩
/-- a gap -/
def Gp (g : List Nat) : Prop := ∀ c ∈ g, c = 32 ∨ c = 10
theorem scan_gap : ∀ (g : List Nat), Gp g → ∀ (i : Nat) (ws : List (List Nat)) (b : Option (List Nat)) (op : Nat), scan stP i ⟨ws, b, 0, op, false⟩ g = .ok (if g = [] then ⟨ws, b, 0, op, false⟩ else ⟨ws ++ b.toList, none, 0, op, false⟩)
  | [], _, i, ws, b, op => by simp [scan]
  | c :: g, h, i, ws, b, op => by
    have hc := h c (List.mem_cons_self ..)  -- own
    have e1 : stP ⟨ws, b, 0, op, false⟩ i c = .ok ⟨ws ++ b.toList, none, 0, op, false⟩ := by
      rcases hc with q | q <;> subst q <;> cases b <;> simp [stP]
    have ih := scan_gap g (fun d hd => h d (List.mem_cons_of_mem _ hd)) (i + 1) (ws ++ b.toList) none op
    simp only [scan, e1]
    rw [ih]
    by_cases q : g = [] <;> simp [q]
end M
namespace M
/-- so far: these words, the last one begun, nothing open -/
def SoFar (ls : List (List Nat)) (f : List Nat) : Prop := ∃ o, scan stP 0 sc0 f = .ok ⟨ls.dropLast, ls.getLast?, 0, o, false⟩
/-- .. and a gap behind: all words are whole -/
def Whole (ls : List (List Nat)) (f : List Nat) : Prop := ∃ o, scan stP 0 sc0 f = .ok ⟨ls, none, 0, o, false⟩
theorem last_split : ∀ ls : List (List Nat), ls.dropLast ++ ls.getLast?.toList = ls
  | [] => rfl
  | [x] => rfl
  | x :: y :: r => by rw [List.dropLast_cons₂, List.getLast?_cons_cons, List.cons_append, last_split (y :: r)]
theorem Whole.zero {g : List Nat} (h : Gp g) : Whole [] g := by
  refine ⟨0, ?_⟩
  have := scan_gap g h 0 [] none 0
  rw [show sc0 = ⟨[], none, 0, 0, false⟩ from rfl, this]
  by_cases q : g = [] <;> simp [q]
theorem Whole.soFar {f : List Nat} (h : Whole [] f) : SoFar [] f := h
theorem SoFar.gap {ls : List (List Nat)} {f g : List Nat} (h : SoFar ls f) (hg : Gp g) (n : g ≠ [] ∨ ls = []) : Whole ls (f ++ g) := by
  obtain ⟨o, e⟩ := h
  refine ⟨o, ?_⟩
  rw [scan_app, e]
  simp only
  rw [scan_gap g hg, last_split]
  rcases n with n | n
  · rw [if_neg n]
  · subst n
    by_cases q : g = [] <;> simp [q]
theorem Whole.word {ls : List (List Nat)} {f l w : List Nat} (h : Whole ls f) (hw : WrO l w) (hp : ∀ c ∈ l, 32 ≤ c ∧ c ≤ 126) (hl : l.length ≤ 40) : SoFar (ls ++ [l]) (f ++ w) := by
  obtain ⟨o, e⟩ := h
  obtain ⟨o', e'⟩ := scan_wro hw hp hl (0 + f.length) ls o
  refine ⟨o', ?_⟩
  rw [scan_app, e]
  simp only
  rw [e', List.dropLast_concat, List.getLast?_concat]
/-- the line's end: it is cut to the words -/
theorem SoFar.done {ls : List (List Nat)} {f g : List Nat} (h : SoFar ls f) (hg : Gp g) : ∃ t, scan stP 0 sc0 (f ++ g) = .ok t ∧ t.tk = false ∧ t.qt = 0 ∧ t.ws ++ t.bg.toList = ls := by
  obtain ⟨o, e⟩ := h
  rw [scan_app, e]
  simp only
  rw [scan_gap g hg]
  by_cases q : g = []
  · rw [if_pos q]; exact ⟨_, rfl, rfl, rfl, last_split ls⟩
  · rw [if_neg q]; exact ⟨_, rfl, rfl, rfl, by rw [last_split]; simp⟩
/-- a good line, a blank, what can't be cut -/
theorem bad_end {f : List Nat} {t : Sc} (h : scan stP 0 sc0 f = .ok t) (h1 : t.tk = false) (h2 : t.qt = 0) {b : List Nat} (hb : b ∈ [[39], [34], [39, 97], [34, 98, 32, 99], [100, 92], [34, 92]]) :
    ∃ u, scan stP 0 sc0 (f ++ 32 :: b) = .ok u ∧ (u.tk = true ∨ u.tk = false ∧ u.qt ≠ 0) := by
  obtain ⟨ws, bg, qt, op, tk⟩ := t
  simp only at h1 h2
  subst h1 h2
  have e1 : ∀ i, stP ⟨ws, bg, 0, op, false⟩ i 32 = .ok ⟨ws ++ bg.toList, none, 0, op, false⟩ := fun i => by cases bg <;> simp [stP]
  rw [scan_app, h]
  simp only [scan, e1]
  simp only [List.mem_cons, List.not_mem_nil, or_false] at hb  -- own
  rcases hb with q | q | q | q | q | q <;> subst q <;> refine ⟨_, by simp [scan, stP]; rfl, ?_⟩ <;> simp
end M

/-! decimal figures, and what begins them -/
namespace M
open PySem PySem.NumText
def D (n : Nat) : List Nat := (Nat.toDigits 10 n).map Char.toNat
theorem dc_of : ∀ d : Nat, d < 10 → (Nat.digitChar d).toNat = 48 + d := by decide
theorem D_lt {n : Nat} (h : n < 10) : D n = [48 + n] := by
  unfold D
  rw [Nat.toDigits_of_lt_base h, List.map_cons, List.map_nil, dc_of n h]
theorem D_ge {n : Nat} (h : 10 ≤ n) : D n = D (n / 10) ++ [48 + n % 10] := by
  have hm : n % 10 < 10 := Nat.mod_lt n (by decide)  -- own
  have t : Nat.toDigits 10 (n / 10) ++ Nat.toDigits 10 (n % 10) = Nat.toDigits 10 (10 * (n / 10) + n % 10) := Nat.toDigits_append_toDigits (by decide) (by omega) hm  -- own
  rw [Nat.div_add_mod] at t
  show (Nat.toDigits 10 n).map Char.toNat = _  -- own
  rw [← t, List.map_append]
  show D (n / 10) ++ D (n % 10) = _
  rw [D_lt hm]
theorem D_val (n : Nat) : digitsVal (D n) = n := PySem.W.KIN.val_back n
theorem D_ne (n : Nat) : D n ≠ [] := by
  by_cases h : n < 10
  · rw [D_lt h]; exact List.cons_ne_nil _ _
  · rw [D_ge (by omega)]; simp
theorem D_digits (n : Nat) : AllDigits (D n) := by
  induction n using Nat.strongRecOn with  -- own
  | _ n ih =>
    by_cases h : n < 10
    · rw [D_lt h]
      intro c hc
      have := List.mem_singleton.mp hc
      omega
    · rw [D_ge (by omega)]
      intro c hc
      rcases List.mem_append.mp hc with q | q
      · exact ih _ (by omega) c q
      · have := List.mem_singleton.mp q
        have := Nat.mod_lt n (show 10 > 0 by decide)
        omega
theorem D_head {n : Nat} (h : 1 ≤ n) : ∃ c r, D n = c :: r ∧ 49 ≤ c := by
  induction n using Nat.strongRecOn with  -- own
  | _ n ih =>
    by_cases q : n < 10
    · exact ⟨48 + n, [], D_lt q, by omega⟩
    · obtain ⟨c, r, e, hc⟩ := ih (n / 10) (by omega) (by omega)
      exact ⟨c, r ++ [48 + n % 10], by rw [D_ge (by omega), e, List.cons_append], hc⟩
theorem D_zero : D 0 = [48] := D_lt (by decide)
def Canon (l : List Nat) : Prop := l ≠ [] ∧ AllDigits l ∧ (l = [48] ∨ l.head? ≠ some 48)
theorem D_canon (n : Nat) : Canon (D n) := by
  refine ⟨D_ne n, D_digits n, ?_⟩
  by_cases h : n = 0
  · subst h; exact .inl D_zero
  · obtain ⟨c, r, e, hc⟩ := D_head (show 1 ≤ n by omega)
    exact .inr (by rw [e]; simp; omega)
theorem back_chars : ∀ {l : List Nat}, AllDigits l → (l.map Char.ofNat).map Char.toNat = l
  | [], _ => rfl
  | c :: l, h => by
    rw [List.map_cons, List.map_cons, back_chars h.tail]
    have hc := h c (List.mem_cons_self ..)  -- own
    have k : ∀ c : Nat, c < 58 → (Char.ofNat c).toNat = c := by decide
    rw [k c (by omega)]
theorem canon_D {l : List Nat} (h : Canon l) : l = D (digitsVal l) := by
  obtain ⟨h1, h2, h3⟩ := h
  have e := toDigits_digitsVal (l.length - 1) l (by have := List.length_pos_iff.mpr h1; omega) h2 (by
    rcases h3 with q | q
    · exact .inl (by rw [q]; rfl)
    · cases l with
      | nil => exact absurd rfl h1
      | cons c r =>
        have hc := h2 c (List.mem_cons_self ..)
        exact .inr ⟨c, r, rfl, by
          have : c ≠ 48 := fun e => q (by rw [e]; rfl)
          omega⟩)
  show l = (Nat.toDigits 10 (digitsVal l)).map Char.toNat
  rw [e, back_chars h2]
def dec (m : Int) : List Nat := if m < 0 then 45 :: D m.natAbs else D m.natAbs
theorem dec_nat (n : Nat) : dec (n : Nat) = D n := by
  unfold dec
  rw [if_neg (by omega), Int.natAbs_natCast]
theorem dec_neg {n : Nat} (h : 1 ≤ n) : dec (-(n : Nat)) = 45 :: D n := by
  unfold dec
  rw [if_pos (by omega), Int.natAbs_neg, Int.natAbs_natCast]
/-- the number that a text plainly writes -/
noncomputable def numV (l : List Nat) : Option Int :=
  open Classical in
  if l.head? = some 45 then (if Canon l.tail ∧ l.tail ≠ [48] then some (-(digitsVal l.tail : Nat)) else none) else if Canon l then some (digitsVal l : Nat) else none
theorem numV_some {l : List Nat} {n : Int} : numV l = some n ↔ l = dec n := by
  unfold numV
  constructor
  · intro h
    split at h
    · rename_i h0
      split at h
      · rename_i h1
        obtain ⟨h1, h2⟩ := h1
        cases h
        have e := canon_D h1
        have v : 1 ≤ digitsVal l.tail := by
          by_cases z : digitsVal l.tail = 0
          · exact absurd (by rw [e, z, D_zero]) h2
          · omega
        rw [dec_neg v, ← e]
        cases l with
        | nil => cases h0
        | cons c r =>
          cases h0
          rfl
      · cases h
    · split at h
      · rename_i h1
        cases h
        rw [dec_nat]
        exact canon_D h1
      · cases h
  · intro h
    by_cases q : n < 0
    · obtain ⟨k, rfl, hk⟩ : ∃ k : Nat, n = -(k : Nat) ∧ 1 ≤ k := ⟨n.natAbs, by omega, by omega⟩
      rw [dec_neg hk] at h
      subst h
      rw [if_pos (show (45 :: D k).head? = some 45 from rfl), List.tail_cons, if_pos ⟨D_canon k, fun e => by
        have := congrArg digitsVal e
        rw [D_val] at this
        have : k = 0 := this
        omega⟩, D_val]
    · obtain ⟨k, rfl⟩ : ∃ k : Nat, n = (k : Nat) := ⟨n.natAbs, by omega⟩
      rw [dec_nat] at h
      subst h
      have hd : (D k).head? ≠ some 45 := by
        cases e : D k with
        | nil => exact absurd e (D_ne k)
        | cons c r =>
          have := D_digits k c (by rw [e]; exact List.mem_cons_self ..)
          simp; omega
      rw [if_neg hd, if_pos (D_canon k), D_val]
theorem pre_snoc {α : Type} {l m : List α} {c : α} : l <+: m ++ [c] ↔ l = m ++ [c] ∨ l <+: m := by
  constructor
  · rintro ⟨t, e⟩
    rcases List.eq_nil_or_concat t with q | ⟨t', d, q⟩
    · subst q; exact .inl (by rw [← e, List.append_nil])
    · subst q
      rw [List.concat_eq_append, ← List.append_assoc] at e
      exact .inr ⟨t', (List.append_inj' e rfl).1⟩
  · rintro (q | ⟨t, q⟩)
    · exact ⟨[], by rw [q, List.append_nil]⟩
    · exact ⟨t ++ [c], by rw [← List.append_assoc, q]⟩
/-- what begins a number's figures -/
theorem pre_D {l : List Nat} (hl : l ≠ []) : ∀ m : Nat, l <+: D m ↔ ∃ k : Nat, l = D (m / 10 ^ k) ∧ (k = 0 ∨ 10 ^ k ≤ m) := by
  intro m
  induction m using Nat.strongRecOn with  -- own
  | _ m ih =>
    by_cases h : m < 10
    · rw [D_lt h]
      constructor
      · rintro ⟨t, e⟩
        refine ⟨0, ?_, .inl rfl⟩
        rw [Nat.pow_zero, Nat.div_one, D_lt h]
        cases l with
        | nil => exact absurd rfl hl
        | cons c r =>
          rw [List.cons_append] at e
          injection e with e1 e2
          rw [e1, (List.append_eq_nil_iff.mp e2).1]
      · rintro ⟨k, e, q⟩
        rcases q with q | q
        · subst q
          rw [Nat.pow_zero, Nat.div_one, D_lt h] at e
          rw [e]; exact List.prefix_rfl
        · cases k with
          | zero =>
            rw [Nat.pow_zero, Nat.div_one, D_lt h] at e
            rw [e]; exact List.prefix_rfl
          | succ k =>
            have : 10 ^ 1 ≤ 10 ^ (k + 1) := Nat.pow_le_pow_right (by decide) (by omega)
            omega
    · rw [D_ge (by omega), pre_snoc, ih (m / 10) (by omega), ← D_ge (by omega)]
      have e10 : ∀ k, m / 10 / 10 ^ k = m / 10 ^ (k + 1) := fun k => by rw [Nat.div_div_eq_div_mul, Nat.pow_succ, Nat.mul_comm]
      constructor
      · rintro (q | ⟨k, e, q⟩)
        · exact ⟨0, by rw [Nat.pow_zero, Nat.div_one]; exact q, .inl rfl⟩
        · refine ⟨k + 1, by rw [← e10]; exact e, .inr ?_⟩
          rcases q with q | q
          · subst q; simp; omega
          · rw [Nat.pow_succ]; exact (Nat.le_div_iff_mul_le (by decide)).mp q
      · rintro ⟨k, e, q⟩
        cases k with
        | zero => rw [Nat.pow_zero, Nat.div_one] at e; exact .inl e
        | succ k =>
          refine .inr ⟨k, by rw [e10]; exact e, ?_⟩
          rcases q with q | q
          · cases q
          · rw [Nat.pow_succ] at q
            exact .inr ((Nat.le_div_iff_mul_le (by decide)).mpr q)
def hasB (lo hi n : Int) : Prop := ∃ k : Nat, n * 10 ^ k ≤ hi ∧ lo ≤ n * 10 ^ k + (10 ^ k - 1)
def begNum (lo hi : Int) (l : List Nat) : Prop := l = [] ∨ (l = [45] ∧ lo < 0) ∨ ∃ n : Int, l = dec n ∧ ((n = 0 ∧ lo ≤ 0 ∧ 0 ≤ hi) ∨ (0 < n ∧ hasB lo hi n) ∨ (n < 0 ∧ hasB (-hi) (-lo) (-n)))
theorem has_iff {lo hi : Int} {n : Nat} (hn : 1 ≤ n) (h : lo ≤ hi) : hasB lo hi n ↔ ∃ (m k : Nat), lo ≤ m ∧ (m : Int) ≤ hi ∧ n = m / 10 ^ k ∧ 10 ^ k ≤ m := by
  constructor
  · rintro ⟨k, h1, h2⟩
    obtain ⟨P, hP⟩ : ∃ P : Nat, P = 10 ^ k := ⟨_, rfl⟩
    have p : 0 < P := by rw [hP]; exact Nat.pow_pos (by decide)
    have c : ((10 : Int) ^ k) = ((P : Nat) : Int) := by rw [hP]; simp
    rw [c] at h1 h2
    have e : (n : Int) * (P : Int) = ((n * P : Nat) : Int) := by simp
    rw [e] at h1 h2
    have nP : P ≤ n * P := Nat.le_mul_of_pos_left P hn
    have sm : (n + 1) * P = n * P + P := Nat.succ_mul n P
    refine ⟨max lo.toNat (n * P), k, by omega, by omega, ?_, by rw [← hP]; omega⟩
    rw [← hP]
    exact (Nat.div_eq_of_lt_le (by omega) (by omega)).symm
  · rintro ⟨m, k, h1, h2, e, h3⟩
    obtain ⟨P, hP⟩ : ∃ P : Nat, P = 10 ^ k := ⟨_, rfl⟩
    have p : 0 < P := by rw [hP]; exact Nat.pow_pos (by decide)
    have c : ((10 : Int) ^ k) = ((P : Nat) : Int) := by rw [hP]; simp
    rw [← hP] at e
    have a := Nat.div_add_mod m P
    have b := Nat.mod_lt m p
    rw [← e, Nat.mul_comm] at a
    have e2 : (n : Int) * (P : Int) = ((n * P : Nat) : Int) := by simp
    refine ⟨k, ?_, ?_⟩
    · rw [c, e2]; omega
    · rw [c, e2]; omega
theorem begNum_iff {lo hi : Int} {l : List Nat} (h : lo ≤ hi) : begNum lo hi l ↔ ∃ m : Int, lo ≤ m ∧ m ≤ hi ∧ l <+: dec m := by
  constructor
  · rintro (e | ⟨e, h0⟩ | ⟨n, e, ⟨h0, h1, h2⟩ | ⟨h0, h1⟩ | ⟨h0, h1⟩⟩)
    · exact ⟨lo, Int.le_refl _, h, by rw [e]; exact List.nil_prefix⟩
    · refine ⟨lo, Int.le_refl _, h, ?_⟩
      rw [e]
      unfold dec
      rw [if_pos h0]
      exact ⟨_, rfl⟩
    · exact ⟨0, h1, h2, by rw [e, h0]; exact List.prefix_rfl⟩
    · obtain ⟨k, rfl⟩ : ∃ k : Nat, n = (k : Nat) := ⟨n.natAbs, by omega⟩
      obtain ⟨m, j, m1, m2, m3, m4⟩ := (has_iff (by omega) h).mp h1
      refine ⟨m, m1, m2, ?_⟩
      rw [e, dec_nat, dec_nat]
      exact (pre_D (D_ne k) m).mpr ⟨j, by rw [← m3], .inr m4⟩
    · obtain ⟨k, rfl, hk⟩ : ∃ k : Nat, n = -(k : Nat) ∧ 1 ≤ k := ⟨n.natAbs, by omega, by omega⟩
      rw [Int.neg_neg] at h1
      obtain ⟨m, j, m1, m2, m3, m4⟩ := (has_iff hk (by omega)).mp h1
      have p : 0 < 10 ^ j := Nat.pow_pos (by decide)
      refine ⟨-(m : Int), by omega, by omega, ?_⟩
      rw [e, dec_neg hk, dec_neg (by omega), List.cons_prefix_cons]
      exact ⟨rfl, (pre_D (D_ne k) m).mpr ⟨j, by rw [← m3], .inr m4⟩⟩
  · rintro ⟨m, m1, m2, pre⟩
    by_cases l0 : l = []
    · exact .inl l0
    by_cases q : m < 0
    · obtain ⟨k, rfl, hk⟩ : ∃ k : Nat, m = -(k : Nat) ∧ 1 ≤ k := ⟨m.natAbs, by omega, by omega⟩
      rw [dec_neg hk] at pre
      cases l with
      | nil => exact absurd rfl l0
      | cons c r =>
        obtain ⟨rfl, pre2⟩ := List.cons_prefix_cons.mp pre
        by_cases r0 : r = []
        · subst r0; exact .inr (.inl ⟨rfl, by omega⟩)
        obtain ⟨j, e, hj⟩ := (pre_D r0 k).mp pre2
        have p : 0 < 10 ^ j := Nat.pow_pos (by decide)
        have hj2 : 10 ^ j ≤ k := by
          rcases hj with z | z
          · subst z; simpa using hk
          · exact z
        have n1 : 1 ≤ k / 10 ^ j := (Nat.le_div_iff_mul_le p).mpr (by rw [Nat.one_mul]; exact hj2)
        refine .inr (.inr ⟨-((k / 10 ^ j : Nat) : Int), by rw [dec_neg n1, e], .inr (.inr ⟨by omega, ?_⟩)⟩)
        rw [Int.neg_neg]
        exact (has_iff n1 (by omega)).mpr ⟨k, j, by omega, by omega, rfl, hj2⟩
    · obtain ⟨k, rfl⟩ : ∃ k : Nat, m = (k : Nat) := ⟨m.natAbs, by omega⟩
      rw [dec_nat] at pre
      obtain ⟨j, e, hj⟩ := (pre_D l0 k).mp pre
      have p : 0 < 10 ^ j := Nat.pow_pos (by decide)
      refine .inr (.inr ⟨((k / 10 ^ j : Nat) : Int), by rw [dec_nat, e], ?_⟩)
      by_cases z : k = 0
      · subst z
        exact .inl ⟨by simp, m1, m2⟩
      · have hj2 : 10 ^ j ≤ k := by
          rcases hj with z | z
          · subst z; simp; omega
          · exact z
        have n1 : 1 ≤ k / 10 ^ j := (Nat.le_div_iff_mul_le p).mpr (by rw [Nat.one_mul]; exact hj2)
        exact .inr (.inl ⟨by omega, (has_iff n1 h).mpr ⟨k, j, m1, m2, rfl, hj2⟩⟩)
end M

/-! own rules over the layer -/
namespace J
open PySem PySem.Spec PyProof.Rows L2  -- own

/-! ### texts as lists of codes -/
/-- the text of these codes -/
def S (l : List Nat) : Str := ⟨l.toArray⟩
theorem S_cps (l : List Nat) : (S l).cps.toList = l := by simp [S]
theorem S_of (x : Str) : S x.cps.toList = x := by cases x; simp [S]
theorem S_len (l : List Nat) : (S l).length = l.length := by simp [S, Str.length]
theorem S_inj {l m : List Nat} : S l = S m ↔ l = m := ⟨fun h => by have := congrArg (fun z : Str => z.cps.toList) h; simpa [S_cps] using this, fun h => by rw [h]⟩
theorem S_app (l m : List Nat) : S l ++ S m = S (l ++ m) := by
  show (⟨(S l).cps ++ (S m).cps⟩ : Str) = _
  simp [S]
theorem S_one (c : Nat) : (⟨#[c]⟩ : Str) = S [c] := rfl

section
variable {X : Cx}
/-- either of two readings of an operation -/
theorem orR {f : Value → Value → Sem Value} {r q : R2} (a : OpR X f r) (b : OpR X f q) : OpR X f (fun x y H Q => r x y H Q ∨ q x y H Q) :=
  fun pins s σ H x y v u Q I rx ry h => h.elim (fun z => a pins s σ H x y v u Q I rx ry z) fun z => b pins s σ H x y v u Q I rx ry z
def rMulS : R2 := fun x y H Q => ∃ (z : Str) (n : Int), x = .str z ∧ y = .int n ∧ MulOk z n ∧ Q (.str (Txt.mul z n)) H
theorem op_mulS : OpR X (binaryOp .Mult) rMulS := fun pins s σ H x y v u Q I rx ry h => by
  obtain ⟨z, n, ex, ey, ok, q⟩ := h
  subst ex ey
  obtain ⟨t, rfl⟩ := rx
  obtain ⟨t', rfl⟩ := ry
  exact SB.mul ok fun _ _ => ⟨.str _, H, I.tok _, ⟨_, rfl⟩, q⟩
/-- a + b: ints, texts, lists, tuples -/
def rAddI : R2 := fun x y H Q => ∃ i j : Int, x = .int i ∧ y = .int j ∧ Q (.int (i + j)) H
def rAddS : R2 := fun x y H Q => ∃ a b : Str, x = .str a ∧ y = .str b ∧ a.length + b.length ≤ sizeLine ∧ Q (.str (a ++ b)) H
def rAdd (K : PySem.W.Frag) : R2 := fun x y H Q => rAddI x y H Q ∨ rAddS x y H Q ∨ rCat x y H Q ∨ rCatA K x y H Q
theorem oAdd : OpR X (binaryOp .Add) (rAdd X.K) :=
  orR (fun pins s σ H x y v u Q I rx ry h => L2.op_add pins s σ H x y v u Q I rx ry h) (orR (fun pins s σ H x y v u Q I rx ry h => L2.op_add_str pins s σ H x y v u Q I rx ry h) (orR L2.op_cat L2.op_catA))
/-- a * b: ints, a text, a list by an int -/
def rMul : R2 := fun x y H Q => rI CMulW (fun i j => .int (i * j)) x y H Q ∨ rMulS x y H Q ∨ rRep x y H Q
theorem oMul : OpR X (binaryOp .Mult) rMul := orR L2.op_mulW (orR op_mulS L2.op_rep)
/-- == and != -/
def rEqA (K : PySem.W.Frag) : R2 := fun x y H Q => rEq x y H Q ∨ rEqD K x y H Q
def rNeA (K : PySem.W.Frag) : R2 := fun x y H Q => rNe x y H Q ∨ rNeD K x y H Q
theorem op_eqA (hu : X.A.units + 64 < cLine) : OpR X (compareOp .Eq) (rEqA X.K) := orR L2.op_eq (L2.op_eqD hu)
theorem op_neA (hu : X.A.units + 64 < cLine) : OpR X (compareOp .NotEq) (rNeA X.K) := orR L2.op_ne (L2.op_neD hu)
/-- in, not in: a sign in a text, a flat thing in a list or tuple -/
def rInS (neg : Bool) : R2 := fun x y H Q => ∃ (c : Nat) (z : Str), x = .str ⟨#[c]⟩ ∧ y = .str z ∧ Q (.bl (if neg = true then !decide (c ∈ z.cps.toList) else decide (c ∈ z.cps.toList))) H
def rInA (K : PySem.W.Frag) (neg : Bool) : R2 := fun x y H Q => rInS neg x y H Q ∨ rIn K neg x y H Q
theorem op_inA : OpR X (compareOp .In) (rInA X.K false) :=
  orR (fun pins s σ H x y v u Q I rx ry h => by obtain ⟨c, z, a, b, q⟩ := h; exact L2.op_in_sign pins s σ H x y v u Q I rx ry ⟨c, z, a, b, by simpa using q⟩) L2.op_in_seq
theorem op_notInA : OpR X (compareOp .NotIn) (rInA X.K true) :=
  orR (fun pins s σ H x y v u Q I rx ry h => by obtain ⟨c, z, a, b, q⟩ := h; exact L2.op_notIn_sign pins s σ H x y v u Q I rx ry ⟨c, z, a, b, by simpa using q⟩) L2.op_notIn_seq
/-- slices -/
def rSl (K : PySem.W.Frag) : V → Option Int → Option Int → Hp → VK → Prop := fun x lo hi H Q => rSlL K x lo hi H Q ∨ rSlS x lo hi H Q
theorem sl_any : SlR X (rSl X.K) := L2.sl_list.or L2.sl_str
/-- repr of data, where no repr is running -/
def rRepr (K : PySem.W.Frag) : List V → Hp → VK → Prop := fun xs H Q => ∃ (x : V) (d : PyData), xs = [x] ∧ Dp K H x d ∧ d.showable = true ∧ d.depth ≤ 60 ∧ d.hasDict = false ∧ d.shown.length ≤ sizeLine ∧ Q (.str d.shown) H
theorem call_repr (hg : X.A.guards = some []) (hu : X.A.units + 64 < cLine) : CallR X (.builtin "repr") (rRepr X.K) := fun pins s σ H xs us Q I r h => by
  obtain ⟨x, d, ex, hd, hs, hdp, hnd, hz, q⟩ := h
  subst ex
  obtain ⟨u, rfl, ru⟩ := vals1 r  -- own
  have hsm : ∀ as : List Addr, d.hasDict = true → sysModules ∉ as := fun as z => by rw [hnd] at z; cases z
  have far : ∀ {a : Addr} {as : List Addr}, Reads s.heap (.ref a) d as → wpAny (model X.prog X.w) X.A (call (.builtin "repr") [.ref a]) (EP X pins σ Q) X.xe s := fun {a as} rd =>
    repr_of_reads' rd hs (hsm as) hg (by omega) (fun _ _ e => e) (fun h' t tk hk => ⟨.str _, H, I.kept hk, ⟨_, rfl⟩, q⟩) hz
  obtain ⟨as, rd⟩ := Dp.reads I d x u hd ru
  cases hd with
  | non => cases (show u = Value.none from ru); exact PySem.P.repr_of_none ⟨.str _, H, I.tok _, ⟨_, rfl⟩, q⟩
  | bl b =>
    cases (show u = Value.bool b from ru)
    exact PySem.P.repr_of_bool ⟨.str _, H, I.tok _, ⟨_, rfl⟩, q⟩
  | int i =>
    obtain ⟨t, e⟩ := (show ∃ t, u = Value.int i t from ru)
    subst e
    exact PySem.P.repr_of_int (by simpa [PyData.showable] using hs) ⟨.str _, H, I.tok _, ⟨_, rfl⟩, q⟩
  | str z =>
    obtain ⟨t, e⟩ := (show ∃ t, u = Value.str z t from ru)
    subst e
    exact PySem.P.repr_of_str ⟨.str _, H, I.tok _, ⟨_, rfl⟩, q⟩ hz
  | lst a b =>
    cases (show u = Value.ref _ from ru)
    exact far rd
  | tup a b =>
    cases (show u = Value.ref _ from ru)
    exact far rd
end
end J

/-! loops: one form for all that is walked; enumerate(text) -/
namespace J
open PySem PySem.Spec PyProof.Rows L2  -- own

/-- the loop's question -/
def LoopQ (J : It) (g : TG) (tb : TS) (D : Ends) (σ : L2.St) (H : Hp) : Prop :=
  ∃ W : Nat → Nat → L2.St → Hp → Prop, (∃ m, W 0 m σ H) ∧
    ∀ i m σ H, W i m σ H → (J.stop i H ∧ D.nx σ H) ∨
      (J.go i H ∧ ∃ N : L2.St → Hp → Prop, (∀ σ' H', N σ' H' → ∃ m', m' < m ∧ W (i + 1) m' σ' H') ∧
        ∀ x H', J.yld i H x H' → g x σ H' fun σ2 H2 => tb { D with nx := N, ct := N, bk := D.nx } σ2 H2)
/-- by an invariant over the turn: n turns -/
theorem loop_of {J : It} {g : TG} {tb : TS} {D : Ends} {σ : L2.St} {H : Hp} (n : Nat) (I : Nat → L2.St → Hp → Prop) (start : I 0 σ H)
    (go : ∀ i σ H, i < n → I i σ H → J.go i H) (stop : ∀ σ H, I n σ H → J.stop n H)
    (turn : ∀ i σ H x H', i < n → I i σ H → J.yld i H x H' → g x σ H' fun σ2 H2 => tb { D with nx := I (i + 1), ct := I (i + 1), bk := D.nx } σ2 H2)
    (fin : ∀ σ H, I n σ H → D.nx σ H) : LoopQ J g tb D σ H := by
  refine ⟨fun i m σ H => m = n - i ∧ i ≤ n ∧ I i σ H, ⟨n, by omega, Nat.zero_le _, start⟩, fun i m σ H w => ?_⟩
  obtain ⟨hm, hi, w⟩ := w
  subst hm
  rcases Nat.lt_or_ge i n with lt | ge
  · exact .inr ⟨go i σ H lt w, I (i + 1), fun σ' H' w' => ⟨n - (i + 1), by omega, rfl, lt, w'⟩, fun x H' y => turn i σ H x H' lt w y⟩
  · obtain rfl : i = n := by omega
    exact .inl ⟨stop σ H w, fin σ H w⟩
/-- the comprehension's question -/
def CompQ (J : It) (g : TG) (tt : TT) (te : TE) (vs : List Nat) (σ : L2.St) (H1 : Hp) (D : Addr) (Z : Hp → Prop) : Prop :=
  ∃ W : Nat → Nat → Hp → Prop, (∃ m, W 0 m (upd H1 D (.lst []))) ∧
    ∀ i m H, W i m H → (J.stop i H ∧ Z H) ∨
      (J.go i H ∧ ∃ Nx : Hp → Prop, (∀ H', Nx H' → ∃ m', m' < m ∧ W (i + 1) m' H') ∧
        ∀ x H', J.yld i H x H' → g x (wipe σ vs) H' fun σ2 H2 => wipe σ2 vs = wipe σ vs ∧ tt σ2 H2 fun b H3 =>
          if b = true then te σ2 H3 fun y H4 => ∃ acc, H4 D = some (.lst acc) ∧ acc.length < sizeLine ∧ Nx (upd H4 D (.lst (acc ++ [y]))) else Nx H3)  -- own
theorem comp_of {J : It} {g : TG} {tt : TT} {te : TE} {vs : List Nat} {σ : L2.St} {H1 : Hp} {D : Addr} {Z : Hp → Prop} (n : Nat) (I : Nat → Hp → Prop) (start : I 0 (upd H1 D (.lst [])))
    (go : ∀ i H, i < n → I i H → J.go i H) (stop : ∀ H, I n H → J.stop n H)
    (turn : ∀ i H x H', i < n → I i H → J.yld i H x H' → g x (wipe σ vs) H' fun σ2 H2 => wipe σ2 vs = wipe σ vs ∧ tt σ2 H2 fun b H3 =>
      if b = true then te σ2 H3 fun y H4 => ∃ acc, H4 D = some (.lst acc) ∧ acc.length < sizeLine ∧ I (i + 1) (upd H4 D (.lst (acc ++ [y]))) else I (i + 1) H3)
    (fin : ∀ H, I n H → Z H) : CompQ J g tt te vs σ H1 D Z := by
  refine ⟨fun i m H => m = n - i ∧ i ≤ n ∧ I i H, ⟨n, by omega, Nat.zero_le _, start⟩, fun i m H w => ?_⟩
  obtain ⟨hm, hi, w⟩ := w
  subst hm
  rcases Nat.lt_or_ge i n with lt | ge
  · exact .inr ⟨go i H lt w, I (i + 1), fun H' w' => ⟨n - (i + 1), by omega, rfl, lt, w'⟩, fun x H' y => turn i H x H' lt w y⟩
  · obtain rfl : i = n := by omega
    exact .inl ⟨stop H w, fin H w⟩

/-! ### enumerate(text) -/
/-- each sign with its number, in a new pair -/
def Ites (z : Str) : It :=
  ⟨fun i _ => i < z.cps.size, fun i H v H' => ∃ (T : Addr) (c : Nat), v = .ref T ∧ H T = none ∧ H' = upd H T (.tup [.int (i : Nat), .str ⟨#[c]⟩]) ∧ z.cps[i]? = some c, fun i _ => i = z.cps.size⟩
theorem draws_str {P : Program} {w : World} {A : Around} (hh : A.handled = none) (it : Addr) (z : Str) (t : Tok) :
    Draws P w A it [it] z.cps.size (fun i v => ∃ c u, z.cps[i]? = some c ∧ v = .str ⟨#[c]⟩ u) (fun i h => h.IsStrIter it (strIterType z) z t i) := by
  unfold strIterType
  split
  · exact Draws.strAscii hh it z t
  · exact Draws.strWide hh it z t
theorem turn_enumS {P : Program} {w : World} {K : PySem.W.Frag} {elts : List Expr} {kk : Nat} {tpos : Pos} (z : Str) (t : Tok) (e it : Addr) :
    Turn P w K (.Tuple elts kk tpos) (Ites z) [e, it] e (fun i h => (∃ old, IsEnum h e it ((i : Nat) : Int) old) ∧ h.IsStrIter it (strIterType z) z t i ∧ e ≠ it) where
  mem := List.mem_cons_self ..
  obj := fun i h st b hb => by
    obtain ⟨⟨old, he⟩, ⟨o, ho, hc, hd⟩, _⟩ := st  -- own
    rcases List.mem_cons.mp hb with q | q
    · subst q; exact ⟨_, he, fun v q => nomatch q⟩
    · obtain rfl := List.mem_singleton.mp q
      exact ⟨o, ho, fun v q => by rw [hd] at q; cases q⟩
  keep := fun i h h' st k => by
    obtain ⟨⟨old, he⟩, ⟨o, ho, r⟩, ne⟩ := st
    exact ⟨⟨old, k e (List.mem_cons_self ..) _ he⟩, ⟨o, k it (List.mem_cons_of_mem _ (List.mem_singleton_self _)) o ho, r⟩, ne⟩
  item := by
    intro X hP hw hK hc i pins s σ H E I hf st hg  -- own
    subst hP hw hK
    obtain ⟨⟨old, he⟩, hit, ne⟩ := st
    have D := draws_str (P := X.prog) (w := X.w) (A := X.A.in1) (I.ok.hd hc) it z t
    have nin : e ∉ [it] := fun q => ne (List.mem_singleton.mp q)
    have le : e < s.heap.objs.size := Heap.lt_size he
    have li : it < s.heap.objs.size := by obtain ⟨_, q⟩ := D.live _ _ hit; exact Heap.lt_size q
    refine wpAny_pyNext_enum_itemD D he hit hg ne nin fun x h' tk hx ho hit' hT hsz hk => ⟨_, rfl, ?_⟩
    obtain ⟨c, u, hcx, rfl⟩ := hx
    refine wpAny_letOwnedTupleGo_enum (s := { s with heap := h', toks := tk + 1 }) ho fun h2 he2 sb => ?_
    have hT2 : h2.get? s.heap.objs.size = some { cls := .type "tuple", data := .seq #[.int i tk, .str ⟨#[c]⟩ u] } := (sb.2 _ (Nat.ne_of_gt le)).trans hT
    have new : ObjOk X.prog X.w (upd H s.heap.objs.size (.tup [.int (i : Nat), .str ⟨#[c]⟩])) h2 s.heap.objs.size (.tup [.int (i : Nat), .str ⟨#[c]⟩]) :=
      ⟨by show 2 ≤ sizeLine; decide, [.int i tk, .str ⟨#[c]⟩ u], .cons ⟨_, rfl⟩ (.cons ⟨_, rfl⟩ .nil), ⟨_, hT2, rfl, _, rfl⟩⟩
    have kp : ∀ b o, b ∉ [e, it] → s.heap.get? b = some o → h2.get? b = some o := fun b o hb q => by
      have n1 : b ≠ e := fun w => hb (w ▸ List.mem_cons_self ..)
      have n2 : b ≠ it := fun w => hb (w ▸ List.mem_cons_of_mem _ (List.mem_singleton_self _))
      exact (sb.2 b n1).trans (hk b o n1 n2 q)
    have I1 := Inv.turnedNew (h' := h2) (t' := tk + 1) (ch := [e, it]) I kp hf (Nat.le_refl _) new
    refine ⟨.ref s.heap.objs.size, _, I1, rfl, ⟨_, c, rfl, I.hok.fresh (Nat.le_refl _), rfl, hcx⟩, ⟨⟨_, he2⟩, D.frame _ _ _ hit' fun b hb o q => ?_, ne⟩, fun b hb => ?_⟩
    · exact (sb.2 b fun w => nin (w ▸ hb)).trans q
    · have lb : b < s.heap.objs.size := by
        rcases List.mem_cons.mp hb with q | q
        · rw [q]; exact le
        · rw [List.mem_singleton.mp q]; exact li
      rw [upd_ne (Nat.ne_of_lt lb)]
      exact (hf b hb).1
  done := by
    intro X hP hw hK hc i pins s σ H E I hf st hg  -- own
    subst hP hw hK
    obtain ⟨⟨old, he⟩, hit, ne⟩ := st
    obtain ⟨f0, f1, f2, f3, f4, f5⟩ := hf it (List.mem_cons_of_mem _ (List.mem_singleton_self _))
    have D := draws_str (P := X.prog) (w := X.w) (A := X.A.in1) (I.ok.hd hc) it z t
    have ei : i = z.cps.size := hg
    subst ei
    exact wpAny_pyNext_enum_endD D he hit fun h' eb => ⟨rfl, I.turned (t' := s.toks) (fun b o hb q => eb b o hb q) f0 f1 f3 f4 f5⟩
  self := fun A i s Q E st h => by  -- own
    obtain ⟨⟨_, he⟩, _⟩ := st
    exact wpAny_pyIter_enum he h
def iEnumS (ta : TA) : TI := fun σ H R => ta σ H fun vs H1 => ∃ z : Str, vs = [.str z] ∧ R (Ites z) H1
theorem pi_enumS {X : Cx} {e : Expr} {ta : TA} {p pos tpos : Pos} {elts : List Expr} {kk : Nat} (hg : Gl X "enumerate") (hm : X.mg "enumerate" = none) (ha : PA X [e] ta)
    (hs : starEach [e] X.env = [(false, eval e X.env)] := by rfl) : PI X (.Tuple elts kk tpos) (.Call (.Name "enumerate" p) [e] [] pos) (iEnumS ta) := by
  refine ⟨fun pins s σ H R I h => Call_ (ld_blt I hg hm boot_enumerate (PyProof.Rows.callWith_type1 (thn (ha.run pos pins s σ H _ I h) fun us s1 q => ?_) hs rfl))⟩
  obtain ⟨vs, H1, I1, r1, z, ez, q1⟩ := q
  subst ez
  obtain ⟨u, rfl, t, rfl⟩ := vals1 r1
  refine call_enumerate_str fun h' he hit hsz hk => wpAny_pyIter_enum he ?_
  have I2 : Inv X pins σ H1 { s1 with heap := h' } := I1.kept (t' := s1.toks) hk  -- own
  refine ⟨s1.heap.objs.size + 1, [s1.heap.objs.size + 1, s1.heap.objs.size], _, _, H1, rfl, I2, turn_enumS z t (s1.heap.objs.size + 1) s1.heap.objs.size, ⟨⟨.none, he⟩, hit, Nat.succ_ne_self _⟩, fun b hb => ?_, q1⟩
  have lb : s1.heap.objs.size ≤ b := by
    rcases List.mem_cons.mp hb with w | w
    · rw [w]; exact Nat.le_succ _
    · rw [List.mem_singleton.mp w]; exact Nat.le_refl _
  exact I1.fpOk lb (I1.hok.fresh lb)
end J

/-! the reading, step by step; heaps; the law's box -/
namespace J
open PySem PySem.Spec PyProof.Rows L2  -- own

section
variable {X : Cx}
/-! ### comparisons of ints or of texts -/
def rCmp (f : Int → Int → Bool) (g : List Nat → List Nat → Bool) : R2 := fun x y H Q => (∃ i j : Int, x = .int i ∧ y = .int j ∧ Q (.bl (f i j)) H) ∨ (∃ a b : Str, x = .str a ∧ y = .str b ∧ Q (.bl (g a.cps.toList b.cps.toList)) H)
theorem op_ltA : OpR X (compareOp .Lt) (rCmp (fun i j => decide (i < j)) fun a b => decide (a < b)) := orR (fun pins s σ H x y v u Q I rx ry h => L2.op_lt pins s σ H x y v u Q I rx ry h) (fun pins s σ H x y v u Q I rx ry h => L2.op_lt_str pins s σ H x y v u Q I rx ry h)
theorem op_leA : OpR X (compareOp .LtE) (rCmp (fun i j => decide (i ≤ j)) fun a b => !decide (b < a)) := orR (fun pins s σ H x y v u Q I rx ry h => L2.op_le pins s σ H x y v u Q I rx ry h) (fun pins s σ H x y v u Q I rx ry h => L2.op_le_str pins s σ H x y v u Q I rx ry h)
theorem op_gtA : OpR X (compareOp .Gt) (rCmp (fun i j => decide (j < i)) fun a b => decide (b < a)) := orR (fun pins s σ H x y v u Q I rx ry h => L2.op_gt pins s σ H x y v u Q I rx ry h) (fun pins s σ H x y v u Q I rx ry h => L2.op_gt_str pins s σ H x y v u Q I rx ry h)
theorem op_geA : OpR X (compareOp .GtE) (rCmp (fun i j => decide (j ≤ i)) fun a b => !decide (a < b)) := orR (fun pins s σ H x y v u Q I rx ry h => L2.op_ge pins s σ H x y v u Q I rx ry h) (fun pins s σ H x y v u Q I rx ry h => L2.op_ge_str pins s σ H x y v u Q I rx ry h)
end

/-! ### steps of the reading: a goal's head tells the one that fits -/
section
variable {σ : L2.St} {H : Hp} {Q : VK} {D : Ends} {K : PySem.W.Frag}
theorem r_var {i : Nat} {v : V} (h : σ[i]? = some (some v)) (k : Q v H) : tVar i σ H Q := ⟨v, h, k⟩
theorem r_c {v : V} (k : Q v H) : tC v σ H Q := k
theorem r_op {r : R2} {ta tb : TE} (k : ta σ H fun x H1 => tb σ H1 fun y H2 => r x y H2 Q) : tOp r ta tb σ H Q := k
theorem r_un {r : V → Hp → VK → Prop} {ta : TE} (k : ta σ H fun x H1 => r x H1 Q) : tUn r ta σ H Q := k
theorem r_cb {r : List V → Hp → VK → Prop} {t : TA} (k : t σ H fun vs H1 => r vs H1 Q) : tCB r t σ H Q := k
theorem r_nil {Q : List V → Hp → Prop} (k : Q [] H) : tNil σ H Q := k
theorem r_cons {ta : TE} {tr : TA} {Q : List V → Hp → Prop} (k : ta σ H fun x H1 => tr σ H1 fun xs H2 => Q (x :: xs) H2) : tCons ta tr σ H Q := k
theorem r_tb {t : TE} {Q : Bool → Hp → Prop} (k : t σ H fun x H1 => ∃ c, x = .bl c ∧ Q c H1) : tB t σ H Q := k
theorem r_test {t : TE} {Q : Bool → Hp → Prop} (k : t σ H fun x H1 => ∃ c, x = .bl c ∧ Q c H1) : tTest t σ H Q := k
theorem r_bl {b : Bool} {Q : Bool → Prop} (k : Q b) : ∃ c, V.bl b = .bl c ∧ Q c := ⟨b, rfl, k⟩
theorem r_not {t : TT} {Q : Bool → Hp → Prop} (k : t σ H fun c H1 => Q (!c) H1) : tNot t σ H Q := k
theorem r_and {t u : TT} {Q : Bool → Hp → Prop} (k : t σ H fun c H1 => if c = true then u σ H1 Q else Q false H1) : tAnd t u σ H Q := k
theorem r_or {t u : TT} {Q : Bool → Hp → Prop} (k : t σ H fun c H1 => if c = true then Q true H1 else u σ H1 Q) : tOr t u σ H Q := k
theorem r_ifE {t : TT} {a b : TE} (k : t σ H fun c H1 => if c = true then a σ H1 Q else b σ H1 Q) : tIf t a b σ H Q := k
theorem r_call {sp : Sp} {dvs : List V} {E : XK} {t : TA} (k : t σ H fun vs H1 => sp (vs ++ dvs) H1 Q E) : tCall sp dvs E t σ H Q := k
theorem r_lst {t : TA} (k : t σ H fun xs H1 => xs.length ≤ sizeLine ∧ ∀ p, H1 p = none → Q (.ref p) (upd H1 p (.lst xs))) : tLst t σ H Q := k
theorem r_tup {t : TA} (k : t σ H fun xs H1 => xs.length ≤ sizeLine ∧ ∀ p, H1 p = none → Q (.ref p) (upd H1 p (.tup xs))) : tTup t σ H Q := k
-- values
theorem r_addI {i j : Int} (k : Q (.int (i + j)) H) : rAdd K (.int i) (.int j) H Q := .inl ⟨i, j, rfl, rfl, k⟩
theorem r_addS {a b : Str} (h : a.length + b.length ≤ sizeLine) (k : Q (.str (a ++ b)) H) : rAdd K (.str a) (.str b) H Q := .inr (.inl ⟨a, b, rfl, rfl, h, k⟩)
theorem r_subI {i j : Int} (k : Q (.int (i - j)) H) : rI0 (fun i j => .int (i - j)) (.int i) (.int j) H Q := ⟨i, j, rfl, rfl, k⟩
theorem r_rI {C : Int → Int → Prop} {g : Int → Int → V} {i j : Int} (h : C i j) (k : Q (g i j) H) : rI C g (.int i) (.int j) H Q := ⟨i, j, rfl, rfl, h, k⟩
theorem r_mulI {i j : Int} (h : CMulW i j) (k : Q (.int (i * j)) H) : rMul (.int i) (.int j) H Q := .inl ⟨i, j, rfl, rfl, h, k⟩
theorem r_mulS {z : Str} {n : Int} (h : MulOk z n) (k : Q (.str (Txt.mul z n)) H) : rMul (.str z) (.int n) H Q := .inr (.inl ⟨z, n, rfl, rfl, h, k⟩)
theorem r_cmpI {f : Int → Int → Bool} {g : List Nat → List Nat → Bool} {i j : Int} (k : Q (.bl (f i j)) H) : rCmp f g (.int i) (.int j) H Q := .inl ⟨i, j, rfl, rfl, k⟩
theorem r_cmpS {f : Int → Int → Bool} {g : List Nat → List Nat → Bool} {a b : Str} (k : Q (.bl (g a.cps.toList b.cps.toList)) H) : rCmp f g (.str a) (.str b) H Q := .inr ⟨a, b, rfl, rfl, k⟩
theorem dec_int {i j : Int} : decide (V.int i = V.int j) = decide (i = j) := by by_cases h : i = j <;> simp [h]
theorem dec_str {i j : Str} : decide (V.str i = V.str j) = decide (i = j) := by by_cases h : i = j <;> simp [h]
theorem r_eqI {i j : Int} (k : Q (.bl (decide (i = j))) H) : rEqA K (.int i) (.int j) H Q := .inl ⟨rfl, by rw [dec_int]; exact k⟩
theorem r_neI {i j : Int} (k : Q (.bl (!decide (i = j))) H) : rNeA K (.int i) (.int j) H Q := .inl ⟨rfl, by rw [dec_int]; exact k⟩
theorem r_eqS {i j : Str} (k : Q (.bl (decide (i = j))) H) : rEqA K (.str i) (.str j) H Q := .inl ⟨rfl, by rw [dec_str]; exact k⟩
theorem r_neS {i j : Str} (k : Q (.bl (!decide (i = j))) H) : rNeA K (.str i) (.str j) H Q := .inl ⟨rfl, by rw [dec_str]; exact k⟩
theorem r_inSF {c : Nat} {z : Str} (k : Q (.bl (decide (c ∈ z.cps.toList))) H) : rInA K false (.str ⟨#[c]⟩) (.str z) H Q := .inl ⟨c, z, rfl, rfl, k⟩
theorem r_inST {c : Nat} {z : Str} (k : Q (.bl (!decide (c ∈ z.cps.toList))) H) : rInA K true (.str ⟨#[c]⟩) (.str z) H Q := .inl ⟨c, z, rfl, rfl, k⟩
theorem log2_small {n : Nat} (h : n < 2 ^ 200) : n.log2 < 300000 := by
  by_cases h0 : n = 0
  · subst h0; decide
  · exact Nat.lt_of_lt_of_le ((Nat.log2_lt h0).mpr h) (by decide)
theorem cmulW {i j : Int} (hi : i.natAbs < 2 ^ 200) (hj : j.natAbs < 2 ^ 200) : CMulW i j := by
  have := log2_small hi
  have := log2_small hj
  show _ + _ < _
  omega
-- items
theorem r_ixL {p : Addr} {xs : List V} {i : Int} {v : V} (h : SqL K H p xs) (e : atI xs i = some v) (k : Q v H) : rIx K (.ref p) (.int i) H Q := .inl ⟨p, xs, i, v, rfl, rfl, h, e, k⟩
theorem r_ixT {p : Addr} {xs : List V} {i : Int} {v : V} (h : SqT K H p xs) (e : atI xs i = some v) (k : Q v H) : rIx K (.ref p) (.int i) H Q := .inr (.inl ⟨p, xs, i, v, rfl, rfl, h, e, k⟩)
theorem r_ixS {z : Str} {i : Int} {c : Nat} (h : z.length ≤ sizeLine) (e : atI z.cps.toList i = some c) (k : Q (.str ⟨#[c]⟩) H) : rIx K (.str z) (.int i) H Q := .inr (.inr ⟨z, i, c, rfl, rfl, h, e, k⟩)
-- statements
theorem r_seq {t u : TS} {n : L2.St → Hp → Prop} {rt : VK} {bk ct : L2.St → Hp → Prop} (k : t { nx := u ⟨n, rt, bk, ct⟩, rt := rt, bk := bk, ct := ct } σ H) : tSeq t u ⟨n, rt, bk, ct⟩ σ H := k
theorem r_next {n : L2.St → Hp → Prop} {rt : VK} {bk ct : L2.St → Hp → Prop} (k : n σ H) : tNext ⟨n, rt, bk, ct⟩ σ H := k
theorem r_ret {te : TE} {n : L2.St → Hp → Prop} {rt : VK} {bk ct : L2.St → Hp → Prop} (k : te σ H rt) : tRet te ⟨n, rt, bk, ct⟩ σ H := k
theorem r_drop {te : TE} {n : L2.St → Hp → Prop} {rt : VK} {bk ct : L2.St → Hp → Prop} (k : te σ H fun _ H1 => n σ H1) : tDrop te ⟨n, rt, bk, ct⟩ σ H := k
theorem r_rI0 {g : Int → Int → V} {i j : Int} (k : Q (g i j) H) : rI0 g (.int i) (.int j) H Q := ⟨i, j, rfl, rfl, k⟩
theorem r_setL {p : Addr} {xs : List V} {i : Int} {j : Nat} {v : V} {Q : Hp → Prop} (h : H p = some (.lst xs)) (e : ixN xs.length i = some j) (k : Q (upd H p (.lst (xs.set j v)))) : rSetL (.ref p) (.int i) v H Q := ⟨p, xs, i, j, rfl, rfl, h, e, k⟩
theorem r_sets {te : TE} {g : TG} {n : L2.St → Hp → Prop} {rt : VK} {bk ct : L2.St → Hp → Prop} (k : te σ H fun x H1 => g x σ H1 n) : tAsg te g ⟨n, rt, bk, ct⟩ σ H := k
theorem r_gname {i : Nat} {v : V} {Q : L2.St → Hp → Prop} (k : Q (σ.set i (some v)) H) : gName i v σ H Q := k
theorem r_ifS {c : TT} {t u : TS} (k : c σ H fun b H1 => if b = true then t D σ H1 else u D σ H1) : tIfS c t u D σ H := k
theorem r_gsub {to ti : TE} {t : TSet} {v : V} {Q : L2.St → Hp → Prop} (k : to σ H fun o H1 => ti σ H1 fun i H2 => t o i v H2 fun H3 => Q σ H3) : gSub to ti t v σ H Q := k
end
/-! ### tests -/
theorem r_ite {b : Bool} {A B : Prop} (h1 : b = true → A) (h2 : b = false → B) : if b = true then A else B := by cases b <;> simp_all
theorem r_iteD {p : Prop} {inst : Decidable p} {A B : Prop} (h1 : p → A) (h2 : ¬ p → B) : if decide p = true then A else B := by by_cases h : p <;> simp_all
theorem r_iteN {p : Prop} {inst : Decidable p} {A B : Prop} (h1 : ¬ p → A) (h2 : p → B) : if (!decide p) = true then A else B := by by_cases h : p <;> simp_all

/-! ### heaps: all but what stands at b is as it was -/
def Keep (b : Addr) (H H' : Hp) : Prop := ∀ p o, H p = some o → p ≠ b → H' p = some o
theorem Keep.refl (b : Addr) (H : Hp) : Keep b H H := fun _ _ h _ => h
theorem Keep.trans {b : Addr} {H H1 H2 : Hp} (x : Keep b H H1) (y : Keep b H1 H2) : Keep b H H2 := fun p o h n => y p o (x p o h n) n
theorem Keep.upd (b : Addr) (H : Hp) (o : HO) : Keep b H (upd H b o) := fun p u h n => by rw [upd_ne n]; exact h
theorem Keep.new {b p : Addr} {H : Hp} (o : HO) (h : H p = none) : Keep b H (L2.upd H p o) := fun q u hq _ => by rw [upd_ne (ne_of_none hq h)]; exact hq
theorem Keep.same {b : Addr} {H H' : Hp} (h : Same H H') : Keep b H H' := fun p o q _ => h p o q
theorem Keep.seq {K : PySem.W.Frag} {b a : Addr} {xs : List V} {H H' : Hp} (x : Keep b H H') (n : a ≠ b) (h : SqL K H a xs) : SqL K H' a xs := by
  rcases h with (h | ⟨o, h⟩) | h  -- own
  · exact .inl (.inl (x _ _ h n))
  · exact .inl (.inr ⟨o, x _ _ h n⟩)
  · exact .inr h
theorem Keep.free {b a : Addr} {H H' : Hp} (x : Keep b H H') (n : a ≠ b) (h : H' a = none) : H a = none := by
  cases q : H a with
  | none => rfl
  | some o => rw [x a o q n] at h; cases h
theorem new_ne {H : Hp} {p q : Addr} {o : HO} (h : H p = none) (h' : H q = some o) : p ≠ q := fun e => by rw [e, h'] at h; cases h

/-! ### the law's box: three ints, at most n draws -/
def Bx (H : Hp) (b : Addr) (n : Nat) : Prop := ∃ x y z : Int, H b = some (.lst [.int x, .int y, .int z]) ∧ 0 ≤ x ∧ 0 ≤ y ∧ y < 2147483629 ∧ 0 ≤ z ∧ z ≤ n
theorem Bx.mono {H : Hp} {b : Addr} {n m : Nat} (h : Bx H b n) (l : n ≤ m) : Bx H b m := by
  obtain ⟨x, y, z, e, a1, a2, a3, a4, a5⟩ := h
  exact ⟨x, y, z, e, a1, a2, a3, a4, by omega⟩
theorem Bx.new {H : Hp} {b p : Addr} {n : Nat} {o : HO} (h : Bx H b n) (f : H p = none) : Bx (upd H p o) b n := by
  obtain ⟨x, y, z, e, r⟩ := h
  exact ⟨x, y, z, by rw [upd_ne (new_ne f e).symm]; exact e, r⟩
/-- a draw: below m -/
def spTake : Sp := fun vs H Q _ => ∃ (b : Addr) (m : Int) (n : Nat), vs = [.ref b, .int m] ∧ Bx H b n ∧ n ≤ 1000000000 ∧ 1 ≤ m ∧ m < 1000000000 ∧
  ∀ (k : Int) (H' : Hp), 0 ≤ k → k < m → Keep b H H' → Bx H' b (n + 1) → Q (.int k) H'
end J

/-! the promises of the defs that cut and quote lines -/
namespace J
open PySem PySem.Spec PyProof.Rows L2 M

abbrev cd (z : Str) : List Nat := z.cps.toList
theorem cd_S (l : List Nat) : cd (S l) = l := S_cps l
theorem cd_app (a b : Str) : cd (a ++ b) = cd a ++ cd b := by show (a.cps ++ b.cps).toList = _; simp
theorem cd_one (c : Nat) : cd ⟨#[c]⟩ = [c] := rfl
theorem len_cd (z : Str) : z.length = (cd z).length := by simp [Str.length]
theorem str_eq {a b : Str} : a = b ↔ cd a = cd b := ⟨fun h => by rw [h], fun h => by rw [← S_of a, ← S_of b]; exact congrArg S h⟩
/-- a text of signs -/
def sg (l : List Nat) : Bool := l.all fun c => decide (32 ≤ c ∧ c ≤ 126)
theorem sg_iff {l : List Nat} : sg l = true ↔ ∀ c ∈ l, 32 ≤ c ∧ c ≤ 126 := by simp [sg]
def wV (l : List Nat) : V := .str (S l)
def obV : Option (List Nat) → V
  | none => .non
  | some l => .str (S l)
def qV (q : Nat) : V := .str (if q = 0 then S [] else S [q])
/-- a line without line feeds: signs, at most 2,000 -/
def Ln (l : List Nat) : Prop := l.length ≤ 2000 ∧ ∀ c ∈ l, 32 ≤ c ∧ c ≤ 126

def spSigns : Sp := fun vs H Q _ => ∃ z : Str, vs = [.str z] ∧ z.length ≤ 10000000 ∧ ∀ H', Same H H' → Q (.bl (sg (cd z))) H'
def spIsWord : Sp := fun vs H Q _ => ∃ z : Str, vs = [.str z] ∧ z.length ≤ 10000000 ∧ ∀ H', Same H H' → Q (.bl (decide (z.length ≤ 40) && sg (cd z))) H'
def spIsLine : Sp := fun vs H Q _ => ∃ z : Str, vs = [.str z] ∧ Ln (cd z) ∧ ∀ H', Same H H' → Q (.bl true) H'
def spAreWords (K : PySem.W.Frag) : Sp := fun vs H Q _ => ∃ (a : Addr) (ls : List (List Nat)), vs = [.ref a] ∧ (H a = some (.lst (ls.map wV)) ∨ H a = some (.tup (ls.map wV))) ∧ ls.length ≤ 40 ∧ (∀ l ∈ ls, Wd l) ∧ ∀ H', Same H H' → Q (.bl true) H'
def spLonger : Sp := fun vs H Q _ => ∃ (b : Option (List Nat)) (c : Nat) (i : Int), vs = [obV b, .str ⟨#[c]⟩, .int i] ∧ (b.getD []).length + 1 ≤ 40 ∧ Q (.str (S (b.getD [] ++ [c]))) H
def spRefuse : Sp := fun vs H Q _ => ∃ n : Int, vs = [.int n] ∧ n ≤ 40 ∧ Q .non H
def spScanned : Sp := fun vs H Q _ => ∃ (z : Str) (t : Sc), vs = [.str z] ∧ Ln (cd z) ∧ scan stP 0 sc0 (cd z) = .ok t ∧ t.tk = false ∧
  ∀ (p w : Addr) (H' : Hp), H p = none → H w = none → Same H H' → H' p = some (.tup [.ref w, obV t.bg, qV t.qt, .int t.op]) → H' w = some (.lst (t.ws.map wV)) → p ≠ w → Q (.ref p) H'
/-- all words of a state -/
def fin (t : Sc) : List (List Nat) := t.ws ++ t.bg.toList
def spCut : Sp := fun vs H Q _ => ∃ (z : Str) (t : Sc), vs = [.str z] ∧ Ln (cd z) ∧ scan stP 0 sc0 (cd z) = .ok t ∧ t.tk = false ∧ t.qt = 0 ∧ (fin t).length ≤ 40 ∧
  ∀ (w : Addr) (H' : Hp), H w = none → Same H H' → H' w = some (.lst ((fin t).map wV)) → Q (.ref w) H'
def spEscaped : Sp := fun vs H Q _ => ∃ z n : Str, vs = [.str z, .str n] ∧ z.length ≤ 100000 ∧ ∀ H', Same H H' → Q (.str (S (esc (cd n) (cd z)))) H'
def spWays : Sp := fun vs H Q _ => ∃ z : Str, vs = [.str z] ∧ z.length ≤ 100000 ∧ ∀ (w : Addr) (H' : Hp), H w = none → Same H H' → H' w = some (.lst ((ways (cd z)).map wV)) → Q (.ref w) H'
def spQuoted : Sp := fun vs H Q _ => ∃ z : Str, vs = [.str z] ∧ Wd (cd z) ∧ ∀ (v : List Nat) (H' : Hp), FM (ways (cd z)) v → Same H H' → Q (.str (S v)) H'
/-- each of a list's first shortest ways -/
inductive FMs : List (List Nat) → List (List Nat) → Prop
  | nil : FMs [] []
  | cons {l v : List Nat} {ls vs : List (List Nat)} (h : FM (ways l) v) (r : FMs ls vs) : FMs (l :: ls) (v :: vs)
theorem FM.mem {xs : List (List Nat)} {v : List Nat} (h : FM xs v) : v ∈ xs := let ⟨_, hi, _⟩ := h; List.mem_of_getElem? hi
theorem FMs.ways : ∀ {ls vs : List (List Nat)}, FMs ls vs → (∀ l ∈ ls, Wd l) → Ways ls vs
  | _, _, .nil, _ => .nil
  | _, _, .cons h r, w => .cons (w _ (List.mem_cons_self ..)) (FM.mem h) (r.ways fun l hl => w l (List.mem_cons_of_mem _ hl))
theorem FMs.uniq : ∀ {ls vs us : List (List Nat)}, FMs ls vs → FMs ls us → vs = us
  | _, _, _, .nil, .nil => rfl
  | _, _, _, .cons h r, .cons h' r' => by rw [FM.uniq h h', r.uniq r']
theorem FMs.snoc : ∀ {ls vs : List (List Nat)} {l v : List Nat}, FMs ls vs → FM (M.ways l) v → FMs (ls ++ [l]) (vs ++ [v])
  | _, _, _, _, .nil, h => .cons h .nil  -- own
  | _, _, _, _, .cons h' r, h => .cons h' (r.snoc h)
theorem FMs.len : ∀ {ls vs : List (List Nat)}, FMs ls vs → ls.length = vs.length
  | _, _, .nil => rfl
  | _, _, .cons _ r => by simp [r.len]  -- own
def spJoined (K : PySem.W.Frag) : Sp := fun vs H Q _ => ∃ (a : Addr) (ls : List (List Nat)), vs = [.ref a] ∧ (H a = some (.lst (ls.map wV)) ∨ H a = some (.tup (ls.map wV))) ∧ ls.length ≤ 40 ∧ (∀ l ∈ ls, Wd l) ∧
  ∀ (us : List (List Nat)) (H' : Hp), FMs ls us → Same H H' → Q (.str (S (jn us))) H'
-- the law's
def spBox : Sp := fun vs H Q _ => ∃ c : Int, vs = [.int c] ∧ ∀ (p : Addr) (H' : Hp), H p = none → Same H H' → Bx H' p 0 → Q (.ref p) H'
def spPick (K : PySem.W.Frag) : Sp := fun vs H Q _ => ∃ (b : Addr) (n : Nat), Bx H b n ∧ n ≤ 900000000 ∧
  ((∃ z : Str, vs = [.ref b, .str z] ∧ 0 < z.length ∧ z.length ≤ 1000 ∧ ∀ (c : Nat) (H' : Hp), c ∈ cd z → Keep b H H' → Bx H' b (n + 1) → Q (.str ⟨#[c]⟩) H') ∨
   (∃ (a : Addr) (xs : List V), vs = [.ref b, .ref a] ∧ a ≠ b ∧ SqL K H a xs ∧ 0 < xs.length ∧ xs.length ≤ 1000 ∧ ∀ (v : V) (H' : Hp), v ∈ xs → Keep b H H' → Bx H' b (n + 1) → Q v H'))
def spSign : Sp := fun vs H Q _ => ∃ (b : Addr) (n : Nat), vs = [.ref b] ∧ Bx H b n ∧ n ≤ 800000000 ∧ ∀ (c : Nat) (H' : Hp), 32 ≤ c → c ≤ 126 → Keep b H H' → Bx H' b (n + 2) → Q (.str ⟨#[c]⟩) H'
def spWord : Sp := fun vs H Q _ => ∃ (b : Addr) (n m : Nat), vs = [.ref b, .int m] ∧ m ≤ 40 ∧ Bx H b n ∧ n ≤ 700000000 ∧ ∀ (l : List Nat) (H' : Hp), l.length ≤ max m 8 → Wd l → Keep b H H' → Bx H' b (n + 100) → Q (.str (S l)) H'
end J

/-! min(texts, key=len); replace where there is nothing to replace; more steps of the reading -/
namespace J
open PySem PySem.Spec PyProof.Rows L2 M
open Sem (wp)

theorem argBest_first (f : Nat → Int) : ∀ k : Nat, argBest (fun i j => decide (f i < f j)) k ≤ k ∧ ∀ j, j ≤ k → f (argBest (fun i j => decide (f i < f j)) k) ≤ f j ∧ (j < argBest (fun i j => decide (f i < f j)) k → f (argBest (fun i j => decide (f i < f j)) k) < f j)
  | 0 => ⟨Nat.le_refl _, fun j hj => by
      obtain rfl : j = 0 := by omega
      exact ⟨Int.le_refl _, fun h => absurd h (Nat.lt_irrefl _)⟩⟩
  | k + 1 => by
    obtain ⟨h1, h2⟩ := argBest_first f k
    unfold argBest
    by_cases c : f (k + 1) < f (argBest (fun i j => decide (f i < f j)) k)
    · rw [if_pos (decide_eq_true c)]  -- own
      refine ⟨Nat.le_refl _, fun j hj => ?_⟩  -- own
      rcases Nat.lt_or_ge k j with q | q
      · obtain rfl : j = k + 1 := by omega
        exact ⟨Int.le_refl _, fun h => absurd h (Nat.lt_irrefl _)⟩
      · have := (h2 j q).1
        exact ⟨by omega, fun _ => by omega⟩  -- own
    · rw [if_neg (by simpa using c)]
      refine ⟨by omega, fun j hj => ?_⟩  -- own
      rcases Nat.lt_or_ge k j with q | q
      · obtain rfl : j = k + 1 := by omega
        exact ⟨by omega, fun h => by omega⟩
      · exact h2 j q
section
variable {X : Cx}
/-- min(xs, key=len) of a list of texts: the first of the shortest -/
def tMinLen (K : PySem.W.Frag) (te : TE) : TE := fun σ H Q => te σ H fun x H1 => ∃ (a : Addr) (ls : List (List Nat)), x = .ref a ∧ SqL K H1 a (ls.map wV) ∧ 0 < ls.length ∧ (∀ l ∈ ls, l.length < 1000000) ∧ ∀ v, FM ls v → Q (.str (S v)) H1
theorem pe_minLen {e : Expr} {te : TE} {p p2 kp pos : Pos} (he : PE X e te) (hc : X.calm = true) (hg : Gl X "min") (hm : X.mg "min" = none) (hg2 : Gl X "len") (hm2 : X.mg "len" = none)
    (h1 : backTo pos (starEach [e] X.env) = (false, eval e X.env) :: backTo pos (starEach [] X.env) := by rfl) (h2 : (backTo pos (starEach [e] X.env)).any (·.1) = false := by rfl)
    (h3 : (backToKw pos (keywordEach [⟨some "key", .Name "len" p2, kp⟩] X.env)).all (·.1.isSome) = true := by rfl) (h4 : (backToKw pos (keywordEach [⟨some "key", .Name "len" p2, kp⟩] X.env)).any (·.1.isNone) = false := by rfl)
    (h0 : starEach [e] X.env = (false, eval e X.env) :: starEach [] X.env := by rfl)
    (h5 : (backToKw pos (keywordEach [⟨some "key", .Name "len" p2, kp⟩] X.env)).filterMap (·.1) = [Str.ofString "key"] := by rfl) :
    PE X (.Call (.Name "min" p) [e] [⟨some "key", .Name "len" p2, kp⟩] pos) (tMinLen X.K te) := by
  refine ⟨fun pins s σ H Q I h => wpAny_Call_Name_kw (ld_blt (u := .builtin "min") I hg hm (by decide +kernel) ?_ (by decide) (by decide))⟩
  refine PyProof.Rows.callWith_kw (thn ((pa_cons he pa_nil h0).run pos pins s σ H (fun vs H1 => match vs with
    | [x] => ∃ (a : Addr) (ls : List (List Nat)), x = .ref a ∧ SqL X.K H1 a (ls.map wV) ∧ 0 < ls.length ∧ (∀ l ∈ ls, l.length < 1000000) ∧ ∀ v, FM ls v → Q (.str (S v)) H1
    | _ => False) I h) fun us s1 hh => ?_) h1 h2 h3 h4
  obtain ⟨vs, H1, I1, r1, q1⟩ := hh
  cases r1 with
  | nil => exact q1.elim
  | cons rx rr =>
    cases rr with
    | cons _ _ => exact q1.elim
    | nil =>
      obtain ⟨a, ls, ex, hs, hn, hl, q⟩ := q1
      subst ex
      cases rx
      rw [h5]
      show wpAny _ _ (evalAll [do let v ← eval (.Name "len" p2) X.env; standAt pos; pure v]) _ _ s1
      refine wpAny_evalAll_cons (wpAny_bind (ld_blt (u := .builtin "len") I1 hg2 hm2 (by decide +kernel) (wpAny_bind (wpAny_standAt (wpAny_pure (wpAny_evalAll_nil ?_)))) (by decide) (by decide)))
      show wpAny _ _ (call (.builtin "min") [.ref a] [(Str.ofString "key", .builtin "len")]) _ _ s1
      obtain ⟨its, rv, hL, hz⟩ := I1.list hs
      have hlen := rv.length
      rw [List.length_map] at hlen
      have hla : a < s1.heap.objs.size := by obtain ⟨o, e, _⟩ := hL.isList; exact Heap.lt_size e
      have at_ : ∀ (i : Nat) (v : Value), its.toArray[i]? = some v → ∃ l t, ls[i]? = some l ∧ v = .str (S l) t := fun i v hv => by
        have hv' : its[i]? = some v := by simpa using hv  -- own
        cases e : ls[i]? with
        | none =>
          have := Vals.none_of rv (i := i) (by rw [List.getElem?_map, e]; rfl)
          rw [hv'] at this; cases this
        | some l =>
          obtain ⟨u, hu, ru⟩ := rv.get (i := i) (x := wV l) (by rw [List.getElem?_map, e]; rfl)
          rw [hv'] at hu; cases hu
          obtain ⟨t, et⟩ := (show ∃ t, v = Value.str (S l) t from ru)
          exact ⟨l, t, rfl, et⟩
      refine call_min_walkKB (wpAny_pyIter_list hL.isList ?_)
      have W := (Walks.list (prog := X.prog) (w := X.w) (A := X.A.in1) (I1.ok.hd hc) s1.heap.objs.size a (Nat.ne_of_lt hla) its.toArray).toS
      refine ⟨_, _, _, _, _, _, _, (fun s' : Shared => (∀ b o, s1.heap.get? b = some o → s'.heap.get? b = some o) ∧ s'.gens = s1.gens ∧ s'.drawn = s1.drawn ∧ s'.os = s1.os), (fun (i : Nat) (k : Value) (_ : Shared) => ∃ t, k = Value.int (((ls[i]?.getD []).length : Nat) : Int) t),
        (fun i j => decide ((((ls[i]?.getD []).length : Nat) : Int) < (((ls[j]?.getD []).length : Nat) : Int))), rfl, W, ⟨⟨_, Heap.get?_push_size _ rfl, rfl, rfl⟩, hL.isList.push _⟩, fun b hb => ?_, by simp; omega, ⟨?_, ?_, ?_, ?_⟩, ⟨fun b o e => Heap.get?_push_of_some _ e, rfl, rfl, rfl⟩, fun v s' hv hJ => ?_⟩
      · show b < (s1.heap.push _).objs.size
        rw [Heap.size_push]
        rcases List.mem_cons.mp hb with q | q
        · rw [q]; exact Nat.lt_succ_self _
        · rw [List.mem_singleton.mp q]; exact Nat.lt_succ_of_lt hla
      · intro s2 s3 ⟨k1, k2, k3, k4⟩ m
        refine ⟨fun b o e => m.heap b o (fun hm => ?_) (k1 b o e), (show s3.gens = s2.gens from m.gens).trans k2, m.drawn.trans k3, m.os.trans k4⟩
        have lb := Heap.lt_size e
        simp only [List.mem_cons, List.not_mem_nil, or_false] at hm  -- own
        have sz : (s1.heap.push { cls := Value.type "list_iterator", data := Data.fields #[Value.ref a, Value.int 0 0] }).objs.size = s1.heap.objs.size + 1 := Heap.size_push ..
        rcases hm with q | q
        · have q' : b = s1.heap.objs.size + 1 := q.trans sz
          rw [q'] at lb
          exact Nat.lt_irrefl _ (Nat.lt_of_succ_lt lb)
        · rw [q] at lb
          exact Nat.lt_irrefl _ lb
      · exact fun _ _ _ _ h _ => h
      · intro i v s2 o Q' E' hi hP hJ hst hS hq
        obtain ⟨l, t, hl', rfl⟩ := at_ i v hP
        refine PySem.P.len_str ?_ (hq _ _ hJ hst hS ⟨_, by rw [hl', S_len]; rfl⟩ fun _ _ h => h)
        have := hl l (List.mem_of_getElem? hl')
        rw [S_len]; omega
      · intro i j ki kj s2 Q' E' _ hi hj h
        obtain ⟨t, rfl⟩ := hi
        obtain ⟨u, rfl⟩ := hj
        exact richCompare_gives (op := .Lt) (typeIs_int s2 _ t) (typeIs_int s2 _ u) PySem.F.slot_int_lt PySem.F.entry_int_lt (PySem.F.args_int_lt_2 _ _) (gives_int_lt _ _ t u) (fun x => nomatch x) h
      · obtain ⟨l, t, hl', rfl⟩ := at_ _ v hv
        obtain ⟨k1, k2, k3, k4⟩ := hJ
        obtain ⟨h', g', d', t', o'⟩ := s'  -- own
        simp only at k1 k2 k3 k4
        subst k2 k3 k4
        obtain ⟨b1, b2⟩ := argBest_first (fun i => (((ls[i]?.getD []).length : Nat) : Int)) (its.toArray.size - 1)
        refine ⟨.str (S l), H1, I1.kept k1, ⟨t, rfl⟩, q l ⟨_, hl', fun j w hj => ?_⟩⟩
        have lj := (List.getElem?_eq_some_iff.mp hj).1
        have := b2 j (by simp; omega)
        simp only [hl', hj, Option.getD_some] at this
        exact ⟨by omega, fun q => by have := this.2 q; omega⟩

/-! ### replace where there is nothing to replace -/
def rRep0 : V → List V → Hp → VK → Prop := fun x xs H Q => ∃ (a b : Str) (c : Nat), x = .str a ∧ xs = [.str ⟨#[c]⟩, .str b] ∧ c ∉ cd a ∧ Q (.str a) H
theorem occ_nil {x : Str} {c : Nat} (h : c ∉ cd x) : (Builtin.Str.occurrences x ⟨#[c]⟩ 0 x.length (x.length + 1)).isEmpty = true := by
  obtain ⟨f, q⟩ := StrLaws.occ_chain x ⟨#[c]⟩ (x.length + 1)
  cases e : Builtin.Str.occurrences x ⟨#[c]⟩ 0 x.length (x.length + 1) with
  | nil => rfl
  | cons i r =>
    rw [e] at q
    exact absurd (List.mem_of_getElem? ((StrLaws.subAt_one x c i).mp q.2.1)) h
theorem mt_rep0 : MtR X "str.replace" rRep0 := fun pins s σ H x xs v us Q I r rr h => by
  obtain ⟨a, b, c, ex, exs, hc, q⟩ := h
  subst ex exs
  obtain ⟨t, rfl⟩ := r
  obtain ⟨u1, u2, rfl, r1, r2⟩ := vals2 rr
  obtain ⟨t1, rfl⟩ := (show ∃ t, u1 = Value.str ⟨#[c]⟩ t from r1)
  obtain ⟨t2, rfl⟩ := (show ∃ t, u2 = Value.str b t from r2)
  have e := occ_nil hc
  refine call_gives PySem.F.slot_str_replace (typeIs_str _ _ _) PySem.F.entry_str_replace (PySem.F.args_str_replace_3 _ _ _) (gives_str_replace a ⟨#[c]⟩ b t t1 t2 fun z => by rw [e] at z; cases z) ?_
  rw [e]
  exact ⟨.str a, H, I, ⟨t, rfl⟩, q⟩
end
/-! ### joined texts -/
theorem l_nil' : cd (Str.ofString "") = [] := by decide +kernel
theorem l_sp' : cd (Str.ofString " ") = [32] := by decide +kernel
theorem tj (a : Str) (ys : List Str) : Txt.join a ys = Str.join a ys := StrLaws.glued_eq_join ..
theorem join_nil : ∀ ls : List (List Nat), Txt.join (Str.ofString "") (ls.map S) = S ls.flatten
  | [] => by decide +kernel
  | [x] => by rw [tj]; show S x = _; simp
  | x :: y :: r => by
    have ih := join_nil (y :: r)
    rw [tj] at ih ⊢
    show S x ++ Str.ofString "" ++ Str.join (Str.ofString "") ((y :: r).map S) = _
    rw [ih, str_eq, cd_app, cd_app, cd_S, cd_S, cd_S, l_nil']
    simp
theorem join_sp : ∀ ls : List (List Nat), Txt.join (Str.ofString " ") (ls.map S) = S (jn ls)
  | [] => by decide +kernel
  | [x] => by rw [tj]; rfl
  | x :: y :: r => by
    have ih := join_sp (y :: r)
    rw [tj] at ih ⊢
    show S x ++ Str.ofString " " ++ Str.join (Str.ofString " ") ((y :: r).map S) = _
    rw [ih, str_eq, cd_app, cd_app, cd_S, cd_S, cd_S, l_sp']
    simp [jn]
theorem sum_le : ∀ (ls : List (List Nat)) (B : Nat), (∀ l ∈ ls, l.length ≤ B) → ((ls.map S).map (·.length)).sum ≤ B * ls.length
  | [], B, _ => by simp
  | l :: ls, B, h => by
    have ih := sum_le ls B fun m hm => h m (List.mem_cons_of_mem _ hm)
    have := h l (List.mem_cons_self ..)
    simp only [List.map_cons, List.sum_cons, List.length_cons, S_len]
    rw [Nat.mul_add, Nat.mul_one]
    omega
/-! ### built-ins, their readings named -/
def rLen (K : PySem.W.Frag) : List V → Hp → VK → Prop := fun xs H Q => ∃ x n, xs = [x] ∧ LenV K x H n ∧ Q (.int (n : Nat)) H
def rIntA : List V → Hp → VK → Prop := fun xs H Q => (∃ i, xs = [V.int i] ∧ Q (V.int i) H) ∨ ∃ k, xs = [V.bl k] ∧ Q (V.int (if k = true then 1 else 0)) H
def rMax2 : List V → Hp → VK → Prop := fun xs H Q => ∃ i j, xs = [V.int i, V.int j] ∧ Q (V.int (if j > i then j else i)) H
def rMin2 : List V → Hp → VK → Prop := fun xs H Q => ∃ i j, xs = [V.int i, V.int j] ∧ Q (V.int (if j < i then j else i)) H
def rListOf (K : PySem.W.Frag) : List V → Hp → VK → Prop := fun xs H Q => ∃ p ys, xs = [.ref p] ∧ (SqL K H p ys ∨ SqT K H p ys) ∧ ∀ l, H l = none → Q (.ref l) (upd H l (.lst ys))
def rTupOf (K : PySem.W.Frag) : List V → Hp → VK → Prop := fun xs H Q => ∃ p ys, xs = [.ref p] ∧ ((SqL K H p ys ∧ ∀ l, H l = none → Q (.ref l) (upd H l (.tup ys))) ∨ (SqT K H p ys ∧ Q (.ref p) H))
def rJoin (K : PySem.W.Frag) : V → List V → Hp → VK → Prop := fun x xs H Q => ∃ a p, ∃ ys : List Str, x = .str a ∧ xs = [.ref p] ∧ (SqL K H p (ys.map V.str) ∨ SqT K H p (ys.map V.str)) ∧ (ys.map (·.length)).sum + ys.length * a.length ≤ 16777216 ∧ Q (.str (Txt.join a ys)) H
section
variable {X : Cx}
theorem call_lenA : CallR X (.builtin "len") (rLen X.K) := L2.call_len
theorem call_intA : CallR X (.type "int") rIntA := L2.call_int1
theorem call_maxA (hc : X.calm = true) : CallR X (.builtin "max") rMax2 := L2.call_max2 hc
theorem call_minA (hc : X.calm = true) : CallR X (.builtin "min") rMin2 := L2.call_min2 hc
theorem call_listA : CallR X (.type "list") (rListOf X.K) := L2.call_list_of
theorem call_tupA : CallR X (.type "tuple") (rTupOf X.K) := L2.call_tuple_of
end
/-! ### the written part by its own name -/
section
variable {X : Cx} {K : PySem.W.Frag} {e tg : Expr} {T : String} {r : V → List V → Hp → VK → Prop} {to tb : TE} {t : TA}
theorem asBM (eK : X.K = K) (h : PE X e (tBM X.K T r to t)) : PE X e (tBM K T r to t) := eK ▸ h
theorem asJoin (eK : X.K = K) (h : PE X e (tM1 (rJoin X.K) to tb)) : PE X e (tM1 (rJoin K) to tb) := eK ▸ h
theorem asOrT (eK : X.K = K) (h : PE X e (tOrT X.K to tb)) : PE X e (tOrT K to tb) := eK ▸ h
theorem asMin (eK : X.K = K) (h : PE X e (tMinLen X.K to)) : PE X e (tMinLen K to) := eK ▸ h
theorem asList (eK : X.K = K) (h : PI X tg e (iList X.K to)) : PI X tg e (iList K to) := eK ▸ h
theorem asTup (eK : X.K = K) (h : PI X tg e (iTup X.K to)) : PI X tg e (iTup K to) := eK ▸ h
end
/-! ### constants of the module -/
section
variable {X : Cx} {x : Str} {pos : Pos}
theorem pe_gI {n : Int} (h : ∃ t, X.mg x = some (.int n t)) (hg : Gl X x) (hd : (x == ("__debug__" : Str)) = false := by decide) : PE X (.Name x pos) (tC (.int n)) := let ⟨t, e⟩ := h; pe_glob hg e ⟨t, rfl⟩ hd
theorem pe_gS {z : Str} (h : ∃ t, X.mg x = some (.str z t)) (hg : Gl X x) (hd : (x == ("__debug__" : Str)) = false := by decide) : PE X (.Name x pos) (tC (.str z)) := let ⟨t, e⟩ := h; pe_glob hg e ⟨t, rfl⟩ hd
theorem pe_gR {a : Addr} (h : X.mg x = some (.ref a)) (hg : Gl X x) (hd : (x == ("__debug__" : Str)) = false := by decide) : PE X (.Name x pos) (tC (.ref a)) := pe_glob hg h rfl hd
end
/-- a def as the top has left it -/
structure DAt (K : PySem.W.Frag) (mg : Str → Option Value) (x : Str) (st : Stmt) (ps : List Str) (f : Addr) (fd : FuncData) : Prop where
  fn : Fun K x x st f fd
  gl : mg x = some (.ref f)
  bd : Binds K fd ps []
/-! ### heaps, again -/
theorem _root_.L2.Same.at {H H' : Hp} {p : Addr} (s : Same H H') (n : H p = none) (o : HO) : Same H (upd H' p o) := fun b u h => by rw [upd_ne (ne_of_none h n)]; exact s b u h
theorem _root_.L2.Same.new {H H' : Hp} {p : Addr} (s : Same H H') (n : H' p = none) (o : HO) : Same H (upd H' p o) := fun b u h => by rw [upd_ne (ne_of_none (s b u h) n)]; exact s b u h
theorem _root_.L2.Same.seqT {K : PySem.W.Frag} {H H' : Hp} {a : Addr} {xs : List V} (e : Same H H') (h : SqT K H a xs) : SqT K H' a xs := by
  rcases h with (h | ⟨o, h⟩) | h  -- own
  · exact .inl (.inl (e _ _ h))
  · exact .inl (.inr ⟨o, e _ _ h⟩)  -- own
  · exact .inr h
theorem take_snoc {α : Type} {l : List α} {i : Nat} {c : α} (h : l[i]? = some c) : l.take (i + 1) = l.take i ++ [c] := by rw [List.take_add_one, h]; rfl
theorem cps_at {z : Str} {i c : Nat} (h : z.cps[i]? = some c) : (cd z)[i]? = some c := by simpa using h
theorem one_lt {a b : Nat} : ([a] < [b]) ↔ a < b := by simp [List.cons_lt_cons_iff]
theorem not_dec {p : Prop} {i : Decidable p} : (!decide p) = decide (¬ p) := by by_cases h : p <;> simp [h]
theorem l_sp : (Str.ofString " ").cps.toList = [32] := by decide +kernel
theorem l_til : (Str.ofString "~").cps.toList = [126] := by decide +kernel
theorem l_nl : (Str.ofString "\n").cps.toList = [10] := by decide +kernel
theorem l_q1 : (Str.ofString "'").cps.toList = [39] := by decide +kernel
theorem l_q2 : (Str.ofString "\"").cps.toList = [34] := by decide +kernel
theorem l_bs : (Str.ofString "\\").cps.toList = [92] := by decide +kernel
theorem l_nil : (Str.ofString "").cps.toList = [] := by decide +kernel
theorem l_part : (Str.ofString " \n").cps.toList = [32, 10] := by decide +kernel
theorem l_need : (Str.ofString " '\"\\").cps.toList = [32, 39, 34, 92] := by decide +kernel
theorem l_need2 : (Str.ofString "\"\\").cps.toList = [34, 92] := by decide +kernel
theorem l_all : (Str.ofString " \n'\"\\").cps.toList = [32, 10, 39, 34, 92] := by decide +kernel
theorem l_qs : (Str.ofString "'\"").cps.toList = [39, 34] := by decide +kernel
theorem one_cps (c : Nat) : (⟨#[c]⟩ : Str).cps.toList = [c] := rfl
theorem len_app (a b : Str) : (a ++ b).length = a.length + b.length := by rw [len_cd, cd_app, List.length_append, ← len_cd, ← len_cd]
theorem S_nil_app (c : Nat) : (Str.ofString "" ++ ⟨#[c]⟩ : Str) = S ([] ++ [c]) := by rw [str_eq, cd_app, cd_S]; simp [l_nil]
theorem S_app_one (l : List Nat) (c : Nat) : (S l ++ ⟨#[c]⟩ : Str) = S (l ++ [c]) := S_app l [c]
theorem le_line {n : Nat} (h : n ≤ 16777216) : n ≤ sizeLine := h
theorem big : (1000000 : Nat) < sizeLine := by decide
/-! ### more steps -/
section
variable {σ : L2.St} {H : Hp} {Q : VK} {D : Ends} {K : PySem.W.Frag}
theorem r_andV {a b : TE} (k : a σ H fun x H1 => ∃ c, x = .bl c ∧ if c = true then b σ H1 Q else Q (.bl false) H1) : tAndV a b σ H Q := k
theorem r_orV {a b : TE} (k : a σ H fun x H1 => ∃ c, x = .bl c ∧ if c = true then Q (.bl true) H1 else b σ H1 Q) : tOrV a b σ H Q := k
theorem r_notV {a : TE} (k : a σ H fun x H1 => ∃ c, x = .bl c ∧ Q (.bl (!c)) H1) : tNotV a σ H Q := k
theorem r_chain {r r' : R2} {ta tb tc : TE} (k : ta σ H fun x H1 => tb σ H1 fun y H2 => r x y H2 fun z H3 => ∃ k, z = .bl k ∧ (if k = true then tc σ H3 fun w' H4 => r' y w' H4 Q else Q (.bl false) H3)) : tChain r r' ta tb tc σ H Q := k
theorem r_slice {r : V → Option Int → Option Int → Hp → VK → Prop} {te : TE} {tl th : TO} (k : te σ H fun x H1 => tl σ H1 fun l H2 => th σ H2 fun u H3 => r x l u H3 Q) : tSl r te tl th σ H Q := k
theorem r_nop {Q : Option Int → Hp → Prop} (k : Q none H) : tNoPart σ H Q := k
theorem r_part {t : TE} {Q : Option Int → Hp → Prop} (k : t σ H fun x H1 => ∃ i, x = .int i ∧ Q (some i) H1) : tPart t σ H Q := k
theorem r_isI {i : Int} {Q : Int → Prop} (k : Q i) : ∃ j, V.int i = .int j ∧ Q j := ⟨i, rfl, k⟩
theorem r_isiStr {z : Str} (k : Q (.bl true) H) : rIsi K [.str z, .ty "str"] H Q := ⟨_, _, _, _, true, rfl, .ty _, .base (.str z), kit_ty (by decide +kernel), k⟩
theorem r_len {z : Str} (h : z.length ≤ sizeLine) (k : Q (.int (z.length : Nat)) H) : rLen K [V.str z] H Q := ⟨_, _, rfl, ⟨h, rfl⟩, k⟩
theorem r_lenL {p : Addr} {xs : List V} (h : SqL K H p xs) (k : Q (.int (xs.length : Nat)) H) : rLen K [V.ref p] H Q := ⟨_, _, rfl, .inl ⟨xs, h, rfl⟩, k⟩
theorem r_lenT {p : Addr} {xs : List V} (h : SqT K H p xs) (k : Q (.int (xs.length : Nat)) H) : rLen K [V.ref p] H Q := ⟨_, _, rfl, .inr ⟨xs, h, rfl⟩, k⟩
theorem r_bm {T : String} {r : V → List V → Hp → VK → Prop} {to : TE} {t : TA} (k : to σ H fun x H1 => tyV K T x H1 ∧ t σ H1 fun xs H2 => r x xs H2 Q) : tBM K T r to t σ H Q := k
theorem r_m1 {r : V → List V → Hp → VK → Prop} {to te : TE} (k : to σ H fun x H1 => (∃ a, x = .str a) ∧ te σ H1 fun y H2 => r x [y] H2 Q) : tM1 r to te σ H Q := k
theorem r_isStr {z : Str} {P : Prop} (k : P) : (∃ a, V.str z = .str a) ∧ P := ⟨⟨z, rfl⟩, k⟩
theorem r_isS {z : Str} {Q : Str → Prop} (k : Q z) : ∃ x, V.str z = .str x ∧ Q x := ⟨z, rfl, k⟩
theorem r_lcS {te te' : TE} {g : TG} {tt : TT} {vs : List Nat} (k : te σ H fun v H1 => ∃ z, v = .str z ∧ ∀ E, H1 E = none → CompQ (Its z) g tt te' vs σ H1 E fun H => Q (.ref E) H) : tLc (iStr te) g tt te' vs σ H Q := k
theorem r_lcL {te te' : TE} {g : TG} {tt : TT} {vs : List Nat} (k : te σ H fun v H1 => ∃ a, v = .ref a ∧ (∃ xs, SqL K H1 a xs) ∧ ∀ E, H1 E = none → CompQ (Itl K a) g tt te' vs σ H1 E fun H => Q (.ref E) H) : tLc (iList K te) g tt te' vs σ H Q := k
theorem r_orT {te tb : TE} (k : te σ H fun x H1 => ∃ k, TruV K x H1 k ∧ if k = true then Q x H1 else tb σ H1 Q) : tOrT K te tb σ H Q := k
theorem r_truN {A B : Prop} (h : B) : ∃ k, TruV K .non H k ∧ if k = true then A else B := ⟨false, rfl, iteF h⟩
theorem r_truS {z : Str} {A B : Prop} (hl : z.length ≤ sizeLine) (h0 : z.length = 0 → B) (h1 : z.length ≠ 0 → A) : ∃ k, TruV K (.str z) H k ∧ if k = true then A else B := by
  by_cases e : z.length = 0
  · exact ⟨false, ⟨hl, by rw [e]; rfl⟩, iteF (h0 e)⟩
  · exact ⟨true, ⟨hl, by simp [e]⟩, iteT (h1 e)⟩
theorem r_join {a : Str} {p : Addr} {ls : List (List Nat)} (h : SqL K H p (ls.map wV)) (B : Nat) (hB : ∀ l ∈ ls, l.length ≤ B) (hn : B * ls.length + ls.length * a.length ≤ 16777216) (k : Q (.str (Txt.join a (ls.map S))) H) : rJoin K (.str a) [.ref p] H Q := by
  have := sum_le ls B hB
  exact ⟨a, p, ls.map S, rfl, rfl, .inl (by rw [List.map_map]; exact h), by rw [List.length_map]; omega, k⟩
theorem r_app {l : Addr} {xs : List V} {y : V} (h : H l = some (.lst xs)) (hz : xs.length < sizeLine) (k : Q .non (upd H l (.lst (xs ++ [y])))) : rAppend (.ref l) [y] H Q := ⟨l, xs, y, rfl, rfl, h, hz, k⟩
theorem r_tyL {l : Addr} {xs : List V} {B : Prop} (h : H l = some (.lst xs)) (k : B) : tyV K "list" (.ref l) H ∧ B := ⟨.inl ⟨rfl, _, SqL.of h⟩, k⟩
/-- a statement ahead of others: the rest is shown once -/
theorem r_seqJ {t u : TS} {n : L2.St → Hp → Prop} {rt : VK} {bk ct : L2.St → Hp → Prop} (Mid : L2.St → Hp → Prop) (first : ∀ N : L2.St → Hp → Prop, (∀ σ' H', Mid σ' H' → N σ' H') → t ⟨N, rt, bk, ct⟩ σ H)
    (rest : ∀ σ' H', Mid σ' H' → u ⟨n, rt, bk, ct⟩ σ' H') : tSeq t u ⟨n, rt, bk, ct⟩ σ H := first _ rest
theorem r_intI {i : Int} (k : Q (.int i) H) : rIntA [.int i] H Q := .inl ⟨i, rfl, k⟩
theorem r_intB {b : Bool} (k : Q (.int (if b = true then 1 else 0)) H) : rIntA [.bl b] H Q := .inr ⟨b, rfl, k⟩
theorem r_max2 {i j : Int} (k : Q (.int (if j > i then j else i)) H) : rMax2 [.int i, .int j] H Q := ⟨i, j, rfl, k⟩
theorem r_min2 {i j : Int} (k : Q (.int (if j < i then j else i)) H) : rMin2 [.int i, .int j] H Q := ⟨i, j, rfl, k⟩
theorem r_yes {Q : Bool → Hp → Prop} (k : Q true H) : tYes σ H Q := k
end
end J

/-! a list or a tuple walked; comprehensions that leave the heap as it was -/
namespace J
open PySem PySem.Spec PyProof.Rows L2 M

/-- a walk over what stays -/
structure SeqIt (J : It) (xs : List V) (H0 : Hp) : Prop where
  go : ∀ i H, Same H0 H → i < xs.length → J.go i H
  stop : ∀ H, Same H0 H → J.stop xs.length H
  yld : ∀ i H x H', Same H0 H → J.yld i H x H' → H' = H ∧ xs[i]? = some x
theorem _root_.L2.Same.seqL {K : PySem.W.Frag} {H H' : Hp} {a : Addr} {xs : List V} (e : Same H H') (h : SqL K H a xs) : SqL K H' a xs := by
  rcases h with (h | ⟨o, h⟩) | h  -- own
  · exact .inl (.inl (e _ _ h))
  · exact .inl (.inr ⟨o, e _ _ h⟩)  -- own
  · exact .inr h
theorem seqIt_l {K : PySem.W.Frag} {a : Addr} {xs : List V} {H : Hp} (h : SqL K H a xs) : SeqIt (Itl K a) xs H where
  go := fun i H' s hi => ⟨xs, _, s.seqL h, List.getElem?_eq_getElem hi⟩
  stop := fun H' s => ⟨xs, s.seqL h, Nat.le_refl _⟩
  yld := fun i H' x H'' s y => ⟨y.1, y.2 xs (s.seqL h)⟩
theorem seqIt_t {K : PySem.W.Frag} {a : Addr} {xs : List V} {H : Hp} (h : SqT K H a xs) : SeqIt (Itt K a) xs H where
  go := fun i H' s hi => ⟨xs, _, s.seqT h, List.getElem?_eq_getElem hi⟩
  stop := fun H' s => ⟨xs, s.seqT h, Nat.le_refl _⟩
  yld := fun i H' x H'' s y => ⟨y.1, y.2 xs (s.seqT h)⟩
def sgnV (c : Nat) : V := .str ⟨#[c]⟩
theorem seqIt_s {z : Str} {H : Hp} : SeqIt (Its z) ((cd z).map sgnV) H where
  go := fun i H' s hi => by
    have : (cd z).length = z.cps.size := by simp
    rw [List.length_map, this] at hi; exact hi
  stop := fun H' s => by
    have : (cd z).length = z.cps.size := by simp
    rw [List.length_map, this]; exact Nat.le_refl _
  yld := fun i H' x H'' s y => by
    obtain ⟨rfl, c, hc, rfl⟩ := y
    exact ⟨rfl, by rw [List.getElem?_map, cps_at hc]; rfl⟩
theorem SeqIt.mono {J : It} {xs : List V} {H H1 : Hp} (a : SeqIt J xs H) (s : Same H H1) : SeqIt J xs H1 :=
  ⟨fun i H' t hi => a.go i H' (s.trans t) hi, fun H' t => a.stop H' (s.trans t), fun i H' x H'' t y => a.yld i H' x H'' (s.trans t) y⟩
/-- one y for each x, all else as it was -/
theorem comp_same {J : It} {g : TG} {te : TE} {vs : List Nat} {σ : L2.St} {H1 : Hp} {D : Addr} {Z : Hp → Prop} {xs : List V} (SI : SeqIt J xs H1) (hD : H1 D = none) (ys : List V) (hl : ys.length = xs.length) (hs : xs.length < sizeLine)
    (turn : ∀ (i : Nat) (x : V) (H : Hp) (N : V → Hp → Prop), xs[i]? = some x → Same H1 H → (∀ y H4, ys[i]? = some y → Same H H4 → N y H4) → g x (wipe σ vs) H fun σ2 H2 => wipe σ2 vs = wipe σ vs ∧ te σ2 H2 N)
    (fin : ∀ H, Same H1 H → H D = some (.lst ys) → Z H) : CompQ J g tYes te vs σ H1 D Z := by
  refine comp_of xs.length (fun i H => Same H1 H ∧ H D = some (.lst (ys.take i))) ⟨(Same.refl H1).at hD _, by rw [upd_same]; rfl⟩ (fun i H hi w => SI.go i H w.1 hi) (fun H w => SI.stop H w.1) (fun i H x H' hi w y => ?_) (fun H w => ?_)
  · obtain ⟨rfl, hx⟩ := SI.yld i H x H' w.1 y
    exact turn i x H' _ hx w.1 fun y H4 hy s => ⟨_, s _ _ w.2, Nat.lt_of_le_of_lt (by rw [List.length_take]; omega) hs, (w.1.trans s).at hD _, by rw [upd_same, take_snoc hy]⟩
  · have : ys.take xs.length = ys := List.take_of_length_le (Nat.le_of_eq hl)
    rw [this] at w
    exact fin H w.1 w.2
/-- a list or a tuple walked -/
def iSeq (K : PySem.W.Frag) (tl : TE) : TI := fun σ H R => tl σ H fun x H1 => ∃ a xs, x = .ref a ∧ ((SqL K H1 a xs ∧ R (Itl K a) H1) ∨ (SqT K H1 a xs ∧ R (Itt K a) H1))
theorem pi_seq {X : Cx} {tg l : Expr} {tl : TE} (hl : PE X l tl) : PI X tg l (iSeq X.K tl) := by
  refine ⟨fun pins s σ H R I h => ?_⟩  -- own
  refine thn (hl.run pins s σ H _ I h) fun v s1 ⟨x, H1, I1, r1, q1⟩ => ?_  -- own
  obtain ⟨a, xs, e, q⟩ := q1
  subst e
  cases r1
  have low : ∀ b, b ∈ [s1.heap.objs.size] → b = s1.heap.objs.size := fun b hb => by simpa using hb
  rcases q with ⟨hq, q⟩ | ⟨hq, q⟩  -- own
  · obtain ⟨its, rv, p, hz⟩ := I1.list hq
    refine wpAny_pyIter_list p.isList ⟨s1.heap.objs.size, [s1.heap.objs.size], _, _, H1, rfl, I1.kept (t' := s1.toks) fun b o e => Heap.get?_push_of_some _ e, turn_list a _, ⟨_, Heap.get?_push_size _ rfl, rfl, rfl⟩, fun b hb => ?_, q⟩
    rw [low b hb]
    exact I1.fpOk (Nat.le_refl _) (I1.hok.fresh (Nat.le_refl _))  -- own
  · obtain ⟨its, rv, p, hz⟩ := I1.tuple hq
    refine wpAny_pyIter_tuple (show s1.heap.IsTuple a its.toArray from p) ⟨s1.heap.objs.size, [s1.heap.objs.size], _, _, H1, rfl, I1.kept (t' := s1.toks) fun b o e => Heap.get?_push_of_some _ e, turn_tuple a _, ⟨_, Heap.get?_push_size _ rfl, rfl, rfl⟩, fun b hb => ?_, q⟩
    rw [low b hb]
    exact I1.fpOk (Nat.le_refl _) (I1.hok.fresh (Nat.le_refl _))  -- own
theorem asSeq {X : Cx} {K : PySem.W.Frag} {e tg : Expr} {to : TE} (eK : X.K = K) (h : PI X tg e (iSeq X.K to)) : PI X tg e (iSeq K to) := eK ▸ h
section
variable {σ : L2.St} {H : Hp} {Q : VK} {K : PySem.W.Frag}
/-- of a variable -/
theorem r_lcV {i : Nat} {a : Addr} {xs : List V} {te' : TE} {g : TG} {tt : TT} {vs : List Nat} (hv : σ[i]? = some (some (.ref a))) (hs : SqL K H a xs ∨ SqT K H a xs) (k : ∀ J, SeqIt J xs H → ∀ E, H E = none → CompQ J g tt te' vs σ H E fun H => Q (.ref E) H) :
    tLc (iSeq K (tVar i)) g tt te' vs σ H Q := by
  exact ⟨.ref a, hv, a, xs, rfl, hs.elim (fun h => .inl ⟨h, fun E hE => k _ (seqIt_l h) E hE⟩) fun h => .inr ⟨h, fun E hE => k _ (seqIt_t h) E hE⟩⟩
theorem r_iteNT {A B : Prop} (h : B) : if (!true) = true then A else B := h
theorem r_iteNF {A B : Prop} (h : A) : if (!false) = true then A else B := h
theorem r_minL {te : TE} (k : te σ H fun x H1 => ∃ (a : Addr) (ls : List (List Nat)), x = .ref a ∧ SqL K H1 a (ls.map wV) ∧ 0 < ls.length ∧ (∀ l ∈ ls, l.length < 1000000) ∧ ∀ v, FM ls v → Q (.str (S v)) H1) : tMinLen K te σ H Q := k
theorem r_inLT {a z : Str} (c : Nat) (e : cd a = [c]) (k : Q (.bl (!decide (c ∈ cd z))) H) : rInA K true (.str a) (.str z) H Q := by
  obtain rfl : a = ⟨#[c]⟩ := by rw [str_eq, e]
  exact r_inST k
theorem r_inLF {a z : Str} (c : Nat) (e : cd a = [c]) (k : Q (.bl (decide (c ∈ cd z))) H) : rInA K false (.str a) (.str z) H Q := by
  obtain rfl : a = ⟨#[c]⟩ := by rw [str_eq, e]
  exact r_inSF k
end
/-! ### the first of the shortest is there -/
theorem FM_ex {xs : List (List Nat)} (h : 0 < xs.length) : ∃ v, FM xs v := by
  obtain ⟨b1, b2⟩ := argBest_first (fun i => (((xs[i]?.getD []).length : Nat) : Int)) (xs.length - 1)
  have hb : argBest (fun i j => decide ((((xs[i]?.getD []).length : Nat) : Int) < (((xs[j]?.getD []).length : Nat) : Int))) (xs.length - 1) < xs.length := by omega
  refine ⟨_, _, List.getElem?_eq_getElem hb, fun j w hj => ?_⟩
  have lj := (List.getElem?_eq_some_iff.mp hj).1
  have := b2 j (by omega)
  simp only [List.getElem?_eq_getElem hb, hj, Option.getD_some] at this
  exact ⟨by omega, fun q => by have := this.2 q; omega⟩
theorem ways_pos (l : List Nat) : 0 < (ways l).length := by simp only [ways, List.length_append, List.length_cons]; omega
theorem FMs.ex : ∀ ls : List (List Nat), ∃ us, FMs ls us
  | [] => ⟨_, .nil⟩
  | l :: ls => let ⟨_, h⟩ := FM_ex (ways_pos l); let ⟨_, r⟩ := FMs.ex ls; ⟨_, .cons h r⟩
theorem FMs.at : ∀ {ls us : List (List Nat)}, FMs ls us → ∀ {i : Nat} {l v : List Nat}, ls[i]? = some l → FM (M.ways l) v → us[i]? = some v
  | _, _, .cons h r, 0, l, v, e, hv => by
    cases (show some _ = some l from e)
    exact congrArg some (FM.uniq h hv)
  | _, _, .cons h r, i + 1, l, v, e, hv => r.at (i := i) e hv
/-- isinstance of a list or a tuple, by both classes -/
theorem r_isiLT {K : PySem.W.Frag} {H : Hp} {Q : VK} {a p : Addr} {xs : List V} (hs : H a = some (.lst xs) ∨ H a = some (.tup xs)) (hp : H p = some (.tup [V.ty "list", V.ty "tuple"])) (k : Q (.bl true) H) : rIsiT K [.ref a, .ref p] H Q := by
  rcases hs with h | h
  · exact ⟨_, p, _, _, _, true, rfl, hp, .cons (.ty _) (.cons (.ty _) .nil), .base (.lst h), rfl, k⟩
  · exact ⟨_, p, _, _, _, true, rfl, hp, .cons (.ty _) (.cons (.ty _) .nil), .base (.tup h), rfl, k⟩
theorem r_len2 {K : PySem.W.Frag} {H : Hp} {Q : VK} {a : Addr} {xs : List V} (hs : SqL K H a xs ∨ SqT K H a xs) (k : Q (.int (xs.length : Nat)) H) : rLen K [V.ref a] H Q := hs.elim (fun h => r_lenL h k) fun h => r_lenT h k
end J

/-! tuple targets, two stores at once, loops over a text's signs with their numbers -/
namespace J
open PySem PySem.Spec PyProof.Rows L2 M
theorem asGTup {X : Cx} {K : PySem.W.Frag} {tg : Expr} {n : Nat} {t : TGs} (eK : X.K = K) (h : PG X tg (gTup X.K n t)) : PG X tg (gTup K n t) := eK ▸ h
section
variable {σ : L2.St} {H : Hp} {Q : L2.St → Hp → Prop} {K : PySem.W.Frag}
theorem r_gtup {a : Addr} {xs : List V} {n : Nat} {t : TGs} (h : SqT K H a xs) (hn : xs.length = n) (k : t xs σ H Q) : gTup K n t (.ref a) σ H Q := ⟨a, xs, rfl, h, hn, k⟩
theorem r_gcons {v : V} {r : List V} {t : TG} {u : TGs} (k : t v σ H fun σ' H' => u r σ' H' Q) : gCons t u (v :: r) σ H Q := ⟨v, r, rfl, k⟩
theorem r_gnil (k : Q σ H) : gNil [] σ H Q := ⟨rfl, k⟩
theorem r_par {i j : Nat} {ta : TA} {n : L2.St → Hp → Prop} {rt : VK} {bk ct : L2.St → Hp → Prop} (k : ta σ H fun vs H1 => ∃ v w, vs = [v, w] ∧ n ((σ.set i (some v)).set j (some w)) H1) : tPar i j ta ⟨n, rt, bk, ct⟩ σ H := k
theorem r_is2 {v w : V} {P : V → V → Prop} (k : P v w) : ∃ v' w', [v, w] = [v', w'] ∧ P v' w' := ⟨v, w, rfl, k⟩
theorem r_par3 {i j l : Nat} {ta : TA} {n : L2.St → Hp → Prop} {rt : VK} {bk ct : L2.St → Hp → Prop} (k : ta σ H fun vs H1 => ∃ u v w, vs = [u, v, w] ∧ n (((σ.set i (some u)).set j (some v)).set l (some w)) H1) : tPar3 i j l ta ⟨n, rt, bk, ct⟩ σ H := k
theorem r_is3 {u v w : V} {P : V → V → V → Prop} (k : P u v w) : ∃ u' v' w', [u, v, w] = [u', v', w'] ∧ P u' v' w' := ⟨u, v, w, rfl, k⟩
/-- for i, c in enumerate(text): an invariant over the number of signs walked -/
theorem r_forEnum {z : Str} {i : Nat} {g : TG} {tb : TS} {n : L2.St → Hp → Prop} {rt : VK} {bk ct : L2.St → Hp → Prop} (hv : σ[i]? = some (some (.str z))) (I : Nat → L2.St → Hp → Prop) (start : I 0 σ H)
    (turn : ∀ (j : Nat) σ1 H1 (T : Addr) (c : Nat), (cd z)[j]? = some c → I j σ1 H1 → H1 T = none → g (.ref T) σ1 (upd H1 T (.tup [.int (j : Nat), .str ⟨#[c]⟩])) fun σ2 H2 => tb ⟨I (j + 1), rt, n, I (j + 1)⟩ σ2 H2)
    (fin : ∀ σ1 H1, I (cd z).length σ1 H1 → n σ1 H1) : tFor (iEnumS (tCons (tVar i) tNil)) g tb ⟨n, rt, bk, ct⟩ σ H := by
  have e : (cd z).length = z.cps.size := by simp
  refine ⟨.str z, hv, z, rfl, ?_⟩
  exact loop_of (D := ⟨n, rt, bk, ct⟩) z.cps.size I start (fun j _ _ hj _ => hj) (fun _ _ _ => rfl) (fun j σ1 H1 x H' hj w y => by
    obtain ⟨T, c, rfl, hT, rfl, hc⟩ := y
    exact turn j σ1 H1 T c (cps_at hc) w hT) (fun σ1 H1 w => fin σ1 H1 (by rw [e]; exact w))
end
end J

/-! single signs and quotes compared -/
namespace J
open PySem PySem.Spec PyProof.Rows L2 M
def qS (q : Nat) : Str := if q = 0 then S [] else S [q]
theorem one_eq {b : Str} {c d : Nat} (h : cd b = [d]) : (⟨#[c]⟩ : Str) = b ↔ c = d := by
  rw [str_eq, h]; show [c] = [d] ↔ _; simp
theorem qS_cd (q : Nat) : cd (qS q) = if q = 0 then [] else [q] := by unfold qS; split <;> exact cd_S _
theorem one_nl {c : Nat} : (⟨#[c]⟩ : Str) = Str.ofString "\n" ↔ c = 10 := one_eq l_nl
theorem one_bs {c : Nat} : (⟨#[c]⟩ : Str) = Str.ofString "\\" ↔ c = 92 := one_eq l_bs
theorem one_q1 {c : Nat} : (⟨#[c]⟩ : Str) = Str.ofString "'" ↔ c = 39 := one_eq l_q1
theorem one_q2 {c : Nat} : (⟨#[c]⟩ : Str) = Str.ofString "\"" ↔ c = 34 := one_eq l_q2
theorem qS_nil {q : Nat} : qS q = Str.ofString "" ↔ q = 0 := by
  rw [str_eq, qS_cd, show cd (Str.ofString "") = [] from l_nil]; split <;> simp_all
theorem qS_q1 {q : Nat} : qS q = Str.ofString "'" ↔ q = 39 := by
  rw [str_eq, qS_cd, show cd (Str.ofString "'") = [39] from l_q1]; split <;> simp_all
theorem one_qS {c q : Nat} : (⟨#[c]⟩ : Str) = qS q ↔ c = q ∧ q ≠ 0 := by
  rw [str_eq, qS_cd]; show [c] = _ ↔ _; split <;> simp_all
theorem mem_part {c : Nat} : c ∈ (Str.ofString " \n").cps.toList ↔ c = 32 ∨ c = 10 := by rw [l_part]; simp
theorem mem_qs {c : Nat} : c ∈ (Str.ofString "'\"").cps.toList ↔ c = 39 ∨ c = 34 := by rw [l_qs]; simp
theorem mem_all {c : Nat} : c ∈ (Str.ofString " \n'\"\\").cps.toList ↔ c = 32 ∨ c = 10 ∨ c = 39 ∨ c = 34 ∨ c = 92 := by rw [l_all]; simp
theorem iteDT {p : Prop} {i : Decidable p} {A B : Prop} (h : p) (k : A) : if decide p = true then A else B := by rw [if_pos (decide_eq_true h)]; exact k
theorem iteDF {p : Prop} {i : Decidable p} {A B : Prop} (h : ¬ p) (k : B) : if decide p = true then A else B := by rw [if_neg (by rw [decide_eq_false h]; exact Bool.false_ne_true)]; exact k
theorem iteNT {p : Prop} {i : Decidable p} {A B : Prop} (h : ¬ p) (k : A) : if (!decide p) = true then A else B := by rw [if_pos (by rw [decide_eq_false h]; rfl)]; exact k
theorem iteNF {p : Prop} {i : Decidable p} {A B : Prop} (h : p) (k : B) : if (!decide p) = true then A else B := by rw [if_neg (by rw [decide_eq_true h]; exact Bool.false_ne_true)]; exact k
section
variable {σ : L2.St} {H : Hp} {Q : VK} {K : PySem.W.Frag}
theorem r_inQ {a : Addr} {c : Nat} (h : SqT K H a [.str "'", .str "\""]) (k : Q (.bl (decide (c = 39 ∨ c = 34))) H) : rInA K false (.str ⟨#[c]⟩) (.ref a) H Q := by
  refine .inr ⟨a, _, rfl, .inr h, rfl, rfl, ?_⟩
  have e : inV (V.str ⟨#[c]⟩) [.str "'", .str "\""] = decide (c = 39 ∨ c = 34) := by
    unfold inV
    simp only [List.any_cons, List.any_nil, Bool.or_false]
    have e1 : eqV (V.str (Str.ofString "'")) (V.str ⟨#[c]⟩) = decide (c = 39) := by
      show decide (Str.ofString "'" = ⟨#[c]⟩) = _
      exact decide_eq_decide.mpr (eq_comm.trans one_q1)
    have e2 : eqV (V.str (Str.ofString "\"")) (V.str ⟨#[c]⟩) = decide (c = 34) := by
      show decide (Str.ofString "\"" = ⟨#[c]⟩) = _
      exact decide_eq_decide.mpr (eq_comm.trans one_q2)
    rw [e1, e2]
    exact (Bool.decide_or _ _).symm
  rw [e]
  exact k
end
theorem scan_inv {st : Sc → Nat → Nat → Except Nat Sc} (Pr : Sc → Prop) (h : ∀ s i c t, Pr s → st s i c = .ok t → Pr t) : ∀ (l : List Nat) (i : Nat) (s t : Sc), Pr s → scan st i s l = .ok t → Pr t
  | [], _, s, t, p, e => by cases e; exact p
  | c :: l, i, s, t, p, e => by
    unfold M.scan at e
    cases hs : st s i c with
    | error x => rw [hs] at e; cases e
    | ok u => rw [hs] at e; exact scan_inv Pr h l (i + 1) u t (h s i c u p hs) e
theorem stP_bg {s t : Sc} {i c : Nat} (p : (s.bg.getD []).length ≤ 40) (e : stP s i c = .ok t) : (t.bg.getD []).length ≤ 40 := by
  unfold stP at e
  repeat' split at e
  all_goals first
    | cases e; done
    | (cases e; first | exact p | (simp only [Option.getD_some]; omega) | (simp only [Option.getD_some]; exact p) | exact Nat.zero_le _)
theorem scan_bg {l : List Nat} {t : Sc} (h : scan stP 0 sc0 l = .ok t) : (t.bg.getD []).length ≤ 40 := scan_inv (fun s => (s.bg.getD []).length ≤ 40) (fun _ _ _ _ p e => stP_bg p e) l 0 sc0 t (Nat.zero_le _) h
end J

/-! ranges; texts of drawn signs; the law's states -/
namespace J
open PySem PySem.Spec PyProof.Rows L2 M
theorem Keep.at {b D : Addr} {H H' : Hp} (k : Keep b H H') (n : H D = none) (o : HO) : Keep b H (L2.upd H' D o) := fun q u hq ne => by rw [upd_ne (ne_of_none hq n)]; exact k q u hq ne
theorem Bx.at {b D : Addr} {H : Hp} {n : Nat} (h : Bx H b n) (ne : D ≠ b) (o : HO) : Bx (upd H D o) b n := by
  obtain ⟨x, y, z, e, r⟩ := h
  exact ⟨x, y, z, by rw [upd_ne ne.symm]; exact e, r⟩
theorem Bx.ne {b p : Addr} {H : Hp} {n : Nat} (h : Bx H b n) (hp : H p = none) : p ≠ b := by
  obtain ⟨_, _, _, e, _⟩ := h
  exact new_ne hp e
section
variable {σ : L2.St} {H : Hp} {Q : VK} {K : PySem.W.Frag}
theorem r_lcR {i q : Nat} {te' : TE} {g : TG} {tt : TT} {vs : List Nat} (hv : σ[i]? = some (some (.int (q : Nat)))) (hq : q < 2 ^ 62) (k : ∀ E, H E = none → CompQ (Itr 0 q) g tt te' vs σ H E fun H => Q (.ref E) H) : tLc (iRng1 (tCons (tVar i) tNil)) g tt te' vs σ H Q := by
  refine ⟨_, hv, q, rfl, by omega, by omega, ?_⟩
  rw [Int.toNat_natCast]
  exact k
theorem r_forR {n' : L2.St → Hp → Prop} {rt : VK} {bk ct : L2.St → Hp → Prop} {q : Nat} {g : TG} {tb : TS} (hq : q < 2 ^ 62) (I : Nat → L2.St → Hp → Prop) (start : I 0 σ H)
    (turn : ∀ (j : Nat) σ1 H1, j < q → I j σ1 H1 → g (.int (j : Nat)) σ1 H1 fun σ2 H2 => tb ⟨I (j + 1), rt, n', I (j + 1)⟩ σ2 H2)
    (fin : ∀ σ1 H1, I q σ1 H1 → n' σ1 H1) : tFor (iRng1 (tCons (tC (.int (q : Nat))) tNil)) g tb ⟨n', rt, bk, ct⟩ σ H := by
  refine ⟨q, rfl, by omega, by omega, ?_⟩
  rw [Int.toNat_natCast]
  exact loop_of (D := ⟨n', rt, bk, ct⟩) q I start (fun j _ _ hj _ => hj) (fun _ _ _ => Nat.le_refl _) (fun j σ1 H1 x H' hj w y => by
    obtain ⟨rfl, rfl⟩ := y
    have e : (0 + (j : Nat) : Int) = (j : Nat) := by omega
    rw [e]
    exact turn j σ1 H' hj w) fin
theorem map_sgn (l : List Nat) : l.map sgnV = (l.map fun c => [c]).map wV := by rw [List.map_map]; rfl
theorem flat_one (l : List Nat) : (l.map fun c => [c]).flatten = l := by
  induction l with
  | nil => rfl
  | cons c l ih => rw [List.map_cons, List.flatten_cons, ih]; rfl
/-- signs joined by nothing -/
theorem r_joinC {p : Addr} {l : List Nat} (h : H p = some (.lst (l.map sgnV))) (hl : l.length ≤ 1000000) (k : Q (.str (S l)) H) : rJoin K (.str (Str.ofString "")) [.ref p] H Q := by
  refine r_join (ls := l.map fun c => [c]) (SqL.of (by rw [← map_sgn]; exact h)) 1 (fun v hv => ?_) ?_ ?_
  · obtain ⟨c, _, rfl⟩ := List.mem_map.mp hv
    exact Nat.le_refl _
  · have : (Str.ofString "").length = 0 := rfl
    rw [List.length_map, this]; omega
  · rw [_root_.J.join_nil, flat_one]
    exact k
end
end J

/-! lists of words compared; comprehensions that leave out -/
namespace J
open PySem PySem.Spec PyProof.Rows L2 M
/-- what is left, each x by f -/
theorem comp_filt {J : It} {g : TG} {tt : TT} {te : TE} {vs : List Nat} {σ : L2.St} {H1 : Hp} {D : Addr} {Z : Hp → Prop} {xs : List V} (SI : SeqIt J xs H1) (hD : H1 D = none) (f : V → Option V) (hs : xs.length < sizeLine)
    (turn : ∀ (i : Nat) (x : V) (H : Hp) (N : V → Hp → Prop) (N0 : Hp → Prop), xs[i]? = some x → Same H1 H → (∀ y H4, f x = some y → Same H H4 → N y H4) → (∀ H4, f x = none → Same H H4 → N0 H4) →
      g x (wipe σ vs) H fun σ2 H2 => wipe σ2 vs = wipe σ vs ∧ tt σ2 H2 fun b H3 => if b = true then te σ2 H3 N else N0 H3)
    (fin : ∀ H, Same H1 H → H D = some (.lst (xs.filterMap f)) → Z H) : CompQ J g tt te vs σ H1 D Z := by
  refine comp_of xs.length (fun i H => Same H1 H ∧ H D = some (.lst ((xs.take i).filterMap f))) ⟨(Same.refl H1).at hD _, by rw [upd_same]; rfl⟩ (fun i H hi w => SI.go i H w.1 hi) (fun H w => SI.stop H w.1) (fun i H x H' hi w y => ?_) (fun H w => ?_)
  · obtain ⟨rfl, hx⟩ := SI.yld i H x H' w.1 y
    refine turn i x H' _ _ hx w.1 (fun y H4 hy s => ⟨_, s _ _ w.2, ?_, (w.1.trans s).at hD _, ?_⟩) fun H4 hn s => ⟨w.1.trans s, ?_⟩
    · exact Nat.lt_of_le_of_lt (Nat.le_trans (List.length_filterMap_le ..) (by rw [List.length_take]; omega)) hs
    · rw [upd_same, take_snoc hx, List.filterMap_append]; simp [hy]
    · rw [s _ _ w.2, take_snoc hx, List.filterMap_append]; simp [hn]
  · have : xs.take xs.length = xs := List.take_of_length_le (Nat.le_refl _)
    rw [this] at w
    exact fin H w.1 w.2
def dW (l : List Nat) : PyData := .str (S l)
def dWs (ls : List (List Nat)) : PyData := .list (ls.map dW)
theorem dp_all {K : PySem.W.Frag} {H : Hp} : ∀ ls : List (List Nat), DpAll K H (ls.map wV) (ls.map dW)
  | [] => .nil
  | l :: ls => .cons (.str _) (dp_all ls)
theorem dp_ws {K : PySem.W.Frag} {H : Hp} {a : Addr} {ls : List (List Nat)} (h : SqL K H a (ls.map wV)) : Dp K H (.ref a) (dWs ls) := .lst h (dp_all ls)
theorem can_w {l : List Nat} (h : ∀ c ∈ l, c ≤ 126) : PyData.canLay0 (dW l) = true := by
  show (S l).cps.all _ = true
  rw [Array.all_eq_true']
  intro x hx
  have : x ∈ l := by rw [← S_cps l]; exact Array.mem_toList_iff.mpr hx
  have := h x this
  simp; omega
theorem can_ws : ∀ {ls : List (List Nat)}, (∀ l ∈ ls, ∀ c ∈ l, c ≤ 126) → PyData.canLayAll0 (ls.map dW) = true
  | [], _ => rfl
  | l :: ls, h => by
    show (PyData.canLay0 (dW l) && PyData.canLayAll0 (ls.map dW)) = true
    rw [can_w (h l (List.mem_cons_self ..)), can_ws fun m hm => h m (List.mem_cons_of_mem _ hm)]; rfl
theorem dep_ws : ∀ ls : List (List Nat), PyData.depthAll (ls.map dW) = 0
  | [] => rfl
  | l :: ls => by
    show max 0 (PyData.depthAll (ls.map dW)) = 0
    rw [dep_ws ls]; rfl
theorem sh_ws {ls : List (List Nat)} (h : ∀ l ∈ ls, ∀ c ∈ l, c ≤ 126) : SeqAt.shaped (dWs ls) = true := by
  show (PyData.canLayAll0 (ls.map dW) && decide (PyData.depthAll (ls.map dW) + 1 ≤ 64)) = true
  rw [can_ws h, dep_ws]; rfl
/-- ['told', words] -/
theorem sh_two {t : Str} {ls : List (List Nat)} (ht : ∀ c ∈ cd t, c ≤ 126) (h : ∀ l ∈ ls, ∀ c ∈ l, c ≤ 126) : SeqAt.shaped (.list [.str t, dWs ls]) = true := by
  have e : PyData.canLay0 (.str t) = true := by
    have := can_w ht
    rwa [show dW (cd t) = .str t from congrArg PyData.str (S_of t)] at this
  show (PyData.canLay0 (.str t) && (PyData.canLayAll0 (ls.map dW) && true) && decide (max 0 (max (PyData.depthAll (ls.map dW) + 1) 0) + 1 ≤ 64)) = true
  rw [e, can_ws h, dep_ws]; rfl
theorem wd126 {ls : List (List Nat)} (h : ∀ l ∈ ls, Wd l) : ∀ l ∈ ls, ∀ c ∈ l, c ≤ 126 := fun l hl c hc => ((h l hl).2 c hc).2
section
variable {H : Hp} {Q : VK} {K : PySem.W.Frag}
/-- two lists of the same words -/
theorem r_neWs {a b : Addr} {ls : List (List Nat)} (ha : SqL K H a (ls.map wV)) (hb : SqL K H b (ls.map wV)) (h : ∀ l ∈ ls, ∀ c ∈ l, c ≤ 126) (k : Q (.bl false) H) : rNeA K (.ref a) (.ref b) H Q := by
  refine .inr ⟨dWs ls, dWs ls, dp_ws ha, dp_ws hb, sh_ws h, sh_ws h, ?_⟩
  rw [SeqAt.eqv_refl _ (SeqAt.canLay_of_shaped (sh_ws h))]
  exact k
theorem r_neTwo {a b a1 b1 : Addr} {t : Str} {ls : List (List Nat)} (ha : SqL K H a [.str t, .ref a1]) (ha1 : SqL K H a1 (ls.map wV)) (hb : SqL K H b [.str t, .ref b1]) (hb1 : SqL K H b1 (ls.map wV)) (ht : ∀ c ∈ cd t, c ≤ 126) (h : ∀ l ∈ ls, ∀ c ∈ l, c ≤ 126) (k : Q (.bl false) H) : rNeA K (.ref a) (.ref b) H Q := by
  refine .inr ⟨.list [.str t, dWs ls], .list [.str t, dWs ls], .lst ha (.cons (.str _) (.cons (dp_ws ha1) .nil)), .lst hb (.cons (.str _) (.cons (dp_ws hb1) .nil)), sh_two ht h, sh_two ht h, ?_⟩
  rw [SeqAt.eqv_refl _ (SeqAt.canLay_of_shaped (sh_two ht h))]
  exact k
/-- a list of words and the empty one -/
theorem r_eqNil {a b : Addr} {ls : List (List Nat)} (ha : SqL K H a (ls.map wV)) (hb : SqL K H b []) (h : ∀ l ∈ ls, ∀ c ∈ l, c ≤ 126) (k : Q (.bl (decide (ls = []))) H) : rEqA K (.ref a) (.ref b) H Q := by
  refine .inr ⟨dWs ls, dWs [], dp_ws ha, dp_ws hb, sh_ws h, sh_ws (fun _ h => (List.not_mem_nil h).elim), ?_⟩
  have e : PyData.eqv (dWs ls) (dWs []) = decide (ls = []) := by cases ls <;> rfl
  rw [e]
  exact k
end
theorem mul_0 {z : Str} : MulOk z 0 ∧ Txt.mul z 0 = Str.ofString "" := ⟨⟨by decide, fun h => absurd (by decide) h, fun h => absurd (by decide) h⟩, rfl⟩
theorem mul_1 {z : Str} : MulOk z 1 ∧ Txt.mul z 1 = z := ⟨⟨by decide, fun _ h => by simp at h, fun _ h => by simp at h⟩, rfl⟩
section
variable {σ : L2.St} {H : Hp} {Q : VK} {K : PySem.W.Frag}
theorem r_lcLV {i : Nat} {a : Addr} {xs : List V} {te' : TE} {g : TG} {tt : TT} {vs : List Nat} (hv : σ[i]? = some (some (.ref a))) (h : SqL K H a xs) (k : ∀ E, H E = none → CompQ (Itl K a) g tt te' vs σ H E fun H => Q (.ref E) H) :
    tLc (iList K (tVar i)) g tt te' vs σ H Q := ⟨.ref a, hv, a, rfl, ⟨xs, h⟩, k⟩
end
/-- the first of the length that is the least -/
theorem FM_first (m : Nat) : ∀ xs : List (List Nat), (∃ x ∈ xs, x.length = m) → (∀ x ∈ xs, m ≤ x.length) → ∃ v, (xs.filter fun x => decide (x.length = m))[0]? = some v ∧ v.length = m ∧ FM xs v
  | [], ⟨x, h, _⟩, _ => (List.not_mem_nil h).elim
  | x :: r, ⟨y, hy, ey⟩, h => by
    by_cases c : x.length = m
    · refine ⟨x, by rw [List.filter_cons_of_pos (by simp [c])]; rfl, c, 0, rfl, fun j w hw => ⟨by rw [c]; exact h w (List.mem_of_getElem? hw), fun q => absurd q (Nat.not_lt_zero _)⟩⟩
    · obtain ⟨v, h1, h2, i, hi, hm⟩ := FM_first m r ⟨y, (List.mem_cons.mp hy).resolve_left fun e => c (by rw [← e]; exact ey), ey⟩ fun z hz => h z (List.mem_cons_of_mem _ hz)
      have hx := h x (List.mem_cons_self ..)
      refine ⟨v, by rw [List.filter_cons_of_neg (by simp [c])]; exact h1, h2, i + 1, hi, fun j w hw => ?_⟩
      cases j with
      | zero =>
        cases (show some x = some w from hw)
        exact ⟨by omega, fun _ => by omega⟩  -- own
      | succ j =>
        obtain ⟨a, b⟩ := hm j w hw
        exact ⟨a, fun q => b (by omega)⟩
def kpS (need : List Nat) (v : V) : Option V := if v ∈ need.map sgnV then some v else none
def kpL (m : Nat) : V → Option V
  | .str z => if z.length = m then some (.str z) else none
  | _ => none
theorem mem_sgn {need : List Nat} {c : Nat} : sgnV c ∈ need.map sgnV ↔ c ∈ need := by
  rw [List.mem_map]
  exact ⟨fun ⟨d, hd, q⟩ => by
    have : d = c := by simpa [sgnV] using q
    rw [← this]; exact hd, fun h => ⟨c, h, rfl⟩⟩
theorem kpS_pos {need : List Nat} {c : Nat} (h : c ∈ need) : kpS need (.str ⟨#[c]⟩) = some (.str ⟨#[c]⟩) := if_pos (mem_sgn.mpr h)
theorem kpS_neg {need : List Nat} {c : Nat} (h : c ∉ need) : kpS need (.str ⟨#[c]⟩) = none := if_neg fun q => h (mem_sgn.mp q)
theorem filt_sgn (need : List Nat) : ∀ l : List Nat, (l.map sgnV).filterMap (kpS need) = (l.filter fun c => decide (c ∈ need)).map sgnV
  | [] => rfl
  | c :: l => by
    rw [List.map_cons, List.filterMap_cons, filt_sgn need l]
    by_cases q : c ∈ need
    · rw [show kpS need (sgnV c) = some (sgnV c) from kpS_pos q, List.filter_cons_of_pos (by simp [q])]; rfl
    · rw [show kpS need (sgnV c) = none from kpS_neg q, List.filter_cons_of_neg (by simp [q])]
theorem kpL_pos {m : Nat} {l : List Nat} (h : l.length = m) : kpL m (.str (S l)) = some (.str (S l)) := if_pos (by rw [S_len]; exact h)
theorem kpL_neg {m : Nat} {l : List Nat} (h : l.length ≠ m) : kpL m (.str (S l)) = none := if_neg (by rw [S_len]; exact h)
theorem filt_len (m : Nat) : ∀ ls : List (List Nat), (ls.map wV).filterMap (kpL m) = (ls.filter fun x => decide (x.length = m)).map wV
  | [] => rfl
  | l :: ls => by
    have e : kpL m (wV l) = if l.length = m then some (wV l) else none := by
      show (if (S l).length = m then some (wV l) else none) = _
      rw [S_len]
    rw [List.map_cons, List.filterMap_cons, filt_len m ls, e]
    by_cases q : l.length = m
    · rw [if_pos q, List.filter_cons_of_pos (by simp [q])]; rfl
    · rw [if_neg q, List.filter_cons_of_neg (by simp [q])]
/-- what the law lays ahead -/
def plainW (l : List Nat) : List (List Nat) := if l ≠ [] ∧ (l.filter fun c => decide (c ∈ N1)) = [] then [l] else []
theorem FM_plain {l v : List Nat} (h : FM (plainW l ++ ways l) v) : FM (ways l) v := by
  unfold plainW at h
  split at h
  · rename_i c
    refine FM.cons ?_ h
    have : esc N1 l = l := esc_none fun d hd hn => by
      have : d ∈ l.filter fun c => decide (c ∈ N1) := List.mem_filter.mpr ⟨hd, by simp [hn]⟩
      rw [c.2] at this
      exact List.not_mem_nil this
    unfold ways
    rw [if_neg c.1, this]; rfl
  · exact h
end J

/-! small dicts; tests whose outcome is known; the law's state -/
namespace J
open PySem PySem.Spec PyProof.Rows L2 M
def stD (wd : Addr) (t : Sc) : List (Key × V) := [(.inr "bad", .non), (.inr "words", .ref wd), (.inr "begun", obV t.bg), (.inr "quote", .str (qS t.qt)), (.inr "opened", .int (t.op : Nat))]
theorem merge_st (wd : Addr) (t : Sc) : mergeK [] (stD wd t) = stD wd t := by
  unfold stD mergeK
  simp only [List.foldl_cons, List.foldl_nil]
  rfl
theorem get_bad (wd : Addr) (t : Sc) : valV (stD wd t) (.inr "bad") = some .non := rfl
theorem get_words (wd : Addr) (t : Sc) : valV (stD wd t) (.inr "words") = some (.ref wd) := rfl
theorem get_begun (wd : Addr) (t : Sc) : valV (stD wd t) (.inr "begun") = some (obV t.bg) := rfl
theorem get_quote (wd : Addr) (t : Sc) : valV (stD wd t) (.inr "quote") = some (.str (qS t.qt)) := rfl
/-- the law's looks at a line that can be cut -/
def spState : Sp := fun vs H Q _ => ∃ (z : Str) (t : Sc), vs = [.str z] ∧ Ln (cd z) ∧ M.scan stL 0 sc0 (cd z) = .ok t ∧ t.tk = false ∧ t.ws.length ≤ 2000 ∧
  ∀ (p wd : Addr) (H' : Hp), H p = none → Same H H' → H' p = some (.dK (stD wd t)) → H' wd = some (.lst (t.ws.map wV)) → Q (.ref p) H'
def spDue : Sp := fun vs H Q _ => ∃ (z : Str) (t : Sc), vs = [.str z] ∧ Ln (cd z) ∧ M.scan stL 0 sc0 (cd z) = .ok t ∧ t.tk = false ∧ t.qt = 0 ∧ (fin t).length ≤ 40 ∧
  ∀ (p wd : Addr) (H' : Hp), Same H H' → H' p = some (.lst [.str "told", .ref wd]) → H' wd = some (.lst ((fin t).map wV)) → Q (.ref p) H'
section
variable {σ : L2.St} {H : Hp} {Q : VK} {K : PySem.W.Frag} {D : Ends}
theorem r_ifK {c : TT} {t u : TS} (b : Bool) (h : ∀ N : Bool → Hp → Prop, N b H → c σ H N) (k1 : b = true → t D σ H) (k2 : b = false → u D σ H) : tIfS c t u D σ H := h _ (by
  cases b
  · exact k2 rfl
  · exact k1 rfl)
theorem r_pairs {tk tv : TE} {r : List (TE × TE)} {Q : List (V × V) → Hp → Prop} (k : tk σ H fun x H1 => tv σ H1 fun y H2 => tPairs r σ H2 fun ps H3 => Q ((x, y) :: ps) H3) : tPairs ((tk, tv) :: r) σ H Q := k
theorem r_pairs0 {Q : List (V × V) → Hp → Prop} (k : Q [] H) : tPairs [] σ H Q := k
theorem r_dget {td ty : TE} (k : td σ H fun x H1 => ty σ H1 fun y H2 => ∃ a v, x = .ref a ∧ DGet H2 a y (some v) ∧ Q v H2) : tDGet td ty σ H Q := k
theorem r_dgetK {p : Addr} {kvs : List (Key × V)} {k : Str} {v : V} {Q : V → Prop} (h : H p = some (.dK kvs)) (e : valV kvs (.inr k) = some v) (q : Q v) : ∃ a v', V.ref p = .ref a ∧ DGet H a (.str k) (some v') ∧ Q v' := ⟨p, v, rfl, .inl ⟨kvs, .inr k, .inl h, rfl, e.symm⟩, q⟩
theorem r_rep {l : Addr} {xs : List V} {b : Bool} (h : H l = some (.lst xs)) (hx : xs.length ≤ 1000) (k : ∀ p, H p = none → Q (.ref p) (upd H p (.lst (if b = true then xs else [])))) : J.rMul (.ref l) (.int (if b = true then 1 else 0)) H Q := by
  refine .inr (.inr ⟨l, _, xs, rfl, rfl, h, ?_, ?_, ?_, fun p hp => ?_⟩)
  · cases b <;> decide
  · cases b <;> decide
  · cases b
    · exact Nat.zero_le _
    · exact Nat.le_trans (show xs.length * 1 ≤ 1000 by omega) (by decide)
  · have := k p hp
    cases b
    · exact this
    · simpa using this
theorem r_cat {l m : Addr} {xs ys : List V} (h : H l = some (.lst xs)) (g : H m = some (.lst ys)) (hx : xs.length + ys.length ≤ 16777216) (k : ∀ p, H p = none → Q (.ref p) (upd H p (.lst (xs ++ ys)))) : J.rAdd K (.ref l) (.ref m) H Q := .inr (.inr (.inl ⟨l, m, xs, ys, rfl, rfl, h, g, hx, k⟩))
end
theorem stL_bg {s t : Sc} {i c : Nat} (p : (s.bg.getD []).length ≤ 40) (e : stL s i c = .ok t) : (t.bg.getD []).length ≤ 40 := by
  unfold stL at e
  repeat' split at e
  all_goals first
    | cases e; done
    | (cases e; first | exact p | (simp only [Option.getD_some]; omega) | (simp only [Option.getD_some]; exact p) | exact Nat.zero_le _)
theorem scanL_bg {l : List Nat} {t : Sc} (h : M.scan stL 0 sc0 l = .ok t) : (t.bg.getD []).length ≤ 40 := scan_inv (fun s => (s.bg.getD []).length ≤ 40) (fun _ _ _ _ p e => stL_bg p e) l 0 sc0 t (Nat.zero_le _) h
end J

/-! loops over lists; small repeated texts; lines that are cut to what was quoted -/
namespace J
open PySem PySem.Spec PyProof.Rows L2 M
theorem _root_.L2.Same.keep {b : Addr} {H0 H1 H2 : Hp} (s : Same H0 H1) (n : H0 b = none) (k : Keep b H1 H2) : Same H0 H2 := fun a o h => k a o (s a o h) (ne_of_none h n)
theorem _root_.L2.Same.none {H0 H1 : Hp} {b : Addr} (s : Same H0 H1) (n : H1 b = none) : H0 b = none := by
  cases q : H0 b with
  | none => rfl
  | some o => rw [s _ _ q] at n; cases n
section
variable {σ : L2.St} {H : Hp} {Q : VK} {K : PySem.W.Frag} {D : Ends}
theorem r_for {wi : TI} {g : TG} {tb : TS} (k : wi σ H fun J H1 => LoopQ J g tb D σ H1) : tFor wi g tb D σ H := k
theorem r_ilist {te : TE} {R : It → Hp → Prop} (k : te σ H fun x H1 => ∃ a, x = .ref a ∧ (∃ xs, SqL K H1 a xs) ∧ R (Itl K a) H1) : iList K te σ H R := k
theorem r_isRL {a : Addr} {xs : List V} {H : Hp} {P : Addr → Prop} (h : SqL K H a xs) (k : P a) : ∃ b, V.ref a = .ref b ∧ (∃ xs, SqL K H b xs) ∧ P b := ⟨a, rfl, ⟨xs, h⟩, k⟩
theorem loop_seq {J : It} {g : TG} {tb : TS} {n' : L2.St → Hp → Prop} {rt : VK} {bk ct : L2.St → Hp → Prop} {xs : List V} {H0 : Hp} (SI : SeqIt J xs H0) (I : Nat → L2.St → Hp → Prop) (keep : ∀ i σ H, I i σ H → Same H0 H) (start : I 0 σ H)
    (turn : ∀ (i : Nat) (x : V) σ1 H1, xs[i]? = some x → I i σ1 H1 → g x σ1 H1 fun σ2 H2 => tb ⟨I (i + 1), rt, n', I (i + 1)⟩ σ2 H2)
    (fin : ∀ σ1 H1, I xs.length σ1 H1 → n' σ1 H1) : LoopQ J g tb ⟨n', rt, bk, ct⟩ σ H :=
  loop_of (D := ⟨n', rt, bk, ct⟩) xs.length I start (fun i σ H hi w => SI.go i H (keep i σ H w) hi) (fun σ H w => SI.stop H (keep _ σ H w)) (fun i σ1 H1 x H' hi w y => by
    obtain ⟨rfl, hx⟩ := SI.yld i H1 x H' (keep i σ1 H1 w) y
    exact turn i x σ1 H' hx w) fin
end
theorem mul_rep (z : Str) (c : Nat) (h : cd z = [c]) (h0 : z.length = 1) (k : Int) (a : 0 ≤ k) (b : k < 4) : MulOk z k ∧ Txt.mul z k = S (List.replicate k.toNat c) := by
  have hz : z = S [c] := by rw [str_eq, h, cd_S]
  rcases (show k = 0 ∨ k = 1 ∨ k = 2 ∨ k = 3 by omega) with rfl | rfl | rfl | rfl
  · exact ⟨mul_0.1, mul_0.2.trans (by rw [str_eq, cd_S]; exact l_nil)⟩
  · exact ⟨mul_1.1, mul_1.2.trans hz⟩
  · refine ⟨⟨by decide, fun _ _ => by rw [h0]; decide, fun _ _ => by rw [h0]; decide⟩, ?_⟩
    subst hz; rfl
  · refine ⟨⟨by decide, fun _ _ => by rw [h0]; decide, fun _ _ => by rw [h0]; decide⟩, ?_⟩
    subst hz; rfl
/-- a written word is cut to it -/
theorem cut_way {l v : List Nat} (w : Wd l) (hv : v ∈ ways l) : Ln v ∧ ∃ t, M.scan stP 0 sc0 v = .ok t ∧ M.scan stL 0 sc0 v = .ok t ∧ t.tk = false ∧ t.qt = 0 ∧ fin t = [l] := by
  obtain ⟨h1, h2⟩ := way_len w hv
  obtain ⟨o, e⟩ := scan_way w hv 0 [] 0
  have q := scan_eq v 0 sc0 ⟨.inl rfl, fun h => by cases h⟩ fun c hc => by have := h2 c hc; omega
  rw [show M.scan stP 0 sc0 v = _ from e] at q
  exact ⟨⟨Nat.le_trans h1 (by decide), h2⟩, _, e, q.1, rfl, rfl, rfl⟩
theorem last_app {α : Type} : ∀ ls : List α, ls.dropLast ++ ls.getLast?.toList = ls
  | [] => rfl
  | [x] => rfl
  | x :: y :: r => by
    have := last_app (y :: r)
    rw [List.dropLast_cons₂, List.getLast?_cons_cons, List.cons_append, this]
theorem cut_jn {ls vs : List (List Nat)} (h : Ways ls vs) (hl : (jn vs).length ≤ 2000) : Ln (jn vs) ∧ ∃ t, M.scan stP 0 sc0 (jn vs) = .ok t ∧ M.scan stL 0 sc0 (jn vs) = .ok t ∧ t.tk = false ∧ t.qt = 0 ∧ fin t = ls := by
  obtain ⟨h1, h2⟩ := jn_ok h
  obtain ⟨o, e⟩ := scan_jn h 0 [] 0
  have q := scan_eq (jn vs) 0 sc0 ⟨.inl rfl, fun h => by cases h⟩ fun c hc => by have := h2 c hc; omega
  rw [show M.scan stP 0 sc0 (jn vs) = _ from e] at q
  refine ⟨⟨hl, h2⟩, _, e, q.1, rfl, rfl, ?_⟩
  show [] ++ ls.dropLast ++ ls.getLast?.toList = ls
  rw [List.nil_append]
  exact last_app ls
end J
namespace J
open PySem PySem.Spec PyProof.Rows L2 M
theorem cutV_map {α : Type} (f : α → V) (ls : List α) (lo hi : Option Int) : ∃ ls' : List α, cutV (ls.map f) lo hi = ls'.map f ∧ (∀ l ∈ ls', l ∈ ls) ∧ ls'.length ≤ ls.length ∧ ls'.length ≤ HT.sIx ls.length ls.length hi - HT.sIx ls.length 0 lo := by
  refine ⟨(ls.drop (HT.sIx ls.length 0 lo)).take (HT.sIx ls.length ls.length hi - HT.sIx ls.length 0 lo), ?_, fun l hl => List.mem_of_mem_drop (List.mem_of_mem_take hl), ?_, ?_⟩
  · unfold cutV
    rw [List.length_map, List.map_take, List.map_drop]
  · rw [List.length_take, List.length_drop]; omega
  · rw [List.length_take]; omega
section
variable {σ : L2.St} {H : Hp} {Q : VK} {K : PySem.W.Frag} {D : Ends}
theorem r_slL {a : Addr} {xs : List V} {lo hi : Option Int} (h : SqL K H a xs) (k : ∀ p, H p = none → Q (.ref p) (upd H p (.lst (cutV xs lo hi)))) : rSl K (.ref a) lo hi H Q := .inl ⟨a, xs, rfl, h, k⟩
theorem r_listOf {p : Addr} {ys : List V} (h : SqL K H p ys ∨ SqT K H p ys) (k : ∀ l, H l = none → Q (.ref l) (upd H l (.lst ys))) : rListOf K [.ref p] H Q := ⟨p, ys, rfl, h, k⟩
theorem r_tupOf {p : Addr} {ys : List V} (h : SqL K H p ys) (k : ∀ l, H l = none → Q (.ref l) (upd H l (.tup ys))) : rTupOf K [.ref p] H Q := ⟨p, ys, rfl, .inl ⟨h, k⟩⟩
end
def spLaw (K : PySem.W.Frag) : Sp := fun vs H Q _ => ∃ (a : Addr) (ns : List Int), vs = [.ref a] ∧ SqL K H a (ns.map V.int) ∧ ns.length ≤ 63 ∧ ∀ H', Q (.bl true) H'  -- own
end J
namespace J
open PySem PySem.Spec PyProof.Rows L2 M
theorem r_rep4 {l : Addr} {xs : List V} {H : Hp} {Q : VK} (h : H l = some (.lst xs)) (hx : xs.length ≤ 1000) (k : ∀ p, H p = none → Q (.ref p) (upd H p (.lst (List.replicate 4 xs).flatten))) : J.rMul (.ref l) (.int 4) H Q :=
  .inr (.inr ⟨l, 4, xs, rfl, rfl, h, by decide, by decide, Nat.le_trans (show xs.length * 4 ≤ 4000 by omega) (by decide), k⟩)
theorem rep4_map (f : List Nat → V) (ls : List (List Nat)) : (List.replicate 4 (ls.map f)).flatten = ((List.replicate 4 ls).flatten).map f := by
  simp [List.replicate, List.flatten_cons, List.map_append]
theorem rep4_mem {ls : List (List Nat)} {l : List Nat} (h : l ∈ (List.replicate 4 ls).flatten) : l ∈ ls := by
  obtain ⟨m, hm, hl⟩ := List.mem_flatten.mp h
  rw [List.eq_of_mem_replicate hm] at hl
  exact hl
end J

/-! a try whose clauses have names; what none of them takes does not come -/
namespace J
open PySem PySem.Spec PyProof.Rows L2  -- own
/-- the ends of a suite that holds its exception in slot i -/
def unset (D : Ends) (i : Nat) : Ends := ⟨fun τ G => D.nx (τ.set i none) G, D.rt, fun τ G => D.bk (τ.set i none) G, fun τ G => D.ct (τ.set i none) G⟩
abbrev Clause := Value × Nat × (Addr → Value → Option Addr → TS)
def wN (K : PySem.W.Frag) (D : Ends) : List Clause → WX
  | [] => fun _ _ _ _ => False
  | (c, i, ts) :: r => fun cls d σ H => ∃ b, PySem.W.exmOne K cls c = some b ∧ (b = true → ∀ a, H a = none → ts a cls d (unset D i) (σ.set i (some (.ref a))) H) ∧ (b = false → wN K D r cls d σ H)
inductive HN (X : Cx) : List ExceptHandler → List Clause → Prop
  | any (rest : List ExceptHandler) : HN X rest []
  | cons {x n : Str} {c : Value} {i : Nat} {ts : Addr → Value → Option Addr → TS} {b₀ : Stmt} {bs : List Stmt} {p1 p2 : Pos} {hds : List ExceptHandler} {l : List Clause} (hi : X.N[i]? = some n) (hl : X.env.kindOf n = some .local) (hc : Names X x c)
      (su : ∀ (a : Addr) (o : Obj) (cls : Value) (d : Option Addr) (pn : List (Addr × Obj)), Zc cls d o → (∃ vs, o.data = .fields vs) → PSs (X.suite a ((a, o) :: pn)) (b₀ :: bs) (ts a cls d)) (r : HN X hds l) :
      HN X (.ExceptHandler (some (.Name x p1)) (some n) (b₀ :: bs) p2 :: hds) ((c, i, ts) :: l)
theorem ps_tryN {X : Cx} {body : List Stmt} {h₀ : ExceptHandler} {hds : List ExceptHandler} {l : List Clause} {pos : Pos} {tb : WX → TS} (hs : X.stack = X.env :: X.outer) (hf : X.env.frame = some X.env.locals) (hN : X.N.Nodup)
    (hb : ∀ (W : WX) (pn : List (Addr × Obj)) (xe : Value → Shared → Prop), Takes (X.tr pn xe) W → PassesOwn (model X.prog X.w) X.A X.env xe → PSs (X.tr pn xe) body (tb W)) (hh : HN X (h₀ :: hds) l) :
    PS X (.Try body (h₀ :: hds) [] [] pos) (fun D σ H => tb (wN X.K D l) D σ H) := by
  constructor
  intro pins s σ H D I q0
  have fs0 : X.A.frames = some (X.env :: X.outer) := I.ok.frames.trans (congrArg some hs)
  apply wpAny_Try_except
  let catch_ : Value → Shared → Prop := fun e t => wpAny (model X.prog X.w) X.A (noteFrame e X.env) (fun _ t2 => wpAny (model X.prog X.w) X.A (setFlight e none) (fun _ t3 => wpAny (model X.prog X.w) X.A (handleBy e X.env (h₀ :: hds)) (SP X pins D) X.xe t3) X.xe t2) X.xe t
  have caught : Takes (X.tr (X.pn ++ pins) catch_) (wN X.K D l) := by
    rintro u t ⟨e, B, sI, pins2, σ2, H2, cls, d, rfl, J2, nb, up, sky, ne, os, ag, w⟩
    have J := J2.ofTry I.ok
    refine Sky.land Zc.steady fs0 hf (hs ▸ sky : Sky B (X.env :: X.outer) e (Zc cls d) X.env.locals t.heap) fun h3 f3 up3 => ?_
    obtain ⟨o3, v3, e3, z3, d3⟩ := f3.there
    have away : e ∉ frs (X.env :: X.outer) := fun hm => by
      obtain ⟨_, o', g, nf⟩ := f3.2.2.1.mem hm
      cases e3.symm.trans g
      exact nf _ d3
    have away1 : e ≠ X.env.locals := fun z => away (List.mem_filterMap.mpr ⟨X.env, List.mem_cons_self, hf.trans (congrArg some z.symm)⟩)
    have away2 : e ∉ X.fs := fun hm => let ⟨g, g1, g2⟩ := List.mem_filterMap.mp hm; away (List.mem_filterMap.mpr ⟨g, List.mem_cons_of_mem _ g1, g2⟩)
    have J3 : Inv X pins σ2 H2 { t with heap := h3 } := J.landed nb f3.1 (up.trans up3) os ag
    have S3 := J3.suite e3 d3 ne away1 away2
    -- down the clauses
    suffices go : ∀ {hs' : List ExceptHandler} {l' : List Clause}, HN X hs' l' → wN X.K D l' cls d σ2 H2 → wpAny (model X.prog X.w) X.A (handleBy (.ref e) X.env hs') (SP X pins D) X.xe { t with heap := h3 } from go hh w
    intro hs' l' k
    induction k with
    | any rest => exact False.elim
    | @cons x n c i ts b₀ bs p1 p2 hds2 l2 hi hl hc su r ih =>
      rintro ⟨b, m, yes, no⟩
      refine wpAny_handleBy_cons (codeAny_handlers_test ?_) (fun z => nomatch z)
      have lk := PySem.W.exm_one (M := model X.prog X.w) J3.kIn (fun A Q E s' k' q' => wpAny_typeOf_ref (k' _ _ e3) (z3.1.symm ▸ q')) m
      have name : ∀ {Q E : Value → Shared → Prop}, Q c { t with heap := h3 } → wpAny (model X.prog X.w) (X.A.mark (some (.ref e))) (eval (.Name x p1) X.env) Q E { t with heap := h3 } := fun {Q E} q' => by
        obtain ⟨g1, g2, g3⟩ := hc
        rcases g3 with g3 | ⟨g3, g4, g5⟩
        · exact ld_glob (X := X.suite e ((e, o3) :: (X.pn ++ pins))) S3 g1 g3 q' g2
        · exact ld_blt (X := X.suite e ((e, o3) :: (X.pn ++ pins))) S3 g1 g3 g4 q' g5 g2
      refine name (lk.here ?_)
      cases b
      · exact ih (no rfl)
      · refine codeAny_handlers_suite_as (HandSPX.lands_againZ f3 fun h4 f4 up4 => ?_)
        obtain ⟨o4, v4, e4, z4, d4⟩ := f4.there
        have J4 : Inv X pins σ2 H2 { t with heap := h4 } := J.landed nb f4.1 ((up.trans up3).trans up4) os ag
        refine store_ok (X := X.suite e ((e, o4) :: (X.pn ++ pins))) (v := .ref e) (J4.suite e4 d4 ne away1 away2) hN hi (.inl hl) rfl (fun s5 S5 => ?_) (.inr hl)
        refine wpAny_mono ((su e o4 cls d (X.pn ++ pins) z4 ⟨_, d4⟩).run [] s5 _ H2 _ S5 (yes rfl e ne)) (fun f s6 r6 => ?_) (fun _ _ z => False.elim z)
        have last : ∀ {τ : L2.St} {G : Hp} {Q : Shared → Prop}, Inv (X.suite e ((e, o4) :: (X.pn ++ pins))) [] τ G s6 → (∀ s7, Inv X pins (τ.set i none) G s7 → Q s7) → wpAny (model X.prog X.w) X.A (do bindName X.env n .none; unbindBehindTheSuite X.env n p2) (fun _ s7 => Q s7) X.xe s6 := fun {τ G Q} S6 hq => gone_ok (Q := fun _ s7 => Q s7) (S6.unsuite I.ok) hN hi hl hq
        cases f with
        | ret u => exact let ⟨_, _, _, S6, rv, q6⟩ := r6; last S6 fun s7 J7 => ⟨_, _, _, J7, rv, q6⟩
        | next => exact let ⟨_, _, S6, q6⟩ := r6; last S6 fun s7 J7 => ⟨_, _, J7, q6⟩
        | brk => exact let ⟨_, _, S6, q6⟩ := r6; last S6 fun s7 J7 => ⟨_, _, J7, q6⟩
        | cont => exact let ⟨_, _, S6, q6⟩ := r6; last S6 fun s7 J7 => ⟨_, _, J7, q6⟩
  refine wpAny_mono ((hb (wN X.K D l) (X.pn ++ pins) catch_ caught PassesOwn.looking).run [] s σ H D (I.toTry _) q0) (fun f s1 r1 => ?_) (fun _ _ z => z)
  cases f with
  | ret u => exact let ⟨_, _, _, J1, rv, q1⟩ := r1; ⟨_, _, _, J1.ofTry I.ok, rv, q1⟩
  | next => exact let ⟨_, _, J1, q1⟩ := r1; wpAny_execs_nil ⟨_, _, J1.ofTry I.ok, q1⟩
  | brk => exact let ⟨_, _, J1, q1⟩ := r1; ⟨_, _, J1.ofTry I.ok, q1⟩
  | cont => exact let ⟨_, _, J1, q1⟩ := r1; ⟨_, _, J1.ofTry I.ok, q1⟩
end J

/-! replace within a chain of and: the len ahead of it gives out a token -/
namespace J
open PySem PySem.Spec PyProof.Rows L2 CwR
/-- behind it a token has been given out -/
def PE1 (X : Cx) (e : Expr) (t : TE) : Prop := ∀ (pins : List (Addr × Obj)) (s : Shared) (σ : L2.St) (H : Hp) (Q : VK), Inv X pins σ H s → t σ H Q → wpAny (model X.prog X.w) X.A (eval e X.env) (fun v s1 => 1 ≤ s1.toks ∧ EP X pins σ Q v s1) X.xe s
def tLenS (te : TE) : TE := fun σ H Q => te σ H fun x H1 => ∃ z : Str, x = .str z ∧ z.length ≤ sizeLine ∧ Q (.int (z.length : Nat)) H1
section
variable {X : Cx} {e a b c f : Expr} {te ta tb tc : TE} {p pos pos' pos2 : Pos}
theorem pe1_len (hg : Gl X "len") (hm : X.mg "len" = none) (he : PE X e te) (hs : starEach (e :: []) X.env = (false, eval e X.env) :: starEach [] X.env := by rfl) (hpl : (backTo pos (starEach [] X.env)).any (·.1) = false := by rfl) : PE1 X (.Call (.Name "len" p) [e] [] pos) (tLenS te) := by
  intro pins s σ H Q I h
  refine wpAny_Call_Name_kw (ld_blt (u := .builtin "len") I hg hm (by decide +kernel) (PyProof.Rows.callWith_builtin1 (thn ((pa_cons he pa_nil hs).run pos pins s σ H (fun vs H1 => match vs with | [x] => ∃ z : Str, x = .str z ∧ z.length ≤ sizeLine ∧ Q (.int (z.length : Nat)) H1 | _ => False) I h) fun us s1 r => ?_) hs hpl) (by decide) (by decide))
  obtain ⟨vs, H1, I1, rv, q⟩ := r
  cases rv with
  | nil => exact q.elim
  | cons r1 r2 =>
    cases r2 with
    | cons _ _ => exact q.elim
    | nil =>
      obtain ⟨z, rfl, hz, q⟩ := q
      obtain ⟨t, rfl⟩ := r1
      have h63 := line63
      refine len_str (by omega) ⟨by show 1 ≤ s1.toks + 1 + 1; omega, .int _, H1, I1.tok _, ⟨_, rfl⟩, q⟩
theorem pe1_cmp {op : CmpOp} {r : R2} (ho : OpR X (compareOp op) r) (ha : PE1 X a ta) (hb : PE X b tb) (hm : behindInMarks op b = false) : PE1 X (.Compare a [op] [b] pos) (tOp r ta tb) := by
  intro pins s σ H Q I h
  refine wpAny_Compare1 (thn (ha pins s σ H _ I h) fun v s1 q => ?_) hm
  obtain ⟨k1, x, H1, I1, r1, q1⟩ := q
  refine wpAny_mono (wpAny_toks_of k1 (hb.run pins s1 σ H1 _ I1 q1)) (fun u s2 q => ?_) fun _ _ z => z.2
  obtain ⟨k2, y, H2, I2, r2, q2⟩ := q
  exact wpAny_mono (wpAny_toks_of k2 (ho pins s2 σ H2 x y v u _ I2 r1 r2 q2)) (fun _ _ z => z) fun _ _ z => z.2
/-- a and b and c: b gives out a token, c wants one -/
theorem pe_and3 (ha : PE X a ta) (hb : PE1 X b tb) (hc : PET X c tc) : PE X (.BoolOp .And [a, b, c] pos) (tAndV ta (tAndV tb tc)) := by
  refine ⟨fun pins s σ H Q I h => ?_⟩  -- own
  refine BoolOp_and (thn (ha.run pins s σ H _ I h) fun v s1 q => ?_)
  obtain ⟨x, H1, I1, r1, k, rfl, q1⟩ := q
  cases r1
  refine wpAny_truthy_bool ?_
  cases k with
  | false => exact ⟨.bl false, H1, I1, rfl, q1⟩  -- own
  | true =>
    refine BoolOp_and (thn (hb pins s1 σ H1 _ I1 q1) fun v2 s2 q => ?_)
    obtain ⟨k2, y, H2, I2, r2, kk, rfl, q2⟩ := q
    cases r2
    refine wpAny_truthy_bool ?_
    cases kk with
    | false => exact ⟨.bl false, H2, I2, rfl, q2⟩
    | true => exact BoolOp_one (hc pins s2 σ H2 Q k2 I2 q2)
theorem pet_call {CX : CXT} {k : Nat} {g : Addr} {fd : FuncData} {ps : List Str} {sp : Sp} {ds : List Value} {dvs : List V} {E : XK} {x : Str} {es : List Expr} {t : TA} (F : FnOk X.prog X.w X.K X.mg X.base CX k g fd ps sp) (hr : Room k X.A) (hg : Gl X x) (hm : X.mg x = some (.ref g))
    (hk : PySem.W.keepIn X.K (.ref g) = true) (hb : Binds X.K fd ps ds) (hd : Vals dvs ds) (hx : Passes CX X E) (ha : PAT X (e :: es) t) (hdb : (x == ("__debug__" : Str)) = false := by decide)
    (he : starEach (e :: es) X.env = (false, eval e X.env) :: starEach es X.env := by rfl) (hpl : (backTo pos (starEach es X.env)).any (·.1) = false := by rfl) : PET X (.Call (.Name x p) (e :: es) [] pos) (tCall sp dvs E t) := by
  intro pins s σ H Q h0 I h
  exact wpAny_Call_Name_kw (ld_glob I hg hm (PySem.W.callWith_K (h₀ := X.base) I.ok.mod.kin hk (thn (ha pos pins s σ H _ h0 I h) fun us s1 q => let ⟨vs, H1, I1, r, w⟩ := q; ⟨I1.kIn, run_fn F hr hb hd hx I1 r w⟩) he hpl) hdb)
end
end J

/-! own errors with one field; lines with line feeds, cut or refused -/
namespace J
open PySem PySem.Spec PyProof.Rows L2 M
/-- raise C(x) -/
def tRz (C : Addr) (sp : Sp) (ta : TA) (W : WX) : TS := fun _ σ H => tMkO C sp [] ta σ H fun cls d H' => W cls d σ H'
theorem ps_rz {X : Cx} {W : WX} {e : Expr} {C : Addr} {sp : Sp} {ta : TA} {pos : Pos} (hc : X.calm = true) (tk : Takes X W) (he : PMk X e (tMkO C sp [] ta)) : PS X (.Raise (some e) none pos) (tRz C sp ta W) := ps_raise hc tk he
/-- an __init__ that keeps its one argument as f -/
def spInit (K : PySem.W.Frag) (f : Str) : Sp := fun vs H Q _ => ∃ (a C : Addr) (v : V), vs = [.ref a, v] ∧ OexC K C ∧ PySem.W.findIn K (.ref C) f = some none ∧ H a = some (exo a C none) ∧ ∀ dx, H dx = none → dx ≠ a → Q .non (upd (upd H dx (exd dx [(f, v)])) a (exo a C (some dx)))
/-- an error of the class at C, its field f being v, may be raised from H -/
def Err (C : Addr) (f : Str) (v : V) (H : Hp) (E : XK) : Prop := ∀ (d : Addr) (H' : Hp), H d = none → Same H H' → H' d = some (.xd [(f, v)]) → E (.ref C) (some d) H'
theorem Err.at {C : Addr} {f : Str} {v : V} {H H1 : Hp} {E : XK} (e : Err C f v H E) (s : Same H H1) : Err C f v H1 E := fun d H' n t h => e d H' (by
  cases q : H d with
  | none => rfl
  | some o => rw [s _ _ q] at n; cases n) (s.trans t) h
def RzQ (C : Addr) (sp : Sp) (W : WX) (σ : L2.St) (vs : List V) (H1 : Hp) : Prop := vs.length ≤ 1000 ∧ ∀ a, H1 a = none → sp (.ref a :: (vs ++ [])) (upd H1 a (exo a C none))
  (fun v H2 => v = .non ∧ ∃ (d : Addr) (fs : List (Str × V)), H2 a = some (exo a C (some d)) ∧ H2 d = some (exd d fs) ∧ H1 d = none ∧ W (.ref C) (some d) σ (upd (del H2 a) d (.xd fs))) (fun _ _ _ => False)
theorem r_rz {σ : L2.St} {H : Hp} {D : Ends} {C : Addr} {sp : Sp} {W : WX} {ta : TA} (k : ta σ H fun vs H1 => RzQ C sp W σ vs H1) : tRz C sp ta W D σ H := k
theorem rz_one {K : PySem.W.Frag} {σ : L2.St} {H1 : Hp} {C : Addr} {f : Str} {W : WX} {v : V} (T : OexC K C) (hf : PySem.W.findIn K (.ref C) f = some none) (er : Err C f v H1 (fun cls d H' => W cls d σ H')) : RzQ C (spInit K f) W σ [v] H1 := by
  refine ⟨show 1 ≤ 1000 by decide, fun a ha => ⟨a, C, v, rfl, T, hf, upd_same, fun dx hd ne => ⟨rfl, dx, [(f, v)], upd_same, by rw [upd_ne ne, upd_same], ?_, ?_⟩⟩⟩
  · rwa [upd_ne ne] at hd
  · rw [upd_ne ne] at hd
    refine er dx _ hd (fun b o hb => ?_) upd_same
    have b1 := ne_of_none hb hd
    have b2 := ne_of_none hb ha
    rw [upd_ne b1, del_ne b2, upd_ne b2, upd_ne b1, upd_ne b2]
    exact hb
theorem asOst {X : Cx} {K : PySem.W.Frag} {st : Stmt} {f : Str} {to te : TE} (eK : X.K = K) (h : PS X st (tOst X.K f to te)) : PS X st (tOst K f to te) := eK ▸ h
theorem r_ost {K : PySem.W.Frag} {σ : L2.St} {H : Hp} {f : Str} {to te : TE} {n : L2.St → Hp → Prop} {rt : VK} {bk ct : L2.St → Hp → Prop} (k : te σ H fun y H1 => to σ H1 fun x H2 => ∃ a C : Addr, x = .ref a ∧ OexC K C ∧ PySem.W.findIn K (.ref C) f = some none ∧
  ((H2 a = some (exo a C none) ∧ ∀ dx, H2 dx = none → dx ≠ a → n σ (upd (upd H2 dx (exd dx [(f, y)])) a (exo a C (some dx)))) ∨
    ∃ (dx : Addr) (fs : List (Str × V)), H2 a = some (exo a C (some dx)) ∧ H2 dx = some (exd dx fs) ∧ fs.length ≤ 900 ∧ n σ (upd H2 dx (exd dx ((f, y) :: fs))))) : tOst K f to te ⟨n, rt, bk, ct⟩ σ H := k
theorem r_callS {σ : L2.St} {H : Hp} {Q : VK} {sp : Sp} {E : L2.St → XK} {t : TA} (k : t σ H fun vs H1 => sp vs H1 Q (E σ)) : tCallS sp E t σ H Q := k
/-! ### lines with line feeds -/
/-- signs and line feeds, at most 2,000 -/
def Lf (l : List Nat) : Prop := l.length ≤ 2000 ∧ ∀ c ∈ l, c = 10 ∨ 32 ≤ c ∧ c ≤ 126
/-- the words, or the first sign that is wrong -/
def cutR (st : Sc → Nat → Nat → Except Nat Sc) (l : List Nat) : Except Nat (List (List Nat)) := match M.scan st 0 sc0 l with
  | .error e => .error e
  | .ok t => if t.tk = true then .error (l.length - 1) else if t.qt ≠ 0 then .error t.op else .ok (fin t)
theorem cutR_eq {l : List Nat} (h : ∀ c ∈ l, c ≠ 0) : cutR stL l = cutR stP l := by
  have q := scan_eq l 0 sc0 ⟨.inl rfl, fun h => by cases h⟩ h
  unfold cutR
  cases e : M.scan stP 0 sc0 l with
  | error x => rw [e] at q; rw [show M.scan stL 0 sc0 l = _ from q]
  | ok t =>
    rw [e] at q
    rw [show M.scan stL 0 sc0 l = _ from q.1]
    obtain ⟨ws, bg, qt, op, tk⟩ := t
    cases tk <;> rfl
theorem replL_one (d : Nat) : ∀ l : List Nat, PySem.StrLaws.replL [d] [] l = l.filter fun c => decide (c ≠ d)
  | [] => PySem.StrLaws.replL_nil
  | c :: l => by
    by_cases h : c = d
    · rw [PySem.StrLaws.replL_hit (List.cons_ne_nil _ _) (by simp [h]), List.filter_cons_of_neg (by simp [h])]
      exact replL_one d l
    · rw [PySem.StrLaws.replL_miss (by simp [h]), List.filter_cons_of_pos (by simp [h]), replL_one d l]
/-- a replaced text: without line feeds -/
theorem repl_nl {z : Str} : cd (Txt.replace z (Str.ofString "\n") (Str.ofString "")) = (cd z).filter fun c => decide (c ≠ 10) := by
  rw [show cd (Txt.replace z (Str.ofString "\n") (Str.ofString "")) = _ from PySem.StrLaws.replace_list (by decide +kernel)]
  rw [l_nl, l_nil]
  exact replL_one 10 _
def spIsLineX : Sp := fun vs H Q _ => ∃ z : Str, vs = [.str z] ∧ z.length ≤ 1000000 ∧ ∀ H', Same H H' → Q (.bl (decide (z.length ≤ 2000) && sg ((cd z).filter fun c => decide (c ≠ 10)))) H'
theorem lf_line {z : Str} (h : Lf (cd z)) : (decide (z.length ≤ 2000) && sg ((cd z).filter fun c => decide (c ≠ 10))) = true := by
  rw [decide_eq_true (by rw [len_cd]; exact h.1), Bool.true_and]
  refine sg_iff.mpr fun c hc => ?_
  obtain ⟨h1, h2⟩ := List.mem_filter.mp hc
  rcases h.2 c h1 with h3 | h3
  · exact absurd h3 (of_decide_eq_true h2)
  · exact h3
def spLongerX (C : Addr) : Sp := fun vs H Q E => ∃ (b : Option (List Nat)) (c : Nat) (i : Int), vs = [obV b, .str ⟨#[c]⟩, .int i] ∧ (b.getD []).length ≤ 40 ∧ ((b.getD []).length + 1 ≤ 40 → Q (.str (S (b.getD [] ++ [c]))) H) ∧ (40 < (b.getD []).length + 1 → Err C "at" (.int i) H E)
def spScannedX (C : Addr) : Sp := fun vs H Q E => ∃ z : Str, vs = [.str z] ∧ Lf (cd z) ∧
  (∀ e, M.scan stP 0 sc0 (cd z) = .error e → Err C "at" (.int (e : Nat)) H E) ∧
  (∀ t, M.scan stP 0 sc0 (cd z) = .ok t → t.tk = true → Err C "at" (.int (((cd z).length : Nat) - 1 : Int)) H E) ∧
  (∀ t, M.scan stP 0 sc0 (cd z) = .ok t → t.tk = false → ∀ (p w : Addr) (H' : Hp), H p = none → H w = none → Same H H' → H' p = some (.tup [.ref w, obV t.bg, qV t.qt, .int t.op]) → H' w = some (.lst (t.ws.map wV)) → p ≠ w → Q (.ref p) H')
def spCutX (C : Addr) : Sp := fun vs H Q E => ∃ z : Str, vs = [.str z] ∧ Lf (cd z) ∧ (∀ ws, cutR stP (cd z) = .ok ws → ws.length ≤ 40) ∧
  (∀ e, cutR stP (cd z) = .error e → Err C "at" (.int (e : Nat)) H E) ∧
  (∀ ws, cutR stP (cd z) = .ok ws → ∀ (w : Addr) (H' : Hp), H w = none → Same H H' → H' w = some (.lst (ws.map wV)) → Q (.ref w) H')
end J
namespace J
open PySem PySem.Spec PyProof.Rows L2 M
/-- what the written part says of an own error x with one field f -/
structure OE (P : Program) (w : World) (K : PySem.W.Frag) (mg : Str → Option Value) (base : Heap) (x f : Str) (C : Addr) : Prop where
  T : OexC K C
  nf : PySem.W.findIn K (.ref C) f = some none
  gl : mg x = some (.ref C)
  ini : ∃ (fI : Addr) (fdI : FuncData), PySem.W.findIn K (.ref C) "__init__" = some (some (.ref fI)) ∧ PySem.W.typeIn K (.ref fI) = some (.type "function") ∧ FnOk P w K mg base CX0 1 fI fdI ["self", f] (spInit K f) ∧ Binds K fdI ["self", f] []
theorem ps_rzK {X : Cx} {K : PySem.W.Frag} {W : WX} {e : Expr} {C : Addr} {x f : Str} {ta : TA} {p pos pos2 : Pos} (eK : X.K = K) (hc : X.calm = true) (tk : Takes X W) (O : OE X.prog X.w X.K X.mg X.base x f C) (hr : Room 2 X.A) (hg : Gl X x) (ha : PA X [e] ta)
    (hdb : (x == ("__debug__" : Str)) = false := by decide) (he : starEach (e :: []) X.env = (false, eval e X.env) :: starEach [] X.env := by rfl) (hpl : (backTo pos (starEach [] X.env)).any (·.1) = false := by rfl) :
    PS X (.Raise (some (.Call (.Name x p) [e] [] pos)) none pos2) (tRz C (spInit K f) ta W) := by
  subst eK
  obtain ⟨fI, fdI, i1, i2, i3, i4⟩ := O.ini
  exact ps_rz hc tk (pmk_oex O.T i1 i2 i3 hr i4 .nil pass0 hg O.gl ha hdb he hpl)
end J

/-! data that stays; lists of words compared; doors of the lines -/
namespace J
open PySem PySem.Spec PyProof.Rows L2 M
mutual
theorem dp_mono {K : PySem.W.Frag} {H H' : Hp} (s : Same H H') : ∀ {v : V} {d : PyData}, Dp K H v d → Dp K H' v d
  | _, _, .non => .non
  | _, _, .bl b => .bl b
  | _, _, .int i => .int i
  | _, _, .str x => .str x
  | _, _, .lst h a => .lst (s.seqL h) (dpa_mono s a)
  | _, _, .tup h a => .tup (s.seqT h) (dpa_mono s a)
theorem dpa_mono {K : PySem.W.Frag} {H H' : Hp} (s : Same H H') : ∀ {vs : List V} {ds : List PyData}, DpAll K H vs ds → DpAll K H' vs ds
  | _, _, .nil => .nil
  | _, _, .cons h r => .cons (dp_mono s h) (dpa_mono s r)
end
theorem eqv_ws : ∀ a b : List (List Nat), PyData.eqv (dWs a) (dWs b) = decide (a = b)
  | [], [] => rfl
  | [], _ :: _ => rfl
  | _ :: _, [] => rfl
  | x :: a, y :: b => by
    have ih := eqv_ws a b
    show (PyData.eqv (dW x) (dW y) && PyData.eqv (dWs a) (dWs b)) = _
    rw [ih]
    have e : PyData.eqv (dW x) (dW y) = decide (x = y) := by
      show (S x == S y) = _
      by_cases h : x = y
      · subst h; simp
      · rw [decide_eq_false h]
        simp [S_inj, h]
    rw [e, ← Bool.decide_and]
    exact decide_eq_decide.mpr (by simp)
/-- the words of a good line are words -/
theorem scan_wd : ∀ {l : List Nat} {t : Sc}, (∀ c ∈ l, c ≤ 126) → M.scan stP 0 sc0 l = .ok t → (∀ w ∈ t.ws, ∀ c ∈ w, c ≤ 126) ∧ ∀ c ∈ t.bg.getD [], c ≤ 126 := by
  suffices key : ∀ (l : List Nat) (i : Nat) (s t : Sc), (∀ c ∈ l, c ≤ 126) → ((∀ w ∈ s.ws, ∀ c ∈ w, c ≤ 126) ∧ ∀ c ∈ s.bg.getD [], c ≤ 126) → M.scan stP i s l = .ok t → (∀ w ∈ t.ws, ∀ c ∈ w, c ≤ 126) ∧ ∀ c ∈ t.bg.getD [], c ≤ 126 from
    fun {l t} h e => key l 0 sc0 t h ⟨fun _ h => (List.not_mem_nil h).elim, fun _ h => (List.not_mem_nil h).elim⟩ e
  intro l
  induction l with
  | nil => intro i s t _ p e; cases e; exact p
  | cons d l ih =>
    intro i s t h p e
    have hd := h d (List.mem_cons_self ..)
    unfold M.scan at e
    cases hs : stP s i d with
    | error x => rw [hs] at e; cases e
    | ok u =>
      rw [hs] at e
      refine ih (i + 1) u t (fun c hc => h c (List.mem_cons_of_mem _ hc)) ?_ e
      have add : ∀ c ∈ s.bg.getD [] ++ [d], c ≤ 126 := fun c hc => by
        rcases List.mem_append.mp hc with q | q
        · exact p.2 c q
        · rw [List.mem_singleton.mp q]; exact hd
      unfold stP at hs
      repeat' split at hs
      all_goals first
        | (cases hs; done)
        | (cases hs; exact ⟨p.1, add⟩)
        | (cases hs; exact p)
        | skip
      all_goals (cases hs; refine ⟨?_, fun _ h => (List.not_mem_nil h).elim⟩)
      all_goals (intro w hw c hc)
      · rename_i b hb
        rcases List.mem_append.mp hw with q | q
        · exact p.1 w q c hc
        · rw [List.mem_singleton.mp q] at hc
          exact p.2 c (by rw [hb]; exact hc)
      · exact p.1 w hw c hc
theorem cutR_wd {l : List Nat} {ws : List (List Nat)} (h : Lf l) (e : cutR stP l = .ok ws) : ∀ w ∈ ws, ∀ c ∈ w, c ≤ 126 := by
  unfold cutR at e
  cases hs : M.scan stP 0 sc0 l with
  | error x => rw [hs] at e; cases e
  | ok t =>
    rw [hs] at e
    simp only at e
    split at e
    · cases e
    · split at e
      · cases e
      · cases e
        obtain ⟨h1, h2⟩ := scan_wd (fun c hc => by rcases h.2 c hc with q | q <;> omega) hs
        intro w hw c hc
        rcases List.mem_append.mp hw with q | q
        · exact h1 w q c hc
        · cases hb : t.bg with
          | none => rw [hb] at q; exact (List.not_mem_nil q).elim
          | some b =>
            rw [hb] at q
            rw [List.mem_singleton.mp q] at hc
            exact h2 c (by rw [hb]; exact hc)
end J
namespace J
open PySem PySem.Spec PyProof.Rows L2 M
/-- neither a list nor a tuple -/
def NoSeq (H : Hp) (x : V) : Prop := x = .non ∨ (∃ y, x = .str y) ∨ ∃ a kvs, x = .ref a ∧ H a = some (.dK kvs)
theorem NoSeq.mono {H H' : Hp} {x : V} (s : Same H H') (h : NoSeq H x) : NoSeq H' x := by
  rcases h with h | h | ⟨a, kvs, e, h⟩
  · exact .inl h
  · exact .inr (.inl h)
  · exact .inr (.inr ⟨a, kvs, e, s _ _ h⟩)
theorem r_isiNo {K : PySem.W.Frag} {H : Hp} {Q : VK} {x : V} {p : Addr} (h : NoSeq H x) (hp : H p = some (.tup [V.ty "list", V.ty "tuple"])) (k : Q (.bl false) H) : rIsiT K [x, .ref p] H Q := by
  rcases h with rfl | ⟨y, rfl⟩ | ⟨a, kvs, rfl, h⟩
  · exact ⟨_, p, _, _, _, false, rfl, hp, .cons (.ty _) (.cons (.ty _) .nil), .base .non, rfl, k⟩
  · exact ⟨_, p, _, _, _, false, rfl, hp, .cons (.ty _) (.cons (.ty _) .nil), .base (.str y), rfl, k⟩
  · exact ⟨_, p, _, _, _, false, rfl, hp, .cons (.ty _) (.cons (.ty _) .nil), .base (.dK h), rfl, k⟩
def spAlike (C : Addr) : Sp := fun vs H Q E => ∃ z y : Str, vs = [.str z, .str y] ∧ Lf (cd z) ∧ Lf (cd y) ∧ (∀ ws, cutR stP (cd z) = .ok ws → ws.length ≤ 40) ∧ (∀ ws, cutR stP (cd y) = .ok ws → ws.length ≤ 40) ∧
  (∀ e, cutR stP (cd z) = .error e → Err C "at" (.int (e : Nat)) H E) ∧
  (∀ ws, cutR stP (cd z) = .ok ws → (∀ e, cutR stP (cd y) = .error e → Err C "at" (.int (e : Nat)) H E) ∧ ∀ us, cutR stP (cd y) = .ok us → ∀ H', Same H H' → Q (.bl (decide (ws = us))) H')
def spShows (K : PySem.W.Frag) (C : Addr) : Sp := fun vs H Q E => ∃ (z : Str) (x : V), vs = [.str z, x] ∧ Lf (cd z) ∧ (∀ ws, cutR stP (cd z) = .ok ws → ws.length ≤ 40) ∧ (∀ e, cutR stP (cd z) = .error e → Err C "at" (.int (e : Nat)) H E) ∧
  ∀ ws, cutR stP (cd z) = .ok ws → (NoSeq H x ∧ ∀ H', Same H H' → Q (.bl false) H') ∨
    ∃ (a : Addr) (xs : List V) (ds : List PyData), x = .ref a ∧ (H a = some (.lst xs) ∨ H a = some (.tup xs)) ∧ DpAll K H xs ds ∧ SeqAt.shaped (.list ds) = true ∧ ∀ H', Same H H' → Q (.bl (PyData.eqv (.list ds) (dWs ws))) H'
theorem r_eqWW {K : PySem.W.Frag} {H : Hp} {Q : VK} {a b : Addr} {ls ms : List (List Nat)} (ha : SqL K H a (ls.map wV)) (hb : SqL K H b (ms.map wV)) (h1 : ∀ l ∈ ls, ∀ c ∈ l, c ≤ 126) (h2 : ∀ l ∈ ms, ∀ c ∈ l, c ≤ 126) (k : Q (.bl (decide (ls = ms))) H) : rEqA K (.ref a) (.ref b) H Q :=
  .inr ⟨dWs ls, dWs ms, dp_ws ha, dp_ws hb, sh_ws h1, sh_ws h2, by rw [eqv_ws]; exact k⟩
end J

/-! the law's drawn lines -/
namespace J
open PySem PySem.Spec PyProof.Rows L2 M
def spStroked : Sp := fun vs H Q _ => ∃ (b : Addr) (n : Nat) (z d : Str), vs = [.ref b, .str z, .str d] ∧ Bx H b n ∧ n ≤ 700000000 ∧ (cd z).length ≤ 40 ∧ ∀ (o : List Nat) (H' : Hp), Strk (cd d) (cd z) o → Keep b H H' → Bx H' b (n + 40) → Q (.str (S o)) H'
def spWritten : Sp := fun vs H Q _ => ∃ (b : Addr) (n : Nat) (z : Str), vs = [.ref b, .str z] ∧ Bx H b n ∧ n ≤ 600000000 ∧ Wd (cd z) ∧ ∀ (o : List Nat) (H' : Hp), WrO (cd z) o → Keep b H H' → Bx H' b (n + 2000) → Q (.str (S o)) H'
def spGap : Sp := fun vs H Q _ => ∃ (b : Addr) (n few : Nat), vs = [.ref b, .int few] ∧ few ≤ 1 ∧ Bx H b n ∧ n ≤ 700000000 ∧ ∀ (g : List Nat) (H' : Hp), Gp g → g.length ≤ few + 1 → few ≤ g.length → Keep b H H' → Bx H' b (n + 10) → Q (.str (S g)) H'
/-- a line of these words -/
def LineOf (ls : List (List Nat)) (f : List Nat) : Prop := f.length ≤ 4 + 170 * ls.length ∧ (∀ c ∈ f, c = 10 ∨ 32 ≤ c ∧ c ≤ 126) ∧ ∃ t, M.scan stP 0 sc0 f = .ok t ∧ t.tk = false ∧ t.qt = 0 ∧ fin t = ls
def spLineOf (K : PySem.W.Frag) : Sp := fun vs H Q _ => ∃ (b a : Addr) (n : Nat) (ls : List (List Nat)), vs = [.ref b, .ref a] ∧ a ≠ b ∧ SqL K H a (ls.map wV) ∧ ls.length ≤ 10 ∧ (∀ l ∈ ls, Wd l) ∧ Bx H b n ∧ n ≤ 500000000 ∧ ∀ (f : List Nat) (H' : Hp), LineOf ls f → Keep b H H' → Bx H' b (n + 25000) → Q (.str (S f)) H'
end J
namespace J
open PySem PySem.Spec PyProof.Rows L2 M
section
variable {σ : L2.St} {H : Hp} {Q : VK} {K : PySem.W.Frag} {D : Ends}
theorem r_slS {z : Str} {lo hi : Option Int} (h : z.length ≤ 16777216) (k : Q (.str (cutS z lo hi)) H) : rSl K (.str z) lo hi H Q := .inr ⟨z, rfl, h, k⟩
theorem r_while {c : TT} {tb : TS} {n : L2.St → Hp → Prop} {rt : VK} {bk ct : L2.St → Hp → Prop} (I : Nat → L2.St → Hp → Prop) (m0 : Nat) (start : I m0 σ H)
    (turn : ∀ m σ1 H1, I m σ1 H1 → c σ1 H1 fun b H2 => if b = true then (∃ N : L2.St → Hp → Prop, (∀ σ' H', N σ' H' → ∃ m', m' < m ∧ I m' σ' H') ∧ tb ⟨N, rt, n, N⟩ σ1 H2) else n σ1 H2) : tWhile c tb ⟨n, rt, bk, ct⟩ σ H := ⟨I, ⟨m0, start⟩, turn⟩
theorem cutS_take (z : Str) (k : Nat) : cutS z none (some (k : Int)) = S ((cd z).take k) := by
  rw [str_eq, cd_S]
  unfold cutS
  rw [HT.sIx_nat, HT.sIx_none]
  show ((cd z).drop 0).take (min k z.length - 0) = _
  rw [List.drop_zero, Nat.sub_zero, len_cd, ← List.take_take, List.take_length]
theorem cutS_drop (z : Str) (k : Nat) : cutS z (some (k : Int)) none = S ((cd z).drop k) := by
  rw [str_eq, cd_S]
  unfold cutS
  rw [HT.sIx_nat, HT.sIx_none]
  show ((cd z).drop (min k z.length)).take (z.length - min k z.length) = _
  rw [len_cd]
  by_cases h : k ≤ (cd z).length
  · rw [Nat.min_eq_left h]
    exact List.take_of_length_le (by rw [List.length_drop]; omega)  -- own
  · rw [Nat.min_eq_right (by omega), List.drop_eq_nil_of_le (show (cd z).length ≤ (cd z).length from Nat.le_refl _), List.drop_eq_nil_of_le (by omega)]
    simp
end
theorem strk_one {need : List Nat} {c : Nat} (b : Bool) (h : c ∈ need → b = true) : Strk need [c] (if b = true then [92, c] else [c]) := by
  cases b
  · exact .bare (fun q => by have := h q; cases this) .nil
  · exact .str .nil
/-- a stroke, or none, and a sign -/
theorem r_stroke {K : PySem.W.Frag} {H : Hp} {N : VK} {c : Nat} {b : Bool} (k : N (.str (S (if b = true then [92, c] else [c]))) H) : J.rMul (.str "\\") (.int (if b = true then 1 else 0)) H fun x H1 => J.rAdd K x (.str ⟨#[c]⟩) H1 N := by
  cases b
  · rw [if_neg Bool.false_ne_true]
    refine r_mulS mul_0.1 ?_
    rw [mul_0.2]
    refine r_addS (a := "") (b := ⟨#[c]⟩) (le_line (show 0 + 1 ≤ 16777216 by decide)) ?_
    rw [S_nil_app]
    exact k
  · rw [if_pos rfl]
    refine r_mulS mul_1.1 ?_
    rw [mul_1.2]
    refine r_addS (a := "\\") (b := ⟨#[c]⟩) (le_line (show 1 + 1 ≤ 16777216 by decide)) ?_
    have e : (Str.ofString "\\" ++ ⟨#[c]⟩ : Str) = S [92, c] := by rw [str_eq, cd_app, cd_S]; rfl
    rw [e]
    exact k
end J
namespace J
open PySem PySem.Spec PyProof.Rows L2 M
theorem r_strokeV {K : PySem.W.Frag} {H : Hp} {σ : L2.St} {N : VK} {c i : Nat} (b : Bool) (hv : σ[i]? = some (some (.str ⟨#[c]⟩))) (k : N (.str (S (if b = true then [92, c] else [c]))) H) :
    J.rMul (.str "\\") (.int (if b = true then 1 else 0)) H fun x H1 => tVar i σ H1 fun y H2 => J.rAdd K x y H2 N := by
  have key := r_stroke (K := K) (b := b) k
  cases b
  · rw [if_neg Bool.false_ne_true] at key ⊢
    refine r_mulS mul_0.1 ?_
    rw [mul_0.2]
    refine r_var hv (r_addS (a := "") (b := ⟨#[c]⟩) (le_line (show 0 + 1 ≤ 16777216 by decide)) ?_)
    rw [S_nil_app]
    exact k
  · rw [if_pos rfl] at key ⊢
    refine r_mulS mul_1.1 ?_
    rw [mul_1.2]
    refine r_var hv (r_addS (a := "\\") (b := ⟨#[c]⟩) (le_line (show 1 + 1 ≤ 16777216 by decide)) ?_)
    have e : (Str.ofString "\\" ++ ⟨#[c]⟩ : Str) = S [92, c] := by rw [str_eq, cd_app, cd_S]; rfl
    rw [e]
    exact k
/-- for i, x in enumerate(list): an invariant over the number walked -/
theorem r_forEnumL {K : PySem.W.Frag} {σ : L2.St} {H : Hp} {i : Nat} {a : Addr} {xs : List V} {g : TG} {tb : TS} {n : L2.St → Hp → Prop} {rt : VK} {bk ct : L2.St → Hp → Prop} (hv : σ[i]? = some (some (.ref a))) (I : Nat → L2.St → Hp → Prop) (list : ∀ j σ1 H1, I j σ1 H1 → SqL K H1 a xs) (start : I 0 σ H)
    (turn : ∀ (j : Nat) σ1 H1 (T : Addr) (x : V), xs[j]? = some x → I j σ1 H1 → H1 T = none → g (.ref T) σ1 (upd H1 T (.tup [.int (j : Nat), x])) fun σ2 H2 => tb ⟨I (j + 1), rt, n, I (j + 1)⟩ σ2 H2)
    (fin : ∀ σ1 H1, I xs.length σ1 H1 → n σ1 H1) : tFor (iEnum K (tCons (tVar i) tNil)) g tb ⟨n, rt, bk, ct⟩ σ H := by
  refine ⟨.ref a, hv, a, xs, rfl, list _ _ _ start, ?_⟩
  exact loop_of (D := ⟨n, rt, bk, ct⟩) xs.length I start (fun j σ1 H1 hj w => ⟨xs, _, list _ _ _ w, List.getElem?_eq_getElem hj⟩) (fun σ1 H1 w => ⟨xs, list _ _ _ w, Nat.le_refl _⟩) (fun j σ1 H1 x H' hj w y => by
    obtain ⟨T, c, rfl, hT, rfl, hc⟩ := y
    exact turn j σ1 H1 T c (hc xs (list _ _ _ w)) w hT) fin
theorem asEnum {X : Cx} {K : PySem.W.Frag} {tg e : Expr} {ta : TA} (eK : X.K = K) (h : PI X tg e (iEnum X.K ta)) : PI X tg e (iEnum K ta) := eK ▸ h
end J
namespace J
open PySem PySem.Spec PyProof.Rows L2 M
theorem r_lcRG {σ : L2.St} {H : Hp} {Q : VK} {ta : TA} {te' : TE} {g : TG} {tt : TT} {vs : List Nat} (k : ta σ H fun ws H1 => ∃ j : Int, ws = [.int j] ∧ -(2 ^ 62) ≤ j ∧ j < 2 ^ 62 ∧ ∀ E, H1 E = none → CompQ (Itr 0 j.toNat) g tt te' vs σ H1 E fun H => Q (.ref E) H) : tLc (iRng1 ta) g tt te' vs σ H Q := k
end J
namespace J
open PySem PySem.Spec PyProof.Rows L2 M
def badD (i : Int) : List (Key × V) := [(.inr "bad", .int i)]
theorem merge_bad (i : Int) : mergeK [] (badD i) = badD i := rfl
theorem get_badI (i : Int) : valV (badD i) (.inr "bad") = some (.int i) := rfl
theorem get_opened (wd : Addr) (t : Sc) : valV (stD wd t) (.inr "opened") = some (.int (t.op : Nat)) := rfl
def Lf3 (l : List Nat) : Prop := l.length ≤ 3000 ∧ ∀ c ∈ l, c = 10 ∨ 32 ≤ c ∧ c ≤ 126
def spStateX : Sp := fun vs H Q _ => ∃ z : Str, vs = [.str z] ∧ Lf3 (cd z) ∧
  (∀ e, M.scan stL 0 sc0 (cd z) = .error e → ∀ (p : Addr) (H' : Hp), Same H H' → H' p = some (.dK (badD (e : Nat))) → Q (.ref p) H') ∧
  (∀ t, M.scan stL 0 sc0 (cd z) = .ok t → t.tk = true → ∀ (p : Addr) (H' : Hp), Same H H' → H' p = some (.dK (badD (((cd z).length : Nat) - 1 : Int))) → Q (.ref p) H') ∧
  (∀ t, M.scan stL 0 sc0 (cd z) = .ok t → t.tk = false → ∀ (p wd : Addr) (H' : Hp), Same H H' → H' p = some (.dK (stD wd t)) → H' wd = some (.lst (t.ws.map wV)) → Q (.ref p) H')
def spDueX : Sp := fun vs H Q _ => ∃ z : Str, vs = [.str z] ∧ Lf3 (cd z) ∧ (∀ ws, cutR stL (cd z) = .ok ws → ws.length ≤ 40) ∧
  (∀ e, cutR stL (cd z) = .error e → ∀ (p : Addr) (H' : Hp), Same H H' → H' p = some (.lst [.str "sign", .int (e : Nat)]) → Q (.ref p) H') ∧
  (∀ ws, cutR stL (cd z) = .ok ws → ∀ (p wd : Addr) (H' : Hp), Same H H' → H' p = some (.lst [.str "told", .ref wd]) → H' wd = some (.lst (ws.map wV)) → Q (.ref p) H')
end J

/-! what the doors tell -/
namespace J
open PySem PySem.Spec PyProof.Rows L2 M
def outA (l m : List Nat) : Except Nat Bool := match cutR stP l with
  | .error e => .error e
  | .ok ws => match cutR stP m with
    | .error e => .error e
    | .ok us => .ok (decide (ws = us))
def outS (l : List Nat) (f : List (List Nat) → Bool) : Except Nat Bool := match cutR stP l with
  | .error e => .error e
  | .ok ws => .ok (f ws)
def outV : Except Nat Bool → List V
  | .error e => [.str "sign", .int (e : Nat)]
  | .ok b => [.str "told", .bl b]
def Few (l : List Nat) : Prop := ∀ ws, cutR stP l = .ok ws → ws.length ≤ 40
def spTold (K : PySem.W.Frag) : Sp := fun vs H Q _ => ∃ (door : Int) (z : Str) (x : V) (o : Except Nat Bool), vs = [.int door, .str z, x] ∧ Lf (cd z) ∧ Few (cd z) ∧
  ((door = 0 ∧ ∃ y : Str, x = .str y ∧ Lf (cd y) ∧ Few (cd y) ∧ o = outA (cd z) (cd y)) ∨
   (door = 1 ∧ ((NoSeq H x ∧ o = outS (cd z) fun _ => false) ∨
     ∃ (a : Addr) (xs : List V) (ds : List PyData), x = .ref a ∧ (H a = some (.lst xs) ∨ H a = some (.tup xs)) ∧ DpAll K H xs ds ∧ SeqAt.shaped (.list ds) = true ∧ o = outS (cd z) fun ws => PyData.eqv (.list ds) (dWs ws)))) ∧
  ∀ (p : Addr) (H' : Hp), Same H H' → H' p = some (.lst (outV o)) → Q (.ref p) H'
theorem r_xf {a C dd : Addr} {cls : Value} {d : Option Addr} {f : Str} {i : Nat} {v : V} {σ : L2.St} {H : Hp} {Q : VK} (hv : σ[i]? = some (some (.ref a))) (hc : cls = .ref C) (hd : d = some dd) (h : H dd = some (.xd [(f, v)])) (k : Q v H) : tXf a cls d C f (tVar i) σ H Q :=
  ⟨_, hv, rfl, hc, dd, _, v, hd, h, by simp [List.lookup], k⟩
end J

/-! a text the other way about -/
namespace J
open PySem PySem.Spec PyProof.Rows L2 M
theorem range_all (l : Array Nat) : (List.range l.size).filterMap (l[·]?) = l.toList := by
  apply List.ext_getElem?
  intro i
  rw [show (List.range l.size).filterMap (l[·]?) = (List.range l.size).filterMap (fun j => l.toList[j]?) from by congr 1; funext j; simp]
  have : ∀ (m : List Nat), (List.range m.length).filterMap (fun j => m[j]?) = m := fun m => by
    induction m with
    | nil => rfl
    | cons a m ih =>
      rw [List.length_cons, List.range_succ_eq_map, List.filterMap_cons]
      simp only [List.getElem?_cons_zero, List.filterMap_map]
      congr 1
  have h := this l.toList
  rw [Array.length_toList] at h
  rw [h]
theorem picked_rev (z : Str) (t : Tok) : (slicePicked z none none (some (-1, t))).filterMap (z.cps[·]?) = z.cps.toList.reverse := by
  have e : slicePicked z none none (some (-1, t)) = (List.range z.cps.size).reverse := by
    show sliceRange ((z.cps.size : Int) - 1) (-1) (-1) = _
    rw [PySem.W.krv_sliceRange, PySem.W.krv_range]
  rw [e, List.filterMap_reverse, range_all]
def tRevS (te : TE) : TE := fun σ H Q => te σ H fun x H1 => ∃ z : Str, x = .str z ∧ z.length ≤ sizeLine ∧ Q (.str (S (cd z).reverse)) H1
theorem pe_revS {X : Cx} {e : Expr} {te : TE} {k : Nat} {p1 p2 p3 pos : Pos} (he : PE X e te) : PE X (.Subscript e (.Slice none none (some (.UnaryOp .USub (.Constant (.int 1) k p1) p2)) p3) pos) (tRevS te) := by
  constructor
  intro pins s σ H Q I h
  apply Subscript_
  refine thn (he.run pins s σ H _ I h) fun v s1 r => ?_
  obtain ⟨x, H1, I1, rx, z, rfl, hz, q⟩ := r
  obtain ⟨tz, rfl⟩ := rx
  apply wpAny_Slice
  refine thn (po_none.run pins s1 σ H1 (fun o G => o = none ∧ G = H1) I1 ⟨rfl, rfl⟩) fun a s2 r => ?_
  obtain ⟨a', G, I2, pa, ea, rfl⟩ := r
  subst ea
  refine thn (po_none.run pins s2 σ G (fun o G' => o = none ∧ G' = G) I2 ⟨rfl, rfl⟩) fun b s3 r => ?_
  obtain ⟨b', G', I3, pb, eb, rfl⟩ := r
  subst eb
  have minus : PO X (some (.UnaryOp .USub (.Constant (.int 1) k p1) p2)) (tPart (tUn (rU fun i => .int (-i)) (tC (.int 1)))) := po_some (pe_un un_neg pe_int)
  refine thn (minus.run pins s3 σ G' (fun o F => o = some (-1) ∧ F = G') I3 ⟨1, rfl, -1, rfl, rfl, rfl⟩) fun c s4 r => ?_
  obtain ⟨c', F, I4, pc, ec, rfl⟩ := r
  subst ec
  obtain ⟨l1, rfl, e1⟩ := IsPart.raw pa
  obtain ⟨l2, rfl, e2⟩ := IsPart.raw pb
  obtain ⟨l3, rfl, e3⟩ := IsPart.raw pc
  obtain ⟨rfl⟩ : l1 = none := by cases l1 with | none => rfl | some _ => cases e1
  obtain ⟨rfl⟩ : l2 = none := by cases l2 with | none => rfl | some _ => cases e2
  obtain ⟨t3, rfl⟩ : ∃ t3, l3 = some (-1, t3) := by
    cases l3 with
    | none => cases e3
    | some y => obtain ⟨i, t3⟩ := y; cases e3; exact ⟨t3, rfl⟩
  refine tail_any (ops := [.ref s4.heap.objs.size, .str z tz]) (typeIs_str _ z tz) PySem.F.slot_str_getitem.lookup ?_ (by with_unfolding_all rfl)
  refine wpAny_getItem_str_slice (l := none) (u := none) (st := some (-1, t3)) ⟨_, Heap.get?_push_size _ rfl, rfl, rfl⟩ rfl ?_
  have me : sliceMade z tz none none (some (-1, t3)) = .str (S (cd z).reverse) := by
    unfold sliceMade
    rw [picked_rev]
    rfl
  rw [me]
  have I5 : Inv X pins σ F { s4 with heap := s4.heap.push { cls := .type "slice", data := .fields #[partValue none, partValue none, partValue (some (-1, t3))] } } := I4.kept (t' := s4.toks) fun b ob h => Heap.get?_push_of_some _ h
  exact ⟨by rw [S_len, List.length_reverse, ← len_cd]; exact hz, .str _, F, I5.tok _, ⟨_, rfl⟩, q⟩
end J
namespace J
open PySem PySem.Spec PyProof.Rows L2 M
def spOtherwise (K : PySem.W.Frag) : Sp := fun vs H Q _ => ∃ (b a : Addr) (n : Nat) (ls : List (List Nat)), vs = [.ref b, .ref a] ∧ a ≠ b ∧ H a = some (.lst (ls.map wV)) ∧ ls.length ≤ 5 ∧ (∀ l ∈ ls, l.length ≤ 20 ∧ ∀ c ∈ l, 32 ≤ c ∧ c ≤ 126) ∧ Bx H b n ∧ n ≤ 700000000 ∧
  ∀ (os : List (List Nat)) (p : Addr) (H' : Hp), os.length ≤ 6 → (∀ o ∈ os, Wd o) → Keep b H H' → Bx H' b (n + 10) → H' p = some (.lst (os.map wV)) → p ≠ b → Q (.ref p) H'
theorem r_rev {te : TE} {σ : L2.St} {H : Hp} {Q : VK} (k : te σ H fun x H1 => ∃ z : Str, x = .str z ∧ z.length ≤ sizeLine ∧ Q (.str (S (cd z).reverse)) H1) : tRevS te σ H Q := k
/-- lists that are put together: all as it was, a new one -/
theorem r_catN {K : PySem.W.Frag} {l m : Addr} {xs ys : List (List Nat)} {H : Hp} {Q : VK} (h : H l = some (.lst (xs.map wV))) (g : H m = some (.lst (ys.map wV))) (hx : xs.length + ys.length ≤ 1000) (k : ∀ p H', H p = none → (∀ q o, H q = some o → H' q = some o) → H' p = some (.lst ((xs ++ ys).map wV)) → (∀ b n, Bx H b n → Bx H' b n) → Q (.ref p) H') : J.rAdd K (.ref l) (.ref m) H Q := by
  refine r_cat h g (by rw [List.length_map, List.length_map]; exact Nat.le_trans hx (by decide)) fun p hp => ?_
  exact k p _ hp (fun q o hq => by rw [upd_ne (ne_of_none hq hp)]; exact hq) (by rw [upd_same, List.map_append]) fun b n hb => hb.new hp
theorem r_slN {K : PySem.W.Frag} {a : Addr} {ls : List (List Nat)} {lo hi : Option Int} {H : Hp} {Q : VK} (h : H a = some (.lst (ls.map wV))) (k : ∀ p H' ms, H p = none → (∀ q o, H q = some o → H' q = some o) → H' p = some (.lst (List.map wV ms)) → (∀ l ∈ ms, l ∈ ls) → ms.length ≤ HT.sIx ls.length ls.length hi - HT.sIx ls.length 0 lo → (∀ b n, Bx H b n → Bx H' b n) → Q (.ref p) H') : rSl K (.ref a) lo hi H Q := by
  refine r_slL (SqL.of h) fun p hp => ?_
  obtain ⟨ms, e, h1, _, h2⟩ := cutV_map wV ls lo hi
  rw [e]
  exact k p _ ms hp (fun q o hq => by rw [upd_ne (ne_of_none hq hp)]; exact hq) upd_same h1 h2 fun b n hb => hb.new hp
theorem r_lstN {H : Hp} {Q : VK} (os : List (List Nat)) (hl : os.length ≤ 1000) (k : ∀ p H', H p = none → (∀ q o, H q = some o → H' q = some o) → H' p = some (.lst (os.map wV)) → (∀ b n, Bx H b n → Bx H' b n) → Q (.ref p) H') : (os.map wV).length ≤ sizeLine ∧ ∀ p, H p = none → Q (.ref p) (upd H p (.lst (os.map wV))) := by
  refine ⟨by rw [List.length_map]; exact Nat.le_trans hl (by decide), fun p hp => ?_⟩
  exact k p _ hp (fun q o hq => by rw [upd_ne (ne_of_none hq hp)]; exact hq) upd_same fun b n hb => hb.new hp
end J

/-! what is told compared; dicts of pairs; lists of pairs -/
namespace J
open PySem PySem.Spec PyProof.Rows L2 M
def rDictP (K : PySem.W.Frag) : List V → Hp → VK → Prop := fun xs H Q => ∃ (a : Addr) (ps : List Addr) (kvs : List (Key × V)), xs = [.ref a] ∧ SqL K H a (ps.map V.ref) ∧ Paired (fun p kv => SqT K H p [kV kv.1, kv.2]) ps kvs ∧ ∀ p, H p = none → Q (.ref p) (upd H p (.dK (mergeK [] kvs)))
theorem call_dictA {X : Cx} (hc : X.calm = true) : CallR X (.type "dict") (rDictP X.K) := L2.call_dictP hc
def outD : Except Nat Bool → List PyData
  | .error e => [.str "sign", .int (e : Nat)]
  | .ok b => [.str "told", .bool b]
theorem dp_out {K : PySem.W.Frag} {H : Hp} : ∀ o : Except Nat Bool, DpAll K H (outV o) (outD o)
  | .error e => .cons (.str _) (.cons (.int _) .nil)
  | .ok b => .cons (.str _) (.cons (.bl _) .nil)
theorem sh_out : ∀ o : Except Nat Bool, SeqAt.shaped (.list (outD o)) = true
  | .error e => by show (PyData.canLay0 (.list [.str "sign", .int _]) && _) = true; simp [PyData.canLay0, PyData.canLayAll0, PyData.depth, PyData.depthAll]; exact ⟨by decide +kernel, by simp [outD, PyData.depth, PyData.depthAll]⟩
  | .ok b => by show (PyData.canLay0 (.list [.str "told", .bool b]) && _) = true; simp [PyData.canLay0, PyData.canLayAll0, PyData.depth, PyData.depthAll]; exact ⟨by decide +kernel, by simp [outD, PyData.depth, PyData.depthAll]⟩
theorem eqv_out : ∀ o : Except Nat Bool, PyData.eqv (.list (outD o)) (.list (outD o)) = true
  | .error e => by simp [outD, PyData.eqv, PyData.eqvAll]
  | .ok b => by simp [outD, PyData.eqv, PyData.eqvAll]
theorem r_neOut {K : PySem.W.Frag} {H : Hp} {Q : VK} {a b : Addr} {xs ys : List V} (o : Except Nat Bool) (ha : H a = some (.lst xs)) (hb : H b = some (.lst ys)) (ex : xs = outV o) (ey : ys = outV o) (k : Q (.bl false) H) : rNeA K (.ref a) (.ref b) H Q := by
  subst ex ey
  exact .inr ⟨_, _, .lst (SqL.of ha) (dp_out o), .lst (SqL.of hb) (dp_out o), sh_out o, sh_out o, by rw [eqv_out]; exact k⟩
theorem r_eqOut {K : PySem.W.Frag} {H : Hp} {Q : VK} {a b : Addr} {xs ys : List V} (o : Except Nat Bool) (ha : H a = some (.lst xs)) (hb : H b = some (.lst ys)) (ex : xs = outV o) (ey : ys = outV o) (k : Q (.bl true) H) : rEqA K (.ref a) (.ref b) H Q := by
  subst ex ey
  exact .inr ⟨_, _, .lst (SqL.of ha) (dp_out o), .lst (SqL.of hb) (dp_out o), sh_out o, sh_out o, by rw [eqv_out]; exact k⟩
/-- [(word, 1) for word in words] -/
theorem comp_pairs {J : It} {g : TG} {te : TE} {vs : List Nat} {σ : L2.St} {H1 : Hp} {D : Addr} {Z : Hp → Prop} {ls : List (List Nat)} (SI : SeqIt J (ls.map wV) H1) (hD : H1 D = none) (hs : ls.length < 1000)
    (turn : ∀ (l : List Nat) (H : Hp) (N : V → Hp → Prop), Same H1 H → (∀ p, H p = none → N (.ref p) (upd H p (.tup [wV l, .int 1]))) → g (wV l) (wipe σ vs) H fun σ2 H2 => wipe σ2 vs = wipe σ vs ∧ te σ2 H2 N)
    (fin : ∀ H ps, Same H1 H → H D = some (.lst (ps.map V.ref)) → Paired (fun p l => H p = some (.tup [wV l, .int 1])) ps ls → Z H) : CompQ J g tYes te vs σ H1 D Z := by
  refine comp_of ls.length (fun i H => Same H1 H ∧ ∃ ps : List Addr, H D = some (.lst (ps.map V.ref)) ∧ Paired (fun p l => H p = some (.tup [wV l, .int 1]) ∧ p ≠ D) ps (ls.take i)) ⟨(Same.refl H1).at hD _, [], upd_same, .nil⟩ (fun i H hi w => SI.go i H w.1 (by rw [List.length_map]; exact hi)) (fun H w => by have := SI.stop H w.1; rwa [List.length_map] at this) (fun i H x H' hi w y => ?_) (fun H w => ?_)
  · obtain ⟨s, ps, hps, pr⟩ := w
    obtain ⟨rfl, hx⟩ := SI.yld i H x H' s y
    rw [List.getElem?_map] at hx
    obtain ⟨l, hl, rfl⟩ := Option.map_eq_some_iff.mp hx
    refine turn l H' _ s fun p hp => ?_
    have pD : p ≠ D := fun e => by rw [e, hps] at hp; cases hp
    have e1 : upd H' p (.tup [wV l, .int 1]) D = some (.lst (ps.map V.ref)) := by rw [upd_ne pD.symm]; exact hps
    refine ⟨_, e1, ?_, (s.new hp _).at hD _, ps ++ [p], by rw [upd_same, List.map_append]; rfl, ?_⟩
    · have := pr.length
      rw [List.length_map, this, List.length_take]
      exact Nat.lt_of_le_of_lt (show _ ≤ 1000 by omega) (by decide)
    · rw [take_snoc hl]
      refine Paired.snoc (L2.Paired.mapP pr fun q m ⟨h1, h2⟩ => ⟨?_, h2⟩) ⟨by rw [upd_ne pD, upd_same], pD⟩
      rw [upd_ne h2, upd_ne (ne_of_none h1 hp)]
      exact h1
  · obtain ⟨s, ps, hps, pr⟩ := w
    rw [List.take_of_length_le (Nat.le_refl _)] at pr
    exact fin H ps s hps (L2.Paired.mapP pr fun _ _ h => h.1)
/-- a dict of such pairs -/
theorem pairs_key {K : PySem.W.Frag} {H : Hp} {ps : List Addr} {ls : List (List Nat)} (h : Paired (fun p l => H p = some (.tup [wV l, .int 1])) ps ls) : Paired (fun p (kv : Key × V) => SqT K H p [kV kv.1, kv.2]) ps (ls.map fun l => ((.inr (S l) : Key), V.int 1)) := by
  induction h with
  | nil => exact .nil
  | cons h _ ih => exact .cons (SqT.of h) ih
theorem eqv_lw {d : PyData} {l : List Nat} (h : ∀ x, d ≠ .str x) : PyData.eqv d (dW l) = false := by
  cases d <;> first | rfl | exact absurd rfl (h _)
theorem eqvAll_len : ∀ (xs ys : List PyData), xs.length ≠ ys.length → PyData.eqvAll xs ys = false
  | [], [], h => absurd rfl h
  | [], _ :: _, _ => rfl
  | _ :: _, [], _ => rfl
  | x :: xs, y :: ys, h => by
    show (PyData.eqv x y && PyData.eqvAll xs ys) = false
    rw [eqvAll_len xs ys (by simpa using h), Bool.and_false]
end J

/-! the doors asked of lines that can be cut, or can't -/
namespace J
open PySem PySem.Spec PyProof.Rows L2 M
/-- a line that is cut to these words -/
def Cu (ws : List (List Nat)) (f : List Nat) : Prop := Lf f ∧ cutR stP f = .ok ws ∧ ws.length ≤ 40
theorem Cu.of {ls : List (List Nat)} {f : List Nat} (h : LineOf ls f) (hl : ls.length ≤ 10) : Cu ls f := by
  obtain ⟨h1, h2, t, h3, h4, h5, h6⟩ := h
  refine ⟨⟨by omega, h2⟩, ?_, by omega⟩
  unfold cutR
  rw [h3]
  simp only [h4, h5, h6]
  rfl
theorem Cu.few {ws : List (List Nat)} {f : List Nat} (h : Cu ws f) : Few f := fun us e => by
  rw [h.2.1] at e; cases e; exact h.2.2
/-- a line that can't be cut: its first wrong sign -/
def Bd (e : Nat) (f : List Nat) : Prop := Lf f ∧ cutR stP f = .error e
theorem Bd.few {e : Nat} {f : List Nat} (h : Bd e f) : Few f := fun us q => by rw [h.2] at q; cases q
theorem bd_end {ls : List (List Nat)} {f : List Nat} (h : LineOf ls f) (hl : ls.length ≤ 10) {b : List Nat} (hb : b ∈ [[39], [34], [39, 97], [34, 98, 32, 99], [100, 92], [34, 92]]) : ∃ e, Bd e (f ++ 32 :: b) := by
  obtain ⟨h1, h2, t, h3, h4, h5, h6⟩ := h
  obtain ⟨u, e1, e2⟩ := bad_end h3 h4 h5 hb
  have lb : b.length ≤ 4 ∧ ∀ c ∈ b, 32 ≤ c ∧ c ≤ 126 := by
    simp only [List.mem_cons, List.not_mem_nil, or_false] at hb  -- own
    rcases hb with q | q | q | q | q | q <;> subst q <;> decide
  have lf : Lf (f ++ 32 :: b) := ⟨by simp only [List.length_append, List.length_cons]; omega, fun c hc => by
    rcases List.mem_append.mp hc with q | q
    · exact h2 c q
    rcases List.mem_cons.mp q with q | q
    · omega
    · exact .inr (lb.2 c q)⟩
  have key : ∃ e, cutR stP (f ++ 32 :: b) = .error e := by
    unfold cutR
    rw [e1]
    rcases e2 with e2 | ⟨e2, e3⟩
    · exact ⟨_, by simp only [e2]; rfl⟩
    · exact ⟨_, by simp only [e2, Bool.false_eq_true, if_false, ne_eq, e3, not_false_eq_true, if_true]; rfl⟩
  obtain ⟨e, he⟩ := key
  exact ⟨e, lf, he⟩
theorem lf_ne {f : List Nat} (h : Lf f) : ∀ c ∈ f, c ≠ 0 := fun c hc => by have := h.2 c hc; omega
theorem Lf.three {f : List Nat} (h : Lf f) : Lf3 f := ⟨Nat.le_trans h.1 (by decide), h.2⟩
/-- what is no list of these words, and can be asked about -/
def Odd (K : PySem.W.Frag) (ws : List (List Nat)) (H : Hp) (x : V) : Prop := NoSeq H x ∨ ∃ (a : Addr) (xs : List V) (ds : List PyData), x = .ref a ∧ (H a = some (.lst xs) ∨ H a = some (.tup xs)) ∧ DpAll K H xs ds ∧ SeqAt.shaped (.list ds) = true ∧ PyData.eqv (.list ds) (dWs ws) = false
theorem Odd.mono {K : PySem.W.Frag} {ws : List (List Nat)} {H H' : Hp} {x : V} (s : Same H H') (h : Odd K ws H x) : Odd K ws H' x := by
  rcases h with h | ⟨a, xs, ds, e, h1, h2, h3⟩
  · exact .inl (h.mono s)
  · exact .inr ⟨a, xs, ds, e, h1.imp (s _ _) (s _ _), dpa_mono s h2, h3⟩
section
variable {K : PySem.W.Frag} {H : Hp} {Q : VK} {E : XK}
theorem told_two {z y : Str} {ls ms : List (List Nat)} (b : Bool) (h : Cu ls (cd z)) (g : Cu ms (cd y)) (hb : decide (ls = ms) = b) (k : ∀ (p : Addr) (H' : Hp), Same H H' → H' p = some (.lst (outV (.ok b))) → Q (.ref p) H') : spTold K [.int 0, .str z, .str y] H Q E :=
  ⟨0, z, .str y, .ok b, rfl, h.1, h.few, .inl ⟨rfl, y, rfl, g.1, g.few, by simp only [outA, h.2.1, g.2.1, hb]⟩, k⟩
theorem told_bd1 {z y : Str} {ls : List (List Nat)} {e : Nat} (h : Cu ls (cd z)) (g : Bd e (cd y)) (k : ∀ (p : Addr) (H' : Hp), Same H H' → H' p = some (.lst (outV (.error e))) → Q (.ref p) H') : spTold K [.int 0, .str z, .str y] H Q E :=
  ⟨0, z, .str y, .error e, rfl, h.1, h.few, .inl ⟨rfl, y, rfl, g.1, g.few, by simp only [outA, h.2.1, g.2]⟩, k⟩
theorem told_bd2 {z y : Str} {e : Nat} (h : Bd e (cd z)) (g : Lf (cd y)) (gf : Few (cd y)) (k : ∀ (p : Addr) (H' : Hp), Same H H' → H' p = some (.lst (outV (.error e))) → Q (.ref p) H') : spTold K [.int 0, .str z, .str y] H Q E :=
  ⟨0, z, .str y, .error e, rfl, h.1, h.few, .inl ⟨rfl, y, rfl, g, gf, by simp only [outA, h.2]⟩, k⟩
theorem told_bd3 {z : Str} {e : Nat} (h : Bd e (cd z)) (k : ∀ (p : Addr) (H' : Hp), Same H H' → H' p = some (.lst (outV (.error e))) → Q (.ref p) H') : spTold K [.int 1, .str z, .non] H Q E :=
  ⟨1, z, .non, .error e, rfl, h.1, h.few, .inr ⟨rfl, .inl ⟨.inl rfl, by simp only [outS, h.2]⟩⟩, k⟩
theorem told_ws {z : Str} {a : Addr} {ls ms : List (List Nat)} (b : Bool) (h : Cu ls (cd z)) (ha : H a = some (.lst (ms.map wV)) ∨ H a = some (.tup (ms.map wV))) (hm : ∀ l ∈ ms, ∀ c ∈ l, c ≤ 126) (hb : decide (ms = ls) = b) (k : ∀ (p : Addr) (H' : Hp), Same H H' → H' p = some (.lst (outV (.ok b))) → Q (.ref p) H') : spTold K [.int 1, .str z, .ref a] H Q E :=
  ⟨1, z, .ref a, .ok b, rfl, h.1, h.few, .inr ⟨rfl, .inr ⟨a, _, ms.map dW, rfl, ha, dp_all ms, sh_ws hm, by simp only [outS, h.2.1]; rw [show PyData.eqv (.list (ms.map dW)) (dWs ls) = _ from eqv_ws ms ls, hb]⟩⟩, k⟩
theorem told_odd {z : Str} {x : V} {ls : List (List Nat)} (h : Cu ls (cd z)) (o : Odd K ls H x) (k : ∀ (p : Addr) (H' : Hp), Same H H' → H' p = some (.lst (outV (.ok false))) → Q (.ref p) H') : spTold K [.int 1, .str z, x] H Q E := by
  rcases o with o | ⟨a, xs, ds, e, h1, h2, h3, h4⟩
  · exact ⟨1, z, x, .ok false, rfl, h.1, h.few, .inr ⟨rfl, .inl ⟨o, by simp only [outS, h.2.1]⟩⟩, k⟩
  · exact ⟨1, z, x, .ok false, rfl, h.1, h.few, .inr ⟨rfl, .inr ⟨a, xs, ds, e, h1, h2, h3, by simp only [outS, h.2.1, h4]⟩⟩, k⟩
theorem ne_told {a : Addr} {xs : List V} {o : Except Nat Bool} (ha : H a = some (.lst (outV o))) (ex : xs = outV o) (k : ∀ H', Same H H' → Q (.bl false) H') : xs.length ≤ sizeLine ∧ ∀ p, H p = none → rNeA K (.ref a) (.ref p) (upd H p (.lst xs)) Q := by
  refine ⟨?_, fun p hp => r_neOut o (by rw [upd_ne (new_ne hp ha).symm]; exact ha) upd_same rfl ex (k _ ((Same.refl H).new hp _))⟩
  rw [ex]; cases o <;> exact show 2 ≤ sizeLine by decide
theorem eq_told {a : Addr} {xs : List V} {o : Except Nat Bool} (ha : H a = some (.lst (outV o))) (ex : xs = outV o) (k : ∀ H', Same H H' → Q (.bl true) H') : xs.length ≤ sizeLine ∧ ∀ p, H p = none → rEqA K (.ref a) (.ref p) (upd H p (.lst xs)) Q := by
  refine ⟨?_, fun p hp => r_eqOut o (by rw [upd_ne (new_ne hp ha).symm]; exact ha) upd_same rfl ex (k _ ((Same.refl H).new hp _))⟩
  rw [ex]; cases o <;> exact show 2 ≤ sizeLine by decide
end
def spRight : Sp := fun vs H Q _ => ∃ (b a : Addr) (n : Nat) (ls : List (List Nat)), vs = [.ref b, .ref a] ∧ a ≠ b ∧ H a = some (.lst (ls.map wV)) ∧ ls.length ≤ 5 ∧ (∀ l ∈ ls, l.length ≤ 20 ∧ ∀ c ∈ l, 32 ≤ c ∧ c ≤ 126) ∧ Bx H b n ∧ n ≤ 400000000 ∧ ∀ H', Keep b H H' → Bx H' b (n + 100000) → Q (.bl true) H'
end J

/-! things that are no list of the words -/
namespace J
open PySem PySem.Spec PyProof.Rows L2 M
theorem jn_len : ∀ (ls : List (List Nat)) (B : Nat), (∀ l ∈ ls, l.length ≤ B) → (jn ls).length ≤ (B + 1) * ls.length
  | [], B, _ => Nat.zero_le _
  | [x], B, h => by
    have := h x (List.mem_cons_self ..)
    simp only [jn, List.length_cons, List.length_nil]; omega
  | x :: y :: r, B, h => by
    have h1 := h x (List.mem_cons_self ..)  -- own
    have h2 := jn_len (y :: r) B fun l hl => h l (List.mem_cons_of_mem _ hl)
    simp only [jn, List.length_append, List.length_cons, Nat.mul_add, Nat.mul_one] at h2 ⊢; omega
theorem can_app : ∀ {xs ys : List PyData}, PyData.canLayAll0 xs = true → PyData.canLayAll0 ys = true → PyData.canLayAll0 (xs ++ ys) = true
  | [], ys, _, h => h
  | x :: xs, ys, h, g => by
    have h := Bool.and_eq_true_iff.mp (show (PyData.canLay0 x && PyData.canLayAll0 xs) = true from h)
    show (PyData.canLay0 x && PyData.canLayAll0 (xs ++ ys)) = true
    rw [h.1, can_app h.2 g]; rfl
theorem dep_wsN : ∀ ls : List (List Nat), PyData.depthAll (ls.map dW ++ [.none]) = 0
  | [] => by simp [PyData.depthAll, PyData.depth]
  | l :: ls => by
    have := dep_wsN ls
    rw [List.map_cons, List.cons_append]
    simp [PyData.depthAll, PyData.depth, dW, this]
theorem dpa_app {K : PySem.W.Frag} {H : Hp} : ∀ {xs : List V} {ds : List PyData} {ys : List V} {es : List PyData}, DpAll K H xs ds → DpAll K H ys es → DpAll K H (xs ++ ys) (ds ++ es)
  | _, _, _, _, .nil, h => h
  | _, _, _, _, .cons a r, h => .cons a (dpa_app r h)
section
variable {K : PySem.W.Frag} {H : Hp} {ls : List (List Nat)}
theorem odd_in {p a : Addr} (hp : H p = some (.lst [.ref a])) (ha : H a = some (.lst (ls.map wV))) (h : ∀ l ∈ ls, ∀ c ∈ l, c ≤ 126) : Odd K ls H (.ref p) := by
  refine .inr ⟨p, _, [dWs ls], rfl, .inl hp, .cons (dp_ws (SqL.of ha)) .nil, ?_, ?_⟩
  · show (PyData.canLay0 (.list [dWs ls]) && decide _) = true
    have c : PyData.canLay0 (.list [dWs ls]) = true := by
      show (PyData.canLayAll0 (ls.map dW) && true) = true
      rw [can_ws h]; rfl
    rw [c, Bool.true_and]
    refine decide_eq_true ?_
    simp [PyData.depth, PyData.depthAll, dWs, dep_ws]
  · show PyData.eqvAll [dWs ls] (ls.map dW) = false
    cases ls with
    | nil => rfl
    | cons l r => rfl
theorem odd_more {p : Addr} (hp : H p = some (.lst (ls.map wV ++ [.non]))) (h : ∀ l ∈ ls, ∀ c ∈ l, c ≤ 126) : Odd K ls H (.ref p) := by
  refine .inr ⟨p, _, ls.map dW ++ [.none], rfl, .inl hp, dpa_app (dp_all ls) (.cons .non .nil), ?_, ?_⟩
  · show (PyData.canLayAll0 (ls.map dW ++ [.none]) && decide _) = true
    rw [can_app (can_ws h) rfl, Bool.true_and]
    refine decide_eq_true ?_
    simp only [PyData.depth]
    rw [dep_wsN]; decide
  · exact eqvAll_len _ _ (by simp)
end
end J

namespace J
open PySem PySem.Spec PyProof.Rows L2  -- own
/-- a class is what an except clause that names it takes -/
theorem exm_same {K : PySem.W.Frag} {C : Addr} (a : PySem.W.subIn K (.ref C) (.type "BaseException") = some true) (b : PySem.W.isClsIn K C = true) (c : PySem.W.typeIn K (.ref C) = some (.type "type")) (d : PySem.W.subIn K (.ref C) (.ref C) = some true) : PySem.W.exmOne K (.ref C) (.ref C) = some true := by
  have x : (PySem.W.subIn K (.ref C) (.type "BaseException") == some true) = true := by rw [a]; rfl
  have y : ((PySem.W.clsIn K C).isSome && PySem.W.typeIn K (.ref C) == some (.type "type")) = true := by
    rw [show (PySem.W.clsIn K C).isSome = true from b, c]; rfl
  have z : PySem.W.kitCls K (.ref C) (.ref C) = some true := by
    show (if ((PySem.W.clsIn K C).isSome && PySem.W.typeIn K (.ref C) == some (.type "type")) = true then PySem.W.subIn K (.ref C) (.ref C) else none) = some true
    rw [if_pos y, d]
  unfold PySem.W.exmOne
  rw [if_pos x, z]
end J

/-! promises of defs that are called where no repr is running: so their bodies may ask for the repr of lists -/
namespace J
open PySem PySem.Spec PyProof.Rows L2  -- own
/-- as FnOk, of calls with no repr around -/
structure FnG (P : Program) (w : World) (K : PySem.W.Frag) (mg : Str → Option Value) (base : Heap) (CX : CXT) (k : Nat) (f : Addr) (fd : FuncData) (ps : List Str) (sp : Sp) : Prop where
  long : ∀ vs H Q E, sp vs H Q E → vs.length = ps.length
  goes : ∀ (A : Around), A.guards = some [] → Room k A → ∀ (outer : List Env) (s : Shared) (H : Hp), Env0 P w K mg base A outer s H → ∀ (args : Args) (us : List Value) (vs : List V) (Q : VK) (E : XK),
    BindsTo s fd args (ps.zip us) → Vals vs us → sp vs H Q E → codeAny (model P w) A (.call (.ref f) args) (CR CX outer P w H s Q E) s
theorem FnG.of {P : Program} {w : World} {K : PySem.W.Frag} {mg : Str → Option Value} {base : Heap} {CX : CXT} {k : Nat} {f : Addr} {fd : FuncData} {ps : List Str} {sp : Sp} (F : FnOk P w K mg base CX k f fd ps sp) : FnG P w K mg base CX k f fd ps sp :=
  ⟨F.len, fun A _ hr outer s H e0 args us vs Q E b r h => F.run A outer s H args us vs Q E hr e0 b r h⟩
section
variable {P : Program} {w : World} {K : PySem.W.Frag} {mg : Str → Option Value} {base : Heap}  -- own
/-- a def's promise from its body's, where no repr is running -/
theorem fun_g {x qual : Str} {st : Stmt} {f : Addr} {fd : FuncData} {N ps : List Str} {k : Nat} {sp : Sp} (F : Fun K x qual st f fd) (S : FnScope N ps (defScope st)) (long : ∀ vs H Q E, sp vs H Q E → vs.length = ps.length)
    (body : ∀ (cdv : Value) (A : Around) (outer : List Env) (s : Shared) (H : Hp) (vs : List V) (Q : VK) (E : XK), A.guards = some [] → Room k (A.deeper (envOfC qual (defScope st) s.heap.objs.size f cdv)) → sp vs H Q E →
      ∃ t, PSs (cxOf CX0 P w K mg base N qual (defScope st) f cdv A outer s H E).nox (defBody st) t ∧ t { nx := fun _ H' => Q .non H', rt := Q } (start N vs) H) : FnG P w K mg base CX0 (k + 1) f fd ps sp := by
  obtain ⟨oc, od, kV, doc, pm, an, cdv, ct, osl, e, lk, hcd⟩ := F.ex
  subst e
  refine ⟨long, fun A hg hr outer s H e0 args us vs Q E b r h => ?_⟩
  have hl : vs.length = ps.length := long _ _ _ _ h
  have stay := fun (a : Addr) (o : Obj) (q : base.get? a = some o) => (e0.bs a o q).1
  have kin : K.In s.heap := e0.mod.kin.keeps stay
  have free := e0.mod.nolimit.keeps stay
  refine codeAny_call_function hr.depth (kin _ _ lk) rfl S.co S.gen rfl (PySem.W.codeRec_of kin hcd) (b _ _ _ _ ?_)
  have known : ∀ y ∈ ps.zip us, (defScope st).names.lookup y.1 = some .local ∨ ((defScope st).names.lookup y.1 = some .cell ∧ ((cellsFrom (s.heap.objs.size + 1) (defScope st).names []).lookup y.1).isSome = true) := by
    rintro ⟨n, v⟩ hy
    exact (S.par n (List.of_mem_zip hy).1).imp id fun q => ⟨q, PySem.W.cellsFrom_some _ _ _ (.inl q)⟩
  refine wpAny_newFunctionEnv_cells S.kind known fun env he s1 xx => ?_
  subst he
  refine ⟨free.keeps xx.toInCall.keep, codeAny_func ?_⟩
  obtain ⟨t, pt, q⟩ := body cdv A outer s H vs Q E hg (hr.deeper _) h
  have I1 : Inv (cxOf CX0 P w K mg base N qual (defScope st) f cdv A outer s H E) [] (start N vs) H s1 := inv_start S hr.hd e0 hl r xx
  refine wpAny_mono (pt.nox.run [] s1 (start N vs) H _ I1 q) (fun fl s2 hs => ?_) fun _ _ z => z
  cases fl with
  | brk => exact hs.elim fun _ z => z.elim fun _ z => z.2.elim
  | cont => exact hs.elim fun _ z => z.elim fun _ z => z.2.elim
  | next => obtain ⟨_, H2, J2, q2⟩ := hs; exact ⟨.non, H2, J2.os, J2.bare, J2.base, J2.hok, rfl, q2⟩
  | ret u => obtain ⟨v, _, H2, J2, rv, q2⟩ := hs; exact ⟨v, H2, J2.os, J2.bare, J2.base, J2.hok, rv, q2⟩
end
section
variable {X : Cx} {CX : CXT} {k : Nat} {f : Addr} {fd : FuncData} {ps : List Str} {sp : Sp} {dvs : List V} {ds : List Value} {E : XK} {x : Str} {p pos : Pos} {e : Expr} {es : List Expr} {t : TA}
/-- f(..) of such a def, from a body of the same sort -/
theorem pe_callG (F : FnG X.prog X.w X.K X.mg X.base CX k f fd ps sp) (hG : X.A.guards = some []) (hr : Room k X.A) (hg : Gl X x) (hm : X.mg x = some (.ref f)) (hk : PySem.W.keepIn X.K (.ref f) = true) (hb : Binds X.K fd ps ds) (hd : Vals dvs ds) (hx : Passes CX X E)
    (ha : PA X (e :: es) t) (hdb : (x == ("__debug__" : Str)) = false := by decide) (he : starEach (e :: es) X.env = (false, eval e X.env) :: starEach es X.env := by rfl) (hpl : (backTo pos (starEach es X.env)).any (·.1) = false := by rfl) :  -- own
    PE X (.Call (.Name x p) (e :: es) [] pos) (tCall sp dvs E t) := ⟨fun pins s σ H Q I h => by
  refine wpAny_Call_Name_kw (ld_glob I hg hm ?_ hdb)  -- own
  refine PySem.W.callWith_K (h₀ := X.base) I.ok.mod.kin hk (thn (ha.run pos pins s σ H _ I h) fun us s1 z => ?_) he hpl
  obtain ⟨vs, H1, I1, r, q⟩ := z
  have r2 := r.append hd
  have n2 : (us ++ ds).length = ps.length := r2.length ▸ F.long _ _ _ _ q
  refine ⟨I1.kIn, wpAny_call (codeAny_mono (F.goes X.A hG hr X.stack s1 H1 I1.env0 ⟨us, []⟩ (us ++ ds) (vs ++ dvs) Q E (hb s1 us I1.kIn n2) r2 q) fun r s2 hq => ?_)⟩
  cases r with
  | error e => exact hx pins σ H1 s1 e s2 I1 hq
  | ok fl => cases fl with
    | ret u => exact I1.after hq
    | _ => exact hq.elim⟩
end
end J

/-! the end of a law whose own def asks for the repr of lists -/
namespace J
open PySem PySem.Spec PyProof.Rows L2  -- own
/-- what a law's call comes to -/
abbrev Fine (s s' : Shared) (r : Result) : Prop := r = .ok (.ret (.bool true)) ∧ OldK s.heap s'.heap ∧ s'.os = s.os ∧ AllBare s'.gens
section
variable {P : Program} {w : World} {K : PySem.W.Frag} {mg mb : Str → Option Value} {k : Nat} {fa a : Addr} {fd : FuncData} {x : Str} {sp : Sp} {s : Shared}
/-- with just the script tracked, or nothing -/
theorem top_at (kin : K.In s.heap) (hns : s.heap.Ns mainGlobals mg) (hmb : s.heap.Ns builtinsNs mb) (hbb : ∀ x : Str, x ≠ "__name__" → mb x = bootBuiltins x) (free : s.heap.NoLimit) (hg : s.gens = #[]) (hr : Room k callerA)
    (F : ∀ base : Heap, K.In base → base.Ns mainGlobals mg → FnG P w K mg base CX0 k fa fd [x] sp) (bind : ∀ (s : Shared) (u : Value), BindsTo s fd ⟨[u], []⟩ [(x, u)])
    {H : Hp} (only : Only H) (hok : HOk P w H s.heap) (just : ∀ b, H b ≠ none → b = a) (apart : H a ≠ none → K.lookup a = none) (list : ∀ o, s.heap.get? a = some o → ∀ es ep, o.data ≠ .dict es ep)
    (h : sp [.ref a] H (fun v _ => v = .bl true) fun _ _ _ => False) : codeAny (model P w) callerA (.call (.ref fa) ⟨[.ref a], []⟩) (fun r s' => Fine s s' r) s := by
  have off : ∀ {b : Addr} {m : Str → Option Value}, s.heap.Ns b m → (hidT s.heap H).Ns b m := fun {b m} ns => by
    obtain ⟨o, es, ep, e, d, r⟩ := ns
    refine ⟨o, es, ep, hidT_get e (Classical.byContradiction fun z => ?_), d, r⟩
    have := just b z
    subst this
    exact list o e es ep d
  have kb : K.In (hidT s.heap H) := fun b o e => hidT_get (kin b o e) (Classical.byContradiction fun z => by
    have := just b z
    subst this
    rw [apart z] at e
    cases e)
  have mod : Mod K mg (hidT s.heap H) := ⟨kb, off hns, ⟨mb, off hmb, hbb⟩, free.elim fun mc z => ⟨mc, off z.1, z.2⟩⟩
  have e0 : Env0 P w K mg (hidT s.heap H) callerA [] s H := ⟨rfl, mod, fun b o e => of_hidT e, Nat.le_of_eq (hidT_size _ _), trivial, fun b hb => (List.not_mem_nil hb).elim, hok, .of_eq hg⟩
  refine codeAny_mono ((F _ kb (off hns)).goes callerA rfl hr [] s H e0 ⟨[.ref a], []⟩ [.ref a] [.ref a] _ _ (bind s (.ref a)) (.cons rfl .nil) h) fun r s' q => ?_
  match r, q with
  | .error e, q => exact (show False from q).elim
  | .ok .next, q => exact q.elim
  | .ok .brk, q => exact q.elim
  | .ok .cont, q => exact q.elim
  | .ok (.ret u), q =>
    obtain ⟨v, H', os, bare, un, hok', rv, ev⟩ := q
    obtain rfl : v = .bl true := ev
    obtain rfl : u = Value.bool true := rv
    refine ⟨rfl, OldK.of_keep fun b o e => ?_, os, bare⟩  -- own
    rcases only b with z | ⟨ob, xs, z⟩
    · exact un.keep b o e z List.not_mem_nil List.not_mem_nil
    · have g1 := (hok b _ z).1
      have g2 := (hok' b _ (un.frzs b ob _ z)).1
      rw [e] at g1
      cases g1
      exact g2
/-- the law's promise, at the heap behind the top -/
theorem top_call {n : Nat} {vs : List Value} {ns : List Int} (kin : K.In s.heap) (hns : s.heap.Ns mainGlobals mg) (hmb : s.heap.Ns builtinsNs mb) (hbb : ∀ x : Str, x ≠ "__name__" → mb x = bootBuiltins x) (free : s.heap.NoLimit) (hg : s.gens = #[]) (hr : Room k callerA)
    (F : ∀ base : Heap, K.In base → base.Ns mainGlobals mg → FnG P w K mg base CX0 k fa fd [x] sp) (bind : ∀ (s : Shared) (u : Value), BindsTo s fd ⟨[u], []⟩ [(x, u)])
    (ha : s.heap.get? a = some { cls := .type "list", data := .seq vs.toArray }) (hi : IntsAre vs ns) (hl : ns.length ≤ n) (hn : n ≤ sizeLine)
    (h : ∀ H : Hp, Only H → SqL K H a (ns.map V.int) → sp [.ref a] H (fun v _ => v = .bl true) fun _ _ _ => False) :
    codeAny (model P w) callerA (.call (.ref fa) ⟨[.ref a], []⟩) (fun r s' => Fine s s' r) s := by
  have rv := vals_ints hi
  have nd : ∀ o, s.heap.get? a = some o → ∀ es ep, o.data ≠ .dict es ep := fun o e es ep z => by
    rw [ha] at e
    cases e
    cases (show Data.seq vs.toArray _ = Data.dict es ep from z)
  have small : ns.length ≤ sizeLine := Nat.le_trans hl hn
  cases q : K.lookup a with
  | some o =>
    have e := kin a o q
    rw [ha] at e
    cases e
    refine top_at kin hns hmb hbb free hg hr F bind (H := fun _ => none) (fun _ => .inl rfl) (fun _ _ z => nomatch z) (fun _ z => (z rfl).elim) (fun z => (z rfl).elim) nd (h _ (fun _ => .inl rfl) (.inr ⟨_, vs.toArray, _, q, rfl, rfl, rfl, ?_, by simpa using rv⟩))
    rw [List.size_toArray, hi.length]  -- own
    exact small
  | none =>
    let ob : Obj := { cls := .type "list", data := .seq vs.toArray }
    have at_a : (fun b : Addr => if b = a then some (HO.frz ob (.lst (ns.map V.int))) else none) a = some (HO.frz ob (.lst (ns.map V.int))) := if_pos rfl
    have off : ∀ b : Addr, b ≠ a → (fun b : Addr => if b = a then some (HO.frz ob (.lst (ns.map V.int))) else none) b = none := fun b z => if_neg z
    have only : Only (fun b : Addr => if b = a then some (HO.frz ob (.lst (ns.map V.int))) else none) := fun b => (Classical.em (b = a)).elim (fun z => .inr ⟨ob, ns.map V.int, z ▸ at_a⟩) fun z => .inl (off b z)
    refine top_at kin hns hmb hbb free hg hr F bind (H := fun b : Addr => if b = a then some (HO.frz ob (.lst (ns.map V.int))) else none) only (fun b u z => ?_) (fun b z => Classical.byContradiction fun y => z (off b y)) (fun _ => q) nd (h _ only (.inl (.inr ⟨ob, at_a⟩)))
    rcases Classical.em (b = a) with y | y
    · subst y
      cases at_a.symm.trans z
      exact ⟨ha, by rw [List.length_map]; exact small, vs, _, rv, ha⟩
    · cases (off b y).symm.trans z
end
theorem walk_ofG {l : PySem.W.OpenLaw} {n k : Nat} {q : Program} {loose : List Str} {XP : (Str → Option Value) → Heap → Prop} {YP : World → Heap → Prop} {d : DefRec} {K : Params → PySem.W.Frag} {sp : World → Sp} {x : Str}
    (hn : l.most = some n) (hn2 : n ≤ sizeLine) (hdf : d.params.defaults = []) (hr : Room k callerA) (hY : ∀ (w : World) (h : Heap), YP w h → (K w.params).In h)  -- own
    (F : ∀ (w : World) (mg : Str → Option Value) (fa : Addr) (h : Heap), (K w.params).In h → h.Ns mainGlobals mg → mg d.name = some (.ref fa) →  -- own
      ∃ fd : FuncData, (∀ (s : Shared) (u : Value), BindsTo s fd ⟨[u], []⟩ [(x, u)]) ∧ ∀ base : Heap, (K w.params).In base → base.Ns mainGlobals mg → FnG l.prog w (K w.params) mg base CX0 k fa fd [x] (sp w))
    (hsp : ∀ (w : World) (H : Hp) (a : Addr) (ns : List Int), ns.length ≤ n → Only H → SqL (K w.params) H a (ns.map V.int) → sp w [.ref a] H (fun v _ => v = .bl true) fun _ _ _ => False) :
    PySem.W.WalkO q loose XP YP l.row.toRowW d [] (fun f vs => PySem.call f vs) :=  -- own
  Att.attach_call hn hdf fun w s₀ s₁ mg mb fa o pm cd doc a vs ns G Y ho hd hcd hmg hobj hints hlen hg =>
    let ⟨_, hb, hF⟩ := F w mg fa _ (hY w _ Y) G.T.g hmg
    top_call (hY w _ Y) G.T.g G.T.b G.T.builtins G.T.nolimit hg hr hF hb hobj hints hlen hn2 fun H hO hS => hsp w H a ns hlen hO hS
end J

/-! own errors over LookupError: the library's rules for those over ValueError, with the base left open -/
namespace PySem
namespace JX
open PySem.W PySem.Calls PyProof.Rows PySem.HandSPX Builtin Builtin.ObjectAttr
/-- own classes, then a base's mro -/
def Over (tail : List Value) (l : List Value) : Prop := ∃ cs : List Addr, l = cs.map Value.ref ++ tail
theorem Over.pass {tail : List Value} {self : Value} (h : refuseLoop self "__setattr__" tail = pure ()) {l : List Value} (o : Over tail l) : refuseLoop self "__setattr__" l = pure () := by
  obtain ⟨cs, rfl⟩ := o
  induction cs with
  | nil => exact h
  | cons c cs ih => exact (refuseLoop_ref ..).trans ih
theorem Over.has {tail : List Value} {l : List Value} (o : Over tail l) (x : String) : l.contains (.type x) = tail.contains (.type x) := by
  obtain ⟨cs, rfl⟩ := o
  induction cs with
  | nil => rfl
  | cons c cs ih => rw [List.map_cons, List.cons_append, List.contains_cons, ih]; rfl
theorem Over.more {tail : List Value} {l : List Value} (o : Over tail l) (c : Addr) : Over tail (.ref c :: l) := by
  obtain ⟨cs, rfl⟩ := o
  exact ⟨c :: cs, rfl⟩
section
variable {prog : Program} {w : World} {A : Around} {R : Result → Shared → Prop} {hp : Heap} {g : Array GenState} {d : Drawn} {t : Nat} {os : OsState} {K : W.Frag} {name : Str} {tk : Tok} {v : Value} {x C : Addr} {fv : Array Value} {cd : ClassData}
/-- the first attribute of an exception -/
theorem first_attr (kin : K.In hp) (at_x : hp.get? x = some { cls := .ref C, data := .fields fv }) (cls : W.clsIn K C = some cd) (some_ : cd.mro.isEmpty = false) (ob : cd.mro.contains (.type "object") = true)
    (ps : refuseLoop (.ref x) "__setattr__" cd.mro = pure ()) (hd : cd.hasDict = true) (none_ : W.findIn K (.ref C) name = some none)
    (q : ∀ h' tk' dx, (∀ b o, b ≠ x → hp.get? b = some o → h'.get? b = some o) → hp.objs.size ≤ dx → dx ≠ x → h'.get? x = some { cls := .ref C, dict := some dx, data := .fields fv } →
      h'.Ns1 dx (fun y => if y = name then some v else none) → R (.ok (.ret .none)) ⟨h', g, d, tk', os⟩) :  -- own
    codeAny (model prog w) A (.call (.builtin "object.__setattr__") ⟨[.ref x, .str name tk, v], []⟩) R ⟨hp, g, d, t, os⟩ := by  -- own
  have old : x ≠ hp.objs.size := Nat.ne_of_lt (Heap.lt_size at_x)
  have ia : W.InstAt hp x { cls := .ref C, data := .fields fv } C none := ⟨at_x, rfl, rfl, trivial⟩
  have isob : W.Looks (model prog w) hp (isInstance (.ref x) (.type "object")) true := ia.type.andThen (W.looks_mroIn kin (by unfold W.mroIn; rw [cls, Option.bind_some, if_neg (by rw [some_]; decide), ob]))
  refine codeAny_call_builtin F.store_object.slot.plain F.store_object.entry (@W.check_slot (model prog w) _ _ ⟨hp, g, d, t, os⟩ "object.__setattr__" "object" "__setattr__" (.ref x) [.str name tk, v] [] _ F.store_object.kind F.store_object.split isob (F.store_object.args (.ref x) (.str name tk) v) ?_)
  have own : W.Looks (model prog w) hp (classData C) cd := W.looks_clsIn kin cls
  have line : W.Looks (model prog w) hp (mroOf (.ref C)) cd.mro := own.andThen .now
  have tk0 : W.Looks (model prog w) hp (storeTaker? none) none := .now
  rw [W.osa_eq, refuse_eq]
  refine wpAny_bind (wpAny_bind (ia.type.at (wpAny_bind (line.at ?_))))
  rw [ps]
  refine wpAny_pure (wpAny_bind (ia.type.at (wpAny_bind ((W.looks_findIn kin none_).at (wpAny_bind (tk0.at ?_))))))
  show wpAny _ _ (storeInOwnDict (.ref x) (.ref C) (.str name tk) name v false) _ _ _  -- own
  rcases cd with ⟨nm, bs, mro, ns, qn, hdd, sn, sb, ab, col, del⟩
  cases hd
  unfold storeInOwnDict ownDictForStores  -- own
  repeat (first | with_reducible refine store_in_new ?_ ?_ | with_reducible refine wpAny_loadPart_at at_x ?_ | with_reducible refine own.at ?_ | wp_step)
  · exact ⟨_, #[], _, (Heap.get?_update_ne _ _ _ _ old.symm).trans (Heap.get?_push_at rfl rfl), rfl, fun e he => absurd he (by simp), fun _ => rfl⟩
  · intro h' tk' hn' hs
    refine q h' tk' hp.objs.size (fun b o hb ho => (hs.2 b (Nat.ne_of_lt (Heap.lt_size ho))).trans ((Heap.get?_update_ne _ _ _ _ hb).trans (Heap.get?_push_of_some _ ho))) (Nat.le_refl _) old.symm ?_ hn'
    exact (hs.2 x old).trans (Heap.get?_update_self _ (Heap.get?_push_of_some _ at_x) rfl)
end
end JX
end PySem
namespace J
open PySem PySem.Spec PyProof.Rows L2  -- own
abbrev leTail : List Value := [.type "LookupError", .type "Exception", .type "BaseException", .type "object"]
/-- what the written part says of an own class over LookupError -/
structure OexL (K : PySem.W.Frag) (C : Addr) : Prop where
  cls : ∃ nm q N bs bm sn sub ab col dd k0 k1 k2 k3 k5, K.lookup C = some (excClassObj nm q C N bs bm true sn sub ab col dd k0 k1 k2 k3 k5 "LookupError.__new__") ∧ PySem.JX.Over leTail bm
  sa : PySem.W.findIn K (.ref C) "__setattr__" = some (some (.builtin "object.__setattr__"))  -- own
  ex : PySem.W.subIn K (.ref C) (.type "BaseException") = some true
  ty : PySem.W.typeIn K (.ref C) = some (.type "type")
  kp : PySem.W.keepIn K (.ref C) = true  -- own
section
variable {X : Cx} {pins : List (Addr × Obj)} {σ : L2.St} {H : Hp} {s : Shared} {a C : Addr} {f : Str} {y : V} {u : Value} {Q : Unit → Shared → Prop} {E : Value → Shared → Prop} {A : Around}
theorem set_firstL (T : OexL X.K C) (I : Inv X pins σ H s) (ea : H a = some (exo a C none)) (nf : PySem.W.findIn X.K (.ref C) f = some none) (ry : RelV y u)
    (h : ∀ dx s', H dx = none → dx ≠ a → Inv X pins σ (upd (upd H dx (exd dx [(f, y)])) a (exo a C (some dx))) s' → Q () s') : wpAny (model X.prog X.w) A (setAttr (.ref a) f u) Q E s := by  -- own
  obtain ⟨nm, q, N, bs, bm, sn, sub, ab, col, dd, k0, k1, k2, k3, k5, hC, ov⟩ := T.cls
  have cls : PySem.W.clsIn X.K C = some { name := nm, bases := bs, mro := .ref C :: bm, ns := N, qualname := q, hasDict := true, slotNames := sn, subclasses := sub, abstract := ab, collection := col, hasDel := false } := by
    unfold PySem.W.clsIn
    rw [hC]
  obtain ⟨t1, ho⟩ := exo_at I.hok ea
  cases s with
  | mk hp g d t os =>
  refine PySem.W.set_plain I.kIn (od := none) ⟨ho, rfl, rfl, trivial⟩ T.sa ?_
  refine PySem.JX.first_attr I.kIn ho cls rfl (((ov.more C).has "object").trans (by decide +kernel)) ((ov.more C).pass (PySem.F.store_LookupError.passes (.ref a))) rfl nf fun h' tk' dx stay big ne hx hn => ?_
  have free : H dx = none := I.hok.fresh big
  have else_ : ∀ {b : Addr} {o : Obj}, hp.get? b = some o → b ≠ dx := fun {b o} z e => by
    have := Heap.lt_size z
    rw [e] at this
    exact Nat.not_le_of_lt this big
  have away : ∀ {b : Addr}, H b = none → b ≠ a := fun {b} z e => by rw [e, ea] at z; cases z
  have un : Un X.fs [] H (upd (upd H dx (exd dx [(f, y)])) a (exo a C (some dx))) hp h' :=
    { keep := fun b o z n _ _ => stay b o (away n) z
      slot := fun b o z n _ _ => ⟨_, stay b o (away n) z⟩
      free := fun b o z n _ => by rw [upd_ne (away n), upd_ne (else_ z)]; exact n
      there := fun b o z _ => (Classical.em (b = a)).elim (fun e => ⟨_, e ▸ hx⟩) fun e => ⟨o, stay b o e z⟩
      tups := fun b xs z => by rw [upd_ne (at_ne ea z exo_tup), upd_ne (ne_of_none z free)]; exact z
      frzs := fun b o v z => by rw [upd_ne (at_ne ea z exo_frz), upd_ne (ne_of_none z free)]; exact z
      tbls := fun b ps z => ⟨#[], by rw [upd_ne (at_ne ea z exo_tbl), upd_ne (ne_of_none z free), z]; simp⟩ }
  refine h dx _ free ne (I.un (t' := tk') un fun b o z => ?_)
  rcases Classical.em (b = a) with e | e
  · subst e
    rw [upd_same] at z
    cases z
    exact exo_ok hx
  rw [upd_ne e] at z
  rcases Classical.em (b = dx) with e2 | e2
  · subst e2
    rw [upd_same] at z
    cases z
    exact exd_ok hn (relO_put (fs := []) ry fun _ => True.intro)
  rw [upd_ne e2] at z
  refine (I.hok b o z).stay (fun c v hc w => stay c v (hc.elim (fun q => q ▸ e) fun q => at_ne ea q exo_own) w) (fun c hc => ?_) fun c xs hc => ?_
  · rw [upd_ne (at_ne ea hc exo_own), upd_ne (ne_of_none hc free)]; exact hc
  · rw [upd_ne (at_ne ea hc exo_tup), upd_ne (ne_of_none hc free)]; exact hc
end
/-- self.f = y, of an exception that has no attribute yet -/
def tOsL (K : PySem.W.Frag) (f : Str) (to te : TE) : TS := fun D σ H => te σ H fun y H1 => to σ H1 fun x H2 => ∃ a C : Addr, x = .ref a ∧ OexL K C ∧ PySem.W.findIn K (.ref C) f = some none ∧
  H2 a = some (exo a C none) ∧ ∀ dx, H2 dx = none → dx ≠ a → D.nx σ (upd (upd H2 dx (exd dx [(f, y)])) a (exo a C (some dx)))
section
variable {X : Cx} {o e : Expr} {es : List Expr} {to te : TE} {ta : TA} {f : Str} {p p' pos : Pos}
theorem ps_osL (ho : PE X o to) (he : PE X e te) (hs : swapsWith e (some (.Attribute o f p')) pos.line X.env = pure false := by rfl) : PS X (.Assign [.Attribute o f p'] e pos) (tOsL X.K f to te) := ⟨fun pins s σ H D I h => by
  refine plainObj_wpAny_Assign_Attribute (thn (he.run pins s σ H _ I h) fun v s1 z => ?_) hs
  obtain ⟨y, H1, I1, r1, q1⟩ := z
  refine thn (ho.run pins s1 σ H1 _ I1 q1) fun u s2 z => ?_
  obtain ⟨x, H2, I2, r2, a, C, ex, T, nf, ea, q⟩ := z
  subst ex
  obtain rfl : u = Value.ref a := r2  -- own
  exact set_firstL T I2 ea nf r1 fun dx s' n ne J => ⟨σ, _, J, q dx n ne⟩⟩
theorem pmk_oexL {CX : CXT} {x : Str} {C fI : Addr} {k : Nat} {fd : FuncData} {ps : List Str} {sp : Sp} {ds : List Value} {dvs : List V} (T : OexL X.K C) (iC : PySem.W.findIn X.K (.ref C) "__init__" = some (some (.ref fI))) (tI : PySem.W.typeIn X.K (.ref fI) = some (.type "function"))
    (G : FnOk X.prog X.w X.K X.mg X.base CX k fI fd ps sp) (hr : Room (k + 1) X.A) (hb : Binds X.K fd ps ds) (hd : Vals dvs ds) (hx : Passes CX X (fun _ _ _ => False)) (hg : Gl X x) (hm : X.mg x = some (.ref C)) (ha : PA X (e :: es) ta)
    (hdb : (x == ("__debug__" : Str)) = false := by decide) (he : starEach (e :: es) X.env = (false, eval e X.env) :: starEach es X.env := by rfl) (hpl : (backTo pos (starEach es X.env)).any (·.1) = false := by rfl) :  -- own
    PMk X (.Call (.Name x p) (e :: es) [] pos) (tMkO C sp dvs ta) := fun pins s σ H Q I h => by
  obtain ⟨nm, q, N, bs, bm, sn, sub, ab, col, dd, k0, k1, k2, k3, k5, hC, ov⟩ := T.cls
  refine wpAny_Call_Name_kw (ld_glob I hg hm ?_ hdb)  -- own
  refine PySem.W.callWith_K (h₀ := X.base) I.ok.mod.kin T.kp (thn (ha.run pos pins s σ H _ I h) fun us s1 z => ?_) he hpl
  obtain ⟨vs, H1, I1, r1, hz, q1⟩ := z
  refine ⟨I1.kIn, ?_⟩
  cases s1 with
  | mk hp g dr tk os =>
  let n := hp.objs.size + 1
  let h2 := (hp.push (PySem.W.kdv_tup us)).push (PySem.HandSPX.excO C hp.objs.size)
  have le : hp.objs.size ≤ n := Nat.le_succ _
  have hq := q1 n (I1.hok.fresh le)
  have there : h2.get? n = some (PySem.HandSPX.excO C hp.objs.size) := by
    show ((hp.push (PySem.W.kdv_tup us)).push (PySem.HandSPX.excO C hp.objs.size)).get? (hp.objs.size + 1) = _
    heap_get
  have I2 : Inv X pins σ (upd H1 n (exo n C none)) ⟨h2, g, dr, tk, os⟩ := I1.laid (t' := tk) (a := n) (o := exo n C none) (h' := h2) (fun b o z => Heap.get?_push_of_some _ (Heap.get?_push_of_some _ z)) le (exo_ok there)
  have r2 : Vals (V.ref n :: (vs ++ dvs)) (Value.ref n :: (us ++ ds)) := .cons rfl (r1.append hd)
  have hl : (Value.ref n :: us ++ ds).length = ps.length := r2.length.symm.trans (G.len _ _ _ _ hq)
  have small : us.length ≤ sizeLine := by
    rw [← Paired.length r1, sizeLine_eq]; omega
  have run := G.run _ X.stack _ _ ⟨Value.ref n :: us, []⟩ (Value.ref n :: (us ++ ds)) _ _ (fun _ _ _ => False) (hr.make C us []) (I2.env0.make C us []) (hb _ (Value.ref n :: us) I2.kIn hl) r2 hq
  refine wpAny_call (PySem.HandSPX.call_own PySem.F.excBase_LookupError (fun Y => ov.has Y) (I1.kIn _ _ hC) (PySem.W.looks_findIn I1.kIn iC) (fun self => PySem.W.bind_fn I1.kIn self tI) small (codeAny_mono run fun r s' hq' => ?_))
  match r, hq' with
  | .error er, z => exact hx pins σ _ _ er s' I2 z
  | .ok .next, z => exact z.elim
  | .ok .brk, z => exact z.elim
  | .ok .cont, z => exact z.elim
  | .ok (.ret u), z =>
    obtain ⟨v, H2, os2, bare2, un2, hok2, rv, ev, d, fs, ea, ed, hd1, q2⟩ := z
    subst ev
    cases s' with
    | mk h3 g2 d2 t2 os' => exact ⟨rv, mk_end (raises_own T.ex T.ty) I1 le (fun b o z => Heap.get?_push_of_some _ (Heap.get?_push_of_some _ z)) un2 hok2 os2 bare2 ea ed hd1 q2⟩
end
end J

/-! own errors over LookupError, raised and taken; what is told of a line, and its repr -/
namespace J
open PySem PySem.Spec PyProof.Rows L2 M
def spInitL (K : PySem.W.Frag) (f : Str) : Sp := fun vs H Q _ => ∃ (a C : Addr) (v : V), vs = [.ref a, v] ∧ OexL K C ∧ PySem.W.findIn K (.ref C) f = some none ∧ H a = some (exo a C none) ∧ ∀ dx, H dx = none → dx ≠ a → Q .non (upd (upd H dx (exd dx [(f, v)])) a (exo a C (some dx)))
theorem rz_oneL {K : PySem.W.Frag} {σ : L2.St} {H1 : Hp} {C : Addr} {f : Str} {W : WX} {v : V} (T : OexL K C) (hf : PySem.W.findIn K (.ref C) f = some none) (er : Err C f v H1 (fun cls d H' => W cls d σ H')) : RzQ C (spInitL K f) W σ [v] H1 := by
  refine ⟨show 1 ≤ 1000 by decide, fun a ha => ⟨a, C, v, rfl, T, hf, upd_same, fun dx hd ne => ⟨rfl, dx, [(f, v)], upd_same, by rw [upd_ne ne, upd_same], ?_, ?_⟩⟩⟩
  · rwa [upd_ne ne] at hd
  · rw [upd_ne ne] at hd
    refine er dx _ hd (fun b o hb => ?_) upd_same
    have b1 := ne_of_none hb hd
    have b2 := ne_of_none hb ha
    rw [upd_ne b1, del_ne b2, upd_ne b2, upd_ne b1, upd_ne b2]
    exact hb
theorem asOsL {X : Cx} {K : PySem.W.Frag} {st : Stmt} {f : Str} {to te : TE} (eK : X.K = K) (h : PS X st (tOsL X.K f to te)) : PS X st (tOsL K f to te) := eK ▸ h
theorem r_osL {K : PySem.W.Frag} {σ : L2.St} {H : Hp} {f : Str} {to te : TE} {n : L2.St → Hp → Prop} {rt : VK} {bk ct : L2.St → Hp → Prop} (k : te σ H fun y H1 => to σ H1 fun x H2 => ∃ a C : Addr, x = .ref a ∧ OexL K C ∧ PySem.W.findIn K (.ref C) f = some none ∧
  H2 a = some (exo a C none) ∧ ∀ dx, H2 dx = none → dx ≠ a → n σ (upd (upd H2 dx (exd dx [(f, y)])) a (exo a C (some dx)))) : tOsL K f to te ⟨n, rt, bk, ct⟩ σ H := k
/-- what the written part says of an own error x over LookupError with one field f -/
structure OL (P : Program) (w : World) (K : PySem.W.Frag) (mg : Str → Option Value) (base : Heap) (x f : Str) (C : Addr) : Prop where
  T : OexL K C
  nf : PySem.W.findIn K (.ref C) f = some none
  gl : mg x = some (.ref C)
  ini : ∃ (fI : Addr) (fdI : FuncData), PySem.W.findIn K (.ref C) "__init__" = some (some (.ref fI)) ∧ PySem.W.typeIn K (.ref fI) = some (.type "function") ∧ FnOk P w K mg base CX0 1 fI fdI ["self", f] (spInitL K f) ∧ Binds K fdI ["self", f] []
theorem ps_rzL {X : Cx} {K : PySem.W.Frag} {W : WX} {e : Expr} {C : Addr} {x f : Str} {ta : TA} {p pos pos2 : Pos} (eK : X.K = K) (hc : X.calm = true) (tk : Takes X W) (O : OL X.prog X.w X.K X.mg X.base x f C) (hr : Room 2 X.A) (hg : Gl X x) (ha : PA X [e] ta)
    (hdb : (x == ("__debug__" : Str)) = false := by decide) (he : starEach (e :: []) X.env = (false, eval e X.env) :: starEach [] X.env := by rfl) (hpl : (backTo pos (starEach [] X.env)).any (·.1) = false := by rfl) :
    PS X (.Raise (some (.Call (.Name x p) [e] [] pos)) none pos2) (tRz C (spInitL K f) ta W) := by
  subst eK
  obtain ⟨fI, fdI, i1, i2, i3, i4⟩ := O.ini
  exact ps_rz hc tk (pmk_oexL O.T i1 i2 i3 hr i4 .nil pass0 hg O.gl ha hdb he hpl)
/-- an except clause that names another class takes none of these -/
theorem exm_other {K : PySem.W.Frag} {C B : Addr} (a : PySem.W.subIn K (.ref B) (.type "BaseException") = some true) (b : PySem.W.isClsIn K B = true) (c : PySem.W.typeIn K (.ref B) = some (.type "type")) (d : PySem.W.subIn K (.ref C) (.ref B) = some false) : PySem.W.exmOne K (.ref C) (.ref B) = some false := by
  have x : (PySem.W.subIn K (.ref B) (.type "BaseException") == some true) = true := by rw [a]; rfl
  have y : ((PySem.W.clsIn K B).isSome && PySem.W.typeIn K (.ref B) == some (.type "type")) = true := by
    rw [show (PySem.W.clsIn K B).isSome = true from b, c]; rfl
  have z : PySem.W.kitCls K (.ref C) (.ref B) = some false := by
    show (if ((PySem.W.clsIn K B).isSome && PySem.W.typeIn K (.ref B) == some (.type "type")) = true then PySem.W.subIn K (.ref C) (.ref B) else none) = some false
    rw [if_pos y, d]
  unfold PySem.W.exmOne
  rw [if_pos x, z]
/-! ### what is told of a line -/
/-- the words of a line, or the first wrong sign, or how many words there are -/
def spRefuseY (C : Addr) : Sp := fun vs H Q E => ∃ n : Int, vs = [.int n] ∧ (n ≤ 40 → Q .non H) ∧ (40 < n → Err C "many" (.int n) H E)
def spCutY (C CT : Addr) : Sp := fun vs H Q E => ∃ z : Str, vs = [.str z] ∧ Lf (cd z) ∧
  (∀ e, cutR stP (cd z) = .error e → Err C "at" (.int (e : Nat)) H E) ∧
  (∀ ws, cutR stP (cd z) = .ok ws → 40 < ws.length → Err CT "many" (.int (ws.length : Nat)) H E) ∧
  (∀ ws, cutR stP (cd z) = .ok ws → ws.length ≤ 40 → ∀ (w : Addr) (H' : Hp), H w = none → Same H H' → H' w = some (.lst (ws.map wV)) → Q (.ref w) H')
/-- at p: what is told; its words, where there are any, stand at a place that was free in H0 -/
def Told (H0 H : Hp) (p : Addr) (r : Except Nat (List (List Nat))) : Prop :=
  (∃ e, r = .error e ∧ H p = some (.lst [.str "sign", .int (e : Nat)])) ∨
  (∃ ws wd, r = .ok ws ∧ ws.length ≤ 40 ∧ H p = some (.lst [.str "told", .ref wd]) ∧ H wd = some (.lst (ws.map wV)) ∧ H0 wd = none ∧ wd ≠ p) ∨
  (∃ ws, r = .ok ws ∧ 40 < ws.length ∧ H p = some (.lst [.str "many", .int (ws.length : Nat)]))
def toldD : Except Nat (List (List Nat)) → PyData
  | .error e => .list [.str "sign", .int (e : Nat)]
  | .ok ws => if ws.length ≤ 40 then .list [.str "told", dWs ws] else .list [.str "many", .int (ws.length : Nat)]
theorem Told.dp {K : PySem.W.Frag} {H0 H : Hp} {p : Addr} {r : Except Nat (List (List Nat))} (h : Told H0 H p r) : Dp K H (.ref p) (toldD r) := by
  rcases h with ⟨e, rfl, h⟩ | ⟨ws, wd, rfl, q, h1, h2, _⟩ | ⟨ws, rfl, q, h⟩
  · exact .lst (SqL.of h) (.cons (.str _) (.cons (.int _) .nil))
  · simp only [toldD, if_pos q]
    exact .lst (SqL.of h1) (.cons (.str _) (.cons (dp_ws (SqL.of h2)) .nil))
  · simp only [toldD, if_neg (Nat.not_le_of_lt q)]
    exact .lst (SqL.of h) (.cons (.str _) (.cons (.int _) .nil))
theorem Told.mono {H0 H H' : Hp} {p : Addr} {r : Except Nat (List (List Nat))} (s : Same H H') (h : Told H0 H p r) : Told H0 H' p r := by
  rcases h with ⟨e, er, h⟩ | ⟨ws, wd, er, q, h1, h2, h3⟩ | ⟨ws, er, q, h⟩
  · exact .inl ⟨e, er, s _ _ h⟩
  · exact .inr (.inl ⟨ws, wd, er, q, s _ _ h1, s _ _ h2, h3⟩)
  · exact .inr (.inr ⟨ws, er, q, s _ _ h⟩)
theorem Told.back {H0 H1 H : Hp} {p : Addr} {r : Except Nat (List (List Nat))} (s : Same H0 H1) (h : Told H1 H p r) : Told H0 H p r := by
  rcases h with h | ⟨ws, wd, er, q, h1, h2, h3, h4⟩ | h
  · exact .inl h
  · exact .inr (.inl ⟨ws, wd, er, q, h1, h2, s.none h3, h4⟩)
  · exact .inr (.inr h)
/-- small enough to be shown -/
def Small (r : Except Nat (List (List Nat))) : Prop := match r with
  | .error e => e ≤ 100000
  | .ok ws => ws.length ≤ 100000 ∧ ∀ w ∈ ws, w.length ≤ 40 ∧ ∀ c ∈ w, c ≤ 126
theorem show_w {w : List Nat} (h : w.length ≤ 40 ∧ ∀ c ∈ w, c ≤ 126) : (PyData.shown (dW w)).length ≤ 402 := by
  have := PySem.StrLaws.reprText_len (S w) (fun c hc => by rw [S_cps] at hc; have := h.2 c hc; exact Nat.lt_of_le_of_lt this (by decide))
  rw [S_len] at this
  exact Nat.le_trans this (by have := h.1; omega)
theorem show_ws : ∀ {ws : List (List Nat)}, (∀ w ∈ ws, w.length ≤ 40 ∧ ∀ c ∈ w, c ≤ 126) → ((PyData.shownAll (ws.map dW)).map (·.length)).sum ≤ 402 * ws.length ∧ (PyData.shownAll (ws.map dW)).length = ws.length ∧ PyData.showableAll (ws.map dW) = true ∧ PyData.hasDictAll (ws.map dW) = false
  | [], _ => ⟨Nat.le_refl _, rfl, rfl, rfl⟩
  | w :: ws, h => by
    obtain ⟨a, b, c, d⟩ := show_ws (ws := ws) fun x hx => h x (List.mem_cons_of_mem _ hx)
    have := show_w (h w (List.mem_cons_self ..))
    refine ⟨?_, by rw [List.map_cons, PyData.shownAll, List.length_cons, b, List.length_cons], ?_, ?_⟩
    · rw [List.map_cons, PyData.shownAll, List.map_cons, List.sum_cons, List.length_cons]; omega
    · show (PyData.showable (dW w) && PyData.showableAll (ws.map dW)) = true
      rw [c]; rfl
    · show (PyData.hasDict (dW w) || PyData.hasDictAll (ws.map dW)) = false
      rw [d]; rfl
theorem log_small {n : Nat} (h : n ≤ 100000) : (n : Int).natAbs.log2 < 1920 := by
  rw [Int.natAbs_natCast]
  by_cases h0 : n = 0
  · subst h0; decide
  · exact Nat.lt_of_lt_of_le ((Nat.log2_lt h0).mpr (Nat.lt_of_le_of_lt h (show 100000 < 2 ^ 20 by decide))) (by decide)
theorem show_i {n : Nat} (h : n ≤ 100000) : (PyData.shown (.int (n : Nat))).length ≤ 21 := by
  show (Str.ofString (toString (n : Int))).length ≤ 21
  have := int_text_length_le (a := (n : Int)) (k := 20) (by decide) (by
    rw [Int.natAbs_natCast]
    by_cases h0 : n = 0
    · subst h0; decide
    · exact (Nat.log2_lt h0).mpr (Nat.lt_of_le_of_lt h (by decide)))
  have e : (Str.ofString (toString (n : Int))).length = (toString (n : Int)).length := PySem.ofString_length _
  omega
theorem show_two {t : Str} {d : PyData} {n : Nat} (ht : (PyData.shown (.str t)).length ≤ 10) (hd : d.shown.length ≤ n) : (PyData.shown (.list [.str t, d])).length ≤ n + 17 := by
  have := listText_len_le (PyData.shownAll [.str t, d])
  simp only [PyData.shownAll, List.map_cons, List.map_nil, List.sum_cons, List.sum_nil, List.length_cons, List.length_nil] at this
  show (listText (PyData.shownAll [.str t, d])).length ≤ _
  simp only [PyData.shownAll]
  omega
/-- what may be asked for its repr -/
def Showy (d : PyData) : Prop := d.showable = true ∧ d.depth ≤ 60 ∧ d.hasDict = false ∧ d.shown.length ≤ sizeLine
theorem showy_told {r : Except Nat (List (List Nat))} (h : Small r) : Showy (toldD r) := by
  cases r with
  | error e =>
    have h : e ≤ 100000 := h
    refine ⟨?_, by simp [toldD, PyData.depth, PyData.depthAll], rfl, Nat.le_trans (show_two (t := "sign") (by decide +kernel) (show_i h)) (by decide)⟩
    show (PyData.showable (.str "sign") && (PyData.showable (.int (e : Nat)) && true)) = true
    rw [show PyData.showable (.int (e : Nat)) = true from decide_eq_true (log_small h)]; rfl
  | ok ws =>
    obtain ⟨h1, h2⟩ : ws.length ≤ 100000 ∧ ∀ w ∈ ws, w.length ≤ 40 ∧ ∀ c ∈ w, c ≤ 126 := h
    by_cases q : ws.length ≤ 40
    · simp only [toldD, if_pos q]
      obtain ⟨a, b, c, d⟩ := show_ws h2
      have e : (PyData.shown (dWs ws)).length ≤ 20000 := by
        have := listText_len_le (PyData.shownAll (ws.map dW))
        show (listText (PyData.shownAll (ws.map dW))).length ≤ _
        omega
      refine ⟨?_, ?_, ?_, Nat.le_trans (show_two (t := "told") (by decide +kernel) e) (by decide)⟩
      · show (PyData.showable (.str "told") && (PyData.showableAll (ws.map dW) && true)) = true
        rw [c]; rfl
      · simp [PyData.depth, PyData.depthAll, dWs, dep_ws]
      · show (PyData.hasDict (.str "told") || (PyData.hasDictAll (ws.map dW) || false)) = false
        rw [d]; rfl
    · simp only [toldD, if_neg q]
      refine ⟨?_, by simp [PyData.depth, PyData.depthAll], rfl, Nat.le_trans (show_two (t := "many") (by decide +kernel) (show_i h1)) (by decide)⟩
      show (PyData.showable (.str "many") && (PyData.showable (.int (ws.length : Nat)) && true)) = true
      rw [show PyData.showable (.int (ws.length : Nat)) = true from decide_eq_true (log_small h1)]; rfl
theorem r_repr {K : PySem.W.Frag} {H : Hp} {Q : VK} {x : V} {d : PyData} (h : Dp K H x d) (s : Showy d) (k : Q (.str d.shown) H) : rRepr K [x] H Q := ⟨x, d, rfl, h, s.1, s.2.1, s.2.2.1, s.2.2.2, k⟩
def spTells (st : Sc → Nat → Nat → Except Nat Sc) : Sp := fun vs H Q _ => ∃ z : Str, vs = [.str z] ∧ Lf (cd z) ∧ ∀ (p : Addr) (H' : Hp), Same H H' → H p = none → Told H H' p (cutR st (cd z)) → Q (.ref p) H'
end J

/-! what is told of a line is small -/
namespace J
open PySem PySem.Spec PyProof.Rows L2 M
def Mid (i : Nat) (s : Sc) : Prop := s.op ≤ i ∧ s.ws.length ≤ i ∧ (∀ w ∈ s.ws, w.length ≤ 40) ∧ (s.bg.getD []).length ≤ 40
theorem mid_step {s t : Sc} {i c : Nat} (m : Mid i s) (e : stP s i c = .ok t) : Mid (i + 1) t := by
  obtain ⟨ws, bg, qt, op, tk⟩ := s
  obtain ⟨m1, m2, m3, m4⟩ := m
  simp only at m1 m2 m3 m4
  unfold stP at e
  simp only at e
  have up : ∀ {b : Option (List Nat)} {q : Nat} {o : Nat} {k : Bool}, o ≤ i + 1 → (b.getD []).length ≤ 40 → Mid (i + 1) ⟨ws, b, q, o, k⟩ := fun h1 h2 => ⟨h1, by show ws.length ≤ _; omega, m3, h2⟩
  split at e
  · cases e
  split at e
  · split at e
    · cases e
    · rename_i h
      cases e
      exact up (by omega) (by simpa using h)
  split at e
  · cases e; exact up (by omega) m4
  split at e
  · cases e; exact up (by omega) m4
  split at e
  · cases e; exact up (by omega) (by simpa using m4)
  split at e
  · cases e
    cases bg with
    | none => exact ⟨by show op ≤ _; omega, by show ws.length ≤ _; omega, m3, Nat.zero_le _⟩
    | some b =>
      refine ⟨by show op ≤ _; omega, by show (ws ++ [b]).length ≤ _; rw [List.length_append]; simp; omega, fun w hw => ?_, Nat.zero_le _⟩
      rcases List.mem_append.mp hw with h | h
      · exact m3 w h
      · rw [List.mem_singleton.mp h]; exact m4
  split at e
  · cases e
  · rename_i h
    cases e
    exact up (by omega) (by simpa using h)
theorem err_step {s : Sc} {i c e : Nat} (h : stP s i c = .error e) : e = i := by
  unfold stP at h
  repeat' split at h
  all_goals first | (injection h with h; exact h.symm) | (cases h; done)
theorem mid_scan : ∀ (l : List Nat) (i : Nat) (s : Sc), Mid i s → match M.scan stP i s l with | .ok t => Mid (i + l.length) t | .error e => e < i + l.length
  | [], i, s, m => m
  | c :: l, i, s, m => by
    simp only [M.scan]
    cases q : stP s i c with
    | error e =>
      have := err_step q
      show e < _
      rw [List.length_cons]; omega
    | ok t =>
      have := mid_scan l (i + 1) t (mid_step m q)
      rw [List.length_cons, show i + (l.length + 1) = i + 1 + l.length by omega]
      exact this
theorem small_cut {l : List Nat} (h : Lf l) : Small (cutR stP l) := by
  have m := mid_scan l 0 sc0 ⟨Nat.le_refl _, Nat.le_refl _, fun _ h => (List.not_mem_nil h).elim, Nat.zero_le _⟩
  rw [Nat.zero_add] at m
  have h1 := h.1
  unfold cutR
  cases q : M.scan stP 0 sc0 l with
  | error e =>
    rw [q] at m
    exact show e ≤ 100000 by have : e < l.length := m; omega
  | ok t =>
    rw [q] at m
    obtain ⟨m1, m2, m3, m4⟩ := m
    by_cases k1 : t.tk = true
    · simp only [if_pos k1]; exact show l.length - 1 ≤ 100000 by omega
    simp only [if_neg k1]
    by_cases k2 : t.qt ≠ 0
    · simp only [if_pos k2]; exact show t.op ≤ 100000 by omega
    simp only [if_neg k2]
    have wd := scan_wd (fun c hc => by have := h.2 c hc; omega) q
    refine ⟨?_, fun w hw => ?_⟩
    · show (t.ws ++ t.bg.toList).length ≤ _
      have : t.bg.toList.length ≤ 1 := by cases t.bg <;> simp
      rw [List.length_append]; omega
    · rcases List.mem_append.mp hw with x | x
      · exact ⟨m3 w x, wd.1 w x⟩
      · cases b : t.bg with
        | none => rw [b] at x; cases x
        | some y =>
          rw [b] at x m4 wd
          rw [List.mem_singleton.mp x]
          exact ⟨m4, wd.2⟩
end J

/-! whole lines of up to forty words; texts some times over -/
namespace J
open PySem PySem.Spec PyProof.Rows L2 M
theorem scan_ws {l : List Nat} {t : Sc} (h : M.scan stP 0 sc0 l = .ok t) : t.ws.length ≤ l.length := by
  have m := mid_scan l 0 sc0 ⟨Nat.le_refl _, Nat.le_refl _, fun _ h => (List.not_mem_nil h).elim, Nat.zero_le _⟩
  rw [h] at m
  have := m.2.1
  omega
theorem scanL_ws {l : List Nat} {t : Sc} (n : ∀ c ∈ l, c ≠ 0) (h : M.scan stL 0 sc0 l = .ok t) : t.ws.length ≤ l.length := by
  have q := scan_eq l 0 sc0 ⟨.inl rfl, fun h => by cases h⟩ n
  cases e : M.scan stP 0 sc0 l with
  | error x =>
    rw [e] at q
    rw [show M.scan stL 0 sc0 l = _ from q] at h
    cases h
  | ok u =>
    rw [e] at q
    rw [show M.scan stL 0 sc0 l = _ from q.1] at h
    cases h
    have := scan_ws e
    obtain ⟨ws, bg, qt, op, tk⟩ := u
    unfold lw
    split <;> exact this
theorem foldl_cat (l : Array Nat) : ∀ (k : Nat) (acc : Array Nat), ((List.replicate k l).foldl (· ++ ·) acc).toList = acc.toList ++ (List.replicate k l.toList).flatten
  | 0, acc => by simp
  | k + 1, acc => by
    rw [List.replicate_succ, List.foldl_cons, foldl_cat l k, List.replicate_succ, List.flatten_cons]
    simp
theorem mul_cd (z : Str) (n : Nat) : cd (Txt.mul z (n : Int)) = (List.replicate n (cd z)).flatten := by
  unfold Txt.mul
  by_cases h1 : (n : Int) < 1
  · rw [if_pos h1, show n = 0 by omega]; rfl
  · rw [if_neg h1]
    by_cases h2 : n = 1
    · subst h2; simp
    · by_cases h3 : z.length = 0
      · rw [if_pos (by rw [h3]; simp)]
        have e : cd z = [] := by rw [len_cd] at h3; exact List.eq_nil_of_length_eq_zero h3
        rw [e]
        simp
      · rw [if_neg (by simp; omega)]
        show ((List.replicate ((n : Nat) : Int).toNat z.cps).foldl (· ++ ·) #[]).toList = _
        rw [foldl_cat, Int.toNat_natCast]; simp
theorem mul_ok {z : Str} {n : Nat} (hz : z.length ≤ 1000) (hn : n ≤ 1000) : MulOk z (n : Int) := by
  refine ⟨by simp; omega, fun h1 _ => ?_, fun h1 _ => ?_⟩
  · have : (1000 : Int) ≤ (2 ^ 63 - 1) / (n : Int) := Int.le_ediv_of_mul_le (by omega) (by omega)
    omega
  · have : z.length * ((n : Nat) : Int).toNat ≤ 1000 * 1000 := Nat.mul_le_mul hz (by omega)
    unfold Builtin.Str.tooLong
    refine decide_eq_false (Nat.not_lt.mpr (Nat.le_trans this (by decide)))
theorem rep_len (n : Nat) (l : List Nat) : (List.replicate n l).flatten.length = n * l.length := by simp
theorem rep_mem {n : Nat} {l : List Nat} {c : Nat} (h : c ∈ (List.replicate n l).flatten) : c ∈ l := by
  obtain ⟨m, hm, hc⟩ := List.mem_flatten.mp h
  rw [(List.mem_replicate.mp hm).2] at hc
  exact hc
theorem wro_len {l o : List Nat} (h : WrO l o) : o.length ≤ 4 + 4 * l.length := by
  rcases h with ⟨_, h⟩ | ⟨_, h⟩
  · simp only [List.mem_cons, List.not_mem_nil, or_false] at h  -- own
    rcases h with h | h | h | h <;> subst h <;> simp only [List.length_cons, List.length_nil] <;> omega
  · have := h.len; omega
/-- a line of these words, not long -/
def LineA (ls : List (List Nat)) (f : List Nat) : Prop := f.length ≤ 1200 ∧ (∀ c ∈ f, c = 10 ∨ 32 ≤ c ∧ c ≤ 126) ∧ ∃ t, M.scan stP 0 sc0 f = .ok t ∧ t.tk = false ∧ t.qt = 0 ∧ fin t = ls
theorem LineA.cut {ls : List (List Nat)} {f : List Nat} (h : LineA ls f) : cutR stP f = .ok ls := by
  obtain ⟨_, _, t, e, h1, h2, h3⟩ := h
  unfold cutR
  rw [e]
  simp only [h1, Bool.false_eq_true, if_false]
  rw [if_neg (fun q => q h2), h3]
theorem LineA.lf {ls : List (List Nat)} {f : List Nat} (h : LineA ls f) : Lf f := ⟨Nat.le_trans h.1 (by decide), h.2.1⟩
def spGood : Sp := fun vs H Q _ => ∃ (b : Addr) (n : Nat), vs = [.ref b] ∧ Bx H b n ∧ n ≤ 500000000 ∧ ∀ (ls : List (List Nat)) (f : List Nat) (p wd : Addr) (H' : Hp), ls.length ≤ 40 → (∀ l ∈ ls, Wd l) → LineA ls f → Keep b H H' → Bx H' b (n + 100000) →
  H' p = some (.tup [.ref wd, .str (S f)]) → H' wd = some (.lst (ls.map wV)) → p ≠ b → wd ≠ b → Q (.ref p) H'
def spLineZ : Sp := fun vs H Q _ => ∃ (b : Addr) (n : Nat), vs = [.ref b] ∧ Bx H b n ∧ n ≤ 400000000 ∧ ∀ (f : List Nat) (H' : Hp), f.length ≤ 1300 → (∀ c ∈ f, c = 10 ∨ 32 ≤ c ∧ c ≤ 126) → Keep b H H' → Bx H' b (n + 200000) → Q (.str (S f)) H'
def spRightZ : Sp := fun vs H Q _ => ∃ z : Str, vs = [.str z] ∧ Lf (cd z) ∧ ∀ H', Same H H' → Q (.bl true) H'
theorem sh_told {ls : List (List Nat)} (h : ∀ l ∈ ls, Wd l) : SeqAt.shaped (.list [.str "told", dWs ls]) = true := sh_two (by decide +kernel) (wd126 h)
end J

namespace J
open PySem PySem.Spec PyProof.Rows L2 M
theorem Bx.same {b : Addr} {H H' : Hp} {n : Nat} (h : Bx H b n) (s : Same H H') : Bx H' b n := let ⟨x, y, z, e, r⟩ := h; ⟨x, y, z, s _ _ e, r⟩
theorem lf_app {x y : Str} (hx : (cd x).length ≤ 1000) (hy : (cd y).length ≤ 1000) (cx : ∀ c ∈ cd x, c = 10 ∨ 32 ≤ c ∧ c ≤ 126) (cy : ∀ c ∈ cd y, c = 10 ∨ 32 ≤ c ∧ c ≤ 126) : Lf (cd (x ++ y)) := by
  rw [cd_app]
  refine ⟨by rw [List.length_append]; omega, fun c hc => (List.mem_append.mp hc).elim (cx c) (cy c)⟩
end J

/-! what is told of a line that breaks off, and its repr -/
namespace J
open PySem PySem.Spec PyProof.Rows L2 M
def stR (st : Sc → Nat → Nat → Except Nat Sc) (l : List Nat) : Except Nat Sc := match M.scan st 0 sc0 l with
  | .error e => .error e
  | .ok t => if t.tk = true then .error (l.length - 1) else .ok t
def cnt (t : Sc) : Nat := t.ws.length + t.bg.toList.length
theorem stR_eq {l : List Nat} (h : ∀ c ∈ l, c ≠ 0) : stR stL l = stR stP l := by
  have q := scan_eq l 0 sc0 ⟨.inl rfl, fun h => by cases h⟩ h
  unfold stR
  cases e : M.scan stP 0 sc0 l with
  | error x => rw [e] at q; rw [show M.scan stL 0 sc0 l = _ from q]
  | ok t =>
    rw [e] at q
    rw [show M.scan stL 0 sc0 l = _ from q.1]
    obtain ⟨ws, bg, qt, op, tk⟩ := t
    cases tk <;> rfl
def ToldS (F : Prop) (H0 H : Hp) (p : Addr) (r : Except Nat Sc) : Prop :=
  (∃ e, r = .error e ∧ H p = some (.lst [.str "sign", .int (e : Nat)])) ∨
  (∃ t q wd, r = .ok t ∧ cnt t ≤ 40 ∧ H p = some (.lst [.str "told", .ref q]) ∧ H q = some (.tup [.ref wd, obV t.bg, .str (qS t.qt)]) ∧ H wd = some (.lst (t.ws.map wV)) ∧ (F → H0 wd = none) ∧ wd ≠ p ∧ wd ≠ q) ∨
  (∃ t, r = .ok t ∧ 40 < cnt t ∧ H p = some (.lst [.str "many", .int (cnt t : Nat)]))
def obD : Option (List Nat) → PyData
  | none => .none
  | some l => dW l
def stD3 (t : Sc) : PyData := .tuple [dWs t.ws, obD t.bg, .str (qS t.qt)]
def tlS : Except Nat Sc → PyData
  | .error e => .list [.str "sign", .int (e : Nat)]
  | .ok t => if cnt t ≤ 40 then .list [.str "told", stD3 t] else .list [.str "many", .int (cnt t : Nat)]
theorem dp_ob {K : PySem.W.Frag} {H : Hp} : ∀ b : Option (List Nat), Dp K H (obV b) (obD b)
  | none => .non
  | some l => .str _
theorem ToldS.dp {F : Prop} {K : PySem.W.Frag} {H0 H : Hp} {p : Addr} {r : Except Nat Sc} (h : ToldS F H0 H p r) : Dp K H (.ref p) (tlS r) := by
  rcases h with ⟨e, rfl, h⟩ | ⟨t, q, wd, rfl, c, h1, h2, h3, _⟩ | ⟨t, rfl, c, h⟩
  · exact .lst (SqL.of h) (.cons (.str _) (.cons (.int _) .nil))
  · simp only [tlS, if_pos c]
    exact .lst (SqL.of h1) (.cons (.str _) (.cons (.tup (SqT.of h2) (.cons (dp_ws (SqL.of h3)) (.cons (dp_ob _) (.cons (.str _) .nil)))) .nil))
  · simp only [tlS, if_neg (Nat.not_le_of_lt c)]
    exact .lst (SqL.of h) (.cons (.str _) (.cons (.int _) .nil))
theorem ToldS.mono {F : Prop} {H0 H H' : Hp} {p : Addr} {r : Except Nat Sc} (s : Same H H') (h : ToldS F H0 H p r) : ToldS F H0 H' p r := by
  rcases h with ⟨e, er, h⟩ | ⟨t, q, wd, er, c, h1, h2, h3, h4⟩ | ⟨t, er, c, h⟩
  · exact .inl ⟨e, er, s _ _ h⟩
  · exact .inr (.inl ⟨t, q, wd, er, c, s _ _ h1, s _ _ h2, s _ _ h3, h4⟩)
  · exact .inr (.inr ⟨t, er, c, s _ _ h⟩)
def SmallS (r : Except Nat Sc) : Prop := match r with
  | .error e => e ≤ 100000
  | .ok t => t.ws.length ≤ 100000 ∧ (∀ w ∈ t.ws, w.length ≤ 40 ∧ ∀ c ∈ w, c ≤ 126) ∧ ((t.bg.getD []).length ≤ 40 ∧ ∀ c ∈ t.bg.getD [], c ≤ 126) ∧ (t.qt = 0 ∨ t.qt = 39 ∨ t.qt = 34)
theorem small_st {l : List Nat} (h : Lf l) : SmallS (stR stP l) := by
  have m := mid_scan l 0 sc0 ⟨Nat.le_refl _, Nat.le_refl _, fun _ h => (List.not_mem_nil h).elim, Nat.zero_le _⟩
  have g := scan_eq l 0 sc0 ⟨.inl rfl, fun h => by cases h⟩ (lf_ne h)
  rw [Nat.zero_add] at m
  have h1 := h.1
  unfold stR
  cases q : M.scan stP 0 sc0 l with
  | error e =>
    rw [q] at m
    exact show e ≤ 100000 by have : e < l.length := m; omega
  | ok t =>
    rw [q] at m g
    obtain ⟨m1, m2, m3, m4⟩ := m
    by_cases k1 : t.tk = true
    · simp only [if_pos k1]; exact show l.length - 1 ≤ 100000 by omega
    simp only [if_neg k1]
    have wd := scan_wd (fun c hc => by have := h.2 c hc; omega) q
    exact ⟨by omega, fun w hw => ⟨m3 w hw, wd.1 w hw⟩, ⟨m4, wd.2⟩, g.2.1⟩
theorem show_ob {b : Option (List Nat)} (h : (b.getD []).length ≤ 40 ∧ ∀ c ∈ b.getD [], c ≤ 126) : (PyData.shown (obD b)).length ≤ 402 ∧ (obD b).showable = true ∧ (obD b).hasDict = false ∧ (obD b).depth = 0 := by
  cases b with
  | none => exact ⟨by decide +kernel, rfl, rfl, rfl⟩
  | some l => exact ⟨show_w h, rfl, rfl, rfl⟩
theorem show_qs {q : Nat} (h : q = 0 ∨ q = 39 ∨ q = 34) : (PyData.shown (.str (qS q))).length ≤ 10 := by
  rcases h with rfl | rfl | rfl <;> decide +kernel
theorem showy_st {r : Except Nat Sc} (h : SmallS r) : Showy (tlS r) := by
  cases r with
  | error e =>
    have h : e ≤ 100000 := h
    refine ⟨?_, by simp [tlS, PyData.depth, PyData.depthAll], rfl, Nat.le_trans (show_two (t := "sign") (by decide +kernel) (show_i h)) (by decide)⟩
    show (PyData.showable (.str "sign") && (PyData.showable (.int (e : Nat)) && true)) = true
    rw [show PyData.showable (.int (e : Nat)) = true from decide_eq_true (log_small h)]; rfl
  | ok t =>
    obtain ⟨h1, h2, h3, h4⟩ : t.ws.length ≤ 100000 ∧ (∀ w ∈ t.ws, w.length ≤ 40 ∧ ∀ c ∈ w, c ≤ 126) ∧ ((t.bg.getD []).length ≤ 40 ∧ ∀ c ∈ t.bg.getD [], c ≤ 126) ∧ (t.qt = 0 ∨ t.qt = 39 ∨ t.qt = 34) := h
    by_cases q : cnt t ≤ 40
    · simp only [tlS, if_pos q]
      obtain ⟨a, b, c, d⟩ := show_ws h2
      obtain ⟨o1, o2, o3, o4⟩ := show_ob h3
      have q1 := show_qs h4
      have wl : t.ws.length ≤ 40 := by unfold cnt at q; omega
      have e : (PyData.shown (dWs t.ws)).length ≤ 20000 := by
        have := listText_len_le (PyData.shownAll (t.ws.map dW))
        show (listText (PyData.shownAll (t.ws.map dW))).length ≤ _
        omega
      have e3 : (PyData.shown (stD3 t)).length ≤ 21000 := by
        have := tupleText_len_le (PyData.shownAll [dWs t.ws, obD t.bg, .str (qS t.qt)])
        simp only [PyData.shownAll, List.map_cons, List.map_nil, List.sum_cons, List.sum_nil, List.length_cons, List.length_nil] at this
        show (tupleText (PyData.shownAll [dWs t.ws, obD t.bg, .str (qS t.qt)])).length ≤ _
        simp only [PyData.shownAll]
        omega
      refine ⟨?_, ?_, ?_, Nat.le_trans (show_two (t := "told") (by decide +kernel) e3) (by decide)⟩
      · show (PyData.showable (.str "told") && ((PyData.showableAll (t.ws.map dW) && (PyData.showable (obD t.bg) && (PyData.showable (.str (qS t.qt)) && true))) && true)) = true
        rw [c, o2]; rfl
      · simp [PyData.depth, PyData.depthAll, stD3, dWs, dep_ws, o4]
      · show (PyData.hasDict (.str "told") || ((PyData.hasDictAll (t.ws.map dW) || (PyData.hasDict (obD t.bg) || (PyData.hasDict (.str (qS t.qt)) || false))) || false)) = false
        rw [d, o3]; rfl
    · simp only [tlS, if_neg q]
      have : cnt t ≤ 100001 := by unfold cnt; have : t.bg.toList.length ≤ 1 := (by cases t.bg <;> simp); omega
      have c5 : cnt t ≤ 100000 ∨ cnt t = 100001 := by omega
      have lg : (((cnt t : Nat) : Int)).natAbs.log2 < 1920 := by
        rcases c5 with c5 | c5
        · exact log_small c5
        · rw [c5]; decide +kernel
      have sh : (PyData.shown (.int (cnt t : Nat))).length ≤ 21 := by
        rcases c5 with c5 | c5
        · exact show_i c5
        · rw [c5]; decide +kernel
      refine ⟨?_, by simp [PyData.depth, PyData.depthAll], rfl, Nat.le_trans (show_two (t := "many") (by decide +kernel) sh) (by decide)⟩
      show (PyData.showable (.str "many") && (PyData.showable (.int (cnt t : Nat)) && true)) = true
      rw [show PyData.showable (.int (cnt t : Nat)) = true from decide_eq_true lg]; rfl
def spTellsS (F : Prop) (st : Sc → Nat → Nat → Except Nat Sc) : Sp := fun vs H Q _ => ∃ z : Str, vs = [.str z] ∧ Lf (cd z) ∧ ∀ (p : Addr) (H' : Hp), Same H H' → H p = none → ToldS F H H' p (stR st (cd z)) → Q (.ref p) H'
def spStateOf (C CT : Addr) : Sp := fun vs H Q E => ∃ z : Str, vs = [.str z] ∧ Lf (cd z) ∧
  (∀ e, stR stP (cd z) = .error e → Err C "at" (.int (e : Nat)) H E) ∧
  (∀ t, stR stP (cd z) = .ok t → 40 < cnt t → Err CT "many" (.int (cnt t : Nat)) H E) ∧
  (∀ t, stR stP (cd z) = .ok t → cnt t ≤ 40 → ∀ (p wd : Addr) (H' : Hp), H p = none → H wd = none → Same H H' → H' p = some (.tup [.ref wd, obV t.bg, .str (qS t.qt)]) → H' wd = some (.lst (t.ws.map wV)) → wd ≠ p → Q (.ref p) H')
/-- for i in range(lo, lo + q) -/
theorem r_for2 {σ : L2.St} {H : Hp} {n' : L2.St → Hp → Prop} {rt : VK} {bk ct : L2.St → Hp → Prop} {lo q : Nat} {g : TG} {tb : TS} (I : Nat → L2.St → Hp → Prop) (start : I 0 σ H)
    (turn : ∀ (j : Nat) σ1 H1, j < q → I j σ1 H1 → g (.int ((lo + j : Nat))) σ1 H1 fun σ2 H2 => tb ⟨I (j + 1), rt, n', I (j + 1)⟩ σ2 H2)
    (fin : ∀ σ1 H1, I q σ1 H1 → n' σ1 H1) : LoopQ (Itr (lo : Nat) q) g tb ⟨n', rt, bk, ct⟩ σ H := by
  exact loop_of (D := ⟨n', rt, bk, ct⟩) q I start (fun j _ _ hj _ => hj) (fun _ _ _ => Nat.le_refl _) (fun j σ1 H1 x H' hj w y => by
    obtain ⟨rfl, rfl⟩ := y
    have := turn j σ1 _ hj w
    rwa [show (((lo + j : Nat)) : Int) = (lo : Int) + (j : Int) from by omega] at this) fin
theorem r_repn {l : Addr} {xs : List V} {n : Nat} {H : Hp} {Q : VK} (h : H l = some (.lst xs)) (hx : xs.length ≤ 1000) (hn : n ≤ 1000) (k : ∀ p, H p = none → Q (.ref p) (upd H p (.lst (List.replicate n xs).flatten))) : J.rMul (.ref l) (.int (n : Nat)) H Q :=
  .inr (.inr ⟨l, _, xs, rfl, rfl, h, by omega, by omega, by rw [Int.toNat_natCast]; exact Nat.le_trans (Nat.mul_le_mul hx hn) (by decide), by rw [Int.toNat_natCast]; exact k⟩)
end J

namespace J
open PySem PySem.Spec PyProof.Rows L2 M
theorem r_irng2 {ta : TA} {σ : L2.St} {H : Hp} {R : It → Hp → Prop} (k : ta σ H fun vs H1 => ∃ i j : Int, vs = [.int i, .int j] ∧ (-(2 ^ 62) ≤ i ∧ i < 2 ^ 62 ∧ -(2 ^ 62) ≤ j ∧ j < 2 ^ 62) ∧ R (Itr i (j - i).toNat) H1) : iRng2 ta σ H R := k
theorem dpa_rep {K : PySem.W.Frag} {H : Hp} {x : V} {d : PyData} (h : Dp K H x d) : ∀ n : Nat, DpAll K H (List.replicate n x) (List.replicate n d)
  | 0 => .nil
  | n + 1 => .cons h (dpa_rep h n)
theorem r_neD0 {K : PySem.W.Frag} {H : Hp} {Q : VK} {x y : V} {d e : PyData} (hd : Dp K H x d) (he : Dp K H y e) (sd : SeqAt.shaped d = true) (se : SeqAt.shaped e = true) (q : PyData.eqv d e = true) (k : Q (.bl false) H) : rNeA K x y H Q := .inr ⟨d, e, hd, he, sd, se, by rw [q]; exact k⟩
theorem rep_one (n : Nat) (x : V) : (List.replicate n [x]).flatten = List.replicate n x := by
  induction n with
  | zero => rfl
  | succ n ih => rw [List.replicate_succ, List.flatten_cons, ih]; rfl
def isSt : Except Nat Sc → Sc → Bool
  | .ok t, u => decide (t.ws = u.ws ∧ t.bg = u.bg ∧ t.qt = u.qt ∧ t.op = u.op ∧ t.tk = u.tk)
  | _, _ => false
theorem isSt_eq {r : Except Nat Sc} {u : Sc} (h : isSt r u = true) : r = .ok u := by
  cases r with
  | error e => cases h
  | ok t =>
    obtain ⟨a, b, c, d, e⟩ := of_decide_eq_true (show decide (t.ws = u.ws ∧ t.bg = u.bg ∧ t.qt = u.qt ∧ t.op = u.op ∧ t.tk = u.tk) = true from h)
    obtain ⟨ws, bg, qt, op, tk⟩ := t
    obtain ⟨ws', bg', qt', op', tk'⟩ := u
    simp only at a b c d e
    subst a b c d e
    rfl
def s39 : Sc := ⟨List.replicate 39 [97], some [98], 0, 0, false⟩
def s40 : Sc := ⟨List.replicate 40 [97], some [], 39, 80, false⟩
theorem st39 : stR stP ((List.replicate 39 [97, 32]).flatten ++ [98]) = .ok s39 := isSt_eq (by decide +kernel)
theorem st40 : stR stP ((List.replicate 40 [97, 32]).flatten ++ [39]) = .ok s40 := isSt_eq (by decide +kernel)
def d39 : PyData := .list [.str "told", .tuple [.list (List.replicate 39 (.str "a")), .str "b", .str ""]]
theorem eqv39 : PyData.eqv (tlS (.ok s39)) d39 = true ∧ SeqAt.shaped (tlS (.ok s39)) = true ∧ SeqAt.shaped d39 = true := by decide +kernel
def d41 : PyData := .list [.str "many", .int 41]
theorem eqv41 : PyData.eqv (tlS (.ok s40)) d41 = true ∧ SeqAt.shaped (tlS (.ok s40)) = true ∧ SeqAt.shaped d41 = true := by decide +kernel
theorem lf39 : Lf ((List.replicate 39 [97, 32]).flatten ++ [98]) := ⟨by decide +kernel, by decide +kernel⟩
theorem lf40 : Lf ((List.replicate 40 [97, 32]).flatten ++ [39]) := ⟨by decide +kernel, by decide +kernel⟩
theorem t39 : cd (Txt.mul "a " 39 ++ Str.ofString "b") = (List.replicate 39 [97, 32]).flatten ++ [98] := by
  rw [cd_app, show cd (Txt.mul "a " 39) = _ from mul_cd "a " 39]; decide +kernel
theorem t40 : cd (Txt.mul "a " 40 ++ Str.ofString "'") = (List.replicate 40 [97, 32]).flatten ++ [39] := by
  rw [cd_app, show cd (Txt.mul "a " 40) = _ from mul_cd "a " 40]; decide +kernel
end J

/-! questions of a text's signs; max(ints, default=d); a line's words by its gaps -/
namespace J
open PySem PySem.Spec PyProof.Rows L2 M
/-! ### questions of a text -/
def rIs (f : Str → Bool) : V → List V → Hp → VK → Prop := fun x xs H Q => ∃ a, x = .str a ∧ xs = [] ∧ True ∧ Q (.bl (f a)) H
def rWords : V → List V → Hp → VK → Prop := fun x xs H Q => ∃ a, x = .str a ∧ xs = [] ∧ a.length + 2 ≤ sizeLine ∧ rNewStrs (Txt.words a) H Q
theorem r_m0 {σ : L2.St} {H : Hp} {Q : VK} {r : V → List V → Hp → VK → Prop} {to : TE} (k : to σ H fun x H1 => (∃ a, x = .str a) ∧ r x [] H1 Q) : tM0 r to σ H Q := k
theorem r_is {f : Str → Bool} {z : Str} {H : Hp} {Q : VK} (k : Q (.bl (f z)) H) : rIs f (.str z) [] H Q := ⟨z, rfl, rfl, trivial, k⟩
theorem mA_isascii {X : Cx} : MtR X "str.isascii" (rIs Txt.isascii) := mt_isascii
theorem mA_isprintable {X : Cx} : MtR X "str.isprintable" (rIs Txt.isprintable) := mt_isprintable
theorem mA_isalnum {X : Cx} : MtR X "str.isalnum" (rIs Txt.isalnum) := mt_isalnum
theorem mA_isalpha {X : Cx} : MtR X "str.isalpha" (rIs Txt.isalpha) := mt_isalpha
theorem mA_islower {X : Cx} : MtR X "str.islower" (rIs Txt.islower) := mt_islower
theorem mA_isdigit {X : Cx} : MtR X "str.isdigit" (rIs Txt.isdigit) := mt_isdigit
theorem mA_words {X : Cx} : MtR X "str.split" rWords := mt_words
theorem all_cd {p : Nat → Bool} {z : Str} : z.cps.all p = (cd z).all p := by rw [← Array.all_toList]
theorem pr_c : ∀ c, c < 128 → Unicode.isPrintable c = decide (32 ≤ c ∧ c ≤ 126) := by decide +kernel
theorem an_c : ∀ c, c < 128 → Unicode.isAlnum c = true → 32 ≤ c ∧ c ≤ 126 ∧ c ≠ 32 ∧ c ≠ 39 ∧ c ≠ 34 ∧ c ≠ 92 := by decide +kernel
theorem sp_c : ∀ c, c < 128 → (c = 10 ∨ 32 ≤ c) → Unicode.isSpace c = decide (c = 10 ∨ c = 32) := by decide +kernel
/-- both questions together: each is a sign -/
theorem ascii_sg (z : Str) : (Txt.isascii z && Txt.isprintable z) = sg (cd z) := by
  unfold Txt.isascii Txt.isprintable sg
  rw [all_cd, all_cd, Bool.eq_iff_iff, Bool.and_eq_true, List.all_eq_true, List.all_eq_true, List.all_eq_true]
  refine ⟨fun h c hc => ?_, fun h => ⟨fun c hc => ?_, fun c hc => ?_⟩⟩
  · rw [← pr_c c (of_decide_eq_true (h.1 c hc))]
    exact h.2 c hc
  · have := of_decide_eq_true (h c hc)
    exact decide_eq_true (by omega)  -- own
  · have := of_decide_eq_true (h c hc)
    rw [pr_c c (by omega)]
    exact h c hc
/-- letters and figures: none that needs a stroke, and at least one -/
theorem alnum_sg {z : Str} (h : ∀ c ∈ cd z, 32 ≤ c ∧ c ≤ 126) (e : Txt.isalnum z = true) : cd z ≠ [] ∧ ∀ c ∈ cd z, c ∉ N1 := by
  unfold Txt.isalnum at e
  rw [all_cd, Bool.and_eq_true, List.all_eq_true] at e
  refine ⟨fun q => ?_, fun c hc => ?_⟩
  · have := of_decide_eq_true e.1
    rw [len_cd, q] at this
    exact Nat.lt_irrefl 0 this
  · have := an_c c (by have := h c hc; omega) (e.2 c hc)
    simp only [N1, List.mem_cons, List.not_mem_nil, or_false]
    omega
/-- such a word is its own shortest way -/
theorem FM_alnum {l : List Nat} (h0 : l ≠ []) (h : ∀ c ∈ l, c ∉ N1) : FM (ways l) l := by
  have e1 : esc N1 l = l := esc_none h
  have n39 : 39 ∉ l := fun q => h 39 q (by decide)
  refine ⟨0, ?_, fun j w hj => ?_⟩
  · simp only [ways, if_neg h0, e1]; rfl
  · refine ⟨?_, fun q => absurd q (Nat.not_lt_zero _)⟩
    have hw : w ∈ ways l := List.mem_of_getElem? hj
    simp only [ways, if_neg h0, if_neg n39, e1, List.cons_append, List.nil_append, List.mem_cons, List.not_mem_nil, or_false] at hw
    rcases hw with rfl | rfl | rfl
    · exact Nat.le_refl _
    · simp only [List.length_cons, List.length_append]; omega
    · have : ∀ n : List Nat, ∀ l : List Nat, l.length ≤ (esc n l).length := fun n l => by
        induction l with
        | nil => exact Nat.zero_le _
        | cons c r ih =>
          rw [esc_eq, List.map_cons, List.flatten_cons, ← esc_eq, List.length_append, List.length_cons]
          split <;> simp only [List.length_cons, List.length_nil] <;> omega
      have := this N2 l
      simp only [List.length_cons, List.length_append]; omega
/-! ### the words of a line without quotes and strokes -/
theorem run_keeps : ∀ (l : List Nat) (st : KWd.St), (∀ w ∈ st.1, w ∈ (l.foldl KWd.step st).1) ∧ (st.2.length ≤ (l.foldl KWd.step st).2.length ∨ ∃ w ∈ (l.foldl KWd.step st).1, st.2.length ≤ w.length)
  | [], st => ⟨fun _ h => h, .inl (Nat.le_refl _)⟩
  | c :: l, st => by
    rw [List.foldl_cons]
    obtain ⟨i1, i2⟩ := run_keeps l (KWd.step st c)
    unfold KWd.step at i1 i2 ⊢
    by_cases hs : Unicode.isSpace c = true
    · simp only [hs, if_true] at i1 i2 ⊢
      by_cases h0 : st.2.length = 0
      · simp only [h0, if_true] at i1 i2 ⊢
        exact ⟨i1, .inl (Nat.zero_le _)⟩
      · simp only [h0, if_false] at i1 i2 ⊢
        exact ⟨fun w hw => i1 w (List.mem_append_left _ hw), .inr ⟨st.2, i1 _ (List.mem_append_right _ (List.mem_singleton.mpr rfl)), Nat.le_refl _⟩⟩
    · simp only [hs, if_false] at i1 i2 ⊢
      have le : st.2.length ≤ (st.2 ++ ⟨#[c]⟩ : Str).length := by rw [len_app]; omega
      refine ⟨i1, i2.imp (fun h => Nat.le_trans le h) fun ⟨w, hw, h⟩ => ⟨w, hw, Nat.le_trans le h⟩⟩
def bgOf (r : Str) : Option (List Nat) := if r.length = 0 then none else some (cd r)
theorem bg_len (r : Str) : ((bgOf r).getD []).length = r.length := by
  unfold bgOf
  split
  · rename_i h; rw [h]; rfl
  · rw [len_cd]; rfl
theorem bg_getD (r : Str) : (bgOf r).getD [] = cd r := by
  unfold bgOf
  split
  · rename_i h
    rw [len_cd] at h
    exact (List.eq_nil_of_length_eq_zero h).symm
  · rfl
theorem scan_plain : ∀ (l : List Nat) (i : Nat) (st : KWd.St), (∀ c ∈ l, (c = 10 ∨ 32 ≤ c ∧ c ≤ 126) ∧ c ≠ 39 ∧ c ≠ 34 ∧ c ≠ 92) →
    (∀ w ∈ (l.foldl KWd.step st).1, w.length ≤ 40) → (l.foldl KWd.step st).2.length ≤ 40 →
    M.scan stP i ⟨st.1.map (fun z => cd z), bgOf st.2, 0, 0, false⟩ l = .ok ⟨(l.foldl KWd.step st).1.map (fun z => cd z), bgOf (l.foldl KWd.step st).2, 0, 0, false⟩
  | [], i, st, _, _, _ => rfl
  | c :: l, i, st, h, hw, hr => by
    obtain ⟨hc, n39, n34, n92⟩ := h c (List.mem_cons_self ..)
    rw [List.foldl_cons] at hw hr ⊢
    have ih := scan_plain l (i + 1) (KWd.step st c) (fun d hd => h d (List.mem_cons_of_mem _ hd)) hw hr
    have e : stP ⟨st.1.map (fun z => cd z), bgOf st.2, 0, 0, false⟩ i c = .ok ⟨(KWd.step st c).1.map (fun z => cd z), bgOf (KWd.step st c).2, 0, 0, false⟩ := by
      have sp := sp_c c (by omega) (by omega)
      have c0 : c ≠ 0 := by omega
      by_cases hs : c = 10 ∨ c = 32
      · have st1 : stP ⟨st.1.map (fun z => cd z), bgOf st.2, 0, 0, false⟩ i c = .ok ⟨(match bgOf st.2 with | some b => st.1.map (fun z => cd z) ++ [b] | none => st.1.map (fun z => cd z)), none, 0, 0, false⟩ := by
          unfold stP
          rw [if_neg (by simp), if_neg (by simp), if_neg (by simp; omega), if_neg (by simp; omega), if_neg (by simp; omega), if_pos (by simp; omega)]
          all_goals (cases bgOf st.2 <;> rfl)
        rw [st1]
        unfold KWd.step
        rw [sp, decide_eq_true hs]
        simp only [if_true]
        by_cases h0 : st.2.length = 0
        · rw [if_pos h0]
          have : bgOf st.2 = none := if_pos h0
          rw [this]
        · rw [if_neg h0]
          have b1 : bgOf st.2 = some (cd st.2) := if_neg h0
          have b2 : bgOf Str.empty = none := rfl
          rw [b1, b2, List.map_append]; rfl
      · have k : KWd.step st c = (st.1, st.2 ++ ⟨#[c]⟩) := by
          unfold KWd.step
          rw [sp, decide_eq_false hs]; rfl
        have rk := (run_keeps l (KWd.step st c)).2
        rw [k] at rk hw hr ⊢
        have le : (st.2 ++ ⟨#[c]⟩ : Str).length ≤ 40 := rk.elim (fun q => Nat.le_trans q hr) fun ⟨w, hw', q⟩ => Nat.le_trans q (hw w hw')
        rw [len_app] at le
        have le : st.2.length + 1 ≤ 40 := le
        clear rk
        have st1 : stP ⟨st.1.map (fun z => cd z), bgOf st.2, 0, 0, false⟩ i c = .ok ⟨st.1.map (fun z => cd z), some ((bgOf st.2).getD [] ++ [c]), 0, 0, false⟩ := by
          unfold stP
          rw [if_neg (by simp), if_neg (by simp), if_neg (by simp; omega), if_neg (by simp; omega), if_neg (by simp; omega), if_neg (by simp; omega), if_neg (by rw [List.length_append, bg_len]; simp only [List.length_cons, List.length_nil]; omega)]
        rw [st1, bg_getD]
        have : bgOf (st.2 ++ ⟨#[c]⟩) = some (cd st.2 ++ [c]) := by
          unfold bgOf
          rw [if_neg (by rw [len_app]; exact Nat.succ_ne_zero _), cd_app]
        rw [this]
    show (match stP ⟨st.1.map (fun z => cd z), bgOf st.2, 0, 0, false⟩ i c with | .ok t => M.scan stP (i + 1) t l | .error e => .error e) = _
    rw [e]
    exact ih
def plainWs (z : Str) : List (List Nat) := (Txt.words z).map fun y => cd y
theorem words_wV (z : Str) : (Txt.words z).map V.str = (plainWs z).map wV := by
  unfold plainWs
  rw [List.map_map]
  refine List.map_congr_left fun y _ => ?_
  show V.str y = V.str (S (cd y))
  rw [S_of]
theorem plain_few {z : Str} (h : (cd z).length ≤ 2000) : (plainWs z).length ≤ 2000 ∧ ∀ w ∈ plainWs z, w.length ≤ 2001 := by
  have q := PySem.StrLaws.words_weight z
  rw [len_cd] at q
  have e : (plainWs z).length = (Txt.words z).length := List.length_map ..
  have sm : ∀ (ns : List Nat) (n : Nat), n ∈ ns → n ≤ ns.sum := fun ns n hn => by
    induction ns with
    | nil => cases hn
    | cons m r ih =>
      rw [List.sum_cons]
      rcases List.mem_cons.mp hn with rfl | q
      · omega
      · have := ih q; omega
  have pos : ∀ y ∈ Txt.words z, 1 ≤ y.length := PySem.StrLaws.words_pos z
  have ge : ∀ ys : List Str, (∀ y ∈ ys, 1 ≤ y.length) → ys.length ≤ (ys.map (·.length)).sum := fun ys h => by
    induction ys with
    | nil => exact Nat.zero_le _
    | cons y r ih =>
      rw [List.map_cons, List.sum_cons, List.length_cons]
      have := ih fun u hu => h u (List.mem_cons_of_mem _ hu)
      have := h y (List.mem_cons_self ..)
      omega
  have g := ge _ pos
  refine ⟨by omega, fun w hw => ?_⟩
  obtain ⟨y, hy, rfl⟩ := List.mem_map.mp hw
  have := sm ((Txt.words z).map (·.length)) y.length (List.mem_map.mpr ⟨y, hy, rfl⟩)
  rw [← len_cd]
  omega
theorem r_words {z : Str} {H : Hp} {Q : VK} (h : z.length + 2 ≤ sizeLine) (k : ∀ p, H p = none → Q (.ref p) (upd H p (.lst ((plainWs z).map wV)))) : rWords (.str z) [] H Q :=
  ⟨z, rfl, rfl, h, fun p hp => by rw [words_wV]; exact k p hp⟩
/-- such a line's words, where none is too long -/
theorem cut_plain {z : Str} (h : Lf (cd z)) (h39 : 39 ∉ cd z) (h34 : 34 ∉ cd z) (h92 : 92 ∉ cd z) (hw : ∀ w ∈ plainWs z, w.length ≤ 40) : cutR stP (cd z) = .ok (plainWs z) := by
  have e : Txt.words z = KWd.fin (KWd.scan z) := KWd.words_scan z
  have hw' : ∀ y ∈ KWd.fin (KWd.scan z), y.length ≤ 40 := fun y hy => by
    rw [len_cd]
    exact hw _ (List.mem_map.mpr ⟨y, by rw [e]; exact hy, rfl⟩)
  have hs := scan_plain (cd z) 0 ([], Str.empty) (fun c hc => ⟨h.2 c hc, fun q => h39 (q ▸ hc), fun q => h34 (q ▸ hc), fun q => h92 (q ▸ hc)⟩)
    (fun w hw2 => hw' w (by unfold KWd.fin; split; exact hw2; exact List.mem_append_left _ hw2))
    (by
      show (KWd.scan z).2.length ≤ 40
      unfold KWd.fin at hw'
      by_cases h0 : (KWd.scan z).2.length = 0
      · omega
      · rw [if_neg h0] at hw'
        exact hw' _ (List.mem_append_right _ (List.mem_singleton.mpr rfl)))
  have hs : M.scan stP 0 sc0 (cd z) = .ok ⟨(KWd.scan z).1.map (fun z => cd z), bgOf (KWd.scan z).2, 0, 0, false⟩ := hs
  unfold cutR
  rw [hs]
  show Except.ok (J.fin _) = _
  unfold plainWs
  rw [e]
  unfold KWd.fin J.fin bgOf
  by_cases h0 : (KWd.scan z).2.length = 0
  · simp only [h0, if_true]; simp
  · simp only [h0, if_false]; simp
/-! ### max(ints, default=d) -/
def tMaxD (K : PySem.W.Frag) (te td : TE) : TE := fun σ H Q => te σ H fun x H1 => td σ H1 fun y H2 => ∃ (a : Addr) (ns : List Int) (d : Int), x = .ref a ∧ y = .int d ∧ SqL K H2 a (ns.map .int) ∧ ∀ m : Int, (ns = [] → m = d) → (ns ≠ [] → m ∈ ns ∧ ∀ n ∈ ns, n ≤ m) → Q (.int m) H2
theorem reads_ints {h : Heap} : ∀ {ns : List Int} {us : List Value}, Vals (ns.map V.int) us → ∃ as, ReadsAll h us (ns.map PySem.W.Datum.toD) as
  | [], _, .nil => ⟨_, .nil⟩
  | n :: ns, _, .cons r t => by
    obtain ⟨k, rfl⟩ := r
    obtain ⟨as, q⟩ := reads_ints (h := h) t
    exact ⟨_, .cons (.int n k) q⟩
theorem maxOf_int : ∀ (xs : List Int) (x : Int), PySem.W.maxOf x xs ∈ x :: xs ∧ ∀ n ∈ x :: xs, n ≤ PySem.W.maxOf x xs
  | [], x => ⟨List.mem_singleton.mpr rfl, fun n hn => by rw [List.mem_singleton.mp hn]; exact Int.le_refl _⟩
  | y :: ys, x => by
    have e : PySem.W.maxOf x (y :: ys) = PySem.W.maxOf (if x < y then y else x) ys := by
      show List.foldl _ _ _ = List.foldl _ _ _
      rw [List.foldl_cons]
      congr 1
      show (if decide (x < y) = true then y else x) = _
      by_cases h : x < y <;> simp [h]
    obtain ⟨i1, i2⟩ := maxOf_int ys (if x < y then y else x)
    rw [e]
    have i3 := i2 _ (List.mem_cons_self ..)
    refine ⟨?_, fun n hn => ?_⟩
    · rcases List.mem_cons.mp i1 with q | q
      · rw [q]
        split
        · exact List.mem_cons_of_mem _ (List.mem_cons_self ..)
        · exact List.mem_cons_self ..
      · exact List.mem_cons_of_mem _ (List.mem_cons_of_mem _ q)
    · rcases List.mem_cons.mp hn with rfl | q
      · exact Int.le_trans (by split <;> omega) i3
      · rcases List.mem_cons.mp q with rfl | q  -- own
        · exact Int.le_trans (by split <;> omega) i3
        · exact i2 n (List.mem_cons_of_mem _ q)
theorem pe_maxD {X : Cx} {e d : Expr} {te td : TE} {p kp pos : Pos} (he : PE X e te) (hd : PE X d td) (hc : X.calm = true) (hg : Gl X "max") (hm : X.mg "max" = none) (hu : X.A.units + 64 < cLine)
    (h1 : backTo pos (starEach [e] X.env) = (false, eval e X.env) :: backTo pos (starEach [] X.env) := by rfl) (h2 : (backTo pos (starEach [e] X.env)).any (·.1) = false := by rfl)
    (h3 : (backToKw pos (keywordEach [⟨some "default", d, kp⟩] X.env)).all (·.1.isSome) = true := by rfl) (h4 : (backToKw pos (keywordEach [⟨some "default", d, kp⟩] X.env)).any (·.1.isNone) = false := by rfl)
    (h0 : starEach [e] X.env = (false, eval e X.env) :: starEach [] X.env := by rfl)
    (h5 : (backToKw pos (keywordEach [⟨some "default", d, kp⟩] X.env)).filterMap (·.1) = [Str.ofString "default"] := by rfl) :
    PE X (.Call (.Name "max" p) [e] [⟨some "default", d, kp⟩] pos) (tMaxD X.K te td) := by
  refine ⟨fun pins s σ H Q I h => wpAny_Call_Name_kw (ld_blt (u := .builtin "max") I hg hm (by decide +kernel) ?_ (by decide) (by decide))⟩
  refine PyProof.Rows.callWith_kw (thn ((pa_cons he pa_nil h0).run pos pins s σ H (fun vs H1 => match vs with
    | [x] => td σ H1 fun y H2 => ∃ (a : Addr) (ns : List Int) (d : Int), x = .ref a ∧ y = .int d ∧ SqL X.K H2 a (ns.map .int) ∧ ∀ m : Int, (ns = [] → m = d) → (ns ≠ [] → m ∈ ns ∧ ∀ n ∈ ns, n ≤ m) → Q (.int m) H2
    | _ => False) I h) fun us s1 hh => ?_) h1 h2 h3 h4
  obtain ⟨vs, H1, I1, r1, q1⟩ := hh
  cases r1 with
  | nil => exact q1.elim
  | cons rx rr =>
    cases rr with
    | cons _ _ => exact q1.elim
    | nil =>
      rw [h5]
      show wpAny _ _ (evalAll [do let v ← eval d X.env; standAt pos; pure v]) _ _ s1
      refine wpAny_evalAll_cons (wpAny_bind (thn (hd.run pins s1 σ H1 _ I1 q1) fun u2 s2 ⟨y, H2, I2, ry, a, ns, d0, ex, ey, hs, q⟩ => wpAny_bind (wpAny_standAt (wpAny_pure (wpAny_evalAll_nil ?_)))))
      subst ex ey
      cases rx
      obtain ⟨t, rfl⟩ := ry
      show wpAny _ _ (call (.builtin "max") [.ref a] [(Str.ofString "default", .int d0 t)]) _ _ s2
      obtain ⟨its, rv, hL, hz⟩ := I2.list hs
      refine PySem.W.max_list_datum_default (α := Int) (xs := ns) (I2.ok.hd hc) hL.isList (show PySem.W.HoldAll s2.heap its.toArray.toList ns by rw [List.toList_toArray]; exact reads_ints rv) (by show X.A.units + 1 + 0 < cLine; omega) (fun e0 h' tk hk => ?_) fun y ys i v h' tk e0 hi hv hk => ?_
      · exact ⟨.int d0, H2, I2.kept hk, ⟨t, rfl⟩, q d0 (fun _ => rfl) fun n => absurd e0 n⟩
      · subst e0
        obtain ⟨as, r⟩ := hv
        have : ∃ t', v = .int (PySem.W.maxOf y ys) t' := by
          cases r with
          | int i t' => exact ⟨t', rfl⟩
        obtain ⟨t', rfl⟩ := this
        have m := maxOf_int ys y
        exact ⟨.int _, H2, I2.kept hk, ⟨t', rfl⟩, q _ (fun n => by cases n) fun _ => m⟩
theorem asMaxD {X : Cx} {K : PySem.W.Frag} {e : Expr} {te td : TE} (eK : X.K = K) (h : PE X e (tMaxD X.K te td)) : PE X e (tMaxD K te td) := eK ▸ h
theorem r_maxD {K : PySem.W.Frag} {σ : L2.St} {H : Hp} {Q : VK} {te td : TE} (k : te σ H fun x H1 => td σ H1 fun y H2 => ∃ (a : Addr) (ns : List Int) (d : Int), x = .ref a ∧ y = .int d ∧ SqL K H2 a (ns.map .int) ∧ ∀ m : Int, (ns = [] → m = d) → (ns ≠ [] → m ∈ ns ∧ ∀ n ∈ ns, n ≤ m) → Q (.int m) H2) : tMaxD K te td σ H Q := k
/-- a line without quotes and strokes: its words, or nothing -/
def spCutPl : Sp := fun vs H Q _ => ∃ z : Str, vs = [.str z] ∧ Lf (cd z) ∧ (∀ H', Same H H' → Q .non H') ∧
  (∀ ws, cutR stP (cd z) = .ok ws → ws.length ≤ 2000 → ∀ (w : Addr) (H' : Hp), H w = none → Same H H' → H' w = some (.lst (ws.map wV)) → Q (.ref w) H')
end J

namespace J
open PySem PySem.Spec PyProof.Rows L2 M
/-- as spCutPl, of a line without line feeds -/
def spCutPn : Sp := fun vs H Q _ => ∃ z : Str, vs = [.str z] ∧ Ln (cd z) ∧ (∀ H', Same H H' → Q .non H') ∧
  (∀ ws, cutR stP (cd z) = .ok ws → ws.length ≤ 2000 → ∀ (w : Addr) (H' : Hp), H w = none → Same H H' → H' w = some (.lst (ws.map wV)) → Q (.ref w) H')
end J

/-! set(texts), of any many, alike or not; len(set(texts)) -/
namespace J
open PySem PySem.Spec PyProof.Rows L2 M
/-- each once -/
def addU (l : List Str) (x : Str) : List Str := if x ∈ l then l else l ++ [x]
def uq (xs : List Str) : List Str := xs.foldl addU []
theorem uq_snoc (xs : List Str) (x : Str) : uq (xs ++ [x]) = addU (uq xs) x := by unfold uq; rw [List.foldl_append]; rfl
theorem addU_mem {l : List Str} {x y : Str} : y ∈ addU l x ↔ y ∈ l ∨ y = x := by
  unfold addU
  split
  · rename_i h
    exact ⟨.inl, fun q => q.elim id fun e => e ▸ h⟩
  · simp
theorem fold_mem : ∀ (xs l : List Str) (y : Str), y ∈ xs.foldl addU l ↔ y ∈ l ∨ y ∈ xs
  | [], l, y => by simp
  | x :: r, l, y => by rw [List.foldl_cons, fold_mem r, addU_mem, List.mem_cons, or_assoc]
theorem uq_mem {xs : List Str} {y : Str} : y ∈ uq xs ↔ y ∈ xs := by
  unfold uq
  rw [fold_mem]
  simp
theorem uq_len : ∀ (xs l : List Str), (xs.foldl addU l).length ≤ l.length + xs.length
  | [], l => Nat.le_refl _
  | x :: r, l => by
    rw [List.foldl_cons, List.length_cons]  -- own
    have := uq_len r (addU l x)
    have e : (addU l x).length ≤ l.length + 1 := by
      unfold addU
      split
      · omega
      · rw [List.length_append]; exact Nat.le_refl _
    omega
/-- as many as there are: just where all are unlike -/
theorem uq_all : ∀ (xs l : List Str), ((xs.foldl addU l).length = l.length + xs.length) ↔ (xs.Nodup ∧ ∀ x ∈ xs, x ∉ l)
  | [], l => by simp
  | x :: r, l => by
    rw [List.foldl_cons, List.length_cons, List.nodup_cons]
    have b := uq_len r (addU l x)
    by_cases h : x ∈ l
    · have e : addU l x = l := if_pos h
      rw [e] at b ⊢
      exact ⟨fun q => absurd q (by omega), fun q => absurd h (q.2 x (List.mem_cons_self ..))⟩
    · have e : addU l x = l ++ [x] := if_neg h
      have ih := uq_all r (l ++ [x])
      rw [e]
      rw [List.length_append] at ih
      have : l.length + [x].length + r.length = l.length + (r.length + 1) := by simp only [List.length_cons, List.length_nil]; omega
      rw [this] at ih
      rw [ih]
      refine ⟨fun q => ⟨⟨fun hx => q.2 x hx (List.mem_append_right _ (List.mem_singleton.mpr rfl)), q.1⟩, fun y hy => ?_⟩, fun q => ⟨q.1.2, fun y hy m => ?_⟩⟩
      · rcases List.mem_cons.mp hy with rfl | hy  -- own
        · exact h
        · exact fun m => q.2 y hy (List.mem_append_left _ m)
      · rcases List.mem_append.mp m with m | m
        · exact q.2 y (List.mem_cons_of_mem _ hy) m
        · rw [List.mem_singleton.mp m] at hy
          exact q.1.1 hy
theorem uq_eq (xs : List Str) : (uq xs).length = xs.length ↔ xs.Nodup := by
  have := uq_all xs []
  simpa [uq] using this
theorem uq_le (xs : List Str) : (uq xs).length ≤ xs.length := by
  have := uq_len xs []
  simpa [uq] using this
/-- which texts are in -/
def inU (l : List Str) : Str → Bool := fun y => decide (y ∈ l)
section
variable {prog : Program} {w : World} {A : Around} {R : Result → Shared → Prop} {it S : Addr} {fp wr : List Addr} {G : Array GenState → Array GenState → Prop} {n : Nat} {P : Nat → Value → Prop} {St : Nat → Shared → Prop}
theorem moves_set {s s' : Shared} {D : Str → Bool} {m : Nat} (q : Moved wr G s s') (hS : S ∉ wr) (h : s.heap.SetOf (strKind prog w) S D m) : s'.heap.SetOf (strKind prog w) S D m :=
  let ⟨o, es, ep, t, ho, r⟩ := h
  ⟨o, es, ep, t, q.heap S _ hS ho, r⟩
/-- what is taken in, text by text -/
theorem take_in (W : WalksS prog w A.in1 it fp wr G n P St) (hS : S ∉ fp) (xs : List Str) (hx : xs.length = n) (hv : ∀ i v, P i v → ∃ t, v = .str (xs.getD i Str.empty) t) (hn : n + 1 < scanBound) :
    ∀ (left i : Nat) (s : Shared), n - i = left → i ≤ n → St i s → s.heap.SetOf (strKind prog w) S (inU (uq (xs.take i))) (uq (xs.take i)).length →
      (∀ s', Moved (S :: wr) G s s' → s'.heap.SetOf (strKind prog w) S (inU (uq xs)) (uq xs).length → R (.ok (.ret .none)) s') → codeAny (model prog w) A (.builtin "set.update.loop" ⟨[.ref S, .ref it], []⟩) R s := by
  have out : S ∉ wr := fun h => hS (W.sub _ h)
  intro left
  induction left with
  | zero =>
    intro i s hl hi st h k
    obtain rfl : i = n := by omega
    refine codeAny_builtin F.entry_set_update_loop ?_  -- own
    rw [Around.under_plainId F.plain_set_update_loop]
    change wpAny _ A.in1 (pyNext (.ref it) >>= _) _ _ s
    refine wpAny_bind (W.done s _ _ st fun s1 m1 => ?_)
    change wpAny _ A.in1 (ret Value.none) _ _ s1
    rw [show xs.take i = xs from List.take_of_length_le (Nat.le_of_eq hx)] at h
    exact wpAny_pure (k s1 (m1.mono fun b hb => .tail _ hb) (moves_set m1 out h))
  | succ left ih =>
    intro i s hl hi st h k
    have lt : i < n := by omega
    refine codeAny_builtin F.entry_set_update_loop ?_  -- own
    rw [Around.under_plainId F.plain_set_update_loop]
    change wpAny _ A.in1 (pyNext (.ref it) >>= _) _ _ s
    refine wpAny_bind (W.item i s _ _ lt st fun v s1 p st1 m1 => ?_)
    obtain ⟨t, rfl⟩ := hv i v p
    have h1 := moves_set m1 out h
    generalize ex : xs.getD i Str.empty = x at h1 ⊢
    have es : xs.take (i + 1) = xs.take i ++ [x] := by
      have li : i < xs.length := by omega
      rw [List.take_add_one, List.getElem?_eq_getElem li, ← ex, List.getD_eq_getElem?_getD, List.getElem?_eq_getElem li]
      rfl
    have few : (uq (xs.take i)).length ≤ i := Nat.le_trans (uq_le _) (by rw [List.length_take]; omega)
    change wpAny _ A.in1 (holding [Value.str x t] (setAdd S (.str x t)) >>= _) _ _ s1
    refine wpAny_bind (wpAny_holding ?_)  -- own
    unfold setAdd
    refine wpAny_holding (wpAny_bind ((strKind prog w).pyHash (k := x) (strKind_is _ _ _ _) ?_))
    refine wpAny_setAddHashed_of (knd := strKind prog w) (s := { s1 with toks := s1.toks + 1 }) (strKind_is _ _ _ _) rfl h1 (by omega) fun h' sb h2 => ?_
    have h3 : h'.SetOf (strKind prog w) S (inU (uq (xs.take (i + 1)))) (uq (xs.take (i + 1))).length := by
      rw [es, uq_snoc]
      refine SetOf_congr h2 (fun y => ?_) ?_
      · unfold inU
        rw [← Bool.decide_or]
        exact decide_eq_decide.mpr addU_mem.symm
      · unfold inU addU
        by_cases q : x ∈ uq (xs.take i)
        · rw [if_pos (decide_eq_true q), if_pos q]
        · rw [if_neg (by rw [decide_eq_false q]; exact Bool.false_ne_true), if_neg q, List.length_append]; rfl
    have keep : ∀ b o, b ≠ S → s1.heap.get? b = some o → h'.get? b = some o := fun b o ne e => by rw [sb.2 b ne]; exact e
    refine wpAny_pure ⟨plainId_quiet F.plain_set_update_loop _, ih (i + 1) _ (by omega) lt (W.frame _ s1 _ _ st1 (Nat.le_succ _) fun b hb o e => keep b o (fun q => hS (q ▸ hb)) e) h3 fun s2 m2 q => k s2 ?_ q⟩
    exact Moved.trans W.gtrans ((m1.mono fun b hb => .tail _ hb).then_heap (Nat.le_succ _) fun b o nb e => keep b o (fun q => nb (q ▸ .head _)) e) m2
end
/-- a set as it is made -/
abbrev set0 (led : Bool) : Obj := { cls := .type "set", dict := none, data := .set #[] 0 (.fresh 0 0 led) }
/-- what is walked for its items, one behind the other, none of it changed but the iterator itself -/
structure Wk (prog : Program) (w : World) (l : Addr) (o : Obj) (items : Array Value) (itO : Obj) : Prop where
  fr : itO.isFreed = false
  it : ∀ {A : Around} {E Q : Value → Shared → Prop} {s : Shared}, s.heap.get? l = some o → Q (.ref s.heap.objs.size) { s with heap := s.heap.push itO } → wpAny (model prog w) A (pyIter (.ref l)) Q E s
  wk : ∀ {A : Around} {I : Addr} {h : Heap}, A.handled = none → l ≠ I → h.get? I = some itO → h.get? l = some o → ∃ (G : Array GenState → Array GenState → Prop) (St : Nat → Shared → Prop), (∀ a b, G a b → b = a) ∧
    WalksS prog w A I [I, l] [I] G items.size (fun i v => items[i]? = some v) St ∧ ∀ s : Shared, s.heap = h → St 0 s
theorem wk_list {prog : Program} {w : World} {l : Addr} {o : Obj} {items : Array Value} {n : Nat} (hc : o.cls = .type "list") (hd : o.data = .seq items n) : Wk prog w l o items { cls := .type "list_iterator", data := .fields #[.ref l, .int 0 0] } where
  fr := rfl
  it := fun ho q => wpAny_pyIter_list ⟨o, ho, hc, n, hd⟩ q
  wk := fun hh ne hI ho => ⟨_, _, fun _ _ e => e, (Walks.list hh _ l ne items).toS, fun s e => ⟨⟨_, by rw [e]; exact hI, rfl, rfl⟩, ⟨o, by rw [e]; exact ho, hc, n, hd⟩⟩⟩
theorem wk_tuple {prog : Program} {w : World} {l : Addr} {o : Obj} {items : Array Value} {n : Nat} (hc : o.cls = .type "tuple") (hd : o.data = .seq items n) : Wk prog w l o items { cls := .type "tuple_iterator", data := .fields #[.ref l, .int 0 0] } where
  fr := rfl
  it := fun ho q => wpAny_pyIter_tuple ⟨o, ho, hc, n, hd⟩ q
  wk := fun hh ne hI ho => ⟨_, _, fun _ _ e => e, (Walks.tuple hh _ l ne items).toS, fun s e => ⟨⟨_, by rw [e]; exact hI, rfl, rfl⟩, ⟨o, by rw [e]; exact ho, hc, n, hd⟩⟩⟩
section
variable {prog : Program} {w : World} {A : Around} {E : Value → Shared → Prop} {s : Shared}  -- own
/-- set(x), x a list or a tuple of texts -/
theorem set_texts {T : String} {l : Addr} {items : Array Value} {xs : List Str} {Q : Value → Shared → Prop} {od : Option Addr} {nl : Nat} {sl : Array (Option Value)} {itO : Obj}
    (ns : isSubtype (.type T) (.type "set") = pure false) (nf : isSubtype (.type T) (.type "frozenset") = pure false) (nd : (Value.type T == Value.type "dict") = false)
    (hh : A.handled = none) (at_l : s.heap.get? l = some { cls := .type T, dict := od, data := .seq items nl, slots := sl }) (W : Wk prog w l { cls := .type T, dict := od, data := .seq items nl, slots := sl } items itO)
    (hi : StrsAre items.toList xs) (hn : items.size + 1 < scanBound)
    (k : ∀ (h' : Heap) (tk : Nat), h'.SetOf (strKind prog w) s.heap.objs.size (inU (uq xs)) (uq xs).length → (∀ b o, s.heap.get? b = some o → h'.get? b = some o) → Q (.ref s.heap.objs.size) { s with heap := h', toks := tk }) :
    wpAny (model prog w) A (call (.type "set") [.ref l]) Q E s := by  -- own
  obtain ⟨c, tl, m0⟩ := PySem.F.called_set.mro
  have m1 := PySem.F.called_set.made
  have m2 := PySem.F.called_set.sub
  have m3 := PySem.F.called_set.notType
  have m4 := PySem.F.called_set.canCreate
  have m5 := PySem.F.typeCall_set_1 (.ref l)
  refine wpAny_call (codeAny_of_tree ?_)  -- own
  change wpAny _ _ (callAny (.type "set") _) _ _ _
  refine wpAny_pure ⟨Code.quiet_builtin _ (by decide +kernel), codeAny_builtin PySem.F.entry_type_call ?_⟩  -- own
  rw [Around.under_plain (weight_type_call_type "set" [.ref l] []) rfl]  -- own
  repeat (any_goals (first | assumption | wp_step))  -- own
  refine codeAny_mono (code_set_new_1 (.ref l) (E := E) (Q₁ := fun v s1 => ∃ led : Bool, v = .ref s.heap.objs.size ∧ s1 = { s with heap := s.heap.push (set0 led) }) fun led => ⟨led, rfl, rfl⟩) fun r s1 hr => ?_
  rcases r with e | ⟨v⟩ | _ | _ <;> first | exact hr | skip
  obtain ⟨led, rfl, rfl⟩ := hr
  have new : (s.heap.push (set0 led)).get? s.heap.objs.size = some (set0 led) := Heap.get?_push_size _ rfl
  have ty : Shared.TypeIs { s with heap := s.heap.push (set0 led) } (.ref s.heap.objs.size) "set" := ⟨_, new, rfl⟩
  have i1 := PySem.F.called_set.init.lookup
  have i2 := PySem.F.called_set.init.bind (.ref s.heap.objs.size)
  repeat (any_goals (first | assumption | wp_step))  -- own
  refine codeAny_mono (codeAny_call_builtin (R := wants (fun r s2 => r = .none ∧ ∃ h' tk, s2 = { s with heap := h', toks := tk } ∧ h'.SetOf (strKind prog w) s.heap.objs.size (inU (uq xs)) (uq xs).length ∧
    ∀ b o, s.heap.get? b = some o → h'.get? b = some o) E) PySem.F.called_set.init.plain PySem.F.entry_set_init (check_set_init_1 ty ?_)) fun r s2 hr => ?_
  rotate_left
  · rcases r with e | ⟨v⟩ | _ | _ <;> first | exact hr | skip
    obtain ⟨rfl, h', tk, rfl, h1, h2⟩ := hr
    repeat (any_goals (first | assumption | wp_step))  -- own
    exact k _ _ h1 h2
  have old : (s.heap.push (set0 led)).get? l = some { cls := .type T, dict := od, data := .seq items nl, slots := sl } := Heap.get?_push_of_some _ at_l
  have ll : l < s.heap.objs.size := Heap.lt_size at_l
  have sz : (s.heap.push (set0 led)).objs.size = s.heap.objs.size + 1 := Heap.size_push ..
  unfold Builtin.«set.__init__» noKeywords Builtin.Frozenset.updateFrom  -- own
  generalize e0 : pyIter = PI
  wp_walk
  subst e0
  refine W.it old (wpAny_bind (wpAny_runValue ?_))
  have old2 := Heap.get?_push_of_some itO old
  obtain ⟨G, St, hG, wk, st⟩ := W.wk (A := A.in1.in1.in1) (I := (s.heap.push (set0 led)).objs.size) (h := (s.heap.push (set0 led)).push itO) (by simp [hh]) (fun q => absurd (show l < s.heap.objs.size + 1 from Nat.lt_succ_of_lt ll) (by rw [q, sz]; exact Nat.lt_irrefl _)) (Heap.get?_push_size _ W.fr) old2
  refine take_in wk (fun q => by
    rcases List.mem_cons.mp q with q | q
    · rw [sz] at q; exact Nat.ne_of_lt (Nat.lt_succ_self _) q
    · exact absurd ll (by rw [← List.mem_singleton.mp q]; exact Nat.lt_irrefl _)) xs (by rw [← StrsAre.len_eq hi, Array.length_toList]) (fun i v hv => SS.strs_at hi i v (by rw [Array.getElem?_toList]; exact hv)) hn items.size 0 _ (by omega) (Nat.zero_le _) (st _ rfl)
    (SetOf_congr ((setObjOf_fresh (knd := strKind prog w) led).setOf (Heap.get?_push_of_some itO new) (by unfold scanBound; omega)) (fun _ => rfl) rfl) fun s3 m3 h3 => ?_
  obtain ⟨h', g', d', tk', os'⟩ := s3
  obtain rfl : g' = s.gens := hG _ _ m3.gens
  obtain rfl : d' = s.drawn := m3.drawn
  obtain rfl : os' = s.os := m3.os
  change wpAny _ _ _ _ _ _
  refine wpAny_pure ?_
  change wpAny _ _ (ret Value.none) _ _ _
  refine wpAny_pure ⟨rfl, h', tk', rfl, h3, fun b o e => m3.heap b o (fun q => ?_) (Heap.get?_push_of_some _ (Heap.get?_push_of_some _ e))⟩
  have lb := Heap.lt_size e
  rcases List.mem_cons.mp q with q | q
  · exact absurd lb (by rw [q]; exact Nat.lt_irrefl _)
  · have q := List.mem_singleton.mp q
    rw [sz] at q
    exact Nat.lt_irrefl _ (Nat.lt_of_succ_lt (q ▸ lb))
theorem strsAre_texts : ∀ {ys : List Str} {us : List Value}, Vals (ys.map V.str) us → StrsAre us ys
  | [], _, .nil => .nil
  | y :: ys, _, .cons r t => by
    obtain ⟨j, rfl⟩ := r
    exact .cons y j (strsAre_texts t)
/-- len(set(x)), x a list or a tuple of texts -/
def tLenSetT (K : PySem.W.Frag) (ta : TE) : TE := fun σ H Q => ta σ H fun x H1 => ∃ (l : Addr) (xs : List Str), x = .ref l ∧ (SqL K H1 l (xs.map V.str) ∨ SqT K H1 l (xs.map V.str)) ∧ xs.length ≤ 4000 ∧ Q (.int ((uq xs).length : Nat)) H1
theorem pe_lenSetT {X : Cx} {a : Expr} {ta : TE} {p p2 q pos : Pos} (hc : X.calm = true) (hg : Gl X "len") (hm : X.mg "len" = none) (hg2 : Gl X "set") (hm2 : X.mg "set" = none) (ha : PE X a ta)
    (na : starEach [a] X.env = (false, eval a X.env) :: starEach [] X.env := by rfl) : PE X (.Call (.Name "len" p) [.Call (.Name "set" p2) [a] [] q] [] pos) (tLenSetT X.K ta) := ⟨fun pins s σ H Q I h => by
  refine Call_ (ld_blt I hg hm boot_len (callWith_builtin1 (args_cons ?_ rfl) rfl rfl))
  refine Call_ (ld_blt I hg2 hm2 boot_set (callWith_type1 (args_cons (thn (ha.run pins s σ H _ I h) fun v s1 ⟨x, H1, I1, r1, l, xs, ex, hq, hl, q1⟩ => args_nil ?_) na) na rfl))
  subst ex
  cases r1
  have last : ∀ (us : List Value), us.length = xs.length → ∀ (h' : Heap) (tk : Nat), h'.SetOf (strKind X.prog X.w) s1.heap.objs.size (inU (uq xs)) (uq xs).length → (∀ b o, s1.heap.get? b = some o → h'.get? b = some o) →
      wpAny (model X.prog X.w) X.A (spliced (backTo pos (starEach [] X.env))) (fun vs s2 => wpAny (model X.prog X.w) X.A (call (.builtin "len") (Value.ref s1.heap.objs.size :: vs)) (EP X pins σ Q) X.xe s2) X.xe { s1 with heap := h', toks := tk } := fun us hu h' tk hs hk => by
    refine args_nil ?_
    obtain ⟨o, es, ep, t, ho, hex, hd, _, _, _, hf, hn⟩ := hs
    have I2 : Inv X pins σ H1 { s1 with heap := h', toks := tk } := I1.kept hk  -- own
    have := uq_le xs
    exact call_len_set ho hex hd hf (by rw [hn]; omega) ⟨.int ((uq xs).length : Nat), H1, I2.tok _, ⟨_, by rw [hn]⟩, q1⟩
  rcases hq with hq | hq
  · obtain ⟨us, r, pl, hz⟩ := I1.list hq
    obtain ⟨o, ho, hc1, n1, hd1⟩ := pl.isList
    have e1 := r.length
    rw [List.length_map] at e1
    obtain ⟨c1, od, dt, sl⟩ := o
    simp only at hc1 hd1
    subst hc1 hd1
    exact set_texts PySem.F.sub_list_set PySem.F.sub_list_frozenset (by decide) (I1.ok.hd hc) ho (wk_list rfl rfl) (by simpa using strsAre_texts r) (by rw [List.size_toArray, ← e1]; unfold scanBound; omega) (last us e1.symm)
  · obtain ⟨us, r, pl, hz⟩ := I1.tuple hq
    obtain ⟨o, ho, hc1, n1, hd1⟩ := pl
    have e1 := r.length
    rw [List.length_map] at e1
    obtain ⟨c1, od, dt, sl⟩ := o
    simp only at hc1 hd1
    subst hc1 hd1
    exact set_texts PySem.F.sub_tuple_set PySem.F.sub_tuple_frozenset (by decide) (I1.ok.hd hc) ho (wk_tuple rfl rfl) (by simpa using strsAre_texts r) (by rw [List.size_toArray, ← e1]; unfold scanBound; omega) (last us e1.symm)⟩
end
end J

/-! kinds of worths; what begins their words; figures read and written -/
namespace J
open PySem PySem.Spec PyProof.Rows L2 M
/-! ### names -/
def Nm (l : List Nat) : Prop := 1 ≤ l.length ∧ l.length ≤ 8 ∧ ∀ c ∈ l, 97 ≤ c ∧ c ≤ 122
def isNm (l : List Nat) : Bool := decide (1 ≤ l.length) && (decide (l.length ≤ 8) && l.all fun c => decide (97 ≤ c ∧ c ≤ 122))
theorem isNm_iff {l : List Nat} : isNm l = true ↔ Nm l := by simp [isNm, Nm]
theorem Nm.wd {l : List Nat} (h : Nm l) : l.length ≤ 40 ∧ ∀ c ∈ l, 32 ≤ c ∧ c ≤ 126 := ⟨by have := h.2.1; omega, fun c hc => by have := h.2.2 c hc; omega⟩
theorem al_c : ∀ c, c < 128 → Unicode.isAlpha c = decide ((65 ≤ c ∧ c ≤ 90) ∨ (97 ≤ c ∧ c ≤ 122)) := by decide +kernel
theorem up_c : ∀ c, c < 128 → (Unicode.isUpper c || Unicode.isTitle c) = decide (65 ≤ c ∧ c ≤ 90) := by decide +kernel
theorem lo_c : ∀ c, c < 128 → Unicode.isLower c = decide (97 ≤ c ∧ c ≤ 122) := by decide +kernel
theorem any_cd {p : Nat → Bool} {z : Str} : z.cps.any p = (cd z).any p := by rw [← Array.any_toList]
theorem small_letters (z : Str) (h : 1 ≤ (cd z).length) : (Txt.isascii z && (Txt.isalpha z && Txt.islower z)) = (cd z).all fun c => decide (97 ≤ c ∧ c ≤ 122) := by
  unfold Txt.isascii Txt.isalpha Txt.islower
  rw [all_cd, all_cd, any_cd, any_cd, len_cd, Bool.eq_iff_iff, Bool.and_eq_true, Bool.and_eq_true, Bool.and_eq_true, Bool.and_eq_true, List.all_eq_true, List.all_eq_true, List.all_eq_true, List.any_eq_true]
  constructor
  · rintro ⟨h1, ⟨_, h2⟩, _, h3⟩ c hc
    have a := of_decide_eq_true (h1 c hc)
    have b := h2 c hc
    rw [al_c c a] at b
    have b := of_decide_eq_true b
    have u : ¬ (65 ≤ c ∧ c ≤ 90) := fun q => by
      have : (cd z).any (fun c => Unicode.isUpper c || Unicode.isTitle c) = true := List.any_eq_true.mpr ⟨c, hc, by rw [up_c c a]; exact decide_eq_true q⟩
      rw [this] at h3
      cases h3
    exact decide_eq_true (by omega)  -- own
  · intro h1
    have lt : ∀ c ∈ cd z, 97 ≤ c ∧ c ≤ 122 := fun c hc => of_decide_eq_true (h1 c hc)
    refine ⟨fun c hc => decide_eq_true (by have := lt c hc; omega), ⟨decide_eq_true (by omega), fun c hc => ?_⟩, ?_, ?_⟩
    · have := lt c hc
      rw [al_c c (by omega)]
      exact decide_eq_true (.inr this)
    · obtain ⟨c, r, e⟩ : ∃ c r, cd z = c :: r := by
        cases q : cd z with
        | nil => rw [q] at h; exact absurd h (by decide)
        | cons c r => exact ⟨c, r, rfl⟩
      have hc : c ∈ cd z := by rw [e]; exact List.mem_cons_self ..
      have := lt c hc
      exact ⟨c, hc, by rw [lo_c c (by omega)]; exact decide_eq_true this⟩
    · rw [Bool.not_eq_true', List.any_eq_false]
      intro c hc
      have := lt c hc
      rw [up_c c (by omega)]
      simp; omega
/-! ### kinds -/
inductive Kd where
  | num (lo hi : Int)
  | one (ns : List (List Nat))
  | nam
  | txt (n : Int)
  | own (nm : List Nat)
def KdAt (H : Hp) (a : Addr) : Kd → Prop
  | .num lo hi => H a = some (.tup [.str "number", .int lo, .int hi])
  | .one ns => ∃ b, H a = some (.tup [.str "one", .ref b]) ∧ H b = some (.tup (ns.map wV))
  | .nam => H a = some (.tup [.str "name"])
  | .txt n => H a = some (.tup [.str "text", .int n])
  | .own nm => H a = some (.tup [.str "own", .str (S nm)])
def Kd.Ok : Kd → Prop
  | .num lo hi => -999999 ≤ lo ∧ lo ≤ hi ∧ hi ≤ 999999
  | .one ns => 1 ≤ ns.length ∧ ns.length ≤ 8 ∧ (∀ n ∈ ns, Nm n) ∧ ns.Nodup
  | .nam => True
  | .txt n => 1 ≤ n ∧ n ≤ 20
  | .own nm => Nm nm
def OwOk (ws : List (List Nat)) : Prop := ws.length ≤ 8 ∧ (∀ w ∈ ws, 1 ≤ w.length ∧ w.length ≤ 20 ∧ ∀ c ∈ w, 32 ≤ c ∧ c ≤ 126) ∧ ws.Nodup
def Sg (l : List Nat) : Prop := ∀ c ∈ l, 32 ≤ c ∧ c ≤ 126
def Beg (ws : List (List Nat)) (l : List Nat) : Kd → Prop
  | .num lo hi => begNum lo hi l
  | .one ns => ∃ n ∈ ns, l <+: n
  | .nam => l = [] ∨ Nm l
  | .txt n => (l.length : Int) ≤ n ∧ Sg l
  | .own _ => ∃ w ∈ ws, l <+: w
noncomputable def dB (p : Prop) : Bool := @decide p (Classical.propDecidable p)
theorem dB_iff {p : Prop} : dB p = true ↔ p := @decide_eq_true_iff p (Classical.propDecidable p)
theorem dB_t {p : Prop} (h : p) : dB p = true := dB_iff.mpr h
theorem dB_f {p : Prop} (h : ¬ p) : dB p = false := by
  cases e : dB p with
  | false => rfl
  | true => exact absurd (dB_iff.mp e) h
theorem dB_dec {p q : Prop} {i : Decidable q} (h : p ↔ q) : dB p = decide q := by
  rw [Bool.eq_iff_iff, dB_iff, decide_eq_true_iff]
  exact h
noncomputable def begK (k : Kd) (ws : List (List Nat)) (l : List Nat) : Bool := dB (Beg ws l k)
theorem begK_iff {k : Kd} {ws : List (List Nat)} {l : List Nat} : begK k ws l = true ↔ Beg ws l k := dB_iff
theorem KdAt.same {H H' : Hp} (s : Same H H') {a : Addr} : ∀ {k : Kd}, KdAt H a k → KdAt H' a k
  | .num .., h => s _ _ h
  | .one _, ⟨b, h1, h2⟩ => ⟨b, s _ _ h1, s _ _ h2⟩
  | .nam, h => s _ _ h
  | .txt _, h => s _ _ h
  | .own _, h => s _ _ h
theorem Keep.tup {b : Addr} {n : Nat} {H H' : Hp} (kp : Keep b H H') (hb : Bx H b n) {a : Addr} {xs : List V} (h : H a = some (.tup xs)) : H' a = some (.tup xs) := kp _ _ h fun e => by
  obtain ⟨x, y, z, q, _⟩ := hb
  rw [e, q] at h
  cases h
theorem KdAt.keep {b : Addr} {n : Nat} {H H' : Hp} (kp : Keep b H H') (hb : Bx H b n) {a : Addr} : ∀ {k : Kd}, KdAt H a k → KdAt H' a k
  | .num .., h => kp.tup hb h
  | .one _, ⟨c, h1, h2⟩ => ⟨c, kp.tup hb h1, kp.tup hb h2⟩
  | .nam, h => kp.tup hb h
  | .txt _, h => kp.tup hb h
  | .own _, h => kp.tup hb h
/-- own words: a list, or a tuple -/
def OwAt (K : PySem.W.Frag) (H : Hp) (b : Addr) (ws : List (List Nat)) : Prop := SqL K H b (ws.map wV) ∨ SqT K H b (ws.map wV)
theorem OwAt.same {K : PySem.W.Frag} {H H' : Hp} (s : Same H H') {b : Addr} {ws : List (List Nat)} (h : OwAt K H b ws) : OwAt K H' b ws := h.imp s.seqL s.seqT
/-! ### figures -/
theorem cd_toString (i : Int) : cd (PySem.Str.ofString (toString i)) = dec i := by
  by_cases h : i < 0
  · obtain ⟨n, rfl, hn⟩ : ∃ n : Nat, i = -(n : Int) ∧ 1 ≤ n := ⟨i.natAbs, by omega, by omega⟩
    rw [dec_neg hn]
    obtain ⟨m, rfl⟩ : ∃ m, n = m + 1 := ⟨n - 1, by omega⟩  -- own
    show (PySem.Str.ofString ("-" ++ toString (((m + 1 : Nat)) : Int))).cps.toList = _
    rw [signs_ofString, String.toList_append, List.map_append, ← signs_ofString (toString (((m + 1 : Nat)) : Int)), PySem.W.KIN.signs_num]
    rfl
  · obtain ⟨n, rfl⟩ : ∃ n : Nat, i = (n : Int) := ⟨i.natAbs, by omega⟩
    rw [dec_nat]
    exact PySem.W.KIN.signs_num n
theorem int_dec {z : Str} {n : Int} (h : cd z = dec n) (hl : z.length ≤ 4300) : PySem.intText? z = some n := by
  by_cases q : n < 0
  · obtain ⟨k, rfl, hk⟩ : ∃ k : Nat, n = -(k : Int) ∧ 1 ≤ k := ⟨n.natAbs, by omega, by omega⟩
    rw [dec_neg hk] at h
    have := PySem.intText_neg h (D_digits k) (D_ne k) hl
    rw [this, D_val]
  · obtain ⟨k, rfl⟩ : ∃ k : Nat, n = (k : Int) := ⟨n.natAbs, by omega⟩
    rw [dec_nat] at h
    have e : z.cps.toList = D k := h
    rw [PySem.intText_digits (x := z) (by rw [e]; exact D_digits k) (by rw [e]; exact D_ne k) hl, e, D_val]
theorem int_digits {z : Str} (h : PySem.NumText.AllDigits (cd z)) (h0 : cd z ≠ []) (hl : z.length ≤ 4300) : PySem.intText? z = some ((PySem.NumText.digitsVal (cd z) : Nat) : Int) := PySem.intText_digits h h0 hl
/-! ### rules by their own names -/
def rIntS : List V → Hp → VK → Prop := fun xs H Q => ∃ a n, xs = [V.str a] ∧ PySem.intText? a = some n ∧ a.length ≤ 640 ∧ Q (.int n) H
def rStrI : List V → Hp → VK → Prop := fun xs H Q => ∃ i, xs = [V.int i] ∧ i.natAbs.log2 < 1920 ∧ Q (.str (toString i)) H
section
variable {X : Cx}
theorem call_intS : CallR X (.type "int") rIntS := L2.call_int_str
theorem call_strI : CallR X (.type "str") rStrI := L2.call_str_int
theorem asLenSet {K : PySem.W.Frag} {e : Expr} {ta : TE} (eK : X.K = K) (h : PE X e (tLenSetT X.K ta)) : PE X e (tLenSetT K ta) := eK ▸ h
end
section
variable {σ : L2.St} {H : Hp} {Q : VK} {K : PySem.W.Frag} {D : Ends}
theorem r_intS {z : Str} {n : Int} (h : PySem.intText? z = some n) (hl : z.length ≤ 640) (k : Q (.int n) H) : rIntS [.str z] H Q := ⟨z, n, rfl, h, hl, k⟩
theorem r_strI {i : Int} (h : i.natAbs < 2 ^ 200) (k : Q (.str (toString i)) H) : rStrI [.int i] H Q := ⟨i, rfl, by
  by_cases h0 : i.natAbs = 0
  · rw [h0]; decide
  · exact Nat.lt_of_lt_of_le ((Nat.log2_lt h0).mpr h) (by decide), k⟩
theorem r_lenSet {ta : TE} (k : ta σ H fun x H1 => ∃ (l : Addr) (xs : List Str), x = .ref l ∧ (SqL K H1 l (xs.map V.str) ∨ SqT K H1 l (xs.map V.str)) ∧ xs.length ≤ 4000 ∧ Q (.int ((uq xs).length : Nat)) H1) : tLenSetT K ta σ H Q := k
theorem r_asg2 {te : TE} {g1 g2 : TG} (k : te σ H fun x H1 => g1 x σ H1 fun σ1 H2 => g2 x σ1 H2 D.nx) : tAsg2 te g1 g2 D σ H := k
theorem r_isiB {x : V} {t c : String} {b : Bool} (hx : TyX K H x (.type t)) (hk : kitB t c = some b) (k : Q (.bl b) H) : rIsi K [x, .ty c] H Q := ⟨x, _, _, _, b, rfl, .ty _, hx, kit_ty hk, k⟩
theorem r_isiLT2 {a p : Addr} {xs : List V} (hs : SqL K H a xs ∨ SqT K H a xs) (hp : H p = some (.tup [V.ty "list", V.ty "tuple"])) (k : Q (.bl true) H) : rIsiT K [.ref a, .ref p] H Q := by
  rcases hs with ((h | ⟨o, h⟩) | h) | ((h | ⟨o, h⟩) | h)
  · exact ⟨_, p, _, _, _, true, rfl, hp, .cons (.ty _) (.cons (.ty _) .nil), .base (.lst h), rfl, k⟩
  · exact ⟨_, p, _, _, _, true, rfl, hp, .cons (.ty _) (.cons (.ty _) .nil), .base (.frz h), rfl, k⟩
  · obtain ⟨o, _, _, e, c, r⟩ := h
    exact ⟨_, p, _, _, _, true, rfl, hp, .cons (.ty _) (.cons (.ty _) .nil), .kList e c, rfl, k⟩
  · exact ⟨_, p, _, _, _, true, rfl, hp, .cons (.ty _) (.cons (.ty _) .nil), .base (.tup h), rfl, k⟩
  · exact ⟨_, p, _, _, _, true, rfl, hp, .cons (.ty _) (.cons (.ty _) .nil), .fTuple h, rfl, k⟩
  · obtain ⟨o, _, _, e, c, r⟩ := h
    exact ⟨_, p, _, _, _, true, rfl, hp, .cons (.ty _) (.cons (.ty _) .nil), .kTuple e c, rfl, k⟩
theorem r_slT {a : Addr} {xs : List V} {lo hi : Option Int} (h : SqT K H a xs) (n : ¬ (HT.sIx xs.length 0 lo = 0 ∧ HT.sIx xs.length xs.length hi = xs.length)) (k : ∀ p, H p = none → Q (.ref p) (upd H p (.tup (cutV xs lo hi)))) : rSlT K (.ref a) lo hi H Q := ⟨a, xs, rfl, h, n, k⟩
theorem r_ixTu {a : Addr} {xs : List V} {i : Int} {v : V} (h : SqT K H a xs) (e : atI xs i = some v) (k : Q v H) : rIx K (.ref a) (.int i) H Q := .inr (.inl ⟨a, xs, i, v, rfl, rfl, h, e, k⟩)
end
/-! ### the promises -/
def spIsWhole : Sp := fun vs H Q _ => ∃ i lo hi : Int, vs = [.int i, .int lo, .int hi] ∧ Q (.bl (decide (lo ≤ i) && decide (i ≤ hi))) H
def spIsName : Sp := fun vs H Q _ => ∃ z : Str, vs = [.str z] ∧ z.length ≤ 1000000 ∧ Q (.bl (isNm (cd z))) H
def spSignsK : Sp := fun vs H Q _ => ∃ z : Str, vs = [.str z] ∧ z.length ≤ 1000000 ∧ Q (.bl (sg (cd z))) H
def spIsWordK : Sp := fun vs H Q _ => ∃ z : Str, vs = [.str z] ∧ z.length ≤ 1000000 ∧ Q (.bl (decide (z.length ≤ 40) && sg (cd z))) H
def spUnlike (K : PySem.W.Frag) : Sp := fun vs H Q _ => ∃ (a : Addr) (ls : List (List Nat)), vs = [.ref a] ∧ OwAt K H a ls ∧ ls.length ≤ 100 ∧ Q (.bl (decide ls.Nodup)) H
def spChoices : Sp := fun vs H Q _ => ∃ (b : Addr) (ns : List (List Nat)), vs = [.ref b] ∧ H b = some (.tup (ns.map wV)) ∧ 1 ≤ ns.length ∧ ns.length ≤ 8 ∧ (∀ n ∈ ns, Nm n) ∧ ns.Nodup ∧ ∀ H', Same H H' → Q (.bl true) H'
def spBounds : Sp := fun vs H Q _ => ∃ (b : Addr) (lo hi : Int), vs = [.ref b] ∧ H b = some (.tup [.int lo, .int hi]) ∧ -999999 ≤ lo ∧ lo ≤ hi ∧ hi ≤ 999999 ∧ Q (.bl true) H
def spIsKind : Sp := fun vs H Q _ => ∃ (a : Addr) (k : Kd), vs = [.ref a] ∧ KdAt H a k ∧ k.Ok ∧ ∀ H', Same H H' → Q (.bl true) H'
def spAreOwn (K : PySem.W.Frag) : Sp := fun vs H Q _ => ∃ (b : Addr) (ws : List (List Nat)), vs = [.ref b] ∧ OwAt K H b ws ∧ OwOk ws ∧ ∀ H', Same H H' → Q (.bl true) H'
def spLook (K : PySem.W.Frag) : Sp := fun vs H Q _ => ∃ (a b : Addr) (k : Kd) (ws : List (List Nat)), vs = [.ref a, .ref b] ∧ KdAt H a k ∧ k.Ok ∧ OwAt K H b ws ∧ OwOk ws ∧ ∀ H', Same H H' → Q .non H'
def spFigures : Sp := fun vs H Q _ => ∃ z : Str, vs = [.str z] ∧ z.length ≤ 1000000 ∧ Q (.bl (dB (Canon (cd z)))) H
def optV : Option Int → V
  | none => .non
  | some n => .int n
def spNumIn : Sp := fun vs H Q _ => ∃ z : Str, vs = [.str z] ∧ z.length ≤ 50 ∧ Q (optV (numV (cd z))) H
def spHasBegun : Sp := fun vs H Q _ => ∃ lo hi n : Int, vs = [.int lo, .int hi, .int n] ∧ 1 ≤ n ∧ hi ≤ 999999 ∧ Q (.bl (dB (hasB lo hi n))) H
def spBegNum : Sp := fun vs H Q _ => ∃ (lo hi : Int) (z : Str), vs = [.int lo, .int hi, .str z] ∧ z.length ≤ 50 ∧ -999999 ≤ lo ∧ lo ≤ hi ∧ hi ≤ 999999 ∧ Q (.bl (dB (begNum lo hi (cd z)))) H
def spFits : Sp := fun vs H Q _ => ∃ (a b : Addr) (n : Int) (z : Str), vs = [.ref a, .str z, .ref b] ∧ H a = some (.tup [.str "text", .int n]) ∧ z.length ≤ 1000000 ∧ Q (.bl (decide (z.length ≤ 40) && sg (cd z) && decide ((z.length : Int) ≤ n))) H
def spBegins (K : PySem.W.Frag) : Sp := fun vs H Q _ => ∃ (a b : Addr) (k : Kd) (ws : List (List Nat)) (z : Str), vs = [.ref a, .str z, .ref b] ∧ KdAt H a k ∧ k.Ok ∧ OwAt K H b ws ∧ OwOk ws ∧ z.length ≤ 50 ∧ ∀ H', Same H H' → Q (.bl (begK k ws (cd z))) H'
/-- a text, or what is none -/
inductive Thg (K : PySem.W.Frag) (H : Hp) : V → Option Str → Prop where
  | str (z : Str) (h : z.length ≤ 50) : Thg K H (.str z) (some z)
  | non : Thg K H .non none
  | int (i : Int) : Thg K H (.int i) none
  | bl (b : Bool) : Thg K H (.bl b) none
  | lst {a : Addr} {xs : List V} (h : H a = some (.lst xs)) : Thg K H (.ref a) none
  | tup {a : Addr} {xs : List V} (h : H a = some (.tup xs)) : Thg K H (.ref a) none
theorem Thg.same {K : PySem.W.Frag} {H H' : Hp} {x : V} {o : Option Str} (t : Thg K H x o) (s : Same H H') : Thg K H' x o := by
  cases t with
  | str z h => exact .str z h
  | non => exact .non
  | int i => exact .int i
  | bl b => exact .bl b
  | lst h => exact .lst (s _ _ h)
  | tup h => exact .tup (s _ _ h)
def isT (o : Option Str) : Bool := o.isSome
theorem Thg.isi {K : PySem.W.Frag} {H : Hp} {Q : VK} {x : V} {o : Option Str} (t : Thg K H x o) (k : Q (.bl (isT o)) H) : rIsi K [x, .ty "str"] H Q := by
  cases t with
  | str z h => exact r_isiB (.base (.str z)) (show kitB "str" "str" = some true by decide +kernel) k
  | non => exact r_isiB (.base .non) (by decide +kernel) k
  | int i => exact r_isiB (.base (.int i)) (by decide +kernel) k
  | bl b => exact r_isiB (.base (.bl b)) (by decide +kernel) k
  | lst h => exact r_isiB (.base (.lst h)) (by decide +kernel) k
  | tup h => exact r_isiB (.base (.tup h)) (by decide +kernel) k
noncomputable def begT (k : Kd) (ws : List (List Nat)) : Option Str → Bool
  | some z => begK k ws (cd z)
  | none => false
def spBegW (K : PySem.W.Frag) : Sp := fun vs H Q _ => ∃ (a b : Addr) (k : Kd) (ws : List (List Nat)) (x : V) (o : Option Str), vs = [.ref a, x, .ref b] ∧ KdAt H a k ∧ k.Ok ∧ OwAt K H b ws ∧ OwOk ws ∧ Thg K H x o ∧ ∀ H', Same H H' → Q (.bl (begT k ws o)) H'
end J

/-! texts that begin with others; figures -/
namespace J
open PySem PySem.Spec PyProof.Rows L2 M
theorem starts_iff {a b : Str} : Txt.startswith a b = true ↔ cd b <+: cd a := by
  unfold Txt.startswith
  rw [Bool.and_eq_true, decide_eq_true_iff, PySem.StrLaws.subAt_eq, beq_iff_eq, List.drop_zero, Nat.zero_add, len_cd b, len_cd a, List.prefix_iff_eq_take]
  exact ⟨fun h => h.2.symm, fun h => ⟨by
    have := congrArg List.length h  -- own
    rw [List.length_take] at this
    omega, h.symm⟩⟩
theorem starts_dec {a b : Str} : Txt.startswith a b = decide (cd b <+: cd a) := by
  rw [Bool.eq_iff_iff, decide_eq_true_iff]
  exact starts_iff
theorem dg_c : ∀ c, c < 128 → Unicode.isDigit c = decide (48 ≤ c ∧ c ≤ 57) := by decide +kernel
theorem fig_iff (z : Str) : (Txt.isascii z && Txt.isdigit z) = true ↔ cd z ≠ [] ∧ PySem.NumText.AllDigits (cd z) := by
  unfold Txt.isascii Txt.isdigit
  rw [all_cd, all_cd, len_cd, Bool.and_eq_true, Bool.and_eq_true, List.all_eq_true, List.all_eq_true, decide_eq_true_iff]
  constructor
  · rintro ⟨h1, h2, h3⟩
    refine ⟨fun e => by rw [e] at h2; exact absurd h2 (by decide), fun c hc => ?_⟩
    have a := of_decide_eq_true (h1 c hc)
    have b := h3 c hc
    rw [dg_c c a] at b
    exact of_decide_eq_true b
  · rintro ⟨h1, h2⟩
    have lt : ∀ c ∈ cd z, 48 ≤ c ∧ c ≤ 57 := h2
    refine ⟨fun c hc => decide_eq_true (by have := lt c hc; omega), ?_, fun c hc => ?_⟩
    · exact List.length_pos_iff.mpr h1
    · have := lt c hc
      rw [dg_c c (by omega)]
      exact decide_eq_true this
theorem l_min : cd (Str.ofString "-") = [45] := by decide +kernel
theorem l_zero : cd (Str.ofString "0") = [48] := by decide +kernel
theorem head_min {l : List Nat} : [45] <+: l ↔ l.head? = some 45 := by
  cases l with
  | nil => simp
  | cons c r => simp [List.cons_prefix_cons, eq_comm]
theorem numV_neg {l : List Nat} (h : l.head? = some 45) : (Canon l.tail ∧ l.tail ≠ [48] → numV l = some (-((PySem.NumText.digitsVal l.tail : Nat) : Int))) ∧ (¬ (Canon l.tail ∧ l.tail ≠ [48]) → numV l = none) := by
  unfold numV
  rw [if_pos h]
  exact ⟨fun q => if_pos q, fun q => if_neg q⟩
theorem numV_pos {l : List Nat} (h : l.head? ≠ some 45) : (Canon l → numV l = some ((PySem.NumText.digitsVal l : Nat) : Int)) ∧ (¬ Canon l → numV l = none) := by
  unfold numV
  rw [if_neg h]
  exact ⟨fun q => if_pos q, fun q => if_neg q⟩
theorem one_digit {c : Nat} (h : 48 ≤ c ∧ c ≤ 57) : PySem.intText? ⟨#[c]⟩ = some ((c : Int) - 48) := by
  have e := int_digits (z := ⟨#[c]⟩) (fun d hd => by
    have := List.mem_singleton.mp (show d ∈ [c] from hd)
    rw [this]; exact h) (by simp) (by show (1 : Nat) ≤ 4300; decide)
  rw [e]
  show some (((0 * 10 + (c - 48) : Nat) : Int)) = _
  congr 1
  omega
theorem val_snoc {l : List Nat} {c : Nat} (h : 48 ≤ c) : ((PySem.NumText.digitsVal (l ++ [c]) : Nat) : Int) = (PySem.NumText.digitsVal l : Nat) * 10 + ((c : Int) - 48) := by
  rw [PySem.NumText.digitsVal_snoc]
  omega
theorem fold_lt : ∀ (l : List Nat) (a : Nat), PySem.NumText.AllDigits l → l.foldl (fun acc c => acc * 10 + (c - 48)) a < (a + 1) * 10 ^ l.length
  | [], a, _ => by simp
  | c :: r, a, h => by
    have hc := h c (List.mem_cons_self ..)  -- own
    have ih := fold_lt r (a * 10 + (c - 48)) fun d hd => h d (List.mem_cons_of_mem _ hd)
    rw [List.foldl_cons, List.length_cons, Nat.pow_succ']
    refine Nat.lt_of_lt_of_le ih ?_
    rw [← Nat.mul_assoc]
    exact Nat.mul_le_mul_right _ (by omega)  -- own
theorem val_lt {l : List Nat} (h : PySem.NumText.AllDigits l) : PySem.NumText.digitsVal l < 10 ^ l.length := by
  have := fold_lt l 0 h
  rw [Nat.zero_add, Nat.one_mul] at this
  exact this
theorem pow50 {m n : Nat} (h : n < 10 ^ m) (hm : m ≤ 50) : n < 2 ^ 199 := by
  have : 10 ^ m ≤ 10 ^ 50 := Nat.pow_le_pow_right (by decide) hm
  have : (10 : Nat) ^ 50 < 2 ^ 199 := by decide
  omega
section
variable {σ : L2.St} {H : Hp} {Q : VK} {K : PySem.W.Frag} {D : Ends}
theorem r_lcQ {te te' : TE} {g : TG} {tt : TT} {vs : List Nat} (k : te σ H fun x H1 => ∃ a xs, x = .ref a ∧ ((SqL K H1 a xs ∧ ∀ E, H1 E = none → CompQ (Itl K a) g tt te' vs σ H1 E fun H => Q (.ref E) H) ∨ (SqT K H1 a xs ∧ ∀ E, H1 E = none → CompQ (Itt K a) g tt te' vs σ H1 E fun H => Q (.ref E) H))) :
    tLc (iSeq K te) g tt te' vs σ H Q := k
theorem r_seqV {te' : TE} {g : TG} {tt : TT} {vs : List Nat} {a : Addr} {xs : List V} (hs : SqL K H a xs ∨ SqT K H a xs) (k : ∀ J, SeqIt J xs H → ∀ E, H E = none → CompQ J g tt te' vs σ H E fun H => Q (.ref E) H) :
    ∃ b ys, V.ref a = .ref b ∧ ((SqL K H b ys ∧ ∀ E, H E = none → CompQ (Itl K b) g tt te' vs σ H E fun H => Q (.ref E) H) ∨ (SqT K H b ys ∧ ∀ E, H E = none → CompQ (Itt K b) g tt te' vs σ H E fun H => Q (.ref E) H)) :=
  ⟨a, xs, rfl, hs.elim (fun h => .inl ⟨h, k _ (seqIt_l h)⟩) fun h => .inr ⟨h, k _ (seqIt_t h)⟩⟩
theorem r_istr {te : TE} {R : It → Hp → Prop} (k : te σ H fun x H1 => ∃ z, x = .str z ∧ R (Its z) H1) : iStr te σ H R := k
end
theorem any_dec {z : List Nat} {ns : List (List Nat)} : (ns.map fun n => decide (z <+: n)).any id = dB (∃ n ∈ ns, z <+: n) := by
  rw [Bool.eq_iff_iff, dB_iff, List.any_eq_true]
  constructor
  · rintro ⟨x, hx, e⟩
    obtain ⟨n, hn, rfl⟩ := List.mem_map.mp hx
    exact ⟨n, hn, of_decide_eq_true e⟩
  · rintro ⟨n, hn, e⟩
    exact ⟨_, List.mem_map_of_mem hn, decide_eq_true e⟩
/-- a def with a keyword-only list, left out or told -/
structure DKw (K : PySem.W.Frag) (mg : Str → Option Value) (x : Str) (st : Stmt) (ps : List Str) (f e : Addr) (fd : FuncData) (ds : List Value) : Prop where
  fn : Fun K x x st f fd
  gl : mg x = some (.ref f)
  bK : KBinds K fd ps ["own"] (fun us ws => us ++ ws) (fun vs zs => vs ++ zs)
  bd : Binds K fd ps ds
  vs : Vals [V.ref e] ds
  em : ∀ H, SqT K H e []
end J

/-! the law's drawn names and kinds -/
namespace J
open PySem PySem.Spec PyProof.Rows L2 M
theorem comp_rng {q : Nat} {g : TG} {te : TE} {vs : List Nat} {σ : L2.St} {H1 : Hp} {D : Addr} {Z : Hp → Prop} (hD : H1 D = none) (ys : List V) (hl : ys.length = q) (hs : q < sizeLine)
    (turn : ∀ (i : Nat) (H : Hp) (N : V → Hp → Prop), i < q → Same H1 H → (∀ y H4, ys[i]? = some y → Same H H4 → N y H4) → g (.int (i : Nat)) (wipe σ vs) H fun σ2 H2 => wipe σ2 vs = wipe σ vs ∧ te σ2 H2 N)
    (fin : ∀ H, Same H1 H → H D = some (.lst ys) → Z H) : CompQ (Itr 0 q) g tYes te vs σ H1 D Z := by
  refine comp_of q (fun i H => Same H1 H ∧ H D = some (.lst (ys.take i))) ⟨(Same.refl H1).at hD _, by rw [upd_same]; rfl⟩ (fun i H hi w => hi) (fun H w => Nat.le_refl _) (fun i H x H' hi w y => ?_) (fun H w => ?_)
  · obtain ⟨rfl, rfl⟩ := y
    have e : (0 + (i : Nat) : Int) = (i : Nat) := by omega
    rw [e]
    exact turn i H' _ hi w.1 fun y H4 hy s => ⟨_, s _ _ w.2, Nat.lt_of_le_of_lt (by rw [List.length_take]; omega) hs, (w.1.trans s).at hD _, by rw [upd_same, take_snoc hy]⟩
  · have : ys.take q = ys := List.take_of_length_le (Nat.le_of_eq hl)
    rw [this] at w
    exact fin H w.1 w.2
theorem comp_draw {q n : Nat} {b : Addr} {g : TG} {te : TE} {vs : List Nat} {σ : L2.St} {H1 : Hp} {D : Addr} {Z : Hp → Prop} (hD : H1 D = none) (hb : Bx H1 b n) (hs : q < sizeLine) (P : Nat → Prop)
    (turn : ∀ (i : Nat) (H : Hp) (N : V → Hp → Prop), i < q → Keep b H1 H → Bx H b (n + i) → (∀ c H4, P c → Keep b H H4 → Bx H4 b (n + i + 1) → N (.str ⟨#[c]⟩) H4) → g (.int (i : Nat)) (wipe σ vs) H fun σ2 H2 => wipe σ2 vs = wipe σ vs ∧ te σ2 H2 N)
    (fin : ∀ (cs : List Nat) (H : Hp), cs.length = q → (∀ c ∈ cs, P c) → Keep b H1 H → Bx H b (n + q) → H D = some (.lst (cs.map sgnV)) → Z H) : CompQ (Itr 0 q) g tYes te vs σ H1 D Z := by
  have Db : D ≠ b := by
    obtain ⟨_, _, _, e, _⟩ := hb
    exact new_ne hD e
  refine comp_of q (fun i H => ∃ cs : List Nat, cs.length = i ∧ (∀ c ∈ cs, P c) ∧ H D = some (.lst (cs.map sgnV)) ∧ Keep b H1 H ∧ Bx H b (n + i)) ⟨[], rfl, fun _ h => (List.not_mem_nil h).elim, upd_same, Keep.new _ hD, hb.new hD⟩ (fun i H hi w => hi) (fun H w => Nat.le_refl _) ?_ ?_
  · rintro i H x H' hi ⟨cs, hl, hc, hd, kp1, hb1⟩ ⟨rfl, rfl⟩
    have e : (0 + (i : Nat) : Int) = (i : Nat) := by omega
    rw [e]
    refine turn i H' _ hi kp1 hb1 fun c H4 pc kp2 hb2 => ⟨_, kp2 D _ hd Db, by rw [List.length_map]; omega, cs ++ [c], by rw [List.length_append, hl]; rfl, fun d hm => ?_, by rw [upd_same, List.map_append]; rfl, (kp1.trans kp2).at hD _, hb2.at Db _⟩
    rcases List.mem_append.mp hm with h | h
    · exact hc d h
    · rw [List.mem_singleton.mp h]; exact pc
  · rintro H' ⟨cs, hl, hc, hd, kp1, hb1⟩
    exact fin cs H' hl hc kp1 hb1 hd
theorem cutV_take (xs : List V) (k : Nat) : cutV xs none (some (k : Int)) = xs.take k := by
  unfold cutV
  rw [HT.sIx_nat, HT.sIx_none]
  show (xs.drop 0).take (min k xs.length - 0) = _
  rw [List.drop_zero, Nat.sub_zero, ← List.take_take, List.take_length]
theorem let_at : ∀ j, j < 26 → (cd (Str.ofString "abcdefghijklmnopqrstuvwxyz"))[j]? = some (97 + j) := by decide +kernel
theorem let_len : (Str.ofString "abcdefghijklmnopqrstuvwxyz").length = 26 := by decide +kernel
theorem let_all : ∀ c ∈ cd (Str.ofString "abcdefghijklmnopqrstuvwxyz"), 97 ≤ c ∧ c ≤ 122 := by decide +kernel
theorem nodup_rng {α : Type} {q : Nat} {f : Nat → α} (h : ∀ i j, i < q → j < q → f i = f j → i = j) : ((List.range q).map f).Nodup :=
  List.pairwise_map.mpr (List.Pairwise.imp_of_mem (fun {a b} ha hb ne e => ne (h a b (List.mem_range.mp ha) (List.mem_range.mp hb) e)) List.nodup_range)
def spCell (K : PySem.W.Frag) : Sp := fun vs H Q _ => ∃ (a : Addr) (ns : List Int) (k : Nat), vs = [.ref a, .int (k : Nat)] ∧ SqL K H a (ns.map V.int) ∧ k ≤ 1000 ∧ ∀ c : Int, Q (.int c) H
def spName : Sp := fun vs H Q _ => ∃ (b : Addr) (n : Nat), vs = [.ref b] ∧ Bx H b n ∧ n ≤ 900000000 ∧ ∀ (l : List Nat) (H' : Hp), Nm l → Keep b H H' → Bx H' b (n + 9) → Q (.str (S l)) H'
def spNames : Sp := fun vs H Q _ => ∃ (b : Addr) (n m : Nat), vs = [.ref b, .int (m : Nat)] ∧ Bx H b n ∧ n ≤ 800000000 ∧ 1 ≤ m ∧ m ≤ 8 ∧ ∀ (ns : List (List Nat)) (p : Addr) (H' : Hp), ns.length = m → (∀ x ∈ ns, Nm x) → ns.Nodup → Keep b H H' → Bx H' b (n + 11) → H' p = some (.lst (ns.map wV)) → Q (.ref p) H'
def spOwn : Sp := fun vs H Q _ => ∃ (b : Addr) (n : Nat), vs = [.ref b] ∧ Bx H b n ∧ n ≤ 900000000 ∧ ∀ (ws : List (List Nat)) (p : Addr) (H' : Hp), OwOk ws → Keep b H H' → Bx H' b (n + 1) → H' p = some (.lst (ws.map wV)) → p ≠ b → Q (.ref p) H'
def spKind : Sp := fun vs H Q _ => ∃ (b : Addr) (n : Nat), vs = [.ref b] ∧ Bx H b n ∧ n ≤ 700000000 ∧ ∀ (k : Kd) (p : Addr) (H' : Hp), k.Ok → KdAt H' p k → Keep b H H' → Bx H' b (n + 30) → Q (.ref p) H'
def spWordK : Sp := fun vs H Q _ => ∃ (b : Addr) (n m : Nat), vs = [.ref b, .int (m : Nat)] ∧ m ≤ 40 ∧ Bx H b n ∧ n ≤ 800000000 ∧ ∀ (l : List Nat) (H' : Hp), l.length ≤ m → Sg l → Keep b H H' → Bx H' b (n + 42) → Q (.str (S l)) H'
end J

/-! the law's own look at what begins a worth's word -/
namespace J
open PySem PySem.Spec PyProof.Rows L2 M
section
variable {H : Hp} {Q : VK} {K : PySem.W.Frag}
theorem r_neNil {a b : Addr} {ls : List (List Nat)} (ha : SqL K H a (ls.map wV)) (hb : SqL K H b []) (h : ∀ l ∈ ls, ∀ c ∈ l, c ≤ 126) (k : Q (.bl (!decide (ls = []))) H) : rNeA K (.ref a) (.ref b) H Q := by
  refine .inr ⟨dWs ls, dWs [], dp_ws ha, dp_ws hb, sh_ws h, sh_ws (fun _ h => (List.not_mem_nil h).elim), ?_⟩
  have e : PyData.eqv (dWs ls) (dWs []) = decide (ls = []) := by cases ls <;> rfl
  rw [e]
  exact k
theorem dp_ints : ∀ ks : List Int, DpAll K H (ks.map V.int) (ks.map PyData.int)
  | [] => .nil
  | i :: ks => .cons (.int _) (dp_ints ks)
theorem can_ints : ∀ ks : List Int, PyData.canLayAll0 (ks.map PyData.int) = true
  | [] => rfl
  | i :: ks => by
    show (true && PyData.canLayAll0 (ks.map PyData.int)) = true
    rw [can_ints ks]; rfl
theorem dep_ints : ∀ ks : List Int, PyData.depthAll (ks.map PyData.int) = 0
  | [] => rfl
  | i :: ks => by
    show max 0 (PyData.depthAll (ks.map PyData.int)) = 0
    rw [dep_ints ks]; rfl
theorem sh_ints (ks : List Int) : SeqAt.shaped (.list (ks.map PyData.int)) = true := by
  show (PyData.canLayAll0 (ks.map PyData.int) && decide (PyData.depthAll (ks.map PyData.int) + 1 ≤ 64)) = true
  rw [can_ints, dep_ints]; rfl
theorem r_neNilI {a b : Addr} {ks : List Int} (ha : SqL K H a (ks.map V.int)) (hb : SqL K H b []) (k : Q (.bl (!decide (ks = []))) H) : rNeA K (.ref a) (.ref b) H Q := by
  refine .inr ⟨.list (ks.map PyData.int), .list [], .lst ha (dp_ints ks), .lst hb .nil, sh_ints ks, rfl, ?_⟩
  have e : PyData.eqv (.list (ks.map PyData.int)) (.list []) = decide (ks = []) := by cases ks <;> rfl
  rw [e]
  exact k
end
/-- the signs that are kept -/
def kpP (p : Nat → Bool) : V → Option V
  | .str z => match cd z with
    | [c] => if p c = true then some (.str z) else none
    | _ => none
  | _ => none
theorem kpP_sgn {p : Nat → Bool} {c : Nat} : kpP p (.str ⟨#[c]⟩) = if p c = true then some (.str ⟨#[c]⟩) else none := rfl
theorem filt_p (p : Nat → Bool) : ∀ l : List Nat, (l.map sgnV).filterMap (kpP p) = (l.filter p).map sgnV
  | [] => rfl
  | c :: l => by
    rw [List.map_cons, List.filterMap_cons, filt_p p l, show kpP p (sgnV c) = if p c = true then some (sgnV c) else none from rfl]
    by_cases q : p c = true
    · rw [if_pos q, List.filter_cons_of_pos q]; rfl
    · rw [if_neg q, List.filter_cons_of_neg q]
/-- the words that are kept -/
def kpW (p : List Nat → Bool) : V → Option V
  | .str z => if p (cd z) = true then some (.str z) else none
  | _ => none
theorem kpW_w {p : List Nat → Bool} {l : List Nat} : kpW p (wV l) = if p l = true then some (wV l) else none := by
  show (if p (cd (S l)) = true then _ else _) = _
  rw [cd_S]; rfl
theorem filt_w (p : List Nat → Bool) : ∀ ls : List (List Nat), (ls.map wV).filterMap (kpW p) = (ls.filter p).map wV
  | [] => rfl
  | l :: ls => by
    rw [List.map_cons, List.filterMap_cons, filt_w p ls, kpW_w]
    by_cases q : p l = true
    · rw [if_pos q, List.filter_cons_of_pos q]; rfl
    · rw [if_neg q, List.filter_cons_of_neg q]
theorem comp_rngF {lo : Int} {q : Nat} {g : TG} {tt : TT} {te : TE} {vs : List Nat} {σ : L2.St} {H1 : Hp} {D : Addr} {Z : Hp → Prop} (hD : H1 D = none) (p : Nat → Bool) (hs : q < sizeLine)
    (turn : ∀ (i : Nat) (H : Hp) (N : V → Hp → Prop) (N0 : Hp → Prop), i < q → Same H1 H → (p i = true → ∀ H4, Same H H4 → N (.int (lo + (i : Nat))) H4) → (p i = false → ∀ H4, Same H H4 → N0 H4) →
      g (.int (lo + (i : Nat))) (wipe σ vs) H fun σ2 H2 => wipe σ2 vs = wipe σ vs ∧ tt σ2 H2 fun b H3 => if b = true then te σ2 H3 N else N0 H3)
    (fin : ∀ H, Same H1 H → H D = some (.lst ((((List.range q).filter p).map fun i => lo + (i : Nat)).map V.int)) → Z H) : CompQ (Itr lo q) g tt te vs σ H1 D Z := by
  refine comp_of q (fun i H => Same H1 H ∧ H D = some (.lst ((((List.range i).filter p).map fun i => lo + (i : Nat)).map V.int))) ⟨(Same.refl H1).at hD _, by rw [upd_same]; rfl⟩ (fun i H hi w => hi) (fun H w => Nat.le_refl _) (fun i H x H' hi w y => ?_) (fun H w => fin H w.1 w.2)
  obtain ⟨rfl, rfl⟩ := y
  refine turn i H' _ _ hi w.1 (fun hy H4 s => ⟨_, s _ _ w.2, ?_, (w.1.trans s).at hD _, ?_⟩) fun hn H4 s => ⟨w.1.trans s, ?_⟩
  · rw [List.length_map, List.length_map]
    refine Nat.lt_of_le_of_lt (Nat.le_trans (List.length_filter_le ..) ?_) hs
    rw [List.length_range]; omega
  · rw [upd_same, List.range_succ, List.filter_append, List.map_append, List.map_append, List.filter_cons_of_pos hy]; rfl
  · rw [s _ _ w.2, List.range_succ, List.filter_append, List.filter_cons_of_neg (by rw [hn]; exact Bool.false_ne_true), List.filter_nil, List.append_nil]
/-! ### what begins a word is a word -/
theorem D_len : ∀ (k : Nat) {n : Nat}, n < 10 ^ (k + 1) → (D n).length ≤ k + 1
  | 0, n, h => by rw [D_lt (by simpa using h)]; exact Nat.le_refl _
  | k + 1, n, h => by
    by_cases q : n < 10
    · rw [D_lt q, List.length_singleton]; omega
    · rw [D_ge (by omega), List.length_append, List.length_singleton]
      have := D_len k (n := n / 10) ((Nat.div_lt_iff_lt_mul (by decide)).mpr (by rw [← Nat.pow_succ]; exact h))
      omega
theorem dec_sg (m : Int) : Sg (dec m) := by
  intro c hc
  unfold dec at hc
  split at hc
  · rcases List.mem_cons.mp hc with rfl | hc  -- own
    · omega
    · have := D_digits _ c hc; omega
  · have := D_digits _ c hc; omega
theorem dec_len {m : Int} (h1 : -999999 ≤ m) (h2 : m ≤ 999999) : (dec m).length ≤ 7 := by
  have := D_len 5 (n := m.natAbs) (by omega)
  unfold dec
  split
  · rw [List.length_cons]; omega
  · omega
theorem beg_sg {k : Kd} {ws : List (List Nat)} {l : List Nat} (ok : k.Ok) (ow : OwOk ws) (h : Beg ws l k) : l.length ≤ 40 ∧ Sg l := by
  have pre : ∀ w : List Nat, l <+: w → w.length ≤ 40 → Sg w → l.length ≤ 40 ∧ Sg l := fun w p a b => ⟨Nat.le_trans p.length_le a, fun c hc => b c (p.subset hc)⟩
  cases k with
  | num lo hi =>
    obtain ⟨o1, o2, o3⟩ := ok
    obtain ⟨m, m1, m2, p⟩ := (begNum_iff o2).mp h
    exact pre _ p (Nat.le_trans (dec_len (by omega) (by omega)) (by decide)) (dec_sg m)
  | one ns =>
    obtain ⟨w, hw, p⟩ := h
    exact pre w p (ok.2.2.1 w hw).wd.1 (ok.2.2.1 w hw).wd.2
  | nam =>
    rcases h with h | h
    · rw [h]; exact ⟨by simp, fun c hc => (List.not_mem_nil hc).elim⟩
    · exact h.wd
  | txt n => exact ⟨by have := h.1; have := ok.2; omega, h.2⟩
  | own nm =>
    obtain ⟨w, hw, p⟩ := h
    have q := ow.2.1 w hw
    exact pre w p (by omega) q.2.2
theorem r_lcR2 {σ : L2.St} {H : Hp} {Q : VK} {ta : TA} {te' : TE} {g : TG} {tt : TT} {vs : List Nat} (k : ta σ H fun ws H1 => ∃ i j : Int, ws = [.int i, .int j] ∧ (-(2 ^ 62) ≤ i ∧ i < 2 ^ 62 ∧ -(2 ^ 62) ≤ j ∧ j < 2 ^ 62) ∧ ∀ E, H1 E = none → CompQ (Itr i (j - i).toNat) g tt te' vs σ H1 E fun H => Q (.ref E) H) : tLc (iRng2 ta) g tt te' vs σ H Q := k
theorem pre_eq {l m : List Nat} : (S (m.take l.length) = S l) ↔ l <+: m := by
  rw [S_inj, List.prefix_iff_eq_take]
  exact eq_comm
theorem r_seqZ {K : PySem.W.Frag} {σ : L2.St} {H : Hp} {te' : TE} {g : TG} {tt : TT} {vs : List Nat} {Z : Addr → Hp → Prop} {a : Addr} {xs : List V} (hs : SqL K H a xs ∨ SqT K H a xs) (k : ∀ J, SeqIt J xs H → ∀ E, H E = none → CompQ J g tt te' vs σ H E (Z E)) :
    ∃ b ys, V.ref a = .ref b ∧ ((SqL K H b ys ∧ ∀ E, H E = none → CompQ (Itl K b) g tt te' vs σ H E (Z E)) ∨ (SqT K H b ys ∧ ∀ E, H E = none → CompQ (Itt K b) g tt te' vs σ H E (Z E))) :=
  ⟨a, xs, rfl, hs.elim (fun h => .inl ⟨h, k _ (seqIt_l h)⟩) fun h => .inr ⟨h, k _ (seqIt_t h)⟩⟩
/-- the words that begin with a text -/
theorem word_in {J : It} {g : TG} {tt : TT} {te : TE} {vs : List Nat} {σ : L2.St} {H1 : Hp} {D : Addr} {ns : List (List Nat)} (z : Str) (hz : z.length ≤ 40) (SI : SeqIt J (ns.map wV) H1) (hD : H1 D = none) (hl : ns.length ≤ 100) (hn : ∀ l ∈ ns, l.length ≤ 40 ∧ ∀ c ∈ l, c ≤ 126) (Z : Hp → Prop)
    (turn : ∀ (i : Nat) (l : List Nat) (H : Hp) (N : V → Hp → Prop) (N0 : Hp → Prop), l ∈ ns → Same H1 H → (cd z <+: l → ∀ H4, Same H H4 → N (.str (S l)) H4) → (¬ cd z <+: l → ∀ H4, Same H H4 → N0 H4) →
      g (.str (S l)) (wipe σ vs) H fun σ2 H2 => wipe σ2 vs = wipe σ vs ∧ tt σ2 H2 fun b H3 => if b = true then te σ2 H3 N else N0 H3)
    (fin : ∀ H, Same H1 H → ∀ ls : List (List Nat), H D = some (.lst (ls.map wV)) → (∀ l ∈ ls, ∀ c ∈ l, c ≤ 126) → (ls ≠ [] ↔ ∃ n ∈ ns, cd z <+: n) → Z H) : CompQ J g tt te vs σ H1 D Z := by
  refine comp_filt SI hD (kpW fun l => decide (cd z <+: l)) (by rw [List.length_map]; exact Nat.lt_of_le_of_lt hl (by decide)) (fun i x H3 N1 N2 hx sm y1 y2 => ?_) fun H3 sm hd => ?_
  · rw [List.getElem?_map] at hx
    cases hi : ns[i]? with
    | none => rw [hi] at hx; cases hx
    | some l =>
      rw [hi] at hx
      cases hx
      exact turn i l H3 N1 N2 (List.mem_of_getElem? hi) sm (fun q H4 s => y1 _ H4 (by rw [kpW_w, decide_eq_true q]; rfl) s) fun q H4 s => y2 H4 (by rw [kpW_w, decide_eq_false q]; rfl) s
  · rw [filt_w] at hd
    refine fin H3 sm _ hd (fun l h => (hn l (List.mem_filter.mp h).1).2) ?_
    rw [ne_eq, List.filter_eq_nil_iff]
    constructor
    · intro h
      apply Classical.byContradiction
      intro n
      exact h fun l hl q => n ⟨l, hl, of_decide_eq_true q⟩
    · rintro ⟨l, hl, q⟩ h
      exact h l hl (decide_eq_true q)
def spNumBegun : Sp := fun vs H Q _ => ∃ (lo hi : Int) (z : Str), vs = [.int lo, .int hi, .str z] ∧ z.length ≤ 40 ∧ Sg (cd z) ∧ -999999 ≤ lo ∧ lo ≤ hi ∧ hi ≤ 999999 ∧ ∀ H', Same H H' → Q (.bl (dB (begNum lo hi (cd z)))) H'
def spDueK (K : PySem.W.Frag) : Sp := fun vs H Q _ => ∃ (a b : Addr) (k : Kd) (ws : List (List Nat)) (x : V) (o : Option Str), vs = [.ref a, x, .ref b] ∧ KdAt H a k ∧ k.Ok ∧ OwAt K H b ws ∧ OwOk ws ∧ Thg K H x o ∧ (∀ z, o = some z → ∀ c ∈ cd z, c ≤ 126) ∧ ∀ H', Same H H' → Q (.bl (begT k ws o)) H'
end J

/-! loops over lists and ranges where the box changes; the law's begun texts -/
namespace J
open PySem PySem.Spec PyProof.Rows L2 M
section
variable {K : PySem.W.Frag} {σ : L2.St} {H : Hp} {Q : VK} {g : TG} {tb : TS} {n' : L2.St → Hp → Prop} {rt : VK} {bk ct : L2.St → Hp → Prop}
theorem loop_lst {a : Addr} {xs : List V} (I : Nat → L2.St → Hp → Prop) (at_ : ∀ i σ H, I i σ H → H a = some (.lst xs)) (start : I 0 σ H)
    (turn : ∀ (i : Nat) (x : V) σ1 H1, xs[i]? = some x → I i σ1 H1 → g x σ1 H1 fun σ2 H2 => tb ⟨I (i + 1), rt, n', I (i + 1)⟩ σ2 H2)
    (fin : ∀ σ1 H1, I xs.length σ1 H1 → n' σ1 H1) : LoopQ (Itl K a) g tb ⟨n', rt, bk, ct⟩ σ H :=
  loop_of (D := ⟨n', rt, bk, ct⟩) xs.length I start (fun i σ H hi w => ⟨xs, _, SqL.of (at_ i σ H w), List.getElem?_eq_getElem hi⟩) (fun σ H w => ⟨xs, SqL.of (at_ _ σ H w), Nat.le_refl _⟩) (fun i σ1 H1 x H' hi w y => by
    obtain ⟨rfl, hx⟩ := y
    exact turn i x σ1 H' (hx xs (SqL.of (at_ i σ1 H' w))) w) fin
theorem loop_rng {q : Nat} (I : Nat → L2.St → Hp → Prop) (start : I 0 σ H)
    (turn : ∀ (j : Nat) σ1 H1, j < q → I j σ1 H1 → g (.int (j : Nat)) σ1 H1 fun σ2 H2 => tb ⟨I (j + 1), rt, n', I (j + 1)⟩ σ2 H2)
    (fin : ∀ σ1 H1, I q σ1 H1 → n' σ1 H1) : LoopQ (Itr 0 q) g tb ⟨n', rt, bk, ct⟩ σ H :=
  loop_of (D := ⟨n', rt, bk, ct⟩) q I start (fun j _ _ hj _ => hj) (fun _ _ _ => Nat.le_refl _) (fun j σ1 H1 x H' hj w y => by
    obtain ⟨rfl, rfl⟩ := y
    have e : (0 + (j : Nat) : Int) = (j : Nat) := by omega
    rw [e]
    exact turn j σ1 H' hj w) fin
theorem r_irng1 {ta : TA} {R : It → Hp → Prop} (k : ta σ H fun vs H1 => ∃ j : Int, vs = [.int j] ∧ -(2 ^ 62) ≤ j ∧ j < 2 ^ 62 ∧ R (Itr 0 j.toNat) H1) : iRng1 ta σ H R := k
end
/-- texts of the law's -/
def Tz (zs : List Str) : Prop := ∀ z ∈ zs, z.length ≤ 50 ∧ ∀ c ∈ cd z, c ≤ 126
theorem Tz.app {zs ys : List Str} (a : Tz zs) (b : Tz ys) : Tz (zs ++ ys) := fun z hz => (List.mem_append.mp hz).elim (a z) (b z)
/-- the law's words -/
def Wz (ws : List (List Nat)) : Prop := ∀ w ∈ ws, w.length ≤ 20 ∧ ∀ c ∈ w, c ≤ 126
theorem OwOk.wz {ws : List (List Nat)} (h : OwOk ws) : Wz ws := fun w hw => ⟨(h.2.1 w hw).2.1, fun c hc => ((h.2.1 w hw).2.2 c hc).2⟩
theorem Wz.nm {ws : List (List Nat)} (h : ∀ n ∈ ws, Nm n) : Wz ws := fun w hw => ⟨by have := (h w hw).2.1; omega, fun c hc => by have := (h w hw).2.2 c hc; omega⟩
def spTexts : Sp := fun vs H Q _ => ∃ (bx a o : Addr) (n : Nat) (k : Kd) (ws : List (List Nat)), vs = [.ref bx, .ref a, .ref o] ∧ Bx H bx n ∧ n ≤ 500000000 ∧ KdAt H a k ∧ k.Ok ∧ H o = some (.lst (ws.map wV)) ∧ o ≠ bx ∧ OwOk ws ∧
  ∀ (zs : List Str) (p : Addr) (H' : Hp), zs.length ≤ 1000 → Tz zs → Keep bx H H' → Bx H' bx (n + 400) → H' p = some (.lst (zs.map V.str)) → p ≠ bx → Q (.ref p) H'
end J

/-! a def with a keyword-only list, left out or told; the repr of a truth -/
namespace J
open PySem PySem.Spec PyProof.Rows L2 M
structure DKn (K : PySem.W.Frag) (mg : Str → Option Value) (x : Str) (st : Stmt) (ps : List Str) (f e : Addr) (fd : FuncData) (ds : List Value) : Prop where
  fn : Fun K x x st f fd
  gl : mg x = some (.ref f)
  bK : KBn K fd ps 2 ["own"] (fun us ws => us ++ ws) (fun vs zs => vs ++ zs)
  bd : Binds K fd ps ds
  vs : Vals [V.ref e] ds
  em : ∀ H, SqT K H e []
theorem r_callN {σ : L2.St} {H : Hp} {Q : VK} {n m : Nat} {sp : Sp} {gV : List V → List V → List V} {E : XK} {t tk : TA} (k : t σ H fun vs H1 => tk σ H1 fun zs H2 => vs.length = n ∧ zs.length = m ∧ sp (gV vs zs) H2 Q E) : tCallN n m sp gV E t tk σ H Q := k
theorem showy_bl (b : Bool) : Showy (.bool b) := by cases b <;> exact ⟨rfl, by decide, rfl, by decide +kernel⟩
theorem r_neB {K : PySem.W.Frag} {H : Hp} {Q : VK} {b : Bool} (k : Q (.bl false) H) : rNeA K (.bl b) (.bl b) H Q := .inl ⟨rfl, by rw [decide_eq_true rfl]; exact k⟩
theorem r_neSame {K : PySem.W.Frag} {H : Hp} {Q : VK} {z : Str} (k : Q (.bl false) H) : rNeA K (.str z) (.str z) H Q := r_neS (by rw [decide_eq_true rfl]; exact k)
theorem r_midJ {t : TS} {n : L2.St → Hp → Prop} {rt : VK} {bk ct : L2.St → Hp → Prop} {σ : L2.St} {H : Hp} (Mid : L2.St → Hp → Prop) (first : ∀ N : L2.St → Hp → Prop, (∀ σ' H', Mid σ' H' → N σ' H') → t ⟨N, rt, bk, ct⟩ σ H) (rest : ∀ σ' H', Mid σ' H' → n σ' H') : t ⟨n, rt, bk, ct⟩ σ H := first n rest
end J

/-! things of some sorts: what they are, and whether one is a worth -/
namespace J
open PySem PySem.Spec PyProof.Rows L2 M
/-- what does not come to pass -/
theorem ps_false {X : Cx} {st : Stmt} : PS X st (fun _ _ _ => False) := ⟨fun pins s σ H D I h => h.elim⟩
/-! ### x in a list or a tuple, of data -/
def rInX (K : PySem.W.Frag) : R2 := fun x y H Q => ∃ d ds, Dp K H x d ∧ (Dp K H y (.list ds) ∨ Dp K H y (.tuple ds)) ∧ SeqAt.shaped d = true ∧ SeqAt.shaped (.list ds) = true ∧ Q (.bl (ds.any fun z => PyData.eqv z d)) H
theorem op_inX {X : Cx} (hu : X.A.units + 65 < cLine) : OpR X (compareOp .In) (rInX X.K) := by
  intro pins s σ H x y v u Q I rx ry h  -- own
  obtain ⟨d, ds, hd, he, sd, se, q⟩ := h  -- own
  obtain ⟨as, r1⟩ := Dp.reads I d x v hd rx  -- own
  rcases he with he | he
  · obtain ⟨bs, r2⟩ := Dp.reads I (.list ds) y u he ry
    exact SeqAt.in_list_reads r2 r1 (SeqAt.canLay_of_shaped se) (SeqAt.canLay_of_shaped sd) (room_in_shaped sd hu) ⟨.bl _, H, I, rfl, q⟩  -- own
  · obtain ⟨bs, r2⟩ := Dp.reads I (.tuple ds) y u he ry
    exact SeqAt.in_tuple_reads r2 r1 (SeqAt.canLay_of_shaped se) (SeqAt.canLay_of_shaped sd) (room_in_shaped sd hu) ⟨.bl _, H, I, rfl, q⟩
theorem room_65 {k : Nat} {A : Around} (r : Room k A) : A.units + 65 < cLine := by have := r.un; omega
/-! ### things -/
inductive Tg (K : PySem.W.Frag) (H : Hp) : V → PyData → Prop where
  | str (z : Str) (h : z.length ≤ 50) (c : ∀ c ∈ cd z, c ≤ 126) : Tg K H (.str z) (.str z)
  | non : Tg K H .non .none
  | int (i : Int) (h : i.natAbs ≤ 10 ^ 60) : Tg K H (.int i) (.int i)
  | bl (b : Bool) : Tg K H (.bl b) (.bool b)
  | lst {a : Addr} (h : H a = some (.lst [.int 1])) : Tg K H (.ref a) (.list [.int 1])
  | tup {a : Addr} {zs : List (List Nat)} (h : H a = some (.tup (zs.map wV))) (hl : zs.length ≤ 8) (hz : ∀ l ∈ zs, l.length ≤ 8 ∧ ∀ c ∈ l, c ≤ 126) : Tg K H (.ref a) (.tuple (zs.map dW))
theorem Tg.same {K : PySem.W.Frag} {H H' : Hp} {x : V} {d : PyData} (t : Tg K H x d) (s : Same H H') : Tg K H' x d := by
  cases t with
  | str z h c => exact .str z h c
  | non => exact .non
  | int i h => exact .int i h
  | bl b => exact .bl b
  | lst h => exact .lst (s _ _ h)
  | tup h hl hz => exact .tup (s _ _ h) hl hz
theorem Tg.dp {K : PySem.W.Frag} {H : Hp} {x : V} {d : PyData} (t : Tg K H x d) : Dp K H x d := by
  cases t with
  | str z h c => exact .str z
  | non => exact .non
  | int i h => exact .int i
  | bl b => exact .bl b
  | lst h => exact .lst (SqL.of h) (.cons (.int 1) .nil)
  | tup h hl hz => exact .tup (SqT.of h) (dp_all _)
theorem Tg.sh {K : PySem.W.Frag} {H : Hp} {x : V} {d : PyData} (t : Tg K H x d) : SeqAt.shaped d = true := by
  cases t with
  | str z h c =>
    have := can_w c
    rw [show dW (cd z) = .str z from congrArg PyData.str (S_of z)] at this
    show (PyData.canLay0 (.str z) && decide (0 ≤ 64)) = true
    rw [this]; rfl
  | non => rfl
  | int i h => rfl
  | bl b => rfl
  | lst h => rfl
  | @tup _ zs h hl hz =>
    show (PyData.canLayAll0 (zs.map dW) && decide (PyData.depthAll (zs.map dW) + 1 ≤ 64)) = true
    rw [can_ws fun l hl => (hz l hl).2, dep_ws]; rfl
def tyD : PyData → String
  | .str _ => "str"
  | .none => "NoneType"
  | .int _ => "int"
  | .bool _ => "bool"
  | .list _ => "list"
  | .tuple _ => "tuple"
  | _ => ""
theorem Tg.ty {K : PySem.W.Frag} {H : Hp} {x : V} {d : PyData} (t : Tg K H x d) : TyX K H x (.type (tyD d)) := by
  cases t with
  | str z h c => exact .base (.str z)
  | non => exact .base .non
  | int i h => exact .base (.int i)
  | bl b => exact .base (.bl b)
  | lst h => exact .base (.lst h)
  | tup h hl hz => exact .base (.tup h)
def isSD : PyData → Bool
  | .str _ => true
  | _ => false
def isID : PyData → Bool
  | .int _ => true
  | .bool _ => true
  | _ => false
def isBD : PyData → Bool
  | .bool _ => true
  | _ => false
theorem Tg.isS {K : PySem.W.Frag} {H : Hp} {Q : VK} {x : V} {d : PyData} (t : Tg K H x d) (k : Q (.bl (isSD d)) H) : rIsi K [x, .ty "str"] H Q :=
  r_isiB t.ty (by cases t <;> first | exact (show kitB "str" "str" = some true by decide +kernel) | exact (show kitB "NoneType" "str" = some false by decide +kernel) | exact (show kitB "int" "str" = some false by decide +kernel) | exact (show kitB "bool" "str" = some false by decide +kernel) | exact (show kitB "list" "str" = some false by decide +kernel) | exact (show kitB "tuple" "str" = some false by decide +kernel)) k
theorem Tg.isI {K : PySem.W.Frag} {H : Hp} {Q : VK} {x : V} {d : PyData} (t : Tg K H x d) (k : Q (.bl (isID d)) H) : rIsi K [x, .ty "int"] H Q :=
  r_isiB t.ty (by cases t <;> first | exact (show kitB "str" "int" = some false by decide +kernel) | exact (show kitB "NoneType" "int" = some false by decide +kernel) | exact (show kitB "int" "int" = some true by decide +kernel) | exact (show kitB "bool" "int" = some true by decide +kernel) | exact (show kitB "list" "int" = some false by decide +kernel) | exact (show kitB "tuple" "int" = some false by decide +kernel)) k
theorem Tg.isB {K : PySem.W.Frag} {H : Hp} {Q : VK} {x : V} {d : PyData} (t : Tg K H x d) (k : Q (.bl (isBD d)) H) : rIsi K [x, .ty "bool"] H Q :=
  r_isiB t.ty (by cases t <;> first | exact (show kitB "str" "bool" = some false by decide +kernel) | exact (show kitB "NoneType" "bool" = some false by decide +kernel) | exact (show kitB "int" "bool" = some false by decide +kernel) | exact (show kitB "bool" "bool" = some true by decide +kernel) | exact (show kitB "list" "bool" = some false by decide +kernel) | exact (show kitB "tuple" "bool" = some false by decide +kernel)) k
/-- a worth of a kind -/
def Fit (ws : List (List Nat)) (d : PyData) : Kd → Prop
  | .num lo hi => ∃ i, d = .int i ∧ lo ≤ i ∧ i ≤ hi
  | .one ns => ∃ n ∈ ns, d = dW n
  | .nam => ∃ z, d = .str z ∧ Nm (cd z)
  | .txt n => ∃ z, d = .str z ∧ (z.length : Int) ≤ n ∧ Sg (cd z)
  | .own _ => ∃ w ∈ ws, d = dW w
noncomputable def fitB (k : Kd) (ws : List (List Nat)) (d : PyData) : Bool := dB (Fit ws d k)
theorem any_fit {K : PySem.W.Frag} {H : Hp} {x : V} {d : PyData} (t : Tg K H x d) (ns : List (List Nat)) : ((ns.map dW).any fun z => PyData.eqv z d) = dB (∃ n ∈ ns, d = dW n) := by
  have one : ∀ n : List Nat, PyData.eqv (dW n) d = true ↔ d = dW n := fun n => by
    cases t with
    | str z h c =>
      show decide (S n = z) = true ↔ PyData.str z = PyData.str (S n)
      rw [decide_eq_true_iff]
      constructor
      · intro e; rw [e]
      · intro e; injection e with e; exact e.symm
    | non => exact ⟨fun e => (Bool.false_ne_true e).elim, fun e => PyData.noConfusion e⟩
    | int i h => exact ⟨fun e => (Bool.false_ne_true e).elim, fun e => PyData.noConfusion e⟩
    | bl b => exact ⟨fun e => (Bool.false_ne_true e).elim, fun e => PyData.noConfusion e⟩
    | lst h => exact ⟨fun e => (Bool.false_ne_true e).elim, fun e => PyData.noConfusion e⟩
    | tup h hl hz => exact ⟨fun e => (Bool.false_ne_true e).elim, fun e => PyData.noConfusion e⟩
  rw [Bool.eq_iff_iff, dB_iff, List.any_eq_true]
  constructor
  · rintro ⟨y, hy, e⟩
    obtain ⟨n, hn, rfl⟩ := List.mem_map.mp hy
    exact ⟨n, hn, (one n).mp e⟩
  · rintro ⟨n, hn, e⟩
    exact ⟨_, List.mem_map_of_mem hn, (one n).mpr e⟩
/-- the word of a worth -/
def wordV : PyData → V
  | .int i => .str (toString i)
  | .str z => .str z
  | _ => .non
def datV : PyData → V
  | .int i => .int i
  | .str z => .str z
  | _ => .non
end J

/-! promises of the doors to worths and words; keyword calls that may break off -/
namespace J
open PySem PySem.Spec PyProof.Rows L2 M
def whD (lo hi : Int) : PyData → Bool
  | .int i => decide (lo ≤ i) && decide (i ≤ hi)
  | _ => false
theorem whD_t {lo hi i : Int} (h1 : lo ≤ i) (h2 : i ≤ hi) : whD lo hi (.int i) = true := by show (decide _ && decide _) = true; rw [decide_eq_true h1, decide_eq_true h2]; rfl
def nmD : PyData → Bool
  | .str z => isNm (cd z)
  | _ => false
theorem nmD_t {l : List Nat} (h : Nm l) : nmD (.str (S l)) = true := by show isNm (cd (S l)) = true; rw [cd_S]; exact isNm_iff.mpr h
def wdD : PyData → Bool
  | .str z => decide (z.length ≤ 40) && sg (cd z)
  | _ => false
theorem wdD_t {l : List Nat} (h1 : l.length ≤ 40) (h2 : ∀ c ∈ l, 32 ≤ c ∧ c ≤ 126) : wdD (.str (S l)) = true := by show (decide _ && sg (cd (S l))) = true; rw [S_len, cd_S, sg_iff.mpr h2, decide_eq_true h1]; rfl
def intD : PyData → Bool
  | .int _ => true
  | _ => false
noncomputable def numD : PyData → V
  | .str z => optV (numV (cd z))
  | _ => .non
theorem tg_w {K : PySem.W.Frag} {H : Hp} {l : List Nat} (h1 : l.length ≤ 50) (h2 : ∀ c ∈ l, c ≤ 126) : Tg K H (.str (S l)) (.str (S l)) := .str (S l) (by rw [S_len]; exact h1) (by rw [cd_S]; exact h2)
theorem tg_nm {K : PySem.W.Frag} {H : Hp} {l : List Nat} (h : Nm l) : Tg K H (.str (S l)) (.str (S l)) := tg_w (by have := h.2.1; omega) fun c hc => by have := h.2.2 c hc; omega
def spWholeT (K : PySem.W.Frag) : Sp := fun vs H Q _ => ∃ (x : V) (d : PyData) (lo hi : Int), vs = [x, .int lo, .int hi] ∧ Tg K H x d ∧ Q (.bl (whD lo hi d)) H
def spNumberT (K : PySem.W.Frag) : Sp := fun vs H Q _ => ∃ (x : V) (d : PyData), vs = [x] ∧ Tg K H x d ∧ Q (.bl (intD d)) H
def spNameT (K : PySem.W.Frag) : Sp := fun vs H Q _ => ∃ (x : V) (d : PyData), vs = [x] ∧ Tg K H x d ∧ Q (.bl (nmD d)) H
def spWordT (K : PySem.W.Frag) : Sp := fun vs H Q _ => ∃ (x : V) (d : PyData), vs = [x] ∧ Tg K H x d ∧ Q (.bl (wdD d)) H
noncomputable def spNumInT (K : PySem.W.Frag) : Sp := fun vs H Q _ => ∃ (x : V) (d : PyData), vs = [x] ∧ Tg K H x d ∧ Q (numD d) H
def spNumWord : Sp := fun vs H Q _ => ∃ i : Int, vs = [.int i] ∧ i.natAbs < 10 ^ 18 ∧ Q (.str (toString i)) H
/-- what a kind, a thing and own words are handed in for -/
def AtT (K : PySem.W.Frag) (H : Hp) (a b : Addr) (k : Kd) (ws : List (List Nat)) (x : V) (d : PyData) : Prop := KdAt H a k ∧ k.Ok ∧ OwAt K H b ws ∧ OwOk ws ∧ Tg K H x d
theorem AtT.same {K : PySem.W.Frag} {H H' : Hp} {a b : Addr} {k : Kd} {ws : List (List Nat)} {x : V} {d : PyData} (h : AtT K H a b k ws x d) (s : Same H H') : AtT K H' a b k ws x d := ⟨h.1.same s, h.2.1, h.2.2.1.same s, h.2.2.2.1, h.2.2.2.2.same s⟩
def spFitsT (K : PySem.W.Frag) : Sp := fun vs H Q _ => ∃ (a b : Addr) (k : Kd) (ws : List (List Nat)) (x : V) (d : PyData), vs = [.ref a, x, .ref b] ∧ AtT K H a b k ws x d ∧ Q (.bl (fitB k ws d)) H
def spIsWorth (K : PySem.W.Frag) : Sp := fun vs H Q _ => ∃ (a b : Addr) (k : Kd) (ws : List (List Nat)) (x : V) (d : PyData), vs = [.ref a, x, .ref b] ∧ AtT K H a b k ws x d ∧ ∀ H', Same H H' → Q (.bl (fitB k ws d)) H'
/-- the word, where it is known to be a worth -/
def spWordOf0 (K : PySem.W.Frag) : Sp := fun vs H Q _ => ∃ (a b : Addr) (k : Kd) (ws : List (List Nat)) (x : V) (d : PyData), vs = [.ref a, x, .ref b] ∧ AtT K H a b k ws x d ∧ Fit ws d k ∧ ∀ H', Same H H' → Q (wordV d) H'
def spWordOf (K : PySem.W.Frag) (C : Addr) : Sp := fun vs H Q E => ∃ (a b : Addr) (k : Kd) (ws : List (List Nat)) (x : V) (d : PyData), vs = [.ref a, x, .ref b] ∧ AtT K H a b k ws x d ∧ ¬ Fit ws d k ∧ Err C "found" x H E
noncomputable def worthV (k : Kd) (ws : List (List Nat)) (d : PyData) : V :=
  match k with
  | .num lo hi => match numD d with
    | .int n => if lo ≤ n ∧ n ≤ hi then .int n else .non
    | _ => .non
  | k => if fitB k ws d = true then datV d else .non
def spWorthOf (K : PySem.W.Frag) : Sp := fun vs H Q _ => ∃ (a b : Addr) (k : Kd) (ws : List (List Nat)) (x : V) (d : PyData), vs = [.ref a, x, .ref b] ∧ AtT K H a b k ws x d ∧ ∀ H', Same H H' → Q (worthV k ws d) H'
def knownW (ws : List (List Nat)) : Kd → List (List Nat)
  | .one ns => ns
  | .own _ => ws
  | _ => []
def spWordsOf (K : PySem.W.Frag) : Sp := fun vs H Q _ => ∃ (a b : Addr) (k : Kd) (ws : List (List Nat)), vs = [.ref a, .ref b] ∧ KdAt H a k ∧ OwAt K H b ws ∧ ∀ (p : Addr), H p = none → Q (.ref p) (upd H p (.lst ((knownW ws k).map wV)))
def spKnown (K : PySem.W.Frag) : Sp := fun vs H Q _ => ∃ (a b : Addr) (k : Kd) (ws : List (List Nat)), vs = [.ref a, .ref b] ∧ KdAt H a k ∧ k.Ok ∧ OwAt K H b ws ∧ OwOk ws ∧ ∀ (p : Addr) (H' : Hp), H p = none → Same H H' → H' p = some (.lst ((knownW ws k).map wV)) → Q (.ref p) H'
def hasW (ws : List (List Nat)) : Kd → Bool
  | .own _ => decide (0 < ws.length)
  | _ => true
def spHasAny (K : PySem.W.Frag) : Sp := fun vs H Q _ => ∃ (a b : Addr) (k : Kd) (ws : List (List Nat)), vs = [.ref a, .ref b] ∧ KdAt H a k ∧ OwAt K H b ws ∧ Q (.bl (hasW ws k)) H
def spHas (K : PySem.W.Frag) : Sp := fun vs H Q _ => ∃ (a b : Addr) (k : Kd) (ws : List (List Nat)), vs = [.ref a, .ref b] ∧ KdAt H a k ∧ k.Ok ∧ OwAt K H b ws ∧ OwOk ws ∧ ∀ H', Same H H' → Q (.bl (hasW ws k)) H'
/-- a def with a keyword-only list, left out or told, behind n others -/
structure DKm (n : Nat) (K : PySem.W.Frag) (mg : Str → Option Value) (x : Str) (st : Stmt) (ps : List Str) (f e : Addr) (fd : FuncData) (ds : List Value) : Prop where
  fn : Fun K x x st f fd
  gl : mg x = some (.ref f)
  bK : KBn K fd ps n ["own"] (fun us ws => us ++ ws) (fun vs zs => vs ++ zs)
  bd : Binds K fd ps ds
  vs : Vals [V.ref e] ds
  em : ∀ H, SqT K H e []
def tCallNS (n m : Nat) (sp : Sp) (gV : List V → List V → List V) (E : L2.St → XK) (t tk : TA) : TE := fun σ H Q => t σ H fun vs H1 => tk σ H1 fun zs H2 => vs.length = n ∧ zs.length = m ∧ sp (gV vs zs) H2 Q (E σ)
section
variable {X : Cx} {CX : CXT} {k n : Nat} {f : Addr} {fd : FuncData} {ps ks : List Str} {sp : Sp} {E : L2.St → XK} {x : Str} {p pos : Pos} {e : Expr} {es : List Expr} {kws : List Keyword} {t tk : TA} {g : List Value → List Value → List Value} {gV : List V → List V → List V}
theorem pe_callNS (F : FnOk X.prog X.w X.K X.mg X.base CX k f fd ps sp) (hr : Room k X.A) (hg : Gl X x) (hm : X.mg x = some (.ref f)) (hk : PySem.W.keepIn X.K (.ref f) = true) (hb : KBn X.K fd ps n ks g gV) (hx : ∀ σ, PassesAt CX X σ (E σ))
    (ha : PA X (e :: es) t) (hkw : PK X kws tk) (hall : (backToKw pos (keywordEach kws X.env)).all (·.1.isSome) = true := by rfl) (hks : (backToKw pos (keywordEach kws X.env)).filterMap (·.1) = ks := by rfl)  -- own
    (hdb : (x == ("__debug__" : Str)) = false := by decide) (he : starEach (e :: es) X.env = (false, eval e X.env) :: starEach es X.env := by rfl)  -- own
    (hpl : ((backTo pos (starEach (e :: es) X.env)).any (·.1) || (backToKw pos (keywordEach kws X.env)).any (·.1.isNone)) = false := by rfl) :  -- own
    PE X (.Call (.Name x p) (e :: es) kws pos) (tCallNS n ks.length sp gV E t tk) := ⟨fun pins s σ H Q I h => by
  refine wpAny_Call_Name_kw (ld_glob I hg hm ?_ hdb)  -- own
  refine PySem.W.callWith_KW (h₀ := X.base) I.ok.mod.kin hk hall (thn (ha.run pos pins s σ H _ I h) fun us s1 z => ?_) hpl he
  obtain ⟨vs, H1, I1, r, q⟩ := z
  refine thn (hkw.run pos pins s1 σ H1 _ I1 q) fun ws s2 z => ?_
  obtain ⟨zs, H2, I2, rz, l1, l2, q2⟩ := z
  refine ⟨I2.kIn, ?_⟩
  rw [hks]
  refine wpAny_call (codeAny_mono (F.run X.A X.stack s2 H2 ⟨us, ks.zip ws⟩ (g us ws) (gV vs zs) Q (E σ) hr I2.env0 (hb.to s2 us ws I2.kIn (r.length.symm.trans l1) (rz.length.symm.trans l2)) (hb.rel r rz) q2) fun r s3 hq => ?_)
  cases r with
  | error e => exact hx σ pins H2 s2 e s3 I2 hq
  | ok fl => cases fl with
    | ret u => exact I2.after hq
    | _ => exact hq.elim⟩
end
section
variable {σ : L2.St} {H : Hp} {Q : VK} {K : PySem.W.Frag}
theorem r_callNS {n m : Nat} {sp : Sp} {gV : List V → List V → List V} {E : L2.St → XK} {t tk : TA} (k : t σ H fun vs H1 => tk σ H1 fun zs H2 => vs.length = n ∧ zs.length = m ∧ sp (gV vs zs) H2 Q (E σ)) : tCallNS n m sp gV E t tk σ H Q := k
theorem r_dget2 {td ty tx : TE} (k : td σ H fun x H1 => ∃ a, x = .ref a ∧ IsD H1 a ∧ ty σ H1 fun y H2 => tx σ H2 fun z H3 => ∃ o, DGet H3 a y o ∧ Q (o.getD z) H3) : tDGet2 td ty tx σ H Q := k
end
def rStrS : List V → Hp → VK → Prop := fun xs H Q => (∃ i, xs = [V.int i] ∧ i.natAbs.log2 < 1920 ∧ Q (.str (toString i)) H) ∨ ∃ a, xs = [V.str a] ∧ Q (.str a) H
theorem call_strA {X : Cx} : CallR X (.type "str") rStrS := fun pins s σ H vs us Q I r h => h.elim (fun h => L2.call_str_int pins s σ H vs us Q I r h) fun h => SkE.call_str_str pins s σ H vs us Q I r h
end J

/-! the law's own looks at worths, words and what is known -/
namespace J
open PySem PySem.Spec PyProof.Rows L2 M
def spNameL (K : PySem.W.Frag) : Sp := fun vs H Q _ => ∃ (x : V) (d : PyData), vs = [x] ∧ Tg K H x d ∧ ∀ H', Same H H' → Q (.bl (nmD d)) H'
noncomputable def spDueW (K : PySem.W.Frag) : Sp := fun vs H Q _ => ∃ (a b : Addr) (k : Kd) (ws : List (List Nat)) (z : Str), vs = [.ref a, .str z, .ref b] ∧ AtT K H a b k ws (.str z) (.str z) ∧ ∀ H', Same H H' → Q (worthV k ws (.str z)) H'
def spKnownL (K : PySem.W.Frag) : Sp := fun vs H Q _ => ∃ (a b : Addr) (k : Kd) (ws : List (List Nat)), vs = [.ref a, .ref b] ∧ KdAt H a k ∧ OwAt K H b ws ∧ ∀ (p : Addr) (H' : Hp), H p = none → Same H H' → H' p = some (.lst ((knownW ws k).map wV)) → Q (.ref p) H'
/-- things, each with what it is -/
def Sm : PyData → Prop
  | .int i => i.natAbs ≤ 10 ^ 30
  | _ => True
def TgAll (K : PySem.W.Frag) (H : Hp) (es : List (V × PyData)) : Prop := ∀ e ∈ es, Tg K H e.1 e.2 ∧ Sm e.2
theorem TgAll.same {K : PySem.W.Frag} {H H' : Hp} {es : List (V × PyData)} (t : TgAll K H es) (s : Same H H') : TgAll K H' es := fun e he => ⟨(t e he).1.same s, (t e he).2⟩
theorem TgAll.app {K : PySem.W.Frag} {H : Hp} {es fs : List (V × PyData)} (t : TgAll K H es) (u : TgAll K H fs) : TgAll K H (es ++ fs) := fun e he => (List.mem_append.mp he).elim (t e) (u e)
def spThings (K : PySem.W.Frag) : Sp := fun vs H Q _ => ∃ (bx a o : Addr) (n : Nat) (k : Kd) (ws : List (List Nat)), vs = [.ref bx, .ref a, .ref o] ∧ Bx H bx n ∧ n ≤ 500000000 ∧ KdAt H a k ∧ k.Ok ∧ H o = some (.lst (ws.map wV)) ∧ o ≠ bx ∧ OwOk ws ∧
  ∀ (es : List (V × PyData)) (p : Addr) (H' : Hp), TgAll K H' es → es.length ≤ 60 → Keep bx H H' → Bx H' bx (n + 60) → H' p = some (.lst (es.map Prod.fst)) → p ≠ bx → Q (.ref p) H'
def spWordsL (K : PySem.W.Frag) : Sp := fun vs H Q _ => ∃ (bx a p : Addr) (es : List (V × PyData)), vs = [.ref bx, .ref a, .ref p] ∧ TgAll K H es ∧ es.length ≤ 60 ∧ H p = some (.lst (es.map Prod.fst)) ∧
  ∀ (zs : List Str) (q : Addr) (H' : Hp), Tz zs → zs.length ≤ 400 → Same H H' → H' q = some (.lst (zs.map V.str)) → Q (.ref q) H'
def spToldR (K : PySem.W.Frag) : Sp := fun vs H Q _ => ∃ (a o : Addr) (k : Kd) (ws : List (List Nat)), vs = [.ref a, .ref o] ∧ KdAt H a k ∧ k.Ok ∧ H o = some (.lst (ws.map wV)) ∧ OwOk ws ∧ ∀ H', Same H H' → Q (.bl true) H'
def spNoWord (K : PySem.W.Frag) : Sp := fun vs H Q _ => ∃ (a b : Addr) (k : Kd) (ws : List (List Nat)) (x : V) (d : PyData), vs = [.ref a, x, .ref b] ∧ AtT K H a b k ws x d ∧ ¬ Fit ws d k ∧ ∀ H', Same H H' → Q (.bl true) H'
/-- the numeral's own test, as the law writes it -/
theorem canon_of {l : List Nat} (h0 : l ≠ []) (ad : PySem.NumText.AllDigits l) : Canon l ↔ (l = [48] ∨ l.head? ≠ some 48) := ⟨fun c => c.2.2, fun c => ⟨h0, ad, c⟩⟩
end J

/-! things and lists of words may be asked for their repr -/
namespace J
open PySem PySem.Spec PyProof.Rows L2 M
theorem show_z {z : Str} (h : z.length ≤ 100) (hc : ∀ c ∈ cd z, c ≤ 126) : (PyData.shown (.str z)).length ≤ 1002 := by
  have e : z = S (cd z) := (S_of z).symm
  have := PySem.StrLaws.reprText_len (S (cd z)) (fun c q => by rw [S_cps] at q; have := hc c q; exact Nat.lt_of_le_of_lt this (by decide))
  rw [S_len, ← len_cd] at this
  rw [e]
  exact Nat.le_trans this (by omega)
theorem showy_str {z : Str} (h : z.length ≤ 100) (hc : ∀ c ∈ cd z, c ≤ 126) : Showy (.str z) := ⟨rfl, by show 0 ≤ 60; decide, rfl, Nat.le_trans (show_z h hc) (by decide)⟩
theorem log60 {i : Int} (h : i.natAbs ≤ 10 ^ 60) : i.natAbs.log2 < 200 := by
  by_cases h0 : i.natAbs = 0
  · rw [h0]; decide
  · exact (Nat.log2_lt h0).mpr (Nat.lt_of_le_of_lt h (by decide))
theorem show_i60 {i : Int} (h : i.natAbs ≤ 10 ^ 60) : (PyData.shown (.int i)).length ≤ 201 := by
  show (Str.ofString (toString i)).length ≤ 201
  have := int_text_length_le (a := i) (k := 200) (by decide) (log60 h)
  have e : (Str.ofString (toString i)).length = (toString i).length := PySem.ofString_length _
  omega
theorem showy_int {i : Int} (h : i.natAbs ≤ 10 ^ 60) : Showy (.int i) := ⟨decide_eq_true (Nat.lt_trans (log60 h) (by decide)), by show 0 ≤ 60; decide, rfl, Nat.le_trans (show_i60 h) (by decide)⟩
theorem showy_ws {ws : List (List Nat)} (hl : ws.length ≤ 40) (h : ∀ w ∈ ws, w.length ≤ 40 ∧ ∀ c ∈ w, c ≤ 126) : Showy (dWs ws) := by
  obtain ⟨a, b, c, d⟩ := show_ws h
  have e : (PyData.shown (dWs ws)).length ≤ 20000 := by
    have := listText_len_le (PyData.shownAll (ws.map dW))
    show (listText (PyData.shownAll (ws.map dW))).length ≤ _
    omega
  exact ⟨c, by simp [dWs, PyData.depth, dep_ws], d, Nat.le_trans e (by decide)⟩
theorem showy_two {ws : List (List Nat)} {t : Bool} (hl : ws.length ≤ 40) (h : ∀ w ∈ ws, w.length ≤ 40 ∧ ∀ c ∈ w, c ≤ 126) : Showy (.list [dWs ws, .bool t]) := by
  obtain ⟨a, b, c, d⟩ := show_ws h
  have e : (PyData.shown (dWs ws)).length ≤ 20000 := by
    have := listText_len_le (PyData.shownAll (ws.map dW))
    show (listText (PyData.shownAll (ws.map dW))).length ≤ _
    omega
  have e2 : (PyData.shown (.bool t)).length ≤ 10 := by cases t <;> decide +kernel
  refine ⟨?_, ?_, ?_, ?_⟩
  · show (PyData.showableAll (ws.map dW) && (true && true)) = true
    rw [c]; rfl
  · simp [PyData.depth, PyData.depthAll, dWs, dep_ws]
  · show (PyData.hasDictAll (ws.map dW) || (false || false)) = false
    rw [d]; rfl
  · have := listText_len_le (PyData.shownAll [dWs ws, .bool t])
    simp only [PyData.shownAll, List.map_cons, List.map_nil, List.sum_cons, List.sum_nil, List.length_cons, List.length_nil] at this
    refine Nat.le_trans (show (listText (PyData.shownAll [dWs ws, .bool t])).length ≤ 30000 from ?_) (by decide)
    simp only [PyData.shownAll]
    omega
theorem Tg.showy {K : PySem.W.Frag} {H : Hp} {x : V} {d : PyData} (t : Tg K H x d) : Showy d := by
  cases t with
  | str z h c => exact showy_str (by omega) c
  | non => exact ⟨rfl, by decide, rfl, by decide +kernel⟩
  | int i h => exact showy_int h
  | bl b => exact showy_bl b
  | lst h => exact ⟨by decide +kernel, by decide, rfl, by decide +kernel⟩
  | @tup _ zs h hl hz =>
    have hz' : ∀ w ∈ zs, w.length ≤ 40 ∧ ∀ c ∈ w, c ≤ 126 := fun w hw => ⟨by have := (hz w hw).1; omega, (hz w hw).2⟩
    obtain ⟨a, b, c, d⟩ := show_ws hz'
    refine ⟨c, by simp [PyData.depth, dep_ws], d, ?_⟩
    have := tupleText_len_le (PyData.shownAll (zs.map dW))
    refine Nat.le_trans (show (tupleText (PyData.shownAll (zs.map dW))).length ≤ 20000 from ?_) (by decide)
    omega
end J

/-! lists of things, one by one; pieces of texts and texts some times over are things -/
namespace J
open PySem PySem.Spec PyProof.Rows L2 M
theorem TgAll.nil {K : PySem.W.Frag} {H : Hp} : TgAll K H [] := fun _ h => (List.not_mem_nil h).elim
theorem TgAll.cons {K : PySem.W.Frag} {H : Hp} {x : V} {d : PyData} {es : List (V × PyData)} (t : Tg K H x d) (r : TgAll K H es) (sm : Sm d := by first | exact True.intro | (show Int.natAbs _ ≤ _; omega)) : TgAll K H ((x, d) :: es) := fun e he => by
  rcases List.mem_cons.mp he with rfl | h
  · exact ⟨t, sm⟩
  · exact r e h
theorem TgAll.ws {K : PySem.W.Frag} {H : Hp} {ws : List (List Nat)} (h : ∀ w ∈ ws, w.length ≤ 50 ∧ ∀ c ∈ w, c ≤ 126) : TgAll K H (ws.map fun w => (wV w, dW w)) := fun e he => by
  obtain ⟨w, hw, rfl⟩ := List.mem_map.mp he
  exact ⟨tg_w (h w hw).1 (h w hw).2, True.intro⟩
theorem fst_ws (ws : List (List Nat)) : (ws.map fun w => (wV w, dW w)).map Prod.fst = ws.map wV := by rw [List.map_map]; rfl
theorem tg_cut {K : PySem.W.Frag} {H : Hp} {z : Str} {lo hi : Option Int} (h : z.length ≤ 50) (hc : ∀ c ∈ cd z, c ≤ 126) : Tg K H (.str (cutS z lo hi)) (.str (cutS z lo hi)) := by
  have e : cd (cutS z lo hi) = ((cd z).drop (HT.sIx z.length 0 lo)).take (HT.sIx z.length z.length hi - HT.sIx z.length 0 lo) := by simp [cutS]
  refine .str _ ?_ fun c h => ?_
  · rw [len_cd, e, List.length_take, List.length_drop, ← len_cd]; omega
  · rw [e] at h
    exact hc c (List.mem_of_mem_drop (List.mem_of_mem_take h))
theorem tg_mul {K : PySem.W.Frag} {H : Hp} {z : Str} {c : Nat} {n : Nat} (hz : cd z = [c]) (hc : c ≤ 126) (hn : n ≤ 50) : Tg K H (.str (Txt.mul z (n : Int))) (.str (Txt.mul z (n : Int))) := by
  have e : cd (Txt.mul z (n : Int)) = List.replicate n c := by
    rw [mul_cd, hz]
    induction n with
    | zero => rfl
    | succ n ih => rw [List.replicate_succ, List.flatten_cons, ih (by omega), List.replicate_succ]; rfl
  refine .str _ ?_ fun d h => ?_
  · rw [len_cd, e, List.length_replicate]; exact hn
  · rw [e] at h
    rw [(List.mem_replicate.mp h).2]; exact hc
theorem Tg.keep {K : PySem.W.Frag} {H H' : Hp} {b : Addr} {n : Nat} {x : V} {d : PyData} (t : Tg K H x d) (kp : Keep b H H') (hb : Bx H b n) : Tg K H' x d := by
  cases t with
  | str z h c => exact .str z h c
  | non => exact .non
  | int i h => exact .int i h
  | bl b => exact .bl b
  | lst h => exact .lst (kp _ _ h fun e => by
      obtain ⟨x, y, z, q, _⟩ := hb
      rw [e, q] at h
      injection h with h
      injection h with h
      cases h)
  | tup h hl hz => exact .tup (kp.tup hb h) hl hz
theorem TgAll.keep {K : PySem.W.Frag} {H H' : Hp} {b : Addr} {n : Nat} {es : List (V × PyData)} (t : TgAll K H es) (kp : Keep b H H') (hb : Bx H b n) : TgAll K H' es := fun e he => ⟨(t e he).1.keep kp hb, (t e he).2⟩
theorem tg_lit {K : PySem.W.Frag} {H : Hp} {z : Str} (h : (decide (z.length ≤ 50) && (cd z).all fun c => decide (c ≤ 126)) = true) : Tg K H (.str z) (.str z) := by
  rw [Bool.and_eq_true, decide_eq_true_iff, List.all_eq_true] at h
  exact .str z h.1 fun c hc => of_decide_eq_true (h.2 c hc)
theorem dec_len30 {m : Int} (h : m.natAbs ≤ 10 ^ 30) : (dec m).length ≤ 32 := by
  have := D_len 30 (n := m.natAbs) (by omega)
  unfold dec
  split
  · rw [List.length_cons]; omega
  · omega
def kpStr : V → Option V
  | .str z => some (.str z)
  | _ => none
def txs : List (V × PyData) → List Str
  | [] => []
  | (.str z, _) :: r => z :: txs r
  | _ :: r => txs r
theorem txs_map : ∀ es : List (V × PyData), (es.map Prod.fst).filterMap kpStr = (txs es).map V.str
  | [] => rfl
  | (x, d) :: r => by
    have ih := txs_map r
    cases x with
    | str z => exact congrArg (V.str z :: ·) ih
    | _ => exact ih
theorem txs_len : ∀ es : List (V × PyData), (txs es).length ≤ es.length
  | [] => Nat.le_refl _
  | (x, d) :: r => by
    have ih := txs_len r
    cases x with
    | str z => exact Nat.succ_le_succ ih
    | _ => exact Nat.le_succ_of_le ih
theorem txs_tz {K : PySem.W.Frag} {H : Hp} : ∀ {es : List (V × PyData)}, TgAll K H es → Tz (txs es)
  | [], _ => fun _ h => (List.not_mem_nil h).elim
  | (x, d) :: r, t => by
    have ih := txs_tz (es := r) fun e he => t e (List.mem_cons_of_mem _ he)
    have t0 := (t (x, d) (List.mem_cons_self ..)).1
    cases x with
    | str z =>
      intro y hy
      rcases List.mem_cons.mp hy with rfl | h
      · cases t0 with
        | str z h c => exact ⟨h, c⟩
      · exact ih y h
    | _ => exact ih
end J

/-! an own error as a value: made, asked for its class, asked for its repr -/
namespace PySem
open Sem (wp)
open Builtin Builtin.Str Builtin.BaseException Builtin.Exceptions  -- own
open PySem.W (Looks Frag findIn subIn looks_findIn looks_subIn clsIn)
section
variable {prog : Program} {w : World} {M : Model} {A : Around} {E : Value → Shared → Prop} {s : Shared} {K : Frag} {C e t0 : Addr}  -- own
theorem whole_C {cd : ClassData} {Q : String → Shared → Prop} (x : ExcC K C e t0 s.heap) (hc : clsIn K C = some cd) (hq : Q cd.name.toString s) : wpAny M A (typeNameOfWhole (.ref e)) Q E s := by
  unfold typeNameOfWhole shownTypeOf  -- own
  refine wpAny_bind (wpAny_bind (x.LT.here ?_))
  rw [if_neg (show ¬ ((Value.ref C == Value.type "builtin_function_or_method") = true) from fun z => by cases z)]
  refine wpAny_pure ?_
  unfold typeNameWhole
  exact wpAny_bind ((W.looks_clsIn x.1 hc).here (wpAny_pure hq))
def nmS (nm : Str) : Str := Str.ofString (((nm.toString).cutAt '.').getLastD "")
theorem pyRepr_int {i : Int} {t : Tok} {Q : Str → Shared → Prop} (ha : i.natAbs.log2 < 1920) (h : Q (Str.ofString (toString i)) { s with toks := s.toks + 1 }) : wpAny (model prog w) A (pyRepr (.int i t)) Q E s := by
  unfold pyRepr
  exact wpAny_bind (pyReprObj_int ha (wpAny_pure h))
theorem bexc_int {i : Int} {tk : Tok} {cd : ClassData} {Q : Fin → Shared → Prop} (x : ExcC K C e t0 s.heap) (hc : clsIn K C = some cd) (ht : s.heap.TupAt t0 [.int i tk]) (hi : i.natAbs.log2 < 1920) (hz : (nmS cd.name).length ≤ 1000) (h60 : (Str.ofString (toString i)).length ≤ 1000)
    (hq : ∀ t t', Q (.done (.ret (.str (nmS cd.name ++ Str.ofString "(" ++ Str.ofString (toString i) ++ Str.ofString ")") t))) { s with toks := t' }) :
    wpAny (model prog w) A (Builtin.«BaseException.__repr__» ⟨[.ref e], []⟩) Q E s := by
  unfold Builtin.«BaseException.__repr__» Builtin.bexcReprAt
  have hp : 0 + ((Str.ofString ((cd.name.toString.cutAt '.').getLastD "")).length + 1) ≤ sizeLine := by
    show 0 + ((nmS cd.name).length + 1) ≤ sizeLine
    rw [sizeLine_eq]; omega
  have hq : ∀ t t', Q (.done (.ret (.str (Str.ofString ((cd.name.toString.cutAt '.').getLastD "") ++ Str.ofString "(" ++ Str.ofString (toString i) ++ Str.ofString ")") t))) { s with toks := t' } := hq
  have hsz : (Str.ofString ((cd.name.toString.cutAt '.').getLastD "") ++ Str.ofString "(" ++ Str.ofString (toString i) ++ Str.ofString ")").length ≤ sizeLine := by
    show (nmS cd.name ++ Str.ofString "(" ++ Str.ofString (toString i) ++ Str.ofString ")").length ≤ sizeLine
    rw [strLen_append, strLen_append, strLen_append, show (Str.ofString "(").length = 1 by rw [ofString_length]; rfl, show (Str.ofString ")").length = 1 by rw [ofString_length]; rfl, sizeLine_eq]; omega
  repeat (first | with_reducible refine whole_C x hc ?_ | with_reducible refine bexcArgs_C x ht ?_ | rw [pyReprUnder_leaf (v := .int i tk) hp (by intro a; nofun)] | with_reducible refine pyRepr_int hi ?_ | wp_step)
  exact hq _ _
theorem call_bexcRepr_C {Q : Value → Shared → Prop} (x : ExcC K C e t0 s.heap) (hB : subIn K (.ref C) (.type "BaseException") = some true)
    (h : wpAny (model prog w) A.in1 (Builtin.«BaseException.__repr__» ⟨[.ref e], []⟩) (fun fin s' => ∃ v, fin = .done (.ret v) ∧ Q v s') E s) : wpAny (model prog w) A (call (.builtin "BaseException.__repr__") [.ref e]) Q E s := by
  refine wpAny_call (codeAny_call_builtin F.excStr_Exception.repr.plain F.entry_bexc_repr (@PySem.W.check_slot (model prog w) _ _ s "BaseException.__repr__" "BaseException" "__repr__" (.ref e) [] [] _ (by decide +kernel) (by decide +kernel) (x.LI hB) (F.args_bexc_repr _) ?_))
  exact wpAny_mono h (fun fin s' hv => by obtain ⟨v, rfl, q⟩ := hv; exact q) fun _ _ z => z  -- own
theorem bound_C {v tp : Value} {name : Str} {i : String} {Q : Option Value → Shared → Prop} (hT : Looks M s.heap (typeOf v) tp) (hf : Looks M s.heap (typeLookup tp name) (some (.builtin i))) (hb : bindSpecial (.builtin i) v = pure (.builtin i, [v]))
    (hc : wpAny M A (call (.builtin i) [v]) (fun r => Q (some r)) E s) : wpAny M A (callSpecialIfBound? v name) Q E s := by
  simp only [callSpecialIfBound?, callSpecialIfBoundBy?, bindSpecialIfBound?]
  unfold specialOf
  refine wpAny_holding (wpAny_bind (wpAny_bind (wpAny_bind (hT.here (hf.here ?_)))))
  simp only [hb]
  refine wpAny_bind (wpAny_askSetting (wpAny_ite ?_))  -- own
  have fin : wpAny M A (call (.builtin i) ([v] ++ []) >>= fun r => pure (some r)) Q E s := wpAny_bind (wpAny_mono hc (fun v s' h' => wpAny_pure h') fun _ _ h' => h')
  split
  · exact wpAny_bind (wpAny_pure (wpAny_pure fin))  -- own
  · exact wpAny_tryCatch (wpAny_bind (wpAny_pure (wpAny_pure fin)))  -- own
theorem call_reprE {i : Int} {tk : Tok} {cd : ClassData} {Q : Value → Shared → Prop} (hu : A.units + 1 < cLine) (x : ExcC K C e t0 s.heap) (hc : clsIn K C = some cd) (ht : s.heap.TupAt t0 [.int i tk]) (hi : i.natAbs.log2 < 1920) (hz : (nmS cd.name).length ≤ 1000) (h60 : (Str.ofString (toString i)).length ≤ 1000)
    (hr : findIn K (.ref C) "__repr__" = some (some (.builtin "BaseException.__repr__"))) (hB : subIn K (.ref C) (.type "BaseException") = some true)
    (hq : ∀ t t', Q (.str (nmS cd.name ++ Str.ofString "(" ++ Str.ofString (toString i) ++ Str.ofString ")") t) { s with toks := t' }) : wpAny (model prog w) A (call (.builtin "repr") [.ref e]) Q E s := by
  have hf : Looks (model prog w) s.heap (typeLookup (.ref C) "__repr__") (some (.builtin "BaseException.__repr__")) := looks_findIn x.1 hr
  refine Calls.call_function_entry F.kind_repr F.plain_repr F.entry_repr (F.args_repr1 _) ?_  -- own
  unfold Builtin.«repr»
  refine wpAny_bind (m := oneArg "repr" _) (wpAny_pure ?_)  -- own
  refine wpAny_bind (m := cRoomFor _ _) (wpAny_cRoomFor (by show A.units + 1 < cLine; exact hu) ?_)  -- own
  refine wpAny_bind ?_
  unfold specialOf
  refine wpAny_bind (x.LT.here (hf.here ?_))
  refine wpAny_bind (m := callSpecialIfBound? _ (Str.ofString "__repr__")) (bound_C x.LT hf (F.excStr_Exception.repr.bind _) (call_bexcRepr_C x hB (bexc_int x hc ht hi hz h60 fun t t' => ⟨_, rfl, ?_⟩)))
  refine wpAny_bind (wpAny_isInstance (T := "str") (b := true) rfl isSubtype_str_str ?_)  -- own
  exact wpAny_pure ⟨_, rfl, hq _ _⟩
end
end PySem

/-! an own error as a value, what it was made of known -/
namespace J
open PySem PySem.Spec PyProof.Rows L2 M
/-- at e: an error of the class at C, made of what the tuple at t1 holds, its dict (none as yet | at d) -/
def exo1 (e C t1 : Addr) (d : Option Addr) : HO := .ext fun h => h.get? e = some ({ cls := .ref C, dict := d, data := .fields #[.ref t1, .none, .none, .none, .bool false, .none] } : Obj)
theorem exo1_ok {P : Program} {w : World} {H : Hp} {h : Heap} {e C t1 : Addr} {d : Option Addr} (he : h.get? e = some ({ cls := .ref C, dict := d, data := .fields #[.ref t1, .none, .none, .none, .bool false, .none] } : Obj)) : ObjOk P w H h e (exo1 e C t1 d) :=
  ⟨he, ⟨_, he⟩, fun h1 h2 z k => k _ z⟩
theorem exo1_at {P : Program} {w : World} {H : Hp} {h : Heap} {e C t1 : Addr} {d : Option Addr} (hok : HOk P w H h) (he : H e = some (exo1 e C t1 d)) : h.get? e = some ({ cls := .ref C, dict := d, data := .fields #[.ref t1, .none, .none, .none, .bool false, .none] } : Obj) := by
  have x : ObjOk P w H h e (.ext fun h => h.get? e = some ({ cls := .ref C, dict := d, data := .fields #[.ref t1, .none, .none, .none, .bool false, .none] } : Obj)) := hok e _ he
  exact x.1
section
variable {X : Cx} {pins : List (Addr × Obj)} {σ : L2.St} {H : Hp} {s : Shared} {a C t1 : Addr} {f : Str} {y : V} {u : Value} {fs : List (Str × V)} {Q : Unit → Shared → Prop} {E : Value → Shared → Prop} {A : Around}
/-- a field is set, the first one of this error -/
theorem ost_new1 (T : OexC X.K C) (I : Inv X pins σ H s) (e : H a = some (exo1 a C t1 none)) (hno : PySem.W.findIn X.K (.ref C) f = some none) (ry : RelV y u)
    (h : ∀ dx s', H dx = none → dx ≠ a → Inv X pins σ (upd (upd H dx (exd dx [(f, y)])) a (exo1 a C t1 (some dx))) s' → Q () s') : wpAny (model X.prog X.w) A (setAttr (.ref a) f u) Q E s := by
  obtain ⟨nm, q, N, bs, bm, sn, sub, ab, col, dd, k0, k1, k2, k3, k5, hC, hbm⟩ := T.cls  -- own
  have hcl : PySem.W.clsIn X.K C = some { name := nm, bases := bs, mro := .ref C :: bm, ns := N, qualname := q, hasDict := true, slotNames := sn, subclasses := sub, abstract := ab, collection := col, hasDel := false } := by unfold PySem.W.clsIn; rw [hC] <;> rfl  -- own
  have ho := exo1_at I.hok e
  obtain ⟨hp, g, d, t, os⟩ := s
  refine PySem.W.set_plain I.kIn (ox := { cls := .ref C, dict := none, data := .fields #[.ref t1, .none, .none, .none, .bool false, .none] }) (od := none) ⟨ho, rfl, rfl, trivial⟩ T.sa ?_  -- own
  refine PySem.HandSPX.exc_osa I.kIn ho hcl (show PySem.HandSPX.refsVE (.ref C :: bm) = true from hbm) rfl hno (fun h' tk' dx k dn dne hx hn => ?_)  -- own
  have free : H dx = none := I.hok.fresh dn
  obtain ⟨G, stay, gone⟩ := restrict h' fun b => decide (b ≠ dx)
  have at_ : ∀ b, b ≠ dx → G.get? b = h'.get? b := fun b z => stay b (decide_eq_true z)
  -- first the error alone, its dict's object left out; then this is laid beside it
  have I1 := I.write (t' := t) (x := a) (e := a) (o := exo1 a C t1 (some dx)) (h' := G) (by rw [e]; exact True.intro) (.inl rfl)
    (fun b o z y => (at_ b fun w => absurd (w ▸ Heap.lt_size y) (Nat.not_lt_of_le dn)).trans (k b o z y)) ⟨_, (at_ a (Ne.symm dne)).trans hx⟩ (exo1_ok ((at_ a (Ne.symm dne)).trans hx))
  have I2 := I1.laidN (t' := tk') (h' := h') (a := dx) (o := exd dx [(f, y)]) (fun b o z => by
    by_cases w : b = dx
    · rw [w, gone dx (by simp)] at z; cases z
    · exact (at_ b w).symm.trans z) (gone dx (by simp)) (by rw [upd_ne dne]; exact free) (exd_ok hn (relO_put (fs := []) ry fun _ => True.intro))
  have swap : upd (upd H a (exo1 a C t1 (some dx))) dx (exd dx [(f, y)]) = upd (upd H dx (exd dx [(f, y)])) a (exo1 a C t1 (some dx)) := by
    funext b
    by_cases w : b = dx
    · rw [w, upd_same, upd_ne dne, upd_same]
    · rw [upd_ne w]
      by_cases v : b = a
      · rw [v, upd_same, upd_same]
      · rw [upd_ne v, upd_ne v, upd_ne w]
  rw [swap] at I2
  exact h dx _ free dne I2
end
/-- self.f = e -/
def tOst1 (K : PySem.W.Frag) (f : Str) (to te : TE) : TS := fun D σ H => te σ H fun y H1 => to σ H1 fun x H2 => ∃ a C t1 : Addr, x = .ref a ∧ OexC K C ∧ PySem.W.findIn K (.ref C) f = some none ∧
  H2 a = some (exo1 a C t1 none) ∧ ∀ dx, H2 dx = none → dx ≠ a → D.nx σ (upd (upd H2 dx (exd dx [(f, y)])) a (exo1 a C t1 (some dx)))
section
variable {X : Cx} {o e : Expr} {es : List Expr} {to te : TE} {ta : TA} {f : Str} {p p' p1 p2 pos : Pos}  -- own
theorem ps_ost1 (ho : PE X o to) (he : PE X e te) (hs : swapsWith e (some (.Attribute o f p')) pos.line X.env = pure false := by rfl) : PS X (.Assign [.Attribute o f p'] e pos) (tOst1 X.K f to te) := by
  refine ⟨fun pins s σ H D I h => ?_⟩  -- own
  refine plainObj_wpAny_Assign_Attribute (thn (he.run pins s σ H _ I h) fun v s1 ⟨y, H1, I1, r1, q1⟩ => thn (ho.run pins s1 σ H1 _ I1 q1) fun u s2 ⟨x, H2, I2, r2, a, C, t1, ex, T, hno, ea, q⟩ => ?_) hs
  subst ex
  obtain rfl : u = Value.ref a := r2  -- own
  exact ost_new1 T I2 ea hno r1 fun dx s' n ne J => ⟨σ, _, J, q dx n ne⟩
/-- an __init__ that keeps its one argument as f, what the error was made of known -/
def spInit1 (K : PySem.W.Frag) (f : Str) : Sp := fun vs H Q _ => ∃ (a C t1 : Addr) (v : V), vs = [.ref a, v] ∧ OexC K C ∧ PySem.W.findIn K (.ref C) f = some none ∧ H a = some (exo1 a C t1 none) ∧ ∀ dx, H dx = none → dx ≠ a → Q .non (upd (upd H dx (exd dx [(f, v)])) a (exo1 a C t1 (some dx)))
/-- C(e), a value -/
def tMkV (C : Addr) (sp : Sp) (ta : TA) : TE := fun σ H Q => ta σ H fun vs H1 => vs.length ≤ 1000 ∧ ∀ a t1, H1 t1 = none → H1 a = none → a ≠ t1 → sp (.ref a :: vs) (upd (upd H1 t1 (.tup vs)) a (exo1 a C t1 none)) (fun v H2 => v = .non ∧ Q (.ref a) H2) (fun _ _ _ => False)
theorem pe_mkV {CX : CXT} {x : Str} {C fI : Addr} {k : Nat} {fd : FuncData} {ps : List Str} {sp : Sp} (T : OexC X.K C) (iC : PySem.W.findIn X.K (.ref C) "__init__" = some (some (.ref fI))) (tI : PySem.W.typeIn X.K (.ref fI) = some (.type "function"))
    (F1 : FnOk X.prog X.w X.K X.mg X.base CX k fI fd ps sp) (hr : Room (k + 1) X.A) (hb : Binds X.K fd ps []) (hx : Passes CX X (fun _ _ _ => False)) (hg : Gl X x) (hm : X.mg x = some (.ref C)) (ha : PA X (e :: es) ta)
    (hdb : (x == ("__debug__" : Str)) = false := by decide) (he : starEach (e :: es) X.env = (false, eval e X.env) :: starEach es X.env := by rfl) (hpl : (backTo pos (starEach es X.env)).any (·.1) = false := by rfl) :  -- own
    PE X (.Call (.Name x p) (e :: es) [] pos) (tMkV C sp ta) := by
  refine ⟨fun pins s σ H Q I h => ?_⟩  -- own
  obtain ⟨nm, q, N, bs, bm, sn, sub, ab, col, dd, k0, k1, k2, k3, k5, hC, hbm⟩ := T.cls  -- own
  refine wpAny_Call_Name_kw (ld_glob I hg hm ?_ hdb)  -- own
  refine PySem.W.callWith_K (h₀ := X.base) I.ok.mod.kin T.kC (thn (ha.run pos pins s σ H _ I h) fun us s1 ⟨vs, H1, I1, r1, hz, q1⟩ => ⟨I1.kIn, ?_⟩) he hpl  -- own
  show wpAny _ _ (call (.ref C) us) _ _ _  -- own
  obtain ⟨hp, g, dr, tk, os⟩ := s1  -- own
  have hus : us.length ≤ sizeLine := by  -- own
    rw [← Paired.length r1, sizeLine_eq]  -- own
    omega
  have hn0 : H1 hp.objs.size = none := I1.hok.fresh (Nat.le_refl _)
  have I2 : Inv X pins σ (upd H1 hp.objs.size (.tup vs)) ⟨hp.push (PySem.W.kdv_tup us), g, dr, tk, os⟩ :=
    I1.laid (t' := tk) (a := hp.objs.size) (o := .tup vs) (h' := hp.push (PySem.W.kdv_tup us)) (fun b o e => Heap.get?_push_of_some _ e) (Nat.le_refl _) ⟨by rw [sizeLine_eq]; omega, us, r1, _, Heap.get?_push_size _ rfl, rfl, _, rfl⟩
  have hn : H1 (hp.objs.size + 1) = none := I1.hok.fresh (Nat.le_succ _)
  have sz1 : (hp.push (PySem.W.kdv_tup us)).objs.size = hp.objs.size + 1 := by simp [Heap.push]
  have hget : ((hp.push (PySem.W.kdv_tup us)).push (PySem.HandSPX.excO C hp.objs.size)).get? (hp.objs.size + 1) = some (PySem.HandSPX.excO C hp.objs.size) := by heap_get  -- own
  have hq := q1 (hp.objs.size + 1) hp.objs.size hn0 hn (Nat.succ_ne_self _)
  have I3 : Inv X pins σ (upd (upd H1 hp.objs.size (.tup vs)) (hp.objs.size + 1) (exo1 (hp.objs.size + 1) C hp.objs.size none)) ⟨(hp.push (PySem.W.kdv_tup us)).push (PySem.HandSPX.excO C hp.objs.size), g, dr, tk, os⟩ :=
    I2.laid (t' := tk) (a := hp.objs.size + 1) (o := exo1 (hp.objs.size + 1) C hp.objs.size none) (h' := (hp.push (PySem.W.kdv_tup us)).push (PySem.HandSPX.excO C hp.objs.size)) (fun b o e => Heap.get?_push_of_some _ e) (Nat.le_of_eq sz1) (exo1_ok hget)
  have r2 : Vals (V.ref (hp.objs.size + 1) :: vs) (Value.ref (hp.objs.size + 1) :: us) := .cons rfl r1  -- own
  have hl : (Value.ref (hp.objs.size + 1) :: us).length = ps.length := by
    have e := r2.length
    rw [F1.len _ _ _ _ hq] at e
    exact e.symm
  have hb1 := hb _ (Value.ref (hp.objs.size + 1) :: us) I3.kIn (by rw [List.append_nil]; exact hl)
  rw [List.append_nil] at hb1
  refine wpAny_call (PySem.HandSPX.call_own F.excBase_ValueError (fun Y => PySem.HandSPX.refsVE_contains Y bm hbm) (I1.kIn _ _ hC) (PySem.W.looks_findIn I1.kIn iC) (fun self => PySem.W.bind_fn I1.kIn self tI) hus  -- own
    (codeAny_mono (F1.run _ X.stack _ _ ⟨Value.ref (hp.objs.size + 1) :: us, []⟩ (Value.ref (hp.objs.size + 1) :: us) _ _ (fun _ _ _ => False) (hr.make C us []) (I3.env0.make C us []) hb1 r2 hq) fun r s' hq' => ?_))
  cases r with
  | error er => exact hx pins σ _ _ er s' I3 hq'
  | ok fl =>
    cases fl with
    | ret u =>
      obtain ⟨v, H2, os2, bare2, un2, hok2, rv, ev, q2⟩ := hq'
      subst ev
      obtain ⟨h2, g2, d2, t2, os'⟩ := s'  -- own
      have J : Inv X pins σ H2 ⟨h2, g2, d2, t2, os'⟩ := I3.call' (ch := []) os2 un2 hok2 bare2 (fun b z => absurd z (by simp))
      exact ⟨rv, .ref (hp.objs.size + 1), H2, J, rfl, q2⟩
    | next => exact False.elim hq'  -- own
    | brk => exact False.elim hq'
    | cont => exact False.elim hq'  -- own
end
end J

/-! isinstance and repr of things, own errors among them -/
namespace J
open PySem PySem.Spec PyProof.Rows L2 M
/-- what the written part says of a class whose errors are values -/
structure ExF (K : PySem.W.Frag) (C : Addr) (cd : ClassData) : Prop where
  T : OexC K C
  ga : PySem.W.findIn K (.ref C) "__getattribute__" = some (some (.builtin "BaseException.__getattribute__"))  -- own
  gt : PySem.W.findIn K (.ref C) "__getattr__" = some none
  cl : PySem.W.findIn K (.ref C) "__class__" = some (some (.builtin "object.__class__"))
  hn : PySem.W.specialIn K (.builtin "object.__class__") "__get__" = some (some (.builtin "getset_descriptor.__get__"))  -- own
  tk : PySem.W.takesIn K (.builtin "object.__class__") = some true
  mo : PySem.W.mroIn K C (.type "object") = some true
  rp : PySem.W.findIn K (.ref C) "__repr__" = some (some (.builtin "BaseException.__repr__"))
  cdE : PySem.W.clsIn K C = some cd
  nm : (PySem.nmS cd.name).length ≤ 1000
  ni : PySem.W.kitOne K (.ref C) (.type "int") = some false
  ns : PySem.W.kitOne K (.ref C) (.type "str") = some false
  nb : PySem.W.kitOne K (.ref C) (.type "bool") = some false
/-- at a: an error of the class at C, made of i -/
def EvA (H : Hp) (C a : Addr) (i : Int) : Prop := ∃ (t1 dx : Addr) (fs : List (Str × V)), H a = some (exo1 a C t1 (some dx)) ∧ H dx = some (exd dx fs) ∧ H t1 = some (.tup [.int i])
theorem EvA.same {H H' : Hp} {C a : Addr} {i : Int} (e : EvA H C a i) (s : Same H H') : EvA H' C a i := by
  obtain ⟨t1, dx, fs, h1, h2, h3⟩ := e
  exact ⟨t1, dx, fs, s _ _ h1, s _ _ h2, s _ _ h3⟩
/-- its repr -/
def evS (cd : ClassData) (i : Int) : Str := PySem.nmS cd.name ++ Str.ofString "(" ++ Str.ofString (toString i) ++ Str.ofString ")"
def rIsiE (K : PySem.W.Frag) (C : Addr) : List V → Hp → VK → Prop := fun xs H Q => ∃ (a : Addr) (i : Int) (n : String) (b : Bool), xs = [.ref a, .ty n] ∧ EvA H C a i ∧ PySem.W.kitOne K (.ref C) (.type n) = some b ∧ Q (.bl b) H
def rIsiX (K : PySem.W.Frag) (C : Addr) : List V → Hp → VK → Prop := fun xs H Q => rIsi K xs H Q ∨ rIsiE K C xs H Q
def rReprX (K : PySem.W.Frag) (C : Addr) (cd : ClassData) : List V → Hp → VK → Prop := fun xs H Q => rRepr K xs H Q ∨ (∃ (a : Addr) (i : Int), xs = [.ref a] ∧ EvA H C a i ∧ i.natAbs ≤ 10 ^ 60 ∧ Q (.str (evS cd i)) H) ∨ ∃ a : Addr, xs = [.ref a] ∧ H a = some (.dK []) ∧ Q (.str (PyData.shown (.dict []))) H
section
variable {X : Cx} {C : Addr} {cd : ClassData}
theorem call_isiX (F : ExF X.K C cd) : CallR X (.builtin "isinstance") (rIsiX X.K C) := by
  intro pins s σ H xs us Q I r h  -- own
  rcases h with h | ⟨a, i, n, b, rfl, ev, hk, q⟩
  · exact L2.call_isi pins s σ H xs us Q I r h
  · obtain ⟨u1, u2, rfl, r1, r2⟩ := vals2 r
    cases (show u1 = Value.ref a from r1)  -- own
    cases (show u2 = Value.type n from r2)
    obtain ⟨t1, dx, fs, h1, h2, h3⟩ := ev
    have ho := exo1_at I.hok h1
    obtain ⟨mA, hns, _⟩ := exd_at I.hok h2
    obtain ⟨oD, _, _, hoD, _, _⟩ := hns
    have hcl : (PySem.W.clsIn X.K C).isSome = true := by rw [F.cdE]; rfl
    have Z : PySem.W.KitX X.K (.ref a) (.ref C) _ := PySem.W.kitx_exc (ox := { cls := .ref C, dict := some dx, data := .fields #[.ref t1, .none, .none, .none, .bool false, .none] }) (od := some oD) hcl F.ga F.gt F.T.exC F.cl F.hn F.tk F.mo
    exact PySem.W.kia_one Z I.kIn ⟨ho, rfl, rfl, hoD⟩ hk (fun z => nomatch z) fun tk => ⟨.bl b, H, I.tok tk, rfl, q⟩
theorem call_reprX (F : ExF X.K C cd) (hg : X.A.guards = some []) (hu : X.A.units + 64 < cLine) : CallR X (.builtin "repr") (rReprX X.K C cd) := by
  intro pins s σ H xs us Q I r h  -- own
  rcases h with h | ⟨a, i, rfl, ev, hi, q⟩ | ⟨a, rfl, ha, q⟩
  · exact J.call_repr hg hu pins s σ H xs us Q I r h
  · obtain ⟨u, rfl, ru⟩ := vals1 r
    cases (show u = Value.ref a from ru)  -- own
    obtain ⟨t1, dx, fs, h1, h2, h3⟩ := ev
    have ho := exo1_at I.hok h1
    obtain ⟨_, its, rv, o, g1, g2, n, g3⟩ := (show ObjOk X.prog X.w H s.heap t1 (.tup [.int i]) from I.hok t1 _ h3)
    cases rv with
    | cons r1 rs =>
      cases rs
      obtain ⟨tk, e⟩ := r1
      subst e
      have x : PySem.ExcC X.K C a t1 s.heap := ⟨I.kIn, _, _, ho, rfl, rfl, rfl⟩
      exact PySem.call_reprE (by omega) x F.cdE ⟨o, n, g1, g2, g3⟩ (Nat.lt_trans (log60 hi) (by decide)) F.nm (Nat.le_trans (show_i60 hi) (by decide)) F.rp F.T.exC fun t t' => ⟨.str _, H, I.tok t', ⟨_, rfl⟩, q⟩
  · obtain ⟨u, rfl, ru⟩ := vals1 r
    cases (show u = Value.ref a from ru)  -- own
    obtain ⟨_, hsm, vs, r0, o, es, ep, g1, g2, g3, g4⟩ := (show ObjOk X.prog X.w H s.heap a (.dK []) from I.hok a _ ha)
    cases r0
    have e0 : es.toList = [] := by
      cases h : es.toList with
      | nil => rfl
      | cons y r =>
        have g5 := g4.2.1
        rw [h] at g5
        cases g5
    have rd : Reads s.heap (.ref a) (.dict []) [a] := Reads.dict (as := []) (bs := []) g1 g2.1 g3 (by rw [e0]; exact .nil) (by rw [e0]; exact .nil)
    exact repr_of_reads' rd rfl (fun _ h => by
      rw [List.mem_singleton] at h
      rw [h] at hsm
      simp at hsm) hg (by show X.A.units + (1 + 1) < cLine; omega) (fun _ _ e => e) (fun h' t tk hk => ⟨.str _, H, I.kept hk, ⟨_, rfl⟩, q⟩) (by decide +kernel)
end
end J

/-! sep.join(reversed(xs)) -/
namespace J
open PySem PySem.Spec PyProof.Rows L2 M
section
variable {prog : Program} {w : World} {A : Around} {E : Value → Shared → Prop} {s : Shared}  -- own
theorem join_rev {x : Str} {t : Tok} {it l : Addr} {items : Array Value} {ys : List Str} {Q : Value → Shared → Prop} (hh : A.handled = none) (hit : s.heap.IsRevIter it l ((items.size : Int) - 1)) (hl : s.heap.IsList l items) (hne : l ≠ it) (hn : items.size ≤ sizeLine)
    (hP : ∀ acc : Array Value, ItemsOf (fun i v => items[items.size - 1 - i]? = some v) acc items.size → StrsAre acc.toList ys) (hok : (ys.map (·.length)).sum + ys.length * x.length ≤ 16777216)
    (hq : ∀ h' t' k, (∀ b o, b ≠ it → s.heap.get? b = some o → h'.get? b = some o) → Q (.str (Txt.join x ys) t') { s with heap := h', toks := k }) :
    wpAny (model prog w) A (call (.builtin "str.join") [.str x t, .ref it]) Q E s := by
  have hh1 : A.in1.handled = none := hh  -- own
  refine wpAny_call (codeAny_call_builtin F.slot_str_join.plain F.entry_str_join (F.slot_str_join.check _ _ _ _ _ _ _ _ (typeIs_str _ _ _) (F.args_str_join_2 _ _) ?_))  -- own
  rw [join_tree_other]
  refine wpAny_bind (wpAny_typeOf hit.typeIs ?_)
  show wpAny _ A.in1 ((pyIter (.ref it)).tryCatch _ >>= fun it => collect it >>= fun items => joinTail x items) _ _ s
  refine wpAny_bind (wpAny_tryCatch ((Walks.listRev (prog := prog) (w := w) (A := A.in1) hh1 it l hne items).self 0 s _ _ ⟨Nat.zero_le _, by simpa using hit, hl⟩ ?_))
  refine wpAny_bind (RT.collect_rev (A := A.in1) hh1 hit hl hne hn fun h' tk acc hk hacc => ?_)
  obtain ⟨l, hl, ht⟩ := strsAre_values (hP acc hacc)  -- own
  subst ht
  rw [hl]
  have hok' := joinOk_of hok
  unfold JoinOk at hok'
  rw [Bool.not_eq_true'] at hok'  -- own
  have g : Gives (joinTail x (strValues l)) (joinMade x l) := by  -- own
    have g0 := gives_joinTail x l hok'  -- own
    cases l with
    | nil => exact g0
    | cons p r => cases r with
      | nil => exact g0
      | cons q r' => exact g0
  exact g prog w A (wants Q E) _ (post_join l ⟨joinFit_length hok', fun t' k => hq h' t' k hk⟩)
end
theorem strs_of : ∀ {ys : List Str} {vs : List Value}, Vals (ys.map V.str) vs → StrsAre vs ys
  | [], _, r => by cases r; exact .nil
  | y :: ys, _, r => by
    cases r with
    | cons r1 rs =>
      obtain ⟨t, e⟩ := r1
      subst e
      exact .cons y t (strs_of rs)
section
variable {X : Cx}
/-- sep.join(reversed(xs)), xs a list -/
def tJoinRev (K : PySem.W.Frag) (to te : TE) : TE := fun σ H Q => to σ H fun x H1 => (∃ a, x = .str a) ∧ te σ H1 fun v H2 => ∃ (a : Str) (l : Addr) (ys : List Str),
  x = .str a ∧ v = .ref l ∧ SqL K H2 l (ys.map V.str) ∧ (ys.map (·.length)).sum + ys.length * a.length ≤ 16777216 ∧ Q (.str (Txt.join a ys.reverse)) H2
theorem pe_joinRev {o e : Expr} {to te : TE} {apos pos p2 pos2 : Pos} (hc : X.calm = true) (ho : PE X o to) (hg2 : Gl X "reversed") (hm2 : X.mg "reversed" = none) (he : PE X e te)
    (hs1 : starEach [.Call (.Name "reversed" p2) [e] [] pos2] X.env = [(false, eval (.Call (.Name "reversed" p2) [e] [] pos2) X.env)] := by rfl)
    (hs : starEach [e] X.env = (false, eval e X.env) :: starEach [] X.env := by rfl)  -- own
    (hbase : attributeBase o "join" X.env (eval o X.env) = eval o X.env := by rfl) (hline : (apos.endLine == pos.line) = true := by rfl) :  -- own
    PE X (.Call (.Attribute o "join" apos) [.Call (.Name "reversed" p2) [e] [] pos2] [] pos) (tJoinRev X.K to te) := by
  refine ⟨fun pins s σ H Q I h => ?_⟩  -- own
  refine PySem.Call_method1 hbase hs1 hline (thn (ho.run pins s σ H _ I h) fun v s1 ⟨x, H1, I1, r1, q1⟩ => ?_)  -- own
  obtain ⟨⟨a, rfl⟩, q1⟩ := q1
  obtain ⟨t, rfl⟩ := _root_.id r1  -- own
  refine ⟨"str", _, F.plainAttrs_str, F.slot_str_join, F.type_str_join, typeIs_str _ _ _, (fun _ e => nomatch e), Calls.callWith_builtin rfl (Calls.evalArgs_plain (Calls.spliced_cons ?_))⟩  -- own
  refine Call_ (ld_blt I1 hg2 hm2 PyProof.Rows.boot_reversed (PyProof.Rows.callWith_type1 (args_cons (thn (he.run pins s1 σ H1 _ I1 q1) fun u s2 ⟨v, H2, I2, r2, q2⟩ => args_nil ?_) hs) hs rfl))
  obtain ⟨a', l, ys, ea, ev, hq, hz, q3⟩ := q2
  cases ea
  subst ev
  obtain rfl : u = Value.ref l := r2
  obtain ⟨its, rv, p', hn⟩ := I2.list hq
  refine call_reversed_list p'.isList (Calls.spliced_nil ?_)
  have k0 : ∀ b o, s2.heap.get? b = some o → (s2.heap.push (revObj l ((its.toArray.size : Int) - 1))).get? b = some o := fun b o e => Heap.get?_push_of_some _ e
  have I3 : Inv X pins σ H2 { s2 with heap := s2.heap.push (revObj l ((its.toArray.size : Int) - 1)) } := I2.kept (t' := s2.toks) k0
  obtain ⟨f0, f1, f2, f3, f4, f5⟩ := I2.fpOk (H' := H2) (b := s2.heap.objs.size) (Nat.le_refl _) (I2.hok.fresh (Nat.le_refl _))
  have hl := p'.isList
  obtain ⟨ol, hol, _⟩ := id hl
  have hne : l ≠ s2.heap.objs.size := Nat.ne_of_lt (Heap.lt_size hol)
  have hsz : its.toArray.size ≤ sizeLine := by rw [List.size_toArray, ← rv.length]; exact hn
  refine join_rev (s := { s2 with heap := s2.heap.push (revObj l ((its.toArray.size : Int) - 1)) }) (I2.ok.hd hc) ⟨_, Heap.get?_push_size _ rfl, rfl, rfl⟩ (hl.push _) hne hsz (ys := ys.reverse) (fun acc hacc => ?_) (by simpa using hz) fun h' t' k hk => ?_
  · have r := RT.vals_rev rv hacc
    rw [← List.map_reverse] at r
    exact strs_of r
  · exact ⟨.str _, H2, I3.turned (t' := k) (fun b o hb e => hk b o hb e) f0 f1 f3 f4 f5, ⟨t', rfl⟩, q3⟩
theorem asJoinRev {K : PySem.W.Frag} {e : Expr} {to te : TE} (eK : X.K = K) (h : PE X e (tJoinRev X.K to te)) : PE X e (tJoinRev K to te) := eK ▸ h
theorem r_joinRev {K : PySem.W.Frag} {σ : L2.St} {H : Hp} {Q : VK} {to te : TE} (k : to σ H fun x H1 => (∃ a, x = .str a) ∧ te σ H1 fun v H2 => ∃ (a : Str) (l : Addr) (ys : List Str),
  x = .str a ∧ v = .ref l ∧ SqL K H2 l (ys.map V.str) ∧ (ys.map (·.length)).sum + ys.length * a.length ≤ 16777216 ∧ Q (.str (Txt.join a ys.reverse)) H2) : tJoinRev K to te σ H Q := k
end
end J

/-! plain numbers in lots; what is no number; own errors made of a number -/
namespace J
open PySem PySem.Spec PyProof.Rows L2 M
/-! ### figures in lots -/
def padD (k l : Nat) : List Nat := List.replicate (k - (D l).length) 48 ++ D l
theorem pad_one {l : Nat} (h : l < 10) : padD 1 l = [48 + l] := by unfold padD; rw [D_lt h]; rfl
theorem pad_succ {k l : Nat} (hk : 1 ≤ k) : padD (k + 1) l = padD k (l / 10) ++ [48 + l % 10] := by
  unfold padD
  by_cases h : l < 10
  · rw [D_lt h, show l / 10 = 0 by omega, D_zero, show l % 10 = l by omega]
    show List.replicate (k + 1 - 1) 48 ++ [48 + l] = List.replicate (k - 1) 48 ++ [48] ++ [48 + l]
    rw [show k + 1 - 1 = (k - 1) + 1 by omega, List.replicate_succ']
  · rw [D_ge (show 10 ≤ l by omega), List.length_append, List.length_singleton, show k + 1 - ((D (l / 10)).length + 1) = k - (D (l / 10)).length by omega, List.append_assoc]
theorem D_lot : ∀ (k m l : Nat), 1 ≤ m → l < 10 ^ (k + 1) → D (m * 10 ^ (k + 1) + l) = D m ++ padD (k + 1) l
  | 0, m, l, hm, hl => by
    rw [pad_one (by omega), D_ge (by omega), show (m * 10 ^ (0 + 1) + l) / 10 = m by omega, show (m * 10 ^ (0 + 1) + l) % 10 = l by omega]
  | k + 1, m, l, hm, hl => by
    have e : 10 ^ (k + 1 + 1) = 10 * 10 ^ (k + 1) := Nat.pow_succ'
    have p1 : 1 ≤ 10 ^ (k + 1) := Nat.pos_of_ne_zero (by simp)
    have big : 10 ≤ m * (10 * 10 ^ (k + 1)) := by
      have := Nat.mul_le_mul hm (Nat.mul_le_mul (Nat.le_refl 10) p1)
      omega
    rw [e] at hl ⊢
    rw [D_ge (by omega), pad_succ (by omega)]
    have a : (m * (10 * 10 ^ (k + 1)) + l) / 10 = m * 10 ^ (k + 1) + l / 10 := by
      rw [show m * (10 * 10 ^ (k + 1)) = 10 * (m * 10 ^ (k + 1)) by rw [Nat.mul_left_comm]]; omega
    have b : (m * (10 * 10 ^ (k + 1)) + l) % 10 = l % 10 := by
      rw [show m * (10 * 10 ^ (k + 1)) = 10 * (m * 10 ^ (k + 1)) by rw [Nat.mul_left_comm]]; omega
    rw [a, b, D_lot k m (l / 10) hm (by omega), List.append_assoc]
theorem cd_zfill {l : Nat} (h : l < 10 ^ 18) : cd (Txt.zfill (Str.ofString (toString ((l : Nat) : Int))) 18) = padD 18 l := by
  have e : cd (Str.ofString (toString ((l : Nat) : Int))) = D l := by rw [cd_toString, dec_nat]
  have ln : (Str.ofString (toString ((l : Nat) : Int))).length = (D l).length := by rw [len_cd, e]
  have l18 : (D l).length ≤ 18 := D_len 17 (by omega)
  generalize Str.ofString (toString ((l : Nat) : Int)) = z at e ln
  unfold Txt.zfill padD
  by_cases c : (18 : Int) ≤ (z.length : Nat)
  · rw [if_pos c, e, show 18 - (D l).length = 0 by omega]; rfl
  · rw [if_neg c, ln]
    have hd : ∀ x, z.cps[0]? = some x → x ≠ 43 ∧ x ≠ 45 := fun x hx => by
      have : x ∈ cd z := by
        have := Array.mem_of_getElem? hx
        exact Array.mem_toList_iff.mpr this
      rw [e] at this
      have := D_digits l x this
      omega
    have pz : Builtin.Str.padded z ((18 : Int).toNat - (D l).length) 0 48 = Builtin.Str.padded z (18 - (D l).length) 0 48 := rfl
    have : PySem.zfilled z ((18 : Int).toNat - (D l).length) = Builtin.Str.padded z (18 - (D l).length) 0 48 := by
      unfold PySem.zfilled
      cases q : z.cps[0]? with
      | none => rfl
      | some x =>
        obtain ⟨h1, h2⟩ := hd x q
        split
        · rename_i h; cases h; exact absurd rfl h1
        · rename_i h; cases h; exact absurd rfl h2
        · rfl
    rw [this]
    show ((Array.replicate (18 - (D l).length) 48 ++ z.cps ++ Array.replicate 0 48).toList) = _
    simp [e]
end J

/-! what is handed in for a number; own errors made on the spot; promises -/
namespace J
open PySem PySem.Spec PyProof.Rows L2 M
inductive Od (C : Addr) (H : Hp) : V → Option Int → Prop where
  | int (i : Int) (h : i.natAbs ≤ 10 ^ 60) : Od C H (.int i) (some i)
  | non : Od C H .non none
  | bl (b : Bool) : Od C H (.bl b) none
  | str (z : Str) (h : z.length ≤ 100) (c : ∀ c ∈ cd z, c ≤ 126) : Od C H (.str z) none
  | lst {a : Addr} (h : H a = some (.lst [.int 7])) : Od C H (.ref a) none
  | tup {a : Addr} (h : H a = some (.tup [.int 7])) : Od C H (.ref a) none
  | dct {a : Addr} (h : H a = some (.dK [])) : Od C H (.ref a) none
  | err {a : Addr} (h : EvA H C a 7) : Od C H (.ref a) none
theorem Od.same {C : Addr} {H H' : Hp} {x : V} {o : Option Int} (t : Od C H x o) (s : Same H H') : Od C H' x o := by
  cases t with
  | int i h => exact .int i h
  | non => exact .non
  | bl b => exact .bl b
  | str z h c => exact .str z h c
  | lst h => exact .lst (s _ _ h)
  | tup h => exact .tup (s _ _ h)
  | dct h => exact .dct (s _ _ h)
  | err h => exact .err (h.same s)
/-- its repr is the same text as long as it stands -/
theorem Od.repr {K : PySem.W.Frag} {C : Addr} {cd0 : ClassData} {H : Hp} {x : V} {o : Option Int} (t : Od C H x o) : ∃ z : Str, ∀ H', Same H H' → ∀ Q : VK, Q (.str z) H' → rReprX K C cd0 [x] H' Q := by
  have plain : ∀ (d : PyData), (∀ H', Same H H' → Dp K H' x d) → Showy d → ∃ z : Str, ∀ H', Same H H' → ∀ Q : VK, Q (.str z) H' → rReprX K C cd0 [x] H' Q := fun d hd sh =>
    ⟨d.shown, fun H' s Q q => .inl (r_repr (hd H' s) sh q)⟩
  cases t with
  | int i h => exact plain _ (fun _ _ => .int i) (showy_int h)
  | non => exact plain .none (fun _ _ => .non) ⟨rfl, by decide, rfl, by decide +kernel⟩
  | bl b => exact plain _ (fun _ _ => .bl b) (showy_bl b)
  | str z h c => exact plain _ (fun _ _ => .str z) (showy_str h c)
  | lst h => exact plain (.list [.int 7]) (fun H' s => .lst (SqL.of (s _ _ h)) (.cons (.int 7) .nil)) ⟨by decide +kernel, by decide, rfl, by decide +kernel⟩
  | tup h => exact plain (.tuple [.int 7]) (fun H' s => .tup (SqT.of (s _ _ h)) (.cons (.int 7) .nil)) ⟨by decide +kernel, by decide, rfl, by decide +kernel⟩
  | dct h => exact ⟨_, fun H' s Q q => .inr (.inr ⟨_, rfl, s _ _ h, q⟩)⟩
  | err h => exact ⟨_, fun H' s Q q => .inr (.inl ⟨_, 7, rfl, h.same s, by decide, q⟩)⟩
/-- an own error x with one field f, made as a value -/
structure OV (P : Program) (w : World) (K : PySem.W.Frag) (mg : Str → Option Value) (base : Heap) (x f : Str) (C : Addr) : Prop where
  T : OexC K C
  nf : PySem.W.findIn K (.ref C) f = some none
  gl : mg x = some (.ref C)
  ini : ∃ (fI : Addr) (fdI : FuncData), PySem.W.findIn K (.ref C) "__init__" = some (some (.ref fI)) ∧ PySem.W.typeIn K (.ref fI) = some (.type "function") ∧ FnOk P w K mg base CX0 1 fI fdI ["self", f] (spInit1 K f) ∧ Binds K fdI ["self", f] []
theorem pe_mkV1 {X : Cx} {K : PySem.W.Frag} {e : Expr} {C : Addr} {x f : Str} {ta : TA} {p pos : Pos} (eK : X.K = K) (O : OV X.prog X.w X.K X.mg X.base x f C) (hr : Room 2 X.A) (hg : Gl X x) (ha : PA X [e] ta)
    (hdb : (x == ("__debug__" : Str)) = false := by decide) (he : starEach (e :: []) X.env = (false, eval e X.env) :: starEach [] X.env := by rfl) (hpl : (backTo pos (starEach [] X.env)).any (·.1) = false := by rfl) :
    PE X (.Call (.Name x p) [e] [] pos) (tMkV C (spInit1 K f) ta) := by
  subst eK
  obtain ⟨fI, fdI, i1, i2, i3, i4⟩ := O.ini
  exact pe_mkV O.T i1 i2 i3 hr i4 pass0 hg O.gl ha hdb he hpl
def MkQ (K : PySem.W.Frag) (C : Addr) (f : Str) (vs : List V) (H1 : Hp) (Q : VK) : Prop := vs.length ≤ 1000 ∧ ∀ a t1, H1 t1 = none → H1 a = none → a ≠ t1 → spInit1 K f (.ref a :: vs) (upd (upd H1 t1 (.tup vs)) a (exo1 a C t1 none)) (fun v H2 => v = .non ∧ Q (.ref a) H2) (fun _ _ _ => False)
theorem r_mkV {K : PySem.W.Frag} {σ : L2.St} {H : Hp} {Q : VK} {C : Addr} {f : Str} {ta : TA} (k : ta σ H fun vs H1 => MkQ K C f vs H1 Q) : tMkV C (spInit1 K f) ta σ H Q := k
theorem mk_one {K : PySem.W.Frag} {H1 : Hp} {Q : VK} {C : Addr} {f : Str} {i : Int} (T : OexC K C) (hf : PySem.W.findIn K (.ref C) f = some none) (k : ∀ a H', EvA H' C a i → Same H1 H' → Q (.ref a) H') : MkQ K C f [.int i] H1 Q := by
  refine ⟨show 1 ≤ 1000 by decide, fun a t1 h1 h2 ne => ⟨a, C, t1, .int i, rfl, T, hf, upd_same, fun dx hd hda => ⟨rfl, k a _ ⟨t1, dx, _, upd_same, by rw [upd_ne hda, upd_same], ?_⟩ ?_⟩⟩⟩
  · have nt : t1 ≠ dx := fun e => by rw [← e, upd_ne (Ne.symm ne), upd_same] at hd; cases hd
    rw [upd_ne (Ne.symm ne), upd_ne nt, upd_ne (Ne.symm ne), upd_same]
  · intro b o hb
    have n1 := ne_of_none hb h1
    have n2 := ne_of_none hb h2
    have n3 : b ≠ dx := fun e => by
      rw [← e, upd_ne n2, upd_ne n1, hb] at hd; cases hd
    rw [upd_ne n2, upd_ne n3, upd_ne n2, upd_ne n1]
    exact hb
/-! ### promises -/
def spNumO (C : Addr) : Sp := fun vs H Q _ => ∃ (x : V) (o : Option Int), vs = [x] ∧ Od C H x o ∧ Q (.bl o.isSome) H
def spNumWordW : Sp := fun vs H Q _ => ∃ i : Int, vs = [.int i] ∧ i.natAbs < 10 ^ 31 ∧ ∀ H', Same H H' → Q (.str (S (dec i))) H'
def spNumWordX (C : Addr) : Sp := fun vs H _ E => ∃ x : V, vs = [x] ∧ Od C H x none ∧ Err C "found" x H E
noncomputable def spNumInW : Sp := fun vs H Q _ => ∃ x : V, vs = [x] ∧ ((∃ z : Str, x = .str z ∧ z.length ≤ 61 ∧ Q (optV (numV (cd z))) H) ∨ ((x = .non ∨ (∃ i, x = .int i) ∨ ∃ a xs, x = .ref a ∧ H a = some (.lst xs)) ∧ Q .non H))
def spTakeW : Sp := fun vs H Q _ => ∃ (b : Addr) (m : Int) (n : Nat), vs = [.ref b, .int m] ∧ Bx H b n ∧ n ≤ 1000000000 ∧ 1 ≤ m ∧ m.natAbs < 2 ^ 110 ∧
  ∀ (k : Int) (H' : Hp), 0 ≤ k → k < m → Keep b H H' → Bx H' b (n + 1) → Q (.int k) H'
def spFigs : Sp := fun vs H Q _ => ∃ i : Int, vs = [.int i] ∧ i.natAbs < 10 ^ 31 ∧ Q (.str (S (dec i))) H
def spNumL : Sp := fun vs H Q _ => ∃ (b : Addr) (n : Nat), vs = [.ref b] ∧ Bx H b n ∧ n ≤ 900000000 ∧ ∀ (i : Int) (H' : Hp), i.natAbs < 10 ^ 30 → Keep b H H' → Bx H' b (n + 4) → Q (.int i) H'
noncomputable def spWrites : Sp := fun vs H Q _ => ∃ z : Str, vs = [.str z] ∧ z.length ≤ 30 ∧ (∀ c ∈ cd z, c ≤ 126) ∧ ∀ H', Same H H' → Q (optV (numV (cd z))) H'
def spBent : Sp := fun vs H Q _ => ∃ (b : Addr) (n : Nat) (z : Str), vs = [.ref b, .str z] ∧ Bx H b n ∧ n ≤ 900000000 ∧ z.length ≤ 32 ∧ (∀ c ∈ cd z, c ≤ 126) ∧
  ∀ (y : Str) (H' : Hp), y.length ≤ 70 → (∀ c ∈ cd y, c ≤ 126) → Keep b H H' → Bx H' b (n + 3) → Q (.str y) H'
def spRefused (C : Addr) : Sp := fun vs H Q _ => ∃ x : V, vs = [x] ∧ Od C H x none ∧ ∀ H', Same H H' → Q (.bl true) H'
theorem dec_len31 {m : Int} (h : m.natAbs < 10 ^ 31) : (dec m).length ≤ 32 := by
  have := D_len 30 (n := m.natAbs) h
  unfold dec
  split
  · rw [List.length_cons]; omega
  · omega
theorem cut_ok {z : Str} {lo hi : Option Int} : (cutS z lo hi).length ≤ z.length ∧ ∀ c ∈ cd (cutS z lo hi), c ∈ cd z := by
  have e : cd (cutS z lo hi) = ((cd z).drop (HT.sIx z.length 0 lo)).take (HT.sIx z.length z.length hi - HT.sIx z.length 0 lo) := by simp [cutS]
  refine ⟨?_, fun c h => ?_⟩
  · rw [len_cd, e, List.length_take, List.length_drop, ← len_cd]; omega
  · rw [e] at h
    exact List.mem_of_mem_drop (List.mem_of_mem_take h)
end J

/-! things of any depth, small dicts among them, apart from what stands in B: asked for their repr -/
namespace J
open PySem PySem.Spec PyProof.Rows L2 M
mutual
/-- x is d, all of it tracked -/
inductive De (B : Addr → Prop) (H : Hp) : V → PyData → Prop where
  | non : De B H .non .none
  | bl (v : Bool) : De B H (.bl v) (.bool v)
  | int (i : Int) (h : i.natAbs ≤ 10 ^ 60) : De B H (.int i) (.int i)
  | str (z : Str) (h : z.length ≤ 4000) (c : ∀ c ∈ cd z, c ≤ 126) : De B H (.str z) (.str z)
  | lst {a : Addr} {xs : List V} {ds : List PyData} (h : H a = some (.lst xs)) (n : ¬ B a) (t : DeAll B H xs ds) : De B H (.ref a) (.list ds)
  | tup {a : Addr} {xs : List V} {ds : List PyData} (h : H a = some (.tup xs)) (n : ¬ B a) (t : DeAll B H xs ds) : De B H (.ref a) (.tuple ds)
  | dct {a : Addr} (h : H a = some (.dK [])) (n : ¬ B a) : De B H (.ref a) (.dict [])
  | one {a : Addr} (h : H a = some (.dK [(.inr "a", .int 1)])) (n : ¬ B a) : De B H (.ref a) (.dict [(.str "a", .int 1)])
inductive DeAll (B : Addr → Prop) (H : Hp) : List V → List PyData → Prop where
  | nil : DeAll B H [] []
  | cons {x : V} {xs : List V} {d : PyData} {ds : List PyData} (h : De B H x d) (t : DeAll B H xs ds) : DeAll B H (x :: xs) (d :: ds)
end
mutual
theorem De.same {B : Addr → Prop} {H H' : Hp} (s : Same H H') : ∀ {x : V} {d : PyData}, De B H x d → De B H' x d
  | _, _, .non => .non
  | _, _, .bl b => .bl b
  | _, _, .int i h => .int i h
  | _, _, .str z h c => .str z h c
  | _, _, .lst h n t => .lst (s _ _ h) n (DeAll.same s t)
  | _, _, .tup h n t => .tup (s _ _ h) n (DeAll.same s t)
  | _, _, .dct h n => .dct (s _ _ h) n
  | _, _, .one h n => .one (s _ _ h) n
theorem DeAll.same {B : Addr → Prop} {H H' : Hp} (s : Same H H') : ∀ {xs : List V} {ds : List PyData}, DeAll B H xs ds → DeAll B H' xs ds
  | _, _, .nil => .nil
  | _, _, .cons h t => .cons (De.same s h) (DeAll.same s t)
end
mutual
/-- where all but what stands in B is as it was -/
theorem De.keep {B : Addr → Prop} {H H' : Hp} (s : ∀ p o, ¬ B p → H p = some o → H' p = some o) : ∀ {x : V} {d : PyData}, De B H x d → De B H' x d
  | _, _, .non => .non
  | _, _, .bl v => .bl v
  | _, _, .int i h => .int i h
  | _, _, .str z h c => .str z h c
  | _, _, .lst h ne t => .lst (s _ _ ne h) ne (DeAll.keep s t)
  | _, _, .tup h ne t => .tup (s _ _ ne h) ne (DeAll.keep s t)
  | _, _, .dct h ne => .dct (s _ _ ne h) ne
  | _, _, .one h ne => .one (s _ _ ne h) ne
theorem DeAll.keep {B : Addr → Prop} {H H' : Hp} (s : ∀ p o, ¬ B p → H p = some o → H' p = some o) : ∀ {xs : List V} {ds : List PyData}, DeAll B H xs ds → DeAll B H' xs ds
  | _, _, .nil => .nil
  | _, _, .cons h t => .cons (De.keep s h) (DeAll.keep s t)
end
mutual
/-- another B, that holds none of its places -/
theorem De.apart {B B' : Addr → Prop} {H : Hp} (s : ∀ p, ¬ B p → H p ≠ none → ¬ B' p) : ∀ {x : V} {d : PyData}, De B H x d → De B' H x d
  | _, _, .non => .non
  | _, _, .bl v => .bl v
  | _, _, .int i h => .int i h
  | _, _, .str z h c => .str z h c
  | _, _, .lst h ne t => .lst h (s _ ne (by rw [h]; exact fun e => nomatch e)) (DeAll.apart s t)
  | _, _, .tup h ne t => .tup h (s _ ne (by rw [h]; exact fun e => nomatch e)) (DeAll.apart s t)
  | _, _, .dct h ne => .dct h (s _ ne (by rw [h]; exact fun e => nomatch e))
  | _, _, .one h ne => .one h (s _ ne (by rw [h]; exact fun e => nomatch e))
theorem DeAll.apart {B B' : Addr → Prop} {H : Hp} (s : ∀ p, ¬ B p → H p ≠ none → ¬ B' p) : ∀ {xs : List V} {ds : List PyData}, DeAll B H xs ds → DeAll B' H xs ds
  | _, _, .nil => .nil
  | _, _, .cons h t => .cons (De.apart s h) (DeAll.apart s t)
end
/-! ### by pairs -/
theorem DeAll.of {B : Addr → Prop} {H : Hp} : ∀ {es : List (V × PyData)}, (∀ e ∈ es, De B H e.1 e.2) → DeAll B H (es.map Prod.fst) (es.map Prod.snd)
  | [], _ => .nil
  | e :: es, h => .cons (h e (List.mem_cons_self ..)) (DeAll.of fun x hx => h x (List.mem_cons_of_mem _ hx))
theorem DeAll.pairs {B : Addr → Prop} {H : Hp} : ∀ {xs : List V} {ds : List PyData}, DeAll B H xs ds → ∃ es : List (V × PyData), xs = es.map Prod.fst ∧ ds = es.map Prod.snd ∧ ∀ e ∈ es, De B H e.1 e.2
  | _, _, .nil => ⟨[], rfl, rfl, fun _ h => (List.not_mem_nil h).elim⟩
  | _, _, .cons (x := x) (d := d) h t => by
    obtain ⟨es, rfl, rfl, k⟩ := DeAll.pairs t
    refine ⟨(x, d) :: es, rfl, rfl, fun e he => ?_⟩
    rcases List.mem_cons.mp he with rfl | he  -- own
    · exact h
    · exact k e he
/-! ### how long its repr may be -/
mutual
def we : PyData → Nat
  | .none => 4
  | .bool _ => 5
  | .int _ => 201
  | .str z => 10 * z.length + 2
  | .list xs => weAll xs + 3
  | .tuple xs => weAll xs + 3
  | .dict _ => 10
def weAll : List PyData → Nat
  | [] => 0
  | x :: xs => we x + 2 + weAll xs
end
theorem weAll_sum : ∀ ds : List PyData, weAll ds = (ds.map fun d => we d + 2).sum
  | [] => rfl
  | d :: ds => by rw [weAll, weAll_sum ds]; rfl
theorem weAll_app : ∀ ds es : List PyData, weAll (ds ++ es) = weAll ds + weAll es
  | [], es => by rw [List.nil_append, weAll]; omega
  | d :: ds, es => by rw [List.cons_append, weAll, weAll, weAll_app ds es]; omega
theorem weAll_mem : ∀ {ds : List PyData} {d : PyData}, d ∈ ds → we d + 2 ≤ weAll ds
  | e :: ds, d, h => by
    rw [weAll]
    rcases List.mem_cons.mp h with rfl | h  -- own
    · omega
    · have := weAll_mem h; omega
theorem weAll_len : ∀ ds : List PyData, 2 * ds.length ≤ weAll ds
  | [] => Nat.le_refl _
  | d :: ds => by have := weAll_len ds; rw [weAll, List.length_cons]; omega
theorem we_pos : ∀ d : PyData, 2 ≤ we d
  | .none => by rw [we]; omega
  | .bool _ => by rw [we]; omega
  | .int _ => by rw [we]; omega
  | .str z => by rw [we]; omega
  | .list xs => by rw [we]; omega
  | .tuple xs => by rw [we]; omega
  | .dict _ => by rw [we]; omega
mutual
theorem De.short {B : Addr → Prop} {H : Hp} : ∀ {x : V} {d : PyData}, De B H x d → d.shown.length ≤ we d ∧ d.showable = true
  | _, _, .non => ⟨by rw [we]; decide +kernel, rfl⟩
  | _, _, .bl v => ⟨by cases v <;> (rw [we]; decide +kernel), rfl⟩
  | _, _, .int i h => ⟨show_i60 h, decide_eq_true (Nat.lt_trans (log60 h) (by decide))⟩
  | _, _, .str z h c => by
    refine ⟨?_, rfl⟩
    have := PySem.StrLaws.reprText_len z (fun y q => by have := c y q; exact Nat.lt_of_le_of_lt this (by decide))
    exact this
  | _, _, .lst (ds := ds) h _ t => by
    obtain ⟨a, b, c⟩ := DeAll.short t
    refine ⟨?_, c⟩
    have := listText_len_le (PyData.shownAll ds)
    rw [we]
    show (listText (PyData.shownAll ds)).length ≤ _
    omega
  | _, _, .tup (ds := ds) h _ t => by
    obtain ⟨a, b, c⟩ := DeAll.short t
    refine ⟨?_, c⟩
    have := tupleText_len_le (PyData.shownAll ds)
    rw [we]
    show (tupleText (PyData.shownAll ds)).length ≤ _
    omega
  | _, _, .dct h _ => ⟨by rw [we]; decide +kernel, rfl⟩
  | _, _, .one h _ => ⟨by rw [we]; decide +kernel, by decide +kernel⟩
theorem DeAll.short {B : Addr → Prop} {H : Hp} : ∀ {xs : List V} {ds : List PyData}, DeAll B H xs ds → ((PyData.shownAll ds).map (·.length)).sum + 2 * ds.length ≤ weAll ds ∧ (PyData.shownAll ds).length = ds.length ∧ PyData.showableAll ds = true
  | _, _, .nil => ⟨Nat.le_refl _, rfl, rfl⟩
  | _, _, .cons (d := d) (ds := ds) h t => by
    obtain ⟨a, b, c⟩ := DeAll.short t
    obtain ⟨e, f⟩ := De.short h
    refine ⟨?_, by rw [PyData.shownAll, List.length_cons, b, List.length_cons], ?_⟩
    · rw [PyData.shownAll, List.map_cons, List.sum_cons, List.length_cons, weAll]; omega
    · show (PyData.showable d && PyData.showableAll ds) = true
      rw [f, c]; rfl
end
theorem we_big {d : PyData} (h : we d ≤ 1000000) : we d ≤ sizeLine := Nat.le_trans h (by decide)
/-! ### repr -/
section
variable {X : Cx} {pins : List (Addr × Obj)} {σ : L2.St} {H : Hp} {s : Shared}  -- own
/-- what can be asked for its repr where d layers stand around -/
abbrev Rp (X : Cx) (h : Heap) (u : Value) (d : PyData) : Prop := ∃ as bs, Reads h u d as ∧ ReadAtMost h d.depth bs ∧ ReprK X.prog X.w bs h d.depth u d.shown
abbrev RpAll (X : Cx) (h : Heap) (us : List Value) (ds : List PyData) : Prop := ∃ as bs, ReadsAll h us ds as ∧ ReadAtMost h (PyData.depthAll ds) bs ∧ ReprAllK X.prog X.w bs h (PyData.depthAll ds) us (PyData.shownAll ds)
theorem Rp.leaf {h : Heap} {u : Value} {d : PyData} (r : Reads h u d []) (q : ReprIs X.prog X.w u d.shown) : Rp X h u d := ⟨[], [], r, fun _ z => (List.not_mem_nil z).elim, .of_is q _ _ _⟩
theorem RpAll.cons {h : Heap} {u : Value} {us : List Value} {d : PyData} {ds : List PyData} (a : Rp X h u d) (b : RpAll X h us ds) : RpAll X h (u :: us) (d :: ds) := by
  obtain ⟨as, bs, r, m, k⟩ := a
  obtain ⟨cs, es, r', m', k'⟩ := b
  have l : d.depth ≤ PyData.depthAll (d :: ds) := Nat.le_max_left _ _
  have l' : PyData.depthAll ds ≤ PyData.depthAll (d :: ds) := Nat.le_max_right _ _
  exact ⟨as ++ cs, bs ++ es, .cons r r', (m.mono l).append (m'.mono l'), .cons ((k.more fun b hb => List.mem_append_left _ hb).level_le l) (k'.more_le (fun b hb => List.mem_append_right _ hb) l')⟩
theorem Rp.lst {h : Heap} {a : Addr} {us : List Value} {n : Nat} {ds : List PyData} (g : h.get? a = some { cls := .type "list", data := .seq us.toArray n }) (b : RpAll X h us ds) : Rp X h (.ref a) (.list ds) := by
  obtain ⟨as, bs, r, m, k⟩ := b
  have rd : Reads h (.ref a) (.list ds) (a :: as) := .list g rfl rfl (by rw [List.toList_toArray]; exact r)
  refine ⟨_, a :: bs, rd, ReadAtMost.cons rd (Nat.le_succ _) m, ?_⟩
  cases us with
  | nil =>
    cases r
    exact ReprK.listEmpty g rfl rfl
  | cons u us => exact ReprK.list g rfl rfl (not_mem_of_deeper rd (Nat.lt_succ_self _) m) (by rw [k.length_eq, List.size_toArray]) fun i y e => k.item i y (by simpa using e)
theorem Rp.tup {h : Heap} {a : Addr} {us : List Value} {ds : List PyData} (g : IsTup h a us.toArray) (b : RpAll X h us ds) : Rp X h (.ref a) (.tuple ds) := by
  obtain ⟨as, bs, r, m, k⟩ := b
  obtain ⟨o, g1, g2, n, g3⟩ := g
  have rd : Reads h (.ref a) (.tuple ds) as := .tuple g1 g2 g3 (by rw [List.toList_toArray]; exact r)
  exact ⟨_, a :: bs, rd, ReadAtMost.cons rd (Nat.le_succ _) m, ReprK.tuple g1 g2 g3 (not_mem_of_deeper rd (Nat.lt_succ_self _) m) (by rw [List.toList_toArray]; exact k)⟩
theorem empty_dict (I : Inv X pins σ H s) {a : Addr} (ha : H a = some (.dK [])) : (a == sysModules) = false ∧ ∃ o es n, s.heap.get? a = some o ∧ o.cls = .type "dict" ∧ o.data = .dict es n ∧ es.toList = [] := by
  obtain ⟨_, hsm, vs, r0, o, es, ep, g1, g2, g3, g4⟩ := (show ObjOk X.prog X.w H s.heap a (.dK []) from I.hok a _ ha)
  cases r0
  refine ⟨hsm, o, es, ep, g1, g2.1, g3, ?_⟩
  cases h : es.toList with
  | nil => rfl
  | cons y r =>
    have g5 := g4.2.1
    rw [h] at g5
    cases g5
theorem Rp.dct (I : Inv X pins σ H s) {a : Addr} (ha : H a = some (.dK [])) : Rp X s.heap (.ref a) (.dict []) := by
  obtain ⟨hsm, o, es, n, g1, g2, g3, e0⟩ := empty_dict I ha
  have rd : Reads s.heap (.ref a) (.dict []) [a] := Reads.dict (as := []) (bs := []) g1 g2 g3 (by rw [e0]; exact .nil) (by rw [e0]; exact .nil)
  exact ⟨_, _, rd, (ReprK.of_reads (prog := X.prog) (w := X.w) rd rfl (fun _ h => by
    rw [List.mem_singleton] at h
    rw [h] at hsm
    simp at hsm) (by decide +kernel)).choose_spec⟩
theorem one_dict (I : Inv X pins σ H s) {a : Addr} (ha : H a = some (.dK [(.inr "a", .int 1)])) : (a == sysModules) = false ∧ Reads s.heap (.ref a) (.dict [(.str "a", .int 1)]) [a] := by
  obtain ⟨_, hsm, vs, r0, o, es, ep, g1, g2, g3, g4⟩ := (show ObjOk X.prog X.w H s.heap a (.dK [(.inr "a", .int 1)]) from I.hok a _ ha)
  refine ⟨hsm, ?_⟩
  cases r0 with
  | cons r rs =>
    cases rs
    obtain ⟨k1, rv⟩ := r
    obtain ⟨tv, rv⟩ := rv
    rename_i q
    obtain ⟨qk, qv⟩ := q
    simp only at k1 rv
    subst k1 rv
    have g5 := g4.2.1
    generalize hl : es.toList = L at g5
    cases g5 with
    | cons p1 p2 p3 =>
      rename_i e es'
      cases p3
      obtain ⟨tk, ek⟩ : ∃ tk, e.key = Value.str "a" tk := by
        rcases keyIs_shape (k := .inr "a") (v := e.key) p1 with ⟨i, t, e1, _⟩ | ⟨x, t, e1, e2⟩
        · cases e1
        · cases e1; exact ⟨t, e2⟩
      exact Reads.dict (as := []) (bs := []) g1 g2.1 g3 (by rw [hl]; show ReadsAll _ [e.key] [.str "a"] []; rw [ek]; exact .cons (.str _ _) .nil) (by rw [hl]; show ReadsAll _ [e.val] [.int 1] []; rw [p2]; exact .cons (.int _ _) .nil)
theorem Rp.one (I : Inv X pins σ H s) {a : Addr} (ha : H a = some (.dK [(.inr "a", .int 1)])) : Rp X s.heap (.ref a) (.dict [(.str "a", .int 1)]) := by
  obtain ⟨hsm, rd⟩ := one_dict I ha
  exact ⟨_, _, rd, (ReprK.of_reads (prog := X.prog) (w := X.w) rd (by decide +kernel) (fun _ h => by
    rw [List.mem_singleton] at h
    rw [h] at hsm
    simp at hsm) (by decide +kernel)).choose_spec⟩
mutual
theorem De.rp {B : Addr → Prop} (I : Inv X pins σ H s) : ∀ {x : V} {d : PyData}, De B H x d → d.shown.length ≤ sizeLine → ∀ {u : Value}, RelV x u → Rp X s.heap u d
  | _, _, .non, _, u, r => by
    cases (show u = Value.none from r)
    exact .leaf .none ReprIs.none
  | _, _, .bl b, _, u, r => by
    cases (show u = Value.bool b from r)
    exact .leaf (.bool b) (ReprIs.bool b)
  | _, _, .int i h, _, u, r => by
    obtain ⟨t, e⟩ := (show ∃ t, u = Value.int i t from r)
    subst e
    exact .leaf (.int i t) (ReprIs.int t (Nat.lt_trans (log60 h) (by decide)))
  | _, _, .str z h c, q, u, r => by
    obtain ⟨t, e⟩ := (show ∃ t, u = Value.str z t from r)
    subst e
    exact .leaf (.str z t) (ReprIs.str z t q)
  | _, _, .lst (a := a) (xs := xs) (ds := ds) h _ t, q, u, r => by
    cases (show u = Value.ref a from r)
    obtain ⟨_, us, n, rv, g⟩ := (show ObjOk X.prog X.w H s.heap a (.lst xs) from I.hok a _ h)
    exact .lst g (DeAll.rp I t (fun z hz => Nat.le_trans (listText_mem_le hz) q) rv)
  | _, _, .tup (a := a) (xs := xs) (ds := ds) h _ t, q, u, r => by
    cases (show u = Value.ref a from r)
    obtain ⟨_, us, rv, g⟩ := (show ObjOk X.prog X.w H s.heap a (.tup xs) from I.hok a _ h)
    exact .tup g (DeAll.rp I t (fun z hz => Nat.le_trans (tupleText_mem_le hz) q) rv)
  | _, _, .dct (a := a) h _, _, u, r => by
    cases (show u = Value.ref a from r)
    exact .dct I h
  | _, _, .one (a := a) h _, _, u, r => by
    cases (show u = Value.ref a from r)
    exact .one I h
theorem DeAll.rp {B : Addr → Prop} (I : Inv X pins σ H s) : ∀ {xs : List V} {ds : List PyData}, DeAll B H xs ds → (∀ z ∈ PyData.shownAll ds, z.length ≤ sizeLine) → ∀ {us : List Value}, Vals xs us → RpAll X s.heap us ds
  | _, _, .nil, _, _, .nil => ⟨[], [], .nil, fun _ z => (List.not_mem_nil z).elim, .nil⟩
  | _, _, .cons (d := d) (ds := ds) h t, q, _, .cons r rs => .cons (De.rp I h (q _ (by rw [PyData.shownAll]; exact List.mem_cons_self ..)) r) (DeAll.rp I t (fun z hz => q z (by rw [PyData.shownAll]; exact List.mem_cons_of_mem _ hz)) rs)
end
def rReprE : List V → Hp → VK → Prop := fun xs H Q => ∃ (B : Addr → Prop) (x : V) (d : PyData), xs = [x] ∧ De B H x d ∧ we d ≤ 1000000 ∧ d.depth ≤ 60 ∧ Q (.str d.shown) H
theorem call_reprE (hg : X.A.guards = some []) (hu : X.A.units + 64 < cLine) : CallR X (.builtin "repr") rReprE := by
  intro pins s σ H xs us Q I r h  -- own
  obtain ⟨B, x, d, ex, hd, hw, hdp, q⟩ := h
  have hz : d.shown.length ≤ sizeLine := Nat.le_trans hd.short.1 (we_big hw)
  have hs := hd.short.2
  have fin : ∀ (h' : Heap) (u : Tok) (tk : Nat), (∀ b o, s.heap.get? b = some o → h'.get? b = some o) → EP X pins σ Q (.str d.shown u) { s with heap := h', toks := tk } := fun h' u tk hk => ⟨.str _, H, I.kept hk, ⟨_, rfl⟩, q⟩
  have easy : Dp X.K H x d → d.hasDict = false → wpAny (model X.prog X.w) X.A (call (.builtin "repr") us) (EP X pins σ Q) X.xe s := fun z n => J.call_repr hg hu pins s σ H xs us Q I r ⟨x, d, ex, z, hs, hdp, n, hz, q⟩
  subst ex
  obtain ⟨u, rfl, ru⟩ := vals1 r  -- own
  cases hd with
  | non => exact easy .non rfl
  | bl v => exact easy (.bl v) rfl
  | int i h => exact easy (.int i) rfl
  | str z h c => exact easy (.str z) rfl
  | @lst a xs ds h _ t =>
    cases (show u = Value.ref a from ru)  -- own
    obtain ⟨_, us, n, rv, g⟩ := (show ObjOk X.prog X.w H s.heap a (.lst xs) from I.hok a _ h)
    have hz' : (listText (PyData.shownAll ds)).length ≤ sizeLine := hz
    have hdp : PyData.depthAll ds + 1 ≤ 60 := hdp
    obtain ⟨as, bs, rd, m, k⟩ := DeAll.rp I t (fun z hz => Nat.le_trans (listText_mem_le hz) hz') rv
    have ra : Reads s.heap (.ref a) (.list ds) (a :: as) := .list g rfl rfl (by rw [List.toList_toArray]; exact rd)
    refine call_repr_slot (by omega) ⟨_, g, rfl⟩ F.slot_list_repr.toG ?_
    cases us with
    | nil =>
      cases rd
      exact call_list_repr_empty ⟨_, g, rfl⟩ g rfl ⟨_, _, rfl, fin s.heap _ _ fun _ _ e => e⟩
    | cons y us => exact call_list_reprK g rfl rfl (not_mem_of_deeper ra (Nat.lt_succ_self _) m) (by rw [k.length_eq, List.size_toArray]) (fun i y e => k.item i y (by simpa using e)) hg (fun b _ => Clear.nil b) (by show X.A.units + 1 + (PyData.depthAll ds + 1) < cLine; omega) (fun _ _ e => e) (fun h' u tk hk => ⟨_, _, rfl, fin h' u tk hk⟩) hz'
  | @tup a xs ds h _ t =>
    cases (show u = Value.ref a from ru)  -- own
    obtain ⟨_, us, rv, o, g1, g2, n, g3⟩ := (show ObjOk X.prog X.w H s.heap a (.tup xs) from I.hok a _ h)
    have hz' : (tupleText (PyData.shownAll ds)).length ≤ sizeLine := hz
    have hdp : PyData.depthAll ds + 1 ≤ 60 := hdp
    obtain ⟨as, bs, rd, m, k⟩ := DeAll.rp I t (fun z hz => Nat.le_trans (tupleText_mem_le hz) hz') rv
    have ra : Reads s.heap (.ref a) (.tuple ds) as := .tuple g1 g2 g3 (by rw [List.toList_toArray]; exact rd)
    refine call_repr_slot (by omega) ⟨_, g1, g2⟩ F.slot_tuple_repr ?_
    exact call_tuple_reprK g1 g2 g3 (not_mem_of_deeper ra (Nat.lt_succ_self _) m) (by rw [List.toList_toArray]; exact k) hg (fun b _ => Clear.nil b) (by show X.A.units + 1 + (PyData.depthAll ds + 1) < cLine; omega) (fun _ _ e => e) (fun h' u tk hk => ⟨_, _, rfl, fin h' u tk hk⟩) hz'
  | @one a h _ =>
    cases (show u = Value.ref a from ru)  -- own
    obtain ⟨hsm, rd⟩ := one_dict I h
    exact repr_of_reads' rd (by decide +kernel) (fun _ h => by
      rw [List.mem_singleton] at h
      rw [h] at hsm
      simp at hsm) hg (by show X.A.units + (1 + 1) < cLine; omega) (fun _ _ e => e) fin (by decide +kernel)
  | @dct a h _ =>
    cases (show u = Value.ref a from ru)  -- own
    obtain ⟨hsm, o, es, n, g1, g2, g3, e0⟩ := empty_dict I h
    have rd : Reads s.heap (.ref a) (.dict []) [a] := Reads.dict (as := []) (bs := []) g1 g2 g3 (by rw [e0]; exact .nil) (by rw [e0]; exact .nil)
    exact repr_of_reads' rd rfl (fun _ h => by
      rw [List.mem_singleton] at h
      rw [h] at hsm
      simp at hsm) hg (by show X.A.units + (1 + 1) < cLine; omega) (fun _ _ e => e) fin (by decide +kernel)
end
end J

/-! things of any depth: their sorts, compared with a text; promises of the doors of the lines, of any things -/
namespace PySem.SeqAt
open AutoSeq1 (wpAny_loadPart')  -- own
open MeetsSeq
section
variable {A : Around} {s : Shared} (l : Addr) (es : Array DictEntry) (n : Nat) (dd : Option Addr) (sl : Array (Option Value)) (z : Str) (t : Tok)
theorem dict_no_text : Meets (Builtin.«dict.__eq__» ⟨[.ref l, .str z t], []⟩) (fun _ R s => s.heap.get? l = some ⟨.type "dict", dd, .dict es n, sl⟩ ∧ R (.ok (.ret .notImplemented)) s) :=
  .of_wp fun prog w A R s h => by  -- own
    obtain ⟨hp, g, d, tk, os⟩ := s  -- own
    obtain ⟨hl, h⟩ := h
    have f1 := F.sub_str_dict
    wp_walk using wpAny_loadPart' hl  -- own
    exact ⟨_, rfl, h⟩
theorem text_no_dict : Meets (Builtin.«str.__eq__» ⟨[.str z t, .ref l], []⟩) (fun _ R s => s.heap.get? l = some ⟨.type "dict", dd, .dict es n, sl⟩ ∧ R (.ok (.ret .notImplemented)) s) :=
  .of_wp fun prog w A R s h => by  -- own
    obtain ⟨hp, g, d, tk, os⟩ := s  -- own
    obtain ⟨hl, h⟩ := h
    wp_walk using wpAny_loadPart' hl, wpAny_load hl
    exact ⟨_, rfl, h⟩
variable {l es n dd sl z t}
theorem dict_text (g : s.heap.get? l = some ⟨.type "dict", dd, .dict es n, sl⟩) (hu : A.units < cLine) : RcAt A s (.ref l) (.str z t) false := fun prog w E Q h =>
  rc_eq_decline_or (k := false) ⟨_, g, rfl⟩ (typeIs_str s z t) (by decide) F.sub_str_dict F.slot_dict_eq F.slot_str_eq_refl
    (fun _ q => call_meets F.slot_dict_eq ⟨_, g, rfl⟩ F.entry_dict_eq (F.args_dict_eq_2 _ _) (dict_no_text l es n dd sl z t) ⟨g, q⟩)
    (fun _ q => call_meets F.slot_str_eq_refl (typeIs_str s z t) F.entry_str_eq (F.args_str_eq_2 _ _) (text_no_dict l es n dd sl z t) ⟨g, q⟩)
    (fun _ q => wpAny_of_eq rfl q) (.inr hu) h
end
end PySem.SeqAt
namespace J
open PySem PySem.Spec PyProof.Rows L2 M
def strIs : PyData → Str → Bool
  | .str z, n => decide (z = n)
  | _, _ => false
/-- x == n, n a text -/
def rEqT : R2 := fun x y H Q => ∃ (B : Addr → Prop) (d : PyData) (n : Str), De B H x d ∧ y = .str n ∧ Q (.bl (strIs d n)) H
theorem dict_obj {X : Cx} {pins : List (Addr × Obj)} {σ : L2.St} {H : Hp} {s : Shared} (I : Inv X pins σ H s) {a : Addr} {kvs : List (Key × V)} (ha : H a = some (.dK kvs)) : ∃ dd es n sl, s.heap.get? a = some ⟨.type "dict", dd, .dict es n, sl⟩ := by
  obtain ⟨_, hsm, vs, r0, ⟨oc, od, dt, sl⟩, es, ep, g1, g2, g3, g4⟩ := (show ObjOk X.prog X.w H s.heap a (.dK kvs) from I.hok a _ ha)
  have g2 : oc = .type "dict" := g2.1
  simp only at g3
  subst g2 g3
  exact ⟨_, _, _, _, g1⟩
theorem op_eqT {X : Cx} (hu : X.A.units < cLine) : OpR X (compareOp .Eq) rEqT := by
  intro pins s σ H x y v u Q I rx ry h  -- own
  obtain ⟨B, d, n, hd, rfl, q⟩ := h
  have easy : scal x (.str n) = true → decide (x = .str n) = strIs d n → wpAny (model X.prog X.w) X.A (compareOp .Eq v u) (EP X pins σ Q) X.xe s := fun a e => L2.op_eq pins s σ H x (.str n) v u Q I rx ry ⟨a, by rw [e]; exact q⟩
  obtain ⟨t, e⟩ := (show ∃ t, u = Value.str n t from ry)
  have dct : ∀ (a : Addr) (kvs : List (Key × V)), x = .ref a → H a = some (.dK kvs) → strIs d n = false → wpAny (model X.prog X.w) X.A (compareOp .Eq v u) (EP X pins σ Q) X.xe s := fun a kvs ex h e0 => by
    subst ex e
    cases (show v = Value.ref a from rx)  -- own
    obtain ⟨dd, es, m, sl, g⟩ := dict_obj I h
    rw [e0] at q
    exact SeqAt.dict_text g hu X.prog X.w X.xe _ ⟨.bl _, H, I, rfl, q⟩
  cases hd with
  | non => exact easy rfl rfl
  | bl b => exact easy rfl rfl
  | int i h => exact easy rfl rfl
  | str z h c => exact easy rfl (by rw [dec_str]; rfl)
  | @lst a xs ds h _ _ =>
    subst e
    cases (show v = Value.ref a from rx)  -- own
    obtain ⟨_, us, m, rv, g⟩ := (show ObjOk X.prog X.w H s.heap a (.lst xs) from I.hok a _ h)
    exact SeqAt.RcAt.list_str n t ⟨_, g, rfl, m, rfl⟩ hu X.prog X.w X.xe _ ⟨.bl _, H, I, rfl, q⟩
  | @tup a xs ds h _ _ =>
    subst e
    cases (show v = Value.ref a from rx)  -- own
    obtain ⟨_, us, rv, g⟩ := (show ObjOk X.prog X.w H s.heap a (.tup xs) from I.hok a _ h)
    exact SeqAt.RcAt.tuple_str n t g hu X.prog X.w X.xe _ ⟨.bl _, H, I, rfl, q⟩
  | @dct a h _ => exact dct a _ rfl h rfl
  | @one a h _ => exact dct a _ rfl h rfl
def rEqK (K : PySem.W.Frag) : R2 := fun x y H Q => rEqA K x y H Q ∨ rEqT x y H Q
theorem op_eqK {X : Cx} (hu : X.A.units + 64 < cLine) : OpR X (compareOp .Eq) (rEqK X.K) :=
  have h : X.A.units < cLine := by omega
  orR (op_eqA hu) (op_eqT h)
/-! ### what sort it is of -/
def tyN : PyData → String
  | .none => "NoneType"
  | .bool _ => "bool"
  | .int _ => "int"
  | .str _ => "str"
  | .list _ => "list"
  | .tuple _ => "tuple"
  | .dict _ => "dict"
def isTD : PyData → Bool
  | .tuple _ => true
  | _ => false
def isLD : PyData → Bool
  | .list _ => true
  | _ => false
theorem De.ty {K : PySem.W.Frag} {B : Addr → Prop} {H : Hp} {x : V} {d : PyData} (t : De B H x d) : TyX K H x (.type (tyN d)) := by
  cases t with
  | non => exact .base .non
  | bl v => exact .base (.bl v)
  | int i h => exact .base (.int i)
  | str z h c => exact .base (.str z)
  | lst h _ _ => exact .base (.lst h)
  | tup h _ _ => exact .base (.tup h)
  | dct h _ => exact .base (.dK h)
  | one h _ => exact .base (.dK h)
theorem kS (d : PyData) : kitB (tyN d) "str" = some (isSD d) := by cases d <;> first | exact (show kitB "NoneType" "str" = some false by decide +kernel) | exact (show kitB "bool" "str" = some false by decide +kernel) | exact (show kitB "int" "str" = some false by decide +kernel) | exact (show kitB "str" "str" = some true by decide +kernel) | exact (show kitB "list" "str" = some false by decide +kernel) | exact (show kitB "tuple" "str" = some false by decide +kernel) | exact (show kitB "dict" "str" = some false by decide +kernel)
theorem kL (d : PyData) : kitB (tyN d) "list" = some (isLD d) := by cases d <;> first | exact (show kitB "NoneType" "list" = some false by decide +kernel) | exact (show kitB "bool" "list" = some false by decide +kernel) | exact (show kitB "int" "list" = some false by decide +kernel) | exact (show kitB "str" "list" = some false by decide +kernel) | exact (show kitB "list" "list" = some true by decide +kernel) | exact (show kitB "tuple" "list" = some false by decide +kernel) | exact (show kitB "dict" "list" = some false by decide +kernel)
theorem kT (d : PyData) : kitB (tyN d) "tuple" = some (isTD d) := by cases d <;> first | exact (show kitB "NoneType" "tuple" = some false by decide +kernel) | exact (show kitB "bool" "tuple" = some false by decide +kernel) | exact (show kitB "int" "tuple" = some false by decide +kernel) | exact (show kitB "str" "tuple" = some false by decide +kernel) | exact (show kitB "list" "tuple" = some false by decide +kernel) | exact (show kitB "tuple" "tuple" = some true by decide +kernel) | exact (show kitB "dict" "tuple" = some false by decide +kernel)
section
variable {K : PySem.W.Frag} {B : Addr → Prop} {H : Hp} {x : V} {d : PyData} {Q : VK}
theorem De.isS (t : De B H x d) (k : Q (.bl (isSD d)) H) : rIsi K [x, .ty "str"] H Q := r_isiB t.ty (kS d) k
theorem De.isL (t : De B H x d) (k : Q (.bl (isLD d)) H) : rIsi K [x, .ty "list"] H Q := r_isiB t.ty (kL d) k
theorem De.isT (t : De B H x d) (k : Q (.bl (isTD d)) H) : rIsi K [x, .ty "tuple"] H Q := r_isiB t.ty (kT d) k
theorem De.isLT {p : Addr} (t : De B H x d) (hp : H p = some (.tup [V.ty "list", V.ty "tuple"])) (k : Q (.bl (isLD d || isTD d)) H) : rIsiT K [x, .ref p] H Q :=
  ⟨_, p, _, _, _, isLD d || isTD d, rfl, hp, .cons (.ty _) (.cons (.ty _) .nil), t.ty, by cases d <;> rfl, k⟩
theorem De.S_of (t : De B H x d) (h : isSD d = true) : ∃ z : Str, x = .str z ∧ d = .str z ∧ z.length ≤ 4000 ∧ ∀ c ∈ cd z, c ≤ 126 := by
  cases t with
  | str z hz c => exact ⟨z, rfl, rfl, hz, c⟩
  | _ => exact (Bool.false_ne_true h).elim
/-- a list or a tuple -/
theorem De.LT_of (t : De B H x d) (h : (isLD d || isTD d) = true) : ∃ (a : Addr) (xs : List V) (ds : List PyData), x = .ref a ∧ (d = .list ds ∨ d = .tuple ds) ∧ (H a = some (.lst xs) ∨ H a = some (.tup xs)) ∧ ¬ B a ∧ DeAll B H xs ds := by
  cases t with
  | lst hl n t => exact ⟨_, _, _, rfl, .inl rfl, .inl hl, n, t⟩
  | tup hl n t => exact ⟨_, _, _, rfl, .inr rfl, .inr hl, n, t⟩
  | _ => exact (Bool.false_ne_true h).elim
theorem De.T_of (t : De B H x d) (h : isTD d = true) : ∃ (a : Addr) (xs : List V) (ds : List PyData), x = .ref a ∧ d = .tuple ds ∧ H a = some (.tup xs) ∧ DeAll B H xs ds := by
  cases t with
  | tup hl n t => exact ⟨_, _, _, rfl, rfl, hl, t⟩
  | _ => exact (Bool.false_ne_true h).elim
theorem DeAll.len {B : Addr → Prop} {H : Hp} : ∀ {xs : List V} {ds : List PyData}, DeAll B H xs ds → xs.length = ds.length
  | _, _, .nil => rfl
  | _, _, .cons _ t => by rw [List.length_cons, List.length_cons, DeAll.len t]
theorem DeAll.get {B : Addr → Prop} {H : Hp} : ∀ {xs : List V} {ds : List PyData} {i : Nat} {x : V}, DeAll B H xs ds → xs[i]? = some x → ∃ d, ds[i]? = some d ∧ De B H x d
  | _, _, _, _, .nil, e => by cases e
  | _, _, 0, _, .cons h _, e => by cases e; exact ⟨_, rfl, h⟩
  | _, _, i + 1, _, .cons _ t, e => DeAll.get (i := i) t e
end
/-! ### lines, lists of words, states -/
def lineE : PyData → Bool
  | .str z => decide (z.length ≤ 2000) && sg ((cd z).filter fun c => decide (c ≠ 10))
  | _ => false
def itemsE : PyData → List PyData
  | .list ds => ds
  | .tuple ds => ds
  | _ => []
def wordsE (d : PyData) : Bool := (isLD d || isTD d) && (decide ((itemsE d).length ≤ 40) && (itemsE d).all wdD)
def quoE (d : PyData) : Bool := strIs d "" || strIs d "'" || strIs d "\""
def bqE : PyData → PyData → Bool
  | .none, q => strIs q ""
  | b, q => wdD b && quoE q
def st3 : List PyData → Bool
  | [ws, bg, q] => wordsE ws && bqE bg q
  | _ => false
def stE : PyData → Bool
  | .tuple ds => st3 ds
  | _ => false
def begE : PyData → List Nat
  | .tuple [_, .str z, _] => cd z
  | _ => []
def goodE (d e : PyData) : Bool := wdD e && match e with
  | .str z => decide (begE d <+: cd z)
  | _ => false
theorem lineE_lf {z : Str} (h : lineE (.str z) = true) : Lf (cd z) := by
  have h : (decide (z.length ≤ 2000) && sg ((cd z).filter fun c => decide (c ≠ 10))) = true := h
  rw [Bool.and_eq_true, decide_eq_true_iff, sg_iff] at h
  refine ⟨by rw [← len_cd]; exact h.1, fun c hc => ?_⟩
  by_cases q : c = 10
  · exact .inl q
  · exact .inr (h.2 c (List.mem_filter.mpr ⟨hc, decide_eq_true q⟩))
def spIsWordE : Sp := fun vs H Q _ => ∃ (B : Addr → Prop) (x : V) (d : PyData), vs = [x] ∧ De B H x d ∧ ∀ H', Same H H' → Q (.bl (wdD d)) H'
def spIsLineE : Sp := fun vs H Q _ => ∃ (B : Addr → Prop) (x : V) (d : PyData), vs = [x] ∧ De B H x d ∧ ∀ H', Same H H' → Q (.bl (lineE d)) H'
def spAreWordsE : Sp := fun vs H Q _ => ∃ (B : Addr → Prop) (x : V) (d : PyData), vs = [x] ∧ De B H x d ∧ ∀ H', Same H H' → Q (.bl (wordsE d)) H'
def spScannedE (CL CB : Addr) : Sp := fun vs H Q E => ∃ (B : Addr → Prop) (x : V) (d : PyData), vs = [x] ∧ De B H x d ∧ (lineE d = false → Err CL "found" x H E) ∧ ∀ z, d = .str z → Lf (cd z) →
  (∀ e, M.scan stP 0 sc0 (cd z) = .error e → Err CB "at" (.int (e : Nat)) H E) ∧
  (∀ t, M.scan stP 0 sc0 (cd z) = .ok t → t.tk = true → Err CB "at" (.int (((cd z).length : Nat) - 1 : Int)) H E) ∧
  (∀ t, M.scan stP 0 sc0 (cd z) = .ok t → t.tk = false → ∀ (p w : Addr) (H' : Hp), H p = none → H w = none → Same H H' → H' p = some (.tup [.ref w, obV t.bg, qV t.qt, .int t.op]) → H' w = some (.lst (t.ws.map wV)) → p ≠ w → Q (.ref p) H')
def spCutPE : Sp := fun vs H Q _ => ∃ (B : Addr → Prop) (x : V) (d : PyData), vs = [x] ∧ De B H x d ∧ (∀ H', Same H H' → Q .non H') ∧
  ∀ z, d = .str z → Lf (cd z) → ∀ ws, cutR stP (cd z) = .ok ws → ws.length ≤ 2000 → ∀ (wd : Addr) (H' : Hp), H wd = none → Same H H' → H' wd = some (.lst (ws.map wV)) → Q (.ref wd) H'
def spCutE (CL CB CT : Addr) : Sp := fun vs H Q E => ∃ (B : Addr → Prop) (x : V) (d : PyData), vs = [x] ∧ De B H x d ∧ (lineE d = false → Err CL "found" x H E) ∧ ∀ z, d = .str z → Lf (cd z) →
  (∀ e, cutR stP (cd z) = .error e → Err CB "at" (.int (e : Nat)) H E) ∧
  (∀ ws, cutR stP (cd z) = .ok ws → 40 < ws.length → Err CT "many" (.int (ws.length : Nat)) H E) ∧
  (∀ ws, cutR stP (cd z) = .ok ws → ws.length ≤ 40 → ∀ (w : Addr) (H' : Hp), H w = none → Same H H' → H' w = some (.lst (ws.map wV)) → Q (.ref w) H')
def spStateE (CL CB CT : Addr) : Sp := fun vs H Q E => ∃ (B : Addr → Prop) (x : V) (d : PyData), vs = [x] ∧ De B H x d ∧ (lineE d = false → Err CL "found" x H E) ∧ ∀ z, d = .str z → Lf (cd z) →
  (∀ e, stR stP (cd z) = .error e → Err CB "at" (.int (e : Nat)) H E) ∧
  (∀ t, stR stP (cd z) = .ok t → 40 < cnt t → Err CT "many" (.int (cnt t : Nat)) H E) ∧
  (∀ t, stR stP (cd z) = .ok t → cnt t ≤ 40 → ∀ (p wd : Addr) (H' : Hp), H p = none → H wd = none → Same H H' → H' p = some (.tup [.ref wd, obV t.bg, .str (qS t.qt)]) → H' wd = some (.lst (t.ws.map wV)) → wd ≠ p → Q (.ref p) H')
def spQuotedE (CW : Addr) : Sp := fun vs H Q E => ∃ (B : Addr → Prop) (x : V) (d : PyData), vs = [x] ∧ De B H x d ∧ (wdD d = false → Err CW "found" x H E) ∧ (wdD d = true → ∀ (v : List Nat) (H' : Hp), v.length ≤ 82 → Same H H' → Q (.str (S v)) H')
def spJoinedE (CI : Addr) : Sp := fun vs H Q E => ∃ (B : Addr → Prop) (x : V) (d : PyData), vs = [x] ∧ De B H x d ∧ (wordsE d = false → Err CI "found" x H E) ∧ (wordsE d = true → ∀ (z : Str) (H' : Hp), Same H H' → Q (.str z) H')
end J

/-! what comes of a line, of any thing; promises of what is written behind a state, of lines shown and alike -/
namespace J
open PySem PySem.Spec PyProof.Rows L2 M
mutual
theorem De.dp {K : PySem.W.Frag} {B : Addr → Prop} {H : Hp} : ∀ {x : V} {d : PyData}, De B H x d → d.canLay0 = true → Dp K H x d
  | _, _, .non, _ => .non
  | _, _, .bl v, _ => .bl v
  | _, _, .int i h, _ => .int i
  | _, _, .str z h c, _ => .str z
  | _, _, .lst h n t, q => .lst (SqL.of h) (DeAll.dp t q)
  | _, _, .tup h n t, q => .tup (SqT.of h) (DeAll.dp t q)
  | _, _, .dct h n, q => (Bool.false_ne_true q).elim
  | _, _, .one h n, q => (Bool.false_ne_true q).elim
theorem DeAll.dp {K : PySem.W.Frag} {B : Addr → Prop} {H : Hp} : ∀ {xs : List V} {ds : List PyData}, DeAll B H xs ds → PyData.canLayAll0 ds = true → DpAll K H xs ds
  | _, _, .nil, _ => .nil
  | _, _, .cons h t, q => .cons (De.dp h (Bool.and_eq_true_iff.mp q).1) (DeAll.dp t (Bool.and_eq_true_iff.mp q).2)
end
/-- the outcomes of cutting x, of the datum d: the first that is due; else there is a list of words, and T -/
def CutO (CL CB CT : Addr) (H : Hp) (E : XK) (x : V) (d : PyData) (T : Prop) : Prop := (lineE d = false → Err CL "found" x H E) ∧ ∀ z, d = .str z → Lf (cd z) →
  (∀ e, cutR stP (cd z) = .error e → Err CB "at" (.int (e : Nat)) H E) ∧
  (∀ ws, cutR stP (cd z) = .ok ws → 40 < ws.length → Err CT "many" (.int (ws.length : Nat)) H E) ∧
  (∀ ws, cutR stP (cd z) = .ok ws → ws.length ≤ 40 → T)
def flatE : PyData → Bool
  | .none => true
  | .bool _ => true
  | .int _ => true
  | .str _ => true
  | _ => false
def thirdE : PyData → PyData
  | .tuple [_, _, q] => q
  | _ => .none
def spIsStateE : Sp := fun vs H Q _ => ∃ (B : Addr → Prop) (x : V) (d : PyData), vs = [x] ∧ De B H x d ∧ flatE (thirdE d) = true ∧ ∀ H', Same H H' → Q (.bl (stE d)) H'
def spRestE : Sp := fun vs H Q _ => ∃ z q : Str, vs = [.str z, .str q] ∧ z.length ≤ 40 ∧ 39 ∉ cd z ∧ ∀ (v : Str) (H' : Hp), v.length ≤ 100 → Same H H' → Q (.str v) H'
/-- begun, as a thing -/
def bgV : Option Str → V
  | none => .non
  | some z => .str z
def spWrittenE : Sp := fun vs H Q _ => ∃ (a : Addr) (w : V) (g : Option Str) (q y : Str), vs = [.ref a, .str y] ∧ H a = some (.tup [w, bgV g, .str q]) ∧ (g.getD "").length ≤ 40 ∧ Wd (cd y) ∧ 39 ∉ cd y ∧ ∀ (v : Str) (H' : Hp), Same H H' → Q (.str v) H'
def spBehindE (CS CW : Addr) : Sp := fun vs H Q E => ∃ (B B2 : Addr → Prop) (x y : V) (d e : PyData), vs = [x, y] ∧ De B H x d ∧ flatE (thirdE d) = true ∧ (stE d = false → Err CS "found" x H E) ∧
  (stE d = true → De B2 H y e ∧ (goodE d e = false → Err CW "found" y H E) ∧ (goodE d e = true → (∀ z, e = .str z → 39 ∉ cd z) ∧ ∀ (v : Str) (H' : Hp), Same H H' → Q (.str v) H'))
def spShowsE (CL CB CT : Addr) : Sp := fun vs H Q E => ∃ (B B2 : Addr → Prop) (x y : V) (d e : PyData), vs = [x, y] ∧ De B H x d ∧ De B2 H y e ∧ SeqAt.shaped (.list (itemsE e)) = true ∧ CutO CL CB CT H E x d (∀ (v : Bool) (H' : Hp), Same H H' → Q (.bl v) H')
def spAlikeE (CL CB CT : Addr) : Sp := fun vs H Q E => ∃ (B B2 : Addr → Prop) (x y : V) (d e : PyData), vs = [x, y] ∧ De B H x d ∧ De B2 H y e ∧ CutO CL CB CT H E x d (CutO CL CB CT H E y e (∀ (v : Bool) (H' : Hp), Same H H' → Q (.bl v) H'))
theorem shaped_items {d : PyData} {ds : List PyData} (h : SeqAt.shaped (.list ds) = true) : PyData.canLayAll0 ds = true := SeqAt.canLay_of_shaped h
end J

/-! what is told of a line refused; promises of the law's own looks at refused lines -/
namespace J
open PySem PySem.Spec PyProof.Rows L2 M
/-- what comes of a door: refused with a thing found (the first or the second), of a sign, of too many; or told -/
inductive R where
  | found (k : Nat) (b : Bool)
  | sign (n : Nat)
  | many (n : Nat)
  | told
deriving DecidableEq
def knd : Nat → Str
  | 0 => "line"
  | 1 => "list"
  | 2 => "state"
  | _ => "word"
def outs : R → V → V → List V
  | .found k b, x, y => [.str (knd k), bif b then y else x]
  | .sign n, _, _ => [.str "sign", .int (n : Nat)]
  | .many n, _, _ => [.str "many", .int (n : Nat)]
  | .told, _, _ => [.str "told", .non]
def outE : R → PyData → PyData → PyData
  | .found k b, d, e => .list [.str (knd k), bif b then e else d]
  | .sign n, _, _ => .list [.str "sign", .int (n : Nat)]
  | .many n, _, _ => .list [.str "many", .int (n : Nat)]
  | .told, _, _ => .list [.str "told", .none]
def zOf : PyData → Str
  | .str z => z
  | _ => ""
def cutQ : Except Nat (List (List Nat)) → R
  | .error e => .sign e
  | .ok ws => if 40 < ws.length then .many ws.length else .told
def cutRes (d : PyData) : R := bif lineE d then cutQ (cutR stP (cd (zOf d))) else .found 0 false
def stRes (d : PyData) : R := bif lineE d then (match stR stP (cd (zOf d)) with
  | .error e => .sign e
  | .ok t => if 40 < cnt t then .many (cnt t) else .told) else .found 0 false
def sndR : R → R
  | .found k _ => .found k true
  | r => r
def bth : R → R → R
  | .told, r => sndR r
  | r, _ => r
def behRes (d e : PyData) : R := bif stE d then (bif goodE d e then .told else .found 3 true) else .found 2 false
def res : Nat → PyData → PyData → R
  | 0, d, _ => cutRes d
  | 1, d, _ => stRes d
  | 2, d, _ => bif wdD d then .told else .found 3 false
  | 3, d, _ => bif wordsE d then .told else .found 1 false
  | 4, d, e => behRes d e
  | 5, d, _ => cutRes d
  | _, d, e => bth (cutRes d) (cutRes e)
/-- what the law says is due of a line -/
def lineDue : PyData → R
  | .str z => if 9 ∈ cd z then .found 0 false else if 40 < z.length then .sign 40 else .told
  | _ => .found 0 false
def dueR : Nat → PyData → PyData → R
  | 0, d, _ => lineDue d
  | 1, d, _ => lineDue d
  | 2, d, _ => bif wdD d then .told else .found 3 false
  | 3, d, _ => bif wordsE d then .told else .found 1 false
  | 4, _, _ => .found 2 false
  | 5, d, _ => lineDue d
  | _, d, e => bth (lineDue d) (lineDue e)
def kC (CL CI CS CW : Addr) : Nat → Addr
  | 0 => CL
  | 1 => CI
  | 2 => CS
  | _ => CW
def refd (CL CI CS CW CB CT : Addr) : R → V → V → Hp → XK → Prop → Prop
  | .found k b, x, y, H, E, _ => Err (kC CL CI CS CW k) "found" (bif b then y else x) H E
  | .sign n, _, _, H, E, _ => Err CB "at" (.int (n : Nat)) H E
  | .many n, _, _, H, E, _ => Err CT "many" (.int (n : Nat)) H E
  | .told, _, _, _, _, T => T
/-- which doors look at the second thing -/
def needs : Nat → PyData → Bool
  | 4, d => stE d
  | 5, _ => true
  | 6, _ => true
  | _, _ => false
def okIn (k : Nat) (d e : PyData) : Prop := k ≤ 6 ∧ flatE (thirdE d) = true ∧ (k = 5 → SeqAt.shaped (.list (itemsE e)) = true) ∧ (k = 4 → stE d = true → goodE d e = true → 39 ∉ cd (zOf e))
instance {k : Nat} {d e : PyData} : Decidable (okIn k d e) := by unfold okIn; infer_instance
def spAskedE (CL CI CS CW CB CT : Addr) : Sp := fun vs H Q E => ∃ (B B2 : Addr → Prop) (x y : V) (d e : PyData) (k : Nat), vs = [.int (k : Nat), x, y] ∧ okIn k d e ∧ De B H x d ∧ (needs k d = true → De B2 H y e) ∧
  refd CL CI CS CW CB CT (res k d e) x y H E (∀ (v : V) (H' : Hp), Same H H' → Q v H')
def spToldE : Sp := fun vs H Q _ => ∃ (B B2 : Addr → Prop) (x y : V) (d e : PyData) (k : Nat), vs = [.int (k : Nat), x, y] ∧ okIn k d e ∧ De B H x d ∧ (needs k d = true → De B2 H y e) ∧
  ∀ (l : Addr) (H' : Hp), H l = none → Same H H' → H' l = some (.lst (outs (res k d e) x y)) → Q (.ref l) H'
/-- with one thing more, if it is a list -/
def grown : PyData → PyData
  | .list ds => .list (ds ++ [.str "more"])
  | d => d
/-- a list of at most n things, or no list -/
inductive Top (n : Nat) (H : Hp) : V → Prop where
  | non : Top n H .non
  | bl (v : Bool) : Top n H (.bl v)
  | int (i : Int) : Top n H (.int i)
  | str (z : Str) : Top n H (.str z)
  | lst {a : Addr} {xs : List V} (h : H a = some (.lst xs)) (l : xs.length ≤ n) : Top n H (.ref a)
  | tup {a : Addr} {xs : List V} (h : H a = some (.tup xs)) : Top n H (.ref a)
  | dct {a : Addr} {kvs : List (Key × V)} (h : H a = some (.dK kvs)) : Top n H (.ref a)
/-- all but the lists x and y as it was -/
def Grow (x y : V) (H H' : Hp) : Prop := ∀ p o, H p = some o → (∀ xs, o = .lst xs → x ≠ .ref p ∧ y ≠ .ref p) → H' p = some o
def smallR : R → Bool
  | .sign n => decide (n ≤ 1000000000)
  | .many n => decide (n ≤ 1000000000)
  | _ => true
/-- how big it may be -/
def Light (d : PyData) : Prop := we d ≤ 100000 ∧ d.depth ≤ 40
instance {d : PyData} : Decidable (Light d) := by unfold Light; infer_instance
def spRightE (K : PySem.W.Frag) : Sp := fun vs H Q _ => ∃ (x y : V) (d e : PyData) (k n : Nat) (l : Addr), vs = [.int (k : Nat), x, y, .ref l] ∧ okIn k d e ∧ smallR (res k d e) = true ∧ Light d ∧ Light e ∧ x ≠ .ref l ∧ y ≠ .ref l ∧ n ≤ 100 ∧
  De (fun p => y = .ref p) H x d ∧ (needs k d = true → De (fun p => x = .ref p) H y e) ∧ Top n H x ∧ Top n H y ∧ H l = some (.lst (outs (res k d e) x y)) ∧
  ∀ H', Grow x y H H' → Top (n + 2) H' x → Top (n + 2) H' y → De (fun p => y = .ref p) H' x (grown d) → Q (.bl true) H'
def spLawWord : Sp := fun vs H Q _ => ∃ (B : Addr → Prop) (x : V) (d : PyData), vs = [x] ∧ De B H x d ∧ ∀ H', Same H H' → Q (.bl (wdD d)) H'
def spLawList : Sp := fun vs H Q _ => ∃ (B : Addr → Prop) (x : V) (d : PyData), vs = [x] ∧ De B H x d ∧ ∀ H', Same H H' → Q (.bl (wordsE d)) H'
def spLineDue : Sp := fun vs H Q _ => ∃ (B : Addr → Prop) (x : V) (d : PyData), vs = [x] ∧ De B H x d ∧ ∀ (l : Addr) (H' : Hp), H l = none → Same H H' → H' l = some (.lst (outs (lineDue d) x x)) → Q (.ref l) H'
def spDueE : Sp := fun vs H Q _ => ∃ (B B2 : Addr → Prop) (x y : V) (d e : PyData) (k : Nat), vs = [.int (k : Nat), x, y] ∧ k ≤ 6 ∧ De B H x d ∧ (k = 6 → De B2 H y e) ∧
  ∀ (l : Addr) (H' : Hp), H l = none → Same H H' → H' l = some (.lst (outs (dueR k d e) x y)) → Q (.ref l) H'
def rep (n : Nat) (z : Str) : List PyData := List.replicate n (.str z)
def mulT (n : Nat) (c : Nat) : Str := S (List.replicate n c)
/-- the things that the law hands in -/
def odds : List PyData := [.none, .bool true, .int 0, .int 7, .int (-10 ^ 29), .list [], .list [.str "a"], .tuple [.str "a", .str "b"], .tuple [], .dict [], .dict [(.str "a", .int 1)], .list [.int 7], .list [.none, .str "a"], .tuple (rep 41 "a"),
  .list (rep 41 "b"), .list [.str "a", .str (mulT 41 99)], .str (mulT 41 100), .str (mulT 40 101), .str "", .str "f", .list [.list [.str "a"]], .list (rep 40 "g"), .str "a\tb", .str "\t", .list [.str "a\tb"], .str "a\nb", .list [.str "c\nd"], .tuple [.str "e", .str "\n"], .str "\n"]
def spOddE : Sp := fun vs H Q _ => ∃ (b : Addr) (n : Nat), vs = [.ref b] ∧ Bx H b n ∧ n ≤ 800000000 ∧ ∀ (x : V) (d : PyData) (H' : Hp), d ∈ odds → De (fun p => H p ≠ none) H' x d → Keep b H H' → Bx H' b (n + 1) → Q x H'
theorem odds_same : ∀ d ∈ odds, cutRes d = lineDue d ∧ stRes d = lineDue d ∧ stE d = false ∧ flatE (thirdE d) = true ∧ SeqAt.shaped (.list (itemsE d)) = true ∧ (itemsE d).length ≤ 41 ∧ we d ≤ 1000 ∧ d.depth ≤ 4 := by decide +kernel
theorem odds_res {d e : PyData} (hd : d ∈ odds) (he : e ∈ odds) (k : Nat) : res k d e = dueR k d e := by
  obtain ⟨a1, a2, a3, _⟩ := odds_same d hd
  obtain ⟨b1, b2, b3, _⟩ := odds_same e he
  match k with
  | 0 => exact a1
  | 1 => exact a2
  | 2 => rfl
  | 3 => rfl
  | 4 => show behRes d e = _; unfold behRes; rw [a3]; rfl
  | 5 => exact a1
  | k + 6 => show bth (cutRes d) (cutRes e) = bth (lineDue d) (lineDue e); rw [a1, b1]
theorem odds_res4 {d e : PyData} (hd : d ∈ odds) : res 4 d e = dueR 4 d e := by
  obtain ⟨a1, a2, a3, _⟩ := odds_same d hd
  show behRes d e = _; unfold behRes; rw [a3]; rfl
mutual
/-- what a thing is, is told by the heap -/
theorem De.det {B B' : Addr → Prop} {H : Hp} : ∀ {x : V} {d d' : PyData}, De B H x d → De B' H x d' → d = d'
  | _, _, _, .non, h => by cases h; rfl
  | _, _, _, .bl v, h => by cases h; rfl
  | _, _, _, .int i h, h' => by cases h'; rfl
  | _, _, _, .str z h c, h' => by cases h'; rfl
  | _, _, _, .lst h n t, h' => by
    cases h' with
    | lst g _ u => cases h.symm.trans g; exact congrArg PyData.list (DeAll.det t u)
    | tup g _ u => cases h.symm.trans g
    | dct g _ => cases h.symm.trans g
    | one g _ => cases h.symm.trans g
  | _, _, _, .tup h n t, h' => by
    cases h' with
    | lst g _ u => cases h.symm.trans g
    | tup g _ u => cases h.symm.trans g; exact congrArg PyData.tuple (DeAll.det t u)
    | dct g _ => cases h.symm.trans g
    | one g _ => cases h.symm.trans g
  | _, _, _, .dct h n, h' => by
    cases h' with
    | lst g _ u => cases h.symm.trans g
    | tup g _ u => cases h.symm.trans g
    | dct g _ => rfl
    | one g _ => cases h.symm.trans g
  | _, _, _, .one h n, h' => by
    cases h' with
    | lst g _ u => cases h.symm.trans g
    | tup g _ u => cases h.symm.trans g
    | dct g _ => cases h.symm.trans g
    | one g _ => rfl
theorem DeAll.det {B B' : Addr → Prop} {H : Hp} : ∀ {xs : List V} {ds ds' : List PyData}, DeAll B H xs ds → DeAll B' H xs ds' → ds = ds'
  | _, _, _, .nil, h => by cases h; rfl
  | _, _, _, .cons h t, h' => by
    cases h' with
    | cons g u => rw [De.det h g, DeAll.det t u]
end
mutual
/-- what stands in it is smaller, so it is not it -/
theorem De.less {B : Addr → Prop} {H : Hp} {a : Addr} {m : Nat} (s : ∀ d', De B H (.ref a) d' → m ≤ sizeOf d') : ∀ {x : V} {d : PyData}, De B H x d → sizeOf d < m → De (fun p => B p ∨ p = a) H x d
  | _, _, .non, _ => .non
  | _, _, .bl v, _ => .bl v
  | _, _, .int i h, _ => .int i h
  | _, _, .str z h c, _ => .str z h c
  | _, _, .lst (a := b) h n t, l => .lst h (fun q => q.elim n fun e => by subst e; exact absurd (s _ (.lst h n t)) (Nat.not_le_of_lt l)) (DeAll.less s t (by simp only [PyData.list.sizeOf_spec] at l; omega))
  | _, _, .tup (a := b) h n t, l => .tup h (fun q => q.elim n fun e => by subst e; exact absurd (s _ (.tup h n t)) (Nat.not_le_of_lt l)) (DeAll.less s t (by simp only [PyData.tuple.sizeOf_spec] at l; omega))
  | _, _, .dct (a := b) h n, l => .dct h (fun q => q.elim n fun e => by subst e; exact absurd (s _ (.dct h n)) (Nat.not_le_of_lt l))
  | _, _, .one (a := b) h n, l => .one h (fun q => q.elim n fun e => by subst e; exact absurd (s _ (.one h n)) (Nat.not_le_of_lt l))
theorem DeAll.less {B : Addr → Prop} {H : Hp} {a : Addr} {m : Nat} (s : ∀ d', De B H (.ref a) d' → m ≤ sizeOf d') : ∀ {xs : List V} {ds : List PyData}, DeAll B H xs ds → sizeOf ds < m → DeAll (fun p => B p ∨ p = a) H xs ds
  | _, _, .nil, _ => .nil
  | _, _, .cons h t, l => .cons (De.less s h (by simp only [List.cons.sizeOf_spec] at l; omega)) (DeAll.less s t (by simp only [List.cons.sizeOf_spec] at l; omega))
end
/-- a list's things are not it -/
theorem De.inner {B : Addr → Prop} {H : Hp} {a : Addr} {xs : List V} {ds : List PyData} (h : H a = some (.lst xs)) (n : ¬ B a) (t : DeAll B H xs ds) : DeAll (fun p => B p ∨ p = a) H xs ds :=
  DeAll.less (m := sizeOf (PyData.list ds)) (fun d' q => by rw [De.det q (.lst h n t)]; exact Nat.le_refl _) t (by simp only [PyData.list.sizeOf_spec]; omega)
end J

/-! a try whose first clause names four classes -/
namespace J
open PySem PySem.Spec PyProof.Rows L2  -- own
def wT (K : PySem.W.Frag) (D : Ends) (cs : List Value) (i : Nat) (ts : Addr → Value → Option Addr → TS) (l : List Clause) : WX :=
  fun cls d σ H => ∃ b, PySem.W.exmAny K cls cs = some b ∧ (b = true → ∀ a, H a = none → ts a cls d (unset D i) (σ.set i (some (.ref a))) H) ∧ (b = false → wN K D l cls d σ H)
theorem flyZ_keeps {B h h' : Heap} {l : List Env} {e : Addr} {Z : Obj → Prop} (R : HandSPX.FlyingZ B l e Z h) (k : ∀ b o, h.get? b = some o → h'.get? b = some o) : HandSPX.FlyingZ B l e Z h' := by
  obtain ⟨f1, f2, f3, oe, vs, T, oT, us, he, hz, hd, h1, hnT, hTe, hT, hdT, h3⟩ := R
  exact ⟨fun b o q => k b o (f1 b o q), f2, f3.of_keeps fun b o q _ => ⟨o, k b o q, rfl⟩, oe, vs, T, oT, us, k _ _ he, hz, hd, h1, hnT, hTe, k _ _ hT, hdT, h3⟩
theorem ps_tryT {X : Cx} {body : List Stmt} {hds : List ExceptHandler} {l : List Clause} {pos : Pos} {tb : WX → TS}
    {n x1 x2 x3 x4 : Str} {c1 c2 c3 c4 : Value} {i : Nat} {ts : Addr → Value → Option Addr → TS} {b₀ : Stmt} {bs : List Stmt} {p1 p2 p3 p4 p5 p6 : Pos} {kk : Nat} (hs : X.stack = X.env :: X.outer) (hf : X.env.frame = some X.env.locals) (hN : X.N.Nodup)
    (hb : ∀ (W : WX) (pn : List (Addr × Obj)) (xe : Value → Shared → Prop), Takes (X.tr pn xe) W → PassesOwn (model X.prog X.w) X.A X.env xe → PSs (X.tr pn xe) body (tb W)) (hi : X.N[i]? = some n) (hl : X.env.kindOf n = some .local) (q1 : Names X x1 c1) (q2 : Names X x2 c2) (q3 : Names X x3 c3) (q4 : Names X x4 c4)
    (su : ∀ (a : Addr) (o : Obj) (cls : Value) (d : Option Addr) (pn : List (Addr × Obj)), Zc cls d o → (∃ vs, o.data = .fields vs) → PSs (X.suite a ((a, o) :: pn)) (b₀ :: bs) (ts a cls d)) (hh : HN X hds l) :
    PS X (.Try body ((.ExceptHandler (some (.Tuple [.Name x1 p1, .Name x2 p2, .Name x3 p3, .Name x4 p4] kk p5)) (some n) (b₀ :: bs) p6) :: hds) [] [] pos) (fun D σ H => tb (wT X.K D [c1, c2, c3, c4] i ts l) D σ H) := by
  constructor
  intro pins s σ H D I q0
  have fs0 : X.A.frames = some (X.env :: X.outer) := I.ok.frames.trans (congrArg some hs)
  apply wpAny_Try_except
  let catch_ : Value → Shared → Prop := fun e t => wpAny (model X.prog X.w) X.A (noteFrame e X.env) (fun _ t2 => wpAny (model X.prog X.w) X.A (setFlight e none) (fun _ t3 => wpAny (model X.prog X.w) X.A (handleBy e X.env ((.ExceptHandler (some (.Tuple [.Name x1 p1, .Name x2 p2, .Name x3 p3, .Name x4 p4] kk p5)) (some n) (b₀ :: bs) p6) :: hds)) (SP X pins D) X.xe t3) X.xe t2) X.xe t
  have caught : Takes (X.tr (X.pn ++ pins) catch_) (wT X.K D [c1, c2, c3, c4] i ts l) := by
    rintro u t ⟨e, B, sI, pins2, σ2, H2, cls, d, rfl, J2, nb, up, sky, ne, os, ag, w⟩
    have J := J2.ofTry I.ok
    refine Sky.land Zc.steady fs0 hf (hs ▸ sky : Sky B (X.env :: X.outer) e (Zc cls d) X.env.locals t.heap) fun h3 f3 up3 => ?_
    have go : ∀ {hs' : List ExceptHandler} {l' : List Clause}, HN X hs' l' → ∀ h3, (HandSPX.FlyingZ B (X.env :: X.outer) e (Zc cls d)) h3 → t.heap.UpToSlots h3 → wN X.K D l' cls d σ2 H2 → wpAny (model X.prog X.w) X.A (handleBy (.ref e) X.env hs') (SP X pins D) X.xe { t with heap := h3 } := by
      intro hs' l' k
      induction k with
      | any rest => exact fun _ _ _ => False.elim
      | @cons x n c i ts b₀ bs p1 p2 hds2 l2 hi hl hc su r ih =>
        intro h3 f3 up3
        obtain ⟨o3, v3, e3, z3, d3⟩ := f3.there
        have away : e ∉ frs (X.env :: X.outer) := fun hm => by
          obtain ⟨_, o', g, nf⟩ := f3.2.2.1.mem hm
          cases e3.symm.trans g
          exact nf _ d3
        have away1 : e ≠ X.env.locals := fun z => away (List.mem_filterMap.mpr ⟨X.env, List.mem_cons_self, hf.trans (congrArg some z.symm)⟩)
        have away2 : e ∉ X.fs := fun hm => let ⟨g, g1, g2⟩ := List.mem_filterMap.mp hm; away (List.mem_filterMap.mpr ⟨g, List.mem_cons_of_mem _ g1, g2⟩)
        have J3 : Inv X pins σ2 H2 { t with heap := h3 } := J.landed nb f3.1 (up.trans up3) os ag
        have S3 := J3.suite e3 d3 ne away1 away2
        rintro ⟨b, m, yes, no⟩
        refine wpAny_handleBy_cons (codeAny_handlers_test ?_) (fun z => nomatch z)
        have lk := PySem.W.exm_one (M := model X.prog X.w) J3.kIn (fun A Q E s' k' q' => wpAny_typeOf_ref (k' _ _ e3) (z3.1.symm ▸ q')) m
        have name : ∀ {Q E : Value → Shared → Prop}, Q c { t with heap := h3 } → wpAny (model X.prog X.w) (X.A.mark (some (.ref e))) (eval (.Name x p1) X.env) Q E { t with heap := h3 } := fun {Q E} q' => by
          obtain ⟨g1, g2, g3⟩ := hc
          rcases g3 with g3 | ⟨g3, g4, g5⟩
          · exact ld_glob (X := X.suite e ((e, o3) :: (X.pn ++ pins))) S3 g1 g3 q' g2
          · exact ld_blt (X := X.suite e ((e, o3) :: (X.pn ++ pins))) S3 g1 g3 g4 q' g5 g2
        refine name (lk.here ?_)
        cases b
        · exact ih h3 f3 up3 (no rfl)
        · refine codeAny_handlers_suite_as (HandSPX.lands_againZ f3 fun h4 f4 up4 => ?_)
          obtain ⟨o4, v4, e4, z4, d4⟩ := f4.there
          have J4 : Inv X pins σ2 H2 { t with heap := h4 } := J.landed nb f4.1 ((up.trans up3).trans up4) os ag
          refine store_ok (X := X.suite e ((e, o4) :: (X.pn ++ pins))) (v := .ref e) (J4.suite e4 d4 ne away1 away2) hN hi (.inl hl) rfl (fun s5 S5 => ?_) (.inr hl)
          refine wpAny_mono ((su e o4 cls d (X.pn ++ pins) z4 ⟨_, d4⟩).run [] s5 _ H2 _ S5 (yes rfl e ne)) (fun f s6 r6 => ?_) (fun _ _ z => False.elim z)
          have last : ∀ {τ : L2.St} {G : Hp} {Q : Shared → Prop}, Inv (X.suite e ((e, o4) :: (X.pn ++ pins))) [] τ G s6 → (∀ s7, Inv X pins (τ.set i none) G s7 → Q s7) → wpAny (model X.prog X.w) X.A (do bindName X.env n .none; unbindBehindTheSuite X.env n p2) (fun _ s7 => Q s7) X.xe s6 := fun {τ G Q} S6 hq => gone_ok (Q := fun _ s7 => Q s7) (S6.unsuite I.ok) hN hi hl hq
          cases f with
          | ret u => exact let ⟨_, _, _, S6, rv, q6⟩ := r6; last S6 fun s7 J7 => ⟨_, _, _, J7, rv, q6⟩
          | next => exact let ⟨_, _, S6, q6⟩ := r6; last S6 fun s7 J7 => ⟨_, _, J7, q6⟩
          | brk => exact let ⟨_, _, S6, q6⟩ := r6; last S6 fun s7 J7 => ⟨_, _, J7, q6⟩
          | cont => exact let ⟨_, _, S6, q6⟩ := r6; last S6 fun s7 J7 => ⟨_, _, J7, q6⟩
    -- the first clause
    obtain ⟨o3, v3, e3, z3, d3⟩ := f3.there
    have away : e ∉ frs (X.env :: X.outer) := fun hm => by
      obtain ⟨_, o', g, nf⟩ := f3.2.2.1.mem hm
      cases e3.symm.trans g
      exact nf _ d3
    have away1 : e ≠ X.env.locals := fun z => away (List.mem_filterMap.mpr ⟨X.env, List.mem_cons_self, hf.trans (congrArg some z.symm)⟩)
    have away2 : e ∉ X.fs := fun hm => let ⟨g, g1, g2⟩ := List.mem_filterMap.mp hm; away (List.mem_filterMap.mpr ⟨g, List.mem_cons_of_mem _ g1, g2⟩)
    have J3 : Inv X pins σ2 H2 { t with heap := h3 } := J.landed nb f3.1 (up.trans up3) os ag
    have S3 := J3.suite e3 d3 ne away1 away2
    obtain ⟨b, m, yes, no⟩ := w
    refine wpAny_handleBy_cons (codeAny_handlers_test ?_) (fun z => nomatch z)
    have name : ∀ {x : Str} {c : Value} {p : Pos} {Q E : Value → Shared → Prop}, Names X x c → Q c { t with heap := h3 } → wpAny (model X.prog X.w) (X.A.mark (some (.ref e))) (eval (.Name x p) X.env) Q E { t with heap := h3 } := fun {x c p Q E} hc q' => by
      obtain ⟨g1, g2, g3⟩ := hc
      rcases g3 with g3 | ⟨g3, g4, g5⟩
      · exact ld_glob (X := X.suite e ((e, o3) :: (X.pn ++ pins))) S3 g1 g3 q' g2
      · exact ld_blt (X := X.suite e ((e, o3) :: (X.pn ++ pins))) S3 g1 g3 g4 q' g5 g2
    refine wpAny_Tuple ?_
    refine wpAny_items_cons (name q1 ?_)
    refine wpAny_items_cons (name q2 ?_)
    refine wpAny_items_cons (name q3 ?_)
    refine wpAny_items_cons (name q4 ?_)
    refine wpAny_items_nil ⟨by size_fits, ?_⟩  -- own
    have kp : ∀ q o, h3.get? q = some o → (h3.push { cls := .type "tuple", data := .seq [c1, c2, c3, c4].toArray }).get? q = some o := fun _ _ z => Heap.get?_push_of_some _ z
    have f3 := flyZ_keeps f3 kp
    have up3 := up3.trans (Heap.UpToSlots.of_keeps kp)
    have lk := PySem.W.exm_tup4 (M := model X.prog X.w) (J3.kept (t' := t.toks) kp).kIn (fun A Q E s' k' q' => wpAny_typeOf_ref (k' _ _ (kp _ _ e3)) (z3.1.symm ▸ q')) (Heap.get?_push_size h3 rfl) m
    refine lk.here ?_
    cases b
    · exact go hh _ f3 up3 (no rfl)
    · refine codeAny_handlers_suite_as (HandSPX.lands_againZ f3 fun h4 f4 up4 => ?_)
      obtain ⟨o4, v4, e4, z4, d4⟩ := f4.there
      have J4 : Inv X pins σ2 H2 { t with heap := h4 } := J.landed nb f4.1 ((up.trans up3).trans up4) os ag
      refine store_ok (X := X.suite e ((e, o4) :: (X.pn ++ pins))) (v := .ref e) (J4.suite e4 d4 ne away1 away2) hN hi (.inl hl) rfl (fun s5 S5 => ?_) (.inr hl)
      refine wpAny_mono ((su e o4 cls d (X.pn ++ pins) z4 ⟨_, d4⟩).run [] s5 _ H2 _ S5 (yes rfl e ne)) (fun f s6 r6 => ?_) (fun _ _ z => False.elim z)
      have last : ∀ {τ : L2.St} {G : Hp} {Q : Shared → Prop}, Inv (X.suite e ((e, o4) :: (X.pn ++ pins))) [] τ G s6 → (∀ s7, Inv X pins (τ.set i none) G s7 → Q s7) → wpAny (model X.prog X.w) X.A (do bindName X.env n .none; unbindBehindTheSuite X.env n p6) (fun _ s7 => Q s7) X.xe s6 := fun {τ G Q} S6 hq => gone_ok (Q := fun _ s7 => Q s7) (S6.unsuite I.ok) hN hi hl hq
      cases f with
      | ret u => exact let ⟨_, _, _, S6, rv, q6⟩ := r6; last S6 fun s7 J7 => ⟨_, _, _, J7, rv, q6⟩
      | next => exact let ⟨_, _, S6, q6⟩ := r6; last S6 fun s7 J7 => ⟨_, _, J7, q6⟩
      | brk => exact let ⟨_, _, S6, q6⟩ := r6; last S6 fun s7 J7 => ⟨_, _, J7, q6⟩
      | cont => exact let ⟨_, _, S6, q6⟩ := r6; last S6 fun s7 J7 => ⟨_, _, J7, q6⟩
  refine wpAny_mono ((hb (wT X.K D [c1, c2, c3, c4] i ts l) (X.pn ++ pins) catch_ caught PassesOwn.looking).run [] s σ H D (I.toTry _) q0) (fun f s1 r1 => ?_) (fun _ _ z => z)
  cases f with
  | ret u => exact let ⟨_, _, _, J1, rv, q1⟩ := r1; ⟨_, _, _, J1.ofTry I.ok, rv, q1⟩
  | next => exact let ⟨_, _, J1, q1⟩ := r1; wpAny_execs_nil ⟨_, _, J1.ofTry I.ok, q1⟩
  | brk => exact let ⟨_, _, J1, q1⟩ := r1; ⟨_, _, J1.ofTry I.ok, q1⟩
  | cont => exact let ⟨_, _, J1, q1⟩ := r1; ⟨_, _, J1.ofTry I.ok, q1⟩
end J

/-! a caught error of one of several classes: isinstance of it, a field of it -/
namespace J
open PySem PySem.Spec PyProof.Rows L2  -- own
/-- isinstance(e, c), e the caught error, of class cls, with the dict d -/
def rIsC (K : PySem.W.Frag) (a : Addr) (cls : Value) (d : Option Addr) : List V → Hp → VK → Prop := fun xs H Q => ∃ (c : V) (cv : Value) (b : Bool) (C dd : Addr) (fs : List (Str × V)), xs = [.ref a, c] ∧ (∀ u, RelV c u → u = cv) ∧ cls = .ref C ∧ d = some dd ∧ H dd = some (.xd fs) ∧ ExcC K C ∧ PySem.W.kitOne K (.ref C) cv = some b ∧ Q (.bl b) H
theorem call_isC {X : Cx} {a : Addr} {cls : Value} {d : Option Addr} {oe : Obj} {pn : List (Addr × Obj)} (hz : Zc cls d oe) (hf : ∃ vs, oe.data = .fields vs) : CallR (X.suite a ((a, oe) :: pn)) (.builtin "isinstance") (rIsC X.K a cls d) := fun pins s σ H xs us Q I r h => by
  obtain ⟨c, cv, b, C, dd, fs, rfl, hcv, rfl, rfl, hx, T, e, q⟩ := h
  obtain - | ⟨rx, - | ⟨rt, - | _⟩⟩ := r
  cases (show _ = Value.ref a from rx)
  cases hcv _ rt
  obtain ⟨ha, _⟩ := I.pin (a, oe) (List.mem_append_left _ List.mem_cons_self)
  obtain ⟨vs, hd⟩ := hf
  obtain ⟨mA, hns, hr⟩ := (show ObjOk X.prog X.w H s.heap dd (.xd fs) from I.hok dd _ hx)
  obtain ⟨od, ho, hl⟩ := lookIn_ns hns  -- own
  have J : PySem.W.InstAt s.heap a oe C (some od) := ⟨ha, hz.1, by unfold PySem.W.notCls; rw [hd], by rw [hz.2]; exact ho⟩
  obtain ⟨cd, hc, _⟩ := PySem.W.any_some T.hd
  have hcl : (PySem.W.clsIn X.K C).isSome = true := by rw [hc]; rfl
  exact PySem.W.kia_one (PySem.W.kitx_exc hcl T.hg T.hk T.hs T.ha T.hn T.ht T.hm) I.kIn J e (fun z => nomatch z) fun tk => ⟨.bl b, H, I.kept (t' := tk) fun _ _ z => z, rfl, q⟩
/-- e.n, e the caught error of one of several classes -/
def tXg (K : PySem.W.Frag) (a : Addr) (cls : Value) (d : Option Addr) (n : Str) (te : TE) : TE := fun σ H Q => ∃ C, cls = .ref C ∧ XfC K C ∧ PySem.W.findIn K (.ref C) n = some none ∧ tXf a cls d C n te σ H Q
theorem pe_xg {X : Cx} {a : Addr} {oe : Obj} {cls : Value} {d : Option Addr} {pn : List (Addr × Obj)} {e : Expr} {te : TE} {pos : Pos} {n : Str} (hz : Zc cls d oe) (hf : ∃ vs, oe.data = .fields vs)
    (he : PE (X.suite a ((a, oe) :: pn)) e te) (hb : attributeBase e n X.env (eval e X.env) = eval e X.env := by rfl) : PE (X.suite a ((a, oe) :: pn)) (.Attribute e n pos) (tXg X.K a cls d n te) :=
  ⟨fun pins s σ H Q I h => by
    obtain ⟨C, rfl, T, hno, h⟩ := h
    exact (pe_xf T hno hz hf he hb).run pins s σ H Q I h⟩
end J

/-! things that grow -/
namespace J
open PySem PySem.Spec PyProof.Rows L2 M
section
variable {K : PySem.W.Frag} {H H' : Hp} {x y : V} {d e : PyData} {B : Addr → Prop} {n : Nat} {Q : VK}
theorem De.top (h : De B H x d) (l : (itemsE d).length ≤ n) : Top n H x := by
  cases h with
  | non => exact .non
  | bl v => exact .bl v
  | int i h => exact .int i
  | str z h c => exact .str z
  | lst h _ t => exact .lst h (by rw [t.len]; exact l)
  | tup h _ _ => exact .tup h
  | dct h _ => exact .dct h
  | one h _ => exact .dct h
theorem Top.mono {m : Nat} (h : Top n H x) (l : n ≤ m) : Top m H x := by
  cases h with
  | non => exact .non
  | bl v => exact .bl v
  | int i => exact .int i
  | str z => exact .str z
  | lst h k => exact .lst h (Nat.le_trans k l)
  | tup h => exact .tup h
  | dct h => exact .dct h
theorem Top.keep (h : Top n H x) (s : ∀ p o, x = .ref p → H p = some o → H' p = some o) : Top n H' x := by
  cases h with
  | non => exact .non
  | bl v => exact .bl v
  | int i => exact .int i
  | str z => exact .str z
  | lst h k => exact .lst (s _ _ rfl h) k
  | tup h => exact .tup (s _ _ rfl h)
  | dct h => exact .dct (s _ _ rfl h)
/-- whether it is a list -/
theorem Top.isL (h : Top n H x) (yes : ∀ a xs, x = .ref a → H a = some (.lst xs) → xs.length ≤ n → Q (.bl true) H) (no : (∀ a xs, x = .ref a → H a ≠ some (.lst xs)) → Q (.bl false) H) : rIsi K [x, .ty "list"] H Q := by
  cases h with
  | non => exact r_isiB (.base .non) (show kitB "NoneType" "list" = some false by decide +kernel) (no fun _ _ e => nomatch e)
  | bl v => exact r_isiB (.base (.bl v)) (show kitB "bool" "list" = some false by decide +kernel) (no fun _ _ e => nomatch e)
  | int i => exact r_isiB (.base (.int i)) (show kitB "int" "list" = some false by decide +kernel) (no fun _ _ e => nomatch e)
  | str z => exact r_isiB (.base (.str z)) (show kitB "str" "list" = some false by decide +kernel) (no fun _ _ e => nomatch e)
  | lst h k => exact r_isiB (.base (.lst h)) (show kitB "list" "list" = some true by decide +kernel) (yes _ _ rfl h k)
  | tup h => exact r_isiB (.base (.tup h)) (show kitB "tuple" "list" = some false by decide +kernel) (no fun a xs e q => by cases e; cases h.symm.trans q)
  | dct h => exact r_isiB (.base (.dK h)) (show kitB "dict" "list" = some false by decide +kernel) (no fun a xs e q => by cases e; cases h.symm.trans q)
theorem DeAll.app : ∀ {xs ys : List V} {ds es : List PyData}, DeAll B H xs ds → DeAll B H ys es → DeAll B H (xs ++ ys) (ds ++ es)
  | _, _, _, _, .nil, u => u
  | _, _, _, _, .cons h t, u => .cons h (t.app u)
theorem De.grow {a : Addr} {xs : List V} (h : De B H (.ref a) d) (q : H a = some (.lst xs)) : De B (upd H a (.lst (xs ++ [.str "more"]))) (.ref a) (grown d) := by
  cases h with
  | lst g m t =>
    cases q.symm.trans g
    refine .lst upd_same m (DeAll.app ?_ (.cons (.str _ (by decide +kernel) (by decide +kernel)) .nil))
    refine DeAll.apart (B := fun p => B p ∨ p = a) (fun p np _ bp => np (.inl bp)) (DeAll.keep (fun p o np hp => ?_) (De.inner g m t))
    rw [upd_ne (fun e => np (.inr e))]
    exact hp
  | tup g m t => cases q.symm.trans g
  | dct g m => cases q.symm.trans g
  | one g m => cases q.symm.trans g
theorem De.still (h : De B H x d) (no : ∀ a xs, x = .ref a → H a ≠ some (.lst xs)) : grown d = d := by
  cases h with
  | lst g m t => exact absurd g (no _ _ rfl)
  | _ => rfl
theorem dep_app (z : Str) : ∀ ds : List PyData, PyData.depthAll (ds ++ [.str z]) ≤ PyData.depthAll ds
  | [] => Nat.le_refl _
  | d :: ds => by
    have := dep_app z ds
    rw [List.cons_append, PyData.depthAll, PyData.depthAll]
    omega
theorem we_grown (d : PyData) : we (grown d) ≤ we d + 44 ∧ (grown d).depth ≤ d.depth := by
  cases d with
  | list ds =>
    refine ⟨?_, ?_⟩
    · show weAll (ds ++ [.str "more"]) + 3 ≤ weAll ds + 3 + 44
      rw [weAll_app]
      have : weAll [PyData.str "more"] = 44 := by decide +kernel
      omega
    · exact Nat.succ_le_succ (dep_app "more" ds)
  | _ => exact ⟨Nat.le_add_right _ _, Nat.le_refl _⟩
/-- what is told, as a datum -/
theorem outs_de {r : R} {p : Addr} {B2 : Addr → Prop} (h : H p = some (.lst (outs r x y))) (sm : smallR r = true) (dx : De B H x d) (dy : ∀ k, r = .found k true → De B2 H y e) : De (fun _ => False) H (.ref p) (outE r d e) := by
  have st : ∀ z : Str, decide (z.length ≤ 4000 ∧ ∀ c ∈ cd z, c ≤ 126) = true → De (fun _ => False) H (.str z) (.str z) := fun z h => .str z (of_decide_eq_true h).1 (of_decide_eq_true h).2
  have big : ∀ n : Nat, n ≤ 1000000000 → ((n : Nat) : Int).natAbs ≤ 10 ^ 60 := fun n h => Nat.le_trans (show n ≤ 1000000000 from h) (by decide)
  cases r with
  | found k b =>
    have hk : De (fun _ => False) H (.str (knd k)) (.str (knd k)) := by
      match k with
      | 0 => exact st _ (by decide +kernel)
      | 1 => exact st _ (by decide +kernel)
      | 2 => exact st _ (by decide +kernel)
      | k + 3 => exact st "word" (by decide +kernel)
    cases b with
    | false => exact .lst h id (.cons hk (.cons (dx.apart fun _ _ _ => id) .nil))
    | true => exact .lst h id (.cons hk (.cons ((dy k rfl).apart fun _ _ _ => id) .nil))
  | sign m => exact .lst h id (.cons (st _ (by decide +kernel)) (.cons (.int _ (big m (of_decide_eq_true sm))) .nil))
  | many m => exact .lst h id (.cons (st _ (by decide +kernel)) (.cons (.int _ (big m (of_decide_eq_true sm))) .nil))
  | told => exact .lst h id (.cons (st _ (by decide +kernel)) (.cons .non .nil))
theorem outs_light {r : R} (hd : we d ≤ 200000 ∧ d.depth ≤ 50) (he : we e ≤ 200000 ∧ e.depth ≤ 50) : we (outE r d e) ≤ 1000000 ∧ (outE r d e).depth ≤ 60 := by
  have hk : ∀ k, we (.str (knd k)) ≤ 100 := fun k => by
    match k with
    | 0 => decide +kernel
    | 1 => decide +kernel
    | 2 => decide +kernel
    | k + 3 => exact show we (.str "word") ≤ 100 by decide +kernel
  have two : ∀ a b : PyData, we a ≤ 100 → a.depth = 0 → we b ≤ 200000 → b.depth ≤ 50 → we (.list [a, b]) ≤ 1000000 ∧ (PyData.list [a, b]).depth ≤ 60 := fun a b h1 h2 h3 h4 => by
    refine ⟨?_, ?_⟩
    · show weAll [a, b] + 3 ≤ _
      rw [weAll, weAll, weAll]
      omega
    · show PyData.depthAll [a, b] + 1 ≤ _
      rw [PyData.depthAll, PyData.depthAll, PyData.depthAll]
      omega
  cases r with
  | found k b =>
    cases b with
    | false => exact two _ _ (hk k) rfl hd.1 hd.2
    | true => exact two _ _ (hk k) rfl he.1 he.2
  | sign m => exact two _ _ (show we (.str "sign") ≤ 100 by decide +kernel) rfl (by rw [we]; decide) (Nat.zero_le _)
  | many m => exact two _ _ (show we (.str "many") ≤ 100 by decide +kernel) rfl (by rw [we]; decide) (Nat.zero_le _)
  | told => exact two _ _ (show we (.str "told") ≤ 100 by decide +kernel) rfl (by rw [we]; decide) (Nat.zero_le _)
theorem res_needs {k q : Nat} (hk : k ≤ 6) (h : res k d e = .found q true) : needs k d = true := by
  have c0 : ∀ (b : Bool) (m : Nat), (bif b then R.told else .found m false) ≠ .found q true := fun b m h => by
    cases b
    · exact R.noConfusion h fun _ e => Bool.false_ne_true e
    · exact R.noConfusion h
  have cq : ∀ o, cutQ o ≠ .found q true := fun o h => by
    cases o with
    | error e => exact R.noConfusion h
    | ok ws =>
      have h : (if 40 < ws.length then R.many ws.length else .told) = .found q true := h
      split at h
      · exact R.noConfusion h
      · exact R.noConfusion h
  have c1 : ∀ d : PyData, cutRes d ≠ .found q true := fun d h => by
    unfold cutRes at h
    cases hl : lineE d with
    | false => rw [hl] at h; exact R.noConfusion h fun _ e => Bool.false_ne_true e
    | true => rw [hl] at h; exact cq _ h
  have c2 : stRes d ≠ .found q true := fun h => by
    unfold stRes at h
    cases hl : lineE d with
    | false => rw [hl] at h; exact R.noConfusion h fun _ e => Bool.false_ne_true e
    | true =>
      rw [hl] at h
      cases hc : stR stP (cd (zOf d)) with
      | error e => rw [hc] at h; exact R.noConfusion h
      | ok t =>
        rw [hc] at h
        have h : (if 40 < cnt t then R.many (cnt t) else .told) = .found q true := h
        split at h
        · exact R.noConfusion h
        · exact R.noConfusion h
  rcases (show k = 0 ∨ k = 1 ∨ k = 2 ∨ k = 3 ∨ k = 4 ∨ k = 5 ∨ k = 6 by omega) with rfl | rfl | rfl | rfl | rfl | rfl | rfl
  · exact absurd h (c1 d)
  · exact absurd h c2
  · exact absurd h (c0 _ _)
  · exact absurd h (c0 _ _)
  · have h : (bif stE d then (bif goodE d e then R.told else .found 3 true) else .found 2 false) = .found q true := h
    show stE d = true
    cases hs : stE d with
    | false => rw [hs] at h; exact R.noConfusion h fun _ e => (Bool.false_ne_true e).elim
    | true => rfl
  · exact absurd h (c1 d)
  · rfl
end
theorem r_catTu {K : PySem.W.Frag} {H : Hp} {Q : VK} {a c : Addr} {xs ys : List V} (h : H a = some (.tup xs)) (g : H c = some (.tup ys)) (l : xs.length + ys.length ≤ 100000)
    (k : ∀ (r : Addr) (H' : Hp), Same H H' → H' r = some (.tup (xs ++ ys)) → (∀ b n, Bx H b n → Bx H' b n) → Q (.ref r) H') : J.rAdd K (.ref a) (.ref c) H Q := by
  refine .inr (.inr (.inr ⟨a, c, xs, ys, rfl, rfl, SqT.of h, SqT.of g, Nat.le_trans l (by decide), fun e => ?_, fun _ e => ?_, fun _ _ p hp => ?_⟩))
  · subst e; exact k c H (Same.refl H) g fun _ _ z => z
  · subst e; exact k a H (Same.refl H) (by rw [List.append_nil]; exact h) fun _ _ z => z
  · exact k p _ ((Same.refl H).at hp _) upd_same fun _ _ z => z.new hp
end J

/-! texts many times over, and what comes of them as lines -/
namespace J
open PySem PySem.Spec PyProof.Rows L2 M
theorem mul_ok2 {z : Str} {n : Nat} (hz : z.length ≤ 100) (hn : n ≤ 10000) : MulOk z (n : Int) := by
  refine ⟨by simp; omega, fun h1 _ => ?_, fun h1 _ => ?_⟩
  · have : (100 : Int) ≤ (2 ^ 63 - 1) / (n : Int) := Int.le_ediv_of_mul_le (by omega) (by omega)
    omega
  · have : z.length * ((n : Nat) : Int).toNat ≤ 100 * 10000 := Nat.mul_le_mul hz (by omega)
    unfold Builtin.Str.tooLong
    refine decide_eq_false (Nat.not_lt.mpr (Nat.le_trans this (by decide)))
theorem words_rep {l : List Nat} {w : List Str} (h : ∀ ws, l.foldl KWd.step (ws, Str.empty) = (ws ++ w, Str.empty)) : ∀ (k : Nat) (ws : List Str), (List.replicate k l).flatten.foldl KWd.step (ws, Str.empty) = (ws ++ (List.replicate k w).flatten, Str.empty)
  | 0, ws => by simp
  | k + 1, ws => by
    rw [List.replicate_succ, List.flatten_cons, List.foldl_append, h, words_rep h k, List.replicate_succ, List.flatten_cons, List.append_assoc]
theorem rep_lenS (n : Nat) (l : List Str) : (List.replicate n l).flatten.length = n * l.length := by simp
theorem step_sp (ws : List Str) (c : Nat) (h : Unicode.isSpace c = true) : KWd.step (ws, Str.empty) c = (ws, Str.empty) := by
  unfold KWd.step
  rw [if_pos h]
  rfl
theorem step_no (ws : List Str) (r : Str) (c : Nat) (h : Unicode.isSpace c = false) : KWd.step (ws, r) c = (ws, r ++ ⟨#[c]⟩) := by
  unfold KWd.step
  rw [h]
  rfl
theorem step_end (ws : List Str) (r : Str) (c : Nat) (h : Unicode.isSpace c = true) (n : r.length ≠ 0) : KWd.step (ws, r) c = (ws ++ [r], Str.empty) := by
  unfold KWd.step
  rw [if_pos h, if_neg n]
/-- many, or told -/
def manyR (m : Nat) : R := if 40 < m then .many m else .told
theorem big_plain {z : Str} {ws : List Str} (lf : Lf (cd z)) (h39 : 39 ∉ cd z) (h34 : 34 ∉ cd z) (h92 : 92 ∉ cd z) (hs : (cd z).foldl KWd.step ([], Str.empty) = (ws, Str.empty)) (hw : ∀ w ∈ ws, w.length ≤ 40) :
    Txt.words z = ws ∧ cutQ (cutR stP (cd z)) = manyR ws.length ∧ ∃ t, stR stP (cd z) = .ok t ∧ cnt t = ws.length := by
  have e : Txt.words z = ws := by
    rw [KWd.words_scan]
    show KWd.fin ((cd z).foldl KWd.step ([], Str.empty)) = ws
    rw [hs]
    exact if_pos rfl
  refine ⟨e, ?_, ?_⟩
  · rw [cut_plain lf h39 h34 h92 fun w hw' => by
      obtain ⟨y, hy, rfl⟩ := List.mem_map.mp hw'
      rw [← len_cd]
      exact hw y (e ▸ hy)]
    show (if 40 < (plainWs z).length then R.many (plainWs z).length else .told) = manyR ws.length
    unfold plainWs
    rw [List.length_map, e]
    rfl
  · have q := scan_plain (cd z) 0 ([], Str.empty) (fun c hc => ⟨lf.2 c hc, fun q => h39 (q ▸ hc), fun q => h34 (q ▸ hc), fun q => h92 (q ▸ hc)⟩)
      (fun w hw2 => hw w (by rw [hs] at hw2; exact hw2)) (by rw [hs]; exact Nat.zero_le _)
    rw [hs] at q
    have q : M.scan stP 0 sc0 (cd z) = .ok ⟨ws.map (fun z => cd z), bgOf Str.empty, 0, 0, false⟩ := q
    refine ⟨⟨ws.map (fun z => cd z), bgOf Str.empty, 0, 0, false⟩, ?_, ?_⟩
    · unfold stR
      rw [q]
      rfl
    · show (ws.map (fun z => cd z)).length + 0 = _
      rw [List.length_map]; rfl
theorem scan_qq : ∀ (k i : Nat) (ws : List (List Nat)) (op : Nat), ∃ o, M.scan stP i ⟨ws, none, 0, op, false⟩ (List.replicate k [39, 39, 32]).flatten = .ok ⟨ws ++ List.replicate k [], none, 0, o, false⟩
  | 0, i, ws, op => ⟨op, by simp [M.scan]⟩
  | k + 1, i, ws, op => by
    obtain ⟨o, e⟩ := scan_qq k (i + 1 + 1 + 1) (ws ++ [[]]) i
    refine ⟨o, ?_⟩
    have e1 : stP ⟨ws, none, 0, op, false⟩ i 39 = .ok ⟨ws, some [], 39, i, false⟩ := by simp [stP]
    have e2 : stP ⟨ws, some [], 39, i, false⟩ (i + 1) 39 = .ok ⟨ws, some [], 0, i, false⟩ := by simp [stP]
    have e3 : stP ⟨ws, some [], 0, i, false⟩ (i + 1 + 1) 32 = .ok ⟨ws ++ [[]], none, 0, i, false⟩ := by simp [stP]
    rw [List.replicate_succ, List.flatten_cons]  -- own
    simp only [List.cons_append, List.nil_append, M.scan, e1, e2, e3]
    rw [e, List.replicate_succ]
    simp
theorem scan_q2 {k : Nat} : ∃ t, M.scan stP 0 sc0 ((List.replicate k [39, 39, 32]).flatten ++ [39, 39]) = .ok t ∧ t.ws.length = k ∧ t.bg = some [] ∧ t.qt = 0 ∧ t.tk = false := by
  obtain ⟨o, e⟩ := scan_qq k 0 [] 0
  have e : M.scan stP 0 sc0 (List.replicate k [39, 39, 32]).flatten = .ok ⟨[] ++ List.replicate k [], none, 0, o, false⟩ := e
  generalize hi : 0 + (List.replicate k [39, 39, 32]).flatten.length = i
  have e1 : stP ⟨[] ++ List.replicate k [], none, 0, o, false⟩ i 39 = .ok ⟨[] ++ List.replicate k [], some [], 39, i, false⟩ := by simp [stP]
  have e2 : stP ⟨[] ++ List.replicate k [], some [], 39, i, false⟩ (i + 1) 39 = .ok ⟨[] ++ List.replicate k [], some [], 0, i, false⟩ := by simp [stP]
  refine ⟨⟨[] ++ List.replicate k [], some [], 0, i, false⟩, ?_, ?_, ?_, ?_, ?_⟩
  · rw [scan_app, e]
    simp only [M.scan]
    rw [hi, e1]
    simp only [M.scan]
    rw [e2]
  · simp
  · rfl
  · rfl
  · rfl
theorem lf_ln {l : List Nat} (h : Lf l) : lineE (.str (S l)) = true := by
  show (decide ((S l).length ≤ 2000) && sg ((cd (S l)).filter fun c => decide (c ≠ 10))) = true
  rw [S_len, cd_S, decide_eq_true h.1, Bool.true_and, sg_iff]
  intro c hc
  obtain ⟨hc, n⟩ := List.mem_filter.mp hc
  rcases h.2 c hc with q | q
  · exact absurd q (of_decide_eq_true n)
  · exact q
theorem long_line {l : List Nat} (h : 2000 < l.length) : lineE (.str (S l)) = false := by
  show (decide ((S l).length ≤ 2000) && sg ((cd (S l)).filter fun c => decide (c ≠ 10))) = false
  rw [S_len, decide_eq_false (by omega), Bool.false_and]
/-- what comes of the lines of two thousand signs and one more -/
structure Big (v : Str) : Prop where
  sm : v.length ≤ 100
  ok : ∀ c ∈ cd v, c ≤ 126
  n1 : ((List.replicate 2001 (cd v)).flatten.take 2000).length = 2000
  n2 : ((List.replicate 2001 (cd v)).flatten.take 2001).length = 2001
  r0 : res 0 (.str (S ((List.replicate 2001 (cd v)).flatten.take 2000))) .none = manyR (Txt.words (S ((List.replicate 2001 (cd v)).flatten.take 2000))).length
  r1 : res 1 (.str (S ((List.replicate 2001 (cd v)).flatten.take 2000))) .none = manyR (Txt.words (S ((List.replicate 2001 (cd v)).flatten.take 2000))).length
  few : (Txt.words (S ((List.replicate 2001 (cd v)).flatten.take 2000))).length ≤ 2001
theorem Big.long {v : Str} (b : Big v) : res 0 (.str (S ((List.replicate 2001 (cd v)).flatten.take 2001))) .none = .found 0 false ∧ res 1 (.str (S ((List.replicate 2001 (cd v)).flatten.take 2001))) .none = .found 0 false := by
  have h := long_line (l := (List.replicate 2001 (cd v)).flatten.take 2001) (by rw [b.n2]; decide)
  refine ⟨?_, ?_⟩
  · show cutRes _ = _
    unfold cutRes
    rw [h]; rfl
  · show stRes _ = _
    unfold stRes
    rw [h]; rfl
theorem take_len {l : List Nat} {n : Nat} (h : 1 ≤ l.length) (hn : n ≤ 2001) : ((List.replicate 2001 l).flatten.take n).length = n := by
  rw [List.length_take, rep_len]
  exact Nat.min_eq_left (Nat.le_trans hn (by omega))
theorem big_of {v : Str} (sm : v.length ≤ 100) (h1 : 1 ≤ (cd v).length) (ok : ∀ c ∈ cd v, c = 10 ∨ 32 ≤ c ∧ c ≤ 126)
    (go : Lf ((List.replicate 2001 (cd v)).flatten.take 2000) → ∃ ws : List Str, Txt.words (S ((List.replicate 2001 (cd v)).flatten.take 2000)) = ws ∧ ws.length ≤ 2001 ∧ cutQ (cutR stP ((List.replicate 2001 (cd v)).flatten.take 2000)) = manyR ws.length ∧ ∃ t, stR stP ((List.replicate 2001 (cd v)).flatten.take 2000) = .ok t ∧ cnt t = ws.length) : Big v := by
  have n1 := take_len (l := cd v) h1 (n := 2000) (by decide)
  have lf : Lf ((List.replicate 2001 (cd v)).flatten.take 2000) := ⟨by rw [n1]; exact Nat.le_refl _, fun c hc => ok c (rep_mem (List.mem_of_mem_take hc))⟩
  obtain ⟨ws, e, fw, hc, t, ht, ct⟩ := go lf
  refine ⟨sm, fun c hc => by rcases ok c hc with q | q <;> omega, n1, take_len h1 (by decide), ?_, ?_, by rw [e]; exact fw⟩
  · rw [e]
    generalize (List.replicate 2001 (cd v)).flatten.take 2000 = l at lf hc ⊢
    show (bif lineE (.str (S l)) then cutQ (cutR stP (cd (S l))) else R.found 0 false) = _
    rw [lf_ln lf, cd_S]
    exact hc
  · rw [e]
    generalize (List.replicate 2001 (cd v)).flatten.take 2000 = l at lf ht ⊢
    show (bif lineE (.str (S l)) then (match stR stP (cd (S l)) with
      | .error e => R.sign e
      | .ok t => if 40 < cnt t then .many (cnt t) else .told) else R.found 0 false) = _
    rw [lf_ln lf, cd_S, ht]
    show (if 40 < cnt t then R.many (cnt t) else .told) = _
    rw [ct]; rfl
theorem big_even {v : Str} {k : Nat} {w : List Str} (sm : v.length ≤ 100) (h1 : 1 ≤ (cd v).length) (ok : ∀ c ∈ cd v, (c = 10 ∨ 32 ≤ c ∧ c ≤ 126) ∧ c ≠ 39 ∧ c ≠ 34 ∧ c ≠ 92) (e : (List.replicate 2001 (cd v)).flatten.take 2000 = (List.replicate k (cd v)).flatten)
    (h : ∀ ws, (cd v).foldl KWd.step (ws, Str.empty) = (ws ++ w, Str.empty)) (hw : ∀ y ∈ w, y.length ≤ 40) (fw : (List.replicate k w).flatten.length ≤ 2001) : Big v := by
  refine big_of sm h1 (fun c hc => (ok c hc).1) fun lf => ?_
  have cs : ∀ c ∈ (List.replicate 2001 (cd v)).flatten.take 2000, c ≠ 39 ∧ c ≠ 34 ∧ c ≠ 92 := fun c hc => (ok c (rep_mem (List.mem_of_mem_take hc))).2
  have hs : ((List.replicate 2001 (cd v)).flatten.take 2000).foldl KWd.step ([], Str.empty) = ((List.replicate k w).flatten, Str.empty) := by
    rw [e, words_rep h k []]
    rfl
  generalize (List.replicate 2001 (cd v)).flatten.take 2000 = l at cs hs lf ⊢
  have q := big_plain (z := S l) (by rw [cd_S]; exact lf) (fun q => (cs _ (by rw [cd_S] at q; exact q)).1 rfl) (fun q => (cs _ (by rw [cd_S] at q; exact q)).2.1 rfl) (fun q => (cs _ (by rw [cd_S] at q; exact q)).2.2 rfl) (by rw [cd_S]; exact hs) (fun y hy => by
    obtain ⟨m, hm, hc⟩ := List.mem_flatten.mp hy
    rw [(List.mem_replicate.mp hm).2] at hc
    exact hw y hc)
  rw [cd_S] at q
  exact ⟨_, q.1, fw, q.2⟩
theorem big_sp : Big " " := big_even (k := 2000) (w := []) (by decide +kernel) (by decide +kernel) (by decide +kernel) (by decide +kernel) (fun ws => by
  rw [show cd " " = [32] by decide +kernel, List.append_nil]
  exact step_sp ws 32 (by decide +kernel)) (fun y hy => (List.not_mem_nil hy).elim) (by decide +kernel)
theorem big_nl : Big "\n" := big_even (k := 2000) (w := []) (by decide +kernel) (by decide +kernel) (by decide +kernel) (by decide +kernel) (fun ws => by
  rw [show cd "\n" = [10] by decide +kernel, List.append_nil]
  exact step_sp ws 10 (by decide +kernel)) (fun y hy => (List.not_mem_nil hy).elim) (by decide +kernel)
theorem big_sn : Big " \n" := big_even (k := 1000) (w := []) (by decide +kernel) (by decide +kernel) (by decide +kernel) (by decide +kernel) (fun ws => by
  rw [show cd " \n" = [32, 10] by decide +kernel, List.append_nil]
  show KWd.step (KWd.step (ws, Str.empty) 32) 10 = _
  rw [step_sp ws 32 (by decide +kernel)]
  exact step_sp ws 10 (by decide +kernel)) (fun y hy => (List.not_mem_nil hy).elim) (by decide +kernel)
theorem big_as : Big "a " := big_even (k := 1000) (w := [Str.empty ++ ⟨#[97]⟩]) (by decide +kernel) (by decide +kernel) (by decide +kernel) (by decide +kernel) (fun ws => by
  rw [show cd "a " = [97, 32] by decide +kernel]
  show KWd.step (KWd.step (ws, Str.empty) 97) 32 = _
  rw [step_no ws _ 97 (by decide +kernel)]
  exact step_end ws _ 32 (by decide +kernel) (by decide +kernel)) (fun y hy => by rw [List.mem_singleton.mp hy]; decide +kernel) (by rw [rep_lenS]; decide)
theorem big_qq : Big "'' " := by
  refine big_of (by decide +kernel) (by decide +kernel) (by decide +kernel) fun lf => ?_
  have e : (List.replicate 2001 (cd "'' ")).flatten.take 2000 = (List.replicate 666 [39, 39, 32]).flatten ++ [39, 39] := by decide +kernel
  have f3 : ∀ ws, [39, 39, 32].foldl KWd.step (ws, Str.empty) = (ws ++ [Str.empty ++ ⟨#[39]⟩ ++ ⟨#[39]⟩], Str.empty) := fun ws => by
    show KWd.step (KWd.step (KWd.step (ws, Str.empty) 39) 39) 32 = _
    rw [step_no ws _ 39 (by decide +kernel), step_no ws _ 39 (by decide +kernel)]
    exact step_end ws _ 32 (by decide +kernel) (by decide +kernel)
  have hs : ((List.replicate 2001 (cd "'' ")).flatten.take 2000).foldl KWd.step ([], Str.empty) = ((List.replicate 666 [Str.empty ++ ⟨#[39]⟩ ++ ⟨#[39]⟩]).flatten, Str.empty ++ ⟨#[39]⟩ ++ ⟨#[39]⟩) := by
    rw [e, List.foldl_append, words_rep f3 666 []]
    show KWd.step (KWd.step (_, Str.empty) 39) 39 = _
    rw [step_no _ _ 39 (by decide +kernel), step_no _ _ 39 (by decide +kernel)]
    rfl
  obtain ⟨t, ht, t1, t2, t3, t4⟩ := scan_q2 (k := 666)
  rw [← e] at ht
  generalize (List.replicate 2001 (cd "'' ")).flatten.take 2000 = l at ht hs ⊢
  have lw : ((List.replicate 666 [Str.empty ++ ⟨#[39]⟩ ++ ⟨#[39]⟩]).flatten ++ [Str.empty ++ ⟨#[39]⟩ ++ ⟨#[39]⟩] : List Str).length = 667 := by rw [List.length_append, rep_lenS]; rfl
  refine ⟨(List.replicate 666 [Str.empty ++ ⟨#[39]⟩ ++ ⟨#[39]⟩]).flatten ++ [Str.empty ++ ⟨#[39]⟩ ++ ⟨#[39]⟩], ?_, by rw [lw]; decide, ?_, t, ?_, ?_⟩
  · rw [KWd.words_scan]
    show KWd.fin ((cd (S l)).foldl KWd.step ([], Str.empty)) = _
    rw [cd_S, hs]
    exact if_neg (by decide +kernel)
  · rw [lw]
    unfold cutR
    rw [ht]
    simp only [t3, t4, Bool.false_eq_true, if_false, ne_eq, not_true_eq_false]
    show (if 40 < (fin t).length then R.many (fin t).length else .told) = manyR 667
    have : (fin t).length = 667 := by
      unfold J.fin
      rw [t2]
      show (t.ws ++ [[]]).length = 667
      rw [List.length_append, t1]; rfl
    rw [this]; rfl
  · unfold stR
    rw [ht]
    simp only [t4, Bool.false_eq_true, if_false]
  · rw [lw]
    unfold cnt
    rw [t1, t2]; rfl
end J

/-! what is told, compared as a whole; the bounds of lines -/
namespace J
open PySem PySem.Spec PyProof.Rows L2 M
theorem r_iseq {K : PySem.W.Frag} {σ : L2.St} {H : Hp} {te : TE} {R : It → Hp → Prop} (k : te σ H fun x H1 => ∃ a xs, x = .ref a ∧ ((SqL K H1 a xs ∧ R (Itl K a) H1) ∨ (SqT K H1 a xs ∧ R (Itt K a) H1))) : iSeq K te σ H R := k
section
variable {K : PySem.W.Frag} {H : Hp} {Q : VK}
theorem dp_flat2 {p : Addr} {t : Str} {x : V} {d : PyData} (h : H p = some (.lst [.str t, x])) (hx : Dp K H x d) : Dp K H (.ref p) (.list [.str t, d]) := .lst (SqL.of h) (.cons (.str _) (.cons hx .nil))
theorem can_str {z : Str} (h : ∀ c ∈ cd z, c ≤ 126) : PyData.canLay0 (.str z) = true := by
  have := can_w h
  rwa [show dW (cd z) = .str z from congrArg PyData.str (S_of z)] at this
theorem dp_outs {p : Addr} {r : R} {z : Str} (c : ∀ c ∈ cd z, c ≤ 126) (h : H p = some (.lst (outs r (.str z) .non))) : Dp K H (.ref p) (outE r (.str z) .none) ∧ (outE r (.str z) .none).canLay0 = true ∧ (outE r (.str z) .none).depth ≤ 64 := by
  have two : ∀ {t : Str} {d : PyData}, (∀ c ∈ cd t, c ≤ 126) → d.canLay0 = true → (PyData.list [.str t, d]).canLay0 = true := fun ht hd => by
    show (PyData.canLay0 (.str _) && (PyData.canLay0 _ && true)) = true
    rw [can_str ht, hd]; rfl
  have dep : ∀ {t : Str} {d : PyData}, d.depth = 0 → (PyData.list [.str t, d]).depth ≤ 64 := fun h => by
    simp only [PyData.depth, PyData.depthAll]  -- own
    rw [h]; decide
  cases r with
  | found q b =>
    have kk : ∀ c ∈ cd (knd q), c ≤ 126 := by
      match q with
      | 0 => decide +kernel
      | 1 => decide +kernel
      | 2 => decide +kernel
      | q + 3 => exact (by decide +kernel : ∀ c ∈ cd ("word" : Str), c ≤ 126)
    cases b with
    | false => exact ⟨dp_flat2 h (.str _), two kk (can_str c), dep (by rfl)⟩
    | true => exact ⟨dp_flat2 h .non, two kk rfl, dep (by rfl)⟩
  | sign m => exact ⟨dp_flat2 h (.int _), two (by decide +kernel) rfl, dep (by rfl)⟩
  | many m => exact ⟨dp_flat2 h (.int _), two (by decide +kernel) rfl, dep (by rfl)⟩
  | told => exact ⟨dp_flat2 h .non, two (by decide +kernel) rfl, dep (by rfl)⟩
theorem ne_outs {a b : Addr} {r : R} {z : Str} (c : ∀ c ∈ cd z, c ≤ 126) (h1 : H a = some (.lst (outs r (.str z) .non))) (h2 : H b = some (.lst (outs r (.str z) .non))) (k : Q (.bl false) H) : rNeA K (.ref a) (.ref b) H Q := by
  obtain ⟨d1, c1, p1⟩ := dp_outs (K := K) c h1
  obtain ⟨d2, c2, p2⟩ := dp_outs (K := K) c h2
  have sh : SeqAt.shaped (outE r (.str z) .none) = true := by
    show (PyData.canLay0 _ && decide _) = true
    rw [c1, decide_eq_true p1]; rfl
  exact .inr ⟨_, _, d1, d2, sh, sh, by rw [SeqAt.eqv_refl _ c1]; exact k⟩
theorem eq_outs {a b : Addr} {r : R} {z : Str} (c : ∀ c ∈ cd z, c ≤ 126) (h1 : H a = some (.lst (outs r (.str z) .non))) (h2 : H b = some (.lst (outs r (.str z) .non))) (k : Q (.bl true) H) : rEqA K (.ref a) (.ref b) H Q := by
  obtain ⟨d1, c1, p1⟩ := dp_outs (K := K) c h1
  obtain ⟨d2, c2, p2⟩ := dp_outs (K := K) c h2
  have sh : SeqAt.shaped (outE r (.str z) .none) = true := by
    show (PyData.canLay0 _ && decide _) = true
    rw [c1, decide_eq_true p1]; rfl
  exact .inr ⟨_, _, d1, d2, sh, sh, by rw [SeqAt.eqv_refl _ c1]; exact k⟩
end
def spBnds : Sp := fun vs H Q _ => ∃ (b : Addr) (n : Nat), vs = [.ref b] ∧ Bx H b n ∧ n ≤ 800000000 ∧ ∀ H', Keep b H H' → Q (.bl true) H'
theorem res_80 : (res 0 (.str (Txt.mul "a " 40)) .none = .told ∧ res 1 (.str (Txt.mul "a " 40)) .none = .told) ∧
    (res 0 (.str (Txt.mul "a " 40 ++ "b")) .none = .many 41 ∧ res 1 (.str (Txt.mul "a " 40 ++ "b")) .none = .many 41) ∧
    (res 0 (.str (Txt.mul "a " 40 ++ "'b")) .none = .sign 80 ∧ res 1 (.str (Txt.mul "a " 40 ++ "'b")) .none = .many 41) ∧
    res 6 (.str "a") (.str "'") = .sign 0 ∧ res 5 (.str "a'") .none = .sign 1 := by decide +kernel
theorem cd_80 : (∀ c ∈ cd (Txt.mul "a " 40), c ≤ 126) ∧ (∀ c ∈ cd (Txt.mul "a " 40 ++ "b"), c ≤ 126) ∧ (∀ c ∈ cd (Txt.mul "a " 40 ++ "'b"), c ≤ 126) ∧ (Txt.mul "a " 40).length ≤ 100 ∧ (Txt.mul "a " 40 ++ "b").length ≤ 100 ∧ (Txt.mul "a " 40 ++ "'b").length ≤ 100 := by decide +kernel
end J

namespace K07
open PySem PySem.Spec PyProof.Rows L2 J M
def topS (i : Nat) : Stmt := PySem.Challenge.pw_callwords_k07_lines_refused.main.body.getD i (.Pass ⟨0, 0, 0, 0⟩)
abbrev s_is_word : Stmt := topS 12
abbrev N_is_word : List Str := ["thing"]
abbrev P_is_word : List Str := ["thing"]
theorem sc_is_word : FnScope N_is_word P_is_word (defScope s_is_word) := ⟨rfl, rfl, rfl, by decide +kernel, rfl, by decide +kernel, by decide +kernel⟩
abbrev s_are_signs : Stmt := topS 13
abbrev N_are_signs : List Str := ["text"]
abbrev P_are_signs : List Str := ["text"]
theorem sc_are_signs : FnScope N_are_signs P_are_signs (defScope s_are_signs) := ⟨rfl, rfl, rfl, by decide +kernel, rfl, by decide +kernel, by decide +kernel⟩
abbrev s_is_line : Stmt := topS 21
abbrev N_is_line : List Str := ["thing"]
abbrev P_is_line : List Str := ["thing"]
theorem sc_is_line : FnScope N_is_line P_is_line (defScope s_is_line) := ⟨rfl, rfl, rfl, by decide +kernel, rfl, by decide +kernel, by decide +kernel⟩
abbrev s_are_words : Stmt := topS 22
abbrev N_are_words : List Str := ["thing", "word"]
abbrev P_are_words : List Str := ["thing"]
theorem sc_are_words : FnScope N_are_words P_are_words (defScope s_are_words) := ⟨rfl, rfl, rfl, by decide +kernel, rfl, by decide +kernel, by decide +kernel⟩
abbrev s_cut : Stmt := topS 23
abbrev N_cut : List Str := ["line", "words", "begun", "quote", "opened"]
abbrev P_cut : List Str := ["line"]
theorem sc_cut : FnScope N_cut P_cut (defScope s_cut) := ⟨rfl, rfl, rfl, by decide +kernel, rfl, by decide +kernel, by decide +kernel⟩
abbrev s_cut_plainly : Stmt := topS 24
abbrev N_cut_plainly : List Str := ["line", "words", "word"]
abbrev P_cut_plainly : List Str := ["line"]
theorem sc_cut_plainly : FnScope N_cut_plainly P_cut_plainly (defScope s_cut_plainly) := ⟨rfl, rfl, rfl, by decide +kernel, rfl, by decide +kernel, by decide +kernel⟩
abbrev s_state_of : Stmt := topS 25
abbrev N_state_of : List Str := ["line", "words", "begun", "quote", "_"]
abbrev P_state_of : List Str := ["line"]
theorem sc_state_of : FnScope N_state_of P_state_of (defScope s_state_of) := ⟨rfl, rfl, rfl, by decide +kernel, rfl, by decide +kernel, by decide +kernel⟩
abbrev s_scanned : Stmt := topS 26
abbrev N_scanned : List Str := ["line", "words", "begun", "quote", "opened", "escaping", "at", "sign"]
abbrev P_scanned : List Str := ["line"]
theorem sc_scanned : FnScope N_scanned P_scanned (defScope s_scanned) := ⟨rfl, rfl, rfl, by decide +kernel, rfl, by decide +kernel, by decide +kernel⟩
abbrev s_longer : Stmt := topS 27
abbrev N_longer : List Str := ["begun", "sign", "at", "word"]
abbrev P_longer : List Str := ["begun", "sign", "at"]
theorem sc_longer : FnScope N_longer P_longer (defScope s_longer) := ⟨rfl, rfl, rfl, by decide +kernel, rfl, by decide +kernel, by decide +kernel⟩
abbrev s_refuse_too_many : Stmt := topS 28
abbrev N_refuse_too_many : List Str := ["many"]
abbrev P_refuse_too_many : List Str := ["many"]
theorem sc_refuse_too_many : FnScope N_refuse_too_many P_refuse_too_many (defScope s_refuse_too_many) := ⟨rfl, rfl, rfl, by decide +kernel, rfl, by decide +kernel, by decide +kernel⟩
abbrev s_quoted : Stmt := topS 29
abbrev N_quoted : List Str := ["word"]
abbrev P_quoted : List Str := ["word"]
theorem sc_quoted : FnScope N_quoted P_quoted (defScope s_quoted) := ⟨rfl, rfl, rfl, by decide +kernel, rfl, by decide +kernel, by decide +kernel⟩
abbrev s_ways : Stmt := topS 30
abbrev N_ways : List Str := ["word", "ways"]
abbrev P_ways : List Str := ["word"]
theorem sc_ways : FnScope N_ways P_ways (defScope s_ways) := ⟨rfl, rfl, rfl, by decide +kernel, rfl, by decide +kernel, by decide +kernel⟩
abbrev s_escaped : Stmt := topS 31
abbrev N_escaped : List Str := ["text", "needing", "sign"]
abbrev P_escaped : List Str := ["text", "needing"]
theorem sc_escaped : FnScope N_escaped P_escaped (defScope s_escaped) := ⟨rfl, rfl, rfl, by decide +kernel, rfl, by decide +kernel, by decide +kernel⟩
abbrev s_joined : Stmt := topS 32
abbrev N_joined : List Str := ["words", "word"]
abbrev P_joined : List Str := ["words"]
theorem sc_joined : FnScope N_joined P_joined (defScope s_joined) := ⟨rfl, rfl, rfl, by decide +kernel, rfl, by decide +kernel, by decide +kernel⟩
abbrev s_quoted_behind : Stmt := topS 33
abbrev N_quoted_behind : List Str := ["state", "word"]
abbrev P_quoted_behind : List Str := ["state", "word"]
theorem sc_quoted_behind : FnScope N_quoted_behind P_quoted_behind (defScope s_quoted_behind) := ⟨rfl, rfl, rfl, by decide +kernel, rfl, by decide +kernel, by decide +kernel⟩
abbrev s_written_behind : Stmt := topS 34
abbrev N_written_behind : List Str := ["state", "word", "_", "begun", "quote"]
abbrev P_written_behind : List Str := ["state", "word"]
theorem sc_written_behind : FnScope N_written_behind P_written_behind (defScope s_written_behind) := ⟨rfl, rfl, rfl, by decide +kernel, rfl, by decide +kernel, by decide +kernel⟩
abbrev s_is_state : Stmt := topS 35
abbrev N_is_state : List Str := ["thing", "words", "begun", "quote"]
abbrev P_is_state : List Str := ["thing"]
theorem sc_is_state : FnScope N_is_state P_is_state (defScope s_is_state) := ⟨rfl, rfl, rfl, by decide +kernel, rfl, by decide +kernel, by decide +kernel⟩
abbrev s_rest_quoted : Stmt := topS 36
abbrev N_rest_quoted : List Str := ["rest", "quote"]
abbrev P_rest_quoted : List Str := ["rest", "quote"]
theorem sc_rest_quoted : FnScope N_rest_quoted P_rest_quoted (defScope s_rest_quoted) := ⟨rfl, rfl, rfl, by decide +kernel, rfl, by decide +kernel, by decide +kernel⟩
abbrev s_shows_cut : Stmt := topS 37
abbrev N_shows_cut : List Str := ["line", "thing", "words"]
abbrev P_shows_cut : List Str := ["line", "thing"]
theorem sc_shows_cut : FnScope N_shows_cut P_shows_cut (defScope s_shows_cut) := ⟨rfl, rfl, rfl, by decide +kernel, rfl, by decide +kernel, by decide +kernel⟩
abbrev s_are_alike : Stmt := topS 38
abbrev N_are_alike : List Str := ["line", "other"]
abbrev P_are_alike : List Str := ["line", "other"]
theorem sc_are_alike : FnScope N_are_alike P_are_alike (defScope s_are_alike) := ⟨rfl, rfl, rfl, by decide +kernel, rfl, by decide +kernel, by decide +kernel⟩
abbrev s_law_box : Stmt := topS 40
abbrev N_law_box : List Str := ["_law_cell"]
abbrev P_law_box : List Str := ["_law_cell"]
theorem sc_law_box : FnScope N_law_box P_law_box (defScope s_law_box) := ⟨rfl, rfl, rfl, by decide +kernel, rfl, by decide +kernel, by decide +kernel⟩
abbrev s_law_take : Stmt := topS 41
abbrev N_law_take : List Str := ["_law_box_here", "_law_many", "_law_digit", "_law_number"]
abbrev P_law_take : List Str := ["_law_box_here", "_law_many"]
theorem sc_law_take : FnScope N_law_take P_law_take (defScope s_law_take) := ⟨rfl, rfl, rfl, by decide +kernel, rfl, by decide +kernel, by decide +kernel⟩
abbrev s_law_pick : Stmt := topS 42
abbrev N_law_pick : List Str := ["_law_box_here", "_law_some"]
abbrev P_law_pick : List Str := ["_law_box_here", "_law_some"]
theorem sc_law_pick : FnScope N_law_pick P_law_pick (defScope s_law_pick) := ⟨rfl, rfl, rfl, by decide +kernel, rfl, by decide +kernel, by decide +kernel⟩
abbrev s_law_odd : Stmt := topS 43
abbrev N_law_odd : List Str := ["_law_box_here", "_law_some"]
abbrev P_law_odd : List Str := ["_law_box_here"]
theorem sc_law_odd : FnScope N_law_odd P_law_odd (defScope s_law_odd) := ⟨rfl, rfl, rfl, by decide +kernel, rfl, by decide +kernel, by decide +kernel⟩
abbrev s_law_asked : Stmt := topS 44
abbrev N_law_asked : List Str := ["_law_door", "_law_thing", "_law_other"]
abbrev P_law_asked : List Str := ["_law_door", "_law_thing", "_law_other"]
theorem sc_law_asked : FnScope N_law_asked P_law_asked (defScope s_law_asked) := ⟨rfl, rfl, rfl, by decide +kernel, rfl, by decide +kernel, by decide +kernel⟩
abbrev s_law_told : Stmt := topS 45
abbrev N_law_told : List Str := ["_law_door", "_law_thing", "_law_other", "e", "_law_kinds"]
abbrev P_law_told : List Str := ["_law_door", "_law_thing", "_law_other"]
theorem sc_law_told : FnScope N_law_told P_law_told (defScope s_law_told) := ⟨rfl, rfl, rfl, by decide +kernel, rfl, by decide +kernel, by decide +kernel⟩
abbrev s_law_is_word : Stmt := topS 46
abbrev N_law_is_word : List Str := ["_law_thing", "_law_sign"]
abbrev P_law_is_word : List Str := ["_law_thing"]
theorem sc_law_is_word : FnScope N_law_is_word P_law_is_word (defScope s_law_is_word) := ⟨rfl, rfl, rfl, by decide +kernel, rfl, by decide +kernel, by decide +kernel⟩
abbrev s_law_is_list : Stmt := topS 47
abbrev N_law_is_list : List Str := ["_law_thing", "_law_word"]
abbrev P_law_is_list : List Str := ["_law_thing"]
theorem sc_law_is_list : FnScope N_law_is_list P_law_is_list (defScope s_law_is_list) := ⟨rfl, rfl, rfl, by decide +kernel, rfl, by decide +kernel, by decide +kernel⟩
abbrev s_law_line_due : Stmt := topS 48
abbrev N_law_line_due : List Str := ["_law_thing"]
abbrev P_law_line_due : List Str := ["_law_thing"]
theorem sc_law_line_due : FnScope N_law_line_due P_law_line_due (defScope s_law_line_due) := ⟨rfl, rfl, rfl, by decide +kernel, rfl, by decide +kernel, by decide +kernel⟩
abbrev s_law_due : Stmt := topS 49
abbrev N_law_due : List Str := ["_law_door", "_law_thing", "_law_other", "_law_first"]
abbrev P_law_due : List Str := ["_law_door", "_law_thing", "_law_other"]
theorem sc_law_due : FnScope N_law_due P_law_due (defScope s_law_due) := ⟨rfl, rfl, rfl, by decide +kernel, rfl, by decide +kernel, by decide +kernel⟩
abbrev s_law_right : Stmt := topS 50
abbrev N_law_right : List Str := ["_law_door", "_law_thing", "_law_other", "_law_due_here", "_law_found", "_law_grown"]
abbrev P_law_right : List Str := ["_law_door", "_law_thing", "_law_other", "_law_due_here"]
theorem sc_law_right : FnScope N_law_right P_law_right (defScope s_law_right) := ⟨rfl, rfl, rfl, by decide +kernel, rfl, by decide +kernel, by decide +kernel⟩
abbrev s_law_states_right : Stmt := topS 51
abbrev N_law_states_right : List Str := ["_law_box_here", "_law_quote", "_law_good", "_law_odd_here", "_law_more", "_law_bad", "_law_none"]
abbrev P_law_states_right : List Str := ["_law_box_here"]
theorem sc_law_states_right : FnScope N_law_states_right P_law_states_right (defScope s_law_states_right) := ⟨rfl, rfl, rfl, by decide +kernel, rfl, by decide +kernel, by decide +kernel⟩
abbrev s_law_bounds_right : Stmt := topS 52
abbrev N_law_bounds_right : List Str := ["_law_box_here", "_law_line", "_law_many", "_law_long", "_law_door"]
abbrev P_law_bounds_right : List Str := ["_law_box_here"]
theorem sc_law_bounds_right : FnScope N_law_bounds_right P_law_bounds_right (defScope s_law_bounds_right) := ⟨rfl, rfl, rfl, by decide +kernel, rfl, by decide +kernel, by decide +kernel⟩
abbrev s_law : Stmt := topS 53
abbrev N_law : List Str := ["_law_script", "_law_cell", "_law_box_here", "_law_turn", "_law_door", "_law_thing", "_law_other"]
abbrev P_law : List Str := ["_law_script"]
theorem sc_law : FnScope N_law P_law (defScope s_law) := ⟨rfl, rfl, rfl, by decide +kernel, rfl, by decide +kernel, by decide +kernel⟩
local macro_rules | `(tactic| walk_at "hp") => `(tactic| first | assumption | exact upd_same | (rw [upd_ne (by assumption)]; walk_at "hp") | (rw [upd_ne (Ne.symm (by assumption))]; walk_at "hp"))
local macro_rules | `(tactic| walk_at "s") => `(tactic| first
  | ((with_reducible refine' r_var ?h ?k); (case h => exact rfl))
  | (with_reducible refine r_c ?_)
  | (with_reducible refine r_op ?_)
  | (with_reducible refine r_un ?_)
  | (with_reducible refine r_seq ?_)
  | (with_reducible refine r_next ?_)
  | (with_reducible refine r_sets ?_)
  | (with_reducible refine r_gname ?_)
  | (with_reducible refine r_ifS ?_)
  | (with_reducible refine r_gsub ?_)
  | (with_reducible refine r_test ?_)
  | (with_reducible refine r_tb ?_)
  | (with_reducible refine r_not ?_)
  | (with_reducible refine r_and ?_)
  | (with_reducible refine r_or ?_)
  | (with_reducible refine r_andV ?_)
  | (with_reducible refine r_orV ?_)
  | (with_reducible refine r_notV ?_)
  | (with_reducible refine r_ifE ?_)
  | (with_reducible refine r_chain ?_)
  | (with_reducible refine r_cb ?_)
  | (with_reducible refine r_cons ?_)
  | (with_reducible refine r_nil ?_)
  | (with_reducible refine r_call ?_)
  | (with_reducible refine r_lst ?_)
  | (with_reducible refine r_tup ?_)
  | (with_reducible refine r_slice ?_)
  | (with_reducible refine r_nop ?_)
  | (with_reducible refine r_part ?_)
  | (with_reducible refine r_bm ?_)
  | (with_reducible refine r_m1 ?_)
  | (with_reducible refine r_m0 ?_)
  | (with_reducible refine r_is ?_)
  | (with_reducible refine r_maxD ?_)
  | (with_reducible refine r_orT ?_)
  | (with_reducible refine r_truN ?_)
  | (with_reducible refine r_intI ?_)
  | (with_reducible refine r_intB ?_)
  | (with_reducible refine r_max2 ?_)
  | (with_reducible refine r_min2 ?_)
  | (with_reducible refine r_yes ?_)
  | (with_reducible refine r_bl ?_)
  | (with_reducible refine iteT ?_)
  | (with_reducible refine iteF ?_)
  | (with_reducible refine r_iteNT ?_)
  | (with_reducible refine r_iteNF ?_)
  | (with_reducible refine r_minL ?_)
  | (with_reducible refine r_gcons ?_)
  | (with_reducible refine r_gnil ?_)
  | (with_reducible refine r_par ?_)
  | (with_reducible refine r_par3 ?_)
  | (with_reducible refine r_is2 ?_)
  | (with_reducible refine r_is3 ?_)
  | (with_reducible refine r_dget ?_)
  | (with_reducible refine r_callS ?_)
  | (with_reducible refine r_rz ?_)
  | (with_reducible refine r_rev ?_)
  | (with_reducible refine r_isI ?_)
  | (with_reducible refine r_isStr ?_)
  | (with_reducible refine r_ret ?_)
  | (with_reducible refine r_drop ?_)
  | (with_reducible refine r_rI0 ?_)
  | (with_reducible refine r_addI ?_)
  | ((with_reducible show rI (fun _ j => 0 < j) _ (.int _) (.int _) _ _); refine r_rI (by first | omega | decide) ?_)
  | ((with_reducible show rI CDiv _ (.int _) (.int _) _ _); refine r_rI (by constructor <;> omega) ?_)
  | ((with_reducible show rI CPow _ (.int _) (.int _) _ _); refine r_rI (by refine ⟨by decide, by decide, ?_⟩; omega) ?_)
  | ((with_reducible show rMul (.int _) (.int _) _ _); refine r_mulI (cmulW (by omega) (by omega)) ?_)
  | (with_reducible refine r_cmpI ?_)
  | (with_reducible refine r_cmpS ?_)
  | (with_reducible refine r_eqI ?_)
  | (with_reducible refine r_neI ?_)
  | (with_reducible refine r_eqS ?_)
  | (with_reducible refine r_neS ?_)
  | (with_reducible refine r_inSF ?_)
  | (with_reducible refine r_inST ?_)
  | (with_reducible refine r_isiStr ?_)
  | ((with_reducible show rIx _ (.ref _) (.int _) _ _); refine' r_ixL (SqL.of ?h) ?e ?_; (case h => walk_at "hp"); (case e => rfl))
  | ((with_reducible show rSetL (.ref _) (.int _) _ _ _); refine' r_setL ?h ?e ?_; (case h => walk_at "hp"); (case e => rfl)))
local macro_rules | `(tactic| walk_at "g") => `(tactic| repeat walk_at "s")


local macro_rules | `(tactic| walk_at "x") => `(tactic| first | omega | (simp only [one_nl, one_bs, one_q1, one_q2, qS_nil, qS_q1, one_qS, mem_part, mem_qs, mem_all]; omega))
local macro_rules | `(tactic| walk_at "d") => `(tactic| first
  | (with_reducible refine iteDT (by walk_at "x") ?_)
  | (with_reducible refine iteDF (by walk_at "x") ?_)
  | (with_reducible refine iteNT (by walk_at "x") ?_)
  | (with_reducible refine iteNF (by walk_at "x") ?_))
local macro_rules | `(tactic| walk_at "G") => `(tactic| repeat (first | walk_at "s" | walk_at "d"))
structure Tx (K : PySem.W.Frag) (mg : Str → Option Value) : Prop where
  z_len : mg "len" = none
  z_all : mg "all" = none
  z_isinstance : mg "isinstance" = none
  z_str : mg "str" = none
  z_list : mg "list" = none
  z_tuple : mg "tuple" = none
  z_int : mg "int" = none
  z_min : mg "min" = none
  z_repr : mg "repr" = none
  z_max : mg "max" = none
  z_dict : mg "dict" = none
  z_range : mg "range" = none
  z_enumerate : mg "enumerate" = none
  z_bool : mg "bool" = none
  c_MOST_SIGNS : ∃ t, mg "MOST_SIGNS" = some (.int 40 t)
  c_MOST_LINE : ∃ t, mg "MOST_LINE" = some (.int 2000 t)
  c_MOST_WORDS : ∃ t, mg "MOST_WORDS" = some (.int 40 t)
  c_PARTING : ∃ t, mg "PARTING" = some (.str " \n" t)
  c_NEEDING : ∃ t, mg "NEEDING" = some (.str " '\"\\" t)
  c_NEEDING_WITHIN : ∃ t, mg "NEEDING_WITHIN" = some (.str "\"\\" t)
  c_QUOTES : ∃ a, mg "QUOTES" = some (.ref a) ∧ ∀ H, SqT K H a [.str "'", .str "\""]
section
variable {P : Program} {w : World} {K : PySem.W.Frag} {mg : Str → Option Value} {base : Heap} {CL CI CS CW CB CT : Addr}
theorem ok_are_signs (T : Tx K mg) {f : Addr} {fd : FuncData} (F : Fun K "are_signs" "are_signs" s_are_signs f fd) : FnOk P w K mg base CX0 1 f fd P_are_signs spSigns := by
  refine F.ok sc_are_signs (fun vs H Q E h => ?_) (fun cdv A outer s H vs Q E hr h => ?_)
  · obtain ⟨z, rfl, _⟩ := h
    rfl
  · obtain ⟨z, rfl, hz, k⟩ := h
    refine ⟨_, (pss_one (ps_ret (pe_and (pe_m0 PySem.F.slot_str_isascii PySem.F.type_str_isascii mA_isascii (pv 0)) (pe_one (pe_m0 PySem.F.slot_str_isprintable PySem.F.type_str_isprintable mA_isprintable (pv 0)))))), ?_⟩
    have k := k H (Same.refl H)
    rw [← ascii_sg] at k
    walk_at "g"
    refine r_ite (fun e => ?_) fun e => ?_
    · rw [e] at k
      walk_at "g"
      exact k
    · rw [e] at k
      exact k
theorem ok_refuse (T : Tx K mg) {CT : Addr} (O_TooMany : OL P w K mg base "TooMany" "many" CT) {f : Addr} {fd : FuncData} (F : Fun K "_refuse_too_many" "_refuse_too_many" s_refuse_too_many f fd) : FnOk P w K mg base (L2.CX P w) 4 f fd P_refuse_too_many (spRefuseY CT) := by
  refine F.okX sc_refuse_too_many (fun vs H Q E h => ?_) (fun cdv A outer s H vs Q E hr h => ?_)
  · obtain ⟨n, rfl, _⟩ := h
    rfl
  · obtain ⟨n, rfl, k, ke⟩ := h
    refine ⟨_, (pss_one (ps_if (pt_cmpR op_gtA (pv 0) (pe_gI T.c_MOST_WORDS rfl) (nomark _)) (pss_one (ps_rzL (K := K) (W := (fun cls d _ H' => E cls d H')) rfl rfl (takes_of rfl rfl rfl rfl) O_TooMany (hr.mono (by decide)) rfl (by exact (pa_cons (pv 0) pa_nil)))) pss_nil)), ?_⟩
    walk_at "g"
    refine r_iteD (fun c => ?_) fun c => ?_
    · walk_at "g"
      exact rz_oneL O_TooMany.T O_TooMany.nf (ke c)
    · walk_at "g"
      exact k (by omega)
theorem ok_is_word (T : Tx K mg) {f f_are_signs : Addr} {fd fd_are_signs : FuncData} (F : Fun K "is_word" "is_word" s_is_word f fd)
    (D_are_signs : DAt K mg "are_signs" s_are_signs P_are_signs f_are_signs fd_are_signs) : FnOk P w K mg base CX0 2 f fd P_is_word spIsWordE := by
  have G_are_signs : FnOk P w K mg base CX0 1 f_are_signs fd_are_signs P_are_signs spSigns := ok_are_signs T D_are_signs.fn
  refine F.ok sc_is_word (fun vs H Q E h => ?_) (fun cdv A outer s H vs Q E hr h => ?_)
  · obtain ⟨B, x, d, rfl, _⟩ := h
    rfl
  · obtain ⟨B, x, d, rfl, hx, k⟩ := h
    refine ⟨_, (pss_one (ps_ret (pe_and (pe_callB (L2.call_isi : CallR _ _ (rIsi K)) (by rfl) T.z_isinstance (by decide +kernel) (pa_cons (pv 0) (pa_cons (pe_bltn (v := .ty "str") (u := .type "str") rfl T.z_str (by decide +kernel) rfl) pa_nil))) (pe_and (pe_cmpR op_leA (pe_callB (call_lenA : CallR _ _ (rLen K)) (by rfl) T.z_len (by decide +kernel) (pa_cons (pv 0) pa_nil)) (pe_gI T.c_MOST_SIGNS rfl) (nomark _)) (pe_one (pe_call G_are_signs (hr.mono (by decide)) rfl D_are_signs.gl D_are_signs.fn.kp D_are_signs.bd .nil pass0 (pa_cons (pv 0) pa_nil))))))), ?_⟩
    walk_at "g"
    refine hx.isS ?_
    cases e1 : isSD d with
    | false =>
      have : wdD d = false := by cases d <;> first | rfl | exact (Bool.false_ne_true e1.symm).elim
      rw [this] at k
      exact ⟨_, rfl, iteF (k H (Same.refl H))⟩
    | true =>
      obtain ⟨z, rfl, rfl, hz, c126⟩ := hx.S_of e1
      refine ⟨_, rfl, iteT ?_⟩
      walk_at "g"
      refine r_len (Nat.le_trans hz (by decide)) ?_
      walk_at "g"
      have k : ∀ H', Same H H' → Q (.bl (decide (z.length ≤ 40) && sg (cd z))) H' := k
      refine r_iteD (fun c => ?_) fun c => ?_
      · walk_at "g"
        rw [decide_eq_true (show z.length ≤ 40 by omega), Bool.true_and] at k
        exact ⟨z, rfl, by omega, k⟩
      · rw [decide_eq_false (show ¬ z.length ≤ 40 by omega), Bool.false_and] at k
        exact k H (Same.refl H)
theorem ok_is_line (T : Tx K mg) {f f_are_signs : Addr} {fd fd_are_signs : FuncData} (F : Fun K "is_line" "is_line" s_is_line f fd) (D_are_signs : DAt K mg "are_signs" s_are_signs P_are_signs f_are_signs fd_are_signs) : FnOk P w K mg base CX0 2 f fd P_is_line spIsLineE := by
  have G_are_signs : FnOk P w K mg base CX0 1 f_are_signs fd_are_signs P_are_signs spSigns := ok_are_signs T D_are_signs.fn
  refine F.ok sc_is_line (fun vs H Q E h => ?_) (fun cdv A outer s H vs Q E hr h => ?_)
  · obtain ⟨B, x, d, rfl, _⟩ := h
    rfl
  · obtain ⟨B, x, d, rfl, hx, k⟩ := h
    refine ⟨_, (pss_one (ps_ret (pe_and3 (pe_callB (L2.call_isi : CallR _ _ (rIsi K)) (by rfl) T.z_isinstance (by decide +kernel) (pa_cons (pv 0) (pa_cons (pe_bltn (v := .ty "str") (u := .type "str") rfl T.z_str (by decide +kernel) rfl) pa_nil))) (pe1_cmp op_leA (pe1_len rfl T.z_len (pv 0)) (pe_gI T.c_MOST_LINE rfl) (nomark _))
      (pet_call G_are_signs (hr.mono (by decide)) rfl D_are_signs.gl D_are_signs.fn.kp D_are_signs.bd .nil pass0 (pat_cons (CwR.pet_replC (pv 0)) pat_nil))))), ?_⟩
    walk_at "g"
    refine hx.isS ?_
    cases e1 : isSD d with
    | false =>
      have : lineE d = false := by cases d <;> first | rfl | exact (Bool.false_ne_true e1.symm).elim
      rw [this] at k
      exact ⟨_, rfl, iteF (k H (Same.refl H))⟩
    | true =>
    obtain ⟨z, rfl, rfl, hz, c126⟩ := hx.S_of e1
    replace k : ∀ H', Same H H' → Q (.bl (decide (z.length ≤ 2000) && sg ((cd z).filter fun c => decide (c ≠ 10)))) H' := k
    replace hz : z.length ≤ 1000000 := Nat.le_trans hz (by decide)
    refine ⟨_, rfl, iteT ?_⟩
    walk_at "g"
    refine ⟨.str z, rfl, z, rfl, Nat.le_trans hz (by decide), ?_⟩
    walk_at "g"
    refine r_iteD (fun c => ?_) fun c => ?_
    · have c' : z.length ≤ 2000 := by omega
      walk_at "g"
      refine ⟨.str z, rfl, z, rfl, Nat.le_trans (show _ ≤ 2000 by show z.length + (z.length + 1) * 0 ≤ 2000; omega) (by decide), ?_⟩
      walk_at "g"
      refine ⟨_, rfl, ?_, fun H' s => ?_⟩
      · rw [len_cd, repl_nl]
        exact Nat.le_trans (List.length_filter_le ..) (by rw [← len_cd]; omega)
      · rw [repl_nl]
        have := k H' s
        rwa [decide_eq_true c', Bool.true_and] at this
    · have c' : ¬ z.length ≤ 2000 := by omega
      have := k H (Same.refl H)
      rwa [decide_eq_false c', Bool.false_and] at this
theorem ok_longer (T : Tx K mg) {CB : Addr} (O_BadSign : OE P w K mg base "BadSign" "at" CB) {f : Addr} {fd : FuncData} (F : Fun K "_longer" "_longer" s_longer f fd) : FnOk P w K mg base (L2.CX P w) 4 f fd P_longer (spLongerX CB) := by
  refine F.okX sc_longer (fun vs H Q E h => ?_) (fun cdv A outer s H vs Q E hr h => ?_)
  · obtain ⟨b, c, i, rfl, _⟩ := h
    rfl
  · obtain ⟨b, c, i, rfl, hl, k, ke⟩ := h
    refine ⟨_, (pss_cons (ps_set (i := 3) sc_longer.nd rfl (Or.inl rfl) (pe_op (oAdd : OpR _ _ (J.rAdd K)) (asOrT (K := K) rfl (pe_orT (pv 0) (pe_one pe_str))) (pv 1))) (pss_cons (ps_if (pt_cmpR op_gtA (pe_callB (call_lenA : CallR _ _ (rLen K)) (by rfl) T.z_len (by decide +kernel) (pa_cons (pv 3) pa_nil)) (pe_gI T.c_MOST_SIGNS rfl) (nomark _)) (pss_one (ps_rzK (K := K) (W := (fun cls d _ H' => E cls d H')) rfl rfl (takes_of rfl rfl rfl rfl) O_BadSign (hr.mono (by decide)) rfl (by exact (pa_cons (pv 2) pa_nil)))) pss_nil) (pss_one (ps_ret (pv 3))))), ?_⟩
    have fin : ∀ l : List Nat, l = b.getD [] ++ [c] → tSeq (tIfS (tTest (tOp (rCmp (fun i j => decide (j < i)) fun a b => decide (b < a)) (tCB (rLen K) (tCons (tVar 3) tNil)) (tC (.int 40)))) (tRz CB (spInit K "at") (tCons (tVar 2) tNil) fun cls d _ H' => E cls d H') tNext) (tRet (tVar 3)) { nx := fun _ H' => Q .non H', rt := Q } [some (obV b), some (.str ⟨#[c]⟩), some (.int i), some (.str (S l))] H := fun l hl' => by
      subst hl'
      have hl2 : (b.getD [] ++ [c]).length = (b.getD []).length + 1 := by simp
      walk_at "g"
      refine r_len (le_line (by rw [S_len, hl2]; omega)) ?_
      walk_at "g"
      refine r_iteD (fun c1 => ?_) fun c1 => ?_
      · walk_at "g"
        exact rz_one O_BadSign.T O_BadSign.nf (ke (by rw [S_len, hl2] at c1; omega))
      · walk_at "g"
        exact k (by rw [S_len, hl2] at c1; omega)
    refine r_seqJ (fun σ' H' => σ' = [some (obV b), some (.str ⟨#[c]⟩), some (.int i), some (.str (S (b.getD [] ++ [c])))] ∧ H' = H) (fun N hN => ?_) ?_
    · cases b with
      | none =>
        simp only [obV]
        walk_at "g"
        refine r_addS (a := "") (b := ⟨#[c]⟩) (le_line (show 0 + 1 ≤ 16777216 by decide)) ?_
        rw [S_nil_app]
        walk_at "g"
        exact hN _ _ ⟨rfl, rfl⟩
      | some l =>
        simp only [obV]
        walk_at "g"
        refine r_truS (Nat.le_trans (show _ ≤ 40 by rw [S_len]; exact hl) (by decide)) (fun e => ?_) fun _ => ?_
        · rw [S_len] at e
          obtain rfl := List.eq_nil_of_length_eq_zero e
          walk_at "g"
          refine r_addS (a := "") (b := ⟨#[c]⟩) (le_line (show 0 + 1 ≤ 16777216 by decide)) ?_
          rw [S_nil_app]
          walk_at "g"
          exact hN _ _ ⟨rfl, rfl⟩
        · walk_at "g"
          refine r_addS (a := S l) (b := ⟨#[c]⟩) (le_line (Nat.le_trans (show _ ≤ 40 + 1 by rw [S_len]; exact Nat.add_le_add_right hl 1) (by decide))) ?_
          rw [S_app_one]
          walk_at "g"
          exact hN _ _ ⟨rfl, rfl⟩
    rintro σ' H' ⟨rfl, rfl⟩
    exact fin _ rfl
end
end K07

namespace K07
open PySem PySem.Spec PyProof.Rows L2 J M
local macro_rules | `(tactic| walk_at "hp") => `(tactic| first | assumption | exact upd_same | (rw [upd_ne (by assumption)]; walk_at "hp") | (rw [upd_ne (Ne.symm (by assumption))]; walk_at "hp"))
local macro_rules | `(tactic| walk_at "s") => `(tactic| first
  | ((with_reducible refine' r_var ?h ?k); (case h => exact rfl))
  | (with_reducible refine r_c ?_)
  | (with_reducible refine r_op ?_)
  | (with_reducible refine r_un ?_)
  | (with_reducible refine r_seq ?_)
  | (with_reducible refine r_next ?_)
  | (with_reducible refine r_sets ?_)
  | (with_reducible refine r_gname ?_)
  | (with_reducible refine r_ifS ?_)
  | (with_reducible refine r_gsub ?_)
  | (with_reducible refine r_test ?_)
  | (with_reducible refine r_tb ?_)
  | (with_reducible refine r_not ?_)
  | (with_reducible refine r_and ?_)
  | (with_reducible refine r_or ?_)
  | (with_reducible refine r_andV ?_)
  | (with_reducible refine r_orV ?_)
  | (with_reducible refine r_notV ?_)
  | (with_reducible refine r_ifE ?_)
  | (with_reducible refine r_chain ?_)
  | (with_reducible refine r_cb ?_)
  | (with_reducible refine r_cons ?_)
  | (with_reducible refine r_nil ?_)
  | (with_reducible refine r_call ?_)
  | (with_reducible refine r_lst ?_)
  | (with_reducible refine r_tup ?_)
  | (with_reducible refine r_slice ?_)
  | (with_reducible refine r_nop ?_)
  | (with_reducible refine r_part ?_)
  | (with_reducible refine r_bm ?_)
  | (with_reducible refine r_m1 ?_)
  | (with_reducible refine r_m0 ?_)
  | (with_reducible refine r_is ?_)
  | (with_reducible refine r_maxD ?_)
  | (with_reducible refine r_orT ?_)
  | (with_reducible refine r_truN ?_)
  | (with_reducible refine r_intI ?_)
  | (with_reducible refine r_intB ?_)
  | (with_reducible refine r_max2 ?_)
  | (with_reducible refine r_min2 ?_)
  | (with_reducible refine r_yes ?_)
  | (with_reducible refine r_bl ?_)
  | (with_reducible refine iteT ?_)
  | (with_reducible refine iteF ?_)
  | (with_reducible refine r_iteNT ?_)
  | (with_reducible refine r_iteNF ?_)
  | (with_reducible refine r_minL ?_)
  | (with_reducible refine r_gcons ?_)
  | (with_reducible refine r_gnil ?_)
  | (with_reducible refine r_par ?_)
  | (with_reducible refine r_par3 ?_)
  | (with_reducible refine r_is2 ?_)
  | (with_reducible refine r_is3 ?_)
  | (with_reducible refine r_dget ?_)
  | (with_reducible refine r_callS ?_)
  | (with_reducible refine r_rz ?_)
  | (with_reducible refine r_rev ?_)
  | (with_reducible refine r_isI ?_)
  | (with_reducible refine r_isStr ?_)
  | (with_reducible refine r_ret ?_)
  | (with_reducible refine r_drop ?_)
  | (with_reducible refine r_rI0 ?_)
  | (with_reducible refine r_addI ?_)
  | ((with_reducible show rI (fun _ j => 0 < j) _ (.int _) (.int _) _ _); refine r_rI (by first | omega | decide) ?_)
  | ((with_reducible show rI CDiv _ (.int _) (.int _) _ _); refine r_rI (by constructor <;> omega) ?_)
  | ((with_reducible show rI CPow _ (.int _) (.int _) _ _); refine r_rI (by refine ⟨by decide, by decide, ?_⟩; omega) ?_)
  | ((with_reducible show rMul (.int _) (.int _) _ _); refine r_mulI (cmulW (by omega) (by omega)) ?_)
  | (with_reducible refine r_cmpI ?_)
  | (with_reducible refine r_cmpS ?_)
  | (with_reducible refine r_eqI ?_)
  | (with_reducible refine r_neI ?_)
  | (with_reducible refine r_eqS ?_)
  | (with_reducible refine r_neS ?_)
  | (with_reducible refine r_inSF ?_)
  | (with_reducible refine r_inST ?_)
  | (with_reducible refine r_isiStr ?_)
  | ((with_reducible show rIx _ (.ref _) (.int _) _ _); refine' r_ixL (SqL.of ?h) ?e ?_; (case h => walk_at "hp"); (case e => rfl))
  | ((with_reducible show rSetL (.ref _) (.int _) _ _ _); refine' r_setL ?h ?e ?_; (case h => walk_at "hp"); (case e => rfl)))
local macro_rules | `(tactic| walk_at "g") => `(tactic| repeat walk_at "s")


local macro_rules | `(tactic| walk_at "x") => `(tactic| first | omega | (simp only [one_nl, one_bs, one_q1, one_q2, qS_nil, qS_q1, one_qS, mem_part, mem_qs, mem_all]; omega))
local macro_rules | `(tactic| walk_at "d") => `(tactic| first
  | (with_reducible refine iteDT (by walk_at "x") ?_)
  | (with_reducible refine iteDF (by walk_at "x") ?_)
  | (with_reducible refine iteNT (by walk_at "x") ?_)
  | (with_reducible refine iteNF (by walk_at "x") ?_))
local macro_rules | `(tactic| walk_at "G") => `(tactic| repeat (first | walk_at "s" | walk_at "d"))
section
variable {P : Program} {w : World} {K : PySem.W.Frag} {mg : Str → Option Value} {base : Heap} {CL CI CS CW CB CT : Addr}
theorem ok_scanned (T : Tx K mg) (O_NoLine : OE P w K mg base "NoLine" "found" CL) (O_BadSign : OE P w K mg base "BadSign" "at" CB) {f f_is_line f_are_signs f_longer : Addr} {fd fd_is_line fd_are_signs fd_longer : FuncData} (F : Fun K "_scanned" "_scanned" s_scanned f fd)
    (D_is_line : DAt K mg "is_line" s_is_line P_is_line f_is_line fd_is_line) (D_are_signs : DAt K mg "are_signs" s_are_signs P_are_signs f_are_signs fd_are_signs) (D_longer : DAt K mg "_longer" s_longer P_longer f_longer fd_longer) : FnOk P w K mg base (L2.CX P w) 5 f fd P_scanned (spScannedE CL CB) := by
  have G_is_line : FnOk P w K mg base CX0 2 f_is_line fd_is_line P_is_line spIsLineE := ok_is_line T D_is_line.fn D_are_signs
  have G_longer : FnOk P w K mg base (L2.CX P w) 4 f_longer fd_longer P_longer (spLongerX CB) := ok_longer T O_BadSign D_longer.fn
  obtain ⟨qa, hqa, sqa⟩ := T.c_QUOTES
  refine F.okX sc_scanned (fun vs H Q E h => ?_) (fun cdv A outer s H vs Q E hr h => ?_)
  · obtain ⟨B, x, d, rfl, _⟩ := h
    rfl
  · obtain ⟨B, x, d, rfl, hx, kn, k⟩ := h
    refine ⟨_, (pss_cons (ps_if (pt_not (pt_val (pe_call G_is_line (hr.mono (by decide)) rfl D_is_line.gl D_is_line.fn.kp D_is_line.bd .nil pass0 (pa_cons (pv 0) pa_nil)))) (pss_one (ps_rzK (K := K) (W := (fun cls d _ H' => E cls d H')) rfl rfl (takes_of rfl rfl rfl rfl) O_NoLine (hr.mono (by decide)) rfl (by exact (pa_cons (pv 0) pa_nil)))) pss_nil) (pss_cons (ps_asg (pe_tup (pa_cons (pe_lst pa_nil) (pa_cons pe_non (pa_cons pe_str (pa_cons pe_int (pa_cons pe_bl pa_nil)))))) (asGTup (K := K) rfl (pg_tup rfl (pgs_cons (pg_name (i := 1) sc_scanned.nd rfl (Or.inl rfl)) (pgs_cons (pg_name (i := 2) sc_scanned.nd rfl (Or.inl rfl)) (pgs_cons (pg_name (i := 3) sc_scanned.nd rfl (Or.inl rfl)) (pgs_cons (pg_name (i := 4) sc_scanned.nd rfl (Or.inl rfl)) (pgs_cons (pg_name (i := 5) sc_scanned.nd rfl (Or.inl rfl)) pgs_nil)))))))) (pss_cons (ps_for (passes_of rfl) rfl (pi_enumS rfl T.z_enumerate (pa_cons (pv 0) pa_nil)) (asGTup (K := K) rfl (pg_tup rfl (pgs_cons (pg_name (i := 6) sc_scanned.nd rfl (Or.inl rfl)) (pgs_cons (pg_name (i := 7) sc_scanned.nd rfl (Or.inl rfl)) pgs_nil)))) (pss_cons (ps_if (PW.pt (pw_and (pt_cmpR ((op_eqA hr.units) : OpR _ _ (rEqA K)) (pv 7) pe_str (nomark _)) (pw_and1 (PW.pt (pw_or (pt_val (pv 5)) (pw_or1 (pt_cmpR ((op_neA hr.units) : OpR _ _ (rNeA K)) (pv 3) pe_str (nomark _)))))))) (pss_one (ps_rzK (K := K) (W := (fun cls d _ H' => E cls d H')) rfl rfl (takes_of rfl rfl rfl rfl) O_BadSign (hr.mono (by decide)) rfl (by exact (pa_cons (pv 6) pa_nil)))) pss_nil) (pss_one (ps_if (pt_val (pv 5)) (pss_one (ps_par (i := 2) (j := 5) rfl sc_scanned.nd rfl rfl (by decide) rfl rfl (pa_cons (pe_callS (E := WE (fun cls d _ H' => E cls d H')) G_longer (hr.mono (by decide)) rfl D_longer.gl D_longer.fn.kp D_longer.bd (fun σ => passAt (takes_of rfl rfl rfl rfl) σ) (by exact (pa_cons (pv 2) (pa_cons (pv 7) (pa_cons (pv 6) pa_nil))))) (pa_cons pe_bl pa_nil)) rfl)) (pss_one (ps_if (PW.pt (pw_and (pt_cmpR ((op_eqA hr.units) : OpR _ _ (rEqA K)) (pv 7) pe_str (nomark _)) (pw_and1 (pt_cmpR ((op_neA hr.units) : OpR _ _ (rNeA K)) (pv 3) pe_str (nomark _))))) (pss_one (ps_set (i := 5) sc_scanned.nd rfl (Or.inl rfl) pe_bl)) (pss_one (ps_if (pt_cmpR ((op_eqA hr.units) : OpR _ _ (rEqA K)) (pv 7) (pv 3) (nomark _)) (pss_one (ps_set (i := 3) sc_scanned.nd rfl (Or.inl rfl) pe_str)) (pss_one (ps_if (PW.pt (pw_and (pt_cmpR ((op_eqA hr.units) : OpR _ _ (rEqA K)) (pv 3) pe_str (nomark _)) (pw_and1 (pt_cmpR (op_inA : OpR _ _ (rInA K false)) (pv 7) (pe_gR hqa rfl) (by rfl))))) (pss_one (ps_par3 (i := 2) (j := 3) (l := 4) rfl sc_scanned.nd rfl rfl rfl (by decide) (by decide) (by decide) rfl rfl rfl (pa_cons (asOrT (K := K) rfl (pe_orT (pv 2) (pe_one pe_str))) (pa_cons (pv 7) (pa_cons (pv 6) pa_nil))) rfl)) (pss_one (ps_if (PW.pt (pw_and (pt_cmpR ((op_eqA hr.units) : OpR _ _ (rEqA K)) (pv 3) pe_str (nomark _)) (pw_and1 (pt_cmpR (op_inA : OpR _ _ (rInA K false)) (pv 7) (pe_gS T.c_PARTING rfl) (by rfl))))) (pss_cons (ps_if (pt_cmpR L2.op_notN (pv 2) pe_non (nomark _)) (pss_one (ps_expr (asBM (K := K) rfl (pe_bm PySem.F.plainAttrs_list PySem.F.slot_list_append PySem.F.type_list_append mt_append (pv 1) (pa_cons (pv 2) pa_nil))))) pss_nil) (pss_one (ps_set (i := 2) sc_scanned.nd rfl (Or.inl rfl) pe_non))) (pss_one (ps_set (i := 2) sc_scanned.nd rfl (Or.inl rfl) (pe_callS (E := WE (fun cls d _ H' => E cls d H')) G_longer (hr.mono (by decide)) rfl D_longer.gl D_longer.fn.kp D_longer.bd (fun σ => passAt (takes_of rfl rfl rfl rfl) σ) (by exact (pa_cons (pv 2) (pa_cons (pv 7) (pa_cons (pv 6) pa_nil))))))))))))))))))) (pss_cons (ps_if (pt_val (pv 5)) (pss_one (ps_rzK (K := K) (W := (fun cls d _ H' => E cls d H')) rfl rfl (takes_of rfl rfl rfl rfl) O_BadSign (hr.mono (by decide)) rfl (by exact (pa_cons (pe_op L2.op_sub (pe_callB (call_lenA : CallR _ _ (rLen K)) (by rfl) T.z_len (by decide +kernel) (pa_cons (pv 0) pa_nil)) pe_int) pa_nil)))) pss_nil) (pss_one (ps_ret (pe_tup (pa_cons (pv 1) (pa_cons (pv 2) (pa_cons (pv 3) (pa_cons (pv 4) pa_nil))))))))))), ?_⟩
    walk_at "g"
    refine ⟨B, x, d, rfl, hx, fun H1 s1 => ?_⟩
    cases e1 : lineE d with
    | false =>
      walk_at "g"
      exact rz_one O_NoLine.T O_NoLine.nf ((kn e1).at s1)
    | true =>
    obtain ⟨z, rfl, rfl, _, _⟩ := hx.S_of (d := d) (by cases d <;> first | rfl | exact (Bool.false_ne_true e1).elim)
    have hz := lineE_lf e1
    obtain ⟨ke, kt, k⟩ := k z rfl hz
    walk_at "g"
    refine ⟨by decide, fun p hp => ?_⟩
    walk_at "g"
    refine ⟨show 5 ≤ sizeLine by decide, fun p2 hp2 => ?_⟩
    have n2 : p ≠ p2 := (new_ne hp2 upd_same).symm
    refine r_gtup (SqT.of upd_same) rfl ?_
    walk_at "g"
    have hn : H p = none := s1.none hp
    refine r_forEnum (z := z) rfl (fun j σ' H' => ∃ (u : Sc) (x y : Option V), scan stP 0 sc0 ((cd z).take j) = .ok u ∧ σ' = [some (.str z), some (.ref p), some (obV u.bg), some (.str (qS u.qt)), some (.int u.op), some (.bl u.tk), x, y] ∧
      Same H H' ∧ H' p = some (.lst (u.ws.map wV)) ∧ u.ws.length ≤ j) ?_ ?_ ?_
    · exact ⟨sc0, _, _, rfl, rfl, ((s1.trans ((Same.refl H1).at hp _)).new hp2 _), by rw [upd_ne n2, upd_same]; rfl, Nat.le_refl _⟩
    · rintro j σ1 H2 A1 c hc ⟨⟨ws, bg, qt, op, tk1⟩, x, y, hsc, rfl, s2, h2, hl⟩ hA
      have c0 := hz.2 c (List.mem_of_getElem? hc)
      have nA : p ≠ A1 := (new_ne hA h2).symm
      have s3 := s2.new hA (HO.tup [.int (j : Nat), .str ⟨#[c]⟩])
      have h3 : upd H2 A1 (HO.tup [.int (j : Nat), .str ⟨#[c]⟩]) p = some (.lst (ws.map wV)) := by rw [upd_ne nA]; exact h2
      have hA3 : upd H2 A1 (HO.tup [.int (j : Nat), .str ⟨#[c]⟩]) A1 = some (HO.tup [.int (j : Nat), .str ⟨#[c]⟩]) := upd_same
      generalize upd H2 A1 (HO.tup [.int (j : Nat), .str ⟨#[c]⟩]) = H3 at s3 h3 hA3 ⊢
      refine r_gtup (SqT.of hA3) rfl ?_
      have j1 : ws.length ≤ j := hl
      have j0 : j ≤ 2000 := Nat.le_trans (Nat.le_of_lt (List.getElem?_eq_some_iff.mp hc).1) hz.1
      have bgl : (bg.getD []).length ≤ 40 := scan_bg hsc
      have e0 := scan_take_succ hc hsc
      have nxt : ∀ v, stP ⟨ws, bg, qt, op, tk1⟩ j c = .ok v → scan stP 0 sc0 ((cd z).take (j + 1)) = .ok v := fun v h => e0.trans h
      have err : ∀ e, stP ⟨ws, bg, qt, op, tk1⟩ j c = .error e → Err CB "at" (.int (e : Nat)) H3 E := fun e h => (ke e (scan_take_err (e0.trans h))).at s3
      simp only [stP] at nxt err
      walk_at "s"
      walk_at "s"
      walk_at "s"
      walk_at "s"
      walk_at "s"
      refine r_seqJ (fun σ' H' => σ' = [some (.str z), some (.ref p), some (obV bg), some (.str (qS qt)), some (.int op), some (.bl tk1), some (.int j), some (.str ⟨#[c]⟩)] ∧ H' = H3 ∧ ¬ (c = 10 ∧ (tk1 = true ∨ qt ≠ 0))) (fun N hN => ?_) ?_
      · by_cases cN : c = 10 ∧ (tk1 = true ∨ qt ≠ 0)
        · rw [if_pos cN] at err
          have er := err _ rfl
          cases tk1 with
          | true =>
            walk_at "G"
            exact rz_one O_BadSign.T O_BadSign.nf er
          | false =>
            have q0 : qt ≠ 0 := cN.2.resolve_left (fun h => by cases h)
            walk_at "G"
            exact rz_one O_BadSign.T O_BadSign.nf er
        · by_cases c10 : c = 10
          · cases tk1 with
            | true => exact absurd ⟨c10, .inl rfl⟩ cN
            | false =>
              have q0 : qt = 0 := Classical.byContradiction fun h => cN ⟨c10, .inr h⟩
              walk_at "G"
              exact hN _ _ ⟨rfl, rfl, cN⟩
          · walk_at "G"
            exact hN _ _ ⟨rfl, rfl, cN⟩
      rintro σ3 H4 ⟨rfl, rfl, cN⟩
      rw [if_neg cN] at nxt err
      have leaf : ∀ v : Sc, scan stP 0 sc0 ((cd z).take (j + 1)) = .ok v → v.ws = ws → ∀ x y : Option V, ∃ (u : Sc) (x' y' : Option V), scan stP 0 sc0 ((cd z).take (j + 1)) = .ok u ∧ [some (V.str z), some (.ref p), some (obV v.bg), some (.str (qS v.qt)), some (.int v.op), some (.bl v.tk), x, y] = [some (.str z), some (.ref p), some (obV u.bg), some (.str (qS u.qt)), some (.int u.op), some (.bl u.tk), x', y'] ∧ Same H H4 ∧ H4 p = some (.lst (u.ws.map wV)) ∧ u.ws.length ≤ j + 1 :=
        fun v hv hw x y => ⟨v, x, y, hv, rfl, s3, by rw [hw]; exact h3, by rw [hw]; exact Nat.le_succ_of_le j1⟩
      have ll : (bg.getD [] ++ [c]).length = (bg.getD []).length + 1 := by simp
      cases tk1 with
      | true =>
        rw [if_pos rfl] at nxt err
        walk_at "G"
        refine ⟨bg, c, j, rfl, bgl, fun lb => ?_, fun lb => ?_⟩
        · rw [if_neg (by omega)] at nxt
          walk_at "G"
          exact leaf _ (nxt _ rfl) rfl _ _
        · rw [if_pos (by omega)] at err
          exact err _ rfl
      | false =>
        rw [if_neg Bool.false_ne_true] at nxt err
        by_cases cA : c = 92 ∧ qt ≠ 39
        · rw [if_pos cA] at nxt
          walk_at "G"
          exact leaf _ (nxt _ rfl) rfl _ _
        rw [if_neg cA] at nxt err
        by_cases cB : c = qt
        · rw [if_pos cB] at nxt
          by_cases c92 : c = 92
          · omega
          walk_at "G"
          exact leaf _ (nxt _ rfl) rfl _ _
        rw [if_neg cB] at nxt err
        by_cases cC : qt = 0 ∧ (c = 39 ∨ c = 34)
        · rw [if_pos cC] at nxt
          by_cases c92 : c = 92
          · omega
          walk_at "G"
          refine r_inQ (sqa _) ?_
          walk_at "G"
          have e0 : qS c = ⟨#[c]⟩ := by rw [eq_comm, one_qS]; omega
          have lf := leaf _ (nxt _ rfl) rfl (some (.int j)) (some (.str ⟨#[c]⟩))
          simp only [e0] at lf
          cases bg with
          | none =>
            simp only [obV]
            walk_at "G"
            exact lf
          | some l =>
            simp only [obV]
            refine r_truS (Nat.le_trans (show _ ≤ 40 by rw [S_len]; exact bgl) (by decide)) (fun e => ?_) fun _ => ?_
            · rw [S_len] at e
              obtain rfl := List.eq_nil_of_length_eq_zero e
              walk_at "G"
              exact lf
            · walk_at "G"
              exact lf
        rw [if_neg cC] at nxt err
        by_cases cD : qt = 0 ∧ (c = 32 ∨ c = 10)
        · rw [if_pos cD] at nxt
          by_cases c92 : c = 92
          · omega
          walk_at "G"
          refine r_inQ (sqa _) ?_
          walk_at "G"
          refine ⟨rfl, ?_⟩
          walk_at "G"
          cases bg with
          | none =>
            refine iteNF rfl ?_
            walk_at "G"
            exact leaf _ (nxt _ rfl) rfl _ _
          | some l =>
            refine iteNT (fun e => by cases e) ?_
            walk_at "G"
            refine r_tyL h3 ?_
            walk_at "G"
            refine r_app h3 (by rw [List.length_map]; exact Nat.lt_of_le_of_lt j1 (Nat.lt_of_le_of_lt j0 (by decide))) ?_
            walk_at "G"
            exact ⟨_, _, _, nxt _ rfl, rfl, s3.at hn _, by rw [upd_same, List.map_append]; rfl, by rw [List.length_append]; exact Nat.succ_le_succ j1⟩
        rw [if_neg cD] at nxt err
        by_cases c92 : c = 92
        · walk_at "G"
          refine ⟨bg, c, j, rfl, bgl, fun lb => ?_, fun lb => ?_⟩
          · rw [if_neg (by omega)] at nxt
            walk_at "G"
            exact leaf _ (nxt _ rfl) rfl _ _
          · rw [if_pos (by omega)] at err
            exact err _ rfl
        · by_cases q0 : qt = 0
          · walk_at "G"
            refine r_inQ (sqa _) ?_
            walk_at "G"
            refine ⟨bg, c, j, rfl, bgl, fun lb => ?_, fun lb => ?_⟩
            · rw [if_neg (by omega)] at nxt
              walk_at "G"
              exact leaf _ (nxt _ rfl) rfl _ _
            · rw [if_pos (by omega)] at err
              exact err _ rfl
          · walk_at "G"
            refine ⟨bg, c, j, rfl, bgl, fun lb => ?_, fun lb => ?_⟩
            · rw [if_neg (by omega)] at nxt
              walk_at "G"
              exact leaf _ (nxt _ rfl) rfl _ _
            · rw [if_pos (by omega)] at err
              exact err _ rfl
    · rintro σ1 H2 ⟨u, x, y, hsc, rfl, s2, h2, hl⟩
      rw [List.take_length] at hsc
      obtain ⟨ws, bg, qt, op, tk1⟩ := u
      cases tk1 with
      | true =>
        walk_at "G"
        refine r_len (by rw [len_cd]; exact Nat.le_trans hz.1 (by decide)) ?_
        rw [len_cd]
        walk_at "G"
        exact rz_one O_BadSign.T O_BadSign.nf ((kt _ hsc rfl).at s2)
      | false =>
        walk_at "G"
        refine ⟨show 4 ≤ sizeLine by decide, fun p3 hp3 => ?_⟩
        walk_at "G"
        have n3 : p ≠ p3 := (new_ne hp3 h2).symm
        exact k _ hsc rfl p3 p _ (s2.none hp3) hn (s2.new hp3 _) upd_same (by rw [upd_ne n3]; exact h2) n3.symm
end
end K07

namespace K07
open PySem PySem.Spec PyProof.Rows L2 J M
local macro_rules | `(tactic| walk_at "hp") => `(tactic| first | assumption | exact upd_same | (rw [upd_ne (by assumption)]; walk_at "hp") | (rw [upd_ne (Ne.symm (by assumption))]; walk_at "hp"))
local macro_rules | `(tactic| walk_at "s") => `(tactic| first
  | ((with_reducible refine' r_var ?h ?k); (case h => exact rfl))
  | (with_reducible refine r_c ?_)
  | (with_reducible refine r_op ?_)
  | (with_reducible refine r_un ?_)
  | (with_reducible refine r_seq ?_)
  | (with_reducible refine r_next ?_)
  | (with_reducible refine r_sets ?_)
  | (with_reducible refine r_gname ?_)
  | (with_reducible refine r_ifS ?_)
  | (with_reducible refine r_gsub ?_)
  | (with_reducible refine r_test ?_)
  | (with_reducible refine r_tb ?_)
  | (with_reducible refine r_not ?_)
  | (with_reducible refine r_and ?_)
  | (with_reducible refine r_or ?_)
  | (with_reducible refine r_andV ?_)
  | (with_reducible refine r_orV ?_)
  | (with_reducible refine r_notV ?_)
  | (with_reducible refine r_ifE ?_)
  | (with_reducible refine r_chain ?_)
  | (with_reducible refine r_cb ?_)
  | (with_reducible refine r_cons ?_)
  | (with_reducible refine r_nil ?_)
  | (with_reducible refine r_call ?_)
  | (with_reducible refine r_lst ?_)
  | (with_reducible refine r_tup ?_)
  | (with_reducible refine r_slice ?_)
  | (with_reducible refine r_nop ?_)
  | (with_reducible refine r_part ?_)
  | (with_reducible refine r_bm ?_)
  | (with_reducible refine r_m1 ?_)
  | (with_reducible refine r_m0 ?_)
  | (with_reducible refine r_is ?_)
  | (with_reducible refine r_maxD ?_)
  | (with_reducible refine r_orT ?_)
  | (with_reducible refine r_truN ?_)
  | (with_reducible refine r_intI ?_)
  | (with_reducible refine r_intB ?_)
  | (with_reducible refine r_max2 ?_)
  | (with_reducible refine r_min2 ?_)
  | (with_reducible refine r_yes ?_)
  | (with_reducible refine r_bl ?_)
  | (with_reducible refine iteT ?_)
  | (with_reducible refine iteF ?_)
  | (with_reducible refine r_iteNT ?_)
  | (with_reducible refine r_iteNF ?_)
  | (with_reducible refine r_minL ?_)
  | (with_reducible refine r_gcons ?_)
  | (with_reducible refine r_gnil ?_)
  | (with_reducible refine r_par ?_)
  | (with_reducible refine r_par3 ?_)
  | (with_reducible refine r_is2 ?_)
  | (with_reducible refine r_is3 ?_)
  | (with_reducible refine r_dget ?_)
  | (with_reducible refine r_callS ?_)
  | (with_reducible refine r_rz ?_)
  | (with_reducible refine r_rev ?_)
  | (with_reducible refine r_isI ?_)
  | (with_reducible refine r_isStr ?_)
  | (with_reducible refine r_ret ?_)
  | (with_reducible refine r_drop ?_)
  | (with_reducible refine r_rI0 ?_)
  | (with_reducible refine r_addI ?_)
  | ((with_reducible show rI (fun _ j => 0 < j) _ (.int _) (.int _) _ _); refine r_rI (by first | omega | decide) ?_)
  | ((with_reducible show rI CDiv _ (.int _) (.int _) _ _); refine r_rI (by constructor <;> omega) ?_)
  | ((with_reducible show rI CPow _ (.int _) (.int _) _ _); refine r_rI (by refine ⟨by decide, by decide, ?_⟩; omega) ?_)
  | ((with_reducible show rMul (.int _) (.int _) _ _); refine r_mulI (cmulW (by omega) (by omega)) ?_)
  | (with_reducible refine r_cmpI ?_)
  | (with_reducible refine r_cmpS ?_)
  | (with_reducible refine r_eqI ?_)
  | (with_reducible refine r_neI ?_)
  | (with_reducible refine r_eqS ?_)
  | (with_reducible refine r_neS ?_)
  | (with_reducible refine r_inSF ?_)
  | (with_reducible refine r_inST ?_)
  | (with_reducible refine r_isiStr ?_)
  | ((with_reducible show rIx _ (.ref _) (.int _) _ _); refine' r_ixL (SqL.of ?h) ?e ?_; (case h => walk_at "hp"); (case e => rfl))
  | ((with_reducible show rSetL (.ref _) (.int _) _ _ _); refine' r_setL ?h ?e ?_; (case h => walk_at "hp"); (case e => rfl)))
local macro_rules | `(tactic| walk_at "g") => `(tactic| repeat walk_at "s")


local macro_rules | `(tactic| walk_at "x") => `(tactic| first | omega | (simp only [one_nl, one_bs, one_q1, one_q2, qS_nil, qS_q1, one_qS, mem_part, mem_qs, mem_all]; omega))
local macro_rules | `(tactic| walk_at "d") => `(tactic| first
  | (with_reducible refine iteDT (by walk_at "x") ?_)
  | (with_reducible refine iteDF (by walk_at "x") ?_)
  | (with_reducible refine iteNT (by walk_at "x") ?_)
  | (with_reducible refine iteNF (by walk_at "x") ?_))
local macro_rules | `(tactic| walk_at "G") => `(tactic| repeat (first | walk_at "s" | walk_at "d"))
section
variable {P : Program} {w : World} {K : PySem.W.Frag} {mg : Str → Option Value} {base : Heap} {CL CI CS CW CB CT : Addr}
theorem ok_cut_plainly (T : Tx K mg) {f f_is_line f_are_signs : Addr} {fd fd_is_line fd_are_signs : FuncData} (F : Fun K "_cut_plainly" "_cut_plainly" s_cut_plainly f fd)
    (D_is_line : DAt K mg "is_line" s_is_line P_is_line f_is_line fd_is_line) (D_are_signs : DAt K mg "are_signs" s_are_signs P_are_signs f_are_signs fd_are_signs) : FnOk P w K mg base CX0 3 f fd P_cut_plainly spCutPE := by
  have G_is_line : FnOk P w K mg base CX0 2 f_is_line fd_is_line P_is_line spIsLineE := ok_is_line T D_is_line.fn D_are_signs
  refine F.ok sc_cut_plainly (fun vs H Q E h => ?_) (fun cdv A outer s H vs Q E hr h => ?_)
  · obtain ⟨B, x, d, rfl, _⟩ := h
    rfl
  · obtain ⟨B, x, d, rfl, hx, k0, k1⟩ := h
    refine ⟨_, (pss_cons (ps_if (PW.pt (pw_or (pt_not (pt_val (pe_call G_is_line (hr.mono (by decide)) rfl D_is_line.gl D_is_line.fn.kp D_is_line.bd .nil pass0 (pa_cons (pv 0) pa_nil)))) (pw_or (pt_cmpR (op_inA : OpR _ _ (rInA K false)) pe_str (pv 0) (by rfl)) (pw_or (pt_cmpR (op_inA : OpR _ _ (rInA K false)) pe_str (pv 0) (by rfl)) (pw_or1 (pt_cmpR (op_inA : OpR _ _ (rInA K false)) pe_str (pv 0) (by rfl))))))) (pss_one (ps_ret pe_non)) pss_nil) (pss_cons (ps_set (i := 1) sc_cut_plainly.nd rfl (Or.inl rfl) (pe_m0 PySem.F.slot_str_split PySem.F.type_str_split mA_words (pv 0))) (pss_one (ps_ret (pe_ifExp (pt_cmpR op_leA (asMaxD (K := K) rfl (pe_maxD (pe_lc (own := [("word", 2)]) (g := (gName 2)) rfl sc_cut_plainly.nd (asList (K := K) rfl (pi_list (pv 1))) (blkOk_by (N := N_cut_plainly) (sc := defScope s_cut_plainly) (by decide +kernel)) (fun _ _ _ _ _ => pg_name (i := 2) sc_cut_plainly.nd rfl (Or.inl rfl)) (fun _ _ _ _ _ => pts_nil) (fun _ _ _ _ _ => (pe_callB (call_lenA : CallR _ _ (rLen K)) (by rfl) T.z_len (by decide +kernel) (pa_cons (pv 2) pa_nil)))) pe_int rfl rfl T.z_max hr.units)) (pe_gI T.c_MOST_SIGNS rfl) (nomark _)) (pv 1) pe_non))))), ?_⟩
    walk_at "g"
    refine ⟨B, x, d, rfl, hx, fun H1 s1 => ?_⟩
    cases e1 : lineE d with
    | false =>
      walk_at "g"
      exact k0 _ s1
    | true =>
    obtain ⟨z, rfl, rfl, _, _⟩ := hx.S_of (d := d) (by cases d <;> first | rfl | exact (Bool.false_ne_true e1).elim)
    have hz := lineE_lf e1
    replace k1 := k1 z rfl hz
    walk_at "g"
    refine r_inLF 39 l_q1 ?_
    refine r_bl ?_
    refine r_iteD (fun h39 => ?_) fun h39 => ?_
    · walk_at "g"
      exact k0 _ s1
    walk_at "g"
    refine r_inLF 34 l_q2 ?_
    refine r_bl ?_
    refine r_iteD (fun h34 => ?_) fun h34 => ?_
    · walk_at "g"
      exact k0 _ s1
    walk_at "g"
    refine r_inLF 92 l_bs ?_
    refine r_bl ?_
    refine r_iteD (fun h92 => ?_) fun h92 => ?_
    · walk_at "g"
      exact k0 _ s1
    walk_at "g"
    obtain ⟨few, len⟩ := plain_few hz.1
    refine r_words (by rw [len_cd]; exact le_line (Nat.le_trans (Nat.add_le_add_right hz.1 2) (by decide))) fun p hp => ?_
    walk_at "g"
    refine r_lcLV rfl (SqL.of upd_same) fun D hD => ?_
    refine comp_same (seqIt_l (SqL.of upd_same)) hD ((plainWs z).map fun l => V.int (l.length : Nat)) (by simp) (by rw [List.length_map]; exact Nat.lt_of_le_of_lt few (by decide)) (fun i x H4 M hx s4 m => ?_) fun H4 s4 h4 => ?_
    · rw [List.getElem?_map] at hx
      obtain ⟨l, hl, rfl⟩ := Option.map_eq_some_iff.mp hx
      have bl := len l (List.mem_of_getElem? hl)
      simp only [wV]
      walk_at "g"
      refine ⟨rfl, ?_⟩
      walk_at "g"
      refine r_len (by rw [S_len]; exact Nat.le_trans bl (by decide)) ?_
      rw [S_len]
      exact m _ _ (by rw [List.getElem?_map, hl]; rfl) (Same.refl _)
    · walk_at "g"
      refine ⟨D, (plainWs z).map fun l => ((l.length : Nat) : Int), 0, rfl, rfl, SqL.of (by rw [h4, List.map_map]; rfl), fun m _ hm => ?_⟩
      walk_at "g"
      refine r_iteD (fun c => ?_) fun c => ?_
      · walk_at "g"
        have e := cut_plain hz h39 h34 h92 fun l hl => by
          have ne : (plainWs z).map (fun l => ((l.length : Nat) : Int)) ≠ [] := fun q => by rw [List.map_eq_nil_iff.mp q] at hl; cases hl
          have := (hm ne).2 _ (List.mem_map.mpr ⟨l, hl, rfl⟩)
          omega
        exact k1 _ e few p H4 (s1.none hp) ((s1.new hp _).trans s4) (s4 _ _ upd_same)
      · walk_at "g"
        exact k0 _ ((s1.new hp _).trans s4)

theorem ok_cut (T : Tx K mg) (O_NoLine : OE P w K mg base "NoLine" "found" CL) (O_BadSign : OE P w K mg base "BadSign" "at" CB) (O_TooMany : OL P w K mg base "TooMany" "many" CT) {f f_cut_plainly f_scanned f_refuse_too_many f_is_line f_are_signs f_longer : Addr} {fd fd_cut_plainly fd_scanned fd_refuse_too_many fd_is_line fd_are_signs fd_longer : FuncData} (F : Fun K "cut" "cut" s_cut f fd)
    (D_cut_plainly : DAt K mg "_cut_plainly" s_cut_plainly P_cut_plainly f_cut_plainly fd_cut_plainly)
    (D_scanned : DAt K mg "_scanned" s_scanned P_scanned f_scanned fd_scanned) (D_refuse_too_many : DAt K mg "_refuse_too_many" s_refuse_too_many P_refuse_too_many f_refuse_too_many fd_refuse_too_many)
    (D_is_line : DAt K mg "is_line" s_is_line P_is_line f_is_line fd_is_line) (D_are_signs : DAt K mg "are_signs" s_are_signs P_are_signs f_are_signs fd_are_signs) (D_longer : DAt K mg "_longer" s_longer P_longer f_longer fd_longer) : FnOk P w K mg base (L2.CX P w) 6 f fd P_cut (spCutE CL CB CT) := by
  have G_cut_plainly : FnOk P w K mg base CX0 3 f_cut_plainly fd_cut_plainly P_cut_plainly spCutPE := ok_cut_plainly T D_cut_plainly.fn D_is_line D_are_signs
  have G_scanned : FnOk P w K mg base (L2.CX P w) 5 f_scanned fd_scanned P_scanned (spScannedE CL CB) := ok_scanned T O_NoLine O_BadSign D_scanned.fn D_is_line D_are_signs D_longer
  have G_refuse_too_many : FnOk P w K mg base (L2.CX P w) 4 f_refuse_too_many fd_refuse_too_many P_refuse_too_many (spRefuseY CT) := ok_refuse T O_TooMany D_refuse_too_many.fn
  refine F.okX sc_cut (fun vs H Q E h => ?_) (fun cdv A outer s H vs Q E hr h => ?_)
  · obtain ⟨B, x, d, rfl, _⟩ := h
    rfl
  · obtain ⟨B, x, d, rfl, hx, kn, kk⟩ := h
    refine ⟨_, (pss_cons (ps_set (i := 1) sc_cut.nd rfl (Or.inl rfl) (pe_call G_cut_plainly (hr.mono (by decide)) rfl D_cut_plainly.gl D_cut_plainly.fn.kp D_cut_plainly.bd .nil pass0 (pa_cons (pv 0) pa_nil))) (pss_cons (ps_if (pt_cmpR L2.op_notN (pv 1) pe_non (nomark _)) (pss_cons (ps_expr (pe_callS (E := WE (fun cls d _ H' => E cls d H')) G_refuse_too_many (hr.mono (by decide)) rfl D_refuse_too_many.gl D_refuse_too_many.fn.kp D_refuse_too_many.bd (fun σ => passAt (takes_of rfl rfl rfl rfl) σ) (by exact (pa_cons (pe_callB (call_lenA : CallR _ _ (rLen K)) (by rfl) T.z_len (by decide +kernel) (pa_cons (pv 1) pa_nil)) pa_nil)))) (pss_one (ps_ret (pv 1)))) pss_nil) (pss_cons (ps_asg (pe_callS (E := WE (fun cls d _ H' => E cls d H')) G_scanned (hr.mono (by decide)) rfl D_scanned.gl D_scanned.fn.kp D_scanned.bd (fun σ => passAt (takes_of rfl rfl rfl rfl) σ) (by exact (pa_cons (pv 0) pa_nil))) (asGTup (K := K) rfl (pg_tup rfl (pgs_cons (pg_name (i := 1) sc_cut.nd rfl (Or.inl rfl)) (pgs_cons (pg_name (i := 2) sc_cut.nd rfl (Or.inl rfl)) (pgs_cons (pg_name (i := 3) sc_cut.nd rfl (Or.inl rfl)) (pgs_cons (pg_name (i := 4) sc_cut.nd rfl (Or.inl rfl)) pgs_nil))))))) (pss_cons (ps_if (pt_cmpR ((op_neA hr.units) : OpR _ _ (rNeA K)) (pv 3) pe_str (nomark _)) (pss_one (ps_rzK (K := K) (W := (fun cls d _ H' => E cls d H')) rfl rfl (takes_of rfl rfl rfl rfl) O_BadSign (hr.mono (by decide)) rfl (by exact (pa_cons (pv 4) pa_nil)))) pss_nil) (pss_cons (ps_if (pt_cmpR L2.op_notN (pv 2) pe_non (nomark _)) (pss_one (ps_expr (asBM (K := K) rfl (pe_bm PySem.F.plainAttrs_list PySem.F.slot_list_append PySem.F.type_list_append mt_append (pv 1) (pa_cons (pv 2) pa_nil))))) pss_nil) (pss_cons (ps_expr (pe_callS (E := WE (fun cls d _ H' => E cls d H')) G_refuse_too_many (hr.mono (by decide)) rfl D_refuse_too_many.gl D_refuse_too_many.fn.kp D_refuse_too_many.bd (fun σ => passAt (takes_of rfl rfl rfl rfl) σ) (by exact (pa_cons (pe_callB (call_lenA : CallR _ _ (rLen K)) (by rfl) T.z_len (by decide +kernel) (pa_cons (pv 1) pa_nil)) pa_nil)))) (pss_one (ps_ret (pv 1))))))))), ?_⟩
    walk_at "G"
    refine ⟨B, x, d, rfl, hx, fun H0 s0 => ?_, fun z ez hz ws cr few wd H0 hw s0 h0 => ?_⟩
    rotate_left
    · obtain ⟨ke, km, k⟩ := kk z ez hz
      walk_at "G"
      refine ⟨rfl, ?_⟩
      walk_at "G"
      refine iteNT (fun e => by cases e) ?_
      walk_at "G"
      refine r_lenL (SqL.of h0) ?_
      rw [List.length_map]
      walk_at "G"
      refine ⟨_, rfl, fun c => ?_, fun c => (km _ cr (by have c : (40 : Int) < (ws.length : Nat) := c; omega)).at s0⟩
      have c : ((ws.length : Nat) : Int) ≤ 40 := c
      walk_at "G"
      exact k _ cr (by omega) wd _ hw s0 h0
    walk_at "G"
    refine ⟨rfl, ?_⟩
    walk_at "G"
    refine iteNF rfl ?_
    walk_at "G"
    refine ⟨B, x, d, rfl, hx.same s0, fun e1 => (kn e1).at s0, fun z ez hz => ?_⟩
    obtain ⟨ke, km, k⟩ := kk z ez hz
    have ke := fun e h => (ke e h).at s0
    have km := fun ws h c => (km ws h c).at s0
    have k := fun ws h c (wd : Addr) (H' : Hp) (hw : H0 wd = none) (s1 : Same H0 H') h1 => k ws h c wd H' (s0.none hw) (s0.trans s1) h1
    clear s0
    refine ⟨fun e h => ke e (by unfold cutR; rw [h]), fun t h htk => ?_, fun t ht tk p wd H1 hp hw s1 h1 h2 n => ?_⟩
    · have hne : cd z ≠ [] := fun e => by rw [e] at h; cases h; cases htk
      have := ke ((cd z).length - 1) (by unfold cutR; rw [h]; exact if_pos htk)
      have hl : 0 < (cd z).length := List.length_pos_iff.mpr hne
      rw [show (((cd z).length - 1 : Nat) : Int) = (((cd z).length : Nat) : Int) - 1 by omega] at this
      exact this
    have cr : cutR stP (cd z) = if t.qt ≠ 0 then .error t.op else .ok (J.fin t) := by unfold cutR; rw [ht]; simp only [tk]; rfl
    refine r_gtup (SqT.of h1) rfl ?_
    have eq : qV t.qt = .str (qS t.qt) := rfl
    rw [eq]
    by_cases q0 : t.qt = 0
    · rw [if_neg (fun h => h q0)] at cr
      have tw : t.ws.length ≤ 2000 := by
        have := (small_cut hz)
        rw [cr] at this
        have s2 := scan_ws ht
        exact Nat.le_trans s2 hz.1
      have km := km _ cr
      have k := k _ cr
      walk_at "G"
      refine ⟨rfl, ?_⟩
      walk_at "G"
      obtain ⟨ws, bg, qt, op, tk1⟩ := t
      cases bg with
      | none =>
        have e : J.fin ⟨ws, none, qt, op, tk1⟩ = ws := by simp [J.fin]
        rw [e] at km k
        refine iteNF rfl ?_
        walk_at "G"
        refine r_lenL (SqL.of h2) ?_
        rw [List.length_map]
        walk_at "G"
        refine ⟨_, rfl, fun c => ?_, fun c => (km (by have c : (40 : Int) < (ws.length : Nat) := c; omega)).at s1⟩
        have c : ((ws.length : Nat) : Int) ≤ 40 := c
        walk_at "G"
        exact k (by omega) wd _ hw s1 h2
      | some l =>
        have e : J.fin ⟨ws, some l, qt, op, tk1⟩ = ws ++ [l] := by simp [J.fin]
        rw [e] at km k
        have el : (ws.map wV ++ [obV (some l)]).length = (ws ++ [l]).length := by simp
        refine iteNT (fun e => by cases e) ?_
        walk_at "G"
        refine r_tyL h2 ?_
        walk_at "G"
        refine r_app h2 (by rw [List.length_map]; exact Nat.lt_of_le_of_lt (show ws.length ≤ 2000 from tw) (by decide)) ?_
        walk_at "G"
        refine r_lenL (SqL.of upd_same) ?_
        rw [el]
        walk_at "G"
        refine ⟨_, rfl, fun c => ?_, fun c => (km (by omega)).at (s1.at hw _)⟩
        walk_at "G"
        exact k (by omega) wd _ hw (s1.at hw _) (by rw [upd_same, List.map_append]; rfl)
    · rw [if_pos q0] at cr
      walk_at "G"
      exact rz_one O_BadSign.T O_BadSign.nf ((ke _ cr).at s1)
theorem ok_state_of (T : Tx K mg) (O_NoLine : OE P w K mg base "NoLine" "found" CL) (O_BadSign : OE P w K mg base "BadSign" "at" CB) (O_TooMany : OL P w K mg base "TooMany" "many" CT) {f f_scanned f_refuse_too_many f_is_line f_are_signs f_longer : Addr} {fd fd_scanned fd_refuse_too_many fd_is_line fd_are_signs fd_longer : FuncData} (F : Fun K "state_of" "state_of" s_state_of f fd)
    (D_scanned : DAt K mg "_scanned" s_scanned P_scanned f_scanned fd_scanned) (D_refuse_too_many : DAt K mg "_refuse_too_many" s_refuse_too_many P_refuse_too_many f_refuse_too_many fd_refuse_too_many)
    (D_is_line : DAt K mg "is_line" s_is_line P_is_line f_is_line fd_is_line) (D_are_signs : DAt K mg "are_signs" s_are_signs P_are_signs f_are_signs fd_are_signs) (D_longer : DAt K mg "_longer" s_longer P_longer f_longer fd_longer) : FnOk P w K mg base (L2.CX P w) 6 f fd P_state_of (spStateE CL CB CT) := by
  have G_scanned : FnOk P w K mg base (L2.CX P w) 5 f_scanned fd_scanned P_scanned (spScannedE CL CB) := ok_scanned T O_NoLine O_BadSign D_scanned.fn D_is_line D_are_signs D_longer
  have G_refuse_too_many : FnOk P w K mg base (L2.CX P w) 4 f_refuse_too_many fd_refuse_too_many P_refuse_too_many (spRefuseY CT) := ok_refuse T O_TooMany D_refuse_too_many.fn
  refine F.okX sc_state_of (fun vs H Q E h => ?_) (fun cdv A outer s H vs Q E hr h => ?_)
  · obtain ⟨B, x, d, rfl, _⟩ := h
    rfl
  · obtain ⟨B, x, d, rfl, hx, kn, kk⟩ := h
    refine ⟨_, (pss_cons (ps_asg (pe_callS (E := WE (fun cls d _ H' => E cls d H')) G_scanned (hr.mono (by decide)) rfl D_scanned.gl D_scanned.fn.kp D_scanned.bd (fun σ => passAt (takes_of rfl rfl rfl rfl) σ) (by exact (pa_cons (pv 0) pa_nil))) (asGTup (K := K) rfl (pg_tup rfl (pgs_cons (pg_name (i := 1) sc_state_of.nd rfl (Or.inl rfl)) (pgs_cons (pg_name (i := 2) sc_state_of.nd rfl (Or.inl rfl)) (pgs_cons (pg_name (i := 3) sc_state_of.nd rfl (Or.inl rfl)) (pgs_cons (pg_name (i := 4) sc_state_of.nd rfl (Or.inl rfl)) pgs_nil))))))) (pss_cons (ps_expr (pe_callS (E := WE (fun cls d _ H' => E cls d H')) G_refuse_too_many (hr.mono (by decide)) rfl D_refuse_too_many.gl D_refuse_too_many.fn.kp D_refuse_too_many.bd (fun σ => passAt (takes_of rfl rfl rfl rfl) σ) (by exact (pa_cons (pe_ifExp (pt_cmpR L2.op_isN (pv 2) pe_non (nomark _)) (pe_callB (call_lenA : CallR _ _ (rLen K)) (by rfl) T.z_len (by decide +kernel) (pa_cons (pv 1) pa_nil)) (pe_op (oAdd : OpR _ _ (J.rAdd K)) (pe_callB (call_lenA : CallR _ _ (rLen K)) (by rfl) T.z_len (by decide +kernel) (pa_cons (pv 1) pa_nil)) pe_int)) pa_nil)))) (pss_one (ps_ret (pe_tup (pa_cons (pv 1) (pa_cons (pv 2) (pa_cons (pv 3) pa_nil)))))))), ?_⟩
    walk_at "G"
    refine ⟨B, x, d, rfl, hx, kn, fun z ez hz => ?_⟩
    obtain ⟨ke, km, k⟩ := kk z ez hz
    refine ⟨fun e h => ke e (by unfold stR; rw [h]), fun t h htk => ?_, fun t ht tk p wd H1 hp hw s1 h1 h2 n => ?_⟩
    · have hne : cd z ≠ [] := fun e => by rw [e] at h; cases h; cases htk
      have := ke ((cd z).length - 1) (by unfold stR; rw [h]; exact if_pos htk)
      have hl : 0 < (cd z).length := List.length_pos_iff.mpr hne
      rw [show (((cd z).length - 1 : Nat) : Int) = (((cd z).length : Nat) : Int) - 1 by omega] at this
      exact this
    have cr : stR stP (cd z) = .ok t := by unfold stR; rw [ht]; simp only [tk]; rfl
    have tw : t.ws.length ≤ 2000 := Nat.le_trans (scan_ws ht) hz.1
    have km := km _ cr
    have k := k _ cr
    refine r_gtup (SqT.of h1) rfl ?_
    have eq : qV t.qt = .str (qS t.qt) := rfl
    rw [eq]
    obtain ⟨ws, bg, qt, op, tk1⟩ := t
    walk_at "G"
    refine ⟨rfl, ?_⟩
    walk_at "G"
    cases bg with
    | none =>
      have e : J.cnt ⟨ws, none, qt, op, tk1⟩ = ws.length := rfl
      rw [e] at km k
      refine iteDT rfl ?_
      walk_at "G"
      refine r_lenL (SqL.of h2) ?_
      rw [List.length_map]
      refine ⟨_, rfl, fun c => ?_, fun c => (km (by have c : (40 : Int) < (ws.length : Nat) := c; omega)).at s1⟩
      have c : ((ws.length : Nat) : Int) ≤ 40 := c
      walk_at "G"
      refine ⟨show 3 ≤ sizeLine by decide, fun p3 hp3 => ?_⟩
      exact k (by omega) p3 wd _ (s1.none hp3) hw (s1.new hp3 _) upd_same (by rw [upd_ne (new_ne hp3 h2).symm]; exact h2) (new_ne hp3 h2).symm
    | some l =>
      have e : J.cnt ⟨ws, some l, qt, op, tk1⟩ = ws.length + 1 := rfl
      rw [e] at km k
      refine iteDF (fun e => by cases e) ?_
      walk_at "G"
      refine r_lenL (SqL.of h2) ?_
      rw [List.length_map]
      walk_at "G"
      have e1 : ((ws.length : Nat) : Int) + 1 = ((ws.length + 1 : Nat) : Int) := rfl
      refine ⟨_, rfl, fun c => ?_, fun c => ?_⟩
      · have c : ((ws.length : Nat) : Int) + 1 ≤ 40 := c
        walk_at "G"
        refine ⟨show 3 ≤ sizeLine by decide, fun p3 hp3 => ?_⟩
        exact k (by omega) p3 wd _ (s1.none hp3) hw (s1.new hp3 _) upd_same (by rw [upd_ne (new_ne hp3 h2).symm]; exact h2) (new_ne hp3 h2).symm
      · have c : (40 : Int) < ((ws.length : Nat) : Int) + 1 := c
        exact (km (by omega)).at s1
end
end K07

namespace K07
open PySem PySem.Spec PyProof.Rows L2 J M
local macro_rules | `(tactic| walk_at "hp") => `(tactic| first | assumption | exact upd_same | (rw [upd_ne (by assumption)]; walk_at "hp") | (rw [upd_ne (Ne.symm (by assumption))]; walk_at "hp"))
local macro_rules | `(tactic| walk_at "s") => `(tactic| first
  | ((with_reducible refine' r_var ?h ?k); (case h => exact rfl))
  | (with_reducible refine r_c ?_)
  | (with_reducible refine r_op ?_)
  | (with_reducible refine r_un ?_)
  | (with_reducible refine r_seq ?_)
  | (with_reducible refine r_next ?_)
  | (with_reducible refine r_sets ?_)
  | (with_reducible refine r_gname ?_)
  | (with_reducible refine r_ifS ?_)
  | (with_reducible refine r_gsub ?_)
  | (with_reducible refine r_test ?_)
  | (with_reducible refine r_tb ?_)
  | (with_reducible refine r_not ?_)
  | (with_reducible refine r_and ?_)
  | (with_reducible refine r_or ?_)
  | (with_reducible refine r_andV ?_)
  | (with_reducible refine r_orV ?_)
  | (with_reducible refine r_notV ?_)
  | (with_reducible refine r_ifE ?_)
  | (with_reducible refine r_chain ?_)
  | (with_reducible refine r_cb ?_)
  | (with_reducible refine r_cons ?_)
  | (with_reducible refine r_nil ?_)
  | (with_reducible refine r_call ?_)
  | (with_reducible refine r_lst ?_)
  | (with_reducible refine r_tup ?_)
  | (with_reducible refine r_slice ?_)
  | (with_reducible refine r_nop ?_)
  | (with_reducible refine r_part ?_)
  | (with_reducible refine r_bm ?_)
  | (with_reducible refine r_m1 ?_)
  | (with_reducible refine r_m0 ?_)
  | (with_reducible refine r_is ?_)
  | (with_reducible refine r_maxD ?_)
  | (with_reducible refine r_orT ?_)
  | (with_reducible refine r_truN ?_)
  | (with_reducible refine r_intI ?_)
  | (with_reducible refine r_intB ?_)
  | (with_reducible refine r_max2 ?_)
  | (with_reducible refine r_min2 ?_)
  | (with_reducible refine r_yes ?_)
  | (with_reducible refine r_bl ?_)
  | (with_reducible refine iteT ?_)
  | (with_reducible refine iteF ?_)
  | (with_reducible refine r_iteNT ?_)
  | (with_reducible refine r_iteNF ?_)
  | (with_reducible refine r_minL ?_)
  | (with_reducible refine r_gcons ?_)
  | (with_reducible refine r_gnil ?_)
  | (with_reducible refine r_par ?_)
  | (with_reducible refine r_par3 ?_)
  | (with_reducible refine r_is2 ?_)
  | (with_reducible refine r_is3 ?_)
  | (with_reducible refine r_dget ?_)
  | (with_reducible refine r_callS ?_)
  | (with_reducible refine r_rz ?_)
  | (with_reducible refine r_rev ?_)
  | (with_reducible refine r_isI ?_)
  | (with_reducible refine r_isStr ?_)
  | (with_reducible refine r_ret ?_)
  | (with_reducible refine r_drop ?_)
  | (with_reducible refine r_rI0 ?_)
  | (with_reducible refine r_addI ?_)
  | ((with_reducible show rI (fun _ j => 0 < j) _ (.int _) (.int _) _ _); refine r_rI (by first | omega | decide) ?_)
  | ((with_reducible show rI CDiv _ (.int _) (.int _) _ _); refine r_rI (by constructor <;> omega) ?_)
  | ((with_reducible show rI CPow _ (.int _) (.int _) _ _); refine r_rI (by refine ⟨by decide, by decide, ?_⟩; omega) ?_)
  | ((with_reducible show rMul (.int _) (.int _) _ _); refine r_mulI (cmulW (by omega) (by omega)) ?_)
  | (with_reducible refine r_cmpI ?_)
  | (with_reducible refine r_cmpS ?_)
  | (with_reducible refine r_eqI ?_)
  | (with_reducible refine r_neI ?_)
  | (with_reducible refine r_eqS ?_)
  | (with_reducible refine r_neS ?_)
  | (with_reducible refine r_inSF ?_)
  | (with_reducible refine r_inST ?_)
  | (with_reducible refine r_isiStr ?_)
  | ((with_reducible show rIx _ (.ref _) (.int _) _ _); refine' r_ixL (SqL.of ?h) ?e ?_; (case h => walk_at "hp"); (case e => rfl))
  | ((with_reducible show rSetL (.ref _) (.int _) _ _ _); refine' r_setL ?h ?e ?_; (case h => walk_at "hp"); (case e => rfl)))
local macro_rules | `(tactic| walk_at "g") => `(tactic| repeat walk_at "s")


local macro_rules | `(tactic| walk_at "x") => `(tactic| first | omega | (simp only [one_nl, one_bs, one_q1, one_q2, qS_nil, qS_q1, one_qS, mem_part, mem_qs, mem_all]; omega))
local macro_rules | `(tactic| walk_at "d") => `(tactic| first
  | (with_reducible refine iteDT (by walk_at "x") ?_)
  | (with_reducible refine iteDF (by walk_at "x") ?_)
  | (with_reducible refine iteNT (by walk_at "x") ?_)
  | (with_reducible refine iteNF (by walk_at "x") ?_))
local macro_rules | `(tactic| walk_at "G") => `(tactic| repeat (first | walk_at "s" | walk_at "d"))
section
variable {P : Program} {w : World} {K : PySem.W.Frag} {mg : Str → Option Value} {base : Heap} {CL CI CS CW CB CT : Addr}
theorem ok_escaped (T : Tx K mg) {f : Addr} {fd : FuncData} (F : Fun K "_escaped" "_escaped" s_escaped f fd) : FnOk P w K mg base CX0 1 f fd P_escaped spEscaped := by
  refine F.ok sc_escaped (fun vs H Q E h => ?_) (fun cdv A outer s H vs Q E hr h => ?_)
  · obtain ⟨z, n, rfl, _⟩ := h
    rfl
  · obtain ⟨z, n, rfl, hz, k⟩ := h
    refine ⟨_, (pss_one (ps_ret (asJoin (K := K) rfl (pe_join pe_str (pe_lc (own := [("sign", 2)]) (g := (gName 2)) rfl sc_escaped.nd (pi_str (pv 0)) (blkOk_by (N := N_escaped) (sc := defScope s_escaped) (by decide +kernel)) (fun _ _ _ _ _ => pg_name (i := 2) sc_escaped.nd rfl (Or.inl rfl)) (fun _ _ _ _ _ => pts_nil) (fun _ _ _ _ _ => (pe_ifExp (pt_cmpR (op_inA : OpR _ _ (rInA K false)) (pv 2) (pv 1) (by rfl)) (pe_op (oAdd : OpR _ _ (J.rAdd K)) pe_str (pv 2)) (pv 2)))))))), ?_⟩
    walk_at "g"
    refine r_lcS ?_
    walk_at "g"
    refine r_isS fun D hD => ?_
    refine comp_of z.cps.size (fun i H' => Same H H' ∧ H' D = some (.lst (((cd z).take i).map fun c => wV (if c ∈ cd n then [92, c] else [c])))) ⟨(Same.refl H).at hD _, upd_same⟩ (fun i H' hi _ => hi) (fun _ _ => Nat.le_refl _) ?_ ?_
    · rintro i H1 x H' hi ⟨s1, h1⟩ ⟨rfl, c, hc, rfl⟩
      walk_at "g"
      refine ⟨rfl, ?_⟩
      walk_at "g"
      have fin : ∀ y : V, y = wV (if c ∈ cd n then [92, c] else [c]) → ∃ acc, H' D = some (HO.lst acc) ∧ acc.length < sizeLine ∧ Same H (upd H' D (HO.lst (acc ++ [y]))) ∧
          upd H' D (HO.lst (acc ++ [y])) D = some (HO.lst (((cd z).take (i + 1)).map fun c => wV (if c ∈ cd n then [92, c] else [c]))) := fun y hy => by
        subst hy
        exact ⟨_, h1, Nat.lt_of_le_of_lt (by rw [List.length_map, List.length_take]; have : z.length = z.cps.size := rfl; omega) (show 10000000 < sizeLine by decide), s1.at hD _, by rw [upd_same, take_snoc (cps_at hc), List.map_append]; rfl⟩
      refine r_iteD (fun c1 => ?_) fun c1 => ?_
      · walk_at "g"
        refine r_addS (a := "\\") (b := ⟨#[c]⟩) (le_line (show 1 + 1 ≤ 16777216 by decide)) ?_
        exact fin _ (by rw [if_pos c1]; exact congrArg V.str (by rw [str_eq, cd_app, cd_S]; rfl))
      · walk_at "g"
        exact fin _ (by rw [if_neg c1]; rfl)
    · rintro H1 ⟨s1, h1⟩
      have e0 : (cd z).take z.cps.size = cd z := List.take_of_length_le (by simp)
      rw [e0] at h1
      have e1 : (cd z).map (fun c => wV (if c ∈ cd n then [92, c] else [c])) = ((cd z).map fun c => if c ∈ cd n then [92, c] else [c]).map wV := by rw [List.map_map]; rfl
      rw [e1] at h1
      refine r_join (SqL.of h1) 2 (fun l hl => ?_) ?_ ?_
      · obtain ⟨c, _, rfl⟩ := List.mem_map.mp hl
        split <;> simp
      · have : (Str.ofString "").length = 0 := rfl
        rw [List.length_map, ← len_cd, this]; omega
      · rw [J.join_nil, ← esc_eq]
        exact k H1 s1
theorem ok_ways (T : Tx K mg) {f f_escaped : Addr} {fd fd_escaped : FuncData} (F : Fun K "_ways" "_ways" s_ways f fd) (D_escaped : DAt K mg "_escaped" s_escaped P_escaped f_escaped fd_escaped) : FnOk P w K mg base CX0 2 f fd P_ways spWays := by
  have G_escaped : FnOk P w K mg base CX0 1 f_escaped fd_escaped P_escaped spEscaped := ok_escaped T D_escaped.fn
  refine F.ok sc_ways (fun vs H Q E h => ?_) (fun cdv A outer s H vs Q E hr h => ?_)
  · obtain ⟨z, rfl, _⟩ := h
    rfl
  · obtain ⟨z, rfl, hz, k⟩ := h
    refine ⟨_, (pss_cons (ps_set (i := 1) sc_ways.nd rfl (Or.inl rfl) (pe_lst pa_nil)) (pss_cons (ps_if (pt_cmpR ((op_neA hr.units) : OpR _ _ (rNeA K)) (pv 0) pe_str (nomark _)) (pss_one (ps_expr (asBM (K := K) rfl (pe_bm PySem.F.plainAttrs_list PySem.F.slot_list_append PySem.F.type_list_append mt_append (pv 1) (pa_cons (pe_call G_escaped (hr.mono (by decide)) rfl D_escaped.gl D_escaped.fn.kp D_escaped.bd .nil pass0 (pa_cons (pv 0) (pa_cons (pe_gS T.c_NEEDING rfl) pa_nil))) pa_nil))))) pss_nil) (pss_cons (ps_if (pt_cmpR (op_notInA : OpR _ _ (rInA K true)) pe_str (pv 0) (by rfl)) (pss_one (ps_expr (asBM (K := K) rfl (pe_bm PySem.F.plainAttrs_list PySem.F.slot_list_append PySem.F.type_list_append mt_append (pv 1) (pa_cons (pe_op (oAdd : OpR _ _ (J.rAdd K)) (pe_op (oAdd : OpR _ _ (J.rAdd K)) pe_str (pv 0)) pe_str) pa_nil))))) pss_nil) (pss_cons (ps_expr (asBM (K := K) rfl (pe_bm PySem.F.plainAttrs_list PySem.F.slot_list_append PySem.F.type_list_append mt_append (pv 1) (pa_cons (pe_op (oAdd : OpR _ _ (J.rAdd K)) (pe_op (oAdd : OpR _ _ (J.rAdd K)) pe_str (pe_call G_escaped (hr.mono (by decide)) rfl D_escaped.gl D_escaped.fn.kp D_escaped.bd .nil pass0 (pa_cons (pv 0) (pa_cons (pe_gS T.c_NEEDING_WITHIN rfl) pa_nil)))) pe_str) pa_nil)))) (pss_one (ps_ret (pv 1))))))), ?_⟩
    walk_at "g"
    refine ⟨by decide, fun p hp => ?_⟩
    refine r_gname ?_
    have ln : ∀ n : Nat, n ≤ 5 → n < sizeLine := fun n hn => Nat.lt_of_le_of_lt hn (show 5 < sizeLine by decide)
    refine r_seqJ (fun σ' H' => σ' = [some (.str z), some (.ref p)] ∧ Same H H' ∧ H' p = some (.lst ((if cd z = [] then [] else [esc N1 (cd z)]).map wV))) (fun N hN => ?_) ?_
    · refine r_ifS ?_
      walk_at "g"
      refine r_iteN (fun c => ?_) fun c => ?_
      · walk_at "g"
        refine r_tyL upd_same ?_
        walk_at "g"
        refine ⟨z, _, rfl, hz, fun H' s => ?_⟩
        walk_at "g"
        refine r_app (s _ _ upd_same) (ln _ (by simp)) (hN _ _ ⟨rfl, (((Same.refl H).at hp _).trans s).at hp _, ?_⟩)
        rw [upd_same, if_neg (fun e => c (by rw [str_eq, e]; exact l_nil.symm))]
        exact congrArg (fun l => some (HO.lst [V.str (S (esc l (cd z)))])) l_need
      · subst c
        walk_at "g"
        exact hN _ _ ⟨rfl, (Same.refl H).at hp _, by rw [upd_same]; rfl⟩
    rintro σ1 H1 ⟨rfl, s1, h1⟩
    refine r_seqJ (fun σ' H' => σ' = [some (.str z), some (.ref p)] ∧ Same H H' ∧ H' p = some (.lst (((if cd z = [] then [] else [esc N1 (cd z)]) ++ (if 39 ∈ cd z then [] else [39 :: cd z ++ [39]])).map wV))) (fun N hN => ?_) ?_
    · refine r_ifS ?_
      walk_at "g"
      refine r_inLT 39 l_q1 ?_
      walk_at "g"
      refine r_iteN (fun c => ?_) fun c => ?_
      · walk_at "g"
        refine r_tyL h1 ?_
        walk_at "g"
        have e1 : (Str.ofString "'").length = 1 := rfl
        refine r_addS (by rw [e1]; exact Nat.le_trans (Nat.add_le_add_left hz 1) (by decide)) ?_
        walk_at "g"
        refine r_addS (by rw [len_app, e1]; exact Nat.le_trans (Nat.add_le_add_right (Nat.add_le_add_left hz 1) 1) (by decide)) ?_
        walk_at "g"
        refine r_app h1 (ln _ (by split <;> simp)) (hN _ _ ⟨rfl, s1.at hp _, ?_⟩)
        rw [upd_same, List.map_append, if_neg c]
        have : (Str.ofString "'" ++ z ++ Str.ofString "'" : Str) = S (39 :: cd z ++ [39]) := by rw [str_eq, cd_app, cd_app, cd_S]; simp [l_q1]
        rw [this]; rfl
      · walk_at "g"
        exact hN _ _ ⟨rfl, s1, by rw [h1, if_pos c, List.append_nil]⟩
    rintro σ2 H2 ⟨rfl, s2, h2⟩
    walk_at "g"
    refine r_tyL h2 ?_
    walk_at "g"
    refine ⟨z, _, rfl, hz, fun H' s => ?_⟩
    have e1 : (Str.ofString "\"").length = 1 := rfl
    have e2 := esc_len (cd (Str.ofString "\"\\")) (cd z)
    rw [len_cd] at hz
    walk_at "g"
    refine r_addS (by rw [e1, S_len]; exact Nat.le_trans (show _ ≤ 1 + 200000 by omega) (by decide)) ?_
    walk_at "g"
    refine r_addS (by rw [len_app, e1, S_len]; exact Nat.le_trans (show _ ≤ 1 + 200000 + 1 by omega) (by decide)) ?_
    walk_at "g"
    refine r_app (s _ _ h2) (ln _ (by split <;> split <;> simp)) ?_
    walk_at "g"
    refine k p _ hp ((s2.trans s).at hp _) ?_
    rw [upd_same]
    have : (Str.ofString "\"" ++ S (esc (cd (Str.ofString "\"\\")) (cd z)) ++ Str.ofString "\"" : Str) = S (34 :: esc N2 (cd z) ++ [34]) := by rw [str_eq, cd_app, cd_app, cd_S, cd_S]; simp [l_q2, l_need2, N2]
    rw [this]
    refine congrArg (fun l => some (HO.lst l)) ?_
    simp only [M.ways, List.map_append, List.append_assoc]; rfl
theorem ways_big {l v : List Nat} (w : Wd l) (h : v ∈ ways l) : v.length < 1000000 := Nat.lt_of_le_of_lt (way_len w h).1 (by decide)
theorem FM.word {l v : List Nat} (w : Wd l) (h : FM (ways l) v) : v.length ≤ 82 := (way_len w (FM.mem h)).1
theorem sgw {z : Str} (w : Wd (cd z)) : (decide (z.length ≤ 40) && sg (cd z)) = true := by
  have h1 : z.length ≤ 40 := by rw [len_cd]; exact w.1
  rw [decide_eq_true h1, sg_iff.mpr w.2]; rfl
theorem ok_quoted0 (T : Tx K mg) {f f_ways f_escaped f_is_word f_are_signs : Addr} {fd fd_ways fd_escaped fd_is_word fd_are_signs : FuncData} (F : Fun K "quoted" "quoted" s_quoted f fd)
    (D_ways : DAt K mg "_ways" s_ways P_ways f_ways fd_ways) (D_escaped : DAt K mg "_escaped" s_escaped P_escaped f_escaped fd_escaped)
    (D_is_word : DAt K mg "is_word" s_is_word P_is_word f_is_word fd_is_word) (D_are_signs : DAt K mg "are_signs" s_are_signs P_are_signs f_are_signs fd_are_signs) : FnOk P w K mg base CX0 3 f fd P_quoted spQuoted := by
  have G_ways : FnOk P w K mg base CX0 2 f_ways fd_ways P_ways spWays := ok_ways T D_ways.fn D_escaped
  have G_is_word : FnOk P w K mg base CX0 2 f_is_word fd_is_word P_is_word spIsWordE := ok_is_word T D_is_word.fn D_are_signs
  refine F.ok sc_quoted (fun vs H Q E h => ?_) (fun cdv A outer s H vs Q E hr h => ?_)
  · obtain ⟨z, rfl, _⟩ := h
    rfl
  · obtain ⟨z, rfl, hz, k⟩ := h
    refine ⟨_, (pss_cons (ps_if (pt_not (pt_val (pe_call G_is_word (hr.mono (by decide)) rfl D_is_word.gl D_is_word.fn.kp D_is_word.bd .nil pass0 (pa_cons (pv 0) pa_nil)))) (pss_one ps_never) pss_nil) (pss_cons (ps_if (pt_val (pe_m0 PySem.F.slot_str_isalnum PySem.F.type_str_isalnum mA_isalnum (pv 0))) (pss_one (ps_ret (pv 0))) pss_nil) (pss_one (ps_ret (asMin (K := K) rfl (pe_minLen (pe_call G_ways (hr.mono (by decide)) rfl D_ways.gl D_ways.fn.kp D_ways.bd .nil pass0 (pa_cons (pv 0) pa_nil)) rfl rfl T.z_min rfl T.z_len)))))), ?_⟩
    have zl : z.length ≤ 40 := by rw [len_cd]; exact hz.1
    walk_at "g"
    refine ⟨fun _ => False, _, _, rfl, .str z (by omega) (fun c hc => (hz.2 c hc).2), fun H1 s1 => ?_⟩
    rw [show wdD (.str z) = true from sgw hz]
    walk_at "g"
    refine r_ite (fun e => ?_) fun _ => ?_
    · obtain ⟨n0, nn⟩ := alnum_sg hz.2 e
      walk_at "g"
      have := k (cd z) H1 (FM_alnum n0 nn) s1
      rw [S_of] at this
      exact this
    walk_at "g"
    refine ⟨z, rfl, Nat.le_trans zl (by decide), fun p H2 hp s2 h2 => ?_⟩
    exact ⟨p, _, rfl, SqL.of h2, ways_pos _, fun l hl => ways_big hz hl, fun v hv => k v H2 hv (s1.trans s2)⟩
theorem ok_are_words (T : Tx K mg) {f f_is_word f_are_signs : Addr} {fd fd_is_word fd_are_signs : FuncData} (F : Fun K "are_words" "are_words" s_are_words f fd)
    (D_is_word : DAt K mg "is_word" s_is_word P_is_word f_is_word fd_is_word)
    (D_are_signs : DAt K mg "are_signs" s_are_signs P_are_signs f_are_signs fd_are_signs) : FnOk P w K mg base CX0 3 f fd P_are_words spAreWordsE := by
  have G_is_word : FnOk P w K mg base CX0 2 f_is_word fd_is_word P_is_word spIsWordE := ok_is_word T D_is_word.fn D_are_signs
  refine F.ok sc_are_words (fun vs H Q E h => ?_) (fun cdv A outer s H vs Q E hr h => ?_)
  · obtain ⟨B, x, d, rfl, _⟩ := h
    rfl
  · obtain ⟨B, x, d, rfl, hx, k⟩ := h
    refine ⟨_, (pss_cons (ps_if (PW.pt (pw_or (pt_not (pt_val (pe_callB (L2.call_isiT : CallR _ _ (rIsiT K)) (by rfl) T.z_isinstance (by decide +kernel) (pa_cons (pv 0) (pa_cons (pe_tup (pa_cons (pe_bltn (v := .ty "list") (u := .type "list") rfl T.z_list (by decide +kernel) rfl) (pa_cons (pe_bltn (v := .ty "tuple") (u := .type "tuple") rfl T.z_tuple (by decide +kernel) rfl) pa_nil))) pa_nil))))) (pw_or1 (pt_cmpR op_gtA (pe_callB (call_lenA : CallR _ _ (rLen K)) (by rfl) T.z_len (by decide +kernel) (pa_cons (pv 0) pa_nil)) (pe_gI T.c_MOST_WORDS rfl) (nomark _))))) (pss_one (ps_ret pe_bl)) pss_nil) (pss_one (ps_ret (pe_callB ((L2.cr_all rfl) : CallR _ _ (rAll K)) (by rfl) T.z_all (by decide +kernel) (pa_cons (pe_lc (own := [("word", 1)]) (g := (gName 1)) rfl sc_are_words.nd (asSeq (K := K) rfl (pi_seq (pv 0))) (blkOk_by (N := N_are_words) (sc := defScope s_are_words) (by decide +kernel)) (fun _ _ _ _ _ => pg_name (i := 1) sc_are_words.nd rfl (Or.inl rfl)) (fun _ _ _ _ _ => pts_nil) (fun _ _ _ _ _ => (pe_call G_is_word (hr.mono (by decide)) rfl D_is_word.gl D_is_word.fn.kp D_is_word.bd .nil pass0 (pa_cons (pv 1) pa_nil)))) pa_nil))))), ?_⟩
    walk_at "g"
    refine ⟨by decide, fun p hp => ?_⟩
    have s0 := (Same.refl H).at hp (HO.tup [V.ty "list", V.ty "tuple"])
    have e0 : upd H p (HO.tup [V.ty "list", V.ty "tuple"]) p = some (HO.tup [V.ty "list", V.ty "tuple"]) := upd_same
    generalize upd H p (HO.tup [V.ty "list", V.ty "tuple"]) = H0 at s0 e0 ⊢
    walk_at "g"
    refine (hx.same s0).isLT e0 ?_
    have k : ∀ H', Same H H' → Q (.bl ((isLD d || isTD d) && (decide ((itemsE d).length ≤ 40) && (itemsE d).all wdD))) H' := k
    cases e1 : (isLD d || isTD d) with
    | false =>
      rw [e1, Bool.false_and] at k
      walk_at "g"
      exact k _ s0
    | true =>
      obtain ⟨a, xs, ds, rfl, hd, ha, _, t⟩ := (hx.same s0).LT_of e1
      have le := t.len
      have ei : itemsE d = ds := by rcases hd with rfl | rfl <;> rfl
      rw [e1, Bool.true_and, ei] at k
      have hq : SqL K H0 a xs ∨ SqT K H0 a xs := ha.imp SqL.of SqT.of
      walk_at "g"
      refine r_len2 hq ?_
      walk_at "g"
      refine r_iteD (fun c => ?_) fun c => ?_
      · rw [decide_eq_false (show ¬ ds.length ≤ 40 by omega), Bool.false_and] at k
        walk_at "g"
        exact k _ s0
      · rw [decide_eq_true (show ds.length ≤ 40 by omega), Bool.true_and] at k
        walk_at "g"
        refine r_lcV rfl hq fun J SI D hD => ?_
        refine comp_same SI hD (ds.map fun d => V.bl (wdD d)) (by rw [List.length_map]; exact le.symm) (by rw [le]; exact Nat.lt_of_le_of_lt (show _ ≤ 40 by omega) (by decide)) (fun i x H' N hx s N' => ?_) fun H' s h => ?_
        · obtain ⟨u, hu, du⟩ := t.get hx
          walk_at "g"
          refine ⟨rfl, ?_⟩
          walk_at "g"
          refine ⟨B, x, u, rfl, du.same s, fun H'' s' => ?_⟩
          exact N' _ _ (by rw [List.getElem?_map, hu]; rfl) s'
        · walk_at "g"
          refine ⟨D, ds.map wdD, rfl, SqL.of (by rw [h, List.map_map]; rfl), ?_⟩
          rw [show (ds.map wdD).all id = ds.all wdD by rw [List.all_map]; rfl]
          exact k _ (s0.trans s)
theorem all_wd {B : Addr → Prop} {H : Hp} : ∀ {xs : List V} {ds : List PyData}, DeAll B H xs ds → ds.all wdD = true → ∃ ls : List (List Nat), xs = ls.map wV ∧ ∀ l ∈ ls, Wd l
  | _, _, .nil, _ => ⟨[], rfl, fun _ h => (List.not_mem_nil h).elim⟩
  | _, _, .cons h t, q => by
    rw [List.all_cons, Bool.and_eq_true] at q
    obtain ⟨ls, e, w⟩ := all_wd t q.2
    cases h with
    | str z hz c =>
      have q1 : (decide (z.length ≤ 40) && sg (cd z)) = true := q.1
      rw [Bool.and_eq_true, decide_eq_true_iff, sg_iff] at q1
      refine ⟨cd z :: ls, ?_, fun l hl => ?_⟩
      · rw [List.map_cons, ← e]
        exact congrArg (· :: _) (show V.str z = V.str (S (cd z)) by rw [show S (cd z) = z from S_of z])
      · rcases List.mem_cons.mp hl with rfl | hl
        · exact ⟨by rw [← len_cd]; exact q1.1, q1.2⟩
        · exact w l hl
    | _ => exact (Bool.false_ne_true q.1).elim
theorem ok_joined (T : Tx K mg) (O_NoList : OE P w K mg base "NoList" "found" CI) {f f_quoted f_are_words f_ways f_escaped f_is_word f_are_signs : Addr} {fd fd_quoted fd_are_words fd_ways fd_escaped fd_is_word fd_are_signs : FuncData} (F : Fun K "joined" "joined" s_joined f fd)
    (D_quoted : DAt K mg "quoted" s_quoted P_quoted f_quoted fd_quoted)
    (D_are_words : DAt K mg "are_words" s_are_words P_are_words f_are_words fd_are_words)
    (D_ways : DAt K mg "_ways" s_ways P_ways f_ways fd_ways)
    (D_escaped : DAt K mg "_escaped" s_escaped P_escaped f_escaped fd_escaped)
    (D_is_word : DAt K mg "is_word" s_is_word P_is_word f_is_word fd_is_word)
    (D_are_signs : DAt K mg "are_signs" s_are_signs P_are_signs f_are_signs fd_are_signs) : FnOk P w K mg base (L2.CX P w) 4 f fd P_joined (spJoinedE CI) := by
  have G_quoted : FnOk P w K mg base CX0 3 f_quoted fd_quoted P_quoted spQuoted := ok_quoted0 T D_quoted.fn D_ways D_escaped D_is_word D_are_signs
  have G_are_words : FnOk P w K mg base CX0 3 f_are_words fd_are_words P_are_words spAreWordsE := ok_are_words T D_are_words.fn D_is_word D_are_signs
  refine F.okX sc_joined (fun vs H Q E h => ?_) (fun cdv A outer s H vs Q E hr h => ?_)
  · obtain ⟨B, x, d, rfl, _⟩ := h
    rfl
  · obtain ⟨B, x, d, rfl, hx, kn, kk⟩ := h
    refine ⟨_, (pss_cons (ps_if (pt_not (pt_val (pe_call G_are_words (hr.mono (by decide)) rfl D_are_words.gl D_are_words.fn.kp D_are_words.bd .nil pass0 (pa_cons (pv 0) pa_nil)))) (pss_one (ps_rzK (K := K) (W := (fun cls d _ H' => E cls d H')) rfl rfl (takes_of rfl rfl rfl rfl) O_NoList (hr.mono (by decide)) rfl (by exact (pa_cons (pv 0) pa_nil)))) pss_nil) (pss_one (ps_ret (asJoin (K := K) rfl (pe_join pe_str (pe_lc (own := [("word", 1)]) (g := (gName 1)) rfl sc_joined.nd (asSeq (K := K) rfl (pi_seq (pv 0))) (blkOk_by (N := N_joined) (sc := defScope s_joined) (by decide +kernel)) (fun _ _ _ _ _ => pg_name (i := 1) sc_joined.nd rfl (Or.inl rfl)) (fun _ _ _ _ _ => pts_nil) (fun _ _ _ _ _ => (pe_call G_quoted (hr.mono (by decide)) rfl D_quoted.gl D_quoted.fn.kp D_quoted.bd .nil pass0 (pa_cons (pv 1) pa_nil))))))))), ?_⟩
    walk_at "g"
    refine ⟨B, x, d, rfl, hx, fun H1 s1 => ?_⟩
    cases e1 : wordsE d with
    | false =>
      walk_at "g"
      exact rz_one O_NoList.T O_NoList.nf ((kn e1).at s1)
    | true =>
    replace kk := kk e1
    have e2 : ((isLD d || isTD d) && (decide ((itemsE d).length ≤ 40) && (itemsE d).all wdD)) = true := e1
    rw [Bool.and_eq_true, Bool.and_eq_true, decide_eq_true_iff] at e2
    obtain ⟨a, xs, ds, rfl, hd, ha, _, t⟩ := hx.LT_of e2.1
    have ei : itemsE d = ds := by rcases hd with rfl | rfl <;> rfl
    rw [ei] at e2
    have le := t.len
    obtain ⟨ls, rfl, hw⟩ := all_wd t e2.2.2
    have hn : ls.length ≤ 40 := by rw [← List.length_map (f := wV), le]; exact e2.2.1
    have hq : SqL K H a (ls.map wV) ∨ SqT K H a (ls.map wV) := ha.imp SqL.of SqT.of
    walk_at "g"
    obtain ⟨us, hus⟩ := FMs.ex ls
    refine r_lcV rfl (hq.imp s1.seqL s1.seqT) fun J SI D hD => ?_
    have hlu : us.length = ls.length := hus.len.symm
    have hwl := jn_ok (hus.ways hw)
    refine comp_same SI hD (us.map wV) (by simp [hlu]) (by rw [List.length_map]; exact Nat.lt_of_le_of_lt hn (by decide)) (fun i x H' N hx s N' => ?_) fun H' s h => ?_
    · rw [List.getElem?_map] at hx
      obtain ⟨l, hl, rfl⟩ := Option.map_eq_some_iff.mp hx
      walk_at "g"
      refine ⟨rfl, ?_⟩
      walk_at "g"
      refine ⟨S l, rfl, by rw [cd_S]; exact hw l (List.mem_of_getElem? hl), fun v H'' hv s' => ?_⟩
      rw [cd_S] at hv
      exact N' _ _ (by rw [List.getElem?_map, hus.at hl hv]; rfl) s'
    · walk_at "g"
      refine r_join (SqL.of h) 82 (fun v hv => ?_) ?_ ?_
      · obtain ⟨i, hi⟩ := List.mem_iff_getElem?.mp hv
        have il := (List.getElem?_eq_some_iff.mp hi).1
        have hl := List.getElem?_eq_getElem (l := ls) (i := i) (by omega)
        obtain ⟨v', hv'⟩ := FM_ex (ways_pos (ls[i]'(by omega)))
        have := hus.at hl hv'
        rw [hi] at this
        cases this
        exact FM.word (hw _ (List.mem_of_getElem? hl)) hv'
      · have : (Str.ofString " ").length = 1 := rfl
        rw [hlu, this]; omega
      · rw [_root_.J.join_sp]
        exact kk _ _ (s1.trans s)
end
end K07

namespace K07
open PySem PySem.Spec PyProof.Rows L2 J M
local macro_rules | `(tactic| walk_at "hp") => `(tactic| first | assumption | exact upd_same | (rw [upd_ne (by assumption)]; walk_at "hp") | (rw [upd_ne (Ne.symm (by assumption))]; walk_at "hp"))
local macro_rules | `(tactic| walk_at "s") => `(tactic| first
  | ((with_reducible refine' r_var ?h ?k); (case h => exact rfl))
  | (with_reducible refine r_c ?_)
  | (with_reducible refine r_op ?_)
  | (with_reducible refine r_un ?_)
  | (with_reducible refine r_seq ?_)
  | (with_reducible refine r_next ?_)
  | (with_reducible refine r_sets ?_)
  | (with_reducible refine r_gname ?_)
  | (with_reducible refine r_ifS ?_)
  | (with_reducible refine r_gsub ?_)
  | (with_reducible refine r_test ?_)
  | (with_reducible refine r_tb ?_)
  | (with_reducible refine r_not ?_)
  | (with_reducible refine r_and ?_)
  | (with_reducible refine r_or ?_)
  | (with_reducible refine r_andV ?_)
  | (with_reducible refine r_orV ?_)
  | (with_reducible refine r_notV ?_)
  | (with_reducible refine r_ifE ?_)
  | (with_reducible refine r_chain ?_)
  | (with_reducible refine r_cb ?_)
  | (with_reducible refine r_cons ?_)
  | (with_reducible refine r_nil ?_)
  | (with_reducible refine r_call ?_)
  | (with_reducible refine r_lst ?_)
  | (with_reducible refine r_tup ?_)
  | (with_reducible refine r_slice ?_)
  | (with_reducible refine r_nop ?_)
  | (with_reducible refine r_part ?_)
  | (with_reducible refine r_bm ?_)
  | (with_reducible refine r_m1 ?_)
  | (with_reducible refine r_m0 ?_)
  | (with_reducible refine r_is ?_)
  | (with_reducible refine r_maxD ?_)
  | (with_reducible refine r_orT ?_)
  | (with_reducible refine r_truN ?_)
  | (with_reducible refine r_intI ?_)
  | (with_reducible refine r_intB ?_)
  | (with_reducible refine r_max2 ?_)
  | (with_reducible refine r_min2 ?_)
  | (with_reducible refine r_yes ?_)
  | (with_reducible refine r_bl ?_)
  | (with_reducible refine iteT ?_)
  | (with_reducible refine iteF ?_)
  | (with_reducible refine r_iteNT ?_)
  | (with_reducible refine r_iteNF ?_)
  | (with_reducible refine r_minL ?_)
  | (with_reducible refine r_gcons ?_)
  | (with_reducible refine r_gnil ?_)
  | (with_reducible refine r_par ?_)
  | (with_reducible refine r_par3 ?_)
  | (with_reducible refine r_is2 ?_)
  | (with_reducible refine r_is3 ?_)
  | (with_reducible refine r_dget ?_)
  | (with_reducible refine r_callS ?_)
  | (with_reducible refine r_rz ?_)
  | (with_reducible refine r_rev ?_)
  | (with_reducible refine r_isI ?_)
  | (with_reducible refine r_isStr ?_)
  | (with_reducible refine r_ret ?_)
  | (with_reducible refine r_drop ?_)
  | (with_reducible refine r_rI0 ?_)
  | (with_reducible refine r_addI ?_)
  | ((with_reducible show rI (fun _ j => 0 < j) _ (.int _) (.int _) _ _); refine r_rI (by first | omega | decide) ?_)
  | ((with_reducible show rI CDiv _ (.int _) (.int _) _ _); refine r_rI (by constructor <;> omega) ?_)
  | ((with_reducible show rI CPow _ (.int _) (.int _) _ _); refine r_rI (by refine ⟨by decide, by decide, ?_⟩; omega) ?_)
  | ((with_reducible show rMul (.int _) (.int _) _ _); refine r_mulI (cmulW (by omega) (by omega)) ?_)
  | (with_reducible refine r_cmpI ?_)
  | (with_reducible refine r_cmpS ?_)
  | (with_reducible refine r_eqI ?_)
  | (with_reducible refine r_neI ?_)
  | (with_reducible refine r_eqS ?_)
  | (with_reducible refine r_neS ?_)
  | (with_reducible refine r_inSF ?_)
  | (with_reducible refine r_inST ?_)
  | (with_reducible refine r_isiStr ?_)
  | ((with_reducible show rIx _ (.ref _) (.int _) _ _); refine' r_ixL (SqL.of ?h) ?e ?_; (case h => walk_at "hp"); (case e => rfl))
  | ((with_reducible show rSetL (.ref _) (.int _) _ _ _); refine' r_setL ?h ?e ?_; (case h => walk_at "hp"); (case e => rfl)))
local macro_rules | `(tactic| walk_at "g") => `(tactic| repeat walk_at "s")


local macro_rules | `(tactic| walk_at "x") => `(tactic| first | omega | (simp only [one_nl, one_bs, one_q1, one_q2, qS_nil, qS_q1, one_qS, mem_part, mem_qs, mem_all]; omega))
local macro_rules | `(tactic| walk_at "d") => `(tactic| first
  | (with_reducible refine iteDT (by walk_at "x") ?_)
  | (with_reducible refine iteDF (by walk_at "x") ?_)
  | (with_reducible refine iteNT (by walk_at "x") ?_)
  | (with_reducible refine iteNF (by walk_at "x") ?_))
local macro_rules | `(tactic| walk_at "G") => `(tactic| repeat (first | walk_at "s" | walk_at "d"))
section
variable {P : Program} {w : World} {K : PySem.W.Frag} {mg : Str → Option Value} {base : Heap} {CL CI CS CW CB CT : Addr}
theorem ok_quoted (T : Tx K mg) (O_NoWord : OE P w K mg base "NoWord" "found" CW) {f f_ways f_escaped f_is_word f_are_signs : Addr} {fd fd_ways fd_escaped fd_is_word fd_are_signs : FuncData} (F : Fun K "quoted" "quoted" s_quoted f fd)
    (D_ways : DAt K mg "_ways" s_ways P_ways f_ways fd_ways)
    (D_escaped : DAt K mg "_escaped" s_escaped P_escaped f_escaped fd_escaped)
    (D_is_word : DAt K mg "is_word" s_is_word P_is_word f_is_word fd_is_word)
    (D_are_signs : DAt K mg "are_signs" s_are_signs P_are_signs f_are_signs fd_are_signs) : FnOk P w K mg base (L2.CX P w) 4 f fd P_quoted (spQuotedE CW) := by
  have G_ways : FnOk P w K mg base CX0 2 f_ways fd_ways P_ways spWays := ok_ways T D_ways.fn D_escaped
  have G_is_word : FnOk P w K mg base CX0 2 f_is_word fd_is_word P_is_word spIsWordE := ok_is_word T D_is_word.fn D_are_signs
  refine F.okX sc_quoted (fun vs H Q E h => ?_) (fun cdv A outer s H vs Q E hr h => ?_)
  · obtain ⟨B, x, d, rfl, _⟩ := h
    rfl
  · obtain ⟨B, x, d, rfl, hx, kn, k⟩ := h
    refine ⟨_, (pss_cons (ps_if (pt_not (pt_val (pe_call G_is_word (hr.mono (by decide)) rfl D_is_word.gl D_is_word.fn.kp D_is_word.bd .nil pass0 (pa_cons (pv 0) pa_nil)))) (pss_one (ps_rzK (K := K) (W := (fun cls d _ H' => E cls d H')) rfl rfl (takes_of rfl rfl rfl rfl) O_NoWord (hr.mono (by decide)) rfl (by exact (pa_cons (pv 0) pa_nil)))) pss_nil) (pss_cons (ps_if (pt_val (pe_m0 PySem.F.slot_str_isalnum PySem.F.type_str_isalnum mA_isalnum (pv 0))) (pss_one (ps_ret (pv 0))) pss_nil) (pss_one (ps_ret (asMin (K := K) rfl (pe_minLen (pe_call G_ways (hr.mono (by decide)) rfl D_ways.gl D_ways.fn.kp D_ways.bd .nil pass0 (pa_cons (pv 0) pa_nil)) rfl rfl T.z_min rfl T.z_len)))))), ?_⟩
    walk_at "g"
    refine ⟨B, x, d, rfl, hx, fun H1 s1 => ?_⟩
    cases e1 : wdD d with
    | false =>
      walk_at "g"
      exact rz_one O_NoWord.T O_NoWord.nf ((kn e1).at s1)
    | true =>
    replace k := k e1
    obtain ⟨z, rfl, rfl, _, _⟩ := hx.S_of (d := d) (by cases d <;> first | rfl | exact (Bool.false_ne_true e1).elim)
    have e2 : (decide (z.length ≤ 40) && sg (cd z)) = true := e1
    rw [Bool.and_eq_true, decide_eq_true_iff, sg_iff] at e2
    have zl := e2.1
    have hz : Wd (cd z) := ⟨by rw [← len_cd]; exact zl, e2.2⟩
    walk_at "g"
    refine r_ite (fun e => ?_) fun _ => ?_
    · walk_at "g"
      have := k (cd z) H1 (by rw [← len_cd]; omega) s1
      rw [S_of] at this
      exact this
    walk_at "g"
    refine ⟨z, rfl, Nat.le_trans zl (by decide), fun p H2 hp s2 h2 => ?_⟩
    exact ⟨p, _, rfl, SqL.of h2, ways_pos _, fun l hl => ways_big hz hl, fun v hv => k v H2 (FM.word hz hv) (s1.trans s2)⟩
theorem ok_is_state (T : Tx K mg) {f f_are_words f_is_word f_are_signs : Addr} {fd fd_are_words fd_is_word fd_are_signs : FuncData} (F : Fun K "is_state" "is_state" s_is_state f fd)
    (D_are_words : DAt K mg "are_words" s_are_words P_are_words f_are_words fd_are_words)
    (D_is_word : DAt K mg "is_word" s_is_word P_is_word f_is_word fd_is_word)
    (D_are_signs : DAt K mg "are_signs" s_are_signs P_are_signs f_are_signs fd_are_signs) : FnOk P w K mg base CX0 4 f fd P_is_state spIsStateE := by
  have G_are_words : FnOk P w K mg base CX0 3 f_are_words fd_are_words P_are_words spAreWordsE := ok_are_words T D_are_words.fn D_is_word D_are_signs
  have G_is_word : FnOk P w K mg base CX0 2 f_is_word fd_is_word P_is_word spIsWordE := ok_is_word T D_is_word.fn D_are_signs
  refine F.ok sc_is_state (fun vs H Q E h => ?_) (fun cdv A outer s H vs Q E hr h => ?_)
  · obtain ⟨B, x, d, rfl, _⟩ := h
    rfl
  · obtain ⟨B, x, d, rfl, hx, fl, k⟩ := h
    obtain ⟨qa, hqa, sqa⟩ := T.c_QUOTES
    refine ⟨_, (pss_cons (ps_if (PW.pt (pw_or (pt_not (pt_val (pe_callB (L2.call_isi : CallR _ _ (rIsi K)) (by rfl) T.z_isinstance (by decide +kernel) (pa_cons (pv 0) (pa_cons (pe_bltn (v := .ty "tuple") (u := .type "tuple") rfl T.z_tuple (by decide +kernel) rfl) pa_nil))))) (pw_or1 (pt_cmpR ((op_neA hr.units) : OpR _ _ (rNeA K)) (pe_callB (call_lenA : CallR _ _ (rLen K)) (by rfl) T.z_len (by decide +kernel) (pa_cons (pv 0) pa_nil)) pe_int (nomark _))))) (pss_one (ps_ret pe_bl)) pss_nil) (pss_cons (ps_asg (pv 0) (asGTup (K := K) rfl (pg_tup rfl (pgs_cons (pg_name (i := 1) sc_is_state.nd rfl (Or.inl rfl)) (pgs_cons (pg_name (i := 2) sc_is_state.nd rfl (Or.inl rfl)) (pgs_cons (pg_name (i := 3) sc_is_state.nd rfl (Or.inl rfl)) pgs_nil)))))) (pss_cons (ps_if (pt_not (pt_val (pe_call G_are_words (hr.mono (by decide)) rfl D_are_words.gl D_are_words.fn.kp D_are_words.bd .nil pass0 (pa_cons (pv 1) pa_nil)))) (pss_one (ps_ret pe_bl)) pss_nil) (pss_cons (ps_if (pt_cmpR L2.op_isN (pv 2) pe_non (nomark _)) (pss_one (ps_ret (pe_cmpR (op_eqK hr.units : OpR _ _ (rEqK K)) (pv 3) pe_str (nomark _)))) pss_nil) (pss_one (ps_ret (pe_and (pe_call G_is_word (hr.mono (by decide)) rfl D_is_word.gl D_is_word.fn.kp D_is_word.bd .nil pass0 (pa_cons (pv 2) pa_nil)) (pe_one (pe_or (pe_cmpR (op_eqK hr.units : OpR _ _ (rEqK K)) (pv 3) pe_str (nomark _)) (pe_one (pe_cmpR (op_inX (room_65 hr) : OpR _ _ (rInX K)) (pv 3) (pe_gR hqa rfl) (by rfl)))))))))))), ?_⟩
    walk_at "g"
    refine hx.isT ?_
    cases e1 : isTD d with
    | false =>
      have : stE d = false := by cases d <;> first | rfl | exact (Bool.false_ne_true e1.symm).elim
      rw [this] at k
      walk_at "g"
      exact k _ (Same.refl _)
    | true =>
      obtain ⟨a, xs, ds, rfl, rfl, ha, t⟩ := hx.T_of e1
      walk_at "g"
      refine r_lenT (SqT.of ha) ?_
      walk_at "g"
      have le := t.len
      refine r_iteN (fun c => ?_) fun c => ?_
      · have : stE (.tuple ds) = false := by
          match ds, le with
          | [], _ => rfl
          | [_], _ => rfl
          | [_, _], _ => rfl
          | [_, _, _], le => rw [List.length_cons, List.length_cons, List.length_cons, List.length_nil] at le; omega
          | _ :: _ :: _ :: _ :: _, _ => rfl
        rw [this] at k
        walk_at "g"
        exact k _ (Same.refl _)
      match xs, ds, t, c with
      | [], _, _, c => exact absurd c (by simp)
      | [_], _, _, c => exact absurd c (by simp)
      | [_, _], _, _, c => exact absurd c (by simp)
      | _ :: _ :: _ :: _ :: _, _, _, c => exact absurd c (by simp only [List.length_cons]; omega)
      | [x1, x2, x3], [d1, d2, d3], .cons h1 (.cons h2 (.cons h3 .nil)), _ =>
        walk_at "g"
        refine r_gtup (SqT.of ha) rfl ?_
        walk_at "g"
        refine ⟨B, x1, d1, rfl, h1, fun H1 s1 => ?_⟩
        have fl : flatE d3 = true := fl
        have inq : ∀ (H' : Hp) (N : VK), De B H' x3 d3 → N (.bl (strIs d3 "'" || strIs d3 "\"")) H' → rInX K x3 (.ref qa) H' N := fun H' N h n => by
          have sh : SeqAt.shaped d3 = true := by
            cases h with
            | str z hz c =>
              have := can_w c
              rw [show dW (cd z) = .str z from congrArg PyData.str (S_of z)] at this
              show (PyData.canLay0 (.str z) && decide (0 ≤ 64)) = true
              rw [this]; rfl
            | non => rfl
            | bl v => rfl
            | int i h => rfl
            | _ => exact (Bool.false_ne_true fl).elim
          refine ⟨d3, [.str "'", .str "\""], h.dp (SeqAt.canLay_of_shaped sh), .inr (.tup (sqa H') (.cons (.str _) (.cons (.str _) .nil))), sh, by decide +kernel, ?_⟩
          have : ([.str "'", .str "\""] : List PyData).any (fun z => PyData.eqv z d3) = (strIs d3 "'" || strIs d3 "\"") := by
            rw [List.any_cons, List.any_cons, List.any_nil, Bool.or_false]
            cases h with
            | str z hz c =>
              show (decide (Str.ofString "'" = z) || decide (Str.ofString "\"" = z)) = (decide (z = Str.ofString "'") || decide (z = Str.ofString "\""))
              rw [decide_eq_decide.mpr ⟨Eq.symm, Eq.symm⟩, show decide (Str.ofString "\"" = z) = decide (z = Str.ofString "\"") from decide_eq_decide.mpr ⟨Eq.symm, Eq.symm⟩]
            | non => rfl
            | bl v => rfl
            | int i h => rfl
            | _ => exact (Bool.false_ne_true fl).elim
          rw [this]
          exact n
        have h2' := h2.same s1
        have h3' := h3.same s1
        show ∃ c, _
        cases e2 : wordsE d1 with
        | false =>
          have : stE (.tuple [d1, d2, d3]) = false := by show (wordsE d1 && _) = false; rw [e2]; rfl
          rw [this] at k
          refine ⟨_, rfl, r_iteNF ?_⟩
          walk_at "g"
          exact k _ s1
        | true =>
          have e3 : stE (.tuple [d1, d2, d3]) = bqE d2 d3 := by show (wordsE d1 && _) = _; rw [e2, Bool.true_and]
          rw [e3] at k
          refine ⟨_, rfl, r_iteNT ?_⟩
          walk_at "g"
          by_cases q : x2 = .non
          · subst q
            cases h2'
            refine ⟨rfl, ⟨_, rfl, iteDT rfl ?_⟩⟩
            walk_at "g"
            exact .inr ⟨B, d3, "", h3', rfl, k _ s1⟩
          · refine ⟨rfl, ⟨_, rfl, iteDF q ?_⟩⟩
            replace k : ∀ H', Same H H' → Q (.bl (wdD d2 && quoE d3)) H' := by
              cases h2' with
              | non => exact absurd rfl q
              | _ => exact k
            walk_at "g"
            refine ⟨B, x2, d2, rfl, h2', fun H2 s2 => ?_⟩
            replace k := fun H' s => k H' ((s1.trans s2).trans s)
            replace h3' := h3'.same s2
            show ∃ c, _
            cases e4 : wdD d2 with
            | false =>
              rw [e4, Bool.false_and] at k
              exact ⟨_, rfl, iteF (k _ (Same.refl _))⟩
            | true =>
              rw [e4, Bool.true_and] at k
              refine ⟨_, rfl, iteT ?_⟩
              walk_at "g"
              refine .inr ⟨B, d3, "", h3', rfl, ?_⟩
              have k : ∀ H', Same H2 H' → Q (.bl ((strIs d3 "" || strIs d3 "'") || strIs d3 "\"")) H' := k
              show ∃ c, _
              cases e5 : strIs d3 "" with
              | true =>
                rw [e5, Bool.true_or, Bool.true_or] at k
                exact ⟨_, rfl, iteT (k _ (Same.refl _))⟩
              | false =>
                rw [e5, Bool.false_or] at k
                refine ⟨_, rfl, iteF ?_⟩
                walk_at "g"
                exact inq _ _ h3' (k _ (Same.refl _))
end
end K07

namespace K07
open PySem PySem.Spec PyProof.Rows L2 J M
local macro_rules | `(tactic| walk_at "hp") => `(tactic| first | assumption | exact upd_same | (rw [upd_ne (by assumption)]; walk_at "hp") | (rw [upd_ne (Ne.symm (by assumption))]; walk_at "hp"))
local macro_rules | `(tactic| walk_at "s") => `(tactic| first
  | ((with_reducible refine' r_var ?h ?k); (case h => exact rfl))
  | (with_reducible refine r_c ?_)
  | (with_reducible refine r_op ?_)
  | (with_reducible refine r_un ?_)
  | (with_reducible refine r_seq ?_)
  | (with_reducible refine r_next ?_)
  | (with_reducible refine r_sets ?_)
  | (with_reducible refine r_gname ?_)
  | (with_reducible refine r_ifS ?_)
  | (with_reducible refine r_gsub ?_)
  | (with_reducible refine r_test ?_)
  | (with_reducible refine r_tb ?_)
  | (with_reducible refine r_not ?_)
  | (with_reducible refine r_and ?_)
  | (with_reducible refine r_or ?_)
  | (with_reducible refine r_andV ?_)
  | (with_reducible refine r_orV ?_)
  | (with_reducible refine r_notV ?_)
  | (with_reducible refine r_ifE ?_)
  | (with_reducible refine r_chain ?_)
  | (with_reducible refine r_cb ?_)
  | (with_reducible refine r_cons ?_)
  | (with_reducible refine r_nil ?_)
  | (with_reducible refine r_call ?_)
  | (with_reducible refine r_lst ?_)
  | (with_reducible refine r_tup ?_)
  | (with_reducible refine r_slice ?_)
  | (with_reducible refine r_nop ?_)
  | (with_reducible refine r_part ?_)
  | (with_reducible refine r_bm ?_)
  | (with_reducible refine r_m1 ?_)
  | (with_reducible refine r_m0 ?_)
  | (with_reducible refine r_is ?_)
  | (with_reducible refine r_maxD ?_)
  | (with_reducible refine r_orT ?_)
  | (with_reducible refine r_truN ?_)
  | (with_reducible refine r_intI ?_)
  | (with_reducible refine r_intB ?_)
  | (with_reducible refine r_max2 ?_)
  | (with_reducible refine r_min2 ?_)
  | (with_reducible refine r_yes ?_)
  | (with_reducible refine r_bl ?_)
  | (with_reducible refine iteT ?_)
  | (with_reducible refine iteF ?_)
  | (with_reducible refine r_iteNT ?_)
  | (with_reducible refine r_iteNF ?_)
  | (with_reducible refine r_minL ?_)
  | (with_reducible refine r_gcons ?_)
  | (with_reducible refine r_gnil ?_)
  | (with_reducible refine r_par ?_)
  | (with_reducible refine r_par3 ?_)
  | (with_reducible refine r_is2 ?_)
  | (with_reducible refine r_is3 ?_)
  | (with_reducible refine r_dget ?_)
  | (with_reducible refine r_callS ?_)
  | (with_reducible refine r_rz ?_)
  | (with_reducible refine r_rev ?_)
  | (with_reducible refine r_isI ?_)
  | (with_reducible refine r_isStr ?_)
  | (with_reducible refine r_ret ?_)
  | (with_reducible refine r_drop ?_)
  | (with_reducible refine r_rI0 ?_)
  | (with_reducible refine r_addI ?_)
  | ((with_reducible show rI (fun _ j => 0 < j) _ (.int _) (.int _) _ _); refine r_rI (by first | omega | decide) ?_)
  | ((with_reducible show rI CDiv _ (.int _) (.int _) _ _); refine r_rI (by constructor <;> omega) ?_)
  | ((with_reducible show rI CPow _ (.int _) (.int _) _ _); refine r_rI (by refine ⟨by decide, by decide, ?_⟩; omega) ?_)
  | ((with_reducible show rMul (.int _) (.int _) _ _); refine r_mulI (cmulW (by omega) (by omega)) ?_)
  | (with_reducible refine r_cmpI ?_)
  | (with_reducible refine r_cmpS ?_)
  | (with_reducible refine r_eqI ?_)
  | (with_reducible refine r_neI ?_)
  | (with_reducible refine r_eqS ?_)
  | (with_reducible refine r_neS ?_)
  | (with_reducible refine r_inSF ?_)
  | (with_reducible refine r_inST ?_)
  | (with_reducible refine r_isiStr ?_)
  | ((with_reducible show rIx _ (.ref _) (.int _) _ _); refine' r_ixL (SqL.of ?h) ?e ?_; (case h => walk_at "hp"); (case e => rfl))
  | ((with_reducible show rSetL (.ref _) (.int _) _ _ _); refine' r_setL ?h ?e ?_; (case h => walk_at "hp"); (case e => rfl)))
local macro_rules | `(tactic| walk_at "g") => `(tactic| repeat walk_at "s")


local macro_rules | `(tactic| walk_at "x") => `(tactic| first | omega | (simp only [one_nl, one_bs, one_q1, one_q2, qS_nil, qS_q1, one_qS, mem_part, mem_qs, mem_all]; omega))
local macro_rules | `(tactic| walk_at "d") => `(tactic| first
  | (with_reducible refine iteDT (by walk_at "x") ?_)
  | (with_reducible refine iteDF (by walk_at "x") ?_)
  | (with_reducible refine iteNT (by walk_at "x") ?_)
  | (with_reducible refine iteNF (by walk_at "x") ?_))
local macro_rules | `(tactic| walk_at "G") => `(tactic| repeat (first | walk_at "s" | walk_at "d"))
section
variable {P : Program} {w : World} {K : PySem.W.Frag} {mg : Str → Option Value} {base : Heap} {CL CI CS CW CB CT : Addr}
theorem ok_rest (T : Tx K mg) {f f_escaped : Addr} {fd fd_escaped : FuncData} (F : Fun K "_rest_quoted" "_rest_quoted" s_rest_quoted f fd)
    (D_escaped : DAt K mg "_escaped" s_escaped P_escaped f_escaped fd_escaped) : FnOk P w K mg base CX0 2 f fd P_rest_quoted spRestE := by
  have G_escaped : FnOk P w K mg base CX0 1 f_escaped fd_escaped P_escaped spEscaped := ok_escaped T D_escaped.fn
  refine F.ok sc_rest_quoted (fun vs H Q E h => ?_) (fun cdv A outer s H vs Q E hr h => ?_)
  · obtain ⟨z, q, rfl, _⟩ := h
    rfl
  · obtain ⟨z, q, rfl, hz, hn, k⟩ := h
    refine ⟨_, (pss_cons (ps_if (pt_cmpR ((op_eqA hr.units) : OpR _ _ (rEqA K)) (pv 1) pe_str (nomark _)) (pss_one (ps_ret (pe_op (oAdd : OpR _ _ (J.rAdd K)) (asBM (K := K) rfl (pe_bm PySem.F.plainAttrs_str PySem.F.slot_str_replace PySem.F.type_str_replace mt_rep0 (pv 0) (pa_cons pe_str (pa_cons pe_str pa_nil)))) pe_str))) pss_nil) (pss_cons (ps_if (pt_cmpR ((op_eqA hr.units) : OpR _ _ (rEqA K)) (pv 1) pe_str (nomark _)) (pss_one (ps_ret (pe_op (oAdd : OpR _ _ (J.rAdd K)) (pe_call G_escaped (hr.mono (by decide)) rfl D_escaped.gl D_escaped.fn.kp D_escaped.bd .nil pass0 (pa_cons (pv 0) (pa_cons (pe_gS T.c_NEEDING_WITHIN rfl) pa_nil))) pe_str))) pss_nil) (pss_one (ps_ret (pe_call G_escaped (hr.mono (by decide)) rfl D_escaped.gl D_escaped.fn.kp D_escaped.bd .nil pass0 (pa_cons (pv 0) (pa_cons (pe_gS T.c_NEEDING rfl) pa_nil))))))), ?_⟩
    obtain ⟨tn, hnd⟩ := T.c_NEEDING
    obtain ⟨tw, hnw⟩ := T.c_NEEDING_WITHIN
    have el : ∀ n : List Nat, (S (esc n (cd z))).length ≤ 80 := fun n => by
      rw [S_len]
      have := M.esc_len n (cd z)
      rw [← len_cd] at this
      omega
    walk_at "g"
    refine r_iteD (fun c => ?_) fun c => ?_
    · walk_at "g"
      refine ⟨rfl, ⟨z, _, 39, rfl, rfl, hn, ?_⟩⟩
      refine r_c ?_
      refine r_addS (le_line (by have : (Str.ofString "'").length = 1 := by decide +kernel
                                 omega)) ?_
      exact k _ _ (by rw [len_app]; have : (Str.ofString "'").length = 1 := by decide +kernel
                      omega) (Same.refl _)
    · walk_at "g"
      refine r_iteD (fun c => ?_) fun c => ?_
      · walk_at "g"
        refine ⟨z, _, rfl, by omega, fun H1 s1 => ?_⟩
        walk_at "g"
        refine r_addS (le_line (by have := el (cd (Str.ofString "\"\\")); have : (Str.ofString "\"").length = 1 := by decide +kernel
                                   omega)) ?_
        exact k _ _ (by rw [len_app]; have := el (cd (Str.ofString "\"\\")); have : (Str.ofString "\"").length = 1 := by decide +kernel
                        omega) s1
      · walk_at "g"
        refine ⟨z, _, rfl, by omega, fun H1 s1 => ?_⟩
        exact k _ _ (by have := el (cd (Str.ofString " '\"\\")); omega) s1
theorem ok_written (T : Tx K mg) {f f_rest_quoted f_quoted f_escaped f_ways f_is_word f_are_signs : Addr} {fd fd_rest_quoted fd_quoted fd_escaped fd_ways fd_is_word fd_are_signs : FuncData} (F : Fun K "written_behind" "written_behind" s_written_behind f fd)
    (D_rest_quoted : DAt K mg "_rest_quoted" s_rest_quoted P_rest_quoted f_rest_quoted fd_rest_quoted)
    (D_quoted : DAt K mg "quoted" s_quoted P_quoted f_quoted fd_quoted)
    (D_escaped : DAt K mg "_escaped" s_escaped P_escaped f_escaped fd_escaped)
    (D_ways : DAt K mg "_ways" s_ways P_ways f_ways fd_ways)
    (D_is_word : DAt K mg "is_word" s_is_word P_is_word f_is_word fd_is_word)
    (D_are_signs : DAt K mg "are_signs" s_are_signs P_are_signs f_are_signs fd_are_signs) : FnOk P w K mg base CX0 4 f fd P_written_behind spWrittenE := by
  have G_rest_quoted : FnOk P w K mg base CX0 2 f_rest_quoted fd_rest_quoted P_rest_quoted spRestE := ok_rest T D_rest_quoted.fn D_escaped
  have G_quoted : FnOk P w K mg base CX0 3 f_quoted fd_quoted P_quoted spQuoted := ok_quoted0 T D_quoted.fn D_ways D_escaped D_is_word D_are_signs
  refine F.ok sc_written_behind (fun vs H Q E h => ?_) (fun cdv A outer s H vs Q E hr h => ?_)
  · obtain ⟨a, x, g, q, y, rfl, _⟩ := h
    rfl
  · obtain ⟨a, x, g, q, y, rfl, ha, lg, hy, hn, k⟩ := h
    refine ⟨_, (pss_cons (ps_asg (pv 0) (asGTup (K := K) rfl (pg_tup rfl (pgs_cons (pg_name (i := 2) sc_written_behind.nd rfl (Or.inl rfl)) (pgs_cons (pg_name (i := 3) sc_written_behind.nd rfl (Or.inl rfl)) (pgs_cons (pg_name (i := 4) sc_written_behind.nd rfl (Or.inl rfl)) pgs_nil)))))) (pss_cons (ps_if (pt_cmpR L2.op_isN (pv 3) pe_non (nomark _)) (pss_one (ps_ret (pe_op (oAdd : OpR _ _ (J.rAdd K)) (pe_call G_quoted (hr.mono (by decide)) rfl D_quoted.gl D_quoted.fn.kp D_quoted.bd .nil pass0 (pa_cons (pv 1) pa_nil)) pe_str))) pss_nil) (pss_one (ps_ret (pe_op (oAdd : OpR _ _ (J.rAdd K)) (pe_call G_rest_quoted (hr.mono (by decide)) rfl D_rest_quoted.gl D_rest_quoted.fn.kp D_rest_quoted.bd .nil pass0 (pa_cons (pe_slice (sl_any : SlR _ (rSl K)) (pv 1) (po_some (pe_callB (call_lenA : CallR _ _ (rLen K)) (by rfl) T.z_len (by decide +kernel) (pa_cons (pv 3) pa_nil))) po_none) (pa_cons (pv 4) pa_nil))) pe_str))))), ?_⟩
    walk_at "g"
    refine r_gtup (SqT.of ha) rfl ?_
    walk_at "g"
    have yl : y.length ≤ 40 := by rw [len_cd]; exact hy.1
    have sp : (Str.ofString " ").length = 1 := by decide +kernel
    cases g with
    | none =>
      refine ⟨rfl, ?_⟩
      walk_at "g"
      refine iteDT rfl ?_
      walk_at "g"
      refine ⟨y, rfl, hy, fun v H1 fm s1 => ?_⟩
      have vl := FM.word hy fm
      walk_at "g"
      refine r_addS (le_line (by rw [sp, S_len]; omega)) ?_
      exact k _ _ s1
    | some b =>
      refine ⟨rfl, ?_⟩
      walk_at "g"
      refine iteDF (fun e => by cases e) ?_
      walk_at "g"
      have lg : b.length ≤ 40 := lg
      refine r_len (Nat.le_trans lg (by decide)) ?_
      walk_at "g"
      refine r_slS (Nat.le_trans yl (by decide)) ?_
      walk_at "g"
      refine ⟨_, q, rfl, ?_, ?_, fun v H1 vl s1 => ?_⟩
      · exact Nat.le_trans cut_ok.1 yl
      · exact fun h => hn (cut_ok.2 _ h)
      walk_at "g"
      refine r_addS (le_line (by rw [sp]; omega)) ?_
      exact k _ _ s1
theorem strIs_of {d : PyData} {n : Str} (h : strIs d n = true) : d = .str n := by
  cases d with
  | str z => exact congrArg PyData.str (of_decide_eq_true h)
  | _ => exact (Bool.false_ne_true h).elim
theorem _root_.J.De.str_of {B : Addr → Prop} {H : Hp} {x : V} {z : Str} (h : De B H x (.str z)) : x = .str z := by
  obtain ⟨z', rfl, e, _⟩ := h.S_of rfl
  cases e; rfl
theorem _root_.J.De.non_of {B : Addr → Prop} {H : Hp} {x : V} (h : De B H x .none) : x = .non := by
  cases h; rfl
theorem quo_of {d : PyData} (h : quoE d = true) : ∃ q : Str, d = .str q := by
  have h : (strIs d "" || strIs d "'" || strIs d "\"") = true := h
  rcases Bool.or_eq_true_iff.mp h with h | h  -- own
  · rcases Bool.or_eq_true_iff.mp h with h | h
    · exact ⟨_, strIs_of h⟩
    · exact ⟨_, strIs_of h⟩
  · exact ⟨_, strIs_of h⟩
theorem wd_of {d : PyData} (h : wdD d = true) : ∃ z : Str, d = .str z ∧ Wd (cd z) := by
  cases d with
  | str z =>
    have e2 : (decide (z.length ≤ 40) && sg (cd z)) = true := h
    rw [Bool.and_eq_true, decide_eq_true_iff, sg_iff] at e2
    exact ⟨z, rfl, by rw [← len_cd]; exact e2.1, e2.2⟩
  | _ => exact (Bool.false_ne_true h).elim
theorem st_of {B : Addr → Prop} {H : Hp} {x : V} {d : PyData} (hx : De B H x d) (h : stE d = true) : ∃ (a : Addr) (xw : V) (g : Option Str) (q : Str), x = .ref a ∧ H a = some (.tup [xw, bgV g, .str q]) ∧ (g.getD "").length ≤ 40 ∧ begE d = cd (g.getD "") := by
  have h0 : isTD d = true := by cases d <;> first | rfl | exact (Bool.false_ne_true h).elim
  obtain ⟨a, xs, ds, rfl, rfl, ha, t⟩ := hx.T_of h0
  have h : st3 ds = true := h
  match ds, h with
  | [], h => exact (Bool.false_ne_true h).elim
  | [_], h => exact (Bool.false_ne_true h).elim
  | [_, _], h => exact (Bool.false_ne_true h).elim
  | _ :: _ :: _ :: _ :: _, h => exact (Bool.false_ne_true h).elim
  | [d1, d2, d3], h =>
    obtain - | ⟨h1, - | ⟨h2, - | ⟨h3, - | _⟩⟩⟩ := t
    rename_i x1 x2 x3
    have h : (wordsE d1 && bqE d2 d3) = true := h
    have h := (Bool.and_eq_true_iff.mp h).2
    cases d2 with
    | none =>
      have e3 := strIs_of (show strIs d3 "" = true from h)
      subst e3
      cases h2.non_of
      cases h3.str_of
      exact ⟨a, x1, none, _, rfl, ha, by decide, rfl⟩
    | str b =>
      have h : (wdD (.str b) && quoE d3) = true := h
      obtain ⟨q, rfl⟩ := quo_of (Bool.and_eq_true_iff.mp h).2
      obtain ⟨b', e, wb⟩ := wd_of (Bool.and_eq_true_iff.mp h).1
      cases e
      cases h2.str_of
      cases h3.str_of
      exact ⟨a, x1, some b, q, rfl, ha, by rw [len_cd]; exact wb.1, rfl⟩
    | _ => exact (Bool.false_ne_true h).elim
theorem ok_behind (T : Tx K mg) (O_NoState : OE P w K mg base "NoState" "found" CS) (O_NoWord : OE P w K mg base "NoWord" "found" CW) {f f_is_state f_is_word f_written_behind f_are_words f_are_signs f_rest_quoted f_quoted f_escaped f_ways : Addr} {fd fd_is_state fd_is_word fd_written_behind fd_are_words fd_are_signs fd_rest_quoted fd_quoted fd_escaped fd_ways : FuncData} (F : Fun K "quoted_behind" "quoted_behind" s_quoted_behind f fd)
    (D_is_state : DAt K mg "is_state" s_is_state P_is_state f_is_state fd_is_state)
    (D_is_word : DAt K mg "is_word" s_is_word P_is_word f_is_word fd_is_word)
    (D_written_behind : DAt K mg "written_behind" s_written_behind P_written_behind f_written_behind fd_written_behind)
    (D_are_words : DAt K mg "are_words" s_are_words P_are_words f_are_words fd_are_words)
    (D_are_signs : DAt K mg "are_signs" s_are_signs P_are_signs f_are_signs fd_are_signs)
    (D_rest_quoted : DAt K mg "_rest_quoted" s_rest_quoted P_rest_quoted f_rest_quoted fd_rest_quoted)
    (D_quoted : DAt K mg "quoted" s_quoted P_quoted f_quoted fd_quoted)
    (D_escaped : DAt K mg "_escaped" s_escaped P_escaped f_escaped fd_escaped)
    (D_ways : DAt K mg "_ways" s_ways P_ways f_ways fd_ways) : FnOk P w K mg base (L2.CX P w) 5 f fd P_quoted_behind (spBehindE CS CW) := by
  have G_is_state : FnOk P w K mg base CX0 4 f_is_state fd_is_state P_is_state spIsStateE := ok_is_state T D_is_state.fn D_are_words D_is_word D_are_signs
  have G_is_word : FnOk P w K mg base CX0 2 f_is_word fd_is_word P_is_word spIsWordE := ok_is_word T D_is_word.fn D_are_signs
  have G_written_behind : FnOk P w K mg base CX0 4 f_written_behind fd_written_behind P_written_behind spWrittenE := ok_written T D_written_behind.fn D_rest_quoted D_quoted D_escaped D_ways D_is_word D_are_signs
  refine F.okX sc_quoted_behind (fun vs H Q E h => ?_) (fun cdv A outer s H vs Q E hr h => ?_)
  · obtain ⟨B, B2, x, y, d, e, rfl, _⟩ := h
    rfl
  · obtain ⟨B, B2, x, y, d, e, rfl, hx, fl, kn, k⟩ := h
    refine ⟨_, (pss_cons (ps_if (pt_not (pt_val (pe_call G_is_state (hr.mono (by decide)) rfl D_is_state.gl D_is_state.fn.kp D_is_state.bd .nil pass0 (pa_cons (pv 0) pa_nil)))) (pss_one (ps_rzK (K := K) (W := (fun cls d _ H' => E cls d H')) rfl rfl (takes_of rfl rfl rfl rfl) O_NoState (hr.mono (by decide)) rfl (by exact (pa_cons (pv 0) pa_nil)))) pss_nil) (pss_cons (ps_if (PW.pt (pw_or (pt_not (pt_val (pe_call G_is_word (hr.mono (by decide)) rfl D_is_word.gl D_is_word.fn.kp D_is_word.bd .nil pass0 (pa_cons (pv 1) pa_nil)))) (pw_or1 (pt_not (pt_val (pe_m1 PySem.F.slot_str_startswith PySem.F.type_str_startswith mt_startswith (pv 1) (asOrT (K := K) rfl (pe_orT (pe_ix (ix_seq : IxR _ (rIx K)) (pv 0) pe_int (fun _ _ => rfl)) (pe_one pe_str))))))))) (pss_one (ps_rzK (K := K) (W := (fun cls d _ H' => E cls d H')) rfl rfl (takes_of rfl rfl rfl rfl) O_NoWord (hr.mono (by decide)) rfl (by exact (pa_cons (pv 1) pa_nil)))) pss_nil) (pss_one (ps_ret (pe_call G_written_behind (hr.mono (by decide)) rfl D_written_behind.gl D_written_behind.fn.kp D_written_behind.bd .nil pass0 (pa_cons (pv 0) (pa_cons (pv 1) pa_nil))))))), ?_⟩
    walk_at "g"
    refine ⟨B, x, d, rfl, hx, fl, fun H1 s1 => ?_⟩
    cases e1 : stE d with
    | false =>
      walk_at "g"
      exact rz_one O_NoState.T O_NoState.nf ((kn e1).at s1)
    | true =>
    obtain ⟨hy, kw, kk⟩ := k e1
    walk_at "g"
    refine ⟨B2, y, e, rfl, hy.same s1, fun H2 s2 => ?_⟩
    cases e2 : wdD e with
    | false =>
      walk_at "g"
      exact rz_one O_NoWord.T O_NoWord.nf ((kw (by unfold goodE; rw [e2]; exact Bool.false_and _)).at (s1.trans s2))
    | true =>
    obtain ⟨z, rfl, wz⟩ := wd_of e2
    cases hy.str_of
    obtain ⟨a, xw, g, q, rfl, ha, lg, eb⟩ := st_of hx e1
    have eg : goodE d (.str z) = decide (begE d <+: cd z) := by show (wdD (.str z) && decide (begE d <+: cd z)) = _; rw [e2]; rfl
    rw [eg, eb] at kw kk
    have h2 := s2 _ _ (s1 _ _ ha)
    walk_at "g"
    have tail : ∀ b : Str, cd b = cd (g.getD "") → Txt.startswith z b = decide (cd (g.getD "") <+: cd z) := fun b e => by rw [starts_dec, e]
    have nil : ∀ b : Str, b.length = 0 → cd (Str.ofString "") = cd b := fun b h => by
      rw [len_cd] at h
      rw [List.length_eq_zero_iff.mp h]
      decide +kernel
    cases g with
    | none =>
      refine r_ixT (SqT.of h2) rfl ?_
      refine r_truN ?_
      walk_at "g"
      refine ⟨z, _, rfl, rfl, _, rfl, ?_⟩
      rw [tail (Str.ofString "") rfl]
      cases e3 : decide (cd ((none : Option Str).getD "") <+: cd z) with
      | false =>
        walk_at "g"
        exact rz_one O_NoWord.T O_NoWord.nf ((kw e3).at (s1.trans s2))
      | true =>
      obtain ⟨nq, kk⟩ := kk e3
      walk_at "g"
      refine ⟨a, xw, none, q, z, rfl, h2, lg, wz, nq z rfl, fun v H3 s3 => ?_⟩
      exact kk _ _ ((s1.trans s2).trans s3)
    | some b =>
      refine r_ixT (SqT.of h2) rfl ?_
      have lg : b.length ≤ 40 := lg
      refine r_truS (Nat.le_trans lg (by decide)) (fun h0 => ?_) fun _ => ?_
      all_goals
        walk_at "g"
        refine ⟨z, _, rfl, rfl, _, rfl, ?_⟩
        rw [tail _ (by first | rfl | exact nil b h0)]
        cases e3 : decide (cd ((some b : Option Str).getD "") <+: cd z) with
        | false =>
          walk_at "g"
          exact rz_one O_NoWord.T O_NoWord.nf ((kw e3).at (s1.trans s2))
        | true =>
        obtain ⟨nq, kk⟩ := kk e3
        walk_at "g"
        refine ⟨a, xw, some b, q, z, rfl, h2, lg, wz, nq z rfl, fun v H3 s3 => ?_⟩
        exact kk _ _ ((s1.trans s2).trans s3)
theorem ok_shows_cut (T : Tx K mg) (O_NoLine : OE P w K mg base "NoLine" "found" CL) (O_BadSign : OE P w K mg base "BadSign" "at" CB) (O_TooMany : OL P w K mg base "TooMany" "many" CT) {f f_cut f_cut_plainly f_scanned f_refuse_too_many f_is_line f_are_signs f_longer : Addr} {fd fd_cut fd_cut_plainly fd_scanned fd_refuse_too_many fd_is_line fd_are_signs fd_longer : FuncData} (F : Fun K "shows_cut" "shows_cut" s_shows_cut f fd)
    (D_cut : DAt K mg "cut" s_cut P_cut f_cut fd_cut)
    (D_cut_plainly : DAt K mg "_cut_plainly" s_cut_plainly P_cut_plainly f_cut_plainly fd_cut_plainly)
    (D_scanned : DAt K mg "_scanned" s_scanned P_scanned f_scanned fd_scanned)
    (D_refuse_too_many : DAt K mg "_refuse_too_many" s_refuse_too_many P_refuse_too_many f_refuse_too_many fd_refuse_too_many)
    (D_is_line : DAt K mg "is_line" s_is_line P_is_line f_is_line fd_is_line)
    (D_are_signs : DAt K mg "are_signs" s_are_signs P_are_signs f_are_signs fd_are_signs)
    (D_longer : DAt K mg "_longer" s_longer P_longer f_longer fd_longer) : FnOk P w K mg base (L2.CX P w) 7 f fd P_shows_cut (spShowsE CL CB CT) := by
  have G_cut : FnOk P w K mg base (L2.CX P w) 6 f_cut fd_cut P_cut (spCutE CL CB CT) := ok_cut T O_NoLine O_BadSign O_TooMany D_cut.fn D_cut_plainly D_scanned D_refuse_too_many D_is_line D_are_signs D_longer
  refine F.okX sc_shows_cut (fun vs H Q E h => ?_) (fun cdv A outer s H vs Q E hr h => ?_)
  · obtain ⟨B, B2, x, y, d, e, rfl, _⟩ := h
    rfl
  · obtain ⟨B, B2, x, y, d, e, rfl, hx, hy, sh, kn, k⟩ := h
    refine ⟨_, (pss_cons (ps_set (i := 2) sc_shows_cut.nd rfl (Or.inl rfl) (pe_callS (E := WE (fun cls d _ H' => E cls d H')) G_cut (hr.mono (by decide)) rfl D_cut.gl D_cut.fn.kp D_cut.bd (fun σ => passAt (takes_of rfl rfl rfl rfl) σ) (by exact (pa_cons (pv 0) pa_nil)))) (pss_one (ps_ret (pe_and (pe_callB (L2.call_isiT : CallR _ _ (rIsiT K)) (by rfl) T.z_isinstance (by decide +kernel) (pa_cons (pv 1) (pa_cons (pe_tup (pa_cons (pe_bltn (v := .ty "list") (u := .type "list") rfl T.z_list (by decide +kernel) rfl) (pa_cons (pe_bltn (v := .ty "tuple") (u := .type "tuple") rfl T.z_tuple (by decide +kernel) rfl) pa_nil))) pa_nil))) (pe_one (pe_cmpR ((op_eqA hr.units) : OpR _ _ (rEqA K)) (pe_callTy (call_listA : CallR _ _ (rListOf K)) (by rfl) T.z_list (by decide +kernel) (pa_cons (pv 1) pa_nil)) (pv 2) (nomark _))))))), ?_⟩
    walk_at "G"
    refine ⟨B, x, d, rfl, hx, kn, fun z dz lz => ?_⟩
    obtain ⟨k1, k2, k⟩ := k z dz lz
    refine ⟨k1, k2, fun ws hws few w1 H1 hw1 s1 h1 => ?_⟩
    replace k := k ws hws few
    walk_at "G"
    refine ⟨show 2 ≤ sizeLine by decide, fun p hp => ?_⟩
    have s2 := s1.new hp (HO.tup [V.ty "list", V.ty "tuple"])
    have h2 : upd H1 p (HO.tup [V.ty "list", V.ty "tuple"]) w1 = some (.lst (ws.map wV)) := by rw [upd_ne (new_ne hp h1).symm]; exact h1
    have h3 : upd H1 p (HO.tup [V.ty "list", V.ty "tuple"]) p = some (HO.tup [V.ty "list", V.ty "tuple"]) := upd_same
    generalize upd H1 p (HO.tup [V.ty "list", V.ty "tuple"]) = H2 at s2 h2 h3 ⊢
    walk_at "G"
    have hy2 := hy.same s2
    refine hy2.isLT h3 ?_
    cases e1 : isLD e || isTD e with
    | false =>
      walk_at "G"
      exact k _ _ s2
    | true =>
    obtain ⟨a, xs, ds, rfl, he, ha, _, da⟩ := hy2.LT_of e1
    have ei : itemsE e = ds := by rcases he with rfl | rfl <;> rfl
    rw [ei] at sh
    walk_at "G"
    refine r_listOf (ha.imp (fun h => SqL.of h) fun h => SqT.of h) fun q hq => ?_
    have s3 := s2.new hq (HO.lst xs)
    walk_at "G"
    refine .inr ⟨.list ds, dWs ws, .lst (SqL.of upd_same) (DeAll.dp (da.same ((Same.refl H2).new hq _)) (shaped_items (d := .none) sh)), dp_ws (SqL.of (by rw [upd_ne (new_ne hq h2).symm]; exact h2)), sh, sh_ws (cutR_wd lz hws), ?_⟩
    exact k _ _ s3
theorem ok_are_alike (T : Tx K mg) (O_NoLine : OE P w K mg base "NoLine" "found" CL) (O_BadSign : OE P w K mg base "BadSign" "at" CB) (O_TooMany : OL P w K mg base "TooMany" "many" CT) {f f_cut f_cut_plainly f_scanned f_refuse_too_many f_is_line f_are_signs f_longer : Addr} {fd fd_cut fd_cut_plainly fd_scanned fd_refuse_too_many fd_is_line fd_are_signs fd_longer : FuncData} (F : Fun K "are_alike" "are_alike" s_are_alike f fd)
    (D_cut : DAt K mg "cut" s_cut P_cut f_cut fd_cut)
    (D_cut_plainly : DAt K mg "_cut_plainly" s_cut_plainly P_cut_plainly f_cut_plainly fd_cut_plainly)
    (D_scanned : DAt K mg "_scanned" s_scanned P_scanned f_scanned fd_scanned)
    (D_refuse_too_many : DAt K mg "_refuse_too_many" s_refuse_too_many P_refuse_too_many f_refuse_too_many fd_refuse_too_many)
    (D_is_line : DAt K mg "is_line" s_is_line P_is_line f_is_line fd_is_line)
    (D_are_signs : DAt K mg "are_signs" s_are_signs P_are_signs f_are_signs fd_are_signs)
    (D_longer : DAt K mg "_longer" s_longer P_longer f_longer fd_longer) : FnOk P w K mg base (L2.CX P w) 7 f fd P_are_alike (spAlikeE CL CB CT) := by
  have G_cut : FnOk P w K mg base (L2.CX P w) 6 f_cut fd_cut P_cut (spCutE CL CB CT) := ok_cut T O_NoLine O_BadSign O_TooMany D_cut.fn D_cut_plainly D_scanned D_refuse_too_many D_is_line D_are_signs D_longer
  refine F.okX sc_are_alike (fun vs H Q E h => ?_) (fun cdv A outer s H vs Q E hr h => ?_)
  · obtain ⟨B, B2, x, y, d, e, rfl, _⟩ := h
    rfl
  · obtain ⟨B, B2, x, y, d, e, rfl, hx, hy, kn, k⟩ := h
    refine ⟨_, (pss_one (ps_ret (pe_cmpR ((op_eqA hr.units) : OpR _ _ (rEqA K)) (pe_callS (E := WE (fun cls d _ H' => E cls d H')) G_cut (hr.mono (by decide)) rfl D_cut.gl D_cut.fn.kp D_cut.bd (fun σ => passAt (takes_of rfl rfl rfl rfl) σ) (by exact (pa_cons (pv 0) pa_nil))) (pe_callS (E := WE (fun cls d _ H' => E cls d H')) G_cut (hr.mono (by decide)) rfl D_cut.gl D_cut.fn.kp D_cut.bd (fun σ => passAt (takes_of rfl rfl rfl rfl) σ) (by exact (pa_cons (pv 1) pa_nil))) (nomark _)))), ?_⟩
    walk_at "G"
    refine ⟨B, x, d, rfl, hx, kn, fun z dz lz => ?_⟩
    obtain ⟨k1, k2, k⟩ := k z dz lz
    refine ⟨k1, k2, fun ws hws few w1 H1 hw1 s1 h1 => ?_⟩
    obtain ⟨kn, k⟩ := k ws hws few
    walk_at "G"
    refine ⟨B2, y, e, rfl, hy.same s1, fun h => (kn h).at s1, fun z2 dz2 lz2 => ?_⟩
    obtain ⟨k1, k2, k⟩ := k z2 dz2 lz2
    refine ⟨fun e h => (k1 e h).at s1, fun us hus m => (k2 us hus m).at s1, fun us hus few2 w2 H2 hw2 s2 h2 => ?_⟩
    replace k := k us hus few2
    walk_at "G"
    refine r_eqWW (SqL.of (s2 _ _ h1)) (SqL.of h2) (cutR_wd lz hws) (cutR_wd lz2 hus) ?_
    exact k _ _ (s1.trans s2)
end
end K07

namespace K07
open PySem PySem.Spec PyProof.Rows L2 J M
local macro_rules | `(tactic| walk_at "hp") => `(tactic| first | assumption | exact upd_same | (rw [upd_ne (by assumption)]; walk_at "hp") | (rw [upd_ne (Ne.symm (by assumption))]; walk_at "hp"))
local macro_rules | `(tactic| walk_at "s") => `(tactic| first
  | ((with_reducible refine' r_var ?h ?k); (case h => exact rfl))
  | (with_reducible refine r_c ?_)
  | (with_reducible refine r_op ?_)
  | (with_reducible refine r_un ?_)
  | (with_reducible refine r_seq ?_)
  | (with_reducible refine r_next ?_)
  | (with_reducible refine r_sets ?_)
  | (with_reducible refine r_gname ?_)
  | (with_reducible refine r_ifS ?_)
  | (with_reducible refine r_gsub ?_)
  | (with_reducible refine r_test ?_)
  | (with_reducible refine r_tb ?_)
  | (with_reducible refine r_not ?_)
  | (with_reducible refine r_and ?_)
  | (with_reducible refine r_or ?_)
  | (with_reducible refine r_andV ?_)
  | (with_reducible refine r_orV ?_)
  | (with_reducible refine r_notV ?_)
  | (with_reducible refine r_ifE ?_)
  | (with_reducible refine r_chain ?_)
  | (with_reducible refine r_cb ?_)
  | (with_reducible refine r_cons ?_)
  | (with_reducible refine r_nil ?_)
  | (with_reducible refine r_call ?_)
  | (with_reducible refine r_lst ?_)
  | (with_reducible refine r_tup ?_)
  | (with_reducible refine r_slice ?_)
  | (with_reducible refine r_nop ?_)
  | (with_reducible refine r_part ?_)
  | (with_reducible refine r_bm ?_)
  | (with_reducible refine r_m1 ?_)
  | (with_reducible refine r_m0 ?_)
  | (with_reducible refine r_is ?_)
  | (with_reducible refine r_maxD ?_)
  | (with_reducible refine r_orT ?_)
  | (with_reducible refine r_truN ?_)
  | (with_reducible refine r_intI ?_)
  | (with_reducible refine r_intB ?_)
  | (with_reducible refine r_max2 ?_)
  | (with_reducible refine r_min2 ?_)
  | (with_reducible refine r_yes ?_)
  | (with_reducible refine r_bl ?_)
  | (with_reducible refine iteT ?_)
  | (with_reducible refine iteF ?_)
  | (with_reducible refine r_iteNT ?_)
  | (with_reducible refine r_iteNF ?_)
  | (with_reducible refine r_minL ?_)
  | (with_reducible refine r_gcons ?_)
  | (with_reducible refine r_gnil ?_)
  | (with_reducible refine r_par ?_)
  | (with_reducible refine r_par3 ?_)
  | (with_reducible refine r_is2 ?_)
  | (with_reducible refine r_is3 ?_)
  | (with_reducible refine r_dget ?_)
  | (with_reducible refine r_callS ?_)
  | (with_reducible refine r_rz ?_)
  | (with_reducible refine r_rev ?_)
  | (with_reducible refine r_isI ?_)
  | (with_reducible refine r_isStr ?_)
  | (with_reducible refine r_ret ?_)
  | (with_reducible refine r_drop ?_)
  | (with_reducible refine r_rI0 ?_)
  | (with_reducible refine r_addI ?_)
  | ((with_reducible show rI (fun _ j => 0 < j) _ (.int _) (.int _) _ _); refine r_rI (by first | omega | decide) ?_)
  | ((with_reducible show rI CDiv _ (.int _) (.int _) _ _); refine r_rI (by constructor <;> omega) ?_)
  | ((with_reducible show rI CPow _ (.int _) (.int _) _ _); refine r_rI (by refine ⟨by decide, by decide, ?_⟩; omega) ?_)
  | ((with_reducible show rMul (.int _) (.int _) _ _); refine r_mulI (cmulW (by omega) (by omega)) ?_)
  | (with_reducible refine r_cmpI ?_)
  | (with_reducible refine r_cmpS ?_)
  | (with_reducible refine r_eqI ?_)
  | (with_reducible refine r_neI ?_)
  | (with_reducible refine r_eqS ?_)
  | (with_reducible refine r_neS ?_)
  | (with_reducible refine r_inSF ?_)
  | (with_reducible refine r_inST ?_)
  | (with_reducible refine r_isiStr ?_)
  | ((with_reducible show rIx _ (.ref _) (.int _) _ _); refine' r_ixL (SqL.of ?h) ?e ?_; (case h => walk_at "hp"); (case e => rfl))
  | ((with_reducible show rSetL (.ref _) (.int _) _ _ _); refine' r_setL ?h ?e ?_; (case h => walk_at "hp"); (case e => rfl)))
local macro_rules | `(tactic| walk_at "g") => `(tactic| repeat walk_at "s")


local macro_rules | `(tactic| walk_at "x") => `(tactic| first | omega | (simp only [one_nl, one_bs, one_q1, one_q2, qS_nil, qS_q1, one_qS, mem_part, mem_qs, mem_all]; omega))
local macro_rules | `(tactic| walk_at "d") => `(tactic| first
  | (with_reducible refine iteDT (by walk_at "x") ?_)
  | (with_reducible refine iteDF (by walk_at "x") ?_)
  | (with_reducible refine iteNT (by walk_at "x") ?_)
  | (with_reducible refine iteNF (by walk_at "x") ?_))
local macro_rules | `(tactic| walk_at "G") => `(tactic| repeat (first | walk_at "s" | walk_at "d"))
section
variable {P : Program} {w : World} {K : PySem.W.Frag} {mg : Str → Option Value} {base : Heap} {CL CI CS CW CB CT : Addr}
theorem ok_take {f : Addr} {fd : FuncData} (F : Fun K "_law_take" "_law_take" s_law_take f fd) : FnOk P w K mg base CX0 1 f fd P_law_take spTake := by
  refine F.ok sc_law_take (fun vs H Q E h => ?_) (fun cdv A outer s H vs Q E hr h => ?_)
  · obtain ⟨b, m, n, rfl, _⟩ := h
    rfl
  · obtain ⟨b, m, n, rfl, ⟨x, y, z, hb, x0, y0, y1, z0, z1⟩, hn, m0, m1, k⟩ := h
    refine ⟨_, (pss_cons (ps_if (pt_cmpR op_gtA (pe_ix (ix_seq : IxR _ (rIx K)) (pv 0) pe_int (fun _ _ => rfl)) pe_int (nomark _)) (pss_cons (ps_set (i := 2) sc_law_take.nd rfl (Or.inl rfl) (pe_op L2.op_mod (pe_ix (ix_seq : IxR _ (rIx K)) (pv 0) pe_int (fun _ _ => rfl)) (pv 1))) (pss_cons (ps_asg (pe_op L2.op_fdiv (pe_ix (ix_seq : IxR _ (rIx K)) (pv 0) pe_int (fun _ _ => rfl)) (pv 1)) (pg_sub (pv 0) pe_int set_list)) (pss_one (ps_ret (pv 2))))) pss_nil) (pss_cons (ps_asg (pe_op (oAdd : OpR _ _ (J.rAdd K)) (pe_ix (ix_seq : IxR _ (rIx K)) (pv 0) pe_int (fun _ _ => rfl)) pe_int) (pg_sub (pv 0) pe_int set_list)) (pss_cons (ps_set (i := 3) sc_law_take.nd rfl (Or.inl rfl) (pe_op L2.op_mod (pe_op L2.op_pow (pe_op (oAdd : OpR _ _ (J.rAdd K)) (pe_op (oAdd : OpR _ _ (J.rAdd K)) (pe_ix (ix_seq : IxR _ (rIx K)) (pv 0) pe_int (fun _ _ => rfl)) (pe_op oMul pe_int (pe_ix (ix_seq : IxR _ (rIx K)) (pv 0) pe_int (fun _ _ => rfl)))) pe_int) pe_int) pe_int)) (pss_cons (ps_set (i := 3) sc_law_take.nd rfl (Or.inl rfl) (pe_op L2.op_mod (pe_op L2.op_pow (pe_op (oAdd : OpR _ _ (J.rAdd K)) (pe_op oMul (pv 3) (pe_ix (ix_seq : IxR _ (rIx K)) (pv 0) pe_int (fun _ _ => rfl))) pe_int) pe_int) pe_int)) (pss_one (ps_ret (pe_op L2.op_mod (pe_op L2.op_fdiv (pv 3) pe_int) (pv 1)))))))), ?_⟩
    walk_at "g"
    refine r_iteD (fun c => ?_) fun c => ?_
    · walk_at "g"
      exact k _ _ (Int.emod_nonneg _ (by omega)) (Int.emod_lt_of_pos _ (by omega)) (Keep.upd _ _ _) ⟨x / m, y, z, upd_same, Int.ediv_nonneg x0 (by omega), y0, y1, z0, by omega⟩
    · walk_at "g"
      have u0 := Int.emod_nonneg ((y + 7919 * (z + 1) + 31) ^ Int.toNat 5) (b := 2147483647) (by decide)
      have u1 := Int.emod_lt_of_pos ((y + 7919 * (z + 1) + 31) ^ Int.toNat 5) (b := 2147483647) (by decide)
      generalize (y + 7919 * (z + 1) + 31) ^ Int.toNat 5 % 2147483647 = u at u0 u1 ⊢
      have v0 : 0 ≤ u * (z + 1) := Int.mul_nonneg u0 (by omega)
      have v1 : u * (z + 1) ≤ 2147483647 * (z + 1) := Int.mul_le_mul_of_nonneg_right (by omega) (by omega)
      walk_at "g"
      exact k _ _ (Int.emod_nonneg _ (by omega)) (Int.emod_lt_of_pos _ (by omega)) (Keep.upd _ _ _) ⟨x, y, z + 1, upd_same, x0, y0, y1, by omega, by omega⟩
theorem ok_box (T : Tx K mg) {f : Addr} {fd : FuncData} (F : Fun K "_law_box" "_law_box" s_law_box f fd) : FnOk P w K mg base CX0 1 f fd P_law_box spBox := by
  refine F.ok sc_law_box (fun vs H Q E h => ?_) (fun cdv A outer s H vs Q E hr h => ?_)
  · obtain ⟨c, rfl, _⟩ := h
    rfl
  · obtain ⟨c, rfl, k⟩ := h
    refine ⟨_, (pss_one (ps_ret (pe_lst (pa_cons (pe_callB (call_maxA rfl) (by rfl) T.z_max (by decide +kernel) (pa_cons pe_int (pa_cons (pe_op L2.op_sub (pv 0) (pe_op L2.op_pow pe_int pe_int)) pa_nil))) (pa_cons (pe_op L2.op_mod (pv 0) pe_int) (pa_cons pe_int pa_nil)))))), ?_⟩
    walk_at "g"
    refine ⟨show 3 ≤ sizeLine by decide, fun p hp => k p _ hp ((Same.refl H).at hp _) ⟨_, _, _, upd_same, ?_, Int.emod_nonneg _ (by decide), Int.emod_lt_of_pos _ (by decide), Int.le_refl _, Int.le_refl _⟩⟩
    split <;> omega
theorem ok_pick (T : Tx K mg) {f f_law_take : Addr} {fd fd_law_take : FuncData} (F : Fun K "_law_pick" "_law_pick" s_law_pick f fd) (D_law_take : DAt K mg "_law_take" s_law_take P_law_take f_law_take fd_law_take) : FnOk P w K mg base CX0 2 f fd P_law_pick (spPick K) := by
  have G_law_take : FnOk P w K mg base CX0 1 f_law_take fd_law_take P_law_take spTake := ok_take D_law_take.fn
  refine F.ok sc_law_pick (fun vs H Q E h => ?_) (fun cdv A outer s H vs Q E hr h => ?_)
  · obtain ⟨b, n, _, _, ⟨z, rfl, _⟩ | ⟨a, xs, rfl, _⟩⟩ := h <;> rfl
  · obtain ⟨b, n, hb, hn, h⟩ := h
    have ih : ∀ {k : Int} {m : Nat}, 0 ≤ k → k < (m : Nat) → ∃ j : Nat, k = j ∧ j < m := fun {k m} a b => ⟨k.toNat, by omega, by omega⟩
    rcases h with ⟨z, rfl, z0, z1, k⟩ | ⟨a, xs, rfl, ha, hx, x0, x1, k⟩
    · refine ⟨_, (pss_one (ps_ret (pe_ix (ix_seq : IxR _ (rIx K)) (pv 1) (pe_call G_law_take (hr.mono (by decide)) rfl D_law_take.gl D_law_take.fn.kp D_law_take.bd .nil pass0 (pa_cons (pv 0) (pa_cons (pe_callB (call_lenA : CallR _ _ (rLen K)) (by rfl) T.z_len (by decide +kernel) (pa_cons (pv 1) pa_nil)) pa_nil))) (fun _ _ => rfl)))), ?_⟩
      walk_at "g"
      refine r_len (Nat.le_trans z1 (by decide)) ?_
      walk_at "g"
      refine ⟨b, _, n, rfl, hb, by omega, by omega, by omega, fun i H1 i0 i1 kp hb1 => ?_⟩
      walk_at "g"
      obtain ⟨j, rfl, hj⟩ := ih i0 i1
      rw [len_cd] at hj
      refine r_ixS (Nat.le_trans z1 (by decide)) (c := (cd z)[j]) (by rw [atI_nat]; exact List.getElem?_eq_getElem hj) ?_
      exact k _ _ (List.getElem_mem hj) kp hb1
    · refine ⟨_, (pss_one (ps_ret (pe_ix (ix_seq : IxR _ (rIx K)) (pv 1) (pe_call G_law_take (hr.mono (by decide)) rfl D_law_take.gl D_law_take.fn.kp D_law_take.bd .nil pass0 (pa_cons (pv 0) (pa_cons (pe_callB (call_lenA : CallR _ _ (rLen K)) (by rfl) T.z_len (by decide +kernel) (pa_cons (pv 1) pa_nil)) pa_nil))) (fun _ _ => rfl)))), ?_⟩
      walk_at "g"
      refine r_lenL hx ?_
      walk_at "g"
      refine ⟨b, _, n, rfl, hb, by omega, by omega, by omega, fun i H1 i0 i1 kp hb1 => ?_⟩
      walk_at "g"
      obtain ⟨j, rfl, hj⟩ := ih i0 i1
      refine r_ixL (kp.seq ha hx) (v := xs[j]) (by rw [atI_nat]; exact List.getElem?_eq_getElem hj) ?_
      exact k _ _ (List.getElem_mem hj) kp hb1
theorem r_one {σ : L2.St} {H : Hp} {Q : VK} {k : Str} {v : V} (h : ∀ p, H p = none → Q (.ref p) (upd H p (.dK [(.inr k, v)]))) : tDisp [(tC (.str k), tC v)] σ H Q := fun p hp =>
  ⟨upd_same, [(.inr k, v)], rfl, (show 1 ≤ 15 by decide), by
    have : upd (upd H p (.dK [])) p (.dK (mergeK [] [(.inr k, v)])) = upd H p (.dK [(.inr k, v)]) := by
      funext q
      unfold upd
      split <;> rfl
    rw [this]
    exact h p hp⟩
theorem reps {B : Addr → Prop} {H : Hp} {z : Str} (l : z.length ≤ 4000) (c : ∀ c ∈ cd z, c ≤ 126) : ∀ n : Nat, DeAll B H (List.replicate n [V.str z]).flatten (rep n z)
  | 0 => .nil
  | n + 1 => .cons (.str z l c) (reps l c n)
theorem ok_odd (T : Tx K mg) {f f_law_take f_law_pick : Addr} {fd fd_law_take fd_law_pick : FuncData} (F : Fun K "_law_odd" "_law_odd" s_law_odd f fd)
    (D_law_take : DAt K mg "_law_take" s_law_take P_law_take f_law_take fd_law_take)
    (D_law_pick : DAt K mg "_law_pick" s_law_pick P_law_pick f_law_pick fd_law_pick) : FnOk P w K mg base CX0 3 f fd P_law_odd spOddE := by
  have G_law_pick : FnOk P w K mg base CX0 2 f_law_pick fd_law_pick P_law_pick (spPick K) := ok_pick T D_law_pick.fn D_law_take
  refine F.ok sc_law_odd (fun vs H Q E h => ?_) (fun cdv A outer s H vs Q E hr h => ?_)
  · obtain ⟨b, n, rfl, _⟩ := h
    rfl
  · obtain ⟨b, n, rfl, hb, hn, k⟩ := h
    refine ⟨_, (pss_cons (ps_set (i := 1) sc_law_odd.nd rfl (Or.inl rfl) (pe_lst (pa_cons pe_non (pa_cons pe_bl (pa_cons pe_int (pa_cons pe_int (pa_cons (pe_un L2.un_neg (pe_op L2.op_pow pe_int pe_int)) (pa_cons (pe_lst pa_nil) (pa_cons (pe_lst (pa_cons pe_str pa_nil)) (pa_cons (pe_tup (pa_cons pe_str (pa_cons pe_str pa_nil))) (pa_cons (pe_tup pa_nil) (pa_cons pe_dnewK (pa_cons (pe_disp (pps_cons pe_str pe_int pps_nil) (by rfl) (by rfl) (fun z => by cases z) (by decide)) (pa_cons (pe_lst (pa_cons pe_int pa_nil)) (pa_cons (pe_lst (pa_cons pe_non (pa_cons pe_str pa_nil))) (pa_cons (pe_op (L2.op_repT : OpR _ _ (L2.rRepT K)) (pe_tup (pa_cons pe_str pa_nil)) pe_int) pa_nil)))))))))))))))) (pss_cons (ps_set (i := 1) sc_law_odd.nd rfl (Or.inl rfl) (pe_op (oAdd : OpR _ _ (J.rAdd K)) (pv 1) (pe_lst (pa_cons (pe_op oMul (pe_lst (pa_cons pe_str pa_nil)) pe_int) (pa_cons (pe_lst (pa_cons pe_str (pa_cons (pe_op oMul pe_str pe_int) pa_nil))) (pa_cons (pe_op oMul pe_str pe_int) (pa_cons (pe_op oMul pe_str pe_int) (pa_cons pe_str (pa_cons pe_str (pa_cons (pe_lst (pa_cons (pe_lst (pa_cons pe_str pa_nil)) pa_nil)) (pa_cons (pe_op oMul (pe_lst (pa_cons pe_str pa_nil)) pe_int) pa_nil))))))))))) (pss_one (ps_ret (pe_call G_law_pick (hr.mono (by decide)) rfl D_law_pick.gl D_law_pick.fn.kp D_law_pick.bd .nil pass0 (pa_cons (pv 0) (pa_cons (pe_op (oAdd : OpR _ _ (J.rAdd K)) (pv 1) (pe_lst (pa_cons pe_str (pa_cons pe_str (pa_cons (pe_lst (pa_cons pe_str pa_nil)) (pa_cons pe_str (pa_cons (pe_lst (pa_cons pe_str pa_nil)) (pa_cons (pe_tup (pa_cons pe_str (pa_cons pe_str pa_nil))) (pa_cons pe_str pa_nil))))))))) pa_nil))))))), ?_⟩
    walk_at "g"
    refine ⟨_, rfl, ?_⟩
    walk_at "g"
    refine ⟨show 0 ≤ sizeLine by decide, fun p1 hp1 => ?_⟩
    have t1 : Same H (upd H p1 (.lst [])) := (Same.refl H).at hp1 _
    have e1 : upd H p1 (.lst []) p1 = some (.lst []) := upd_same
    have b1 := hb.new (o := .lst []) hp1
    have n1 : ¬ (H p1 ≠ none) := fun h => h (hp1)
    have o1 : p1 ≠ b := fun h => by subst h; exact n1 (by obtain ⟨_, _, _, e, _⟩ := hb; rw [e]; exact fun e => nomatch e)
    have s1 : Same H (upd H p1 (.lst [])) := t1
    generalize upd H p1 (.lst []) = A1 at t1 e1 b1 s1 ⊢
    walk_at "g"
    refine ⟨show 1 ≤ sizeLine by decide, fun p2 hp2 => ?_⟩
    have t2 : Same A1 (upd A1 p2 (.lst [V.str "a"])) := (Same.refl A1).at hp2 _
    have e2 : upd A1 p2 (.lst [V.str "a"]) p2 = some (.lst [V.str "a"]) := upd_same
    have b2 := b1.new (o := .lst [V.str "a"]) hp2
    have n2 : ¬ (H p2 ≠ none) := fun h => h (s1.none hp2)
    have o2 : p2 ≠ b := fun h => by subst h; exact n2 (by obtain ⟨_, _, _, e, _⟩ := hb; rw [e]; exact fun e => nomatch e)
    have s2 : Same H (upd A1 p2 (.lst [V.str "a"])) := s1.trans t2
    generalize upd A1 p2 (.lst [V.str "a"]) = A2 at t2 e2 b2 s2 ⊢
    walk_at "g"
    refine ⟨show 2 ≤ sizeLine by decide, fun p3 hp3 => ?_⟩
    have t3 : Same A2 (upd A2 p3 (.tup [V.str "a", V.str "b"])) := (Same.refl A2).at hp3 _
    have e3 : upd A2 p3 (.tup [V.str "a", V.str "b"]) p3 = some (.tup [V.str "a", V.str "b"]) := upd_same
    have b3 := b2.new (o := .tup [V.str "a", V.str "b"]) hp3
    have n3 : ¬ (H p3 ≠ none) := fun h => h (s2.none hp3)
    have o3 : p3 ≠ b := fun h => by subst h; exact n3 (by obtain ⟨_, _, _, e, _⟩ := hb; rw [e]; exact fun e => nomatch e)
    have s3 : Same H (upd A2 p3 (.tup [V.str "a", V.str "b"])) := s2.trans t3
    generalize upd A2 p3 (.tup [V.str "a", V.str "b"]) = A3 at t3 e3 b3 s3 ⊢
    walk_at "g"
    refine ⟨show 0 ≤ sizeLine by decide, fun p4 hp4 => ?_⟩
    have t4 : Same A3 (upd A3 p4 (.tup [])) := (Same.refl A3).at hp4 _
    have e4 : upd A3 p4 (.tup []) p4 = some (.tup []) := upd_same
    have b4 := b3.new (o := .tup []) hp4
    have n4 : ¬ (H p4 ≠ none) := fun h => h (s3.none hp4)
    have o4 : p4 ≠ b := fun h => by subst h; exact n4 (by obtain ⟨_, _, _, e, _⟩ := hb; rw [e]; exact fun e => nomatch e)
    have s4 : Same H (upd A3 p4 (.tup [])) := s3.trans t4
    generalize upd A3 p4 (.tup []) = A4 at t4 e4 b4 s4 ⊢
    walk_at "g"
    intro p5 hp5
    have t5 : Same A4 (upd A4 p5 (.dK [])) := (Same.refl A4).at hp5 _
    have e5 : upd A4 p5 (.dK []) p5 = some (.dK []) := upd_same
    have b5 := b4.new (o := .dK []) hp5
    have n5 : ¬ (H p5 ≠ none) := fun h => h (s4.none hp5)
    have o5 : p5 ≠ b := fun h => by subst h; exact n5 (by obtain ⟨_, _, _, e, _⟩ := hb; rw [e]; exact fun e => nomatch e)
    have s5 : Same H (upd A4 p5 (.dK [])) := s4.trans t5
    generalize upd A4 p5 (.dK []) = A5 at t5 e5 b5 s5 ⊢
    walk_at "g"
    refine r_one fun p6 hp6 => ?_
    have t6 : Same A5 (upd A5 p6 (.dK [(.inr "a", V.int 1)])) := (Same.refl A5).at hp6 _
    have e6 : upd A5 p6 (.dK [(.inr "a", V.int 1)]) p6 = some (.dK [(.inr "a", V.int 1)]) := upd_same
    have b6 := b5.new (o := .dK [(.inr "a", V.int 1)]) hp6
    have n6 : ¬ (H p6 ≠ none) := fun h => h (s5.none hp6)
    have o6 : p6 ≠ b := fun h => by subst h; exact n6 (by obtain ⟨_, _, _, e, _⟩ := hb; rw [e]; exact fun e => nomatch e)
    have s6 : Same H (upd A5 p6 (.dK [(.inr "a", V.int 1)])) := s5.trans t6
    generalize upd A5 p6 (.dK [(.inr "a", V.int 1)]) = A6 at t6 e6 b6 s6 ⊢
    walk_at "g"
    refine ⟨show 1 ≤ sizeLine by decide, fun p7 hp7 => ?_⟩
    have t7 : Same A6 (upd A6 p7 (.lst [V.int 7])) := (Same.refl A6).at hp7 _
    have e7 : upd A6 p7 (.lst [V.int 7]) p7 = some (.lst [V.int 7]) := upd_same
    have b7 := b6.new (o := .lst [V.int 7]) hp7
    have n7 : ¬ (H p7 ≠ none) := fun h => h (s6.none hp7)
    have o7 : p7 ≠ b := fun h => by subst h; exact n7 (by obtain ⟨_, _, _, e, _⟩ := hb; rw [e]; exact fun e => nomatch e)
    have s7 : Same H (upd A6 p7 (.lst [V.int 7])) := s6.trans t7
    generalize upd A6 p7 (.lst [V.int 7]) = A7 at t7 e7 b7 s7 ⊢
    walk_at "g"
    refine ⟨show 2 ≤ sizeLine by decide, fun p8 hp8 => ?_⟩
    have t8 : Same A7 (upd A7 p8 (.lst [V.non, V.str "a"])) := (Same.refl A7).at hp8 _
    have e8 : upd A7 p8 (.lst [V.non, V.str "a"]) p8 = some (.lst [V.non, V.str "a"]) := upd_same
    have b8 := b7.new (o := .lst [V.non, V.str "a"]) hp8
    have n8 : ¬ (H p8 ≠ none) := fun h => h (s7.none hp8)
    have o8 : p8 ≠ b := fun h => by subst h; exact n8 (by obtain ⟨_, _, _, e, _⟩ := hb; rw [e]; exact fun e => nomatch e)
    have s8 : Same H (upd A7 p8 (.lst [V.non, V.str "a"])) := s7.trans t8
    generalize upd A7 p8 (.lst [V.non, V.str "a"]) = A8 at t8 e8 b8 s8 ⊢
    walk_at "g"
    refine ⟨show 1 ≤ sizeLine by decide, fun p9 hp9 => ?_⟩
    have t9 : Same A8 (upd A8 p9 (.tup [V.str "a"])) := (Same.refl A8).at hp9 _
    have e9 : upd A8 p9 (.tup [V.str "a"]) p9 = some (.tup [V.str "a"]) := upd_same
    have b9 := b8.new (o := .tup [V.str "a"]) hp9
    have n9 : ¬ (H p9 ≠ none) := fun h => h (s8.none hp9)
    have o9 : p9 ≠ b := fun h => by subst h; exact n9 (by obtain ⟨_, _, _, e, _⟩ := hb; rw [e]; exact fun e => nomatch e)
    have s9 : Same H (upd A8 p9 (.tup [V.str "a"])) := s8.trans t9
    generalize upd A8 p9 (.tup [V.str "a"]) = A9 at t9 e9 b9 s9 ⊢
    walk_at "g"
    refine ⟨_, _, _, rfl, rfl, SqT.of e9, (fun e => nomatch e), by decide, by decide, by decide, fun p10 hp10 => ?_⟩
    have t10 : Same A9 (upd A9 p10 (.tup (List.replicate (Int.toNat 41) [V.str "a"]).flatten)) := (Same.refl A9).at hp10 _
    have e10 : upd A9 p10 (.tup (List.replicate (Int.toNat 41) [V.str "a"]).flatten) p10 = some (.tup (List.replicate (Int.toNat 41) [V.str "a"]).flatten) := upd_same
    have b10 := b9.new (o := .tup (List.replicate (Int.toNat 41) [V.str "a"]).flatten) hp10
    have n10 : ¬ (H p10 ≠ none) := fun h => h (s9.none hp10)
    have o10 : p10 ≠ b := fun h => by subst h; exact n10 (by obtain ⟨_, _, _, e, _⟩ := hb; rw [e]; exact fun e => nomatch e)
    have s10 : Same H (upd A9 p10 (.tup (List.replicate (Int.toNat 41) [V.str "a"]).flatten)) := s9.trans t10
    generalize upd A9 p10 (.tup (List.replicate (Int.toNat 41) [V.str "a"]).flatten) = A10 at t10 e10 b10 s10 ⊢
    walk_at "g"
    refine ⟨show 14 ≤ sizeLine by decide, fun p11 hp11 => ?_⟩
    have t11 : Same A10 (upd A10 p11 (.lst [V.non, V.bl true, V.int 0, V.int 7, V.int (-(10 ^ Int.toNat 29)), V.ref p1, V.ref p2, V.ref p3, V.ref p4, V.ref p5, V.ref p6, V.ref p7, V.ref p8, V.ref p10])) := (Same.refl A10).at hp11 _
    have e11 : upd A10 p11 (.lst [V.non, V.bl true, V.int 0, V.int 7, V.int (-(10 ^ Int.toNat 29)), V.ref p1, V.ref p2, V.ref p3, V.ref p4, V.ref p5, V.ref p6, V.ref p7, V.ref p8, V.ref p10]) p11 = some (.lst [V.non, V.bl true, V.int 0, V.int 7, V.int (-(10 ^ Int.toNat 29)), V.ref p1, V.ref p2, V.ref p3, V.ref p4, V.ref p5, V.ref p6, V.ref p7, V.ref p8, V.ref p10]) := upd_same
    have b11 := b10.new (o := .lst [V.non, V.bl true, V.int 0, V.int 7, V.int (-(10 ^ Int.toNat 29)), V.ref p1, V.ref p2, V.ref p3, V.ref p4, V.ref p5, V.ref p6, V.ref p7, V.ref p8, V.ref p10]) hp11
    have n11 : ¬ (H p11 ≠ none) := fun h => h (s10.none hp11)
    have o11 : p11 ≠ b := fun h => by subst h; exact n11 (by obtain ⟨_, _, _, e, _⟩ := hb; rw [e]; exact fun e => nomatch e)
    have s11 : Same H (upd A10 p11 (.lst [V.non, V.bl true, V.int 0, V.int 7, V.int (-(10 ^ Int.toNat 29)), V.ref p1, V.ref p2, V.ref p3, V.ref p4, V.ref p5, V.ref p6, V.ref p7, V.ref p8, V.ref p10])) := s10.trans t11
    generalize upd A10 p11 (.lst [V.non, V.bl true, V.int 0, V.int 7, V.int (-(10 ^ Int.toNat 29)), V.ref p1, V.ref p2, V.ref p3, V.ref p4, V.ref p5, V.ref p6, V.ref p7, V.ref p8, V.ref p10]) = A11 at t11 e11 b11 s11 ⊢
    walk_at "g"
    refine ⟨show 1 ≤ sizeLine by decide, fun p12 hp12 => ?_⟩
    have t12 : Same A11 (upd A11 p12 (.lst [V.str "b"])) := (Same.refl A11).at hp12 _
    have e12 : upd A11 p12 (.lst [V.str "b"]) p12 = some (.lst [V.str "b"]) := upd_same
    have b12 := b11.new (o := .lst [V.str "b"]) hp12
    have n12 : ¬ (H p12 ≠ none) := fun h => h (s11.none hp12)
    have o12 : p12 ≠ b := fun h => by subst h; exact n12 (by obtain ⟨_, _, _, e, _⟩ := hb; rw [e]; exact fun e => nomatch e)
    have s12 : Same H (upd A11 p12 (.lst [V.str "b"])) := s11.trans t12
    generalize upd A11 p12 (.lst [V.str "b"]) = A12 at t12 e12 b12 s12 ⊢
    walk_at "g"
    refine .inr (.inr ⟨_, _, _, rfl, rfl, e12, by decide, by decide, by decide, fun p13 hp13 => ?_⟩)
    have t13 : Same A12 (upd A12 p13 (.lst (List.replicate (Int.toNat 41) [V.str "b"]).flatten)) := (Same.refl A12).at hp13 _
    have e13 : upd A12 p13 (.lst (List.replicate (Int.toNat 41) [V.str "b"]).flatten) p13 = some (.lst (List.replicate (Int.toNat 41) [V.str "b"]).flatten) := upd_same
    have b13 := b12.new (o := .lst (List.replicate (Int.toNat 41) [V.str "b"]).flatten) hp13
    have n13 : ¬ (H p13 ≠ none) := fun h => h (s12.none hp13)
    have o13 : p13 ≠ b := fun h => by subst h; exact n13 (by obtain ⟨_, _, _, e, _⟩ := hb; rw [e]; exact fun e => nomatch e)
    have s13 : Same H (upd A12 p13 (.lst (List.replicate (Int.toNat 41) [V.str "b"]).flatten)) := s12.trans t13
    generalize upd A12 p13 (.lst (List.replicate (Int.toNat 41) [V.str "b"]).flatten) = A13 at t13 e13 b13 s13 ⊢
    walk_at "g"
    refine r_mulS (mul_ok (n := 41) (show (Str.ofString "c").length ≤ 1000 by decide +kernel) (by decide)) ?_
    walk_at "g"
    refine ⟨show 2 ≤ sizeLine by decide, fun p14 hp14 => ?_⟩
    have t14 : Same A13 (upd A13 p14 (.lst [V.str "a", V.str (Txt.mul "c" 41)])) := (Same.refl A13).at hp14 _
    have e14 : upd A13 p14 (.lst [V.str "a", V.str (Txt.mul "c" 41)]) p14 = some (.lst [V.str "a", V.str (Txt.mul "c" 41)]) := upd_same
    have b14 := b13.new (o := .lst [V.str "a", V.str (Txt.mul "c" 41)]) hp14
    have n14 : ¬ (H p14 ≠ none) := fun h => h (s13.none hp14)
    have o14 : p14 ≠ b := fun h => by subst h; exact n14 (by obtain ⟨_, _, _, e, _⟩ := hb; rw [e]; exact fun e => nomatch e)
    have s14 : Same H (upd A13 p14 (.lst [V.str "a", V.str (Txt.mul "c" 41)])) := s13.trans t14
    generalize upd A13 p14 (.lst [V.str "a", V.str (Txt.mul "c" 41)]) = A14 at t14 e14 b14 s14 ⊢
    walk_at "g"
    refine r_mulS (mul_ok (n := 41) (show (Str.ofString "d").length ≤ 1000 by decide +kernel) (by decide)) ?_
    walk_at "g"
    refine r_mulS (mul_ok (n := 40) (show (Str.ofString "e").length ≤ 1000 by decide +kernel) (by decide)) ?_
    walk_at "g"
    refine ⟨show 1 ≤ sizeLine by decide, fun p15 hp15 => ?_⟩
    have t15 : Same A14 (upd A14 p15 (.lst [V.str "a"])) := (Same.refl A14).at hp15 _
    have e15 : upd A14 p15 (.lst [V.str "a"]) p15 = some (.lst [V.str "a"]) := upd_same
    have b15 := b14.new (o := .lst [V.str "a"]) hp15
    have n15 : ¬ (H p15 ≠ none) := fun h => h (s14.none hp15)
    have o15 : p15 ≠ b := fun h => by subst h; exact n15 (by obtain ⟨_, _, _, e, _⟩ := hb; rw [e]; exact fun e => nomatch e)
    have s15 : Same H (upd A14 p15 (.lst [V.str "a"])) := s14.trans t15
    generalize upd A14 p15 (.lst [V.str "a"]) = A15 at t15 e15 b15 s15 ⊢
    walk_at "g"
    refine ⟨show 1 ≤ sizeLine by decide, fun p16 hp16 => ?_⟩
    have t16 : Same A15 (upd A15 p16 (.lst [V.ref p15])) := (Same.refl A15).at hp16 _
    have e16 : upd A15 p16 (.lst [V.ref p15]) p16 = some (.lst [V.ref p15]) := upd_same
    have b16 := b15.new (o := .lst [V.ref p15]) hp16
    have n16 : ¬ (H p16 ≠ none) := fun h => h (s15.none hp16)
    have o16 : p16 ≠ b := fun h => by subst h; exact n16 (by obtain ⟨_, _, _, e, _⟩ := hb; rw [e]; exact fun e => nomatch e)
    have s16 : Same H (upd A15 p16 (.lst [V.ref p15])) := s15.trans t16
    generalize upd A15 p16 (.lst [V.ref p15]) = A16 at t16 e16 b16 s16 ⊢
    walk_at "g"
    refine ⟨show 1 ≤ sizeLine by decide, fun p17 hp17 => ?_⟩
    have t17 : Same A16 (upd A16 p17 (.lst [V.str "g"])) := (Same.refl A16).at hp17 _
    have e17 : upd A16 p17 (.lst [V.str "g"]) p17 = some (.lst [V.str "g"]) := upd_same
    have b17 := b16.new (o := .lst [V.str "g"]) hp17
    have n17 : ¬ (H p17 ≠ none) := fun h => h (s16.none hp17)
    have o17 : p17 ≠ b := fun h => by subst h; exact n17 (by obtain ⟨_, _, _, e, _⟩ := hb; rw [e]; exact fun e => nomatch e)
    have s17 : Same H (upd A16 p17 (.lst [V.str "g"])) := s16.trans t17
    generalize upd A16 p17 (.lst [V.str "g"]) = A17 at t17 e17 b17 s17 ⊢
    walk_at "g"
    refine .inr (.inr ⟨_, _, _, rfl, rfl, e17, by decide, by decide, by decide, fun p18 hp18 => ?_⟩)
    have t18 : Same A17 (upd A17 p18 (.lst (List.replicate (Int.toNat 40) [V.str "g"]).flatten)) := (Same.refl A17).at hp18 _
    have e18 : upd A17 p18 (.lst (List.replicate (Int.toNat 40) [V.str "g"]).flatten) p18 = some (.lst (List.replicate (Int.toNat 40) [V.str "g"]).flatten) := upd_same
    have b18 := b17.new (o := .lst (List.replicate (Int.toNat 40) [V.str "g"]).flatten) hp18
    have n18 : ¬ (H p18 ≠ none) := fun h => h (s17.none hp18)
    have o18 : p18 ≠ b := fun h => by subst h; exact n18 (by obtain ⟨_, _, _, e, _⟩ := hb; rw [e]; exact fun e => nomatch e)
    have s18 : Same H (upd A17 p18 (.lst (List.replicate (Int.toNat 40) [V.str "g"]).flatten)) := s17.trans t18
    generalize upd A17 p18 (.lst (List.replicate (Int.toNat 40) [V.str "g"]).flatten) = A18 at t18 e18 b18 s18 ⊢
    walk_at "g"
    refine ⟨show 8 ≤ sizeLine by decide, fun p19 hp19 => ?_⟩
    have t19 : Same A18 (upd A18 p19 (.lst [V.ref p13, V.ref p14, V.str (Txt.mul "d" 41), V.str (Txt.mul "e" 40), V.str "", V.str "f", V.ref p16, V.ref p18])) := (Same.refl A18).at hp19 _
    have e19 : upd A18 p19 (.lst [V.ref p13, V.ref p14, V.str (Txt.mul "d" 41), V.str (Txt.mul "e" 40), V.str "", V.str "f", V.ref p16, V.ref p18]) p19 = some (.lst [V.ref p13, V.ref p14, V.str (Txt.mul "d" 41), V.str (Txt.mul "e" 40), V.str "", V.str "f", V.ref p16, V.ref p18]) := upd_same
    have b19 := b18.new (o := .lst [V.ref p13, V.ref p14, V.str (Txt.mul "d" 41), V.str (Txt.mul "e" 40), V.str "", V.str "f", V.ref p16, V.ref p18]) hp19
    have n19 : ¬ (H p19 ≠ none) := fun h => h (s18.none hp19)
    have o19 : p19 ≠ b := fun h => by subst h; exact n19 (by obtain ⟨_, _, _, e, _⟩ := hb; rw [e]; exact fun e => nomatch e)
    have s19 : Same H (upd A18 p19 (.lst [V.ref p13, V.ref p14, V.str (Txt.mul "d" 41), V.str (Txt.mul "e" 40), V.str "", V.str "f", V.ref p16, V.ref p18])) := s18.trans t19
    generalize upd A18 p19 (.lst [V.ref p13, V.ref p14, V.str (Txt.mul "d" 41), V.str (Txt.mul "e" 40), V.str "", V.str "f", V.ref p16, V.ref p18]) = A19 at t19 e19 b19 s19 ⊢
    walk_at "g"
    refine r_cat (t19 _ _ (t18 _ _ (t17 _ _ (t16 _ _ (t15 _ _ (t14 _ _ (t13 _ _ (t12 _ _ e11)))))))) e19 (show 14 + 8 ≤ 16777216 by decide) fun p20 hp20 => ?_
    have t20 : Same A19 (upd A19 p20 (.lst ([V.non, V.bl true, V.int 0, V.int 7, V.int (-(10 ^ Int.toNat 29)), V.ref p1, V.ref p2, V.ref p3, V.ref p4, V.ref p5, V.ref p6, V.ref p7, V.ref p8, V.ref p10] ++ [V.ref p13, V.ref p14, V.str (Txt.mul "d" 41), V.str (Txt.mul "e" 40), V.str "", V.str "f", V.ref p16, V.ref p18]))) := (Same.refl A19).at hp20 _
    have e20 : upd A19 p20 (.lst ([V.non, V.bl true, V.int 0, V.int 7, V.int (-(10 ^ Int.toNat 29)), V.ref p1, V.ref p2, V.ref p3, V.ref p4, V.ref p5, V.ref p6, V.ref p7, V.ref p8, V.ref p10] ++ [V.ref p13, V.ref p14, V.str (Txt.mul "d" 41), V.str (Txt.mul "e" 40), V.str "", V.str "f", V.ref p16, V.ref p18])) p20 = some (.lst ([V.non, V.bl true, V.int 0, V.int 7, V.int (-(10 ^ Int.toNat 29)), V.ref p1, V.ref p2, V.ref p3, V.ref p4, V.ref p5, V.ref p6, V.ref p7, V.ref p8, V.ref p10] ++ [V.ref p13, V.ref p14, V.str (Txt.mul "d" 41), V.str (Txt.mul "e" 40), V.str "", V.str "f", V.ref p16, V.ref p18])) := upd_same
    have b20 := b19.new (o := .lst ([V.non, V.bl true, V.int 0, V.int 7, V.int (-(10 ^ Int.toNat 29)), V.ref p1, V.ref p2, V.ref p3, V.ref p4, V.ref p5, V.ref p6, V.ref p7, V.ref p8, V.ref p10] ++ [V.ref p13, V.ref p14, V.str (Txt.mul "d" 41), V.str (Txt.mul "e" 40), V.str "", V.str "f", V.ref p16, V.ref p18])) hp20
    have n20 : ¬ (H p20 ≠ none) := fun h => h (s19.none hp20)
    have o20 : p20 ≠ b := fun h => by subst h; exact n20 (by obtain ⟨_, _, _, e, _⟩ := hb; rw [e]; exact fun e => nomatch e)
    have s20 : Same H (upd A19 p20 (.lst ([V.non, V.bl true, V.int 0, V.int 7, V.int (-(10 ^ Int.toNat 29)), V.ref p1, V.ref p2, V.ref p3, V.ref p4, V.ref p5, V.ref p6, V.ref p7, V.ref p8, V.ref p10] ++ [V.ref p13, V.ref p14, V.str (Txt.mul "d" 41), V.str (Txt.mul "e" 40), V.str "", V.str "f", V.ref p16, V.ref p18]))) := s19.trans t20
    generalize upd A19 p20 (.lst ([V.non, V.bl true, V.int 0, V.int 7, V.int (-(10 ^ Int.toNat 29)), V.ref p1, V.ref p2, V.ref p3, V.ref p4, V.ref p5, V.ref p6, V.ref p7, V.ref p8, V.ref p10] ++ [V.ref p13, V.ref p14, V.str (Txt.mul "d" 41), V.str (Txt.mul "e" 40), V.str "", V.str "f", V.ref p16, V.ref p18])) = A20 at t20 e20 b20 s20 ⊢
    walk_at "g"
    refine ⟨show 1 ≤ sizeLine by decide, fun p21 hp21 => ?_⟩
    have t21 : Same A20 (upd A20 p21 (.lst [V.str "a\tb"])) := (Same.refl A20).at hp21 _
    have e21 : upd A20 p21 (.lst [V.str "a\tb"]) p21 = some (.lst [V.str "a\tb"]) := upd_same
    have b21 := b20.new (o := .lst [V.str "a\tb"]) hp21
    have n21 : ¬ (H p21 ≠ none) := fun h => h (s20.none hp21)
    have o21 : p21 ≠ b := fun h => by subst h; exact n21 (by obtain ⟨_, _, _, e, _⟩ := hb; rw [e]; exact fun e => nomatch e)
    have s21 : Same H (upd A20 p21 (.lst [V.str "a\tb"])) := s20.trans t21
    generalize upd A20 p21 (.lst [V.str "a\tb"]) = A21 at t21 e21 b21 s21 ⊢
    walk_at "g"
    refine ⟨show 1 ≤ sizeLine by decide, fun p22 hp22 => ?_⟩
    have t22 : Same A21 (upd A21 p22 (.lst [V.str "c\nd"])) := (Same.refl A21).at hp22 _
    have e22 : upd A21 p22 (.lst [V.str "c\nd"]) p22 = some (.lst [V.str "c\nd"]) := upd_same
    have b22 := b21.new (o := .lst [V.str "c\nd"]) hp22
    have n22 : ¬ (H p22 ≠ none) := fun h => h (s21.none hp22)
    have o22 : p22 ≠ b := fun h => by subst h; exact n22 (by obtain ⟨_, _, _, e, _⟩ := hb; rw [e]; exact fun e => nomatch e)
    have s22 : Same H (upd A21 p22 (.lst [V.str "c\nd"])) := s21.trans t22
    generalize upd A21 p22 (.lst [V.str "c\nd"]) = A22 at t22 e22 b22 s22 ⊢
    walk_at "g"
    refine ⟨show 2 ≤ sizeLine by decide, fun p23 hp23 => ?_⟩
    have t23 : Same A22 (upd A22 p23 (.tup [V.str "e", V.str "\n"])) := (Same.refl A22).at hp23 _
    have e23 : upd A22 p23 (.tup [V.str "e", V.str "\n"]) p23 = some (.tup [V.str "e", V.str "\n"]) := upd_same
    have b23 := b22.new (o := .tup [V.str "e", V.str "\n"]) hp23
    have n23 : ¬ (H p23 ≠ none) := fun h => h (s22.none hp23)
    have o23 : p23 ≠ b := fun h => by subst h; exact n23 (by obtain ⟨_, _, _, e, _⟩ := hb; rw [e]; exact fun e => nomatch e)
    have s23 : Same H (upd A22 p23 (.tup [V.str "e", V.str "\n"])) := s22.trans t23
    generalize upd A22 p23 (.tup [V.str "e", V.str "\n"]) = A23 at t23 e23 b23 s23 ⊢
    walk_at "g"
    refine ⟨show 7 ≤ sizeLine by decide, fun p24 hp24 => ?_⟩
    have t24 : Same A23 (upd A23 p24 (.lst [V.str "a\tb", V.str "\t", V.ref p21, V.str "a\nb", V.ref p22, V.ref p23, V.str "\n"])) := (Same.refl A23).at hp24 _
    have e24 : upd A23 p24 (.lst [V.str "a\tb", V.str "\t", V.ref p21, V.str "a\nb", V.ref p22, V.ref p23, V.str "\n"]) p24 = some (.lst [V.str "a\tb", V.str "\t", V.ref p21, V.str "a\nb", V.ref p22, V.ref p23, V.str "\n"]) := upd_same
    have b24 := b23.new (o := .lst [V.str "a\tb", V.str "\t", V.ref p21, V.str "a\nb", V.ref p22, V.ref p23, V.str "\n"]) hp24
    have n24 : ¬ (H p24 ≠ none) := fun h => h (s23.none hp24)
    have o24 : p24 ≠ b := fun h => by subst h; exact n24 (by obtain ⟨_, _, _, e, _⟩ := hb; rw [e]; exact fun e => nomatch e)
    have s24 : Same H (upd A23 p24 (.lst [V.str "a\tb", V.str "\t", V.ref p21, V.str "a\nb", V.ref p22, V.ref p23, V.str "\n"])) := s23.trans t24
    generalize upd A23 p24 (.lst [V.str "a\tb", V.str "\t", V.ref p21, V.str "a\nb", V.ref p22, V.ref p23, V.str "\n"]) = A24 at t24 e24 b24 s24 ⊢
    walk_at "g"
    refine r_cat (t24 _ _ (t23 _ _ (t22 _ _ (t21 _ _ e20)))) e24 (show 22 + 7 ≤ 16777216 by decide) fun p25 hp25 => ?_
    have t25 : Same A24 (upd A24 p25 (.lst ([V.non, V.bl true, V.int 0, V.int 7, V.int (-(10 ^ Int.toNat 29)), V.ref p1, V.ref p2, V.ref p3, V.ref p4, V.ref p5, V.ref p6, V.ref p7, V.ref p8, V.ref p10] ++ [V.ref p13, V.ref p14, V.str (Txt.mul "d" 41), V.str (Txt.mul "e" 40), V.str "", V.str "f", V.ref p16, V.ref p18] ++ [V.str "a\tb", V.str "\t", V.ref p21, V.str "a\nb", V.ref p22, V.ref p23, V.str "\n"]))) := (Same.refl A24).at hp25 _
    have e25 : upd A24 p25 (.lst ([V.non, V.bl true, V.int 0, V.int 7, V.int (-(10 ^ Int.toNat 29)), V.ref p1, V.ref p2, V.ref p3, V.ref p4, V.ref p5, V.ref p6, V.ref p7, V.ref p8, V.ref p10] ++ [V.ref p13, V.ref p14, V.str (Txt.mul "d" 41), V.str (Txt.mul "e" 40), V.str "", V.str "f", V.ref p16, V.ref p18] ++ [V.str "a\tb", V.str "\t", V.ref p21, V.str "a\nb", V.ref p22, V.ref p23, V.str "\n"])) p25 = some (.lst ([V.non, V.bl true, V.int 0, V.int 7, V.int (-(10 ^ Int.toNat 29)), V.ref p1, V.ref p2, V.ref p3, V.ref p4, V.ref p5, V.ref p6, V.ref p7, V.ref p8, V.ref p10] ++ [V.ref p13, V.ref p14, V.str (Txt.mul "d" 41), V.str (Txt.mul "e" 40), V.str "", V.str "f", V.ref p16, V.ref p18] ++ [V.str "a\tb", V.str "\t", V.ref p21, V.str "a\nb", V.ref p22, V.ref p23, V.str "\n"])) := upd_same
    have b25 := b24.new (o := .lst ([V.non, V.bl true, V.int 0, V.int 7, V.int (-(10 ^ Int.toNat 29)), V.ref p1, V.ref p2, V.ref p3, V.ref p4, V.ref p5, V.ref p6, V.ref p7, V.ref p8, V.ref p10] ++ [V.ref p13, V.ref p14, V.str (Txt.mul "d" 41), V.str (Txt.mul "e" 40), V.str "", V.str "f", V.ref p16, V.ref p18] ++ [V.str "a\tb", V.str "\t", V.ref p21, V.str "a\nb", V.ref p22, V.ref p23, V.str "\n"])) hp25
    have n25 : ¬ (H p25 ≠ none) := fun h => h (s24.none hp25)
    have o25 : p25 ≠ b := fun h => by subst h; exact n25 (by obtain ⟨_, _, _, e, _⟩ := hb; rw [e]; exact fun e => nomatch e)
    have s25 : Same H (upd A24 p25 (.lst ([V.non, V.bl true, V.int 0, V.int 7, V.int (-(10 ^ Int.toNat 29)), V.ref p1, V.ref p2, V.ref p3, V.ref p4, V.ref p5, V.ref p6, V.ref p7, V.ref p8, V.ref p10] ++ [V.ref p13, V.ref p14, V.str (Txt.mul "d" 41), V.str (Txt.mul "e" 40), V.str "", V.str "f", V.ref p16, V.ref p18] ++ [V.str "a\tb", V.str "\t", V.ref p21, V.str "a\nb", V.ref p22, V.ref p23, V.str "\n"]))) := s24.trans t25
    generalize upd A24 p25 (.lst ([V.non, V.bl true, V.int 0, V.int 7, V.int (-(10 ^ Int.toNat 29)), V.ref p1, V.ref p2, V.ref p3, V.ref p4, V.ref p5, V.ref p6, V.ref p7, V.ref p8, V.ref p10] ++ [V.ref p13, V.ref p14, V.str (Txt.mul "d" 41), V.str (Txt.mul "e" 40), V.str "", V.str "f", V.ref p16, V.ref p18] ++ [V.str "a\tb", V.str "\t", V.ref p21, V.str "a\nb", V.ref p22, V.ref p23, V.str "\n"])) = A25 at t25 e25 b25 s25 ⊢
    walk_at "g"
    have st : ∀ z : Str, decide (z.length ≤ 4000 ∧ ∀ c ∈ cd z, c ≤ 126) = true → De (fun p => H p ≠ none) A25 (.str z) (.str z) := fun z h => .str z (of_decide_eq_true h).1 (of_decide_eq_true h).2
    have sa := st "a" (by decide +kernel)
    have s41 : De (fun p => H p ≠ none) A25 (.str (Txt.mul "c" 41)) (.str (mulT 41 99)) := by
      rw [show Txt.mul (Str.ofString "c") 41 = mulT 41 99 by decide +kernel]; exact st _ (by decide +kernel)
    have sd : De (fun p => H p ≠ none) A25 (.str (Txt.mul "d" 41)) (.str (mulT 41 100)) := by
      rw [show Txt.mul (Str.ofString "d") 41 = mulT 41 100 by decide +kernel]; exact st _ (by decide +kernel)
    have se : De (fun p => H p ≠ none) A25 (.str (Txt.mul "e" 40)) (.str (mulT 40 101)) := by
      rw [show Txt.mul (Str.ofString "e") 40 = mulT 40 101 by decide +kernel]; exact st _ (by decide +kernel)
    have all : DeAll (fun p => H p ≠ none) A25 ([V.non, V.bl true, V.int 0, V.int 7, V.int (-(10 ^ Int.toNat 29)), V.ref p1, V.ref p2, V.ref p3, V.ref p4, V.ref p5, V.ref p6, V.ref p7, V.ref p8, V.ref p10] ++ [V.ref p13, V.ref p14, V.str (Txt.mul "d" 41), V.str (Txt.mul "e" 40), V.str "", V.str "f", V.ref p16, V.ref p18] ++ [V.str "a\tb", V.str "\t", V.ref p21, V.str "a\nb", V.ref p22, V.ref p23, V.str "\n"]) odds :=
      (.cons (.non)
        (.cons (.bl _)
        (.cons (.int _ (by decide))
        (.cons (.int _ (by decide))
        (.cons (.int _ (by decide))
        (.cons (.lst (t25 _ _ (t24 _ _ (t23 _ _ (t22 _ _ (t21 _ _ (t20 _ _ (t19 _ _ (t18 _ _ (t17 _ _ (t16 _ _ (t15 _ _ (t14 _ _ (t13 _ _ (t12 _ _ (t11 _ _ (t10 _ _ (t9 _ _ (t8 _ _ (t7 _ _ (t6 _ _ (t5 _ _ (t4 _ _ (t3 _ _ (t2 _ _ e1)))))))))))))))))))))))) n1 .nil)
        (.cons (.lst (t25 _ _ (t24 _ _ (t23 _ _ (t22 _ _ (t21 _ _ (t20 _ _ (t19 _ _ (t18 _ _ (t17 _ _ (t16 _ _ (t15 _ _ (t14 _ _ (t13 _ _ (t12 _ _ (t11 _ _ (t10 _ _ (t9 _ _ (t8 _ _ (t7 _ _ (t6 _ _ (t5 _ _ (t4 _ _ (t3 _ _ e2))))))))))))))))))))))) n2 (.cons sa .nil))
        (.cons (.tup (t25 _ _ (t24 _ _ (t23 _ _ (t22 _ _ (t21 _ _ (t20 _ _ (t19 _ _ (t18 _ _ (t17 _ _ (t16 _ _ (t15 _ _ (t14 _ _ (t13 _ _ (t12 _ _ (t11 _ _ (t10 _ _ (t9 _ _ (t8 _ _ (t7 _ _ (t6 _ _ (t5 _ _ (t4 _ _ e3)))))))))))))))))))))) n3 (.cons sa (.cons (st _ (by decide +kernel)) .nil)))
        (.cons (.tup (t25 _ _ (t24 _ _ (t23 _ _ (t22 _ _ (t21 _ _ (t20 _ _ (t19 _ _ (t18 _ _ (t17 _ _ (t16 _ _ (t15 _ _ (t14 _ _ (t13 _ _ (t12 _ _ (t11 _ _ (t10 _ _ (t9 _ _ (t8 _ _ (t7 _ _ (t6 _ _ (t5 _ _ e4))))))))))))))))))))) n4 .nil)
        (.cons (.dct (t25 _ _ (t24 _ _ (t23 _ _ (t22 _ _ (t21 _ _ (t20 _ _ (t19 _ _ (t18 _ _ (t17 _ _ (t16 _ _ (t15 _ _ (t14 _ _ (t13 _ _ (t12 _ _ (t11 _ _ (t10 _ _ (t9 _ _ (t8 _ _ (t7 _ _ (t6 _ _ e5)))))))))))))))))))) n5)
        (.cons (.one (t25 _ _ (t24 _ _ (t23 _ _ (t22 _ _ (t21 _ _ (t20 _ _ (t19 _ _ (t18 _ _ (t17 _ _ (t16 _ _ (t15 _ _ (t14 _ _ (t13 _ _ (t12 _ _ (t11 _ _ (t10 _ _ (t9 _ _ (t8 _ _ (t7 _ _ e6))))))))))))))))))) n6)
        (.cons (.lst (t25 _ _ (t24 _ _ (t23 _ _ (t22 _ _ (t21 _ _ (t20 _ _ (t19 _ _ (t18 _ _ (t17 _ _ (t16 _ _ (t15 _ _ (t14 _ _ (t13 _ _ (t12 _ _ (t11 _ _ (t10 _ _ (t9 _ _ (t8 _ _ e7)))))))))))))))))) n7 (.cons (.int _ (by decide)) .nil))
        (.cons (.lst (t25 _ _ (t24 _ _ (t23 _ _ (t22 _ _ (t21 _ _ (t20 _ _ (t19 _ _ (t18 _ _ (t17 _ _ (t16 _ _ (t15 _ _ (t14 _ _ (t13 _ _ (t12 _ _ (t11 _ _ (t10 _ _ (t9 _ _ e8))))))))))))))))) n8 (.cons .non (.cons sa .nil)))
        (.cons (.tup (t25 _ _ (t24 _ _ (t23 _ _ (t22 _ _ (t21 _ _ (t20 _ _ (t19 _ _ (t18 _ _ (t17 _ _ (t16 _ _ (t15 _ _ (t14 _ _ (t13 _ _ (t12 _ _ (t11 _ _ e10))))))))))))))) n10 (reps (by decide +kernel) (by decide +kernel) 41))
        (.cons (.lst (t25 _ _ (t24 _ _ (t23 _ _ (t22 _ _ (t21 _ _ (t20 _ _ (t19 _ _ (t18 _ _ (t17 _ _ (t16 _ _ (t15 _ _ (t14 _ _ e13)))))))))))) n13 (reps (by decide +kernel) (by decide +kernel) 41))
        (.cons (.lst (t25 _ _ (t24 _ _ (t23 _ _ (t22 _ _ (t21 _ _ (t20 _ _ (t19 _ _ (t18 _ _ (t17 _ _ (t16 _ _ (t15 _ _ e14))))))))))) n14 (.cons sa (.cons s41 .nil)))
        (.cons (sd)
        (.cons (se)
        (.cons (st _ (by decide +kernel))
        (.cons (st _ (by decide +kernel))
        (.cons (.lst (t25 _ _ (t24 _ _ (t23 _ _ (t22 _ _ (t21 _ _ (t20 _ _ (t19 _ _ (t18 _ _ (t17 _ _ e16))))))))) n16 (.cons (.lst (t25 _ _ (t24 _ _ (t23 _ _ (t22 _ _ (t21 _ _ (t20 _ _ (t19 _ _ (t18 _ _ (t17 _ _ (t16 _ _ e15)))))))))) n15 (.cons sa .nil)) .nil))
        (.cons (.lst (t25 _ _ (t24 _ _ (t23 _ _ (t22 _ _ (t21 _ _ (t20 _ _ (t19 _ _ e18))))))) n18 (reps (by decide +kernel) (by decide +kernel) 40))
        (.cons (st _ (by decide +kernel))
        (.cons (st _ (by decide +kernel))
        (.cons (.lst (t25 _ _ (t24 _ _ (t23 _ _ (t22 _ _ e21)))) n21 (.cons (st _ (by decide +kernel)) .nil))
        (.cons (st _ (by decide +kernel))
        (.cons (.lst (t25 _ _ (t24 _ _ (t23 _ _ e22))) n22 (.cons (st _ (by decide +kernel)) .nil))
        (.cons (.tup (t25 _ _ (t24 _ _ e23)) n23 (.cons (st _ (by decide +kernel)) (.cons (st _ (by decide +kernel)) .nil)))
        (.cons (st _ (by decide +kernel))
        .nil)))))))))))))))))))))))))))))
    obtain ⟨es, ex, ed, each⟩ := all.pairs
    refine ⟨b, n, b25, by omega, .inr ⟨p25, _, rfl, o25, SqL.of e25, show 0 < 29 by decide, show 29 ≤ 1000 by decide, fun v H1 hv kp hb1 => ?_⟩⟩
    rw [ex] at hv
    obtain ⟨q, hq, rfl⟩ := List.mem_map.mp hv
    refine k q.1 q.2 H1 (by rw [ed]; exact List.mem_map_of_mem hq) ((each q hq).keep fun p o np e => kp p o e fun h => ?_) ((Keep.same s25).trans kp) hb1
    subst h
    exact np (by obtain ⟨_, _, _, e, _⟩ := hb; rw [e]; exact fun e => nomatch e)
end
end K07

namespace K07
open PySem PySem.Spec PyProof.Rows L2 J M
local macro_rules | `(tactic| walk_at "hp") => `(tactic| first | assumption | exact upd_same | (rw [upd_ne (by assumption)]; walk_at "hp") | (rw [upd_ne (Ne.symm (by assumption))]; walk_at "hp"))
local macro_rules | `(tactic| walk_at "s") => `(tactic| first
  | ((with_reducible refine' r_var ?h ?k); (case h => exact rfl))
  | (with_reducible refine r_c ?_)
  | (with_reducible refine r_op ?_)
  | (with_reducible refine r_un ?_)
  | (with_reducible refine r_seq ?_)
  | (with_reducible refine r_next ?_)
  | (with_reducible refine r_sets ?_)
  | (with_reducible refine r_gname ?_)
  | (with_reducible refine r_ifS ?_)
  | (with_reducible refine r_gsub ?_)
  | (with_reducible refine r_test ?_)
  | (with_reducible refine r_tb ?_)
  | (with_reducible refine r_not ?_)
  | (with_reducible refine r_and ?_)
  | (with_reducible refine r_or ?_)
  | (with_reducible refine r_andV ?_)
  | (with_reducible refine r_orV ?_)
  | (with_reducible refine r_notV ?_)
  | (with_reducible refine r_ifE ?_)
  | (with_reducible refine r_chain ?_)
  | (with_reducible refine r_cb ?_)
  | (with_reducible refine r_cons ?_)
  | (with_reducible refine r_nil ?_)
  | (with_reducible refine r_call ?_)
  | (with_reducible refine r_lst ?_)
  | (with_reducible refine r_tup ?_)
  | (with_reducible refine r_slice ?_)
  | (with_reducible refine r_nop ?_)
  | (with_reducible refine r_part ?_)
  | (with_reducible refine r_bm ?_)
  | (with_reducible refine r_m1 ?_)
  | (with_reducible refine r_m0 ?_)
  | (with_reducible refine r_is ?_)
  | (with_reducible refine r_maxD ?_)
  | (with_reducible refine r_orT ?_)
  | (with_reducible refine r_truN ?_)
  | (with_reducible refine r_intI ?_)
  | (with_reducible refine r_intB ?_)
  | (with_reducible refine r_max2 ?_)
  | (with_reducible refine r_min2 ?_)
  | (with_reducible refine r_yes ?_)
  | (with_reducible refine r_bl ?_)
  | (with_reducible refine iteT ?_)
  | (with_reducible refine iteF ?_)
  | (with_reducible refine r_iteNT ?_)
  | (with_reducible refine r_iteNF ?_)
  | (with_reducible refine r_minL ?_)
  | (with_reducible refine r_gcons ?_)
  | (with_reducible refine r_gnil ?_)
  | (with_reducible refine r_par ?_)
  | (with_reducible refine r_par3 ?_)
  | (with_reducible refine r_is2 ?_)
  | (with_reducible refine r_is3 ?_)
  | (with_reducible refine r_dget ?_)
  | (with_reducible refine r_callS ?_)
  | (with_reducible refine r_rz ?_)
  | (with_reducible refine r_rev ?_)
  | (with_reducible refine r_isI ?_)
  | (with_reducible refine r_isStr ?_)
  | (with_reducible refine r_ret ?_)
  | (with_reducible refine r_drop ?_)
  | (with_reducible refine r_rI0 ?_)
  | (with_reducible refine r_addI ?_)
  | ((with_reducible show rI (fun _ j => 0 < j) _ (.int _) (.int _) _ _); refine r_rI (by first | omega | decide) ?_)
  | ((with_reducible show rI CDiv _ (.int _) (.int _) _ _); refine r_rI (by constructor <;> omega) ?_)
  | ((with_reducible show rI CPow _ (.int _) (.int _) _ _); refine r_rI (by refine ⟨by decide, by decide, ?_⟩; omega) ?_)
  | ((with_reducible show rMul (.int _) (.int _) _ _); refine r_mulI (cmulW (by omega) (by omega)) ?_)
  | (with_reducible refine r_cmpI ?_)
  | (with_reducible refine r_cmpS ?_)
  | (with_reducible refine r_eqI ?_)
  | (with_reducible refine r_neI ?_)
  | (with_reducible refine r_eqS ?_)
  | (with_reducible refine r_neS ?_)
  | (with_reducible refine r_inSF ?_)
  | (with_reducible refine r_inST ?_)
  | (with_reducible refine r_isiStr ?_)
  | ((with_reducible show rIx _ (.ref _) (.int _) _ _); refine' r_ixL (SqL.of ?h) ?e ?_; (case h => walk_at "hp"); (case e => rfl))
  | ((with_reducible show rSetL (.ref _) (.int _) _ _ _); refine' r_setL ?h ?e ?_; (case h => walk_at "hp"); (case e => rfl)))
local macro_rules | `(tactic| walk_at "g") => `(tactic| repeat walk_at "s")


local macro_rules | `(tactic| walk_at "x") => `(tactic| first | omega | (simp only [one_nl, one_bs, one_q1, one_q2, qS_nil, qS_q1, one_qS, mem_part, mem_qs, mem_all]; omega))
local macro_rules | `(tactic| walk_at "d") => `(tactic| first
  | (with_reducible refine iteDT (by walk_at "x") ?_)
  | (with_reducible refine iteDF (by walk_at "x") ?_)
  | (with_reducible refine iteNT (by walk_at "x") ?_)
  | (with_reducible refine iteNF (by walk_at "x") ?_))
local macro_rules | `(tactic| walk_at "G") => `(tactic| repeat (first | walk_at "s" | walk_at "d"))
section
variable {P : Program} {w : World} {K : PySem.W.Frag} {mg : Str → Option Value} {base : Heap} {CL CI CS CW CB CT : Addr}
theorem lt_one {a b : Nat} : decide ([a] < [b]) = decide (a < b) := by
  rw [Bool.eq_iff_iff, decide_eq_true_iff, decide_eq_true_iff]
  constructor
  · intro h
    cases h with
    | rel h => exact h
    | cons h => cases h
  · exact fun h => .rel h
theorem ok_law_word (T : Tx K mg) {f : Addr} {fd : FuncData} (F : Fun K "_law_is_word" "_law_is_word" s_law_is_word f fd) : FnOk P w K mg base CX0 1 f fd P_law_is_word spLawWord := by
  refine F.ok sc_law_is_word (fun vs H Q E h => ?_) (fun cdv A outer s H vs Q E hr h => ?_)
  · obtain ⟨B, x, d, rfl, _⟩ := h
    rfl
  · obtain ⟨B, x, d, rfl, hx, k⟩ := h
    refine ⟨_, (pss_cons (ps_if (PW.pt (pw_or (pt_not (pt_val (pe_callB (L2.call_isi : CallR _ _ (rIsi K)) (by rfl) T.z_isinstance (by decide +kernel) (pa_cons (pv 0) (pa_cons (pe_bltn (v := .ty "str") (u := .type "str") rfl T.z_str (by decide +kernel) rfl) pa_nil))))) (pw_or1 (pt_cmpR op_gtA (pe_callB (call_lenA : CallR _ _ (rLen K)) (by rfl) T.z_len (by decide +kernel) (pa_cons (pv 0) pa_nil)) pe_int (nomark _))))) (pss_one (ps_ret pe_bl)) pss_nil) (pss_one (ps_ret (pe_cmpR ((op_eqA hr.units) : OpR _ _ (rEqA K)) (pe_lc (own := [("_law_sign", 1)]) (g := (gName 1)) rfl sc_law_is_word.nd (pi_str (pv 0)) (blkOk_by (N := N_law_is_word) (sc := defScope s_law_is_word) (by decide +kernel)) (fun _ _ _ _ _ => pg_name (i := 1) sc_law_is_word.nd rfl (Or.inl rfl)) (fun _ _ _ _ _ => (pts_one (PW.pt (pw_or (pt_cmpR op_ltA (pv 1) pe_str (nomark _)) (pw_or1 (pt_cmpR op_gtA (pv 1) pe_str (nomark _))))))) (fun _ _ _ _ _ => (pv 1))) (pe_lst pa_nil) (nomark _))))), ?_⟩
    walk_at "g"
    refine hx.isS ?_
    cases e1 : isSD d with
    | false =>
      have : wdD d = false := by cases d <;> first | rfl | exact (Bool.false_ne_true e1.symm).elim
      rw [this] at k
      walk_at "g"
      exact k H (Same.refl H)
    | true =>
      obtain ⟨z, rfl, rfl, hz, c126⟩ := hx.S_of e1
      have k : ∀ H', Same H H' → Q (.bl (decide (z.length ≤ 40) && sg (cd z))) H' := k
      walk_at "g"
      refine r_len (Nat.le_trans hz (by decide)) ?_
      walk_at "g"
      refine r_iteD (fun c => ?_) fun c => ?_
      · rw [decide_eq_false (show ¬ z.length ≤ 40 by omega), Bool.false_and] at k
        walk_at "g"
        exact k H (Same.refl H)
      · rw [decide_eq_true (show z.length ≤ 40 by omega), Bool.true_and] at k
        walk_at "g"
        refine r_lcS ?_
        walk_at "g"
        refine ⟨z, rfl, fun E hE => ?_⟩
        refine comp_filt seqIt_s hE (kpP fun c => !decide (32 ≤ c ∧ c ≤ 126)) (by rw [List.length_map, ← len_cd]; exact Nat.lt_of_le_of_lt hz (by decide)) (fun i x H3 N1 N2 hx sm y1 y2 => ?_) fun H3 sm hd => ?_
        · rw [List.getElem?_map] at hx
          cases hi' : (cd z)[i]? with
          | none => rw [hi'] at hx; cases hx
          | some d =>
            rw [hi'] at hx
            cases hx
            have keep : ¬ (32 ≤ d ∧ d ≤ 126) → kpP (fun c => !decide (32 ≤ c ∧ c ≤ 126)) (sgnV d) = some (sgnV d) := fun c => by
              rw [show kpP _ (sgnV d) = _ from kpP_sgn, decide_eq_false c]; rfl
            have drop : (32 ≤ d ∧ d ≤ 126) → kpP (fun c => !decide (32 ≤ c ∧ c ≤ 126)) (sgnV d) = none := fun c => by
              rw [show kpP _ (sgnV d) = _ from kpP_sgn, decide_eq_true c]; rfl
            walk_at "g"
            refine ⟨rfl, ?_⟩
            walk_at "g"
            refine r_cmpS ?_
            rw [show decide ((⟨#[d]⟩ : Str).cps.toList < (Str.ofString " ").cps.toList) = decide (d < 32) from (congrArg (fun l => decide ([d] < l)) (show (Str.ofString " ").cps.toList = [32] by decide +kernel)).trans lt_one]
            refine r_bl ?_
            refine r_iteD (fun c1 => ?_) fun c1 => ?_
            · walk_at "g"
              exact y1 _ _ (keep (by omega)) (Same.refl _)
            · walk_at "g"
              refine r_cmpS ?_
              rw [show decide ((Str.ofString "~").cps.toList < (⟨#[d]⟩ : Str).cps.toList) = decide (126 < d) from (congrArg (fun l => decide (l < [d])) (show (Str.ofString "~").cps.toList = [126] by decide +kernel)).trans lt_one]
              refine r_bl ?_
              refine r_iteD (fun c2 => ?_) fun c2 => ?_
              · walk_at "g"
                exact y1 _ _ (keep (by omega)) (Same.refl _)
              · exact y2 _ (drop (by omega)) (Same.refl _)
        · rw [filt_p, map_sgn] at hd
          walk_at "g"
          refine ⟨show 0 ≤ sizeLine by decide, fun E2 hE2 => ?_⟩
          refine r_eqNil (SqL.of (by rw [upd_ne (ne_of_none hd hE2)]; exact hd)) (SqL.of upd_same) (fun l hl c hc => ?_) ?_
          · obtain ⟨d, hd', rfl⟩ := List.mem_map.mp hl
            rw [List.mem_singleton.mp hc]
            exact c126 d (List.mem_filter.mp hd').1
          have k := k _ (sm.new hE2 (.lst []))
          have e : sg (cd z) = decide (List.map (fun c => [c]) (List.filter (fun c => !decide (32 ≤ c ∧ c ≤ 126)) (cd z)) = []) := by
            rw [Bool.eq_iff_iff, sg_iff, decide_eq_true_iff, List.map_eq_nil_iff, List.filter_eq_nil_iff]
            exact ⟨fun h c hc => by have := h c hc; simp; omega, fun h c hc => by have := h c hc; simpa using this⟩
          rw [← e]
          exact k
theorem ok_law_list (T : Tx K mg) {f f_law_is_word : Addr} {fd fd_law_is_word : FuncData} (F : Fun K "_law_is_list" "_law_is_list" s_law_is_list f fd)
    (D_law_is_word : DAt K mg "_law_is_word" s_law_is_word P_law_is_word f_law_is_word fd_law_is_word) : FnOk P w K mg base CX0 2 f fd P_law_is_list spLawList := by
  have G_law_is_word : FnOk P w K mg base CX0 1 f_law_is_word fd_law_is_word P_law_is_word spLawWord := ok_law_word T D_law_is_word.fn
  refine F.ok sc_law_is_list (fun vs H Q E h => ?_) (fun cdv A outer s H vs Q E hr h => ?_)
  · obtain ⟨B, x, d, rfl, _⟩ := h
    rfl
  · obtain ⟨B, x, d, rfl, hx, k⟩ := h
    refine ⟨_, (pss_one (ps_ret (pe_and (pe_callB (L2.call_isiT : CallR _ _ (rIsiT K)) (by rfl) T.z_isinstance (by decide +kernel) (pa_cons (pv 0) (pa_cons (pe_tup (pa_cons (pe_bltn (v := .ty "list") (u := .type "list") rfl T.z_list (by decide +kernel) rfl) (pa_cons (pe_bltn (v := .ty "tuple") (u := .type "tuple") rfl T.z_tuple (by decide +kernel) rfl) pa_nil))) pa_nil))) (pe_and (pe_cmpR op_leA (pe_callB (call_lenA : CallR _ _ (rLen K)) (by rfl) T.z_len (by decide +kernel) (pa_cons (pv 0) pa_nil)) pe_int (nomark _)) (pe_one (pe_callB ((L2.cr_all rfl) : CallR _ _ (rAll K)) (by rfl) T.z_all (by decide +kernel) (pa_cons (pe_lc (own := [("_law_word", 1)]) (g := (gName 1)) rfl sc_law_is_list.nd (asSeq (K := K) rfl (pi_seq (pv 0))) (blkOk_by (N := N_law_is_list) (sc := defScope s_law_is_list) (by decide +kernel)) (fun _ _ _ _ _ => pg_name (i := 1) sc_law_is_list.nd rfl (Or.inl rfl)) (fun _ _ _ _ _ => pts_nil) (fun _ _ _ _ _ => (pe_call G_law_is_word (hr.mono (by decide)) rfl D_law_is_word.gl D_law_is_word.fn.kp D_law_is_word.bd .nil pass0 (pa_cons (pv 1) pa_nil)))) pa_nil))))))), ?_⟩
    walk_at "g"
    refine ⟨by decide, fun p hp => ?_⟩
    have s0 := (Same.refl H).at hp (HO.tup [V.ty "list", V.ty "tuple"])
    have e0 : upd H p (HO.tup [V.ty "list", V.ty "tuple"]) p = some (HO.tup [V.ty "list", V.ty "tuple"]) := upd_same
    generalize upd H p (HO.tup [V.ty "list", V.ty "tuple"]) = H0 at s0 e0 ⊢
    walk_at "g"
    refine (hx.same s0).isLT e0 ?_
    have k : ∀ H', Same H H' → Q (.bl ((isLD d || isTD d) && (decide ((itemsE d).length ≤ 40) && (itemsE d).all wdD))) H' := k
    cases e1 : (isLD d || isTD d) with
    | false =>
      rw [e1, Bool.false_and] at k
      walk_at "g"
      exact k _ s0
    | true =>
      obtain ⟨a, xs, ds, rfl, hd, ha, _, t⟩ := (hx.same s0).LT_of e1
      have le := t.len
      have ei : itemsE d = ds := by rcases hd with rfl | rfl <;> rfl
      rw [e1, Bool.true_and, ei] at k
      have hq : SqL K H0 a xs ∨ SqT K H0 a xs := ha.imp SqL.of SqT.of
      walk_at "g"
      refine r_len2 hq ?_
      walk_at "g"
      refine r_iteD (fun c => ?_) fun c => ?_
      rotate_left
      · rw [decide_eq_false (show ¬ ds.length ≤ 40 by omega), Bool.false_and] at k
        walk_at "g"
        exact k _ s0
      · rw [decide_eq_true (show ds.length ≤ 40 by omega), Bool.true_and] at k
        walk_at "g"
        refine r_lcV rfl hq fun J SI D hD => ?_
        refine comp_same SI hD (ds.map fun d => V.bl (wdD d)) (by rw [List.length_map]; exact le.symm) (by rw [le]; exact Nat.lt_of_le_of_lt (show _ ≤ 40 by omega) (by decide)) (fun i x H' N hx s N' => ?_) fun H' s h => ?_
        · obtain ⟨u, hu, du⟩ := t.get hx
          walk_at "g"
          refine ⟨rfl, ?_⟩
          walk_at "g"
          refine ⟨B, x, u, rfl, du.same s, fun H'' s' => ?_⟩
          exact N' _ _ (by rw [List.getElem?_map, hu]; rfl) s'
        · walk_at "g"
          refine ⟨D, ds.map wdD, rfl, SqL.of (by rw [h, List.map_map]; rfl), ?_⟩
          rw [show (ds.map wdD).all id = ds.all wdD by rw [List.all_map]; rfl]
          exact k _ (s0.trans s)
theorem ok_line_due (T : Tx K mg) {f : Addr} {fd : FuncData} (F : Fun K "_law_line_due" "_law_line_due" s_law_line_due f fd) : FnOk P w K mg base CX0 1 f fd P_law_line_due spLineDue := by
  refine F.ok sc_law_line_due (fun vs H Q E h => ?_) (fun cdv A outer s H vs Q E hr h => ?_)
  · obtain ⟨B, x, d, rfl, _⟩ := h
    rfl
  · obtain ⟨B, x, d, rfl, hx, k⟩ := h
    refine ⟨_, (pss_cons (ps_if (PW.pt (pw_or (pt_not (pt_val (pe_callB (L2.call_isi : CallR _ _ (rIsi K)) (by rfl) T.z_isinstance (by decide +kernel) (pa_cons (pv 0) (pa_cons (pe_bltn (v := .ty "str") (u := .type "str") rfl T.z_str (by decide +kernel) rfl) pa_nil))))) (pw_or1 (pt_cmpR (op_inA : OpR _ _ (rInA K false)) pe_str (pv 0) (by rfl))))) (pss_one (ps_ret (pe_lst (pa_cons pe_str (pa_cons (pv 0) pa_nil))))) pss_nil) (pss_one (ps_ret (pe_ifExp (pt_cmpR op_gtA (pe_callB (call_lenA : CallR _ _ (rLen K)) (by rfl) T.z_len (by decide +kernel) (pa_cons (pv 0) pa_nil)) pe_int (nomark _)) (pe_lst (pa_cons pe_str (pa_cons pe_int pa_nil))) (pe_lst (pa_cons pe_str (pa_cons pe_non pa_nil))))))), ?_⟩
    walk_at "g"
    refine hx.isS ?_
    cases e1 : isSD d with
    | false =>
      have : lineDue d = .found 0 false := by cases d <;> first | rfl | exact (Bool.false_ne_true e1.symm).elim
      rw [this] at k
      walk_at "g"
      refine ⟨show 2 ≤ sizeLine by decide, fun p hp => ?_⟩
      exact k p _ hp ((Same.refl H).at hp _) upd_same
    | true =>
      obtain ⟨z, rfl, rfl, hz, c126⟩ := hx.S_of e1
      walk_at "g"
      refine r_inLF 9 (by decide +kernel) ?_
      refine r_bl ?_
      have k : ∀ (l : Addr) (H' : Hp), H l = none → Same H H' → H' l = some (.lst (outs (if 9 ∈ cd z then .found 0 false else if 40 < z.length then .sign 40 else .told) (.str z) (.str z))) → Q (.ref l) H' := k
      refine r_iteD (fun c => ?_) fun c => ?_
      · rw [if_pos c] at k
        walk_at "g"
        refine ⟨show 2 ≤ sizeLine by decide, fun p hp => ?_⟩
        exact k p _ hp ((Same.refl H).at hp _) upd_same
      · rw [if_neg c] at k
        walk_at "g"
        refine r_len (Nat.le_trans hz (by decide)) ?_
        walk_at "g"
        refine r_iteD (fun c2 => ?_) fun c2 => ?_
        · rw [if_pos (by omega)] at k
          walk_at "g"
          refine ⟨show 2 ≤ sizeLine by decide, fun p hp => ?_⟩
          exact k p _ hp ((Same.refl H).at hp _) upd_same
        · rw [if_neg (by omega)] at k
          walk_at "g"
          refine ⟨show 2 ≤ sizeLine by decide, fun p hp => ?_⟩
          exact k p _ hp ((Same.refl H).at hp _) upd_same
theorem line_cases (d : PyData) : lineDue d = .found 0 false ∨ lineDue d = .sign 40 ∨ lineDue d = .told := by
  cases d with
  | str z =>
    show (if 9 ∈ cd z then R.found 0 false else if 40 < z.length then .sign 40 else .told) = _ ∨ (if 9 ∈ cd z then R.found 0 false else if 40 < z.length then .sign 40 else .told) = _ ∨ (if 9 ∈ cd z then R.found 0 false else if 40 < z.length then .sign 40 else .told) = _
    split
    · exact .inl rfl
    · split
      · exact .inr (.inl rfl)
      · exact .inr (.inr rfl)
  | _ => exact .inl rfl
theorem outs_line (d : PyData) (x y z : V) : outs (lineDue d) x y = outs (lineDue d) x z := by
  rcases line_cases d with c | c | c <;> rw [c] <;> rfl
theorem outs_snd (r : R) (x y : V) : outs (sndR r) x y = outs r y y := by
  cases r with
  | found k b => cases b <;> rfl
  | _ => rfl
theorem ok_law_due (T : Tx K mg) {f f_law_line_due f_law_is_word f_law_is_list : Addr} {fd fd_law_line_due fd_law_is_word fd_law_is_list : FuncData} (F : Fun K "_law_due" "_law_due" s_law_due f fd)
    (D_law_line_due : DAt K mg "_law_line_due" s_law_line_due P_law_line_due f_law_line_due fd_law_line_due)
    (D_law_is_word : DAt K mg "_law_is_word" s_law_is_word P_law_is_word f_law_is_word fd_law_is_word)
    (D_law_is_list : DAt K mg "_law_is_list" s_law_is_list P_law_is_list f_law_is_list fd_law_is_list) : FnOk P w K mg base CX0 3 f fd P_law_due spDueE := by
  have G_law_line_due : FnOk P w K mg base CX0 1 f_law_line_due fd_law_line_due P_law_line_due spLineDue := ok_line_due T D_law_line_due.fn
  have G_law_is_word : FnOk P w K mg base CX0 1 f_law_is_word fd_law_is_word P_law_is_word spLawWord := ok_law_word T D_law_is_word.fn
  have G_law_is_list : FnOk P w K mg base CX0 2 f_law_is_list fd_law_is_list P_law_is_list spLawList := ok_law_list T D_law_is_list.fn D_law_is_word
  refine F.ok sc_law_due (fun vs H Q E h => ?_) (fun cdv A outer s H vs Q E hr h => ?_)
  · obtain ⟨B, B2, x, y, d, e, kd, rfl, _⟩ := h
    rfl
  · obtain ⟨B, B2, x, y, d, e, kd, rfl, hk, hx, hy, k⟩ := h
    refine ⟨_, (pss_cons (ps_if (pt_cmpR (op_inA : OpR _ _ (rInA K false)) (pv 0) (pe_tup (pa_cons pe_int (pa_cons pe_int (pa_cons pe_int pa_nil)))) (by rfl)) (pss_one (ps_ret (pe_call G_law_line_due (hr.mono (by decide)) rfl D_law_line_due.gl D_law_line_due.fn.kp D_law_line_due.bd .nil pass0 (pa_cons (pv 1) pa_nil)))) pss_nil) (pss_cons (ps_if (pt_cmpR ((op_eqA hr.units) : OpR _ _ (rEqA K)) (pv 0) pe_int (nomark _)) (pss_one (ps_ret (pe_ifExp (pt_val (pe_call G_law_is_word (hr.mono (by decide)) rfl D_law_is_word.gl D_law_is_word.fn.kp D_law_is_word.bd .nil pass0 (pa_cons (pv 1) pa_nil))) (pe_lst (pa_cons pe_str (pa_cons pe_non pa_nil))) (pe_lst (pa_cons pe_str (pa_cons (pv 1) pa_nil)))))) pss_nil) (pss_cons (ps_if (pt_cmpR ((op_eqA hr.units) : OpR _ _ (rEqA K)) (pv 0) pe_int (nomark _)) (pss_one (ps_ret (pe_ifExp (pt_val (pe_call G_law_is_list (hr.mono (by decide)) rfl D_law_is_list.gl D_law_is_list.fn.kp D_law_is_list.bd .nil pass0 (pa_cons (pv 1) pa_nil))) (pe_lst (pa_cons pe_str (pa_cons pe_non pa_nil))) (pe_lst (pa_cons pe_str (pa_cons (pv 1) pa_nil)))))) pss_nil) (pss_cons (ps_if (pt_cmpR ((op_eqA hr.units) : OpR _ _ (rEqA K)) (pv 0) pe_int (nomark _)) (pss_one (ps_ret (pe_lst (pa_cons pe_str (pa_cons (pv 1) pa_nil))))) pss_nil) (pss_cons (ps_set (i := 3) sc_law_due.nd rfl (Or.inl rfl) (pe_call G_law_line_due (hr.mono (by decide)) rfl D_law_line_due.gl D_law_line_due.fn.kp D_law_line_due.bd .nil pass0 (pa_cons (pv 1) pa_nil))) (pss_one (ps_ret (pe_ifExp (pt_cmpR ((op_neA hr.units) : OpR _ _ (rNeA K)) (pe_ix (ix_seq : IxR _ (rIx K)) (pv 3) pe_int (fun _ _ => rfl)) pe_str (nomark _)) (pv 3) (pe_call G_law_line_due (hr.mono (by decide)) rfl D_law_line_due.gl D_law_line_due.fn.kp D_law_line_due.bd .nil pass0 (pa_cons (pv 2) pa_nil)))))))))), ?_⟩
    walk_at "g"
    refine ⟨show 3 ≤ sizeLine by decide, fun p hp => ?_⟩
    have s0 := (Same.refl H).at hp (HO.tup [V.int 0, V.int 1, V.int 5])
    have e0 : upd H p (HO.tup [V.int 0, V.int 1, V.int 5]) p = some (HO.tup [V.int 0, V.int 1, V.int 5]) := upd_same
    generalize upd H p (HO.tup [V.int 0, V.int 1, V.int 5]) = H0 at s0 e0 ⊢
    replace k : ∀ (l : Addr) (H' : Hp), H0 l = none → Same H0 H' → H' l = some (.lst (outs (dueR kd d e) x y)) → Q (.ref l) H' := fun l H' hl s1 => k l H' (s0.none hl) (s0.trans s1)
    replace hx := hx.same s0
    replace hy := fun h => (hy h).same s0
    clear s0 hp
    refine .inr ⟨p, _, rfl, .inr (SqT.of e0), rfl, rfl, ?_⟩
    have ln : ∀ r, r = lineDue d → outs r x x = outs r x y := fun r h => by subst h; exact outs_line d x x y
    rcases (show kd = 0 ∨ kd = 1 ∨ kd = 2 ∨ kd = 3 ∨ kd = 4 ∨ kd = 5 ∨ kd = 6 by omega) with rfl | rfl | rfl | rfl | rfl | rfl | rfl
    · refine ⟨true, rfl, ?_⟩
      walk_at "G"
      exact ⟨B, x, d, rfl, hx, fun l H1 hl s1 h1 => k l H1 hl s1 (by rw [h1]; exact congrArg (fun l => some (HO.lst l)) (ln _ rfl))⟩
    · refine ⟨true, rfl, ?_⟩
      walk_at "G"
      exact ⟨B, x, d, rfl, hx, fun l H1 hl s1 h1 => k l H1 hl s1 (by rw [h1]; exact congrArg (fun l => some (HO.lst l)) (ln _ rfl))⟩
    · refine ⟨false, rfl, ?_⟩
      walk_at "G"
      refine ⟨B, x, d, rfl, hx, fun H1 s1 => ?_⟩
      have k : ∀ (l : Addr) (H' : Hp), H0 l = none → Same H0 H' → H' l = some (.lst (outs (bif wdD d then .told else .found 3 false) x y)) → Q (.ref l) H' := k
      cases e1 : wdD d
      all_goals
        rw [e1] at k
        walk_at "G"
        refine ⟨show 2 ≤ sizeLine by decide, fun q hq => ?_⟩
        exact k q _ (s1.none hq) (s1.at (s1.none hq) _) upd_same
    · refine ⟨false, rfl, ?_⟩
      walk_at "G"
      refine ⟨B, x, d, rfl, hx, fun H1 s1 => ?_⟩
      have k : ∀ (l : Addr) (H' : Hp), H0 l = none → Same H0 H' → H' l = some (.lst (outs (bif wordsE d then .told else .found 1 false) x y)) → Q (.ref l) H' := k
      cases e1 : wordsE d
      all_goals
        rw [e1] at k
        walk_at "G"
        refine ⟨show 2 ≤ sizeLine by decide, fun q hq => ?_⟩
        exact k q _ (s1.none hq) (s1.at (s1.none hq) _) upd_same
    · refine ⟨false, rfl, ?_⟩
      walk_at "G"
      refine ⟨show 2 ≤ sizeLine by decide, fun q hq => ?_⟩
      exact k q _ hq ((Same.refl H0).at hq _) upd_same
    · refine ⟨true, rfl, ?_⟩
      walk_at "G"
      exact ⟨B, x, d, rfl, hx, fun l H1 hl s1 h1 => k l H1 hl s1 (by rw [h1]; exact congrArg (fun l => some (HO.lst l)) (ln _ rfl))⟩
    · refine ⟨false, rfl, ?_⟩
      walk_at "G"
      refine ⟨B, x, d, rfl, hx, fun l H1 hl s1 h1 => ?_⟩
      have k : ∀ (l : Addr) (H' : Hp), H0 l = none → Same H0 H' → H' l = some (.lst (outs (bth (lineDue d) (lineDue e)) x y)) → Q (.ref l) H' := k
      walk_at "G"
      rcases line_cases d with c | c | c
      · rw [c] at h1 k
        refine r_ixL (SqL.of h1) rfl ?_
        walk_at "G"
        refine iteNT (by decide +kernel) ?_
        walk_at "G"
        exact k l H1 hl s1 h1
      · rw [c] at h1 k
        refine r_ixL (SqL.of h1) rfl ?_
        walk_at "G"
        refine iteNT (by decide +kernel) ?_
        walk_at "G"
        exact k l H1 hl s1 h1
      · rw [c] at h1 k
        refine r_ixL (SqL.of h1) rfl ?_
        walk_at "G"
        refine iteNF (by decide +kernel) ?_
        walk_at "G"
        exact ⟨B2, y, e, rfl, (hy rfl).same s1, fun q H2 hq s2 h2 => k q H2 (s1.none hq) (s1.trans s2) (by rw [h2]; exact congrArg (fun l => some (HO.lst l)) (outs_snd _ x y).symm)⟩
end
end K07

namespace K07
open PySem PySem.Spec PyProof.Rows L2 J M
local macro_rules | `(tactic| walk_at "hp") => `(tactic| first | assumption | exact upd_same | (rw [upd_ne (by assumption)]; walk_at "hp") | (rw [upd_ne (Ne.symm (by assumption))]; walk_at "hp"))
local macro_rules | `(tactic| walk_at "s") => `(tactic| first
  | ((with_reducible refine' r_var ?h ?k); (case h => exact rfl))
  | (with_reducible refine r_c ?_)
  | (with_reducible refine r_op ?_)
  | (with_reducible refine r_un ?_)
  | (with_reducible refine r_seq ?_)
  | (with_reducible refine r_next ?_)
  | (with_reducible refine r_sets ?_)
  | (with_reducible refine r_gname ?_)
  | (with_reducible refine r_ifS ?_)
  | (with_reducible refine r_gsub ?_)
  | (with_reducible refine r_test ?_)
  | (with_reducible refine r_tb ?_)
  | (with_reducible refine r_not ?_)
  | (with_reducible refine r_and ?_)
  | (with_reducible refine r_or ?_)
  | (with_reducible refine r_andV ?_)
  | (with_reducible refine r_orV ?_)
  | (with_reducible refine r_notV ?_)
  | (with_reducible refine r_ifE ?_)
  | (with_reducible refine r_chain ?_)
  | (with_reducible refine r_cb ?_)
  | (with_reducible refine r_cons ?_)
  | (with_reducible refine r_nil ?_)
  | (with_reducible refine r_call ?_)
  | (with_reducible refine r_lst ?_)
  | (with_reducible refine r_tup ?_)
  | (with_reducible refine r_slice ?_)
  | (with_reducible refine r_nop ?_)
  | (with_reducible refine r_part ?_)
  | (with_reducible refine r_bm ?_)
  | (with_reducible refine r_m1 ?_)
  | (with_reducible refine r_m0 ?_)
  | (with_reducible refine r_is ?_)
  | (with_reducible refine r_maxD ?_)
  | (with_reducible refine r_orT ?_)
  | (with_reducible refine r_truN ?_)
  | (with_reducible refine r_intI ?_)
  | (with_reducible refine r_intB ?_)
  | (with_reducible refine r_max2 ?_)
  | (with_reducible refine r_min2 ?_)
  | (with_reducible refine r_yes ?_)
  | (with_reducible refine r_bl ?_)
  | (with_reducible refine iteT ?_)
  | (with_reducible refine iteF ?_)
  | (with_reducible refine r_iteNT ?_)
  | (with_reducible refine r_iteNF ?_)
  | (with_reducible refine r_minL ?_)
  | (with_reducible refine r_gcons ?_)
  | (with_reducible refine r_gnil ?_)
  | (with_reducible refine r_par ?_)
  | (with_reducible refine r_par3 ?_)
  | (with_reducible refine r_is2 ?_)
  | (with_reducible refine r_is3 ?_)
  | (with_reducible refine r_dget ?_)
  | (with_reducible refine r_callS ?_)
  | (with_reducible refine r_rz ?_)
  | (with_reducible refine r_rev ?_)
  | (with_reducible refine r_isI ?_)
  | (with_reducible refine r_isStr ?_)
  | (with_reducible refine r_ret ?_)
  | (with_reducible refine r_drop ?_)
  | (with_reducible refine r_rI0 ?_)
  | (with_reducible refine r_addI ?_)
  | ((with_reducible show rI (fun _ j => 0 < j) _ (.int _) (.int _) _ _); refine r_rI (by first | omega | decide) ?_)
  | ((with_reducible show rI CDiv _ (.int _) (.int _) _ _); refine r_rI (by constructor <;> omega) ?_)
  | ((with_reducible show rI CPow _ (.int _) (.int _) _ _); refine r_rI (by refine ⟨by decide, by decide, ?_⟩; omega) ?_)
  | ((with_reducible show rMul (.int _) (.int _) _ _); refine r_mulI (cmulW (by omega) (by omega)) ?_)
  | (with_reducible refine r_cmpI ?_)
  | (with_reducible refine r_cmpS ?_)
  | (with_reducible refine r_eqI ?_)
  | (with_reducible refine r_neI ?_)
  | (with_reducible refine r_eqS ?_)
  | (with_reducible refine r_neS ?_)
  | (with_reducible refine r_inSF ?_)
  | (with_reducible refine r_inST ?_)
  | (with_reducible refine r_isiStr ?_)
  | ((with_reducible show rIx _ (.ref _) (.int _) _ _); refine' r_ixL (SqL.of ?h) ?e ?_; (case h => walk_at "hp"); (case e => rfl))
  | ((with_reducible show rSetL (.ref _) (.int _) _ _ _); refine' r_setL ?h ?e ?_; (case h => walk_at "hp"); (case e => rfl)))
local macro_rules | `(tactic| walk_at "g") => `(tactic| repeat walk_at "s")


local macro_rules | `(tactic| walk_at "x") => `(tactic| first | omega | (simp only [one_nl, one_bs, one_q1, one_q2, qS_nil, qS_q1, one_qS, mem_part, mem_qs, mem_all]; omega))
local macro_rules | `(tactic| walk_at "d") => `(tactic| first
  | (with_reducible refine iteDT (by walk_at "x") ?_)
  | (with_reducible refine iteDF (by walk_at "x") ?_)
  | (with_reducible refine iteNT (by walk_at "x") ?_)
  | (with_reducible refine iteNF (by walk_at "x") ?_))
local macro_rules | `(tactic| walk_at "G") => `(tactic| repeat (first | walk_at "s" | walk_at "d"))
section
variable {P : Program} {w : World} {K : PySem.W.Frag} {mg : Str → Option Value} {base : Heap} {CL CI CS CW CB CT : Addr}
section
variable {x y : V} {d e : PyData} {H : Hp} {E : XK} {T T2 : Prop}
theorem cutO_of (h : refd CL CI CS CW CB CT (cutRes d) x y H E T) : CutO CL CB CT H E x d T := by
  refine ⟨fun l => ?_, fun z dz lz => ?_⟩
  · rw [show cutRes d = .found 0 false by unfold cutRes; rw [l]; rfl] at h
    exact h
  · subst dz
    have l : lineE (.str z) = true := lf_line lz
    have e : cutRes (.str z) = cutQ (cutR stP (cd z)) := by unfold cutRes; rw [l]; rfl
    rw [e] at h
    refine ⟨fun e q => ?_, fun ws q m => ?_, fun ws q m => ?_⟩
    · rw [q] at h; exact h
    · rw [q, show cutQ (.ok ws) = .many ws.length from if_pos m] at h; exact h
    · rw [q, show cutQ (.ok ws) = .told from if_neg (by omega)] at h; exact h
theorem stO_of (h : refd CL CI CS CW CB CT (stRes d) x y H E T) : (lineE d = false → Err CL "found" x H E) ∧ ∀ z, d = .str z → Lf (cd z) →
    (∀ e, stR stP (cd z) = .error e → Err CB "at" (.int (e : Nat)) H E) ∧
    (∀ t, stR stP (cd z) = .ok t → 40 < cnt t → Err CT "many" (.int (cnt t : Nat)) H E) ∧
    (∀ t, stR stP (cd z) = .ok t → cnt t ≤ 40 → T) := by
  refine ⟨fun l => ?_, fun z dz lz => ?_⟩
  · rw [show stRes d = .found 0 false by unfold stRes; rw [l]; rfl] at h
    exact h
  · subst dz
    have l : lineE (.str z) = true := lf_line lz
    have e : ∀ o, stR stP (cd z) = o → stRes (.str z) = match o with | .error e => R.sign e | .ok t => if 40 < cnt t then .many (cnt t) else .told := fun o q => by subst q; unfold stRes; rw [l]; rfl
    refine ⟨fun a q => ?_, fun t q m => ?_, fun t q m => ?_⟩
    · rw [e _ q] at h; exact h
    · rw [e _ q, show (match (Except.ok t : Except Nat _) with | .error e => R.sign e | .ok t => if 40 < cnt t then .many (cnt t) else .told) = R.many (cnt t) from if_pos m] at h; exact h
    · rw [e _ q, show (match (Except.ok t : Except Nat _) with | .error e => R.sign e | .ok t => if 40 < cnt t then .many (cnt t) else .told) = R.told from if_neg (by omega)] at h; exact h
theorem refd_snd {r : R} (h : refd CL CI CS CW CB CT (sndR r) x y H E T) : refd CL CI CS CW CB CT r y y H E T := by
  cases r with
  | found k b => cases b <;> exact h
  | _ => exact h
theorem refd_bth {r1 r2 : R} (h : refd CL CI CS CW CB CT (bth r1 r2) x y H E T) (g : refd CL CI CS CW CB CT (sndR r2) x y H E T → T2) : refd CL CI CS CW CB CT r1 x y H E T2 := by
  cases r1 with
  | told => exact g h
  | _ => exact h
end
theorem ok_asked (T : Tx K mg) (O_NoLine : OE P w K mg base "NoLine" "found" CL) (O_NoList : OE P w K mg base "NoList" "found" CI) (O_NoState : OE P w K mg base "NoState" "found" CS) (O_NoWord : OE P w K mg base "NoWord" "found" CW) (O_BadSign : OE P w K mg base "BadSign" "at" CB) (O_TooMany : OL P w K mg base "TooMany" "many" CT) {f f_cut f_state_of f_quoted f_joined f_quoted_behind f_shows_cut f_are_alike f_cut_plainly f_scanned f_refuse_too_many f_is_line f_are_signs f_longer f_ways f_escaped f_is_word f_are_words f_is_state f_written_behind f_rest_quoted : Addr} {fd fd_cut fd_state_of fd_quoted fd_joined fd_quoted_behind fd_shows_cut fd_are_alike fd_cut_plainly fd_scanned fd_refuse_too_many fd_is_line fd_are_signs fd_longer fd_ways fd_escaped fd_is_word fd_are_words fd_is_state fd_written_behind fd_rest_quoted : FuncData} (F : Fun K "_law_asked" "_law_asked" s_law_asked f fd)
    (D_cut : DAt K mg "cut" s_cut P_cut f_cut fd_cut)
    (D_state_of : DAt K mg "state_of" s_state_of P_state_of f_state_of fd_state_of)
    (D_quoted : DAt K mg "quoted" s_quoted P_quoted f_quoted fd_quoted)
    (D_joined : DAt K mg "joined" s_joined P_joined f_joined fd_joined)
    (D_quoted_behind : DAt K mg "quoted_behind" s_quoted_behind P_quoted_behind f_quoted_behind fd_quoted_behind)
    (D_shows_cut : DAt K mg "shows_cut" s_shows_cut P_shows_cut f_shows_cut fd_shows_cut)
    (D_are_alike : DAt K mg "are_alike" s_are_alike P_are_alike f_are_alike fd_are_alike)
    (D_cut_plainly : DAt K mg "_cut_plainly" s_cut_plainly P_cut_plainly f_cut_plainly fd_cut_plainly)
    (D_scanned : DAt K mg "_scanned" s_scanned P_scanned f_scanned fd_scanned)
    (D_refuse_too_many : DAt K mg "_refuse_too_many" s_refuse_too_many P_refuse_too_many f_refuse_too_many fd_refuse_too_many)
    (D_is_line : DAt K mg "is_line" s_is_line P_is_line f_is_line fd_is_line)
    (D_are_signs : DAt K mg "are_signs" s_are_signs P_are_signs f_are_signs fd_are_signs)
    (D_longer : DAt K mg "_longer" s_longer P_longer f_longer fd_longer)
    (D_ways : DAt K mg "_ways" s_ways P_ways f_ways fd_ways)
    (D_escaped : DAt K mg "_escaped" s_escaped P_escaped f_escaped fd_escaped)
    (D_is_word : DAt K mg "is_word" s_is_word P_is_word f_is_word fd_is_word)
    (D_are_words : DAt K mg "are_words" s_are_words P_are_words f_are_words fd_are_words)
    (D_is_state : DAt K mg "is_state" s_is_state P_is_state f_is_state fd_is_state)
    (D_written_behind : DAt K mg "written_behind" s_written_behind P_written_behind f_written_behind fd_written_behind)
    (D_rest_quoted : DAt K mg "_rest_quoted" s_rest_quoted P_rest_quoted f_rest_quoted fd_rest_quoted) : FnOk P w K mg base (L2.CX P w) 8 f fd P_law_asked (spAskedE CL CI CS CW CB CT) := by
  have G_cut : FnOk P w K mg base (L2.CX P w) 6 f_cut fd_cut P_cut (spCutE CL CB CT) := ok_cut T O_NoLine O_BadSign O_TooMany D_cut.fn D_cut_plainly D_scanned D_refuse_too_many D_is_line D_are_signs D_longer
  have G_state_of : FnOk P w K mg base (L2.CX P w) 6 f_state_of fd_state_of P_state_of (spStateE CL CB CT) := ok_state_of T O_NoLine O_BadSign O_TooMany D_state_of.fn D_scanned D_refuse_too_many D_is_line D_are_signs D_longer
  have G_quoted : FnOk P w K mg base (L2.CX P w) 4 f_quoted fd_quoted P_quoted (spQuotedE CW) := ok_quoted T O_NoWord D_quoted.fn D_ways D_escaped D_is_word D_are_signs
  have G_joined : FnOk P w K mg base (L2.CX P w) 4 f_joined fd_joined P_joined (spJoinedE CI) := ok_joined T O_NoList D_joined.fn D_quoted D_are_words D_ways D_escaped D_is_word D_are_signs
  have G_quoted_behind : FnOk P w K mg base (L2.CX P w) 5 f_quoted_behind fd_quoted_behind P_quoted_behind (spBehindE CS CW) := ok_behind T O_NoState O_NoWord D_quoted_behind.fn D_is_state D_is_word D_written_behind D_are_words D_are_signs D_rest_quoted D_quoted D_escaped D_ways
  have G_shows_cut : FnOk P w K mg base (L2.CX P w) 7 f_shows_cut fd_shows_cut P_shows_cut (spShowsE CL CB CT) := ok_shows_cut T O_NoLine O_BadSign O_TooMany D_shows_cut.fn D_cut D_cut_plainly D_scanned D_refuse_too_many D_is_line D_are_signs D_longer
  have G_are_alike : FnOk P w K mg base (L2.CX P w) 7 f_are_alike fd_are_alike P_are_alike (spAlikeE CL CB CT) := ok_are_alike T O_NoLine O_BadSign O_TooMany D_are_alike.fn D_cut D_cut_plainly D_scanned D_refuse_too_many D_is_line D_are_signs D_longer
  refine F.okX sc_law_asked (fun vs H Q E h => ?_) (fun cdv A outer s H vs Q E hr h => ?_)
  · obtain ⟨B, B2, x, y, d, e, kd, rfl, _⟩ := h
    rfl
  · obtain ⟨B, B2, x, y, d, e, kd, rfl, ok, hx, hy, k⟩ := h
    refine ⟨_, (pss_cons (ps_if (pt_cmpR ((op_eqA hr.units) : OpR _ _ (rEqA K)) (pv 0) pe_int (nomark _)) (pss_one (ps_ret (pe_callS (E := WE (fun cls d _ H' => E cls d H')) G_cut (hr.mono (by decide)) rfl D_cut.gl D_cut.fn.kp D_cut.bd (fun σ => passAt (takes_of rfl rfl rfl rfl) σ) (by exact (pa_cons (pv 1) pa_nil))))) pss_nil) (pss_cons (ps_if (pt_cmpR ((op_eqA hr.units) : OpR _ _ (rEqA K)) (pv 0) pe_int (nomark _)) (pss_one (ps_ret (pe_callS (E := WE (fun cls d _ H' => E cls d H')) G_state_of (hr.mono (by decide)) rfl D_state_of.gl D_state_of.fn.kp D_state_of.bd (fun σ => passAt (takes_of rfl rfl rfl rfl) σ) (by exact (pa_cons (pv 1) pa_nil))))) pss_nil) (pss_cons (ps_if (pt_cmpR ((op_eqA hr.units) : OpR _ _ (rEqA K)) (pv 0) pe_int (nomark _)) (pss_one (ps_ret (pe_callS (E := WE (fun cls d _ H' => E cls d H')) G_quoted (hr.mono (by decide)) rfl D_quoted.gl D_quoted.fn.kp D_quoted.bd (fun σ => passAt (takes_of rfl rfl rfl rfl) σ) (by exact (pa_cons (pv 1) pa_nil))))) pss_nil) (pss_cons (ps_if (pt_cmpR ((op_eqA hr.units) : OpR _ _ (rEqA K)) (pv 0) pe_int (nomark _)) (pss_one (ps_ret (pe_callS (E := WE (fun cls d _ H' => E cls d H')) G_joined (hr.mono (by decide)) rfl D_joined.gl D_joined.fn.kp D_joined.bd (fun σ => passAt (takes_of rfl rfl rfl rfl) σ) (by exact (pa_cons (pv 1) pa_nil))))) pss_nil) (pss_cons (ps_if (pt_cmpR ((op_eqA hr.units) : OpR _ _ (rEqA K)) (pv 0) pe_int (nomark _)) (pss_one (ps_ret (pe_callS (E := WE (fun cls d _ H' => E cls d H')) G_quoted_behind (hr.mono (by decide)) rfl D_quoted_behind.gl D_quoted_behind.fn.kp D_quoted_behind.bd (fun σ => passAt (takes_of rfl rfl rfl rfl) σ) (by exact (pa_cons (pv 1) (pa_cons (pv 2) pa_nil)))))) pss_nil) (pss_cons (ps_if (pt_cmpR ((op_eqA hr.units) : OpR _ _ (rEqA K)) (pv 0) pe_int (nomark _)) (pss_one (ps_ret (pe_callS (E := WE (fun cls d _ H' => E cls d H')) G_shows_cut (hr.mono (by decide)) rfl D_shows_cut.gl D_shows_cut.fn.kp D_shows_cut.bd (fun σ => passAt (takes_of rfl rfl rfl rfl) σ) (by exact (pa_cons (pv 1) (pa_cons (pv 2) pa_nil)))))) pss_nil) (pss_one (ps_ret (pe_callS (E := WE (fun cls d _ H' => E cls d H')) G_are_alike (hr.mono (by decide)) rfl D_are_alike.gl D_are_alike.fn.kp D_are_alike.bd (fun σ => passAt (takes_of rfl rfl rfl rfl) σ) (by exact (pa_cons (pv 1) (pa_cons (pv 2) pa_nil)))))))))))), ?_⟩
    obtain ⟨hk, fl, sh, nq⟩ := ok
    rcases (show kd = 0 ∨ kd = 1 ∨ kd = 2 ∨ kd = 3 ∨ kd = 4 ∨ kd = 5 ∨ kd = 6 by omega) with rfl | rfl | rfl | rfl | rfl | rfl | rfl
    · walk_at "G"
      obtain ⟨k0, k⟩ := cutO_of k
      refine ⟨B, x, d, rfl, hx, k0, fun z dz lz => ?_⟩
      obtain ⟨k1, k2, k3⟩ := k z dz lz
      exact ⟨k1, k2, fun ws q m p H' hp s h => k3 ws q m _ H' s⟩
    · walk_at "G"
      obtain ⟨k0, k⟩ := stO_of k
      refine ⟨B, x, d, rfl, hx, k0, fun z dz lz => ?_⟩
      obtain ⟨k1, k2, k3⟩ := k z dz lz
      exact ⟨k1, k2, fun t q m p wd H' _ _ s _ _ _ => k3 t q m _ H' s⟩
    · walk_at "G"
      have k : refd CL CI CS CW CB CT (bif wdD d then .told else .found 3 false) x y H E (∀ (v : V) (H' : Hp), Same H H' → Q v H') := k
      refine ⟨B, x, d, rfl, hx, fun q => ?_, fun q v H' _ s => ?_⟩
      · rw [q] at k; exact k
      · rw [q] at k; exact k _ _ s
    · walk_at "G"
      have k : refd CL CI CS CW CB CT (bif wordsE d then .told else .found 1 false) x y H E (∀ (v : V) (H' : Hp), Same H H' → Q v H') := k
      refine ⟨B, x, d, rfl, hx, fun q => ?_, fun q v H' s => ?_⟩
      · rw [q] at k; exact k
      · rw [q] at k; exact k _ _ s
    · walk_at "G"
      have k : refd CL CI CS CW CB CT (bif stE d then (bif goodE d e then .told else .found 3 true) else .found 2 false) x y H E (∀ (v : V) (H' : Hp), Same H H' → Q v H') := k
      refine ⟨B, B2, x, y, d, e, rfl, hx, fl, fun q => ?_, fun q => ⟨hy q, fun g => ?_, fun g => ⟨fun z ez => ?_, fun v H' s => ?_⟩⟩⟩
      · rw [q] at k; exact k
      · rw [q, g] at k; exact k
      · have := nq rfl q g
        rw [ez] at this
        exact this
      · rw [q, g] at k; exact k _ _ s
    · walk_at "G"
      obtain ⟨k0, k⟩ := cutO_of k
      refine ⟨B, B2, x, y, d, e, rfl, hx, hy rfl, sh rfl, k0, fun z dz lz => ?_⟩
      obtain ⟨k1, k2, k3⟩ := k z dz lz
      exact ⟨k1, k2, fun ws q m v H' s => k3 ws q m _ H' s⟩
    · walk_at "G"
      have k : refd CL CI CS CW CB CT (bth (cutRes d) (cutRes e)) x y H E (∀ (v : V) (H' : Hp), Same H H' → Q v H') := k
      refine ⟨B, B2, x, y, d, e, rfl, hx, hy rfl, cutO_of (refd_bth k fun h => ?_)⟩
      obtain ⟨k0, k⟩ := cutO_of (refd_snd h)
      refine ⟨k0, fun z dz lz => ?_⟩
      obtain ⟨k1, k2, k3⟩ := k z dz lz
      exact ⟨k1, k2, fun ws q m v H' s => k3 ws q m _ H' s⟩
end
end K07

namespace K07
open PySem PySem.Spec PyProof.Rows L2 J M
local macro_rules | `(tactic| walk_at "hp") => `(tactic| first | assumption | exact upd_same | (rw [upd_ne (by assumption)]; walk_at "hp") | (rw [upd_ne (Ne.symm (by assumption))]; walk_at "hp"))
local macro_rules | `(tactic| walk_at "s") => `(tactic| first
  | ((with_reducible refine' r_var ?h ?k); (case h => exact rfl))
  | (with_reducible refine r_c ?_)
  | (with_reducible refine r_op ?_)
  | (with_reducible refine r_un ?_)
  | (with_reducible refine r_seq ?_)
  | (with_reducible refine r_next ?_)
  | (with_reducible refine r_sets ?_)
  | (with_reducible refine r_gname ?_)
  | (with_reducible refine r_ifS ?_)
  | (with_reducible refine r_gsub ?_)
  | (with_reducible refine r_test ?_)
  | (with_reducible refine r_tb ?_)
  | (with_reducible refine r_not ?_)
  | (with_reducible refine r_and ?_)
  | (with_reducible refine r_or ?_)
  | (with_reducible refine r_andV ?_)
  | (with_reducible refine r_orV ?_)
  | (with_reducible refine r_notV ?_)
  | (with_reducible refine r_ifE ?_)
  | (with_reducible refine r_chain ?_)
  | (with_reducible refine r_cb ?_)
  | (with_reducible refine r_cons ?_)
  | (with_reducible refine r_nil ?_)
  | (with_reducible refine r_call ?_)
  | (with_reducible refine r_lst ?_)
  | (with_reducible refine r_tup ?_)
  | (with_reducible refine r_slice ?_)
  | (with_reducible refine r_nop ?_)
  | (with_reducible refine r_part ?_)
  | (with_reducible refine r_bm ?_)
  | (with_reducible refine r_m1 ?_)
  | (with_reducible refine r_m0 ?_)
  | (with_reducible refine r_is ?_)
  | (with_reducible refine r_maxD ?_)
  | (with_reducible refine r_orT ?_)
  | (with_reducible refine r_truN ?_)
  | (with_reducible refine r_intI ?_)
  | (with_reducible refine r_intB ?_)
  | (with_reducible refine r_max2 ?_)
  | (with_reducible refine r_min2 ?_)
  | (with_reducible refine r_yes ?_)
  | (with_reducible refine r_bl ?_)
  | (with_reducible refine iteT ?_)
  | (with_reducible refine iteF ?_)
  | (with_reducible refine r_iteNT ?_)
  | (with_reducible refine r_iteNF ?_)
  | (with_reducible refine r_minL ?_)
  | (with_reducible refine r_gcons ?_)
  | (with_reducible refine r_gnil ?_)
  | (with_reducible refine r_par ?_)
  | (with_reducible refine r_par3 ?_)
  | (with_reducible refine r_is2 ?_)
  | (with_reducible refine r_is3 ?_)
  | (with_reducible refine r_dget ?_)
  | (with_reducible refine r_callS ?_)
  | (with_reducible refine r_rz ?_)
  | (with_reducible refine r_rev ?_)
  | (with_reducible refine r_isI ?_)
  | (with_reducible refine r_isStr ?_)
  | (with_reducible refine r_ret ?_)
  | (with_reducible refine r_drop ?_)
  | (with_reducible refine r_rI0 ?_)
  | (with_reducible refine r_addI ?_)
  | ((with_reducible show rI (fun _ j => 0 < j) _ (.int _) (.int _) _ _); refine r_rI (by first | omega | decide) ?_)
  | ((with_reducible show rI CDiv _ (.int _) (.int _) _ _); refine r_rI (by constructor <;> omega) ?_)
  | ((with_reducible show rI CPow _ (.int _) (.int _) _ _); refine r_rI (by refine ⟨by decide, by decide, ?_⟩; omega) ?_)
  | ((with_reducible show rMul (.int _) (.int _) _ _); refine r_mulI (cmulW (by omega) (by omega)) ?_)
  | (with_reducible refine r_cmpI ?_)
  | (with_reducible refine r_cmpS ?_)
  | (with_reducible refine r_eqI ?_)
  | (with_reducible refine r_neI ?_)
  | (with_reducible refine r_eqS ?_)
  | (with_reducible refine r_neS ?_)
  | (with_reducible refine r_inSF ?_)
  | (with_reducible refine r_inST ?_)
  | (with_reducible refine r_isiStr ?_)
  | ((with_reducible show rIx _ (.ref _) (.int _) _ _); refine' r_ixL (SqL.of ?h) ?e ?_; (case h => walk_at "hp"); (case e => rfl))
  | ((with_reducible show rSetL (.ref _) (.int _) _ _ _); refine' r_setL ?h ?e ?_; (case h => walk_at "hp"); (case e => rfl)))
local macro_rules | `(tactic| walk_at "g") => `(tactic| repeat walk_at "s")


local macro_rules | `(tactic| walk_at "x") => `(tactic| first | omega | (simp only [one_nl, one_bs, one_q1, one_q2, qS_nil, qS_q1, one_qS, mem_part, mem_qs, mem_all]; omega))
local macro_rules | `(tactic| walk_at "d") => `(tactic| first
  | (with_reducible refine iteDT (by walk_at "x") ?_)
  | (with_reducible refine iteDF (by walk_at "x") ?_)
  | (with_reducible refine iteNT (by walk_at "x") ?_)
  | (with_reducible refine iteNF (by walk_at "x") ?_))
local macro_rules | `(tactic| walk_at "G") => `(tactic| repeat (first | walk_at "s" | walk_at "d"))
section
variable {P : Program} {w : World} {K : PySem.W.Frag} {mg : Str → Option Value} {base : Heap} {CL CI CS CW CB CT : Addr}
/-- what the frag says of the classes -/
structure TK (K : PySem.W.Frag) (CL CI CS CW CB CT : Addr) : Prop where
  m : ∀ k, PySem.W.exmAny K (.ref (kC CL CI CS CW k)) [.ref CL, .ref CI, .ref CS, .ref CW] = some true
  mB : PySem.W.exmAny K (.ref CB) [.ref CL, .ref CI, .ref CS, .ref CW] = some false
  mT : PySem.W.exmAny K (.ref CT) [.ref CL, .ref CI, .ref CS, .ref CW] = some false
  q0 : ∀ k, PySem.W.kitOne K (.ref (kC CL CI CS CW k)) (.ref CL) = some (decide (k = 0))
  q1 : ∀ k, PySem.W.kitOne K (.ref (kC CL CI CS CW k)) (.ref CI) = some (decide (k = 1))
  q2 : ∀ k, PySem.W.kitOne K (.ref (kC CL CI CS CW k)) (.ref CS) = some (decide (k = 2))
  q3 : ∀ k, PySem.W.kitOne K (.ref (kC CL CI CS CW k)) (.ref CW) = some (decide (3 ≤ k))
  xc : ∀ k, ExcC K (kC CL CI CS CW k)
  xf : ∀ k, XfC K (kC CL CI CS CW k)
  nf : ∀ k, PySem.W.findIn K (.ref (kC CL CI CS CW k)) "found" = some none
  bB : PySem.W.exmOne K (.ref CB) (.ref CB) = some true
  tB : PySem.W.exmOne K (.ref CT) (.ref CB) = some false
  tT : PySem.W.exmOne K (.ref CT) (.ref CT) = some true
  xB : XfC K CB
  xT : XfC K CT
theorem TK.first (TQ : TK K CL CI CS CW CB CT) (q : Nat) : ∃ (b0 b1 b2 b3 : Bool) (j : Nat) (z : V), PySem.W.kitOne K (.ref (kC CL CI CS CW q)) (.ref CL) = some b0 ∧ PySem.W.kitOne K (.ref (kC CL CI CS CW q)) (.ref CI) = some b1 ∧
    PySem.W.kitOne K (.ref (kC CL CI CS CW q)) (.ref CS) = some b2 ∧ PySem.W.kitOne K (.ref (kC CL CI CS CW q)) (.ref CW) = some b3 ∧
    [V.bl b0, V.bl b1, V.bl b2, V.bl b3][j]? = some z ∧ eqV z (.bl true) = true ∧ (∀ (m : Nat) (z' : V), m < j → [V.bl b0, V.bl b1, V.bl b2, V.bl b3][m]? = some z' → eqV z' (.bl true) = false) ∧ [V.str "line", V.str "list", V.str "state", V.str "word"][j]? = some (V.str (knd q)) := by
  have a0 := TQ.q0 q
  have a1 := TQ.q1 q
  have a2 := TQ.q2 q
  have a3 := TQ.q3 q
  match q with
  | 0 => exact ⟨_, _, _, _, 0, _, a0, a1, a2, a3, rfl, rfl, fun m z' h => absurd h (Nat.not_lt_zero m), rfl⟩
  | 1 => exact ⟨_, _, _, _, 1, _, a0, a1, a2, a3, rfl, rfl, fun m z' h e => by
      obtain rfl : m = 0 := by omega
      cases e; rfl, rfl⟩
  | 2 => exact ⟨_, _, _, _, 2, _, a0, a1, a2, a3, rfl, rfl, fun m z' h e => by
      rcases (show m = 0 ∨ m = 1 by omega) with rfl | rfl <;> (cases e; rfl), rfl⟩
  | q + 3 =>
    rw [decide_eq_false (show ¬ q + 3 = 0 by omega)] at a0
    rw [decide_eq_false (show ¬ q + 3 = 1 by omega)] at a1
    rw [decide_eq_false (show ¬ q + 3 = 2 by omega)] at a2
    rw [decide_eq_true (show 3 ≤ q + 3 by omega)] at a3
    exact ⟨_, _, _, _, 3, _, a0, a1, a2, a3, rfl, rfl, fun m z' h e => by
      rcases (show m = 0 ∨ m = 1 ∨ m = 2 by omega) with rfl | rfl | rfl <;> (cases e; rfl), rfl⟩
theorem ok_told (T : Tx K mg) (O_NoLine : OE P w K mg base "NoLine" "found" CL) (O_NoList : OE P w K mg base "NoList" "found" CI) (O_NoState : OE P w K mg base "NoState" "found" CS) (O_NoWord : OE P w K mg base "NoWord" "found" CW) (O_BadSign : OE P w K mg base "BadSign" "at" CB) (O_TooMany : OL P w K mg base "TooMany" "many" CT) (TQ : TK K CL CI CS CW CB CT) {f f_law_asked f_cut f_state_of f_quoted f_joined f_quoted_behind f_shows_cut f_are_alike f_cut_plainly f_scanned f_refuse_too_many f_is_line f_are_signs f_longer f_ways f_escaped f_is_word f_are_words f_is_state f_written_behind f_rest_quoted : Addr} {fd fd_law_asked fd_cut fd_state_of fd_quoted fd_joined fd_quoted_behind fd_shows_cut fd_are_alike fd_cut_plainly fd_scanned fd_refuse_too_many fd_is_line fd_are_signs fd_longer fd_ways fd_escaped fd_is_word fd_are_words fd_is_state fd_written_behind fd_rest_quoted : FuncData} (F : Fun K "_law_told" "_law_told" s_law_told f fd)
    (D_law_asked : DAt K mg "_law_asked" s_law_asked P_law_asked f_law_asked fd_law_asked)
    (D_cut : DAt K mg "cut" s_cut P_cut f_cut fd_cut)
    (D_state_of : DAt K mg "state_of" s_state_of P_state_of f_state_of fd_state_of)
    (D_quoted : DAt K mg "quoted" s_quoted P_quoted f_quoted fd_quoted)
    (D_joined : DAt K mg "joined" s_joined P_joined f_joined fd_joined)
    (D_quoted_behind : DAt K mg "quoted_behind" s_quoted_behind P_quoted_behind f_quoted_behind fd_quoted_behind)
    (D_shows_cut : DAt K mg "shows_cut" s_shows_cut P_shows_cut f_shows_cut fd_shows_cut)
    (D_are_alike : DAt K mg "are_alike" s_are_alike P_are_alike f_are_alike fd_are_alike)
    (D_cut_plainly : DAt K mg "_cut_plainly" s_cut_plainly P_cut_plainly f_cut_plainly fd_cut_plainly)
    (D_scanned : DAt K mg "_scanned" s_scanned P_scanned f_scanned fd_scanned)
    (D_refuse_too_many : DAt K mg "_refuse_too_many" s_refuse_too_many P_refuse_too_many f_refuse_too_many fd_refuse_too_many)
    (D_is_line : DAt K mg "is_line" s_is_line P_is_line f_is_line fd_is_line)
    (D_are_signs : DAt K mg "are_signs" s_are_signs P_are_signs f_are_signs fd_are_signs)
    (D_longer : DAt K mg "_longer" s_longer P_longer f_longer fd_longer)
    (D_ways : DAt K mg "_ways" s_ways P_ways f_ways fd_ways)
    (D_escaped : DAt K mg "_escaped" s_escaped P_escaped f_escaped fd_escaped)
    (D_is_word : DAt K mg "is_word" s_is_word P_is_word f_is_word fd_is_word)
    (D_are_words : DAt K mg "are_words" s_are_words P_are_words f_are_words fd_are_words)
    (D_is_state : DAt K mg "is_state" s_is_state P_is_state f_is_state fd_is_state)
    (D_written_behind : DAt K mg "written_behind" s_written_behind P_written_behind f_written_behind fd_written_behind)
    (D_rest_quoted : DAt K mg "_rest_quoted" s_rest_quoted P_rest_quoted f_rest_quoted fd_rest_quoted) : FnOk P w K mg base CX0 10 f fd P_law_told spToldE := by
  have G_law_asked : FnOk P w K mg base (L2.CX P w) 8 f_law_asked fd_law_asked P_law_asked (spAskedE CL CI CS CW CB CT) := ok_asked T O_NoLine O_NoList O_NoState O_NoWord O_BadSign O_TooMany D_law_asked.fn D_cut D_state_of D_quoted D_joined D_quoted_behind D_shows_cut D_are_alike D_cut_plainly D_scanned D_refuse_too_many D_is_line D_are_signs D_longer D_ways D_escaped D_is_word D_are_words D_is_state D_written_behind D_rest_quoted
  refine F.ok sc_law_told (fun vs H Q E h => ?_) (fun cdv A outer s H vs Q E hr h => ?_)
  · obtain ⟨B, B2, x, y, d, e, kd, rfl, _⟩ := h
    rfl
  · obtain ⟨B, B2, x, y, d, e, kd, rfl, ok, hx, hy, k⟩ := h
    refine ⟨_, pss_cons (ps_tryT (i := 3) (c1 := .ref CL) (c2 := .ref CI) (c3 := .ref CS) (c4 := .ref CW) (l := [(.ref CB, 3, fun a cls d => tRet (tLst (tCons (tC (.str "sign")) (tCons (tXf a cls d CB "at" (tVar 3)) tNil)))), (.ref CT, 3, fun a cls d => tRet (tLst (tCons (tC (.str "many")) (tCons (tXf a cls d CT "many" (tVar 3)) tNil))))])
      (tb := fun W => tDrop (tCallS (spAskedE CL CI CS CW CB CT) (WE W) (tCons (tVar 0) (tCons (tVar 1) (tCons (tVar 2) tNil))))) rfl rfl sc_law_told.nd
      (fun W pn xe tk _ => pss_one (ps_expr (by exact (pe_callS (E := WE W) G_law_asked (hr.mono (by decide)) rfl D_law_asked.gl D_law_asked.fn.kp D_law_asked.bd (fun σ => passAt tk σ) (by exact (pa_cons (pv 0) (pa_cons (pv 1) (pa_cons (pv 2) pa_nil))))))))
      rfl rfl ⟨rfl, by decide, Or.inl O_NoLine.gl⟩ ⟨rfl, by decide, Or.inl O_NoList.gl⟩ ⟨rfl, by decide, Or.inl O_NoState.gl⟩ ⟨rfl, by decide, Or.inl O_NoWord.gl⟩
      (fun a oe cls d pn hz hf => pss_cons (ps_set (i := 4) sc_law_told.nd rfl (Or.inl rfl) (by exact (pe_lst (pa_cons (pe_callB (call_isC hz hf : CallR _ _ (rIsC K a cls d)) (by rfl) T.z_isinstance (by decide +kernel) (pa_cons (pv 3) (pa_cons (pe_gR O_NoLine.gl rfl) pa_nil))) (pa_cons (pe_callB (call_isC hz hf : CallR _ _ (rIsC K a cls d)) (by rfl) T.z_isinstance (by decide +kernel) (pa_cons (pv 3) (pa_cons (pe_gR O_NoList.gl rfl) pa_nil))) (pa_cons (pe_callB (call_isC hz hf : CallR _ _ (rIsC K a cls d)) (by rfl) T.z_isinstance (by decide +kernel) (pa_cons (pv 3) (pa_cons (pe_gR O_NoState.gl rfl) pa_nil))) (pa_cons (pe_callB (call_isC hz hf : CallR _ _ (rIsC K a cls d)) (by rfl) T.z_isinstance (by decide +kernel) (pa_cons (pv 3) (pa_cons (pe_gR O_NoWord.gl rfl) pa_nil))) pa_nil))))))) (pss_one (ps_ret (by exact (pe_lst (pa_cons (pe_ix (ix_seq : IxR _ (rIx K)) (pe_lst (pa_cons pe_str (pa_cons pe_str (pa_cons pe_str (pa_cons pe_str pa_nil))))) (asBM (K := K) rfl (pe_bm PySem.F.plainAttrs_list PySem.F.slot_list_index PySem.F.type_list_index (mt_index : MtR _ "list.index" (rIndex K)) (pv 4) (pa_cons pe_bl pa_nil))) (fun _ _ => rfl)) (pa_cons (pe_xg hz hf (pv 3)) pa_nil)))))))
      (HN.cons rfl rfl ⟨rfl, by decide, Or.inl O_BadSign.gl⟩ (fun a oe cls d pn hz hf => pss_one (ps_ret (by exact (pe_lst (pa_cons pe_str (pa_cons (pe_xf TQ.xB O_BadSign.nf hz hf (pv 3)) pa_nil)))))) (HN.cons rfl rfl ⟨rfl, by decide, Or.inl O_TooMany.gl⟩ (fun a oe cls d pn hz hf => pss_one (ps_ret (by exact (pe_lst (pa_cons pe_str (pa_cons (pe_xf TQ.xT O_TooMany.nf hz hf (pv 3)) pa_nil)))))) (HN.any _)))) (pss_one (ps_ret (pe_lst (pa_cons pe_str (pa_cons pe_non pa_nil))))), ?_⟩
    walk_at "g"
    refine ⟨B, B2, x, y, d, e, kd, rfl, ok, hx, hy, ?_⟩
    generalize res kd d e = r at k ⊢
    cases r with
    | told =>
      intro v H1 s1
      walk_at "g"
      refine ⟨show 2 ≤ sizeLine by decide, fun p hp => ?_⟩
      exact k p _ (s1.none hp) (s1.new hp _) upd_same
    | sign n =>
      intro dd H1 hd sd hx'
      refine ⟨false, TQ.mB, (fun h => nomatch h), fun _ => ⟨true, TQ.bB, fun _ a ha => ?_, fun h => nomatch h⟩⟩
      show tRet _ ⟨_, _, _, _⟩ _ _
      walk_at "g"
      refine r_xf (v := .int (n : Nat)) rfl rfl rfl hx' ?_
      walk_at "g"
      refine ⟨show 2 ≤ sizeLine by decide, fun p hp => ?_⟩
      exact k p _ (sd.none hp) (sd.new hp _) upd_same
    | many n =>
      intro dd H1 hd sd hx'
      refine ⟨false, TQ.mT, (fun h => nomatch h), fun _ => ⟨false, TQ.tB, (fun h => nomatch h), fun _ => ⟨true, TQ.tT, fun _ a ha => ?_, fun h => nomatch h⟩⟩⟩
      show tRet _ ⟨_, _, _, _⟩ _ _
      walk_at "g"
      refine r_xf (v := .int (n : Nat)) rfl rfl rfl hx' ?_
      walk_at "g"
      refine ⟨show 2 ≤ sizeLine by decide, fun p hp => ?_⟩
      exact k p _ (sd.none hp) (sd.new hp _) upd_same
    | found q b =>
      intro dd H1 hd sd hx'
      obtain ⟨b0, b1, b2, b3, j, z, a0, a1, a2, a3, jz, ze, less, nm⟩ := TQ.first q
      refine ⟨true, TQ.m q, fun _ a ha => ?_, fun h => nomatch h⟩
      show tSeq _ _ ⟨_, _, _, _⟩ _ _
      walk_at "g"
      refine ⟨.ref CL, .ref CL, _, _, dd, _, rfl, fun u h => h, rfl, rfl, hx', TQ.xc q, a0, ?_⟩
      walk_at "g"
      refine ⟨.ref CI, .ref CI, _, _, dd, _, rfl, fun u h => h, rfl, rfl, hx', TQ.xc q, a1, ?_⟩
      walk_at "g"
      refine ⟨.ref CS, .ref CS, _, _, dd, _, rfl, fun u h => h, rfl, rfl, hx', TQ.xc q, a2, ?_⟩
      walk_at "g"
      refine ⟨.ref CW, .ref CW, _, _, dd, _, rfl, fun u h => h, rfl, rfl, hx', TQ.xc q, a3, ?_⟩
      walk_at "g"
      refine ⟨show 4 ≤ sizeLine by decide, fun p1 hp1 => ?_⟩
      have s2 := sd.new hp1 (HO.lst [V.bl b0, V.bl b1, V.bl b2, V.bl b3])
      have e2 : upd H1 p1 (HO.lst [V.bl b0, V.bl b1, V.bl b2, V.bl b3]) p1 = some (HO.lst [V.bl b0, V.bl b1, V.bl b2, V.bl b3]) := upd_same
      have hx2 := ((Same.refl H1).new hp1 (HO.lst [V.bl b0, V.bl b1, V.bl b2, V.bl b3])) _ _ hx'
      generalize upd H1 p1 (HO.lst [V.bl b0, V.bl b1, V.bl b2, V.bl b3]) = H2 at s2 e2 hx2 ⊢
      walk_at "g"
      refine ⟨show 4 ≤ sizeLine by decide, fun p2 hp2 => ?_⟩
      have s3 := s2.new hp2 (HO.lst [V.str "line", V.str "list", V.str "state", V.str "word"])
      have t3 := (Same.refl H2).new hp2 (HO.lst [V.str "line", V.str "list", V.str "state", V.str "word"])
      have e3 : upd H2 p2 (HO.lst [V.str "line", V.str "list", V.str "state", V.str "word"]) p2 = some (HO.lst [V.str "line", V.str "list", V.str "state", V.str "word"]) := upd_same
      generalize upd H2 p2 (HO.lst [V.str "line", V.str "list", V.str "state", V.str "word"]) = H3 at s3 t3 e3 ⊢
      walk_at "g"
      refine r_tyL (t3 _ _ e2) ?_
      walk_at "g"
      refine ⟨p1, _, .bl true, j, z, rfl, rfl, SqL.of (t3 _ _ e2), rfl, rfl, jz, ze, less, ?_⟩
      refine r_ixL (SqL.of e3) (atI_nat nm) ?_
      walk_at "g"
      refine ⟨_, rfl, TQ.xf q, TQ.nf q, ?_⟩
      refine r_xf (v := bif b then y else x) rfl rfl rfl (t3 _ _ hx2) ?_
      walk_at "g"
      refine ⟨show 2 ≤ sizeLine by decide, fun p hp => ?_⟩
      exact k p _ (s3.none hp) (s3.new hp _) upd_same
end
end K07

namespace K07
open PySem PySem.Spec PyProof.Rows L2 J M
local macro_rules | `(tactic| walk_at "hp") => `(tactic| first | assumption | exact upd_same | (rw [upd_ne (by assumption)]; walk_at "hp") | (rw [upd_ne (Ne.symm (by assumption))]; walk_at "hp"))
local macro_rules | `(tactic| walk_at "s") => `(tactic| first
  | ((with_reducible refine' r_var ?h ?k); (case h => exact rfl))
  | (with_reducible refine r_c ?_)
  | (with_reducible refine r_op ?_)
  | (with_reducible refine r_un ?_)
  | (with_reducible refine r_seq ?_)
  | (with_reducible refine r_next ?_)
  | (with_reducible refine r_sets ?_)
  | (with_reducible refine r_gname ?_)
  | (with_reducible refine r_ifS ?_)
  | (with_reducible refine r_gsub ?_)
  | (with_reducible refine r_test ?_)
  | (with_reducible refine r_tb ?_)
  | (with_reducible refine r_not ?_)
  | (with_reducible refine r_and ?_)
  | (with_reducible refine r_or ?_)
  | (with_reducible refine r_andV ?_)
  | (with_reducible refine r_orV ?_)
  | (with_reducible refine r_notV ?_)
  | (with_reducible refine r_ifE ?_)
  | (with_reducible refine r_chain ?_)
  | (with_reducible refine r_cb ?_)
  | (with_reducible refine r_cons ?_)
  | (with_reducible refine r_nil ?_)
  | (with_reducible refine r_call ?_)
  | (with_reducible refine r_lst ?_)
  | (with_reducible refine r_tup ?_)
  | (with_reducible refine r_slice ?_)
  | (with_reducible refine r_nop ?_)
  | (with_reducible refine r_part ?_)
  | (with_reducible refine r_bm ?_)
  | (with_reducible refine r_m1 ?_)
  | (with_reducible refine r_m0 ?_)
  | (with_reducible refine r_is ?_)
  | (with_reducible refine r_maxD ?_)
  | (with_reducible refine r_orT ?_)
  | (with_reducible refine r_truN ?_)
  | (with_reducible refine r_intI ?_)
  | (with_reducible refine r_intB ?_)
  | (with_reducible refine r_max2 ?_)
  | (with_reducible refine r_min2 ?_)
  | (with_reducible refine r_yes ?_)
  | (with_reducible refine r_bl ?_)
  | (with_reducible refine iteT ?_)
  | (with_reducible refine iteF ?_)
  | (with_reducible refine r_iteNT ?_)
  | (with_reducible refine r_iteNF ?_)
  | (with_reducible refine r_minL ?_)
  | (with_reducible refine r_gcons ?_)
  | (with_reducible refine r_gnil ?_)
  | (with_reducible refine r_par ?_)
  | (with_reducible refine r_par3 ?_)
  | (with_reducible refine r_is2 ?_)
  | (with_reducible refine r_is3 ?_)
  | (with_reducible refine r_dget ?_)
  | (with_reducible refine r_callS ?_)
  | (with_reducible refine r_rz ?_)
  | (with_reducible refine r_rev ?_)
  | (with_reducible refine r_isI ?_)
  | (with_reducible refine r_isStr ?_)
  | (with_reducible refine r_ret ?_)
  | (with_reducible refine r_drop ?_)
  | (with_reducible refine r_rI0 ?_)
  | (with_reducible refine r_addI ?_)
  | ((with_reducible show rI (fun _ j => 0 < j) _ (.int _) (.int _) _ _); refine r_rI (by first | omega | decide) ?_)
  | ((with_reducible show rI CDiv _ (.int _) (.int _) _ _); refine r_rI (by constructor <;> omega) ?_)
  | ((with_reducible show rI CPow _ (.int _) (.int _) _ _); refine r_rI (by refine ⟨by decide, by decide, ?_⟩; omega) ?_)
  | ((with_reducible show rMul (.int _) (.int _) _ _); refine r_mulI (cmulW (by omega) (by omega)) ?_)
  | (with_reducible refine r_cmpI ?_)
  | (with_reducible refine r_cmpS ?_)
  | (with_reducible refine r_eqI ?_)
  | (with_reducible refine r_neI ?_)
  | (with_reducible refine r_eqS ?_)
  | (with_reducible refine r_neS ?_)
  | (with_reducible refine r_inSF ?_)
  | (with_reducible refine r_inST ?_)
  | (with_reducible refine r_isiStr ?_)
  | ((with_reducible show rIx _ (.ref _) (.int _) _ _); refine' r_ixL (SqL.of ?h) ?e ?_; (case h => walk_at "hp"); (case e => rfl))
  | ((with_reducible show rSetL (.ref _) (.int _) _ _ _); refine' r_setL ?h ?e ?_; (case h => walk_at "hp"); (case e => rfl)))
local macro_rules | `(tactic| walk_at "g") => `(tactic| repeat walk_at "s")


local macro_rules | `(tactic| walk_at "x") => `(tactic| first | omega | (simp only [one_nl, one_bs, one_q1, one_q2, qS_nil, qS_q1, one_qS, mem_part, mem_qs, mem_all]; omega))
local macro_rules | `(tactic| walk_at "d") => `(tactic| first
  | (with_reducible refine iteDT (by walk_at "x") ?_)
  | (with_reducible refine iteDF (by walk_at "x") ?_)
  | (with_reducible refine iteNT (by walk_at "x") ?_)
  | (with_reducible refine iteNF (by walk_at "x") ?_))
local macro_rules | `(tactic| walk_at "G") => `(tactic| repeat (first | walk_at "s" | walk_at "d"))
section
variable {P : Program} {w : World} {K : PySem.W.Frag} {mg : Str → Option Value} {base : Heap} {CL CI CS CW CB CT : Addr}
def gx (d : PyData) : Nat → PyData
  | 0 => d
  | _ + 1 => grown d
def gy (e : PyData) : Nat → PyData
  | 0 => e
  | 1 => e
  | _ + 2 => grown e
theorem _root_.J.Top.some {n : Nat} {H : Hp} {x : V} {a : Addr} (t : Top n H x) (e : x = .ref a) (h : H a = none) : False := by
  subst e
  cases t with
  | lst g _ => cases g.symm.trans h
  | tup g => cases g.symm.trans h
  | dct g => cases g.symm.trans h
theorem _root_.J.De.notB {B : Addr → Prop} {H : Hp} {a : Addr} {d : PyData} (h : De B H (.ref a) d) : ¬ B a := by
  cases h <;> assumption
theorem ok_right (T : Tx K mg) (O_NoLine : OE P w K mg base "NoLine" "found" CL) (O_NoList : OE P w K mg base "NoList" "found" CI) (O_NoState : OE P w K mg base "NoState" "found" CS) (O_NoWord : OE P w K mg base "NoWord" "found" CW) (O_BadSign : OE P w K mg base "BadSign" "at" CB) (O_TooMany : OL P w K mg base "TooMany" "many" CT) (TQ : TK K CL CI CS CW CB CT) {f f_law_told f_law_asked f_cut f_state_of f_quoted f_joined f_quoted_behind f_shows_cut f_are_alike f_cut_plainly f_scanned f_refuse_too_many f_is_line f_are_signs f_longer f_ways f_escaped f_is_word f_are_words f_is_state f_written_behind f_rest_quoted : Addr} {fd fd_law_told fd_law_asked fd_cut fd_state_of fd_quoted fd_joined fd_quoted_behind fd_shows_cut fd_are_alike fd_cut_plainly fd_scanned fd_refuse_too_many fd_is_line fd_are_signs fd_longer fd_ways fd_escaped fd_is_word fd_are_words fd_is_state fd_written_behind fd_rest_quoted : FuncData} (F : Fun K "_law_right" "_law_right" s_law_right f fd)
    (D_law_told : DAt K mg "_law_told" s_law_told P_law_told f_law_told fd_law_told)
    (D_law_asked : DAt K mg "_law_asked" s_law_asked P_law_asked f_law_asked fd_law_asked)
    (D_cut : DAt K mg "cut" s_cut P_cut f_cut fd_cut)
    (D_state_of : DAt K mg "state_of" s_state_of P_state_of f_state_of fd_state_of)
    (D_quoted : DAt K mg "quoted" s_quoted P_quoted f_quoted fd_quoted)
    (D_joined : DAt K mg "joined" s_joined P_joined f_joined fd_joined)
    (D_quoted_behind : DAt K mg "quoted_behind" s_quoted_behind P_quoted_behind f_quoted_behind fd_quoted_behind)
    (D_shows_cut : DAt K mg "shows_cut" s_shows_cut P_shows_cut f_shows_cut fd_shows_cut)
    (D_are_alike : DAt K mg "are_alike" s_are_alike P_are_alike f_are_alike fd_are_alike)
    (D_cut_plainly : DAt K mg "_cut_plainly" s_cut_plainly P_cut_plainly f_cut_plainly fd_cut_plainly)
    (D_scanned : DAt K mg "_scanned" s_scanned P_scanned f_scanned fd_scanned)
    (D_refuse_too_many : DAt K mg "_refuse_too_many" s_refuse_too_many P_refuse_too_many f_refuse_too_many fd_refuse_too_many)
    (D_is_line : DAt K mg "is_line" s_is_line P_is_line f_is_line fd_is_line)
    (D_are_signs : DAt K mg "are_signs" s_are_signs P_are_signs f_are_signs fd_are_signs)
    (D_longer : DAt K mg "_longer" s_longer P_longer f_longer fd_longer)
    (D_ways : DAt K mg "_ways" s_ways P_ways f_ways fd_ways)
    (D_escaped : DAt K mg "_escaped" s_escaped P_escaped f_escaped fd_escaped)
    (D_is_word : DAt K mg "is_word" s_is_word P_is_word f_is_word fd_is_word)
    (D_are_words : DAt K mg "are_words" s_are_words P_are_words f_are_words fd_are_words)
    (D_is_state : DAt K mg "is_state" s_is_state P_is_state f_is_state fd_is_state)
    (D_written_behind : DAt K mg "written_behind" s_written_behind P_written_behind f_written_behind fd_written_behind)
    (D_rest_quoted : DAt K mg "_rest_quoted" s_rest_quoted P_rest_quoted f_rest_quoted fd_rest_quoted) : FnG P w K mg base CX0 11 f fd P_law_right (spRightE K) := by
  have G_law_told : FnOk P w K mg base CX0 10 f_law_told fd_law_told P_law_told spToldE := ok_told T O_NoLine O_NoList O_NoState O_NoWord O_BadSign O_TooMany TQ D_law_told.fn D_law_asked D_cut D_state_of D_quoted D_joined D_quoted_behind D_shows_cut D_are_alike D_cut_plainly D_scanned D_refuse_too_many D_is_line D_are_signs D_longer D_ways D_escaped D_is_word D_are_words D_is_state D_written_behind D_rest_quoted
  refine fun_g F sc_law_right (fun vs H Q E h => ?_) (fun cdv A outer s H vs Q E hg hr h => ?_)
  · obtain ⟨x, y, d, e, kd, n, l, rfl, _⟩ := h
    rfl
  · obtain ⟨x, y, d, e, kd, n, l, rfl, ok, sm, ld, le, xl, yl, hn, hx, hy, tx, ty, hl, k⟩ := h
    refine ⟨_, (pss_cons (ps_set (i := 4) sc_law_right.nd rfl (Or.inl rfl) (pe_call G_law_told (hr.mono (by decide)) rfl D_law_told.gl D_law_told.fn.kp D_law_told.bd .nil pass0 (pa_cons (pv 0) (pa_cons (pv 1) (pa_cons (pv 2) pa_nil))))) (pss_cons (ps_if (pt_cmpR ((op_neA hr.units) : OpR _ _ (rNeA K)) (pe_callB (call_reprE hg hr.units : CallR _ _ rReprE) (by rfl) T.z_repr (by decide +kernel) (pa_cons (pv 4) pa_nil)) (pe_callB (call_reprE hg hr.units : CallR _ _ rReprE) (by rfl) T.z_repr (by decide +kernel) (pa_cons (pv 3) pa_nil)) (nomark _)) (pss_one (ps_ret pe_bl)) pss_nil) (pss_cons (ps_for (PassesOwn.never) rfl (asList (K := K) rfl (pi_list (pe_lst (pa_cons (pv 1) (pa_cons (pv 2) pa_nil))))) (pg_name (i := 5) sc_law_right.nd rfl (Or.inl rfl)) (pss_one (ps_if (pt_val (pe_callB (L2.call_isi : CallR _ _ (rIsi K)) (by rfl) T.z_isinstance (by decide +kernel) (pa_cons (pv 5) (pa_cons (pe_bltn (v := .ty "list") (u := .type "list") rfl T.z_list (by decide +kernel) rfl) pa_nil)))) (pss_one (ps_expr (asBM (K := K) rfl (pe_bm PySem.F.plainAttrs_list PySem.F.slot_list_append PySem.F.type_list_append mt_append (pv 5) (pa_cons pe_str pa_nil))))) pss_nil))) (pss_one (ps_ret (pe_or (pe_cmpR ((op_eqA hr.units) : OpR _ _ (rEqA K)) (pe_ix (ix_seq : IxR _ (rIx K)) (pv 3) pe_int (fun _ _ => rfl)) pe_str (nomark _)) (pe_one (pe_cmpR ((op_eqA hr.units) : OpR _ _ (rEqA K)) (pe_callB (call_reprE hg hr.units : CallR _ _ rReprE) (by rfl) T.z_repr (by decide +kernel) (pa_cons (pv 4) pa_nil)) (pe_callB (call_reprE hg hr.units : CallR _ _ rReprE) (by rfl) T.z_repr (by decide +kernel) (pa_cons (pv 3) pa_nil)) (nomark _))))))))), ?_⟩
    walk_at "g"
    refine ⟨_, _, x, y, d, e, kd, rfl, ok, hx, hy, fun f H1 hf s1 h1 => ?_⟩
    have hl1 := s1 _ _ hl
    have hx1 := hx.same s1
    have hy1 := fun q => (hy q).same s1
    have od := outs_de h1 sm hx1 fun q h => hy1 (res_needs ok.1 h)
    have ol := outs_de hl1 sm hx1 fun q h => hy1 (res_needs ok.1 h)
    obtain ⟨w1, w2⟩ := outs_light (r := res kd d e) ⟨Nat.le_trans ld.1 (by decide), Nat.le_trans ld.2 (by decide)⟩ ⟨Nat.le_trans le.1 (by decide), Nat.le_trans le.2 (by decide)⟩
    walk_at "g"
    refine ⟨_, _, _, rfl, od, w1, w2, ?_⟩
    walk_at "g"
    refine ⟨_, _, _, rfl, ol, w1, w2, ?_⟩
    refine r_neS ?_
    refine r_bl ?_
    refine iteNF rfl ?_
    walk_at "g"
    refine r_for (r_ilist ?_)
    walk_at "g"
    refine ⟨show 2 ≤ sizeLine by decide, fun p hp => ?_⟩
    have t2 := (Same.refl H1).new hp (HO.lst [x, y])
    have e2 : upd H1 p (HO.lst [x, y]) p = some (HO.lst [x, y]) := upd_same
    generalize upd H1 p (HO.lst [x, y]) = H2 at t2 e2 ⊢
    have px : x ≠ .ref p := fun q => (tx.keep fun p o _ h => s1 p o h).some q hp
    have py : y ≠ .ref p := fun q => (ty.keep fun p o _ h => s1 p o h).some q hp
    have fx : x ≠ .ref f := fun q => tx.some q hf
    have fy : y ≠ .ref f := fun q => ty.some q hf
    have s2 := s1.trans t2
    replace tx : Top n H2 x := tx.keep fun p o _ h => s2 p o h
    replace ty : Top n H2 y := ty.keep fun p o _ h => s2 p o h
    replace hx1 := hx1.same t2
    replace hy1 := fun q => (hy1 q).same t2
    replace hl1 := t2 _ _ hl1
    replace h1 := t2 _ _ h1
    refine r_isRL (SqL.of e2) ?_
    refine loop_lst (xs := [x, y]) (fun i σ' H' => ∃ z : Option V, σ' = [some (.int (kd : Nat)), some x, some y, some (.ref l), some (.ref f), z] ∧ Grow x y H2 H' ∧ Top (n + i) H' x ∧ Top (n + i) H' y ∧
      De (fun p => y = .ref p) H' x (gx d i) ∧ (needs kd d = true → De (fun p => x = .ref p) H' y (gy e i))) (fun i σ' H' w => ?_) ⟨_, rfl, fun _ _ h _ => h, tx, ty, hx1, hy1⟩ (fun i v σ' H' hv w => ?_) (fun σ' H' w => ?_)
    · obtain ⟨z, _, g, _⟩ := w
      exact g _ _ e2 fun _ _ => ⟨px, py⟩
    · obtain ⟨z, rfl, g, tx, ty, dx, dy⟩ := w
      rcases (show i = 0 ∨ i = 1 by have := (List.getElem?_eq_some_iff.mp hv).1; have : i < 2 := this; omega) with rfl | rfl
      · cases hv
        have dx : De (fun p => y = .ref p) H' x d := dx
        show gName 5 x _ _ _
        walk_at "g"
        refine tx.isL (fun a xs ex ha hlen => ?_) fun no => ?_
        · subst ex
          have ny : y ≠ .ref a := dx.notB
          walk_at "g"
          refine r_tyL ha ?_
          walk_at "g"
          refine r_app ha (Nat.lt_of_le_of_lt hlen (Nat.lt_of_le_of_lt (show n + 0 ≤ 100 by omega) (by decide))) ?_
          walk_at "g"
          refine ⟨_, rfl, fun p o hp nn => ?_, .lst upd_same (by rw [List.length_append]; exact Nat.add_le_add_right hlen 1), (ty.mono (Nat.le_succ _)).keep fun p o q h => ?_, dx.grow ha, fun q => (dy q).keep fun p o np h => ?_⟩
          · have q := g p o hp nn
            by_cases e : p = a
            · subst e; cases q.symm.trans ha; exact absurd rfl (nn xs rfl).1
            · rw [upd_ne e]; exact q
          · rw [upd_ne (fun e => ny (by rw [q, e]))]; exact h
          · rw [upd_ne (fun e => np (by rw [e]))]; exact h
        · walk_at "g"
          refine ⟨_, rfl, g, tx.mono (Nat.le_succ _), ty.mono (Nat.le_succ _), ?_, dy⟩
          show De _ _ _ (grown d)
          rw [dx.still no]
          exact dx
      · cases hv
        show gName 5 y _ _ _
        walk_at "g"
        refine ty.isL (fun a xs ex ha hlen => ?_) fun no => ?_
        · subst ex
          have nx : x ≠ .ref a := fun q => by subst q; exact dx.notB rfl
          walk_at "g"
          refine r_tyL ha ?_
          walk_at "g"
          refine r_app ha (Nat.lt_of_le_of_lt hlen (Nat.lt_of_le_of_lt (show n + 1 ≤ 101 by omega) (by decide))) ?_
          walk_at "g"
          refine ⟨_, rfl, fun p o hp nn => ?_, (tx.mono (Nat.le_succ _)).keep fun p o q h => ?_, .lst upd_same (by rw [List.length_append]; exact Nat.add_le_add_right hlen 1), dx.keep fun p o np h => ?_, fun q => (dy q).grow ha⟩
          · have q := g p o hp nn
            by_cases e : p = a
            · subst e; cases q.symm.trans ha; exact absurd rfl (nn xs rfl).2
            · rw [upd_ne e]; exact q
          · rw [upd_ne (fun e => nx (by rw [q, e]))]; exact h
          · rw [upd_ne (fun e => np (by rw [e]))]; exact h
        · walk_at "g"
          refine ⟨_, rfl, g, tx.mono (Nat.le_succ _), ty.mono (Nat.le_succ _), dx, fun q => ?_⟩
          show De _ _ _ (grown e)
          have dy : De (fun p => x = .ref p) H' y e := dy q
          rw [dy.still no]
          exact dy
    · obtain ⟨z, rfl, g, tx, ty, dx, dy⟩ := w
      have hl3 := g _ _ hl1 fun _ _ => ⟨xl, yl⟩
      have h3 := g _ _ h1 fun _ _ => ⟨fx, fy⟩
      have fin : Q (.bl true) H' := k H' (fun p o q nn => g p o (s2 p o q) nn) tx ty dx
      have od := outs_de h3 sm dx fun q h => dy (res_needs ok.1 h)
      have ol := outs_de hl3 sm dx fun q h => dy (res_needs ok.1 h)
      have gd := we_grown d
      have ge := we_grown e
      obtain ⟨w1, w2⟩ := outs_light (r := res kd d e) (d := grown d) (e := grown e) ⟨Nat.le_trans gd.1 (Nat.le_trans (Nat.add_le_add_right ld.1 44) (by decide)), Nat.le_trans gd.2 (Nat.le_trans ld.2 (by decide))⟩ ⟨Nat.le_trans ge.1 (Nat.le_trans (Nat.add_le_add_right le.1 44) (by decide)), Nat.le_trans ge.2 (Nat.le_trans le.2 (by decide))⟩
      have od : De (fun _ => False) H' (.ref f) (outE (res kd d e) (grown d) (grown e)) := od
      have ol : De (fun _ => False) H' (.ref l) (outE (res kd d e) (grown d) (grown e)) := ol
      clear dx dy tx ty hx1 hy1 hx hy
      generalize outE (res kd d e) (grown d) (grown e) = dd at od ol w1 w2
      generalize res kd d e = r at hl3
      walk_at "g"
      have cmp : ∀ z : Str, atI (outs r x y) 0 = some (.str z) → rIx K (.ref l) (.int 0) H' fun x_1 H1 => tC (V.str "told") [some (V.int (kd : Nat)), some x, some y, some (V.ref l), some (V.ref f), ‹Option V›] H1 fun y_1 H2 => rEqA K x_1 y_1 H2 fun x_2 H1 => ∃ c, x_2 = V.bl c ∧
          if c = true then Q (V.bl true) H1 else tOp (rEqA K) (tCB rReprE (tCons (tVar 4) tNil)) (tCB rReprE (tCons (tVar 3) tNil)) [some (V.int (kd : Nat)), some x, some y, some (V.ref l), some (V.ref f), ‹Option V›] H1 Q := fun z hz => by
        refine r_ixL (SqL.of hl3) hz ?_
        refine r_c ?_
        refine r_eqS ?_
        refine r_bl ?_
        refine r_iteD (fun _ => fin) fun _ => ?_
        walk_at "g"
        refine ⟨_, _, _, rfl, od, w1, w2, ?_⟩
        walk_at "g"
        refine ⟨_, _, _, rfl, ol, w1, w2, ?_⟩
        refine r_eqS ?_
        rw [decide_eq_true rfl]
        exact fin
      cases r with
      | found q b => exact cmp _ rfl
      | sign m => exact cmp _ rfl
      | many m => exact cmp _ rfl
      | told => exact cmp _ rfl
end
end K07

namespace K07
open PySem PySem.Spec PyProof.Rows L2 J M
local macro_rules | `(tactic| walk_at "hp") => `(tactic| first | assumption | exact upd_same | (rw [upd_ne (by assumption)]; walk_at "hp") | (rw [upd_ne (Ne.symm (by assumption))]; walk_at "hp"))
local macro_rules | `(tactic| walk_at "s") => `(tactic| first
  | ((with_reducible refine' r_var ?h ?k); (case h => exact rfl))
  | (with_reducible refine r_c ?_)
  | (with_reducible refine r_op ?_)
  | (with_reducible refine r_un ?_)
  | (with_reducible refine r_seq ?_)
  | (with_reducible refine r_next ?_)
  | (with_reducible refine r_sets ?_)
  | (with_reducible refine r_gname ?_)
  | (with_reducible refine r_ifS ?_)
  | (with_reducible refine r_gsub ?_)
  | (with_reducible refine r_test ?_)
  | (with_reducible refine r_tb ?_)
  | (with_reducible refine r_not ?_)
  | (with_reducible refine r_and ?_)
  | (with_reducible refine r_or ?_)
  | (with_reducible refine r_andV ?_)
  | (with_reducible refine r_orV ?_)
  | (with_reducible refine r_notV ?_)
  | (with_reducible refine r_ifE ?_)
  | (with_reducible refine r_chain ?_)
  | (with_reducible refine r_cb ?_)
  | (with_reducible refine r_cons ?_)
  | (with_reducible refine r_nil ?_)
  | (with_reducible refine r_call ?_)
  | (with_reducible refine r_lst ?_)
  | (with_reducible refine r_tup ?_)
  | (with_reducible refine r_slice ?_)
  | (with_reducible refine r_nop ?_)
  | (with_reducible refine r_part ?_)
  | (with_reducible refine r_bm ?_)
  | (with_reducible refine r_m1 ?_)
  | (with_reducible refine r_m0 ?_)
  | (with_reducible refine r_is ?_)
  | (with_reducible refine r_maxD ?_)
  | (with_reducible refine r_orT ?_)
  | (with_reducible refine r_truN ?_)
  | (with_reducible refine r_intI ?_)
  | (with_reducible refine r_intB ?_)
  | (with_reducible refine r_max2 ?_)
  | (with_reducible refine r_min2 ?_)
  | (with_reducible refine r_yes ?_)
  | (with_reducible refine r_bl ?_)
  | (with_reducible refine iteT ?_)
  | (with_reducible refine iteF ?_)
  | (with_reducible refine r_iteNT ?_)
  | (with_reducible refine r_iteNF ?_)
  | (with_reducible refine r_minL ?_)
  | (with_reducible refine r_gcons ?_)
  | (with_reducible refine r_gnil ?_)
  | (with_reducible refine r_par ?_)
  | (with_reducible refine r_par3 ?_)
  | (with_reducible refine r_is2 ?_)
  | (with_reducible refine r_is3 ?_)
  | (with_reducible refine r_dget ?_)
  | (with_reducible refine r_callS ?_)
  | (with_reducible refine r_rz ?_)
  | (with_reducible refine r_rev ?_)
  | (with_reducible refine r_isI ?_)
  | (with_reducible refine r_isStr ?_)
  | (with_reducible refine r_ret ?_)
  | (with_reducible refine r_drop ?_)
  | (with_reducible refine r_rI0 ?_)
  | (with_reducible refine r_addI ?_)
  | ((with_reducible show rI (fun _ j => 0 < j) _ (.int _) (.int _) _ _); refine r_rI (by first | omega | decide) ?_)
  | ((with_reducible show rI CDiv _ (.int _) (.int _) _ _); refine r_rI (by constructor <;> omega) ?_)
  | ((with_reducible show rI CPow _ (.int _) (.int _) _ _); refine r_rI (by refine ⟨by decide, by decide, ?_⟩; omega) ?_)
  | ((with_reducible show rMul (.int _) (.int _) _ _); refine r_mulI (cmulW (by omega) (by omega)) ?_)
  | (with_reducible refine r_cmpI ?_)
  | (with_reducible refine r_cmpS ?_)
  | (with_reducible refine r_eqI ?_)
  | (with_reducible refine r_neI ?_)
  | (with_reducible refine r_eqS ?_)
  | (with_reducible refine r_neS ?_)
  | (with_reducible refine r_inSF ?_)
  | (with_reducible refine r_inST ?_)
  | (with_reducible refine r_isiStr ?_)
  | ((with_reducible show rIx _ (.ref _) (.int _) _ _); refine' r_ixL (SqL.of ?h) ?e ?_; (case h => walk_at "hp"); (case e => rfl))
  | ((with_reducible show rSetL (.ref _) (.int _) _ _ _); refine' r_setL ?h ?e ?_; (case h => walk_at "hp"); (case e => rfl)))
local macro_rules | `(tactic| walk_at "g") => `(tactic| repeat walk_at "s")


local macro_rules | `(tactic| walk_at "x") => `(tactic| first | omega | (simp only [one_nl, one_bs, one_q1, one_q2, qS_nil, qS_q1, one_qS, mem_part, mem_qs, mem_all]; omega))
local macro_rules | `(tactic| walk_at "d") => `(tactic| first
  | (with_reducible refine iteDT (by walk_at "x") ?_)
  | (with_reducible refine iteDF (by walk_at "x") ?_)
  | (with_reducible refine iteNT (by walk_at "x") ?_)
  | (with_reducible refine iteNF (by walk_at "x") ?_))
local macro_rules | `(tactic| walk_at "G") => `(tactic| repeat (first | walk_at "s" | walk_at "d"))
section
variable {P : Program} {w : World} {K : PySem.W.Frag} {mg : Str → Option Value} {base : Heap} {CL CI CS CW CB CT : Addr}
def badL (k : Nat) (q : Str) : List PyData := [.tuple [.list (rep k "a"), .str "be"], .tuple [.list (rep k "a"), .str "be", .str q, .str ""], .list [.list (rep k "a"), .str "be", .str q], .tuple [.str "ab", .str "be", .str q], .tuple [.list (rep k "a"), .int 7, .str q],
  .tuple [.list (rep 41 "a"), .str "be", .str q], .tuple [.list [.str "a", .str (mulT 41 98)], .none, .str ""], .tuple [.list [.str "a"], .str (mulT 41 99), .str q],
  .tuple [.list (rep k "a"), .none, .str "'"], .tuple [.list (rep k "a"), .str "be", .str "\\"], .tuple [.list (rep k "a"), .str "be", .none], .tuple [.none, .str "be", .str ""],
  .tuple [.list [.str "a\nb"], .str "be", .str q], .tuple [.list [.str "a"], .str "b\te", .str q], .tuple [.list [], .str "be\n", .str q], .tuple [.list [.str "\t"], .none, .str ""],
  .tuple [.list (rep k "a"), .none, .none], .tuple [.list (rep k "a"), .none, .int 0], .tuple [.list (rep k "a"), .str "be", .str "'\""]]
def Bad (d : PyData) : Prop := stE d = false ∧ flatE (thirdE d) = true ∧ (we d ≤ 90000 ∧ d.depth ≤ 40) ∧ (itemsE d).length ≤ 41
instance {d : PyData} : Decidable (Bad d) := by unfold Bad; infer_instance
def quos : List Str := ["", "'", "\""]
theorem bads : ∀ k < 41, ∀ q ∈ quos, ∀ d ∈ badL k q, Bad d := by decide +kernel
theorem _root_.J.De.apart' {B B' : Addr → Prop} {A : Hp} {x : V} {z : Str} (h : De B A x (.str z)) (_ : x = .str z) : De B' A x (.str z) := by
  cases h with
  | str z h c => exact .str z h c
theorem Bad.res {d e : PyData} (h : stE d = false) : res 4 d e = .found 2 false := by
  show behRes d e = _
  unfold behRes
  rw [h]; rfl
/-- where a thing may grow that stood not in H0 -/
def Fre (H0 A : Hp) (x : V) : Prop := ∀ a, x = .ref a → H0 a = none ∨ ∃ ys, A a = some (.tup ys)
/-- a thing that is no state, apart from the box, and not at g -/
def Cand (H0 : Hp) (b g : Addr) (A : Hp) (x : V) : Prop := x ≠ .ref g ∧ Fre H0 A x ∧ ∃ d, Bad d ∧ De (fun p => p = b) A x d
theorem Fre.same {H0 A A' : Hp} {x : V} (f : Fre H0 A x) (s : Same A A') : Fre H0 A' x := fun a e => (f a e).imp id fun ⟨ys, q⟩ => ⟨ys, s _ _ q⟩
theorem Cand.keep {H0 : Hp} {b g : Addr} {A A' : Hp} {x : V} (h : Cand H0 b g A x) (s : Keep b A A') : Cand H0 b g A' x := by
  obtain ⟨n, f, d, bd, h⟩ := h
  exact ⟨n, fun a e => (f a e).imp id fun ⟨ys, q⟩ => ⟨ys, s _ _ q (by subst e; exact h.notB)⟩, d, bd, h.keep fun p o np e => s p o e np⟩
theorem Cand.top {H0 : Hp} {b g : Addr} {A : Hp} {x : V} (h : Cand H0 b g A x) : Top 41 A x := by
  obtain ⟨n, f, d, bd, h⟩ := h
  exact h.top bd.2.2.2
theorem grow_keep {H0 : Hp} {b : Addr} {A A' : Hp} {x y : V} (kp : Keep b H0 A) (g : Grow x y A A') (fx : Fre H0 A x) (fy : Fre H0 A y) : Keep b H0 A' := fun p o h n => by
  have ha := kp p o h n
  refine g p o ha fun xs e => ⟨fun q => ?_, fun q => ?_⟩
  · rcases fx p q with z | ⟨ys, z⟩
    · cases h.symm.trans z
    · subst e; cases ha.symm.trans z
  · rcases fy p q with z | ⟨ys, z⟩
    · cases h.symm.trans z
    · subst e; cases ha.symm.trans z
theorem grow_fre {H0 : Hp} {A A' : Hp} {x y z : V} (g : Grow x y A A') (f : Fre H0 A z) : Fre H0 A' z := fun a e => (f a e).imp id fun ⟨ys, q⟩ => ⟨ys, g _ _ q fun xs e => nomatch e⟩
theorem grow_bx {A A' : Hp} {x y : V} {b : Addr} {n : Nat} (g : Grow x y A A') (hx : x ≠ .ref b) (hy : y ≠ .ref b) (h : Bx A b n) : Bx A' b n := by
  obtain ⟨u, v, w, e, r⟩ := h
  exact ⟨u, v, w, g _ _ e fun _ _ => ⟨hx, hy⟩, r⟩
/-- a call with a thing that is no state -/
theorem call_state {B B2 : Addr → Prop} {A : Hp} {x y : V} {d e : PyData} {l : Addr} {n : Nat} {Q : VK} {E : XK} (h : stE d = false) (fl : flatE (thirdE d) = true) (ld : Light d) (it : (itemsE d).length ≤ n) (hn : n ≤ 100) (dx : De B A x d) (dy : De B2 A y e) (le : Light e) (ys : ∀ a, y ≠ .ref a) (xl : x ≠ .ref l)
    (hl : A l = some (.lst [.str "state", x])) (k : ∀ A', Grow x y A A' → De (fun p => y = .ref p) A' x (grown d) → Q (.bl true) A') : spRightE K [.int 4, x, y, .ref l] A Q E := by
  have ty : Top n A y := by
    cases dy with
    | non => exact .non
    | bl v => exact .bl v
    | int i _ => exact .int i
    | str z _ _ => exact .str z
    | lst _ _ _ => exact absurd rfl (ys _)
    | tup _ _ _ => exact absurd rfl (ys _)
    | dct _ _ => exact absurd rfl (ys _)
    | one _ _ => exact absurd rfl (ys _)
  refine ⟨x, y, d, e, 4, n, l, rfl, ⟨by decide, fl, fun q => absurd q (by decide), fun _ q => absurd (h.symm.trans q) Bool.false_ne_true⟩, by rw [Bad.res h]; rfl, ld, le, xl, ys l, hn, dx.apart fun p _ _ q => ys p q, fun q => absurd (h.symm.trans q) Bool.false_ne_true, dx.top it, ty, by rw [Bad.res h]; exact hl, fun A' g _ _ dx' => k A' g dx'⟩
theorem bad_grown {d : PyData} (h : Bad d) : stE (grown d) = false ∧ flatE (thirdE (grown d)) = true ∧ Light (grown d) ∧ (itemsE (grown d)).length ≤ 42 := by
  obtain ⟨h1, h2, h3, h4⟩ := h
  have w := we_grown d
  have l : Light (grown d) := ⟨Nat.le_trans w.1 (by have := h3.1; omega), Nat.le_trans w.2 h3.2⟩
  cases d with
  | list ds => exact ⟨rfl, rfl, l, by show (ds ++ [PyData.str "more"]).length ≤ 42; rw [List.length_append]; exact Nat.add_le_add_right h4 1⟩
  | _ => exact ⟨h1, h2, l, Nat.le_trans h4 (by decide)⟩
def badW : List PyData := [.str "b", .str "", .str "eb", .str "abe", .str "Be", .none, .int 7, .list [.str "be"], .str (Str.ofString "be" ++ Txt.mul "e" 39), .tuple [.str "be"], .str "be\n", .str "be\t"]
theorem goods : ∀ m < 41, ∀ q ∈ quos, stE (.tuple [.list (rep m "a"), .str "be", .str q]) = true ∧ Light (.tuple [.list (rep m "a"), .str "be", .str q]) ∧ stE (.tuple [.list (rep m "a"), .none, .str ""]) = true ∧ Light (.tuple [.list (rep m "a"), .none, .str ""]) ∧
    ∀ e ∈ badW, goodE (.tuple [.list (rep m "a"), .str "be", .str q]) e = false ∧ Light e ∧ (itemsE e).length ≤ 41 := by decide +kernel
def CandW (H0 : Hp) (b g c : Addr) (A : Hp) (y : V) : Prop := y ≠ .ref g ∧ y ≠ .ref c ∧ y ≠ .ref b ∧ Fre H0 A y ∧ ∃ e, e ∈ badW ∧ De (fun p => p = b ∨ p = c) A y e
theorem CandW.keep {H0 : Hp} {b g c : Addr} {A A' : Hp} {y : V} (h : CandW H0 b g c A y) (s : Keep b A A') : CandW H0 b g c A' y := by
  obtain ⟨n1, n2, n3, f, e, he, h⟩ := h
  have ff : Fre H0 A' y := fun a q => (f a q).imp id fun ⟨ys, z⟩ => ⟨ys, s _ _ z (fun w => n3 (by rw [q, w]))⟩
  exact ⟨n1, n2, n3, ff, e, he, h.keep fun p o np z => s p o z fun w => np (.inl w)⟩
theorem call_word {A : Hp} {x y : V} {d e : PyData} {l : Addr} {n : Nat} {Q : VK} {E : XK} (hs : stE d = true) (hg : goodE d e = false) (fl : flatE (thirdE d) = true) (ld : Light d) (le : Light e) (it : (match d with | .list ds => ds.length | _ => 0) ≤ n) (ie : (itemsE e).length ≤ n) (hn : n ≤ 100)
    (dx : De (fun p => y = .ref p) A x d) (dy : De (fun p => x = .ref p) A y e) (xl : x ≠ .ref l) (yl : y ≠ .ref l) (hl : A l = some (.lst [.str "word", y])) (k : ∀ A', Grow x y A A' → Q (.bl true) A') : spRightE K [.int 4, x, y, .ref l] A Q E := by
  have r : res 4 d e = .found 3 true := by
    show behRes d e = _
    unfold behRes
    rw [hs, hg]; rfl
  have tx : Top n A x := by
    cases dx with
    | non => exact .non
    | bl v => exact .bl v
    | int i _ => exact .int i
    | str z _ _ => exact .str z
    | lst h _ t => exact .lst h (by rw [t.len]; exact it)
    | tup h _ _ => exact .tup h
    | dct h _ => exact .dct h
    | one h _ => exact .dct h
  exact ⟨x, y, d, e, 4, n, l, rfl, ⟨by decide, fl, fun q => absurd q (by decide), fun _ _ q => absurd (hg.symm.trans q) Bool.false_ne_true⟩, by rw [r]; rfl, ld, le, xl, yl, hn, dx, fun _ => dy, tx, dy.top ie, by rw [r]; exact hl, fun A' g _ _ _ => k A' g⟩
theorem good_told : ∀ m < 41, ∀ q ∈ quos, goodE (.tuple [.list (rep m "a"), .str "be", .str q]) (.str "bee") = true ∧ goodE (.tuple [.list (rep m "a"), .none, .str ""]) (.str "") = true := by decide +kernel
theorem eq_told {A : Hp} {l p : Addr} {Q : VK} (h1 : A l = some (.lst [.str "told", .non])) (h2 : A p = some (.lst [.str "told", .non])) (k : Q (.bl true) A) : rEqA K (.ref l) (.ref p) A Q :=
  .inr ⟨.list [.str "told", .none], .list [.str "told", .none], .lst (SqL.of h1) (.cons (.str _) (.cons .non .nil)), .lst (SqL.of h2) (.cons (.str _) (.cons .non .nil)), by decide +kernel, by decide +kernel, by
    rw [show PyData.eqv (.list [.str "told", .none]) (.list [.str "told", .none]) = true by decide +kernel]
    exact k⟩
theorem told4 {d e : PyData} (h : stE d = true) (g : goodE d e = true) : res 4 d e = .told := by
  show behRes d e = _
  unfold behRes
  rw [h, g]; rfl
def spStates : Sp := fun vs H Q _ => ∃ (b : Addr) (n : Nat), vs = [.ref b] ∧ Bx H b n ∧ n ≤ 800000000 ∧ ∀ H', Keep b H H' → Bx H' b (n + 7) → Q (.bl true) H'
theorem ok_states (T : Tx K mg) (O_NoLine : OE P w K mg base "NoLine" "found" CL) (O_NoList : OE P w K mg base "NoList" "found" CI) (O_NoState : OE P w K mg base "NoState" "found" CS) (O_NoWord : OE P w K mg base "NoWord" "found" CW) (O_BadSign : OE P w K mg base "BadSign" "at" CB) (O_TooMany : OL P w K mg base "TooMany" "many" CT) (TQ : TK K CL CI CS CW CB CT) {f f_law_right f_law_told f_law_asked f_cut f_state_of f_quoted f_joined f_quoted_behind f_shows_cut f_are_alike f_cut_plainly f_scanned f_refuse_too_many f_is_line f_are_signs f_longer f_ways f_escaped f_is_word f_are_words f_is_state f_written_behind f_rest_quoted f_law_pick f_law_take : Addr} {fd fd_law_right fd_law_told fd_law_asked fd_cut fd_state_of fd_quoted fd_joined fd_quoted_behind fd_shows_cut fd_are_alike fd_cut_plainly fd_scanned fd_refuse_too_many fd_is_line fd_are_signs fd_longer fd_ways fd_escaped fd_is_word fd_are_words fd_is_state fd_written_behind fd_rest_quoted fd_law_pick fd_law_take : FuncData} (F : Fun K "_law_states_right" "_law_states_right" s_law_states_right f fd)
    (D_law_right : DAt K mg "_law_right" s_law_right P_law_right f_law_right fd_law_right)
    (D_law_told : DAt K mg "_law_told" s_law_told P_law_told f_law_told fd_law_told)
    (D_law_asked : DAt K mg "_law_asked" s_law_asked P_law_asked f_law_asked fd_law_asked)
    (D_cut : DAt K mg "cut" s_cut P_cut f_cut fd_cut)
    (D_state_of : DAt K mg "state_of" s_state_of P_state_of f_state_of fd_state_of)
    (D_quoted : DAt K mg "quoted" s_quoted P_quoted f_quoted fd_quoted)
    (D_joined : DAt K mg "joined" s_joined P_joined f_joined fd_joined)
    (D_quoted_behind : DAt K mg "quoted_behind" s_quoted_behind P_quoted_behind f_quoted_behind fd_quoted_behind)
    (D_shows_cut : DAt K mg "shows_cut" s_shows_cut P_shows_cut f_shows_cut fd_shows_cut)
    (D_are_alike : DAt K mg "are_alike" s_are_alike P_are_alike f_are_alike fd_are_alike)
    (D_cut_plainly : DAt K mg "_cut_plainly" s_cut_plainly P_cut_plainly f_cut_plainly fd_cut_plainly)
    (D_scanned : DAt K mg "_scanned" s_scanned P_scanned f_scanned fd_scanned)
    (D_refuse_too_many : DAt K mg "_refuse_too_many" s_refuse_too_many P_refuse_too_many f_refuse_too_many fd_refuse_too_many)
    (D_is_line : DAt K mg "is_line" s_is_line P_is_line f_is_line fd_is_line)
    (D_are_signs : DAt K mg "are_signs" s_are_signs P_are_signs f_are_signs fd_are_signs)
    (D_longer : DAt K mg "_longer" s_longer P_longer f_longer fd_longer)
    (D_ways : DAt K mg "_ways" s_ways P_ways f_ways fd_ways)
    (D_escaped : DAt K mg "_escaped" s_escaped P_escaped f_escaped fd_escaped)
    (D_is_word : DAt K mg "is_word" s_is_word P_is_word f_is_word fd_is_word)
    (D_are_words : DAt K mg "are_words" s_are_words P_are_words f_are_words fd_are_words)
    (D_is_state : DAt K mg "is_state" s_is_state P_is_state f_is_state fd_is_state)
    (D_written_behind : DAt K mg "written_behind" s_written_behind P_written_behind f_written_behind fd_written_behind)
    (D_rest_quoted : DAt K mg "_rest_quoted" s_rest_quoted P_rest_quoted f_rest_quoted fd_rest_quoted)
    (D_law_pick : DAt K mg "_law_pick" s_law_pick P_law_pick f_law_pick fd_law_pick)
    (D_law_take : DAt K mg "_law_take" s_law_take P_law_take f_law_take fd_law_take) : FnG P w K mg base CX0 12 f fd P_law_states_right spStates := by
  have G_law_right : FnG P w K mg base CX0 11 f_law_right fd_law_right P_law_right (spRightE K) := ok_right T O_NoLine O_NoList O_NoState O_NoWord O_BadSign O_TooMany TQ D_law_right.fn D_law_told D_law_asked D_cut D_state_of D_quoted D_joined D_quoted_behind D_shows_cut D_are_alike D_cut_plainly D_scanned D_refuse_too_many D_is_line D_are_signs D_longer D_ways D_escaped D_is_word D_are_words D_is_state D_written_behind D_rest_quoted
  have G_law_told : FnOk P w K mg base CX0 10 f_law_told fd_law_told P_law_told spToldE := ok_told T O_NoLine O_NoList O_NoState O_NoWord O_BadSign O_TooMany TQ D_law_told.fn D_law_asked D_cut D_state_of D_quoted D_joined D_quoted_behind D_shows_cut D_are_alike D_cut_plainly D_scanned D_refuse_too_many D_is_line D_are_signs D_longer D_ways D_escaped D_is_word D_are_words D_is_state D_written_behind D_rest_quoted
  have G_law_pick : FnOk P w K mg base CX0 2 f_law_pick fd_law_pick P_law_pick (spPick K) := ok_pick T D_law_pick.fn D_law_take
  have G_law_take : FnOk P w K mg base CX0 1 f_law_take fd_law_take P_law_take spTake := ok_take D_law_take.fn
  refine fun_g F sc_law_states_right (fun vs H Q E h => ?_) (fun cdv A outer s H vs Q E hg hr h => ?_)
  · obtain ⟨b, n, rfl, _⟩ := h
    rfl
  · obtain ⟨b, n, rfl, hb, hn, k⟩ := h
    refine ⟨_, (pss_cons (ps_set (i := 1) sc_law_states_right.nd rfl (Or.inl rfl) (pe_call G_law_pick (hr.mono (by decide)) rfl D_law_pick.gl D_law_pick.fn.kp D_law_pick.bd .nil pass0 (pa_cons (pv 0) (pa_cons (pe_lst (pa_cons pe_str (pa_cons pe_str (pa_cons pe_str pa_nil)))) pa_nil)))) (pss_cons (ps_set (i := 2) sc_law_states_right.nd rfl (Or.inl rfl) (pe_tup (pa_cons (pe_op oMul (pe_lst (pa_cons pe_str pa_nil)) (pe_call G_law_take (hr.mono (by decide)) rfl D_law_take.gl D_law_take.fn.kp D_law_take.bd .nil pass0 (pa_cons (pv 0) (pa_cons pe_int pa_nil)))) (pa_cons pe_str (pa_cons (pv 1) pa_nil))))) (pss_cons (ps_set (i := 3) sc_law_states_right.nd rfl (Or.inl rfl) (pe_lst (pa_cons (pe_tup (pa_cons (pe_ix (ix_seq : IxR _ (rIx K)) (pv 2) pe_int (fun _ _ => rfl)) (pa_cons pe_str pa_nil))) (pa_cons (pe_op (oAdd : OpR _ _ (J.rAdd K)) (pv 2) (pe_tup (pa_cons pe_str pa_nil))) (pa_cons (pe_lst (pa_cons (pe_ix (ix_seq : IxR _ (rIx K)) (pv 2) pe_int (fun _ _ => rfl)) (pa_cons pe_str (pa_cons (pv 1) pa_nil)))) (pa_cons (pe_tup (pa_cons pe_str (pa_cons pe_str (pa_cons (pv 1) pa_nil)))) (pa_cons (pe_tup (pa_cons (pe_ix (ix_seq : IxR _ (rIx K)) (pv 2) pe_int (fun _ _ => rfl)) (pa_cons pe_int (pa_cons (pv 1) pa_nil)))) pa_nil))))))) (pss_cons (ps_set (i := 3) sc_law_states_right.nd rfl (Or.inl rfl) (pe_call G_law_pick (hr.mono (by decide)) rfl D_law_pick.gl D_law_pick.fn.kp D_law_pick.bd .nil pass0 (pa_cons (pv 0) (pa_cons (pv 3) pa_nil)))) (pss_cons (ps_set (i := 3) sc_law_states_right.nd rfl (Or.inl rfl) (pe_call G_law_pick (hr.mono (by decide)) rfl D_law_pick.gl D_law_pick.fn.kp D_law_pick.bd .nil pass0 (pa_cons (pv 0) (pa_cons (pe_lst (pa_cons (pv 3) (pa_cons (pe_tup (pa_cons (pe_op oMul (pe_lst (pa_cons pe_str pa_nil)) pe_int) (pa_cons pe_str (pa_cons (pv 1) pa_nil)))) (pa_cons (pe_tup (pa_cons (pe_lst (pa_cons pe_str (pa_cons (pe_op oMul pe_str pe_int) pa_nil))) (pa_cons pe_non (pa_cons pe_str pa_nil)))) (pa_cons (pe_tup (pa_cons (pe_lst (pa_cons pe_str pa_nil)) (pa_cons (pe_op oMul pe_str pe_int) (pa_cons (pv 1) pa_nil)))) pa_nil))))) pa_nil)))) (pss_cons (ps_set (i := 3) sc_law_states_right.nd rfl (Or.inl rfl) (pe_call G_law_pick (hr.mono (by decide)) rfl D_law_pick.gl D_law_pick.fn.kp D_law_pick.bd .nil pass0 (pa_cons (pv 0) (pa_cons (pe_lst (pa_cons (pv 3) (pa_cons (pe_tup (pa_cons (pe_ix (ix_seq : IxR _ (rIx K)) (pv 2) pe_int (fun _ _ => rfl)) (pa_cons pe_non (pa_cons pe_str pa_nil)))) (pa_cons (pe_tup (pa_cons (pe_ix (ix_seq : IxR _ (rIx K)) (pv 2) pe_int (fun _ _ => rfl)) (pa_cons pe_str (pa_cons pe_str pa_nil)))) (pa_cons (pe_tup (pa_cons (pe_ix (ix_seq : IxR _ (rIx K)) (pv 2) pe_int (fun _ _ => rfl)) (pa_cons pe_str (pa_cons pe_non pa_nil)))) (pa_cons (pe_tup (pa_cons pe_non (pa_cons pe_str (pa_cons pe_str pa_nil)))) pa_nil)))))) pa_nil)))) (pss_cons (ps_set (i := 4) sc_law_states_right.nd rfl (Or.inl rfl) (pe_lst (pa_cons (pe_tup (pa_cons (pe_lst (pa_cons pe_str pa_nil)) (pa_cons pe_str (pa_cons (pv 1) pa_nil)))) (pa_cons (pe_tup (pa_cons (pe_lst (pa_cons pe_str pa_nil)) (pa_cons pe_str (pa_cons (pv 1) pa_nil)))) (pa_cons (pe_tup (pa_cons (pe_lst pa_nil) (pa_cons pe_str (pa_cons (pv 1) pa_nil)))) (pa_cons (pe_tup (pa_cons (pe_lst (pa_cons pe_str pa_nil)) (pa_cons pe_non (pa_cons pe_str pa_nil)))) pa_nil)))))) (pss_cons (ps_set (i := 4) sc_law_states_right.nd rfl (Or.inl rfl) (pe_op (oAdd : OpR _ _ (J.rAdd K)) (pv 4) (pe_lst (pa_cons (pe_tup (pa_cons (pe_ix (ix_seq : IxR _ (rIx K)) (pv 2) pe_int (fun _ _ => rfl)) (pa_cons pe_non (pa_cons pe_non pa_nil)))) (pa_cons (pe_tup (pa_cons (pe_ix (ix_seq : IxR _ (rIx K)) (pv 2) pe_int (fun _ _ => rfl)) (pa_cons pe_non (pa_cons pe_int pa_nil)))) (pa_cons (pe_tup (pa_cons (pe_ix (ix_seq : IxR _ (rIx K)) (pv 2) pe_int (fun _ _ => rfl)) (pa_cons pe_str (pa_cons pe_str pa_nil)))) pa_nil)))))) (pss_cons (ps_set (i := 3) sc_law_states_right.nd rfl (Or.inl rfl) (pe_call G_law_pick (hr.mono (by decide)) rfl D_law_pick.gl D_law_pick.fn.kp D_law_pick.bd .nil pass0 (pa_cons (pv 0) (pa_cons (pe_op (oAdd : OpR _ _ (J.rAdd K)) (pe_lst (pa_cons (pv 3) (pa_cons (pv 3) (pa_cons (pv 3) pa_nil)))) (pv 4)) pa_nil)))) (pss_cons (ps_if (PW.pt (pw_or (pt_not (pt_val (pe_callG G_law_right hg (hr.mono (by decide)) rfl D_law_right.gl D_law_right.fn.kp D_law_right.bd .nil pass0 (pa_cons pe_int (pa_cons (pv 3) (pa_cons pe_str (pa_cons (pe_lst (pa_cons pe_str (pa_cons (pv 3) pa_nil))) pa_nil))))))) (pw_or1 (pt_not (pt_val (pe_callG G_law_right hg (hr.mono (by decide)) rfl D_law_right.gl D_law_right.fn.kp D_law_right.bd .nil pass0 (pa_cons pe_int (pa_cons (pv 3) (pa_cons pe_non (pa_cons (pe_lst (pa_cons pe_str (pa_cons (pv 3) pa_nil))) pa_nil)))))))))) (pss_one (ps_ret pe_bl)) pss_nil) (pss_cons (ps_set (i := 5) sc_law_states_right.nd rfl (Or.inl rfl) (pe_call G_law_pick (hr.mono (by decide)) rfl D_law_pick.gl D_law_pick.fn.kp D_law_pick.bd .nil pass0 (pa_cons (pv 0) (pa_cons (pe_lst (pa_cons pe_str (pa_cons pe_str (pa_cons pe_str (pa_cons pe_str (pa_cons pe_str (pa_cons pe_non (pa_cons pe_int (pa_cons (pe_lst (pa_cons pe_str pa_nil)) (pa_cons (pe_op (oAdd : OpR _ _ (J.rAdd K)) pe_str (pe_op oMul pe_str pe_int)) (pa_cons (pe_tup (pa_cons pe_str pa_nil)) (pa_cons pe_str (pa_cons pe_str pa_nil))))))))))))) pa_nil)))) (pss_cons (ps_if (pt_not (pt_val (pe_callG G_law_right hg (hr.mono (by decide)) rfl D_law_right.gl D_law_right.fn.kp D_law_right.bd .nil pass0 (pa_cons pe_int (pa_cons (pv 2) (pa_cons (pv 5) (pa_cons (pe_lst (pa_cons pe_str (pa_cons (pv 5) pa_nil))) pa_nil))))))) (pss_one (ps_ret pe_bl)) pss_nil) (pss_cons (ps_set (i := 6) sc_law_states_right.nd rfl (Or.inl rfl) (pe_tup (pa_cons (pe_ix (ix_seq : IxR _ (rIx K)) (pv 2) pe_int (fun _ _ => rfl)) (pa_cons pe_non (pa_cons pe_str pa_nil))))) (pss_cons (ps_if (PW.pt (pw_or (pt_not (pt_val (pe_callG G_law_right hg (hr.mono (by decide)) rfl D_law_right.gl D_law_right.fn.kp D_law_right.bd .nil pass0 (pa_cons pe_int (pa_cons (pv 6) (pa_cons (pe_op oMul pe_str pe_int) (pa_cons (pe_lst (pa_cons pe_str (pa_cons (pe_op oMul pe_str pe_int) pa_nil))) pa_nil))))))) (pw_or1 (pt_not (pt_val (pe_callG G_law_right hg (hr.mono (by decide)) rfl D_law_right.gl D_law_right.fn.kp D_law_right.bd .nil pass0 (pa_cons pe_int (pa_cons (pv 6) (pa_cons pe_non (pa_cons (pe_lst (pa_cons pe_str (pa_cons pe_non pa_nil))) pa_nil)))))))))) (pss_one (ps_ret pe_bl)) pss_nil) (pss_one (ps_ret (pe_and (pe_cmpR ((op_eqA hr.units) : OpR _ _ (rEqA K)) (pe_call G_law_told (hr.mono (by decide)) rfl D_law_told.gl D_law_told.fn.kp D_law_told.bd .nil pass0 (pa_cons pe_int (pa_cons (pv 2) (pa_cons pe_str pa_nil)))) (pe_lst (pa_cons pe_str (pa_cons pe_non pa_nil))) (nomark _)) (pe_one (pe_cmpR ((op_eqA hr.units) : OpR _ _ (rEqA K)) (pe_call G_law_told (hr.mono (by decide)) rfl D_law_told.gl D_law_told.fn.kp D_law_told.bd .nil pass0 (pa_cons pe_int (pa_cons (pv 6) (pa_cons pe_str pa_nil)))) (pe_lst (pa_cons pe_str (pa_cons pe_non pa_nil))) (nomark _)))))))))))))))))))), ?_⟩
    have kp0 : Keep b H H := Keep.refl b H
    walk_at "g"
    refine ⟨show 3 ≤ sizeLine by decide, fun p1 hp1 => ?_⟩
    have tt : Same H (upd H p1 (.lst [V.str "", V.str "'", V.str "\""])) := (Same.refl H).at hp1 _
    have e1 : (upd H p1 (.lst [V.str "", V.str "'", V.str "\""])) p1 = some (.lst [V.str "", V.str "'", V.str "\""]) := upd_same
    have o1 : p1 ≠ b := fun h => by subst h; exact absurd hp1 (by obtain ⟨_, _, _, e, _⟩ := hb; rw [e]; exact fun e => nomatch e)
    replace hb := hb.new (o := .lst [V.str "", V.str "'", V.str "\""]) hp1
    replace kp0 := kp0.trans (Keep.same tt)
    generalize (upd H p1 (.lst [V.str "", V.str "'", V.str "\""])) = A1 at tt hb kp0 e1 ⊢
    clear tt hp1
    walk_at "g"
    refine ⟨b, _, hb, by omega, .inr ⟨p1, _, rfl, o1, SqL.of e1, show 0 < 3 by decide, show 3 ≤ 1000 by decide, fun vq A2 hv kk hb => ?_⟩⟩
    replace e1 := kk _ _ e1 o1
    replace kp0 := kp0.trans kk
    obtain ⟨q, rfl, hq⟩ : ∃ q : Str, vq = .str q ∧ q ∈ quos := by
      rcases List.mem_cons.mp hv with rfl | hv  -- own
      · exact ⟨_, rfl, by decide⟩
      rcases List.mem_cons.mp hv with rfl | hv  -- own
      · exact ⟨_, rfl, by decide⟩
      rcases List.mem_cons.mp hv with rfl | hv  -- own
      · exact ⟨_, rfl, by decide⟩
      · exact (List.not_mem_nil hv).elim
    clear hv kk
    walk_at "g"
    refine ⟨show 1 ≤ sizeLine by decide, fun p2 hp2 => ?_⟩
    have tt : Same A2 (upd A2 p2 (.lst [V.str "a"])) := (Same.refl A2).at hp2 _
    have e2 : (upd A2 p2 (.lst [V.str "a"])) p2 = some (.lst [V.str "a"]) := upd_same
    have o2 : p2 ≠ b := fun h => by subst h; exact absurd hp2 (by obtain ⟨_, _, _, e, _⟩ := hb; rw [e]; exact fun e => nomatch e)
    replace hb := hb.new (o := .lst [V.str "a"]) hp2
    replace kp0 := kp0.trans (Keep.same tt)
    generalize (upd A2 p2 (.lst [V.str "a"])) = A3 at tt hb kp0 e2 ⊢
    clear tt hp2
    walk_at "g"
    refine ⟨b, 41, _, rfl, hb, by omega, by decide, by decide, fun i A4 i0 i1 kk hb => ?_⟩
    obtain ⟨m, rfl, hm⟩ : ∃ m : Nat, i = m ∧ m < 41 := ⟨i.toNat, by omega, by omega⟩
    replace e2 := kk _ _ e2 o2
    replace kp0 := kp0.trans kk
    clear kk i0 i1
    walk_at "g"
    refine .inr (.inr ⟨_, _, _, rfl, rfl, e2, by omega, by omega, show 1 * m ≤ 16777216 by omega, fun p3 hp3 => ?_⟩)
    have tt : Same A4 (upd A4 p3 (.lst (List.replicate (Int.toNat (m : Nat)) [V.str "a"]).flatten)) := (Same.refl A4).at hp3 _
    have e3 : (upd A4 p3 (.lst (List.replicate (Int.toNat (m : Nat)) [V.str "a"]).flatten)) p3 = some (.lst (List.replicate (Int.toNat (m : Nat)) [V.str "a"]).flatten) := upd_same
    have o3 : p3 ≠ b := fun h => by subst h; exact absurd hp3 (by obtain ⟨_, _, _, e, _⟩ := hb; rw [e]; exact fun e => nomatch e)
    replace hb := hb.new (o := .lst (List.replicate (Int.toNat (m : Nat)) [V.str "a"]).flatten) hp3
    replace kp0 := kp0.trans (Keep.same tt)
    replace e2 := tt _ _ e2
    generalize (upd A4 p3 (.lst (List.replicate (Int.toNat (m : Nat)) [V.str "a"]).flatten)) = A5 at tt hb kp0 e2 e3 ⊢
    clear tt hp3
    walk_at "g"
    refine ⟨show 3 ≤ sizeLine by decide, fun p4 hp4 => ?_⟩
    have tt : Same A5 (upd A5 p4 (.tup [V.ref p3, V.str "be", V.str q])) := (Same.refl A5).at hp4 _
    have e4 : (upd A5 p4 (.tup [V.ref p3, V.str "be", V.str q])) p4 = some (.tup [V.ref p3, V.str "be", V.str q]) := upd_same
    have o4 : p4 ≠ b := fun h => by subst h; exact absurd hp4 (by obtain ⟨_, _, _, e, _⟩ := hb; rw [e]; exact fun e => nomatch e)
    have g4 : p4 ≠ p3 := fun h => by subst h; exact absurd hp4 (by rw [e3]; exact fun e => nomatch e)
    replace hb := hb.new (o := .tup [V.ref p3, V.str "be", V.str q]) hp4
    replace kp0 := kp0.trans (Keep.same tt)
    replace e3 := tt _ _ e3
    generalize (upd A5 p4 (.tup [V.ref p3, V.str "be", V.str q])) = A6 at tt hb kp0 e3 e4 ⊢
    clear tt hp4
    walk_at "g"
    have st : ∀ (A : Hp) (z : Str), decide (z.length ≤ 4000 ∧ ∀ c ∈ cd z, c ≤ 126) = true → De (fun p => p = b) A (.str z) (.str z) := fun A z h => .str z (of_decide_eq_true h).1 (of_decide_eq_true h).2
    have sq : ∀ A, De (fun p => p = b) A (.str q) (.str q) := fun A => st A q ((show ∀ q ∈ quos, decide (q.length ≤ 4000 ∧ ∀ c ∈ cd q, c ≤ 126) = true by decide +kernel) q hq)
    have sg : ∀ (B : Addr → Prop) A, De B A (.str q) (.str q) := fun B A => (sq A).apart' rfl
    have sb : ∀ A, De (fun p => p = b) A (.str (Txt.mul "b" 41)) (.str (mulT 41 98)) := fun A => by
      rw [show Txt.mul (Str.ofString "b") 41 = mulT 41 98 by decide +kernel]; exact st A _ (by decide +kernel)
    have sc : ∀ A, De (fun p => p = b) A (.str (Txt.mul "c" 41)) (.str (mulT 41 99)) := fun A => by
      rw [show Txt.mul (Str.ofString "c") 41 = mulT 41 99 by decide +kernel]; exact st A _ (by decide +kernel)
    have bad : ∀ (i : Nat) d, (badL m q)[i]? = some d → Bad d := fun i d h => bads m hm q hq d (List.mem_of_getElem? h)
    refine r_ixT (SqT.of e4) rfl ?_
    walk_at "g"
    refine ⟨show 2 ≤ sizeLine by decide, fun p5 hp5 => ?_⟩
    have tt : Same A6 (upd A6 p5 (.tup [V.ref p3, V.str "be"])) := (Same.refl A6).at hp5 _
    have e5 : (upd A6 p5 (.tup [V.ref p3, V.str "be"])) p5 = some (.tup [V.ref p3, V.str "be"]) := upd_same
    have o5 : p5 ≠ b := fun h => by subst h; exact absurd hp5 (by obtain ⟨_, _, _, e, _⟩ := hb; rw [e]; exact fun e => nomatch e)
    have g5 : p5 ≠ p3 := fun h => by subst h; exact absurd hp5 (by rw [e3]; exact fun e => nomatch e)
    replace hb := hb.new (o := .tup [V.ref p3, V.str "be"]) hp5
    replace kp0 := kp0.trans (Keep.same tt)
    replace e3 := tt _ _ e3
    replace e4 := tt _ _ e4
    generalize (upd A6 p5 (.tup [V.ref p3, V.str "be"])) = A7 at tt hb kp0 e3 e4 e5 ⊢
    clear tt hp5
    walk_at "g"
    refine ⟨show 1 ≤ sizeLine by decide, fun p6 hp6 => ?_⟩
    have tt : Same A7 (upd A7 p6 (.tup [V.str ""])) := (Same.refl A7).at hp6 _
    have e6 : (upd A7 p6 (.tup [V.str ""])) p6 = some (.tup [V.str ""]) := upd_same
    have o6 : p6 ≠ b := fun h => by subst h; exact absurd hp6 (by obtain ⟨_, _, _, e, _⟩ := hb; rw [e]; exact fun e => nomatch e)
    have g6 : p6 ≠ p3 := fun h => by subst h; exact absurd hp6 (by rw [e3]; exact fun e => nomatch e)
    replace hb := hb.new (o := .tup [V.str ""]) hp6
    replace kp0 := kp0.trans (Keep.same tt)
    replace e3 := tt _ _ e3
    replace e4 := tt _ _ e4
    replace e5 := tt _ _ e5
    generalize (upd A7 p6 (.tup [V.str ""])) = A8 at tt hb kp0 e3 e4 e5 e6 ⊢
    clear tt hp6
    walk_at "g"
    refine r_catTu e4 e6 (show 3 + 1 ≤ 100000 by decide) fun p7 A9 tt e7 hbx => ?_
    replace hb := hbx _ _ hb
    have o7 : p7 ≠ b := fun h => by subst h; obtain ⟨_, _, _, e, _⟩ := hb; cases e.symm.trans e7
    replace e3 := tt _ _ e3
    replace e4 := tt _ _ e4
    replace e5 := tt _ _ e5
    replace e6 := tt _ _ e6
    have g7 : p7 ≠ p3 := fun h => by subst h; cases e3.symm.trans e7
    replace kp0 := kp0.trans (Keep.same tt)
    clear tt hbx
    walk_at "g"
    refine r_ixT (SqT.of e4) rfl ?_
    walk_at "g"
    refine ⟨show 3 ≤ sizeLine by decide, fun p8 hp8 => ?_⟩
    have tt : Same A9 (upd A9 p8 (.lst [V.ref p3, V.str "be", V.str q])) := (Same.refl A9).at hp8 _
    have e8 : (upd A9 p8 (.lst [V.ref p3, V.str "be", V.str q])) p8 = some (.lst [V.ref p3, V.str "be", V.str q]) := upd_same
    have o8 : p8 ≠ b := fun h => by subst h; exact absurd hp8 (by obtain ⟨_, _, _, e, _⟩ := hb; rw [e]; exact fun e => nomatch e)
    have g8 : p8 ≠ p3 := fun h => by subst h; exact absurd hp8 (by rw [e3]; exact fun e => nomatch e)
    have n8 : H p8 = none := kp0.free o8 hp8
    replace hb := hb.new (o := .lst [V.ref p3, V.str "be", V.str q]) hp8
    replace kp0 := kp0.trans (Keep.same tt)
    replace e3 := tt _ _ e3
    replace e4 := tt _ _ e4
    replace e5 := tt _ _ e5
    replace e6 := tt _ _ e6
    replace e7 := tt _ _ e7
    generalize (upd A9 p8 (.lst [V.ref p3, V.str "be", V.str q])) = A10 at tt hb kp0 e3 e4 e5 e6 e7 e8 ⊢
    clear tt hp8
    walk_at "g"
    refine ⟨show 3 ≤ sizeLine by decide, fun p9 hp9 => ?_⟩
    have tt : Same A10 (upd A10 p9 (.tup [V.str "ab", V.str "be", V.str q])) := (Same.refl A10).at hp9 _
    have e9 : (upd A10 p9 (.tup [V.str "ab", V.str "be", V.str q])) p9 = some (.tup [V.str "ab", V.str "be", V.str q]) := upd_same
    have o9 : p9 ≠ b := fun h => by subst h; exact absurd hp9 (by obtain ⟨_, _, _, e, _⟩ := hb; rw [e]; exact fun e => nomatch e)
    have g9 : p9 ≠ p3 := fun h => by subst h; exact absurd hp9 (by rw [e3]; exact fun e => nomatch e)
    replace hb := hb.new (o := .tup [V.str "ab", V.str "be", V.str q]) hp9
    replace kp0 := kp0.trans (Keep.same tt)
    replace e3 := tt _ _ e3
    replace e4 := tt _ _ e4
    replace e5 := tt _ _ e5
    replace e6 := tt _ _ e6
    replace e7 := tt _ _ e7
    replace e8 := tt _ _ e8
    generalize (upd A10 p9 (.tup [V.str "ab", V.str "be", V.str q])) = A11 at tt hb kp0 e3 e4 e5 e6 e7 e8 e9 ⊢
    clear tt hp9
    walk_at "g"
    refine r_ixT (SqT.of e4) rfl ?_
    walk_at "g"
    refine ⟨show 3 ≤ sizeLine by decide, fun p10 hp10 => ?_⟩
    have tt : Same A11 (upd A11 p10 (.tup [V.ref p3, V.int 7, V.str q])) := (Same.refl A11).at hp10 _
    have e10 : (upd A11 p10 (.tup [V.ref p3, V.int 7, V.str q])) p10 = some (.tup [V.ref p3, V.int 7, V.str q]) := upd_same
    have o10 : p10 ≠ b := fun h => by subst h; exact absurd hp10 (by obtain ⟨_, _, _, e, _⟩ := hb; rw [e]; exact fun e => nomatch e)
    have g10 : p10 ≠ p3 := fun h => by subst h; exact absurd hp10 (by rw [e3]; exact fun e => nomatch e)
    replace hb := hb.new (o := .tup [V.ref p3, V.int 7, V.str q]) hp10
    replace kp0 := kp0.trans (Keep.same tt)
    replace e3 := tt _ _ e3
    replace e4 := tt _ _ e4
    replace e5 := tt _ _ e5
    replace e6 := tt _ _ e6
    replace e7 := tt _ _ e7
    replace e8 := tt _ _ e8
    replace e9 := tt _ _ e9
    generalize (upd A11 p10 (.tup [V.ref p3, V.int 7, V.str q])) = A12 at tt hb kp0 e3 e4 e5 e6 e7 e8 e9 e10 ⊢
    clear tt hp10
    walk_at "g"
    refine ⟨show 5 ≤ sizeLine by decide, fun p11 hp11 => ?_⟩
    have tt : Same A12 (upd A12 p11 (.lst [V.ref p5, V.ref p7, V.ref p8, V.ref p9, V.ref p10])) := (Same.refl A12).at hp11 _
    have e11 : (upd A12 p11 (.lst [V.ref p5, V.ref p7, V.ref p8, V.ref p9, V.ref p10])) p11 = some (.lst [V.ref p5, V.ref p7, V.ref p8, V.ref p9, V.ref p10]) := upd_same
    have o11 : p11 ≠ b := fun h => by subst h; exact absurd hp11 (by obtain ⟨_, _, _, e, _⟩ := hb; rw [e]; exact fun e => nomatch e)
    have g11 : p11 ≠ p3 := fun h => by subst h; exact absurd hp11 (by rw [e3]; exact fun e => nomatch e)
    replace hb := hb.new (o := .lst [V.ref p5, V.ref p7, V.ref p8, V.ref p9, V.ref p10]) hp11
    replace kp0 := kp0.trans (Keep.same tt)
    replace e3 := tt _ _ e3
    replace e4 := tt _ _ e4
    replace e5 := tt _ _ e5
    replace e6 := tt _ _ e6
    replace e7 := tt _ _ e7
    replace e8 := tt _ _ e8
    replace e9 := tt _ _ e9
    replace e10 := tt _ _ e10
    generalize (upd A12 p11 (.lst [V.ref p5, V.ref p7, V.ref p8, V.ref p9, V.ref p10])) = A13 at tt hb kp0 e3 e4 e5 e6 e7 e8 e9 e10 e11 ⊢
    clear tt hp11
    walk_at "g"
    have cs : ∀ v ∈ [V.ref p5, V.ref p7, V.ref p8, V.ref p9, V.ref p10], Cand H b p3 A13 v := List.forall_mem_cons.mpr ⟨⟨fun h => g5 (V.ref.inj h), fun a e => .inr ⟨_, V.ref.inj e ▸ e5⟩, _, bad 0 _ rfl, .tup e5 o5 (.cons (.lst e3 o3 (reps (by decide +kernel) (by decide +kernel) m)) (.cons (st _ _ (by decide +kernel)) .nil))⟩, List.forall_mem_cons.mpr ⟨⟨fun h => g7 (V.ref.inj h), fun a e => .inr ⟨_, V.ref.inj e ▸ e7⟩, _, bad 1 _ rfl, .tup e7 o7 (.cons (.lst e3 o3 (reps (by decide +kernel) (by decide +kernel) m)) (.cons (st _ _ (by decide +kernel)) (.cons (sq _) (.cons (st _ _ (by decide +kernel)) .nil))))⟩, List.forall_mem_cons.mpr ⟨⟨fun h => g8 (V.ref.inj h), fun a e => .inl (V.ref.inj e ▸ n8), _, bad 2 _ rfl, .lst e8 o8 (.cons (.lst e3 o3 (reps (by decide +kernel) (by decide +kernel) m)) (.cons (st _ _ (by decide +kernel)) (.cons (sq _) .nil)))⟩, List.forall_mem_cons.mpr ⟨⟨fun h => g9 (V.ref.inj h), fun a e => .inr ⟨_, V.ref.inj e ▸ e9⟩, _, bad 3 _ rfl, .tup e9 o9 (.cons (st _ _ (by decide +kernel)) (.cons (st _ _ (by decide +kernel)) (.cons (sq _) .nil)))⟩, List.forall_mem_cons.mpr ⟨⟨fun h => g10 (V.ref.inj h), fun a e => .inr ⟨_, V.ref.inj e ▸ e10⟩, _, bad 4 _ rfl, .tup e10 o10 (.cons (.lst e3 o3 (reps (by decide +kernel) (by decide +kernel) m)) (.cons (.int _ (by decide)) (.cons (sq _) .nil)))⟩, fun _ h => (List.not_mem_nil h).elim⟩⟩⟩⟩⟩
    refine ⟨b, _, hb, by omega, .inr ⟨p11, _, rfl, o11, SqL.of e11, show 0 < 5 by decide, show 5 ≤ 1000 by decide, fun x1 A14 hv kk hb => ?_⟩⟩
    replace e3 := kk _ _ e3 o3
    replace e4 := kk _ _ e4 o4
    replace e5 := kk _ _ e5 o5
    replace e6 := kk _ _ e6 o6
    replace e7 := kk _ _ e7 o7
    replace e8 := kk _ _ e8 o8
    replace e9 := kk _ _ e9 o9
    replace e10 := kk _ _ e10 o10
    replace e11 := kk _ _ e11 o11
    replace kp0 := kp0.trans kk
    have c_x1 := (cs x1 hv).keep kk
    clear cs hv kk
    walk_at "g"
    refine ⟨show 1 ≤ sizeLine by decide, fun p12 hp12 => ?_⟩
    have tt : Same A14 (upd A14 p12 (.lst [V.str "a"])) := (Same.refl A14).at hp12 _
    have e12 : (upd A14 p12 (.lst [V.str "a"])) p12 = some (.lst [V.str "a"]) := upd_same
    have o12 : p12 ≠ b := fun h => by subst h; exact absurd hp12 (by obtain ⟨_, _, _, e, _⟩ := hb; rw [e]; exact fun e => nomatch e)
    have g12 : p12 ≠ p3 := fun h => by subst h; exact absurd hp12 (by rw [e3]; exact fun e => nomatch e)
    replace hb := hb.new (o := .lst [V.str "a"]) hp12
    replace kp0 := kp0.trans (Keep.same tt)
    replace c_x1 := c_x1.keep (Keep.same tt)
    replace e3 := tt _ _ e3
    replace e4 := tt _ _ e4
    generalize (upd A14 p12 (.lst [V.str "a"])) = A15 at tt hb kp0 e3 e4 e12 c_x1 ⊢
    clear tt hp12
    walk_at "g"
    refine .inr (.inr ⟨_, _, _, rfl, rfl, e12, by decide, by decide, by decide, fun p13 hp13 => ?_⟩)
    have tt : Same A15 (upd A15 p13 (.lst (List.replicate (Int.toNat 41) [V.str "a"]).flatten)) := (Same.refl A15).at hp13 _
    have e13 : (upd A15 p13 (.lst (List.replicate (Int.toNat 41) [V.str "a"]).flatten)) p13 = some (.lst (List.replicate (Int.toNat 41) [V.str "a"]).flatten) := upd_same
    have o13 : p13 ≠ b := fun h => by subst h; exact absurd hp13 (by obtain ⟨_, _, _, e, _⟩ := hb; rw [e]; exact fun e => nomatch e)
    have g13 : p13 ≠ p3 := fun h => by subst h; exact absurd hp13 (by rw [e3]; exact fun e => nomatch e)
    replace hb := hb.new (o := .lst (List.replicate (Int.toNat 41) [V.str "a"]).flatten) hp13
    replace kp0 := kp0.trans (Keep.same tt)
    replace c_x1 := c_x1.keep (Keep.same tt)
    replace e3 := tt _ _ e3
    replace e4 := tt _ _ e4
    replace e12 := tt _ _ e12
    generalize (upd A15 p13 (.lst (List.replicate (Int.toNat 41) [V.str "a"]).flatten)) = A16 at tt hb kp0 e3 e4 e12 e13 c_x1 ⊢
    clear tt hp13
    walk_at "g"
    refine ⟨show 3 ≤ sizeLine by decide, fun p14 hp14 => ?_⟩
    have tt : Same A16 (upd A16 p14 (.tup [V.ref p13, V.str "be", V.str q])) := (Same.refl A16).at hp14 _
    have e14 : (upd A16 p14 (.tup [V.ref p13, V.str "be", V.str q])) p14 = some (.tup [V.ref p13, V.str "be", V.str q]) := upd_same
    have o14 : p14 ≠ b := fun h => by subst h; exact absurd hp14 (by obtain ⟨_, _, _, e, _⟩ := hb; rw [e]; exact fun e => nomatch e)
    have g14 : p14 ≠ p3 := fun h => by subst h; exact absurd hp14 (by rw [e3]; exact fun e => nomatch e)
    replace hb := hb.new (o := .tup [V.ref p13, V.str "be", V.str q]) hp14
    replace kp0 := kp0.trans (Keep.same tt)
    replace c_x1 := c_x1.keep (Keep.same tt)
    replace e3 := tt _ _ e3
    replace e4 := tt _ _ e4
    replace e12 := tt _ _ e12
    replace e13 := tt _ _ e13
    generalize (upd A16 p14 (.tup [V.ref p13, V.str "be", V.str q])) = A17 at tt hb kp0 e3 e4 e12 e13 e14 c_x1 ⊢
    clear tt hp14
    walk_at "g"
    refine r_mulS (mul_ok (n := 41) (show (Str.ofString "b").length ≤ 1000 by decide +kernel) (by decide)) ?_
    walk_at "g"
    refine ⟨show 2 ≤ sizeLine by decide, fun p15 hp15 => ?_⟩
    have tt : Same A17 (upd A17 p15 (.lst [V.str "a", V.str (Txt.mul "b" 41)])) := (Same.refl A17).at hp15 _
    have e15 : (upd A17 p15 (.lst [V.str "a", V.str (Txt.mul "b" 41)])) p15 = some (.lst [V.str "a", V.str (Txt.mul "b" 41)]) := upd_same
    have o15 : p15 ≠ b := fun h => by subst h; exact absurd hp15 (by obtain ⟨_, _, _, e, _⟩ := hb; rw [e]; exact fun e => nomatch e)
    have g15 : p15 ≠ p3 := fun h => by subst h; exact absurd hp15 (by rw [e3]; exact fun e => nomatch e)
    replace hb := hb.new (o := .lst [V.str "a", V.str (Txt.mul "b" 41)]) hp15
    replace kp0 := kp0.trans (Keep.same tt)
    replace c_x1 := c_x1.keep (Keep.same tt)
    replace e3 := tt _ _ e3
    replace e4 := tt _ _ e4
    replace e12 := tt _ _ e12
    replace e13 := tt _ _ e13
    replace e14 := tt _ _ e14
    generalize (upd A17 p15 (.lst [V.str "a", V.str (Txt.mul "b" 41)])) = A18 at tt hb kp0 e3 e4 e12 e13 e14 e15 c_x1 ⊢
    clear tt hp15
    walk_at "g"
    refine ⟨show 3 ≤ sizeLine by decide, fun p16 hp16 => ?_⟩
    have tt : Same A18 (upd A18 p16 (.tup [V.ref p15, V.non, V.str ""])) := (Same.refl A18).at hp16 _
    have e16 : (upd A18 p16 (.tup [V.ref p15, V.non, V.str ""])) p16 = some (.tup [V.ref p15, V.non, V.str ""]) := upd_same
    have o16 : p16 ≠ b := fun h => by subst h; exact absurd hp16 (by obtain ⟨_, _, _, e, _⟩ := hb; rw [e]; exact fun e => nomatch e)
    have g16 : p16 ≠ p3 := fun h => by subst h; exact absurd hp16 (by rw [e3]; exact fun e => nomatch e)
    replace hb := hb.new (o := .tup [V.ref p15, V.non, V.str ""]) hp16
    replace kp0 := kp0.trans (Keep.same tt)
    replace c_x1 := c_x1.keep (Keep.same tt)
    replace e3 := tt _ _ e3
    replace e4 := tt _ _ e4
    replace e12 := tt _ _ e12
    replace e13 := tt _ _ e13
    replace e14 := tt _ _ e14
    replace e15 := tt _ _ e15
    generalize (upd A18 p16 (.tup [V.ref p15, V.non, V.str ""])) = A19 at tt hb kp0 e3 e4 e12 e13 e14 e15 e16 c_x1 ⊢
    clear tt hp16
    walk_at "g"
    refine ⟨show 1 ≤ sizeLine by decide, fun p17 hp17 => ?_⟩
    have tt : Same A19 (upd A19 p17 (.lst [V.str "a"])) := (Same.refl A19).at hp17 _
    have e17 : (upd A19 p17 (.lst [V.str "a"])) p17 = some (.lst [V.str "a"]) := upd_same
    have o17 : p17 ≠ b := fun h => by subst h; exact absurd hp17 (by obtain ⟨_, _, _, e, _⟩ := hb; rw [e]; exact fun e => nomatch e)
    have g17 : p17 ≠ p3 := fun h => by subst h; exact absurd hp17 (by rw [e3]; exact fun e => nomatch e)
    replace hb := hb.new (o := .lst [V.str "a"]) hp17
    replace kp0 := kp0.trans (Keep.same tt)
    replace c_x1 := c_x1.keep (Keep.same tt)
    replace e3 := tt _ _ e3
    replace e4 := tt _ _ e4
    replace e12 := tt _ _ e12
    replace e13 := tt _ _ e13
    replace e14 := tt _ _ e14
    replace e15 := tt _ _ e15
    replace e16 := tt _ _ e16
    generalize (upd A19 p17 (.lst [V.str "a"])) = A20 at tt hb kp0 e3 e4 e12 e13 e14 e15 e16 e17 c_x1 ⊢
    clear tt hp17
    walk_at "g"
    refine r_mulS (mul_ok (n := 41) (show (Str.ofString "c").length ≤ 1000 by decide +kernel) (by decide)) ?_
    walk_at "g"
    refine ⟨show 3 ≤ sizeLine by decide, fun p18 hp18 => ?_⟩
    have tt : Same A20 (upd A20 p18 (.tup [V.ref p17, V.str (Txt.mul "c" 41), V.str q])) := (Same.refl A20).at hp18 _
    have e18 : (upd A20 p18 (.tup [V.ref p17, V.str (Txt.mul "c" 41), V.str q])) p18 = some (.tup [V.ref p17, V.str (Txt.mul "c" 41), V.str q]) := upd_same
    have o18 : p18 ≠ b := fun h => by subst h; exact absurd hp18 (by obtain ⟨_, _, _, e, _⟩ := hb; rw [e]; exact fun e => nomatch e)
    have g18 : p18 ≠ p3 := fun h => by subst h; exact absurd hp18 (by rw [e3]; exact fun e => nomatch e)
    replace hb := hb.new (o := .tup [V.ref p17, V.str (Txt.mul "c" 41), V.str q]) hp18
    replace kp0 := kp0.trans (Keep.same tt)
    replace c_x1 := c_x1.keep (Keep.same tt)
    replace e3 := tt _ _ e3
    replace e4 := tt _ _ e4
    replace e12 := tt _ _ e12
    replace e13 := tt _ _ e13
    replace e14 := tt _ _ e14
    replace e15 := tt _ _ e15
    replace e16 := tt _ _ e16
    replace e17 := tt _ _ e17
    generalize (upd A20 p18 (.tup [V.ref p17, V.str (Txt.mul "c" 41), V.str q])) = A21 at tt hb kp0 e3 e4 e12 e13 e14 e15 e16 e17 e18 c_x1 ⊢
    clear tt hp18
    walk_at "g"
    refine ⟨show 4 ≤ sizeLine by decide, fun p19 hp19 => ?_⟩
    have tt : Same A21 (upd A21 p19 (.lst [x1, V.ref p14, V.ref p16, V.ref p18])) := (Same.refl A21).at hp19 _
    have e19 : (upd A21 p19 (.lst [x1, V.ref p14, V.ref p16, V.ref p18])) p19 = some (.lst [x1, V.ref p14, V.ref p16, V.ref p18]) := upd_same
    have o19 : p19 ≠ b := fun h => by subst h; exact absurd hp19 (by obtain ⟨_, _, _, e, _⟩ := hb; rw [e]; exact fun e => nomatch e)
    have g19 : p19 ≠ p3 := fun h => by subst h; exact absurd hp19 (by rw [e3]; exact fun e => nomatch e)
    replace hb := hb.new (o := .lst [x1, V.ref p14, V.ref p16, V.ref p18]) hp19
    replace kp0 := kp0.trans (Keep.same tt)
    replace c_x1 := c_x1.keep (Keep.same tt)
    replace e3 := tt _ _ e3
    replace e4 := tt _ _ e4
    replace e12 := tt _ _ e12
    replace e13 := tt _ _ e13
    replace e14 := tt _ _ e14
    replace e15 := tt _ _ e15
    replace e16 := tt _ _ e16
    replace e17 := tt _ _ e17
    replace e18 := tt _ _ e18
    generalize (upd A21 p19 (.lst [x1, V.ref p14, V.ref p16, V.ref p18])) = A22 at tt hb kp0 e3 e4 e12 e13 e14 e15 e16 e17 e18 e19 c_x1 ⊢
    clear tt hp19
    walk_at "g"
    have cs : ∀ v ∈ [x1, V.ref p14, V.ref p16, V.ref p18], Cand H b p3 A22 v := List.forall_mem_cons.mpr ⟨c_x1, List.forall_mem_cons.mpr ⟨⟨fun h => g14 (V.ref.inj h), fun a e => .inr ⟨_, V.ref.inj e ▸ e14⟩, _, bad 5 _ rfl, .tup e14 o14 (.cons (.lst e13 o13 (reps (by decide +kernel) (by decide +kernel) 41)) (.cons (st _ _ (by decide +kernel)) (.cons (sq _) .nil)))⟩, List.forall_mem_cons.mpr ⟨⟨fun h => g16 (V.ref.inj h), fun a e => .inr ⟨_, V.ref.inj e ▸ e16⟩, _, bad 6 _ rfl, .tup e16 o16 (.cons (.lst e15 o15 (.cons (st _ _ (by decide +kernel)) (.cons (sb _) .nil))) (.cons .non (.cons (st _ _ (by decide +kernel)) .nil)))⟩, List.forall_mem_cons.mpr ⟨⟨fun h => g18 (V.ref.inj h), fun a e => .inr ⟨_, V.ref.inj e ▸ e18⟩, _, bad 7 _ rfl, .tup e18 o18 (.cons (.lst e17 o17 (.cons (st _ _ (by decide +kernel)) .nil)) (.cons (sc _) (.cons (sq _) .nil)))⟩, fun _ h => (List.not_mem_nil h).elim⟩⟩⟩⟩
    refine ⟨b, _, hb, by omega, .inr ⟨p19, _, rfl, o19, SqL.of e19, show 0 < 4 by decide, show 4 ≤ 1000 by decide, fun x2 A23 hv kk hb => ?_⟩⟩
    replace e3 := kk _ _ e3 o3
    replace e4 := kk _ _ e4 o4
    replace e12 := kk _ _ e12 o12
    replace e13 := kk _ _ e13 o13
    replace e14 := kk _ _ e14 o14
    replace e15 := kk _ _ e15 o15
    replace e16 := kk _ _ e16 o16
    replace e17 := kk _ _ e17 o17
    replace e18 := kk _ _ e18 o18
    replace e19 := kk _ _ e19 o19
    replace kp0 := kp0.trans kk
    have c_x2 := (cs x2 hv).keep kk
    clear cs hv kk
    walk_at "g"
    refine r_ixT (SqT.of e4) rfl ?_
    walk_at "g"
    refine ⟨show 3 ≤ sizeLine by decide, fun p20 hp20 => ?_⟩
    have tt : Same A23 (upd A23 p20 (.tup [V.ref p3, V.non, V.str "'"])) := (Same.refl A23).at hp20 _
    have e20 : (upd A23 p20 (.tup [V.ref p3, V.non, V.str "'"])) p20 = some (.tup [V.ref p3, V.non, V.str "'"]) := upd_same
    have o20 : p20 ≠ b := fun h => by subst h; exact absurd hp20 (by obtain ⟨_, _, _, e, _⟩ := hb; rw [e]; exact fun e => nomatch e)
    have g20 : p20 ≠ p3 := fun h => by subst h; exact absurd hp20 (by rw [e3]; exact fun e => nomatch e)
    replace hb := hb.new (o := .tup [V.ref p3, V.non, V.str "'"]) hp20
    replace kp0 := kp0.trans (Keep.same tt)
    replace c_x2 := c_x2.keep (Keep.same tt)
    replace e3 := tt _ _ e3
    replace e4 := tt _ _ e4
    generalize (upd A23 p20 (.tup [V.ref p3, V.non, V.str "'"])) = A24 at tt hb kp0 e3 e4 e20 c_x2 ⊢
    clear tt hp20
    walk_at "g"
    refine r_ixT (SqT.of e4) rfl ?_
    walk_at "g"
    refine ⟨show 3 ≤ sizeLine by decide, fun p21 hp21 => ?_⟩
    have tt : Same A24 (upd A24 p21 (.tup [V.ref p3, V.str "be", V.str "\\"])) := (Same.refl A24).at hp21 _
    have e21 : (upd A24 p21 (.tup [V.ref p3, V.str "be", V.str "\\"])) p21 = some (.tup [V.ref p3, V.str "be", V.str "\\"]) := upd_same
    have o21 : p21 ≠ b := fun h => by subst h; exact absurd hp21 (by obtain ⟨_, _, _, e, _⟩ := hb; rw [e]; exact fun e => nomatch e)
    have g21 : p21 ≠ p3 := fun h => by subst h; exact absurd hp21 (by rw [e3]; exact fun e => nomatch e)
    replace hb := hb.new (o := .tup [V.ref p3, V.str "be", V.str "\\"]) hp21
    replace kp0 := kp0.trans (Keep.same tt)
    replace c_x2 := c_x2.keep (Keep.same tt)
    replace e3 := tt _ _ e3
    replace e4 := tt _ _ e4
    replace e20 := tt _ _ e20
    generalize (upd A24 p21 (.tup [V.ref p3, V.str "be", V.str "\\"])) = A25 at tt hb kp0 e3 e4 e20 e21 c_x2 ⊢
    clear tt hp21
    walk_at "g"
    refine r_ixT (SqT.of e4) rfl ?_
    walk_at "g"
    refine ⟨show 3 ≤ sizeLine by decide, fun p22 hp22 => ?_⟩
    have tt : Same A25 (upd A25 p22 (.tup [V.ref p3, V.str "be", V.non])) := (Same.refl A25).at hp22 _
    have e22 : (upd A25 p22 (.tup [V.ref p3, V.str "be", V.non])) p22 = some (.tup [V.ref p3, V.str "be", V.non]) := upd_same
    have o22 : p22 ≠ b := fun h => by subst h; exact absurd hp22 (by obtain ⟨_, _, _, e, _⟩ := hb; rw [e]; exact fun e => nomatch e)
    have g22 : p22 ≠ p3 := fun h => by subst h; exact absurd hp22 (by rw [e3]; exact fun e => nomatch e)
    replace hb := hb.new (o := .tup [V.ref p3, V.str "be", V.non]) hp22
    replace kp0 := kp0.trans (Keep.same tt)
    replace c_x2 := c_x2.keep (Keep.same tt)
    replace e3 := tt _ _ e3
    replace e4 := tt _ _ e4
    replace e20 := tt _ _ e20
    replace e21 := tt _ _ e21
    generalize (upd A25 p22 (.tup [V.ref p3, V.str "be", V.non])) = A26 at tt hb kp0 e3 e4 e20 e21 e22 c_x2 ⊢
    clear tt hp22
    walk_at "g"
    refine ⟨show 3 ≤ sizeLine by decide, fun p23 hp23 => ?_⟩
    have tt : Same A26 (upd A26 p23 (.tup [V.non, V.str "be", V.str ""])) := (Same.refl A26).at hp23 _
    have e23 : (upd A26 p23 (.tup [V.non, V.str "be", V.str ""])) p23 = some (.tup [V.non, V.str "be", V.str ""]) := upd_same
    have o23 : p23 ≠ b := fun h => by subst h; exact absurd hp23 (by obtain ⟨_, _, _, e, _⟩ := hb; rw [e]; exact fun e => nomatch e)
    have g23 : p23 ≠ p3 := fun h => by subst h; exact absurd hp23 (by rw [e3]; exact fun e => nomatch e)
    replace hb := hb.new (o := .tup [V.non, V.str "be", V.str ""]) hp23
    replace kp0 := kp0.trans (Keep.same tt)
    replace c_x2 := c_x2.keep (Keep.same tt)
    replace e3 := tt _ _ e3
    replace e4 := tt _ _ e4
    replace e20 := tt _ _ e20
    replace e21 := tt _ _ e21
    replace e22 := tt _ _ e22
    generalize (upd A26 p23 (.tup [V.non, V.str "be", V.str ""])) = A27 at tt hb kp0 e3 e4 e20 e21 e22 e23 c_x2 ⊢
    clear tt hp23
    walk_at "g"
    refine ⟨show 5 ≤ sizeLine by decide, fun p24 hp24 => ?_⟩
    have tt : Same A27 (upd A27 p24 (.lst [x2, V.ref p20, V.ref p21, V.ref p22, V.ref p23])) := (Same.refl A27).at hp24 _
    have e24 : (upd A27 p24 (.lst [x2, V.ref p20, V.ref p21, V.ref p22, V.ref p23])) p24 = some (.lst [x2, V.ref p20, V.ref p21, V.ref p22, V.ref p23]) := upd_same
    have o24 : p24 ≠ b := fun h => by subst h; exact absurd hp24 (by obtain ⟨_, _, _, e, _⟩ := hb; rw [e]; exact fun e => nomatch e)
    have g24 : p24 ≠ p3 := fun h => by subst h; exact absurd hp24 (by rw [e3]; exact fun e => nomatch e)
    replace hb := hb.new (o := .lst [x2, V.ref p20, V.ref p21, V.ref p22, V.ref p23]) hp24
    replace kp0 := kp0.trans (Keep.same tt)
    replace c_x2 := c_x2.keep (Keep.same tt)
    replace e3 := tt _ _ e3
    replace e4 := tt _ _ e4
    replace e20 := tt _ _ e20
    replace e21 := tt _ _ e21
    replace e22 := tt _ _ e22
    replace e23 := tt _ _ e23
    generalize (upd A27 p24 (.lst [x2, V.ref p20, V.ref p21, V.ref p22, V.ref p23])) = A28 at tt hb kp0 e3 e4 e20 e21 e22 e23 e24 c_x2 ⊢
    clear tt hp24
    walk_at "g"
    have cs : ∀ v ∈ [x2, V.ref p20, V.ref p21, V.ref p22, V.ref p23], Cand H b p3 A28 v := List.forall_mem_cons.mpr ⟨c_x2, List.forall_mem_cons.mpr ⟨⟨fun h => g20 (V.ref.inj h), fun a e => .inr ⟨_, V.ref.inj e ▸ e20⟩, _, bad 8 _ rfl, .tup e20 o20 (.cons (.lst e3 o3 (reps (by decide +kernel) (by decide +kernel) m)) (.cons .non (.cons (st _ _ (by decide +kernel)) .nil)))⟩, List.forall_mem_cons.mpr ⟨⟨fun h => g21 (V.ref.inj h), fun a e => .inr ⟨_, V.ref.inj e ▸ e21⟩, _, bad 9 _ rfl, .tup e21 o21 (.cons (.lst e3 o3 (reps (by decide +kernel) (by decide +kernel) m)) (.cons (st _ _ (by decide +kernel)) (.cons (st _ _ (by decide +kernel)) .nil)))⟩, List.forall_mem_cons.mpr ⟨⟨fun h => g22 (V.ref.inj h), fun a e => .inr ⟨_, V.ref.inj e ▸ e22⟩, _, bad 10 _ rfl, .tup e22 o22 (.cons (.lst e3 o3 (reps (by decide +kernel) (by decide +kernel) m)) (.cons (st _ _ (by decide +kernel)) (.cons .non .nil)))⟩, List.forall_mem_cons.mpr ⟨⟨fun h => g23 (V.ref.inj h), fun a e => .inr ⟨_, V.ref.inj e ▸ e23⟩, _, bad 11 _ rfl, .tup e23 o23 (.cons .non (.cons (st _ _ (by decide +kernel)) (.cons (st _ _ (by decide +kernel)) .nil)))⟩, fun _ h => (List.not_mem_nil h).elim⟩⟩⟩⟩⟩
    refine ⟨b, _, hb, by omega, .inr ⟨p24, _, rfl, o24, SqL.of e24, show 0 < 5 by decide, show 5 ≤ 1000 by decide, fun x3 A29 hv kk hb => ?_⟩⟩
    replace e3 := kk _ _ e3 o3
    replace e4 := kk _ _ e4 o4
    replace e20 := kk _ _ e20 o20
    replace e21 := kk _ _ e21 o21
    replace e22 := kk _ _ e22 o22
    replace e23 := kk _ _ e23 o23
    replace e24 := kk _ _ e24 o24
    replace kp0 := kp0.trans kk
    have c_x3 := (cs x3 hv).keep kk
    clear cs hv kk
    walk_at "g"
    refine ⟨show 1 ≤ sizeLine by decide, fun p25 hp25 => ?_⟩
    have tt : Same A29 (upd A29 p25 (.lst [V.str "a\nb"])) := (Same.refl A29).at hp25 _
    have e25 : (upd A29 p25 (.lst [V.str "a\nb"])) p25 = some (.lst [V.str "a\nb"]) := upd_same
    have o25 : p25 ≠ b := fun h => by subst h; exact absurd hp25 (by obtain ⟨_, _, _, e, _⟩ := hb; rw [e]; exact fun e => nomatch e)
    have g25 : p25 ≠ p3 := fun h => by subst h; exact absurd hp25 (by rw [e3]; exact fun e => nomatch e)
    replace hb := hb.new (o := .lst [V.str "a\nb"]) hp25
    replace kp0 := kp0.trans (Keep.same tt)
    replace c_x3 := c_x3.keep (Keep.same tt)
    replace e3 := tt _ _ e3
    replace e4 := tt _ _ e4
    generalize (upd A29 p25 (.lst [V.str "a\nb"])) = A30 at tt hb kp0 e3 e4 e25 c_x3 ⊢
    clear tt hp25
    walk_at "g"
    refine ⟨show 3 ≤ sizeLine by decide, fun p26 hp26 => ?_⟩
    have tt : Same A30 (upd A30 p26 (.tup [V.ref p25, V.str "be", V.str q])) := (Same.refl A30).at hp26 _
    have e26 : (upd A30 p26 (.tup [V.ref p25, V.str "be", V.str q])) p26 = some (.tup [V.ref p25, V.str "be", V.str q]) := upd_same
    have o26 : p26 ≠ b := fun h => by subst h; exact absurd hp26 (by obtain ⟨_, _, _, e, _⟩ := hb; rw [e]; exact fun e => nomatch e)
    have g26 : p26 ≠ p3 := fun h => by subst h; exact absurd hp26 (by rw [e3]; exact fun e => nomatch e)
    replace hb := hb.new (o := .tup [V.ref p25, V.str "be", V.str q]) hp26
    replace kp0 := kp0.trans (Keep.same tt)
    replace c_x3 := c_x3.keep (Keep.same tt)
    replace e3 := tt _ _ e3
    replace e4 := tt _ _ e4
    replace e25 := tt _ _ e25
    generalize (upd A30 p26 (.tup [V.ref p25, V.str "be", V.str q])) = A31 at tt hb kp0 e3 e4 e25 e26 c_x3 ⊢
    clear tt hp26
    walk_at "g"
    refine ⟨show 1 ≤ sizeLine by decide, fun p27 hp27 => ?_⟩
    have tt : Same A31 (upd A31 p27 (.lst [V.str "a"])) := (Same.refl A31).at hp27 _
    have e27 : (upd A31 p27 (.lst [V.str "a"])) p27 = some (.lst [V.str "a"]) := upd_same
    have o27 : p27 ≠ b := fun h => by subst h; exact absurd hp27 (by obtain ⟨_, _, _, e, _⟩ := hb; rw [e]; exact fun e => nomatch e)
    have g27 : p27 ≠ p3 := fun h => by subst h; exact absurd hp27 (by rw [e3]; exact fun e => nomatch e)
    replace hb := hb.new (o := .lst [V.str "a"]) hp27
    replace kp0 := kp0.trans (Keep.same tt)
    replace c_x3 := c_x3.keep (Keep.same tt)
    replace e3 := tt _ _ e3
    replace e4 := tt _ _ e4
    replace e25 := tt _ _ e25
    replace e26 := tt _ _ e26
    generalize (upd A31 p27 (.lst [V.str "a"])) = A32 at tt hb kp0 e3 e4 e25 e26 e27 c_x3 ⊢
    clear tt hp27
    walk_at "g"
    refine ⟨show 3 ≤ sizeLine by decide, fun p28 hp28 => ?_⟩
    have tt : Same A32 (upd A32 p28 (.tup [V.ref p27, V.str "b\te", V.str q])) := (Same.refl A32).at hp28 _
    have e28 : (upd A32 p28 (.tup [V.ref p27, V.str "b\te", V.str q])) p28 = some (.tup [V.ref p27, V.str "b\te", V.str q]) := upd_same
    have o28 : p28 ≠ b := fun h => by subst h; exact absurd hp28 (by obtain ⟨_, _, _, e, _⟩ := hb; rw [e]; exact fun e => nomatch e)
    have g28 : p28 ≠ p3 := fun h => by subst h; exact absurd hp28 (by rw [e3]; exact fun e => nomatch e)
    replace hb := hb.new (o := .tup [V.ref p27, V.str "b\te", V.str q]) hp28
    replace kp0 := kp0.trans (Keep.same tt)
    replace c_x3 := c_x3.keep (Keep.same tt)
    replace e3 := tt _ _ e3
    replace e4 := tt _ _ e4
    replace e25 := tt _ _ e25
    replace e26 := tt _ _ e26
    replace e27 := tt _ _ e27
    generalize (upd A32 p28 (.tup [V.ref p27, V.str "b\te", V.str q])) = A33 at tt hb kp0 e3 e4 e25 e26 e27 e28 c_x3 ⊢
    clear tt hp28
    walk_at "g"
    refine ⟨show 0 ≤ sizeLine by decide, fun p29 hp29 => ?_⟩
    have tt : Same A33 (upd A33 p29 (.lst [])) := (Same.refl A33).at hp29 _
    have e29 : (upd A33 p29 (.lst [])) p29 = some (.lst []) := upd_same
    have o29 : p29 ≠ b := fun h => by subst h; exact absurd hp29 (by obtain ⟨_, _, _, e, _⟩ := hb; rw [e]; exact fun e => nomatch e)
    have g29 : p29 ≠ p3 := fun h => by subst h; exact absurd hp29 (by rw [e3]; exact fun e => nomatch e)
    replace hb := hb.new (o := .lst []) hp29
    replace kp0 := kp0.trans (Keep.same tt)
    replace c_x3 := c_x3.keep (Keep.same tt)
    replace e3 := tt _ _ e3
    replace e4 := tt _ _ e4
    replace e25 := tt _ _ e25
    replace e26 := tt _ _ e26
    replace e27 := tt _ _ e27
    replace e28 := tt _ _ e28
    generalize (upd A33 p29 (.lst [])) = A34 at tt hb kp0 e3 e4 e25 e26 e27 e28 e29 c_x3 ⊢
    clear tt hp29
    walk_at "g"
    refine ⟨show 3 ≤ sizeLine by decide, fun p30 hp30 => ?_⟩
    have tt : Same A34 (upd A34 p30 (.tup [V.ref p29, V.str "be\n", V.str q])) := (Same.refl A34).at hp30 _
    have e30 : (upd A34 p30 (.tup [V.ref p29, V.str "be\n", V.str q])) p30 = some (.tup [V.ref p29, V.str "be\n", V.str q]) := upd_same
    have o30 : p30 ≠ b := fun h => by subst h; exact absurd hp30 (by obtain ⟨_, _, _, e, _⟩ := hb; rw [e]; exact fun e => nomatch e)
    have g30 : p30 ≠ p3 := fun h => by subst h; exact absurd hp30 (by rw [e3]; exact fun e => nomatch e)
    replace hb := hb.new (o := .tup [V.ref p29, V.str "be\n", V.str q]) hp30
    replace kp0 := kp0.trans (Keep.same tt)
    replace c_x3 := c_x3.keep (Keep.same tt)
    replace e3 := tt _ _ e3
    replace e4 := tt _ _ e4
    replace e25 := tt _ _ e25
    replace e26 := tt _ _ e26
    replace e27 := tt _ _ e27
    replace e28 := tt _ _ e28
    replace e29 := tt _ _ e29
    generalize (upd A34 p30 (.tup [V.ref p29, V.str "be\n", V.str q])) = A35 at tt hb kp0 e3 e4 e25 e26 e27 e28 e29 e30 c_x3 ⊢
    clear tt hp30
    walk_at "g"
    refine ⟨show 1 ≤ sizeLine by decide, fun p31 hp31 => ?_⟩
    have tt : Same A35 (upd A35 p31 (.lst [V.str "\t"])) := (Same.refl A35).at hp31 _
    have e31 : (upd A35 p31 (.lst [V.str "\t"])) p31 = some (.lst [V.str "\t"]) := upd_same
    have o31 : p31 ≠ b := fun h => by subst h; exact absurd hp31 (by obtain ⟨_, _, _, e, _⟩ := hb; rw [e]; exact fun e => nomatch e)
    have g31 : p31 ≠ p3 := fun h => by subst h; exact absurd hp31 (by rw [e3]; exact fun e => nomatch e)
    replace hb := hb.new (o := .lst [V.str "\t"]) hp31
    replace kp0 := kp0.trans (Keep.same tt)
    replace c_x3 := c_x3.keep (Keep.same tt)
    replace e3 := tt _ _ e3
    replace e4 := tt _ _ e4
    replace e25 := tt _ _ e25
    replace e26 := tt _ _ e26
    replace e27 := tt _ _ e27
    replace e28 := tt _ _ e28
    replace e29 := tt _ _ e29
    replace e30 := tt _ _ e30
    generalize (upd A35 p31 (.lst [V.str "\t"])) = A36 at tt hb kp0 e3 e4 e25 e26 e27 e28 e29 e30 e31 c_x3 ⊢
    clear tt hp31
    walk_at "g"
    refine ⟨show 3 ≤ sizeLine by decide, fun p32 hp32 => ?_⟩
    have tt : Same A36 (upd A36 p32 (.tup [V.ref p31, V.non, V.str ""])) := (Same.refl A36).at hp32 _
    have e32 : (upd A36 p32 (.tup [V.ref p31, V.non, V.str ""])) p32 = some (.tup [V.ref p31, V.non, V.str ""]) := upd_same
    have o32 : p32 ≠ b := fun h => by subst h; exact absurd hp32 (by obtain ⟨_, _, _, e, _⟩ := hb; rw [e]; exact fun e => nomatch e)
    have g32 : p32 ≠ p3 := fun h => by subst h; exact absurd hp32 (by rw [e3]; exact fun e => nomatch e)
    replace hb := hb.new (o := .tup [V.ref p31, V.non, V.str ""]) hp32
    replace kp0 := kp0.trans (Keep.same tt)
    replace c_x3 := c_x3.keep (Keep.same tt)
    replace e3 := tt _ _ e3
    replace e4 := tt _ _ e4
    replace e25 := tt _ _ e25
    replace e26 := tt _ _ e26
    replace e27 := tt _ _ e27
    replace e28 := tt _ _ e28
    replace e29 := tt _ _ e29
    replace e30 := tt _ _ e30
    replace e31 := tt _ _ e31
    generalize (upd A36 p32 (.tup [V.ref p31, V.non, V.str ""])) = A37 at tt hb kp0 e3 e4 e25 e26 e27 e28 e29 e30 e31 e32 c_x3 ⊢
    clear tt hp32
    walk_at "g"
    refine ⟨show 4 ≤ sizeLine by decide, fun p33 hp33 => ?_⟩
    have tt : Same A37 (upd A37 p33 (.lst [V.ref p26, V.ref p28, V.ref p30, V.ref p32])) := (Same.refl A37).at hp33 _
    have e33 : (upd A37 p33 (.lst [V.ref p26, V.ref p28, V.ref p30, V.ref p32])) p33 = some (.lst [V.ref p26, V.ref p28, V.ref p30, V.ref p32]) := upd_same
    have o33 : p33 ≠ b := fun h => by subst h; exact absurd hp33 (by obtain ⟨_, _, _, e, _⟩ := hb; rw [e]; exact fun e => nomatch e)
    have g33 : p33 ≠ p3 := fun h => by subst h; exact absurd hp33 (by rw [e3]; exact fun e => nomatch e)
    replace hb := hb.new (o := .lst [V.ref p26, V.ref p28, V.ref p30, V.ref p32]) hp33
    replace kp0 := kp0.trans (Keep.same tt)
    replace c_x3 := c_x3.keep (Keep.same tt)
    replace e3 := tt _ _ e3
    replace e4 := tt _ _ e4
    replace e25 := tt _ _ e25
    replace e26 := tt _ _ e26
    replace e27 := tt _ _ e27
    replace e28 := tt _ _ e28
    replace e29 := tt _ _ e29
    replace e30 := tt _ _ e30
    replace e31 := tt _ _ e31
    replace e32 := tt _ _ e32
    generalize (upd A37 p33 (.lst [V.ref p26, V.ref p28, V.ref p30, V.ref p32])) = A38 at tt hb kp0 e3 e4 e25 e26 e27 e28 e29 e30 e31 e32 e33 c_x3 ⊢
    clear tt hp33
    walk_at "g"
    refine r_ixT (SqT.of e4) rfl ?_
    walk_at "g"
    refine ⟨show 3 ≤ sizeLine by decide, fun p34 hp34 => ?_⟩
    have tt : Same A38 (upd A38 p34 (.tup [V.ref p3, V.non, V.non])) := (Same.refl A38).at hp34 _
    have e34 : (upd A38 p34 (.tup [V.ref p3, V.non, V.non])) p34 = some (.tup [V.ref p3, V.non, V.non]) := upd_same
    have o34 : p34 ≠ b := fun h => by subst h; exact absurd hp34 (by obtain ⟨_, _, _, e, _⟩ := hb; rw [e]; exact fun e => nomatch e)
    have g34 : p34 ≠ p3 := fun h => by subst h; exact absurd hp34 (by rw [e3]; exact fun e => nomatch e)
    replace hb := hb.new (o := .tup [V.ref p3, V.non, V.non]) hp34
    replace kp0 := kp0.trans (Keep.same tt)
    replace c_x3 := c_x3.keep (Keep.same tt)
    replace e3 := tt _ _ e3
    replace e4 := tt _ _ e4
    replace e25 := tt _ _ e25
    replace e26 := tt _ _ e26
    replace e27 := tt _ _ e27
    replace e28 := tt _ _ e28
    replace e29 := tt _ _ e29
    replace e30 := tt _ _ e30
    replace e31 := tt _ _ e31
    replace e32 := tt _ _ e32
    replace e33 := tt _ _ e33
    generalize (upd A38 p34 (.tup [V.ref p3, V.non, V.non])) = A39 at tt hb kp0 e3 e4 e25 e26 e27 e28 e29 e30 e31 e32 e33 e34 c_x3 ⊢
    clear tt hp34
    walk_at "g"
    refine r_ixT (SqT.of e4) rfl ?_
    walk_at "g"
    refine ⟨show 3 ≤ sizeLine by decide, fun p35 hp35 => ?_⟩
    have tt : Same A39 (upd A39 p35 (.tup [V.ref p3, V.non, V.int 0])) := (Same.refl A39).at hp35 _
    have e35 : (upd A39 p35 (.tup [V.ref p3, V.non, V.int 0])) p35 = some (.tup [V.ref p3, V.non, V.int 0]) := upd_same
    have o35 : p35 ≠ b := fun h => by subst h; exact absurd hp35 (by obtain ⟨_, _, _, e, _⟩ := hb; rw [e]; exact fun e => nomatch e)
    have g35 : p35 ≠ p3 := fun h => by subst h; exact absurd hp35 (by rw [e3]; exact fun e => nomatch e)
    replace hb := hb.new (o := .tup [V.ref p3, V.non, V.int 0]) hp35
    replace kp0 := kp0.trans (Keep.same tt)
    replace c_x3 := c_x3.keep (Keep.same tt)
    replace e3 := tt _ _ e3
    replace e4 := tt _ _ e4
    replace e25 := tt _ _ e25
    replace e26 := tt _ _ e26
    replace e27 := tt _ _ e27
    replace e28 := tt _ _ e28
    replace e29 := tt _ _ e29
    replace e30 := tt _ _ e30
    replace e31 := tt _ _ e31
    replace e32 := tt _ _ e32
    replace e33 := tt _ _ e33
    replace e34 := tt _ _ e34
    generalize (upd A39 p35 (.tup [V.ref p3, V.non, V.int 0])) = A40 at tt hb kp0 e3 e4 e25 e26 e27 e28 e29 e30 e31 e32 e33 e34 e35 c_x3 ⊢
    clear tt hp35
    walk_at "g"
    refine r_ixT (SqT.of e4) rfl ?_
    walk_at "g"
    refine ⟨show 3 ≤ sizeLine by decide, fun p36 hp36 => ?_⟩
    have tt : Same A40 (upd A40 p36 (.tup [V.ref p3, V.str "be", V.str "'\""])) := (Same.refl A40).at hp36 _
    have e36 : (upd A40 p36 (.tup [V.ref p3, V.str "be", V.str "'\""])) p36 = some (.tup [V.ref p3, V.str "be", V.str "'\""]) := upd_same
    have o36 : p36 ≠ b := fun h => by subst h; exact absurd hp36 (by obtain ⟨_, _, _, e, _⟩ := hb; rw [e]; exact fun e => nomatch e)
    have g36 : p36 ≠ p3 := fun h => by subst h; exact absurd hp36 (by rw [e3]; exact fun e => nomatch e)
    replace hb := hb.new (o := .tup [V.ref p3, V.str "be", V.str "'\""]) hp36
    replace kp0 := kp0.trans (Keep.same tt)
    replace c_x3 := c_x3.keep (Keep.same tt)
    replace e3 := tt _ _ e3
    replace e4 := tt _ _ e4
    replace e25 := tt _ _ e25
    replace e26 := tt _ _ e26
    replace e27 := tt _ _ e27
    replace e28 := tt _ _ e28
    replace e29 := tt _ _ e29
    replace e30 := tt _ _ e30
    replace e31 := tt _ _ e31
    replace e32 := tt _ _ e32
    replace e33 := tt _ _ e33
    replace e34 := tt _ _ e34
    replace e35 := tt _ _ e35
    generalize (upd A40 p36 (.tup [V.ref p3, V.str "be", V.str "'\""])) = A41 at tt hb kp0 e3 e4 e25 e26 e27 e28 e29 e30 e31 e32 e33 e34 e35 e36 c_x3 ⊢
    clear tt hp36
    walk_at "g"
    refine ⟨show 3 ≤ sizeLine by decide, fun p37 hp37 => ?_⟩
    have tt : Same A41 (upd A41 p37 (.lst [V.ref p34, V.ref p35, V.ref p36])) := (Same.refl A41).at hp37 _
    have e37 : (upd A41 p37 (.lst [V.ref p34, V.ref p35, V.ref p36])) p37 = some (.lst [V.ref p34, V.ref p35, V.ref p36]) := upd_same
    have o37 : p37 ≠ b := fun h => by subst h; exact absurd hp37 (by obtain ⟨_, _, _, e, _⟩ := hb; rw [e]; exact fun e => nomatch e)
    have g37 : p37 ≠ p3 := fun h => by subst h; exact absurd hp37 (by rw [e3]; exact fun e => nomatch e)
    replace hb := hb.new (o := .lst [V.ref p34, V.ref p35, V.ref p36]) hp37
    replace kp0 := kp0.trans (Keep.same tt)
    replace c_x3 := c_x3.keep (Keep.same tt)
    replace e3 := tt _ _ e3
    replace e4 := tt _ _ e4
    replace e25 := tt _ _ e25
    replace e26 := tt _ _ e26
    replace e27 := tt _ _ e27
    replace e28 := tt _ _ e28
    replace e29 := tt _ _ e29
    replace e30 := tt _ _ e30
    replace e31 := tt _ _ e31
    replace e32 := tt _ _ e32
    replace e33 := tt _ _ e33
    replace e34 := tt _ _ e34
    replace e35 := tt _ _ e35
    replace e36 := tt _ _ e36
    generalize (upd A41 p37 (.lst [V.ref p34, V.ref p35, V.ref p36])) = A42 at tt hb kp0 e3 e4 e25 e26 e27 e28 e29 e30 e31 e32 e33 e34 e35 e36 e37 c_x3 ⊢
    clear tt hp37
    walk_at "g"
    refine r_cat e33 e37 (show 4 + 3 ≤ 16777216 by decide) fun p38 hp38 => ?_
    have tt : Same A42 (upd A42 p38 (.lst ([V.ref p26, V.ref p28, V.ref p30, V.ref p32] ++ [V.ref p34, V.ref p35, V.ref p36]))) := (Same.refl A42).at hp38 _
    have e38 : (upd A42 p38 (.lst ([V.ref p26, V.ref p28, V.ref p30, V.ref p32] ++ [V.ref p34, V.ref p35, V.ref p36]))) p38 = some (.lst ([V.ref p26, V.ref p28, V.ref p30, V.ref p32] ++ [V.ref p34, V.ref p35, V.ref p36])) := upd_same
    have o38 : p38 ≠ b := fun h => by subst h; exact absurd hp38 (by obtain ⟨_, _, _, e, _⟩ := hb; rw [e]; exact fun e => nomatch e)
    have g38 : p38 ≠ p3 := fun h => by subst h; exact absurd hp38 (by rw [e3]; exact fun e => nomatch e)
    replace hb := hb.new (o := .lst ([V.ref p26, V.ref p28, V.ref p30, V.ref p32] ++ [V.ref p34, V.ref p35, V.ref p36])) hp38
    replace kp0 := kp0.trans (Keep.same tt)
    replace c_x3 := c_x3.keep (Keep.same tt)
    replace e3 := tt _ _ e3
    replace e4 := tt _ _ e4
    replace e25 := tt _ _ e25
    replace e26 := tt _ _ e26
    replace e27 := tt _ _ e27
    replace e28 := tt _ _ e28
    replace e29 := tt _ _ e29
    replace e30 := tt _ _ e30
    replace e31 := tt _ _ e31
    replace e32 := tt _ _ e32
    replace e33 := tt _ _ e33
    replace e34 := tt _ _ e34
    replace e35 := tt _ _ e35
    replace e36 := tt _ _ e36
    replace e37 := tt _ _ e37
    generalize (upd A42 p38 (.lst ([V.ref p26, V.ref p28, V.ref p30, V.ref p32] ++ [V.ref p34, V.ref p35, V.ref p36]))) = A43 at tt hb kp0 e3 e4 e25 e26 e27 e28 e29 e30 e31 e32 e33 e34 e35 e36 e37 e38 c_x3 ⊢
    clear tt hp38
    walk_at "g"
    refine ⟨show 3 ≤ sizeLine by decide, fun p39 hp39 => ?_⟩
    have tt : Same A43 (upd A43 p39 (.lst [x3, x3, x3])) := (Same.refl A43).at hp39 _
    have e39 : (upd A43 p39 (.lst [x3, x3, x3])) p39 = some (.lst [x3, x3, x3]) := upd_same
    have o39 : p39 ≠ b := fun h => by subst h; exact absurd hp39 (by obtain ⟨_, _, _, e, _⟩ := hb; rw [e]; exact fun e => nomatch e)
    have g39 : p39 ≠ p3 := fun h => by subst h; exact absurd hp39 (by rw [e3]; exact fun e => nomatch e)
    replace hb := hb.new (o := .lst [x3, x3, x3]) hp39
    replace kp0 := kp0.trans (Keep.same tt)
    replace c_x3 := c_x3.keep (Keep.same tt)
    replace e3 := tt _ _ e3
    replace e4 := tt _ _ e4
    replace e25 := tt _ _ e25
    replace e26 := tt _ _ e26
    replace e27 := tt _ _ e27
    replace e28 := tt _ _ e28
    replace e29 := tt _ _ e29
    replace e30 := tt _ _ e30
    replace e31 := tt _ _ e31
    replace e32 := tt _ _ e32
    replace e33 := tt _ _ e33
    replace e34 := tt _ _ e34
    replace e35 := tt _ _ e35
    replace e36 := tt _ _ e36
    replace e37 := tt _ _ e37
    replace e38 := tt _ _ e38
    generalize (upd A43 p39 (.lst [x3, x3, x3])) = A44 at tt hb kp0 e3 e4 e25 e26 e27 e28 e29 e30 e31 e32 e33 e34 e35 e36 e37 e38 e39 c_x3 ⊢
    clear tt hp39
    walk_at "g"
    refine r_cat e39 e38 (show 3 + 7 ≤ 16777216 by decide) fun p40 hp40 => ?_
    have tt : Same A44 (upd A44 p40 (.lst ([x3, x3, x3] ++ ([V.ref p26, V.ref p28, V.ref p30, V.ref p32] ++ [V.ref p34, V.ref p35, V.ref p36])))) := (Same.refl A44).at hp40 _
    have e40 : (upd A44 p40 (.lst ([x3, x3, x3] ++ ([V.ref p26, V.ref p28, V.ref p30, V.ref p32] ++ [V.ref p34, V.ref p35, V.ref p36])))) p40 = some (.lst ([x3, x3, x3] ++ ([V.ref p26, V.ref p28, V.ref p30, V.ref p32] ++ [V.ref p34, V.ref p35, V.ref p36]))) := upd_same
    have o40 : p40 ≠ b := fun h => by subst h; exact absurd hp40 (by obtain ⟨_, _, _, e, _⟩ := hb; rw [e]; exact fun e => nomatch e)
    have g40 : p40 ≠ p3 := fun h => by subst h; exact absurd hp40 (by rw [e3]; exact fun e => nomatch e)
    replace hb := hb.new (o := .lst ([x3, x3, x3] ++ ([V.ref p26, V.ref p28, V.ref p30, V.ref p32] ++ [V.ref p34, V.ref p35, V.ref p36]))) hp40
    replace kp0 := kp0.trans (Keep.same tt)
    replace c_x3 := c_x3.keep (Keep.same tt)
    replace e3 := tt _ _ e3
    replace e4 := tt _ _ e4
    replace e25 := tt _ _ e25
    replace e26 := tt _ _ e26
    replace e27 := tt _ _ e27
    replace e28 := tt _ _ e28
    replace e29 := tt _ _ e29
    replace e30 := tt _ _ e30
    replace e31 := tt _ _ e31
    replace e32 := tt _ _ e32
    replace e33 := tt _ _ e33
    replace e34 := tt _ _ e34
    replace e35 := tt _ _ e35
    replace e36 := tt _ _ e36
    replace e37 := tt _ _ e37
    replace e38 := tt _ _ e38
    replace e39 := tt _ _ e39
    generalize (upd A44 p40 (.lst ([x3, x3, x3] ++ ([V.ref p26, V.ref p28, V.ref p30, V.ref p32] ++ [V.ref p34, V.ref p35, V.ref p36])))) = A45 at tt hb kp0 e3 e4 e25 e26 e27 e28 e29 e30 e31 e32 e33 e34 e35 e36 e37 e38 e39 e40 c_x3 ⊢
    clear tt hp40
    walk_at "g"
    have cs : ∀ v ∈ [x3, x3, x3, V.ref p26, V.ref p28, V.ref p30, V.ref p32, V.ref p34, V.ref p35, V.ref p36], Cand H b p3 A45 v := List.forall_mem_cons.mpr ⟨c_x3, List.forall_mem_cons.mpr ⟨c_x3, List.forall_mem_cons.mpr ⟨c_x3, List.forall_mem_cons.mpr ⟨⟨fun h => g26 (V.ref.inj h), fun a e => .inr ⟨_, V.ref.inj e ▸ e26⟩, _, bad 12 _ rfl, .tup e26 o26 (.cons (.lst e25 o25 (.cons (st _ _ (by decide +kernel)) .nil)) (.cons (st _ _ (by decide +kernel)) (.cons (sq _) .nil)))⟩, List.forall_mem_cons.mpr ⟨⟨fun h => g28 (V.ref.inj h), fun a e => .inr ⟨_, V.ref.inj e ▸ e28⟩, _, bad 13 _ rfl, .tup e28 o28 (.cons (.lst e27 o27 (.cons (st _ _ (by decide +kernel)) .nil)) (.cons (st _ _ (by decide +kernel)) (.cons (sq _) .nil)))⟩, List.forall_mem_cons.mpr ⟨⟨fun h => g30 (V.ref.inj h), fun a e => .inr ⟨_, V.ref.inj e ▸ e30⟩, _, bad 14 _ rfl, .tup e30 o30 (.cons (.lst e29 o29 .nil) (.cons (st _ _ (by decide +kernel)) (.cons (sq _) .nil)))⟩, List.forall_mem_cons.mpr ⟨⟨fun h => g32 (V.ref.inj h), fun a e => .inr ⟨_, V.ref.inj e ▸ e32⟩, _, bad 15 _ rfl, .tup e32 o32 (.cons (.lst e31 o31 (.cons (st _ _ (by decide +kernel)) .nil)) (.cons .non (.cons (st _ _ (by decide +kernel)) .nil)))⟩, List.forall_mem_cons.mpr ⟨⟨fun h => g34 (V.ref.inj h), fun a e => .inr ⟨_, V.ref.inj e ▸ e34⟩, _, bad 16 _ rfl, .tup e34 o34 (.cons (.lst e3 o3 (reps (by decide +kernel) (by decide +kernel) m)) (.cons .non (.cons .non .nil)))⟩, List.forall_mem_cons.mpr ⟨⟨fun h => g35 (V.ref.inj h), fun a e => .inr ⟨_, V.ref.inj e ▸ e35⟩, _, bad 17 _ rfl, .tup e35 o35 (.cons (.lst e3 o3 (reps (by decide +kernel) (by decide +kernel) m)) (.cons .non (.cons (.int _ (by decide)) .nil)))⟩, List.forall_mem_cons.mpr ⟨⟨fun h => g36 (V.ref.inj h), fun a e => .inr ⟨_, V.ref.inj e ▸ e36⟩, _, bad 18 _ rfl, .tup e36 o36 (.cons (.lst e3 o3 (reps (by decide +kernel) (by decide +kernel) m)) (.cons (st _ _ (by decide +kernel)) (.cons (st _ _ (by decide +kernel)) .nil)))⟩, fun _ h => (List.not_mem_nil h).elim⟩⟩⟩⟩⟩⟩⟩⟩⟩⟩
    refine ⟨b, _, hb, by omega, .inr ⟨p40, _, rfl, o40, SqL.of e40, show 0 < 10 by decide, show 10 ≤ 1000 by decide, fun x4 A46 hv kk hb => ?_⟩⟩
    replace e3 := kk _ _ e3 o3
    replace e4 := kk _ _ e4 o4
    replace e25 := kk _ _ e25 o25
    replace e26 := kk _ _ e26 o26
    replace e27 := kk _ _ e27 o27
    replace e28 := kk _ _ e28 o28
    replace e29 := kk _ _ e29 o29
    replace e30 := kk _ _ e30 o30
    replace e31 := kk _ _ e31 o31
    replace e32 := kk _ _ e32 o32
    replace e33 := kk _ _ e33 o33
    replace e34 := kk _ _ e34 o34
    replace e35 := kk _ _ e35 o35
    replace e36 := kk _ _ e36 o36
    replace e37 := kk _ _ e37 o37
    replace e38 := kk _ _ e38 o38
    replace e39 := kk _ _ e39 o39
    replace e40 := kk _ _ e40 o40
    replace kp0 := kp0.trans kk
    have c_x4 := (cs x4 hv).keep kk
    clear cs hv kk
    walk_at "g"
    refine ⟨show 2 ≤ sizeLine by decide, fun p41 hp41 => ?_⟩
    have tt : Same A46 (upd A46 p41 (.lst [V.str "state", x4])) := (Same.refl A46).at hp41 _
    have e41 : (upd A46 p41 (.lst [V.str "state", x4])) p41 = some (.lst [V.str "state", x4]) := upd_same
    have o41 : p41 ≠ b := fun h => by subst h; exact absurd hp41 (by obtain ⟨_, _, _, e, _⟩ := hb; rw [e]; exact fun e => nomatch e)
    have g41 : p41 ≠ p3 := fun h => by subst h; exact absurd hp41 (by rw [e3]; exact fun e => nomatch e)
    have nx41 : x4 ≠ .ref p41 := fun h => c_x4.top.some h hp41
    replace hb := hb.new (o := .lst [V.str "state", x4]) hp41
    replace kp0 := kp0.trans (Keep.same tt)
    replace c_x4 := c_x4.keep (Keep.same tt)
    replace e3 := tt _ _ e3
    replace e4 := tt _ _ e4
    generalize (upd A46 p41 (.lst [V.str "state", x4])) = A47 at tt hb kp0 e3 e4 e41 c_x4 ⊢
    clear tt hp41
    walk_at "g"
    obtain ⟨nx, fx, d, bd, dx⟩ := c_x4
    have nb : x4 ≠ .ref b := fun h => by subst h; exact dx.notB rfl
    obtain ⟨r1, r2, r3, r4⟩ := bad_grown bd
    refine call_state (B2 := fun _ => False) bd.1 bd.2.1 ⟨Nat.le_trans bd.2.2.1.1 (by decide), bd.2.2.1.2⟩ bd.2.2.2 (by decide) dx (.str "bee" (by decide +kernel) (by decide +kernel)) (by decide +kernel) (fun _ => nofun) nx41 e41 fun B1 gr dx => ?_
    replace hb := grow_bx gr nb nofun hb
    replace kp0 := grow_keep kp0 gr fx nofun
    replace fx := grow_fre gr fx
    replace e3 := gr _ _ e3 fun _ _ => ⟨nx, nofun⟩
    replace e4 := gr _ _ e4 fun _ e => nomatch e
    clear e41 nx41 gr
    walk_at "g"
    refine ⟨show 2 ≤ sizeLine by decide, fun p42 hp42 => ?_⟩
    have tt : Same B1 (upd B1 p42 (.lst [V.str "state", x4])) := (Same.refl B1).at hp42 _
    have e42 : (upd B1 p42 (.lst [V.str "state", x4])) p42 = some (.lst [V.str "state", x4]) := upd_same
    have o42 : p42 ≠ b := fun h => by subst h; exact absurd hp42 (by obtain ⟨_, _, _, e, _⟩ := hb; rw [e]; exact fun e => nomatch e)
    have g42 : p42 ≠ p3 := fun h => by subst h; exact absurd hp42 (by rw [e3]; exact fun e => nomatch e)
    have nx42 : x4 ≠ .ref p42 := fun h => (dx.top r4).some h hp42
    replace hb := hb.new (o := .lst [V.str "state", x4]) hp42
    replace kp0 := kp0.trans (Keep.same tt)
    replace dx := dx.same tt
    replace fx := fx.same tt
    replace e3 := tt _ _ e3
    replace e4 := tt _ _ e4
    generalize (upd B1 p42 (.lst [V.str "state", x4])) = A48 at tt hb kp0 e3 e4 e42 dx fx ⊢
    clear tt hp42
    walk_at "g"
    refine call_state (B2 := fun _ => False) r1 r2 r3 r4 (by decide) dx .non (by decide +kernel) nofun nx42 e42 fun B2 gr _ => ?_
    replace hb := grow_bx gr nb nofun hb
    replace kp0 := grow_keep kp0 gr fx nofun
    replace e3 := gr _ _ e3 fun _ _ => ⟨nx, nofun⟩
    replace e4 := gr _ _ e4 fun _ e => nomatch e
    clear e42 nx42 gr dx fx nx nb r1 r2 r3 r4 bd
    walk_at "g"
    refine ⟨show 1 ≤ sizeLine by decide, fun p43 hp43 => ?_⟩
    have tt : Same B2 (upd B2 p43 (.lst [V.str "be"])) := (Same.refl B2).at hp43 _
    have e43 : (upd B2 p43 (.lst [V.str "be"])) p43 = some (.lst [V.str "be"]) := upd_same
    have o43 : p43 ≠ b := fun h => by subst h; exact absurd hp43 (by obtain ⟨_, _, _, e, _⟩ := hb; rw [e]; exact fun e => nomatch e)
    have g43 : p43 ≠ p3 := fun h => by subst h; exact absurd hp43 (by rw [e3]; exact fun e => nomatch e)
    have n43 : H p43 = none := kp0.free o43 hp43
    have f43 : p43 ≠ p4 := fun h => by subst h; cases e4.symm.trans hp43
    replace hb := hb.new (o := .lst [V.str "be"]) hp43
    replace kp0 := kp0.trans (Keep.same tt)
    replace e3 := tt _ _ e3
    replace e4 := tt _ _ e4
    generalize (upd B2 p43 (.lst [V.str "be"])) = A49 at tt hb kp0 e3 e4 e43 ⊢
    clear tt hp43
    walk_at "g"
    refine r_mulS (mul_ok (n := 39) (show (Str.ofString "e").length ≤ 1000 by decide +kernel) (by decide)) ?_
    refine r_addS (show (Str.ofString "be").length + (Txt.mul (Str.ofString "e") 39).length ≤ sizeLine by decide +kernel) ?_
    walk_at "g"
    refine ⟨show 1 ≤ sizeLine by decide, fun p44 hp44 => ?_⟩
    have tt : Same A49 (upd A49 p44 (.tup [V.str "be"])) := (Same.refl A49).at hp44 _
    have e44 : (upd A49 p44 (.tup [V.str "be"])) p44 = some (.tup [V.str "be"]) := upd_same
    have o44 : p44 ≠ b := fun h => by subst h; exact absurd hp44 (by obtain ⟨_, _, _, e, _⟩ := hb; rw [e]; exact fun e => nomatch e)
    have g44 : p44 ≠ p3 := fun h => by subst h; exact absurd hp44 (by rw [e3]; exact fun e => nomatch e)
    have f44 : p44 ≠ p4 := fun h => by subst h; cases e4.symm.trans hp44
    replace hb := hb.new (o := .tup [V.str "be"]) hp44
    replace kp0 := kp0.trans (Keep.same tt)
    replace e3 := tt _ _ e3
    replace e4 := tt _ _ e4
    replace e43 := tt _ _ e43
    generalize (upd A49 p44 (.tup [V.str "be"])) = A50 at tt hb kp0 e3 e4 e43 e44 ⊢
    clear tt hp44
    walk_at "g"
    refine ⟨show 12 ≤ sizeLine by decide, fun p45 hp45 => ?_⟩
    have tt : Same A50 (upd A50 p45 (.lst [V.str "b", V.str "", V.str "eb", V.str "abe", V.str "Be", V.non, V.int 7, V.ref p43, V.str (Str.ofString "be" ++ Txt.mul "e" 39), V.ref p44, V.str "be\n", V.str "be\t"])) := (Same.refl A50).at hp45 _
    have e45 : (upd A50 p45 (.lst [V.str "b", V.str "", V.str "eb", V.str "abe", V.str "Be", V.non, V.int 7, V.ref p43, V.str (Str.ofString "be" ++ Txt.mul "e" 39), V.ref p44, V.str "be\n", V.str "be\t"])) p45 = some (.lst [V.str "b", V.str "", V.str "eb", V.str "abe", V.str "Be", V.non, V.int 7, V.ref p43, V.str (Str.ofString "be" ++ Txt.mul "e" 39), V.ref p44, V.str "be\n", V.str "be\t"]) := upd_same
    have o45 : p45 ≠ b := fun h => by subst h; exact absurd hp45 (by obtain ⟨_, _, _, e, _⟩ := hb; rw [e]; exact fun e => nomatch e)
    have g45 : p45 ≠ p3 := fun h => by subst h; exact absurd hp45 (by rw [e3]; exact fun e => nomatch e)
    replace hb := hb.new (o := .lst [V.str "b", V.str "", V.str "eb", V.str "abe", V.str "Be", V.non, V.int 7, V.ref p43, V.str (Str.ofString "be" ++ Txt.mul "e" 39), V.ref p44, V.str "be\n", V.str "be\t"]) hp45
    replace kp0 := kp0.trans (Keep.same tt)
    replace e3 := tt _ _ e3
    replace e4 := tt _ _ e4
    replace e43 := tt _ _ e43
    replace e44 := tt _ _ e44
    generalize (upd A50 p45 (.lst [V.str "b", V.str "", V.str "eb", V.str "abe", V.str "Be", V.non, V.int 7, V.ref p43, V.str (Str.ofString "be" ++ Txt.mul "e" 39), V.ref p44, V.str "be\n", V.str "be\t"])) = A51 at tt hb kp0 e3 e4 e43 e44 e45 ⊢
    clear tt hp45
    walk_at "g"
    have cs : ∀ v ∈ [V.str "b", V.str "", V.str "eb", V.str "abe", V.str "Be", V.non, V.int 7, V.ref p43, V.str (Str.ofString "be" ++ Txt.mul "e" 39), V.ref p44, V.str "be\n", V.str "be\t"], CandW H b p3 p4 A51 v := List.forall_mem_cons.mpr ⟨⟨nofun, nofun, nofun, nofun, _, List.mem_of_getElem? (i := 0) rfl, .str _ (by decide +kernel) (by decide +kernel)⟩, List.forall_mem_cons.mpr ⟨⟨nofun, nofun, nofun, nofun, _, List.mem_of_getElem? (i := 1) rfl, .str _ (by decide +kernel) (by decide +kernel)⟩, List.forall_mem_cons.mpr ⟨⟨nofun, nofun, nofun, nofun, _, List.mem_of_getElem? (i := 2) rfl, .str _ (by decide +kernel) (by decide +kernel)⟩, List.forall_mem_cons.mpr ⟨⟨nofun, nofun, nofun, nofun, _, List.mem_of_getElem? (i := 3) rfl, .str _ (by decide +kernel) (by decide +kernel)⟩, List.forall_mem_cons.mpr ⟨⟨nofun, nofun, nofun, nofun, _, List.mem_of_getElem? (i := 4) rfl, .str _ (by decide +kernel) (by decide +kernel)⟩, List.forall_mem_cons.mpr ⟨⟨nofun, nofun, nofun, nofun, _, List.mem_of_getElem? (i := 5) rfl, .non⟩, List.forall_mem_cons.mpr ⟨⟨nofun, nofun, nofun, nofun, _, List.mem_of_getElem? (i := 6) rfl, .int _ (by decide)⟩, List.forall_mem_cons.mpr ⟨⟨fun h => g43 (V.ref.inj h), fun h => f43 (V.ref.inj h), fun h => o43 (V.ref.inj h), fun a e => .inl (V.ref.inj e ▸ n43), _, List.mem_of_getElem? (i := 7) rfl, .lst e43 (fun h => h.elim o43 f43) (.cons (.str _ (by decide +kernel) (by decide +kernel)) .nil)⟩, List.forall_mem_cons.mpr ⟨⟨nofun, nofun, nofun, nofun, _, List.mem_of_getElem? (i := 8) rfl, .str _ (by decide +kernel) (by decide +kernel)⟩, List.forall_mem_cons.mpr ⟨⟨fun h => g44 (V.ref.inj h), fun h => f44 (V.ref.inj h), fun h => o44 (V.ref.inj h), fun a e => .inr ⟨_, V.ref.inj e ▸ e44⟩, _, List.mem_of_getElem? (i := 9) rfl, .tup e44 (fun h => h.elim o44 f44) (.cons (.str _ (by decide +kernel) (by decide +kernel)) .nil)⟩, List.forall_mem_cons.mpr ⟨⟨nofun, nofun, nofun, nofun, _, List.mem_of_getElem? (i := 10) rfl, .str _ (by decide +kernel) (by decide +kernel)⟩, List.forall_mem_cons.mpr ⟨⟨nofun, nofun, nofun, nofun, _, List.mem_of_getElem? (i := 11) rfl, .str _ (by decide +kernel) (by decide +kernel)⟩, fun _ h => (List.not_mem_nil h).elim⟩⟩⟩⟩⟩⟩⟩⟩⟩⟩⟩⟩
    refine ⟨b, _, hb, by omega, .inr ⟨p45, _, rfl, o45, SqL.of e45, show 0 < 12 by decide, show 12 ≤ 1000 by decide, fun y A52 hv kk hb => ?_⟩⟩
    replace e3 := kk _ _ e3 o3
    replace e4 := kk _ _ e4 o4
    replace e43 := kk _ _ e43 o43
    replace e44 := kk _ _ e44 o44
    replace e45 := kk _ _ e45 o45
    replace kp0 := kp0.trans kk
    obtain ⟨y3, y4, yb, yf, e, he, dy⟩ := (cs y hv).keep kk
    clear cs hv kk
    obtain ⟨s1, s2, s3, s4, s5⟩ := goods m hm q hq
    obtain ⟨w1, w2, w3⟩ := s5 e he
    walk_at "g"
    refine ⟨show 2 ≤ sizeLine by decide, fun p46 hp46 => ?_⟩
    have tt : Same A52 (upd A52 p46 (.lst [V.str "word", y])) := (Same.refl A52).at hp46 _
    have e46 : (upd A52 p46 (.lst [V.str "word", y])) p46 = some (.lst [V.str "word", y]) := upd_same
    have o46 : p46 ≠ b := fun h => by subst h; exact absurd hp46 (by obtain ⟨_, _, _, e, _⟩ := hb; rw [e]; exact fun e => nomatch e)
    have g46 : p46 ≠ p3 := fun h => by subst h; exact absurd hp46 (by rw [e3]; exact fun e => nomatch e)
    have y46 : y ≠ .ref p46 := fun h => (dy.top w3).some h hp46
    have x46 : p4 ≠ p46 := fun h => by subst h; cases e4.symm.trans hp46
    replace hb := hb.new (o := .lst [V.str "word", y]) hp46
    replace kp0 := kp0.trans (Keep.same tt)
    replace dy := dy.same tt
    replace yf := yf.same tt
    replace e3 := tt _ _ e3
    replace e4 := tt _ _ e4
    generalize (upd A52 p46 (.lst [V.str "word", y])) = A53 at tt hb kp0 e3 e4 e46 dy yf ⊢
    clear tt hp46
    walk_at "g"
    refine call_word (d := .tuple [.list (rep m "a"), .str "be", .str q]) s1 w1 rfl s2 w2 (show 0 ≤ 41 by decide) w3 (by decide) (.tup e4 y4 (.cons (.lst e3 y3 (reps (by decide +kernel) (by decide +kernel) m)) (.cons (.str _ (by decide +kernel) (by decide +kernel)) (.cons (sg _ _) .nil)))) (dy.apart fun p n _ q => n (.inr (V.ref.inj q).symm)) (fun h => x46 (V.ref.inj h)) y46 e46 fun B3 gr => ?_
    replace hb := grow_bx gr (fun h => o4 (V.ref.inj h)) yb hb
    replace kp0 := grow_keep kp0 gr (fun a e => .inr ⟨_, V.ref.inj e ▸ e4⟩) yf
    replace e3 := gr _ _ e3 fun _ _ => ⟨fun h => g4 (V.ref.inj h), y3⟩
    replace e4 := gr _ _ e4 fun _ e => nomatch e
    clear e46 y46 x46 gr dy yf y3 y4 yb w1 w2 w3 he
    walk_at "g"
    refine r_ixT (SqT.of e4) rfl ?_
    walk_at "g"
    refine ⟨show 3 ≤ sizeLine by decide, fun p47 hp47 => ?_⟩
    have tt : Same B3 (upd B3 p47 (.tup [V.ref p3, V.non, V.str ""])) := (Same.refl B3).at hp47 _
    have e47 : (upd B3 p47 (.tup [V.ref p3, V.non, V.str ""])) p47 = some (.tup [V.ref p3, V.non, V.str ""]) := upd_same
    have o47 : p47 ≠ b := fun h => by subst h; exact absurd hp47 (by obtain ⟨_, _, _, e, _⟩ := hb; rw [e]; exact fun e => nomatch e)
    have g47 : p47 ≠ p3 := fun h => by subst h; exact absurd hp47 (by rw [e3]; exact fun e => nomatch e)
    replace hb := hb.new (o := .tup [V.ref p3, V.non, V.str ""]) hp47
    replace kp0 := kp0.trans (Keep.same tt)
    replace e3 := tt _ _ e3
    replace e4 := tt _ _ e4
    generalize (upd B3 p47 (.tup [V.ref p3, V.non, V.str ""])) = A54 at tt hb kp0 e3 e4 e47 ⊢
    clear tt hp47
    walk_at "g"
    refine r_mulS (mul_ok (n := 41) (show (Str.ofString "x").length ≤ 1000 by decide +kernel) (by decide)) ?_
    walk_at "g"
    refine r_mulS (mul_ok (n := 41) (show (Str.ofString "x").length ≤ 1000 by decide +kernel) (by decide)) ?_
    walk_at "g"
    refine ⟨show 2 ≤ sizeLine by decide, fun p48 hp48 => ?_⟩
    have tt : Same A54 (upd A54 p48 (.lst [V.str "word", V.str (Txt.mul "x" 41)])) := (Same.refl A54).at hp48 _
    have e48 : (upd A54 p48 (.lst [V.str "word", V.str (Txt.mul "x" 41)])) p48 = some (.lst [V.str "word", V.str (Txt.mul "x" 41)]) := upd_same
    have o48 : p48 ≠ b := fun h => by subst h; exact absurd hp48 (by obtain ⟨_, _, _, e, _⟩ := hb; rw [e]; exact fun e => nomatch e)
    have g48 : p48 ≠ p3 := fun h => by subst h; exact absurd hp48 (by rw [e3]; exact fun e => nomatch e)
    have x48 : p47 ≠ p48 := fun h => by subst h; cases e47.symm.trans hp48
    replace hb := hb.new (o := .lst [V.str "word", V.str (Txt.mul "x" 41)]) hp48
    replace kp0 := kp0.trans (Keep.same tt)
    replace e3 := tt _ _ e3
    replace e4 := tt _ _ e4
    replace e47 := tt _ _ e47
    generalize (upd A54 p48 (.lst [V.str "word", V.str (Txt.mul "x" 41)])) = A55 at tt hb kp0 e3 e4 e47 e48 ⊢
    clear tt hp48
    walk_at "g"
    have sx : ∀ (B : Addr → Prop) A, De B A (.str (Txt.mul "x" 41)) (.str (mulT 41 120)) := fun B A => by
      rw [show Txt.mul (Str.ofString "x") 41 = mulT 41 120 by decide +kernel]; exact .str _ (by decide +kernel) (by decide +kernel)
    refine call_word (n := 41) (d := .tuple [.list (rep m "a"), .none, .str ""]) s3 (show goodE _ (.str (mulT 41 120)) = false by unfold goodE; rw [show wdD (.str (mulT 41 120)) = false by decide +kernel]; exact Bool.false_and _) rfl s4 (by decide +kernel) (show 0 ≤ 41 by decide) (show 0 ≤ 41 by decide) (by decide) (.tup e47 nofun (.cons (.lst e3 nofun (reps (by decide +kernel) (by decide +kernel) m)) (.cons .non (.cons (.str _ (by decide +kernel) (by decide +kernel)) .nil)))) (sx _ _) (fun h => x48 (V.ref.inj h)) nofun e48 fun B4 gr => ?_
    replace hb := grow_bx gr (fun h => o47 (V.ref.inj h)) nofun hb
    replace kp0 := grow_keep kp0 gr (fun a e => .inr ⟨_, V.ref.inj e ▸ e47⟩) nofun
    replace e3 := gr _ _ e3 fun _ _ => ⟨fun h => g47 (V.ref.inj h), nofun⟩
    replace e4 := gr _ _ e4 fun _ e => nomatch e
    replace e47 := gr _ _ e47 fun _ e => nomatch e
    clear e48 x48 gr
    walk_at "g"
    refine ⟨show 2 ≤ sizeLine by decide, fun p49 hp49 => ?_⟩
    have tt : Same B4 (upd B4 p49 (.lst [V.str "word", V.non])) := (Same.refl B4).at hp49 _
    have e49 : (upd B4 p49 (.lst [V.str "word", V.non])) p49 = some (.lst [V.str "word", V.non]) := upd_same
    have o49 : p49 ≠ b := fun h => by subst h; exact absurd hp49 (by obtain ⟨_, _, _, e, _⟩ := hb; rw [e]; exact fun e => nomatch e)
    have g49 : p49 ≠ p3 := fun h => by subst h; exact absurd hp49 (by rw [e3]; exact fun e => nomatch e)
    have x49 : p47 ≠ p49 := fun h => by subst h; cases e47.symm.trans hp49
    replace hb := hb.new (o := .lst [V.str "word", V.non]) hp49
    replace kp0 := kp0.trans (Keep.same tt)
    replace e3 := tt _ _ e3
    replace e4 := tt _ _ e4
    replace e47 := tt _ _ e47
    generalize (upd B4 p49 (.lst [V.str "word", V.non])) = A56 at tt hb kp0 e3 e4 e47 e49 ⊢
    clear tt hp49
    walk_at "g"
    refine call_word (n := 41) (d := .tuple [.list (rep m "a"), .none, .str ""]) (e := .none) s3 rfl rfl s4 (by decide +kernel) (show 0 ≤ 41 by decide) (show 0 ≤ 41 by decide) (by decide) (.tup e47 nofun (.cons (.lst e3 nofun (reps (by decide +kernel) (by decide +kernel) m)) (.cons .non (.cons (.str _ (by decide +kernel) (by decide +kernel)) .nil)))) .non (fun h => x49 (V.ref.inj h)) nofun e49 fun B5 gr => ?_
    replace hb := grow_bx gr (fun h => o47 (V.ref.inj h)) nofun hb
    replace kp0 := grow_keep kp0 gr (fun a e => .inr ⟨_, V.ref.inj e ▸ e47⟩) nofun
    replace e3 := gr _ _ e3 fun _ _ => ⟨fun h => g47 (V.ref.inj h), nofun⟩
    replace e4 := gr _ _ e4 fun _ e => nomatch e
    replace e47 := gr _ _ e47 fun _ e => nomatch e
    clear e49 x49 gr
    walk_at "g"
    obtain ⟨gb, gn⟩ := good_told m hm q hq
    refine ⟨fun _ => False, fun _ => False, _, _, .tuple [.list (rep m "a"), .str "be", .str q], .str "bee", 4, rfl, ⟨by decide, rfl, fun q => absurd q (by decide), fun _ _ _ => by decide +kernel⟩, .tup e4 id (.cons (.lst e3 id (reps (by decide +kernel) (by decide +kernel) m)) (.cons (.str _ (by decide +kernel) (by decide +kernel)) (.cons (sg _ _) .nil))), fun _ => .str _ (by decide +kernel) (by decide +kernel), fun l1 B6 hl t6 h6 => ?_⟩
    rw [told4 s1 gb] at h6
    replace e3 := t6 _ _ e3
    replace e47 := t6 _ _ e47
    walk_at "g"
    refine ⟨show 2 ≤ sizeLine by decide, fun p50 hp50 => ?_⟩
    have t7 := (Same.refl B6).new hp50 (HO.lst [V.str "told", V.non])
    have e50 : upd B6 p50 (HO.lst [V.str "told", V.non]) p50 = some (HO.lst [V.str "told", V.non]) := upd_same
    generalize upd B6 p50 (HO.lst [V.str "told", V.non]) = B7 at t7 e50 ⊢
    refine eq_told (t7 _ _ h6) e50 ?_
    refine ⟨true, rfl, iteT ?_⟩
    replace e3 := t7 _ _ e3
    replace e47 := t7 _ _ e47
    walk_at "g"
    refine ⟨fun _ => False, fun _ => False, _, _, .tuple [.list (rep m "a"), .none, .str ""], .str "", 4, rfl, ⟨by decide, rfl, fun q => absurd q (by decide), fun _ _ _ => by decide +kernel⟩, .tup e47 id (.cons (.lst e3 id (reps (by decide +kernel) (by decide +kernel) m)) (.cons .non (.cons (.str _ (by decide +kernel) (by decide +kernel)) .nil))), fun _ => .str _ (by decide +kernel) (by decide +kernel), fun l2 B8 hl2 t8 h8 => ?_⟩
    rw [told4 s3 gn] at h8
    walk_at "g"
    refine ⟨show 2 ≤ sizeLine by decide, fun p51 hp51 => ?_⟩
    have t9 := (Same.refl B8).new hp51 (HO.lst [V.str "told", V.non])
    have e51 : upd B8 p51 (HO.lst [V.str "told", V.non]) p51 = some (HO.lst [V.str "told", V.non]) := upd_same
    generalize upd B8 p51 (HO.lst [V.str "told", V.non]) = B9 at t9 e51 ⊢
    refine eq_told (t9 _ _ h8) e51 ?_
    have ts := ((t6.trans t7).trans t8).trans t9
    refine k B9 (kp0.trans (Keep.same ts)) ?_
    obtain ⟨u, v, w, e, r⟩ := hb
    exact ⟨u, v, w, ts _ _ e, r⟩
end
end K07

namespace K07
open PySem PySem.Spec PyProof.Rows L2 J M
local macro_rules | `(tactic| walk_at "hp") => `(tactic| first | assumption | exact upd_same | (rw [upd_ne (by assumption)]; walk_at "hp") | (rw [upd_ne (Ne.symm (by assumption))]; walk_at "hp"))
local macro_rules | `(tactic| walk_at "s") => `(tactic| first
  | ((with_reducible refine' r_var ?h ?k); (case h => exact rfl))
  | (with_reducible refine r_c ?_)
  | (with_reducible refine r_op ?_)
  | (with_reducible refine r_un ?_)
  | (with_reducible refine r_seq ?_)
  | (with_reducible refine r_next ?_)
  | (with_reducible refine r_sets ?_)
  | (with_reducible refine r_gname ?_)
  | (with_reducible refine r_ifS ?_)
  | (with_reducible refine r_gsub ?_)
  | (with_reducible refine r_test ?_)
  | (with_reducible refine r_tb ?_)
  | (with_reducible refine r_not ?_)
  | (with_reducible refine r_and ?_)
  | (with_reducible refine r_or ?_)
  | (with_reducible refine r_andV ?_)
  | (with_reducible refine r_orV ?_)
  | (with_reducible refine r_notV ?_)
  | (with_reducible refine r_ifE ?_)
  | (with_reducible refine r_chain ?_)
  | (with_reducible refine r_cb ?_)
  | (with_reducible refine r_cons ?_)
  | (with_reducible refine r_nil ?_)
  | (with_reducible refine r_call ?_)
  | (with_reducible refine r_lst ?_)
  | (with_reducible refine r_tup ?_)
  | (with_reducible refine r_slice ?_)
  | (with_reducible refine r_nop ?_)
  | (with_reducible refine r_part ?_)
  | (with_reducible refine r_bm ?_)
  | (with_reducible refine r_m1 ?_)
  | (with_reducible refine r_m0 ?_)
  | (with_reducible refine r_is ?_)
  | (with_reducible refine r_maxD ?_)
  | (with_reducible refine r_orT ?_)
  | (with_reducible refine r_truN ?_)
  | (with_reducible refine r_intI ?_)
  | (with_reducible refine r_intB ?_)
  | (with_reducible refine r_max2 ?_)
  | (with_reducible refine r_min2 ?_)
  | (with_reducible refine r_yes ?_)
  | (with_reducible refine r_bl ?_)
  | (with_reducible refine iteT ?_)
  | (with_reducible refine iteF ?_)
  | (with_reducible refine r_iteNT ?_)
  | (with_reducible refine r_iteNF ?_)
  | (with_reducible refine r_minL ?_)
  | (with_reducible refine r_gcons ?_)
  | (with_reducible refine r_gnil ?_)
  | (with_reducible refine r_par ?_)
  | (with_reducible refine r_par3 ?_)
  | (with_reducible refine r_is2 ?_)
  | (with_reducible refine r_is3 ?_)
  | (with_reducible refine r_dget ?_)
  | (with_reducible refine r_callS ?_)
  | (with_reducible refine r_rz ?_)
  | (with_reducible refine r_rev ?_)
  | (with_reducible refine r_isI ?_)
  | (with_reducible refine r_isStr ?_)
  | (with_reducible refine r_ret ?_)
  | (with_reducible refine r_drop ?_)
  | (with_reducible refine r_rI0 ?_)
  | (with_reducible refine r_addI ?_)
  | ((with_reducible show rI (fun _ j => 0 < j) _ (.int _) (.int _) _ _); refine r_rI (by first | omega | decide) ?_)
  | ((with_reducible show rI CDiv _ (.int _) (.int _) _ _); refine r_rI (by constructor <;> omega) ?_)
  | ((with_reducible show rI CPow _ (.int _) (.int _) _ _); refine r_rI (by refine ⟨by decide, by decide, ?_⟩; omega) ?_)
  | ((with_reducible show rMul (.int _) (.int _) _ _); refine r_mulI (cmulW (by omega) (by omega)) ?_)
  | (with_reducible refine r_cmpI ?_)
  | (with_reducible refine r_cmpS ?_)
  | (with_reducible refine r_eqI ?_)
  | (with_reducible refine r_neI ?_)
  | (with_reducible refine r_eqS ?_)
  | (with_reducible refine r_neS ?_)
  | (with_reducible refine r_inSF ?_)
  | (with_reducible refine r_inST ?_)
  | (with_reducible refine r_isiStr ?_)
  | ((with_reducible show rIx _ (.ref _) (.int _) _ _); refine' r_ixL (SqL.of ?h) ?e ?_; (case h => walk_at "hp"); (case e => rfl))
  | ((with_reducible show rSetL (.ref _) (.int _) _ _ _); refine' r_setL ?h ?e ?_; (case h => walk_at "hp"); (case e => rfl)))
local macro_rules | `(tactic| walk_at "g") => `(tactic| repeat walk_at "s")


local macro_rules | `(tactic| walk_at "x") => `(tactic| first | omega | (simp only [one_nl, one_bs, one_q1, one_q2, qS_nil, qS_q1, one_qS, mem_part, mem_qs, mem_all]; omega))
local macro_rules | `(tactic| walk_at "d") => `(tactic| first
  | (with_reducible refine iteDT (by walk_at "x") ?_)
  | (with_reducible refine iteDF (by walk_at "x") ?_)
  | (with_reducible refine iteNT (by walk_at "x") ?_)
  | (with_reducible refine iteNF (by walk_at "x") ?_))
local macro_rules | `(tactic| walk_at "G") => `(tactic| repeat (first | walk_at "s" | walk_at "d"))
section
variable {P : Program} {w : World} {K : PySem.W.Frag} {mg : Str → Option Value} {base : Heap} {CL CI CS CW CB CT : Addr}
theorem ok_bounds (T : Tx K mg) (O_NoLine : OE P w K mg base "NoLine" "found" CL) (O_NoList : OE P w K mg base "NoList" "found" CI) (O_NoState : OE P w K mg base "NoState" "found" CS) (O_NoWord : OE P w K mg base "NoWord" "found" CW) (O_BadSign : OE P w K mg base "BadSign" "at" CB) (O_TooMany : OL P w K mg base "TooMany" "many" CT) (TQ : TK K CL CI CS CW CB CT) {f f_law_told f_law_asked f_cut f_state_of f_quoted f_joined f_quoted_behind f_shows_cut f_are_alike f_cut_plainly f_scanned f_refuse_too_many f_is_line f_are_signs f_longer f_ways f_escaped f_is_word f_are_words f_is_state f_written_behind f_rest_quoted f_law_pick f_law_take : Addr} {fd fd_law_told fd_law_asked fd_cut fd_state_of fd_quoted fd_joined fd_quoted_behind fd_shows_cut fd_are_alike fd_cut_plainly fd_scanned fd_refuse_too_many fd_is_line fd_are_signs fd_longer fd_ways fd_escaped fd_is_word fd_are_words fd_is_state fd_written_behind fd_rest_quoted fd_law_pick fd_law_take : FuncData} (F : Fun K "_law_bounds_right" "_law_bounds_right" s_law_bounds_right f fd)
    (D_law_told : DAt K mg "_law_told" s_law_told P_law_told f_law_told fd_law_told)
    (D_law_asked : DAt K mg "_law_asked" s_law_asked P_law_asked f_law_asked fd_law_asked)
    (D_cut : DAt K mg "cut" s_cut P_cut f_cut fd_cut)
    (D_state_of : DAt K mg "state_of" s_state_of P_state_of f_state_of fd_state_of)
    (D_quoted : DAt K mg "quoted" s_quoted P_quoted f_quoted fd_quoted)
    (D_joined : DAt K mg "joined" s_joined P_joined f_joined fd_joined)
    (D_quoted_behind : DAt K mg "quoted_behind" s_quoted_behind P_quoted_behind f_quoted_behind fd_quoted_behind)
    (D_shows_cut : DAt K mg "shows_cut" s_shows_cut P_shows_cut f_shows_cut fd_shows_cut)
    (D_are_alike : DAt K mg "are_alike" s_are_alike P_are_alike f_are_alike fd_are_alike)
    (D_cut_plainly : DAt K mg "_cut_plainly" s_cut_plainly P_cut_plainly f_cut_plainly fd_cut_plainly)
    (D_scanned : DAt K mg "_scanned" s_scanned P_scanned f_scanned fd_scanned)
    (D_refuse_too_many : DAt K mg "_refuse_too_many" s_refuse_too_many P_refuse_too_many f_refuse_too_many fd_refuse_too_many)
    (D_is_line : DAt K mg "is_line" s_is_line P_is_line f_is_line fd_is_line)
    (D_are_signs : DAt K mg "are_signs" s_are_signs P_are_signs f_are_signs fd_are_signs)
    (D_longer : DAt K mg "_longer" s_longer P_longer f_longer fd_longer)
    (D_ways : DAt K mg "_ways" s_ways P_ways f_ways fd_ways)
    (D_escaped : DAt K mg "_escaped" s_escaped P_escaped f_escaped fd_escaped)
    (D_is_word : DAt K mg "is_word" s_is_word P_is_word f_is_word fd_is_word)
    (D_are_words : DAt K mg "are_words" s_are_words P_are_words f_are_words fd_are_words)
    (D_is_state : DAt K mg "is_state" s_is_state P_is_state f_is_state fd_is_state)
    (D_written_behind : DAt K mg "written_behind" s_written_behind P_written_behind f_written_behind fd_written_behind)
    (D_rest_quoted : DAt K mg "_rest_quoted" s_rest_quoted P_rest_quoted f_rest_quoted fd_rest_quoted)
    (D_law_pick : DAt K mg "_law_pick" s_law_pick P_law_pick f_law_pick fd_law_pick)
    (D_law_take : DAt K mg "_law_take" s_law_take P_law_take f_law_take fd_law_take) : FnOk P w K mg base CX0 11 f fd P_law_bounds_right spBnds := by
  have G_law_told : FnOk P w K mg base CX0 10 f_law_told fd_law_told P_law_told spToldE := ok_told T O_NoLine O_NoList O_NoState O_NoWord O_BadSign O_TooMany TQ D_law_told.fn D_law_asked D_cut D_state_of D_quoted D_joined D_quoted_behind D_shows_cut D_are_alike D_cut_plainly D_scanned D_refuse_too_many D_is_line D_are_signs D_longer D_ways D_escaped D_is_word D_are_words D_is_state D_written_behind D_rest_quoted
  have G_law_pick : FnOk P w K mg base CX0 2 f_law_pick fd_law_pick P_law_pick (spPick K) := ok_pick T D_law_pick.fn D_law_take
  refine F.ok sc_law_bounds_right (fun vs H Q E h => ?_) (fun cdv A outer s H vs Q E hr h => ?_)
  · obtain ⟨b, n, rfl, _⟩ := h
    rfl
  · obtain ⟨b, n, rfl, hb, hn, k⟩ := h
    refine ⟨_, (pss_cons (ps_set (i := 1) sc_law_bounds_right.nd rfl (Or.inl rfl) (pe_op oMul (pe_call G_law_pick (hr.mono (by decide)) rfl D_law_pick.gl D_law_pick.fn.kp D_law_pick.bd .nil pass0 (pa_cons (pv 0) (pa_cons (pe_lst (pa_cons pe_str (pa_cons pe_str (pa_cons pe_str (pa_cons pe_str (pa_cons pe_str pa_nil)))))) pa_nil))) pe_int)) (pss_cons (ps_set (i := 2) sc_law_bounds_right.nd rfl (Or.inl rfl) (pe_callB (call_lenA : CallR _ _ (rLen K)) (by rfl) T.z_len (by decide +kernel) (pa_cons (pe_m0 PySem.F.slot_str_split PySem.F.type_str_split mA_words (pe_slice (sl_any : SlR _ (rSl K)) (pv 1) po_none (po_some pe_int))) pa_nil))) (pss_cons (ps_set (i := 3) sc_law_bounds_right.nd rfl (Or.inl rfl) (pe_ix (ix_seq : IxR _ (rIx K)) (pe_lst (pa_cons (pe_lst (pa_cons pe_str (pa_cons pe_non pa_nil))) (pa_cons (pe_lst (pa_cons pe_str (pa_cons (pv 2) pa_nil))) pa_nil))) (pe_callTy call_intA (by rfl) T.z_int (by decide +kernel) (pa_cons (pe_cmpR op_gtA (pv 2) pe_int (nomark _)) pa_nil)) (fun _ _ => rfl))) (pss_cons (ps_for (PassesOwn.never) rfl (asSeq (K := K) rfl (pi_seq (pe_tup (pa_cons pe_int (pa_cons pe_int pa_nil))))) (pg_name (i := 4) sc_law_bounds_right.nd rfl (Or.inl rfl)) (pss_cons (ps_if (PW.pt (pw_or (pt_cmpR ((op_neA hr.units) : OpR _ _ (rNeA K)) (pe_call G_law_told (hr.mono (by decide)) rfl D_law_told.gl D_law_told.fn.kp D_law_told.bd .nil pass0 (pa_cons (pv 4) (pa_cons (pe_slice (sl_any : SlR _ (rSl K)) (pv 1) po_none (po_some pe_int)) (pa_cons pe_non pa_nil)))) (pv 3) (nomark _)) (pw_or1 (pt_cmpR ((op_neA hr.units) : OpR _ _ (rNeA K)) (pe_call G_law_told (hr.mono (by decide)) rfl D_law_told.gl D_law_told.fn.kp D_law_told.bd .nil pass0 (pa_cons (pv 4) (pa_cons (pe_slice (sl_any : SlR _ (rSl K)) (pv 1) po_none (po_some pe_int)) (pa_cons pe_non pa_nil)))) (pe_lst (pa_cons pe_str (pa_cons (pe_slice (sl_any : SlR _ (rSl K)) (pv 1) po_none (po_some pe_int)) pa_nil))) (nomark _))))) (pss_one (ps_ret pe_bl)) pss_nil) (pss_cons (ps_if (PW.pt (pw_or (pt_cmpR ((op_neA hr.units) : OpR _ _ (rNeA K)) (pe_call G_law_told (hr.mono (by decide)) rfl D_law_told.gl D_law_told.fn.kp D_law_told.bd .nil pass0 (pa_cons (pv 4) (pa_cons (pe_op oMul pe_str pe_int) (pa_cons pe_non pa_nil)))) (pe_lst (pa_cons pe_str (pa_cons pe_non pa_nil))) (nomark _)) (pw_or1 (pt_cmpR ((op_neA hr.units) : OpR _ _ (rNeA K)) (pe_call G_law_told (hr.mono (by decide)) rfl D_law_told.gl D_law_told.fn.kp D_law_told.bd .nil pass0 (pa_cons (pv 4) (pa_cons (pe_op (oAdd : OpR _ _ (J.rAdd K)) (pe_op oMul pe_str pe_int) pe_str) (pa_cons pe_non pa_nil)))) (pe_lst (pa_cons pe_str (pa_cons pe_int pa_nil))) (nomark _))))) (pss_one (ps_ret pe_bl)) pss_nil) (pss_one (ps_if (pt_cmpR ((op_neA hr.units) : OpR _ _ (rNeA K)) (pe_call G_law_told (hr.mono (by decide)) rfl D_law_told.gl D_law_told.fn.kp D_law_told.bd .nil pass0 (pa_cons (pv 4) (pa_cons (pe_op (oAdd : OpR _ _ (J.rAdd K)) (pe_op oMul pe_str pe_int) pe_str) (pa_cons pe_non pa_nil)))) (pe_ix (ix_seq : IxR _ (rIx K)) (pe_lst (pa_cons (pe_lst (pa_cons pe_str (pa_cons pe_int pa_nil))) (pa_cons (pe_lst (pa_cons pe_str (pa_cons pe_int pa_nil))) pa_nil))) (pv 4) (fun _ _ => rfl)) (nomark _)) (pss_one (ps_ret pe_bl)) pss_nil))))) (pss_one (ps_ret (pe_and (pe_cmpR ((op_eqA hr.units) : OpR _ _ (rEqA K)) (pe_call G_law_told (hr.mono (by decide)) rfl D_law_told.gl D_law_told.fn.kp D_law_told.bd .nil pass0 (pa_cons pe_int (pa_cons pe_str (pa_cons pe_str pa_nil)))) (pe_lst (pa_cons pe_str (pa_cons pe_int pa_nil))) (nomark _)) (pe_one (pe_cmpR ((op_eqA hr.units) : OpR _ _ (rEqA K)) (pe_call G_law_told (hr.mono (by decide)) rfl D_law_told.gl D_law_told.fn.kp D_law_told.bd .nil pass0 (pa_cons pe_int (pa_cons pe_str (pa_cons pe_non pa_nil)))) (pe_lst (pa_cons pe_str (pa_cons pe_int pa_nil))) (nomark _)))))))))), ?_⟩
    walk_at "g"
    refine ⟨show 5 ≤ sizeLine by decide, fun p1 hp1 => ?_⟩
    have e1 : upd H p1 (.lst [V.str " ", V.str "\n", V.str "a ", V.str "'' ", V.str " \n"]) p1 = some (.lst [V.str " ", V.str "\n", V.str "a ", V.str "'' ", V.str " \n"]) := upd_same
    have o1 : p1 ≠ b := hb.ne hp1
    have kp0 : Keep b H (upd H p1 (.lst [V.str " ", V.str "\n", V.str "a ", V.str "'' ", V.str " \n"])) := Keep.same ((Same.refl H).at hp1 _)
    replace hb := hb.new (o := .lst [V.str " ", V.str "\n", V.str "a ", V.str "'' ", V.str " \n"]) hp1
    generalize upd H p1 (.lst [V.str " ", V.str "\n", V.str "a ", V.str "'' ", V.str " \n"]) = H1 at e1 kp0 hb ⊢
    walk_at "g"
    refine ⟨b, _, hb, by omega, .inr ⟨p1, _, rfl, o1, SqL.of e1, show 0 < 5 by decide, show 5 ≤ 1000 by decide, fun v A hv kk _ => ?_⟩⟩
    replace kp0 := kp0.trans kk
    obtain ⟨v, rfl, big⟩ : ∃ z : Str, v = .str z ∧ Big z := by
      rcases List.mem_cons.mp hv with rfl | hv  -- own
      · exact ⟨_, rfl, big_sp⟩
      rcases List.mem_cons.mp hv with rfl | hv  -- own
      · exact ⟨_, rfl, big_nl⟩
      rcases List.mem_cons.mp hv with rfl | hv  -- own
      · exact ⟨_, rfl, big_as⟩
      rcases List.mem_cons.mp hv with rfl | hv  -- own
      · exact ⟨_, rfl, big_qq⟩
      rcases List.mem_cons.mp hv with rfl | hv  -- own
      · exact ⟨_, rfl, big_sn⟩
      · exact (List.not_mem_nil hv).elim
    clear hv kk hb e1 o1 hp1
    have ss : Same A A := Same.refl A
    walk_at "g"
    refine r_mulS (mul_ok2 (n := 2001) big.sm (by decide)) ?_
    have c1 : cutS (Txt.mul v (2001 : Int)) none (some 2000) = S ((List.replicate 2001 (cd v)).flatten.take 2000) := (cutS_take (Txt.mul v (2001 : Int)) 2000).trans (by rw [show cd (Txt.mul v (2001 : Int)) = _ from mul_cd v 2001])
    have c2 : cutS (Txt.mul v (2001 : Int)) none (some 2001) = S ((List.replicate 2001 (cd v)).flatten.take 2001) := (cutS_take (Txt.mul v (2001 : Int)) 2001).trans (by rw [show cd (Txt.mul v (2001 : Int)) = _ from mul_cd v 2001])
    have zl : (Txt.mul v (2001 : Int)).length ≤ 1000000 := by
      rw [len_cd, show cd (Txt.mul v (2001 : Int)) = _ from mul_cd v 2001, rep_len, ← len_cd]
      have := big.sm
      omega
    obtain ⟨r20, r21⟩ := big.long
    have r10 := big.r0
    have r11 := big.r1
    have few := big.few
    have l1 : (S ((List.replicate 2001 (cd v)).flatten.take 2000)).length = 2000 := by rw [S_len]; exact big.n1
    have l2 : (S ((List.replicate 2001 (cd v)).flatten.take 2001)).length = 2001 := by rw [S_len]; exact big.n2
    have k1 : ∀ c ∈ cd (S ((List.replicate 2001 (cd v)).flatten.take 2000)), c ≤ 126 := fun c hc => by rw [cd_S] at hc; exact big.ok c (rep_mem (List.mem_of_mem_take hc))
    have k2 : ∀ c ∈ cd (S ((List.replicate 2001 (cd v)).flatten.take 2001)), c ≤ 126 := fun c hc => by rw [cd_S] at hc; exact big.ok c (rep_mem (List.mem_of_mem_take hc))
    clear big
    generalize S ((List.replicate 2001 (cd v)).flatten.take 2000) = z1 at c1 l1 k1 r10 r11 few ⊢
    generalize S ((List.replicate 2001 (cd v)).flatten.take 2001) = z2 at c2 l2 k2 r20 r21 ⊢
    generalize Txt.mul v (2001 : Int) = Z at c1 c2 zl ⊢
    walk_at "g"
    refine r_slS (Nat.le_trans zl (by decide)) ?_
    rw [c1]
    walk_at "g"
    refine r_words (show z1.length + 2 ≤ sizeLine by rw [l1]; decide) fun p2 hp2 => ?_
    have tt : Same A (upd A p2 (.lst ((plainWs z1).map wV))) := (Same.refl A).at hp2 _
    have e2 : (upd A p2 (.lst ((plainWs z1).map wV))) p2 = some (.lst ((plainWs z1).map wV)) := upd_same
    replace ss := ss.trans tt
    generalize (upd A p2 (.lst ((plainWs z1).map wV))) = C1 at tt ss e2 ⊢
    clear tt hp2
    walk_at "g"
    refine r_lenL (SqL.of e2) ?_
    rw [show ((plainWs z1).map wV).length = (Txt.words z1).length by unfold plainWs; rw [List.length_map, List.length_map]]
    generalize (Txt.words z1).length = m at r10 r11 few ⊢
    clear e2
    walk_at "g"
    refine ⟨show 2 ≤ sizeLine by decide, fun p3 hp3 => ?_⟩
    have tt : Same C1 (upd C1 p3 (.lst [V.str "told", V.non])) := (Same.refl C1).at hp3 _
    have e3 : (upd C1 p3 (.lst [V.str "told", V.non])) p3 = some (.lst [V.str "told", V.non]) := upd_same
    replace ss := ss.trans tt
    generalize (upd C1 p3 (.lst [V.str "told", V.non])) = C2 at tt ss e3 ⊢
    clear tt hp3
    walk_at "g"
    refine ⟨show 2 ≤ sizeLine by decide, fun p4 hp4 => ?_⟩
    have tt : Same C2 (upd C2 p4 (.lst [V.str "many", V.int (m : Nat)])) := (Same.refl C2).at hp4 _
    have e4 : (upd C2 p4 (.lst [V.str "many", V.int (m : Nat)])) p4 = some (.lst [V.str "many", V.int (m : Nat)]) := upd_same
    replace ss := ss.trans tt
    replace e3 := tt _ _ e3
    generalize (upd C2 p4 (.lst [V.str "many", V.int (m : Nat)])) = C3 at tt ss e3 e4 ⊢
    clear tt hp4
    walk_at "g"
    refine ⟨show 2 ≤ sizeLine by decide, fun p5 hp5 => ?_⟩
    have tt : Same C3 (upd C3 p5 (.lst [V.ref p3, V.ref p4])) := (Same.refl C3).at hp5 _
    have e5 : (upd C3 p5 (.lst [V.ref p3, V.ref p4])) p5 = some (.lst [V.ref p3, V.ref p4]) := upd_same
    replace ss := ss.trans tt
    replace e3 := tt _ _ e3
    replace e4 := tt _ _ e4
    generalize (upd C3 p5 (.lst [V.ref p3, V.ref p4])) = C4 at tt ss e3 e4 e5 ⊢
    clear tt hp5
    walk_at "g"
    obtain ⟨q6, hq6, e6⟩ : ∃ q : Addr, atI [V.ref p3, V.ref p4] (if decide ((m : Int) > 40) = true then 1 else 0) = some (.ref q) ∧ C4 q = some (.lst (outs (manyR m) (.str z1) .non)) := by
      by_cases c : 40 < m
      · refine ⟨p4, by rw [decide_eq_true (by omega : (m : Int) > 40)]; rfl, ?_⟩
        rw [show manyR m = .many m from if_pos c]
        exact e4
      · refine ⟨p3, by rw [decide_eq_false (by omega : ¬ (m : Int) > 40)]; rfl, ?_⟩
        rw [show manyR m = .told from if_neg c]
        exact e3
    refine r_ixL (SqL.of e5) hq6 ?_
    clear hq6 e3 e4 e5
    walk_at "g"
    refine r_for (r_iseq ?_)
    walk_at "g"
    refine ⟨show 2 ≤ sizeLine by decide, fun p7 hp7 => ?_⟩
    have tt : Same C4 (upd C4 p7 (.tup [V.int 0, V.int 1])) := (Same.refl C4).at hp7 _
    have e7 : (upd C4 p7 (.tup [V.int 0, V.int 1])) p7 = some (.tup [V.int 0, V.int 1]) := upd_same
    replace ss := ss.trans tt
    replace e6 := tt _ _ e6
    generalize (upd C4 p7 (.tup [V.int 0, V.int 1])) = C5 at tt ss e6 e7 ⊢
    clear tt hp7
    have SS0 := ss
    clear ss
    refine ⟨p7, _, rfl, .inr ⟨SqT.of e7, ?_⟩⟩
    refine loop_seq (seqIt_t (SqT.of e7)) (fun _ σ' H' => ∃ o : Option V, σ' = [some (.ref b), some (.str Z), some (.int (m : Nat)), some (.ref q6), o] ∧ Same C5 H') (fun _ _ _ ⟨_, _, s⟩ => s) ⟨_, rfl, Same.refl _⟩ (fun i x σ1 D0 hx w => ?_) (fun σ1 D0 w => ?_)
    · obtain ⟨o, rfl, s0⟩ := w
      obtain ⟨j, rfl, hj⟩ : ∃ j : Nat, x = .int (j : Nat) ∧ (j = 0 ∨ j = 1) := by
        rcases (show i = 0 ∨ i = 1 by have := (List.getElem?_eq_some_iff.mp hx).1; have : i < 2 := this; omega) with rfl | rfl
        · cases hx; exact ⟨0, rfl, .inl rfl⟩
        · cases hx; exact ⟨1, rfl, .inr rfl⟩
      clear hx
      replace e6 := s0 _ _ e6
      obtain ⟨⟨t80, s80⟩, ⟨t81, s81⟩, ⟨t82, s82⟩, _, _⟩ := res_80
      have R1 : res j (.str z1) .none = manyR m := by rcases hj with rfl | rfl; exact r10; exact r11
      have R2 : res j (.str z2) .none = .found 0 false := by rcases hj with rfl | rfl; exact r20; exact r21
      have R3 : res j (.str (Txt.mul "a " 40)) .none = .told := by rcases hj with rfl | rfl; exact t80; exact s80
      have R4 : res j (.str (Txt.mul "a " 40 ++ "b")) .none = .many 41 := by rcases hj with rfl | rfl; exact t81; exact s81
      have R5 : res j (.str (Txt.mul "a " 40 ++ "'b")) .none = if j = 0 then .sign 80 else .many 41 := by rcases hj with rfl | rfl; exact t82; exact s82
      obtain ⟨u1, u2, u3, v1, v2, v3⟩ := cd_80
      have m40 : MulOk "a " (40 : Int) := mul_ok (n := 40) (by decide +kernel) (by decide)
      have ok : ∀ z : Str, okIn j (.str z) .none := fun z => ⟨by omega, rfl, fun q => by omega, fun q => by omega⟩
      clear t80 s80 t81 s81 t82 s82 r10 r11 r20 r21
      have ss : Same D0 D0 := Same.refl D0
      show gName 4 (.int (j : Nat)) _ _ _
      generalize hA : Txt.mul (Str.ofString "a ") (40 : Int) = A80 at R3 R4 R5 u1 u2 u3 v1 v2 v3 ⊢
      replace hj : j ≤ 1 := by omega
      walk_at "g"
      refine r_slS (Nat.le_trans zl (by decide)) ?_
      rw [c1]
      walk_at "g"
      refine ⟨fun _ => False, fun _ => False, _, _, .str z1, .none, j, rfl, ok _, .str _ (by rw [l1]; decide) k1, fun _ => .non, fun p8 C1 _ tt e8 => ?_⟩
      rw [R1] at e8
      replace ss := ss.trans tt
      replace e6 := tt _ _ e6
      clear tt
      walk_at "g"
      refine ne_outs k1 e8 e6 ?_
      walk_at "g"
      refine r_slS (Nat.le_trans zl (by decide)) ?_
      rw [c2]
      walk_at "g"
      refine ⟨fun _ => False, fun _ => False, _, _, .str z2, .none, j, rfl, ok _, .str _ (by rw [l2]; decide) k2, fun _ => .non, fun p9 C2 _ tt e9 => ?_⟩
      rw [R2] at e9
      replace ss := ss.trans tt
      replace e6 := tt _ _ e6
      replace e8 := tt _ _ e8
      clear tt
      walk_at "g"
      refine r_slS (Nat.le_trans zl (by decide)) ?_
      rw [c2]
      walk_at "g"
      refine ⟨show 2 ≤ sizeLine by decide, fun p10 hp10 => ?_⟩
      have tt : Same C2 (upd C2 p10 (.lst [V.str "line", V.str z2])) := (Same.refl C2).at hp10 _
      have e10 : (upd C2 p10 (.lst [V.str "line", V.str z2])) p10 = some (.lst [V.str "line", V.str z2]) := upd_same
      replace ss := ss.trans tt
      replace e6 := tt _ _ e6
      replace e8 := tt _ _ e8
      replace e9 := tt _ _ e9
      generalize (upd C2 p10 (.lst [V.str "line", V.str z2])) = C3 at tt ss e6 e8 e9 e10 ⊢
      clear tt hp10
      refine ne_outs (r := .found 0 false) k2 e9 e10 ?_
      walk_at "g"
      refine r_mulS m40 ?_
      rw [hA]
      walk_at "g"
      refine ⟨fun _ => False, fun _ => False, _, _, .str A80, .none, j, rfl, ok _, .str _ (by omega) u1, fun _ => .non, fun p11 C4 _ tt e11 => ?_⟩
      rw [R3] at e11
      replace ss := ss.trans tt
      clear tt
      walk_at "g"
      refine ⟨show 2 ≤ sizeLine by decide, fun p12 hp12 => ?_⟩
      have tt : Same C4 (upd C4 p12 (.lst [V.str "told", V.non])) := (Same.refl C4).at hp12 _
      have e12 : (upd C4 p12 (.lst [V.str "told", V.non])) p12 = some (.lst [V.str "told", V.non]) := upd_same
      replace ss := ss.trans tt
      replace e11 := tt _ _ e11
      generalize (upd C4 p12 (.lst [V.str "told", V.non])) = C5 at tt ss e11 e12 ⊢
      clear tt hp12
      refine ne_outs (r := .told) u1 e11 e12 ?_
      walk_at "g"
      refine r_mulS m40 ?_
      rw [hA]
      walk_at "g"
      refine r_addS (show A80.length + (Str.ofString "b").length ≤ sizeLine from Nat.le_trans (Nat.add_le_add v1 (show (Str.ofString "b").length ≤ 1 by decide +kernel)) (by decide)) ?_
      walk_at "g"
      refine ⟨fun _ => False, fun _ => False, _, _, .str (A80 ++ "b"), .none, j, rfl, ok _, .str _ (by exact Nat.le_trans v2 (by decide)) u2, fun _ => .non, fun p13 C6 _ tt e13 => ?_⟩
      rw [R4] at e13
      replace ss := ss.trans tt
      clear tt
      walk_at "g"
      refine ⟨show 2 ≤ sizeLine by decide, fun p14 hp14 => ?_⟩
      have tt : Same C6 (upd C6 p14 (.lst [V.str "many", V.int 41])) := (Same.refl C6).at hp14 _
      have e14 : (upd C6 p14 (.lst [V.str "many", V.int 41])) p14 = some (.lst [V.str "many", V.int 41]) := upd_same
      replace ss := ss.trans tt
      replace e13 := tt _ _ e13
      generalize (upd C6 p14 (.lst [V.str "many", V.int 41])) = C7 at tt ss e13 e14 ⊢
      clear tt hp14
      refine ne_outs (r := .many 41) u2 e13 e14 ?_
      walk_at "g"
      refine r_mulS m40 ?_
      rw [hA]
      walk_at "g"
      refine r_addS (show A80.length + (Str.ofString "'b").length ≤ sizeLine from Nat.le_trans (Nat.add_le_add v1 (show (Str.ofString "'b").length ≤ 2 by decide +kernel)) (by decide)) ?_
      walk_at "g"
      refine ⟨fun _ => False, fun _ => False, _, _, .str (A80 ++ "'b"), .none, j, rfl, ok _, .str _ (by exact Nat.le_trans v3 (by decide)) u3, fun _ => .non, fun p15 C8 _ tt e15 => ?_⟩
      rw [R5] at e15
      replace ss := ss.trans tt
      clear tt
      walk_at "g"
      refine ⟨show 2 ≤ sizeLine by decide, fun p16 hp16 => ?_⟩
      have tt : Same C8 (upd C8 p16 (.lst [V.str "sign", V.int 80])) := (Same.refl C8).at hp16 _
      have e16 : (upd C8 p16 (.lst [V.str "sign", V.int 80])) p16 = some (.lst [V.str "sign", V.int 80]) := upd_same
      replace ss := ss.trans tt
      replace e15 := tt _ _ e15
      generalize (upd C8 p16 (.lst [V.str "sign", V.int 80])) = C9 at tt ss e15 e16 ⊢
      clear tt hp16
      walk_at "g"
      refine ⟨show 2 ≤ sizeLine by decide, fun p17 hp17 => ?_⟩
      have tt : Same C9 (upd C9 p17 (.lst [V.str "many", V.int 41])) := (Same.refl C9).at hp17 _
      have e17 : (upd C9 p17 (.lst [V.str "many", V.int 41])) p17 = some (.lst [V.str "many", V.int 41]) := upd_same
      replace ss := ss.trans tt
      replace e15 := tt _ _ e15
      replace e16 := tt _ _ e16
      generalize (upd C9 p17 (.lst [V.str "many", V.int 41])) = C10 at tt ss e15 e16 e17 ⊢
      clear tt hp17
      walk_at "g"
      refine ⟨show 2 ≤ sizeLine by decide, fun p18 hp18 => ?_⟩
      have tt : Same C10 (upd C10 p18 (.lst [V.ref p16, V.ref p17])) := (Same.refl C10).at hp18 _
      have e18 : (upd C10 p18 (.lst [V.ref p16, V.ref p17])) p18 = some (.lst [V.ref p16, V.ref p17]) := upd_same
      replace ss := ss.trans tt
      replace e15 := tt _ _ e15
      replace e16 := tt _ _ e16
      replace e17 := tt _ _ e17
      generalize (upd C10 p18 (.lst [V.ref p16, V.ref p17])) = C11 at tt ss e15 e16 e17 e18 ⊢
      clear tt hp18
      walk_at "g"
      obtain ⟨q19, hq19, e19⟩ : ∃ q : Addr, atI [V.ref p16, V.ref p17] (j : Nat) = some (.ref q) ∧ C11 q = some (.lst (outs (if j = 0 then R.sign 80 else .many 41) (.str (A80 ++ "'b")) .non)) := by
        rcases (show j = 0 ∨ j = 1 by omega) with rfl | rfl
        · exact ⟨p16, rfl, e16⟩
        · exact ⟨p17, rfl, e17⟩
      refine r_ixL (SqL.of e18) hq19 ?_
      refine ne_outs u3 e15 e19 ?_
      walk_at "g"
      exact ⟨_, rfl, s0.trans ss⟩
    · obtain ⟨o, rfl, s0⟩ := w
      obtain ⟨_, _, _, t5, t6⟩ := res_80
      have ss : Same D0 D0 := Same.refl D0
      walk_at "g"
      refine ⟨fun _ => False, fun _ => False, _, _, .str "a", .str "'", 6, rfl, ⟨by decide, rfl, fun q => absurd q (by decide), fun q => absurd q (by decide)⟩, .str _ (by decide +kernel) (by decide +kernel), fun _ => .str _ (by decide +kernel) (by decide +kernel), fun p20 C1 _ tt e20 => ?_⟩
      rw [t5] at e20
      replace ss := ss.trans tt
      clear tt
      walk_at "g"
      refine ⟨show 2 ≤ sizeLine by decide, fun p21 hp21 => ?_⟩
      have tt : Same C1 (upd C1 p21 (.lst [V.str "sign", V.int 0])) := (Same.refl C1).at hp21 _
      have e21 : (upd C1 p21 (.lst [V.str "sign", V.int 0])) p21 = some (.lst [V.str "sign", V.int 0]) := upd_same
      replace ss := ss.trans tt
      replace e20 := tt _ _ e20
      generalize (upd C1 p21 (.lst [V.str "sign", V.int 0])) = C2 at tt ss e20 e21 ⊢
      clear tt hp21
      refine eq_outs (r := .sign 0) (z := "a") (by decide +kernel) e20 e21 ?_
      refine ⟨true, rfl, iteT ?_⟩
      walk_at "g"
      refine ⟨fun _ => False, fun _ => False, _, _, .str "a'", .none, 5, rfl, ⟨by decide, rfl, fun _ => by decide +kernel, fun q => absurd q (by decide)⟩, .str _ (by decide +kernel) (by decide +kernel), fun _ => .non, fun p22 C3 _ tt e22 => ?_⟩
      rw [t6] at e22
      replace ss := ss.trans tt
      clear tt
      walk_at "g"
      refine ⟨show 2 ≤ sizeLine by decide, fun p23 hp23 => ?_⟩
      have tt : Same C3 (upd C3 p23 (.lst [V.str "sign", V.int 1])) := (Same.refl C3).at hp23 _
      have e23 : (upd C3 p23 (.lst [V.str "sign", V.int 1])) p23 = some (.lst [V.str "sign", V.int 1]) := upd_same
      replace ss := ss.trans tt
      replace e22 := tt _ _ e22
      generalize (upd C3 p23 (.lst [V.str "sign", V.int 1])) = C4 at tt ss e22 e23 ⊢
      clear tt hp23
      refine eq_outs (r := .sign 1) (z := "a'") (by decide +kernel) e22 e23 ?_
      exact k _ (kp0.trans (Keep.same (SS0.trans (s0.trans ss))))
end
end K07

namespace K07
open PySem PySem.Spec PyProof.Rows L2 J M
local macro_rules | `(tactic| walk_at "hp") => `(tactic| first | assumption | exact upd_same | (rw [upd_ne (by assumption)]; walk_at "hp") | (rw [upd_ne (Ne.symm (by assumption))]; walk_at "hp"))
local macro_rules | `(tactic| walk_at "s") => `(tactic| first
  | ((with_reducible refine' r_var ?h ?k); (case h => exact rfl))
  | (with_reducible refine r_c ?_)
  | (with_reducible refine r_op ?_)
  | (with_reducible refine r_un ?_)
  | (with_reducible refine r_seq ?_)
  | (with_reducible refine r_next ?_)
  | (with_reducible refine r_sets ?_)
  | (with_reducible refine r_gname ?_)
  | (with_reducible refine r_ifS ?_)
  | (with_reducible refine r_gsub ?_)
  | (with_reducible refine r_test ?_)
  | (with_reducible refine r_tb ?_)
  | (with_reducible refine r_not ?_)
  | (with_reducible refine r_and ?_)
  | (with_reducible refine r_or ?_)
  | (with_reducible refine r_andV ?_)
  | (with_reducible refine r_orV ?_)
  | (with_reducible refine r_notV ?_)
  | (with_reducible refine r_ifE ?_)
  | (with_reducible refine r_chain ?_)
  | (with_reducible refine r_cb ?_)
  | (with_reducible refine r_cons ?_)
  | (with_reducible refine r_nil ?_)
  | (with_reducible refine r_call ?_)
  | (with_reducible refine r_lst ?_)
  | (with_reducible refine r_tup ?_)
  | (with_reducible refine r_slice ?_)
  | (with_reducible refine r_nop ?_)
  | (with_reducible refine r_part ?_)
  | (with_reducible refine r_bm ?_)
  | (with_reducible refine r_m1 ?_)
  | (with_reducible refine r_m0 ?_)
  | (with_reducible refine r_is ?_)
  | (with_reducible refine r_maxD ?_)
  | (with_reducible refine r_orT ?_)
  | (with_reducible refine r_truN ?_)
  | (with_reducible refine r_intI ?_)
  | (with_reducible refine r_intB ?_)
  | (with_reducible refine r_max2 ?_)
  | (with_reducible refine r_min2 ?_)
  | (with_reducible refine r_yes ?_)
  | (with_reducible refine r_bl ?_)
  | (with_reducible refine iteT ?_)
  | (with_reducible refine iteF ?_)
  | (with_reducible refine r_iteNT ?_)
  | (with_reducible refine r_iteNF ?_)
  | (with_reducible refine r_minL ?_)
  | (with_reducible refine r_gcons ?_)
  | (with_reducible refine r_gnil ?_)
  | (with_reducible refine r_par ?_)
  | (with_reducible refine r_par3 ?_)
  | (with_reducible refine r_is2 ?_)
  | (with_reducible refine r_is3 ?_)
  | (with_reducible refine r_dget ?_)
  | (with_reducible refine r_callS ?_)
  | (with_reducible refine r_rz ?_)
  | (with_reducible refine r_rev ?_)
  | (with_reducible refine r_isI ?_)
  | (with_reducible refine r_isStr ?_)
  | (with_reducible refine r_ret ?_)
  | (with_reducible refine r_drop ?_)
  | (with_reducible refine r_rI0 ?_)
  | (with_reducible refine r_addI ?_)
  | ((with_reducible show rI (fun _ j => 0 < j) _ (.int _) (.int _) _ _); refine r_rI (by first | omega | decide) ?_)
  | ((with_reducible show rI CDiv _ (.int _) (.int _) _ _); refine r_rI (by constructor <;> omega) ?_)
  | ((with_reducible show rI CPow _ (.int _) (.int _) _ _); refine r_rI (by refine ⟨by decide, by decide, ?_⟩; omega) ?_)
  | ((with_reducible show rMul (.int _) (.int _) _ _); refine r_mulI (cmulW (by omega) (by omega)) ?_)
  | (with_reducible refine r_cmpI ?_)
  | (with_reducible refine r_cmpS ?_)
  | (with_reducible refine r_eqI ?_)
  | (with_reducible refine r_neI ?_)
  | (with_reducible refine r_eqS ?_)
  | (with_reducible refine r_neS ?_)
  | (with_reducible refine r_inSF ?_)
  | (with_reducible refine r_inST ?_)
  | (with_reducible refine r_isiStr ?_)
  | ((with_reducible show rIx _ (.ref _) (.int _) _ _); refine' r_ixL (SqL.of ?h) ?e ?_; (case h => walk_at "hp"); (case e => rfl))
  | ((with_reducible show rSetL (.ref _) (.int _) _ _ _); refine' r_setL ?h ?e ?_; (case h => walk_at "hp"); (case e => rfl)))
local macro_rules | `(tactic| walk_at "g") => `(tactic| repeat walk_at "s")


local macro_rules | `(tactic| walk_at "x") => `(tactic| first | omega | (simp only [one_nl, one_bs, one_q1, one_q2, qS_nil, qS_q1, one_qS, mem_part, mem_qs, mem_all]; omega))
local macro_rules | `(tactic| walk_at "d") => `(tactic| first
  | (with_reducible refine iteDT (by walk_at "x") ?_)
  | (with_reducible refine iteDF (by walk_at "x") ?_)
  | (with_reducible refine iteNT (by walk_at "x") ?_)
  | (with_reducible refine iteNF (by walk_at "x") ?_))
local macro_rules | `(tactic| walk_at "G") => `(tactic| repeat (first | walk_at "s" | walk_at "d"))
section
variable {P : Program} {w : World} {K : PySem.W.Frag} {mg : Str → Option Value} {base : Heap} {CL CI CS CW CB CT : Addr}
theorem _root_.J.De.some {B : Addr → Prop} {H : Hp} {a : Addr} {d : PyData} (h : De B H (.ref a) d) : H a ≠ none := by
  intro q
  cases h with
  | lst g _ _ => cases g.symm.trans q
  | tup g _ _ => cases g.symm.trans q
  | dct g _ => cases g.symm.trans q
  | one g _ => cases g.symm.trans q
theorem small_due {k : Nat} {d e : PyData} (h : k ≤ 6) : smallR (dueR k d e) = true := by
  have ln : ∀ d, smallR (lineDue d) = true := fun d => by rcases line_cases d with c | c | c <;> rw [c] <;> rfl
  have sn : ∀ r, smallR (sndR r) = smallR r := fun r => by cases r <;> rfl
  rcases (show k = 0 ∨ k = 1 ∨ k = 2 ∨ k = 3 ∨ k = 4 ∨ k = 5 ∨ k = 6 by omega) with rfl | rfl | rfl | rfl | rfl | rfl | rfl
  · exact ln d
  · exact ln d
  · show smallR (bif wdD d then .told else .found 3 false) = true
    cases wdD d <;> rfl
  · show smallR (bif wordsE d then .told else .found 1 false) = true
    cases wordsE d <;> rfl
  · rfl
  · exact ln d
  · show smallR (bth (lineDue d) (lineDue e)) = true
    rcases line_cases d with c | c | c <;> rw [c]
    · rfl
    · rfl
    · show smallR (sndR (lineDue e)) = true
      rw [sn]; exact ln e
theorem ok_law (T : Tx K mg) (O_NoLine : OE P w K mg base "NoLine" "found" CL) (O_NoList : OE P w K mg base "NoList" "found" CI) (O_NoState : OE P w K mg base "NoState" "found" CS) (O_NoWord : OE P w K mg base "NoWord" "found" CW) (O_BadSign : OE P w K mg base "BadSign" "at" CB) (O_TooMany : OL P w K mg base "TooMany" "many" CT) (TQ : TK K CL CI CS CW CB CT) {f f_law_box f_law_take f_law_odd f_law_due f_law_states_right f_law_bounds_right f_law_right f_law_told f_law_asked f_cut f_state_of f_quoted f_joined f_quoted_behind f_shows_cut f_are_alike f_cut_plainly f_scanned f_refuse_too_many f_is_line f_are_signs f_longer f_ways f_escaped f_is_word f_are_words f_is_state f_written_behind f_rest_quoted f_law_pick f_law_line_due f_law_is_word f_law_is_list : Addr} {fd fd_law_box fd_law_take fd_law_odd fd_law_due fd_law_states_right fd_law_bounds_right fd_law_right fd_law_told fd_law_asked fd_cut fd_state_of fd_quoted fd_joined fd_quoted_behind fd_shows_cut fd_are_alike fd_cut_plainly fd_scanned fd_refuse_too_many fd_is_line fd_are_signs fd_longer fd_ways fd_escaped fd_is_word fd_are_words fd_is_state fd_written_behind fd_rest_quoted fd_law_pick fd_law_line_due fd_law_is_word fd_law_is_list : FuncData} (F : Fun K "law" "law" s_law f fd)
    (D_law_box : DAt K mg "_law_box" s_law_box P_law_box f_law_box fd_law_box)
    (D_law_take : DAt K mg "_law_take" s_law_take P_law_take f_law_take fd_law_take)
    (D_law_odd : DAt K mg "_law_odd" s_law_odd P_law_odd f_law_odd fd_law_odd)
    (D_law_due : DAt K mg "_law_due" s_law_due P_law_due f_law_due fd_law_due)
    (D_law_states_right : DAt K mg "_law_states_right" s_law_states_right P_law_states_right f_law_states_right fd_law_states_right)
    (D_law_bounds_right : DAt K mg "_law_bounds_right" s_law_bounds_right P_law_bounds_right f_law_bounds_right fd_law_bounds_right)
    (D_law_right : DAt K mg "_law_right" s_law_right P_law_right f_law_right fd_law_right)
    (D_law_told : DAt K mg "_law_told" s_law_told P_law_told f_law_told fd_law_told)
    (D_law_asked : DAt K mg "_law_asked" s_law_asked P_law_asked f_law_asked fd_law_asked)
    (D_cut : DAt K mg "cut" s_cut P_cut f_cut fd_cut)
    (D_state_of : DAt K mg "state_of" s_state_of P_state_of f_state_of fd_state_of)
    (D_quoted : DAt K mg "quoted" s_quoted P_quoted f_quoted fd_quoted)
    (D_joined : DAt K mg "joined" s_joined P_joined f_joined fd_joined)
    (D_quoted_behind : DAt K mg "quoted_behind" s_quoted_behind P_quoted_behind f_quoted_behind fd_quoted_behind)
    (D_shows_cut : DAt K mg "shows_cut" s_shows_cut P_shows_cut f_shows_cut fd_shows_cut)
    (D_are_alike : DAt K mg "are_alike" s_are_alike P_are_alike f_are_alike fd_are_alike)
    (D_cut_plainly : DAt K mg "_cut_plainly" s_cut_plainly P_cut_plainly f_cut_plainly fd_cut_plainly)
    (D_scanned : DAt K mg "_scanned" s_scanned P_scanned f_scanned fd_scanned)
    (D_refuse_too_many : DAt K mg "_refuse_too_many" s_refuse_too_many P_refuse_too_many f_refuse_too_many fd_refuse_too_many)
    (D_is_line : DAt K mg "is_line" s_is_line P_is_line f_is_line fd_is_line)
    (D_are_signs : DAt K mg "are_signs" s_are_signs P_are_signs f_are_signs fd_are_signs)
    (D_longer : DAt K mg "_longer" s_longer P_longer f_longer fd_longer)
    (D_ways : DAt K mg "_ways" s_ways P_ways f_ways fd_ways)
    (D_escaped : DAt K mg "_escaped" s_escaped P_escaped f_escaped fd_escaped)
    (D_is_word : DAt K mg "is_word" s_is_word P_is_word f_is_word fd_is_word)
    (D_are_words : DAt K mg "are_words" s_are_words P_are_words f_are_words fd_are_words)
    (D_is_state : DAt K mg "is_state" s_is_state P_is_state f_is_state fd_is_state)
    (D_written_behind : DAt K mg "written_behind" s_written_behind P_written_behind f_written_behind fd_written_behind)
    (D_rest_quoted : DAt K mg "_rest_quoted" s_rest_quoted P_rest_quoted f_rest_quoted fd_rest_quoted)
    (D_law_pick : DAt K mg "_law_pick" s_law_pick P_law_pick f_law_pick fd_law_pick)
    (D_law_line_due : DAt K mg "_law_line_due" s_law_line_due P_law_line_due f_law_line_due fd_law_line_due)
    (D_law_is_word : DAt K mg "_law_is_word" s_law_is_word P_law_is_word f_law_is_word fd_law_is_word)
    (D_law_is_list : DAt K mg "_law_is_list" s_law_is_list P_law_is_list f_law_is_list fd_law_is_list) : FnG P w K mg base CX0 13 f fd P_law (spLaw K) := by
  have G_law_box : FnOk P w K mg base CX0 1 f_law_box fd_law_box P_law_box spBox := ok_box T D_law_box.fn
  have G_law_take : FnOk P w K mg base CX0 1 f_law_take fd_law_take P_law_take spTake := ok_take D_law_take.fn
  have G_law_odd : FnOk P w K mg base CX0 3 f_law_odd fd_law_odd P_law_odd spOddE := ok_odd T D_law_odd.fn D_law_take D_law_pick
  have G_law_due : FnOk P w K mg base CX0 3 f_law_due fd_law_due P_law_due spDueE := ok_law_due T D_law_due.fn D_law_line_due D_law_is_word D_law_is_list
  have G_law_right : FnG P w K mg base CX0 11 f_law_right fd_law_right P_law_right (spRightE K) := ok_right T O_NoLine O_NoList O_NoState O_NoWord O_BadSign O_TooMany TQ D_law_right.fn D_law_told D_law_asked D_cut D_state_of D_quoted D_joined D_quoted_behind D_shows_cut D_are_alike D_cut_plainly D_scanned D_refuse_too_many D_is_line D_are_signs D_longer D_ways D_escaped D_is_word D_are_words D_is_state D_written_behind D_rest_quoted
  have G_law_states_right : FnG P w K mg base CX0 12 f_law_states_right fd_law_states_right P_law_states_right spStates := ok_states T O_NoLine O_NoList O_NoState O_NoWord O_BadSign O_TooMany TQ D_law_states_right.fn D_law_right D_law_told D_law_asked D_cut D_state_of D_quoted D_joined D_quoted_behind D_shows_cut D_are_alike D_cut_plainly D_scanned D_refuse_too_many D_is_line D_are_signs D_longer D_ways D_escaped D_is_word D_are_words D_is_state D_written_behind D_rest_quoted D_law_pick D_law_take
  have G_law_bounds_right : FnOk P w K mg base CX0 11 f_law_bounds_right fd_law_bounds_right P_law_bounds_right spBnds := ok_bounds T O_NoLine O_NoList O_NoState O_NoWord O_BadSign O_TooMany TQ D_law_bounds_right.fn D_law_told D_law_asked D_cut D_state_of D_quoted D_joined D_quoted_behind D_shows_cut D_are_alike D_cut_plainly D_scanned D_refuse_too_many D_is_line D_are_signs D_longer D_ways D_escaped D_is_word D_are_words D_is_state D_written_behind D_rest_quoted D_law_pick D_law_take
  refine fun_g F sc_law (fun vs H Q E h => ?_) (fun cdv A outer s H vs Q E hg hr h => ?_)
  · obtain ⟨a, ns, rfl, _⟩ := h
    rfl
  · obtain ⟨a, ns, rfl, ha, hn, k⟩ := h
    refine ⟨_, (pss_cons (ps_for (PassesOwn.never) rfl (asList (K := K) rfl (pi_list (pe_slice (sl_any : SlR _ (rSl K)) (pe_op (oAdd : OpR _ _ (J.rAdd K)) (pe_slice (sl_any : SlR _ (rSl K)) (pv 0) po_none (po_some pe_int)) (pe_lst (pa_cons pe_int (pa_cons pe_int pa_nil)))) po_none (po_some (pe_callB (call_maxA rfl) (by rfl) T.z_max (by decide +kernel) (pa_cons pe_int (pa_cons (pe_callB (call_minA rfl) (by rfl) T.z_min (by decide +kernel) (pa_cons pe_int (pa_cons (pe_callB (call_lenA : CallR _ _ (rLen K)) (by rfl) T.z_len (by decide +kernel) (pa_cons (pv 0) pa_nil)) pa_nil))) pa_nil))))))) (pg_name (i := 1) sc_law.nd rfl (Or.inl rfl)) (pss_cons (ps_set (i := 2) sc_law.nd rfl (Or.inl rfl) (pe_call G_law_box (hr.mono (by decide)) rfl D_law_box.gl D_law_box.fn.kp D_law_box.bd .nil pass0 (pa_cons (pv 1) pa_nil))) (pss_cons (ps_for (PassesOwn.never) rfl (pi_range1 rfl T.z_range (pa_cons pe_int pa_nil)) (pg_name (i := 3) sc_law.nd rfl (Or.inl rfl)) (pss_cons (ps_set (i := 4) sc_law.nd rfl (Or.inl rfl) (pe_ix (ix_seq : IxR _ (rIx K)) (pe_lst (pa_cons pe_int (pa_cons pe_int (pa_cons pe_int (pa_cons pe_int (pa_cons pe_int (pa_cons pe_int pa_nil))))))) (pe_call G_law_take (hr.mono (by decide)) rfl D_law_take.gl D_law_take.fn.kp D_law_take.bd .nil pass0 (pa_cons (pv 2) (pa_cons pe_int pa_nil))) (fun _ _ => rfl))) (pss_cons (ps_par (i := 5) (j := 6) rfl sc_law.nd rfl rfl (by decide) rfl rfl (pa_cons (pe_call G_law_odd (hr.mono (by decide)) rfl D_law_odd.gl D_law_odd.fn.kp D_law_odd.bd .nil pass0 (pa_cons (pv 2) pa_nil)) (pa_cons (pe_call G_law_odd (hr.mono (by decide)) rfl D_law_odd.gl D_law_odd.fn.kp D_law_odd.bd .nil pass0 (pa_cons (pv 2) pa_nil)) pa_nil)) rfl) (pss_cons (ps_if (pt_not (pt_val (pe_callG G_law_right hg (hr.mono (by decide)) rfl D_law_right.gl D_law_right.fn.kp D_law_right.bd .nil pass0 (pa_cons (pv 4) (pa_cons (pv 5) (pa_cons (pv 6) (pa_cons (pe_call G_law_due (hr.mono (by decide)) rfl D_law_due.gl D_law_due.fn.kp D_law_due.bd .nil pass0 (pa_cons (pv 4) (pa_cons (pv 5) (pa_cons (pv 6) pa_nil)))) pa_nil))))))) (pss_one (ps_ret pe_bl)) pss_nil) (pss_cons (ps_set (i := 5) sc_law.nd rfl (Or.inl rfl) (pe_call G_law_odd (hr.mono (by decide)) rfl D_law_odd.gl D_law_odd.fn.kp D_law_odd.bd .nil pass0 (pa_cons (pv 2) pa_nil))) (pss_one (ps_if (PW.pt (pw_or (pt_not (pt_val (pe_callG G_law_right hg (hr.mono (by decide)) rfl D_law_right.gl D_law_right.fn.kp D_law_right.bd .nil pass0 (pa_cons pe_int (pa_cons (pv 5) (pa_cons (pv 6) (pa_cons (pe_call G_law_due (hr.mono (by decide)) rfl D_law_due.gl D_law_due.fn.kp D_law_due.bd .nil pass0 (pa_cons pe_int (pa_cons (pv 5) (pa_cons (pv 6) pa_nil)))) pa_nil))))))) (pw_or1 (pt_not (pt_val (pe_callG G_law_states_right hg (hr.mono (by decide)) rfl D_law_states_right.gl D_law_states_right.fn.kp D_law_states_right.bd .nil pass0 (pa_cons (pv 2) pa_nil))))))) (pss_one (ps_ret pe_bl)) pss_nil))))))) (pss_one (ps_if (pt_not (pt_val (pe_call G_law_bounds_right (hr.mono (by decide)) rfl D_law_bounds_right.gl D_law_bounds_right.fn.kp D_law_bounds_right.bd .nil pass0 (pa_cons (pv 2) pa_nil)))) (pss_one (ps_ret pe_bl)) pss_nil))))) (pss_one (ps_ret pe_bl))), ?_⟩
    refine r_seqJ (fun σ' H' => True) (fun N hN => ?_) ?_
    rotate_left
    · rintro σ' H' _
      walk_at "g"
      exact k _
    have hN : ∀ σ' H', N σ' H' := fun σ' H' => hN σ' H' trivial
    refine r_for (r_ilist ?_)
    walk_at "g"
    refine r_slL ha fun p1 hp1 => ?_
    walk_at "g"
    refine ⟨show 2 ≤ sizeLine by decide, fun p2 hp2 => ?_⟩
    obtain ⟨n1, e1, _, l1, _⟩ := cutV_map V.int ns none (some 8)
    rw [e1] at hp2 ⊢
    refine r_cat (xs := n1.map V.int) (ys := [V.int 17, V.int 86028157]) (by rw [upd_ne (new_ne hp2 upd_same).symm]; exact upd_same) upd_same (by rw [List.length_map]; show _ + 2 ≤ _; omega) fun p3 hp3 => ?_
    have s3 := (((Same.refl H).at hp1 (HO.lst (n1.map V.int))).new hp2 (HO.lst [V.int 17, V.int 86028157])).new hp3 (HO.lst (n1.map V.int ++ [V.int 17, V.int 86028157]))
    have h3 : upd (upd (upd H p1 (HO.lst (n1.map V.int))) p2 (HO.lst [V.int 17, V.int 86028157])) p3 (HO.lst (n1.map V.int ++ [V.int 17, V.int 86028157])) p3 = some (.lst ((n1 ++ [17, 86028157]).map V.int)) := by rw [upd_same, List.map_append]; rfl
    generalize upd (upd (upd H p1 (HO.lst (n1.map V.int))) p2 (HO.lst [V.int 17, V.int 86028157])) p3 (HO.lst (n1.map V.int ++ [V.int 17, V.int 86028157])) = H3 at s3 h3 ⊢
    walk_at "g"
    refine r_lenL (s3.seqL ha) ?_
    walk_at "g"
    refine r_slL (SqL.of h3) fun p4 hp4 => ?_
    obtain ⟨n4, e4, _, l4, _⟩ := cutV_map V.int (n1 ++ [17, 86028157]) none (some (if (if ((ns.map V.int).length : Int) < 8 then ((ns.map V.int).length : Int) else 8) > 2 then (if ((ns.map V.int).length : Int) < 8 then ((ns.map V.int).length : Int) else 8) else 2))
    rw [e4]
    refine r_isRL (SqL.of upd_same) ?_
    have s4 := s3.new hp4 (HO.lst (n4.map V.int))
    have h4 : upd H3 p4 (HO.lst (n4.map V.int)) p4 = some (HO.lst (n4.map V.int)) := upd_same
    generalize upd H3 p4 (HO.lst (n4.map V.int)) = H4 at s4 h4 ⊢
    refine loop_seq (seqIt_l (SqL.of h4)) (fun _ σ' H' => ∃ x1 x2 x3 x4 x5 x6 : Option V, σ' = [some (.ref a), x1, x2, x3, x4, x5, x6] ∧ Same H4 H') (fun _ _ _ ⟨_, _, _, _, _, _, _, s⟩ => s) ⟨_, _, _, _, _, _, rfl, Same.refl _⟩ (fun i x σ1 H5 hx w => ?_) (fun σ1 H5 w => hN _ _)
    obtain ⟨x1, x2, x3, x4, x5, x6, rfl, s5⟩ := w
    rw [List.getElem?_map] at hx
    obtain ⟨c, hc, rfl⟩ := Option.map_eq_some_iff.mp hx
    walk_at "g"
    refine ⟨c, rfl, fun b H6 bn s6 bx => ?_⟩
    clear hx hc
    walk_at "g"
    refine r_forR (q := 8) (by decide) (fun j σ' H' => ∃ x3 x4 x5 x6 : Option V, σ' = [some (.ref a), some (.int c), some (.ref b), x3, x4, x5, x6] ∧ Bx H' b (20 * j) ∧ Keep b H5 H') ⟨_, _, _, _, rfl, bx, Keep.same s6⟩ ?_ ?_
    · rintro j σ2 G0 hj ⟨y3, y4, y5, y6, rfl, hb, kp⟩
      walk_at "g"
      refine ⟨show 6 ≤ sizeLine by decide, fun p5 hp5 => ?_⟩
      have e5 : upd G0 p5 (.lst [V.int 0, V.int 1, V.int 2, V.int 3, V.int 5, V.int 6]) p5 = some (.lst [V.int 0, V.int 1, V.int 2, V.int 3, V.int 5, V.int 6]) := upd_same
      have o5 : p5 ≠ b := hb.ne hp5
      replace kp := kp.trans (Keep.same ((Same.refl G0).at hp5 (.lst [V.int 0, V.int 1, V.int 2, V.int 3, V.int 5, V.int 6])))
      replace hb := hb.new (o := .lst [V.int 0, V.int 1, V.int 2, V.int 3, V.int 5, V.int 6]) hp5
      generalize upd G0 p5 (.lst [V.int 0, V.int 1, V.int 2, V.int 3, V.int 5, V.int 6]) = G1 at e5 kp hb ⊢
      clear hp5
      walk_at "g"
      refine ⟨b, 6, _, rfl, hb, by omega, by decide, by decide, fun q G2 q0 q1 kk hb => ?_⟩
      replace kp := kp.trans kk
      replace e5 := kk _ _ e5 o5
      clear kk
      obtain ⟨kd, hkd, k6, k4⟩ : ∃ kd : Nat, atI [V.int 0, V.int 1, V.int 2, V.int 3, V.int 5, V.int 6] q = some (.int (kd : Nat)) ∧ kd ≤ 6 ∧ kd ≠ 4 := by
        rcases (show q = 0 ∨ q = 1 ∨ q = 2 ∨ q = 3 ∨ q = 4 ∨ q = 5 by omega) with rfl | rfl | rfl | rfl | rfl | rfl
        · exact ⟨0, rfl, by decide, by decide⟩
        · exact ⟨1, rfl, by decide, by decide⟩
        · exact ⟨2, rfl, by decide, by decide⟩
        · exact ⟨3, rfl, by decide, by decide⟩
        · exact ⟨5, rfl, by decide, by decide⟩
        · exact ⟨6, rfl, by decide, by decide⟩
      refine r_ixL (SqL.of e5) hkd ?_
      clear hkd e5 o5 q0 q1
      walk_at "g"
      refine ⟨b, _, rfl, hb, by omega, fun x d G3 hd dx kx hb3 => ?_⟩
      walk_at "g"
      refine ⟨b, _, rfl, hb3, by omega, fun y e G4 he dy ky hb4 => ?_⟩
      have b2 : G2 b ≠ none := by obtain ⟨_, _, _, q, _⟩ := hb; rw [q]; exact fun e => nomatch e
      have b3 : G3 b ≠ none := by obtain ⟨_, _, _, q, _⟩ := hb3; rw [q]; exact fun e => nomatch e
      have dx2 : De (fun p => p = b ∨ y = .ref p) G4 x d := (dx.apart (B' := fun p => p = b ∨ y = .ref p) fun p np g q => q.elim (fun e => np (e ▸ b2)) fun e => by subst e; exact dy.notB g).keep fun p o np h => ky p o h fun e => np (.inl e)
      have dy2 : De (fun p => p = b ∨ x = .ref p) G4 y e := dy.apart fun p np g q => q.elim (fun e => np (e ▸ b3)) fun e => by subst e; exact np dx.some
      have fr : ∀ {z : V} {u : PyData} {A A' : Hp}, Keep b H5 A → De (fun p => A p ≠ none) A' z u → ∀ a, z = .ref a → H5 a = none := fun {z u A A'} kz dz a e => by
        subst e
        cases g : H5 a with
        | none => rfl
        | some o => exact absurd (kz a o g fun q => by rw [q, bn] at g; cases g) (fun q => dz.notB (by rw [q]; exact fun e => nomatch e))
      have fx : ∀ a, x = .ref a → H5 a = none := fr kp dx
      have fy : ∀ a, y = .ref a → H5 a = none := fr (kp.trans kx) dy
      replace kp := (kp.trans kx).trans ky
      have xb : x ≠ .ref b := fun q => by subst q; exact dx2.notB (.inl rfl)
      have yb : y ≠ .ref b := fun q => by subst q; exact dy2.notB (.inl rfl)
      clear hb hb3 kx ky dx dy b2 b3
      walk_at "g"
      refine ⟨_, _, x, y, d, e, kd, rfl, k6, dx2, fun _ => dy2, fun l G5 hl s5 h5 => ?_⟩
      replace hb := hb4.same s5
      replace kp := kp.trans (Keep.same s5)
      have xl : x ≠ .ref l := fun q => by subst q; exact dx2.some hl
      have yl : y ≠ .ref l := fun q => by subst q; exact dy2.some hl
      replace dx2 := dx2.same s5
      replace dy2 := dy2.same s5
      clear s5 hl hb4
      walk_at "g"
      obtain ⟨_, _, a3, a4, a5, a6, a7, a8⟩ := odds_same d hd
      obtain ⟨_, _, _, _, b5, b6, b7, b8⟩ := odds_same e he
      refine ⟨x, y, d, e, kd, 41, l, rfl, ⟨k6, a4, fun _ => b5, fun q => absurd q k4⟩, by rw [odds_res hd he]; exact small_due k6, ⟨Nat.le_trans a7 (by decide), Nat.le_trans a8 (by decide)⟩, ⟨Nat.le_trans b7 (by decide), Nat.le_trans b8 (by decide)⟩, xl, yl, by decide,
        dx2.apart fun p np _ q => np (.inr q), fun _ => dy2.apart fun p np _ q => np (.inr q), dx2.top a6, dy2.top b6, by rw [odds_res hd he]; exact h5, fun G6 gr _ ty _ => ?_⟩
      replace hb := grow_bx gr xb yb hb
      replace kp := grow_keep kp gr (fun a q => .inl (fx a q)) (fun a q => .inl (fy a q))
      clear gr dx2 dy2 xl yl h5 fx xb a3 a4 a5 a6 a7 a8 b5 b6 b7 b8 hd he
      walk_at "g"
      refine ⟨b, _, rfl, hb, by omega, fun x d G7 hd dx kx hb7 => ?_⟩
      have b6 : G6 b ≠ none := by obtain ⟨_, _, _, q, _⟩ := hb; rw [q]; exact fun e => nomatch e
      have dx2 : De (fun p => p = b ∨ y = .ref p) G7 x d := dx.apart fun p np g q => q.elim (fun e => np (e ▸ b6)) fun e => np fun h => ty.some e h
      have fx : ∀ a, x = .ref a → H5 a = none := fr kp dx
      have xb : x ≠ .ref b := fun q => by subst q; exact dx2.notB (.inl rfl)
      have ty7 : Top 43 G7 y := ty.keep fun p o q h => kx p o h fun e => yb (by rw [q, e])
      replace kp := kp.trans kx
      clear ty kx hb dx b6
      walk_at "g"
      refine ⟨_, fun _ => False, x, y, d, .none, 4, rfl, by decide, dx2, fun q => absurd q (by decide), fun l G8 hl s8 h8 => ?_⟩
      replace hb := hb7.same s8
      replace kp := kp.trans (Keep.same s8)
      have xl : x ≠ .ref l := fun q => by subst q; exact dx2.some hl
      have yl : y ≠ .ref l := fun q => ty7.some q hl
      replace dx2 := dx2.same s8
      have ty8 : Top 43 G8 y := ty7.keep fun p o _ h => s8 p o h
      clear s8 hl hb7 ty7
      walk_at "g"
      obtain ⟨_, _, a3, a4, a5, a6, a7, a8⟩ := odds_same d hd
      refine ⟨x, y, d, .none, 4, 43, l, rfl, ⟨by decide, a4, fun q => absurd q (by decide), fun _ q => absurd (a3.symm.trans q) Bool.false_ne_true⟩, by rw [odds_res4 hd]; rfl, ⟨Nat.le_trans a7 (by decide), Nat.le_trans a8 (by decide)⟩, by decide +kernel, xl, yl, by decide,
        dx2.apart fun p np _ q => np (.inr q), fun q => absurd (a3.symm.trans q) Bool.false_ne_true, (dx2.top a6).mono (by decide), ty8, by rw [odds_res4 hd]; exact h8, fun G9 gr _ _ _ => ?_⟩
      replace hb := grow_bx gr xb yb hb
      replace kp := grow_keep kp gr (fun a q => .inl (fx a q)) (fun a q => .inl (fy a q))
      clear gr dx2 xl yl h8 fx xb a3 a4 a5 a6 a7 a8 hd ty8 fr
      walk_at "g"
      refine ⟨b, _, rfl, hb, by omega, fun G10 kq hb10 => ?_⟩
      walk_at "g"
      exact ⟨_, _, _, _, rfl, hb10.mono (by omega), kp.trans kq⟩
    · rintro σ3 G0 ⟨y3, y4, y5, y6, rfl, hb, kp⟩
      walk_at "g"
      refine ⟨b, _, rfl, hb, by omega, fun G1 kq => ?_⟩
      walk_at "g"
      exact ⟨_, _, _, _, _, _, rfl, s5.keep (s5.none bn) (kp.trans kq)⟩
end
end K07

namespace K07
open PySem PySem.Spec PyProof.Rows L2 J M
local macro_rules | `(tactic| walk_at "hp") => `(tactic| first | assumption | exact upd_same | (rw [upd_ne (by assumption)]; walk_at "hp") | (rw [upd_ne (Ne.symm (by assumption))]; walk_at "hp"))
local macro_rules | `(tactic| walk_at "s") => `(tactic| first
  | ((with_reducible refine' r_var ?h ?k); (case h => exact rfl))
  | (with_reducible refine r_c ?_)
  | (with_reducible refine r_op ?_)
  | (with_reducible refine r_un ?_)
  | (with_reducible refine r_seq ?_)
  | (with_reducible refine r_next ?_)
  | (with_reducible refine r_sets ?_)
  | (with_reducible refine r_gname ?_)
  | (with_reducible refine r_ifS ?_)
  | (with_reducible refine r_gsub ?_)
  | (with_reducible refine r_test ?_)
  | (with_reducible refine r_tb ?_)
  | (with_reducible refine r_not ?_)
  | (with_reducible refine r_and ?_)
  | (with_reducible refine r_or ?_)
  | (with_reducible refine r_andV ?_)
  | (with_reducible refine r_orV ?_)
  | (with_reducible refine r_notV ?_)
  | (with_reducible refine r_ifE ?_)
  | (with_reducible refine r_chain ?_)
  | (with_reducible refine r_cb ?_)
  | (with_reducible refine r_cons ?_)
  | (with_reducible refine r_nil ?_)
  | (with_reducible refine r_call ?_)
  | (with_reducible refine r_lst ?_)
  | (with_reducible refine r_tup ?_)
  | (with_reducible refine r_slice ?_)
  | (with_reducible refine r_nop ?_)
  | (with_reducible refine r_part ?_)
  | (with_reducible refine r_bm ?_)
  | (with_reducible refine r_m1 ?_)
  | (with_reducible refine r_m0 ?_)
  | (with_reducible refine r_is ?_)
  | (with_reducible refine r_maxD ?_)
  | (with_reducible refine r_orT ?_)
  | (with_reducible refine r_truN ?_)
  | (with_reducible refine r_intI ?_)
  | (with_reducible refine r_intB ?_)
  | (with_reducible refine r_max2 ?_)
  | (with_reducible refine r_min2 ?_)
  | (with_reducible refine r_yes ?_)
  | (with_reducible refine r_bl ?_)
  | (with_reducible refine iteT ?_)
  | (with_reducible refine iteF ?_)
  | (with_reducible refine r_iteNT ?_)
  | (with_reducible refine r_iteNF ?_)
  | (with_reducible refine r_minL ?_)
  | (with_reducible refine r_gcons ?_)
  | (with_reducible refine r_gnil ?_)
  | (with_reducible refine r_par ?_)
  | (with_reducible refine r_par3 ?_)
  | (with_reducible refine r_is2 ?_)
  | (with_reducible refine r_is3 ?_)
  | (with_reducible refine r_dget ?_)
  | (with_reducible refine r_callS ?_)
  | (with_reducible refine r_rz ?_)
  | (with_reducible refine r_rev ?_)
  | (with_reducible refine r_isI ?_)
  | (with_reducible refine r_isStr ?_)
  | (with_reducible refine r_ret ?_)
  | (with_reducible refine r_drop ?_)
  | (with_reducible refine r_rI0 ?_)
  | (with_reducible refine r_addI ?_)
  | ((with_reducible show rI (fun _ j => 0 < j) _ (.int _) (.int _) _ _); refine r_rI (by first | omega | decide) ?_)
  | ((with_reducible show rI CDiv _ (.int _) (.int _) _ _); refine r_rI (by constructor <;> omega) ?_)
  | ((with_reducible show rI CPow _ (.int _) (.int _) _ _); refine r_rI (by refine ⟨by decide, by decide, ?_⟩; omega) ?_)
  | ((with_reducible show rMul (.int _) (.int _) _ _); refine r_mulI (cmulW (by omega) (by omega)) ?_)
  | (with_reducible refine r_cmpI ?_)
  | (with_reducible refine r_cmpS ?_)
  | (with_reducible refine r_eqI ?_)
  | (with_reducible refine r_neI ?_)
  | (with_reducible refine r_eqS ?_)
  | (with_reducible refine r_neS ?_)
  | (with_reducible refine r_inSF ?_)
  | (with_reducible refine r_inST ?_)
  | (with_reducible refine r_isiStr ?_)
  | ((with_reducible show rIx _ (.ref _) (.int _) _ _); refine' r_ixL (SqL.of ?h) ?e ?_; (case h => walk_at "hp"); (case e => rfl))
  | ((with_reducible show rSetL (.ref _) (.int _) _ _ _); refine' r_setL ?h ?e ?_; (case h => walk_at "hp"); (case e => rfl)))
local macro_rules | `(tactic| walk_at "g") => `(tactic| repeat walk_at "s")


local macro_rules | `(tactic| walk_at "x") => `(tactic| first | omega | (simp only [one_nl, one_bs, one_q1, one_q2, qS_nil, qS_q1, one_qS, mem_part, mem_qs, mem_all]; omega))
local macro_rules | `(tactic| walk_at "d") => `(tactic| first
  | (with_reducible refine iteDT (by walk_at "x") ?_)
  | (with_reducible refine iteDF (by walk_at "x") ?_)
  | (with_reducible refine iteNT (by walk_at "x") ?_)
  | (with_reducible refine iteNF (by walk_at "x") ?_))
local macro_rules | `(tactic| walk_at "G") => `(tactic| repeat (first | walk_at "s" | walk_at "d"))
abbrev s_iNoLine : Stmt := inClass (topS 6) 0
theorem sc_iNoLine : FnScope ["self", "found"] ["self", "found"] (defScope s_iNoLine) := ⟨rfl, rfl, rfl, by decide +kernel, rfl, by decide +kernel, by decide +kernel⟩
abbrev s_iNoList : Stmt := inClass (topS 5) 0
theorem sc_iNoList : FnScope ["self", "found"] ["self", "found"] (defScope s_iNoList) := ⟨rfl, rfl, rfl, by decide +kernel, rfl, by decide +kernel, by decide +kernel⟩
abbrev s_iNoState : Stmt := inClass (topS 8) 0
theorem sc_iNoState : FnScope ["self", "found"] ["self", "found"] (defScope s_iNoState) := ⟨rfl, rfl, rfl, by decide +kernel, rfl, by decide +kernel, by decide +kernel⟩
abbrev s_iNoWord : Stmt := inClass (topS 4) 0
theorem sc_iNoWord : FnScope ["self", "found"] ["self", "found"] (defScope s_iNoWord) := ⟨rfl, rfl, rfl, by decide +kernel, rfl, by decide +kernel, by decide +kernel⟩
abbrev s_iBadSign : Stmt := inClass (topS 7) 0
theorem sc_iBadSign : FnScope ["self", "at"] ["self", "at"] (defScope s_iBadSign) := ⟨rfl, rfl, rfl, by decide +kernel, rfl, by decide +kernel, by decide +kernel⟩
abbrev s_iTooMany : Stmt := inClass (topS 9) 0
theorem sc_iTooMany : FnScope ["self", "many"] ["self", "many"] (defScope s_iTooMany) := ⟨rfl, rfl, rfl, by decide +kernel, rfl, by decide +kernel, by decide +kernel⟩
section
variable {P : Program} {w : World} {K : PySem.W.Frag} {mg : Str → Option Value} {base : Heap} {CL CI CS CW CB CT : Addr}
theorem ok_iNoLine {f : Addr} {fd : FuncData} (F : Fun K "__init__" "NoLine.__init__" s_iNoLine f fd) : FnOk P w K mg base CX0 1 f fd ["self", "found"] (spInit K "found") := by
  refine F.ok sc_iNoLine (fun vs H Q E h => ?_) (fun cdv A outer s H vs Q E hr h => ?_)
  · obtain ⟨a, C, v, rfl, _⟩ := h
    rfl
  · obtain ⟨a, C, v, rfl, hT, hf, ha, k⟩ := h
    refine ⟨_, pss_one (asOst (K := K) rfl (ps_ost (pv 0) (pv 1))), ?_⟩
    refine r_ost ?_
    walk_at "g"
    exact ⟨a, C, rfl, hT, hf, .inl ⟨ha, fun dx hd ne => k dx hd ne⟩⟩
theorem ok_iNoList {f : Addr} {fd : FuncData} (F : Fun K "__init__" "NoList.__init__" s_iNoList f fd) : FnOk P w K mg base CX0 1 f fd ["self", "found"] (spInit K "found") := by
  refine F.ok sc_iNoList (fun vs H Q E h => ?_) (fun cdv A outer s H vs Q E hr h => ?_)
  · obtain ⟨a, C, v, rfl, _⟩ := h
    rfl
  · obtain ⟨a, C, v, rfl, hT, hf, ha, k⟩ := h
    refine ⟨_, pss_one (asOst (K := K) rfl (ps_ost (pv 0) (pv 1))), ?_⟩
    refine r_ost ?_
    walk_at "g"
    exact ⟨a, C, rfl, hT, hf, .inl ⟨ha, fun dx hd ne => k dx hd ne⟩⟩
theorem ok_iNoState {f : Addr} {fd : FuncData} (F : Fun K "__init__" "NoState.__init__" s_iNoState f fd) : FnOk P w K mg base CX0 1 f fd ["self", "found"] (spInit K "found") := by
  refine F.ok sc_iNoState (fun vs H Q E h => ?_) (fun cdv A outer s H vs Q E hr h => ?_)
  · obtain ⟨a, C, v, rfl, _⟩ := h
    rfl
  · obtain ⟨a, C, v, rfl, hT, hf, ha, k⟩ := h
    refine ⟨_, pss_one (asOst (K := K) rfl (ps_ost (pv 0) (pv 1))), ?_⟩
    refine r_ost ?_
    walk_at "g"
    exact ⟨a, C, rfl, hT, hf, .inl ⟨ha, fun dx hd ne => k dx hd ne⟩⟩
theorem ok_iNoWord {f : Addr} {fd : FuncData} (F : Fun K "__init__" "NoWord.__init__" s_iNoWord f fd) : FnOk P w K mg base CX0 1 f fd ["self", "found"] (spInit K "found") := by
  refine F.ok sc_iNoWord (fun vs H Q E h => ?_) (fun cdv A outer s H vs Q E hr h => ?_)
  · obtain ⟨a, C, v, rfl, _⟩ := h
    rfl
  · obtain ⟨a, C, v, rfl, hT, hf, ha, k⟩ := h
    refine ⟨_, pss_one (asOst (K := K) rfl (ps_ost (pv 0) (pv 1))), ?_⟩
    refine r_ost ?_
    walk_at "g"
    exact ⟨a, C, rfl, hT, hf, .inl ⟨ha, fun dx hd ne => k dx hd ne⟩⟩
theorem ok_iBadSign {f : Addr} {fd : FuncData} (F : Fun K "__init__" "BadSign.__init__" s_iBadSign f fd) : FnOk P w K mg base CX0 1 f fd ["self", "at"] (spInit K "at") := by
  refine F.ok sc_iBadSign (fun vs H Q E h => ?_) (fun cdv A outer s H vs Q E hr h => ?_)
  · obtain ⟨a, C, v, rfl, _⟩ := h
    rfl
  · obtain ⟨a, C, v, rfl, hT, hf, ha, k⟩ := h
    refine ⟨_, pss_one (asOst (K := K) rfl (ps_ost (pv 0) (pv 1))), ?_⟩
    refine r_ost ?_
    walk_at "g"
    exact ⟨a, C, rfl, hT, hf, .inl ⟨ha, fun dx hd ne => k dx hd ne⟩⟩
theorem ok_iTooMany {f : Addr} {fd : FuncData} (F : Fun K "__init__" "TooMany.__init__" s_iTooMany f fd) : FnOk P w K mg base CX0 1 f fd ["self", "many"] (spInitL K "many") := by
  refine F.ok sc_iTooMany (fun vs H Q E h => ?_) (fun cdv A outer s H vs Q E hr h => ?_)
  · obtain ⟨a, C, v, rfl, _⟩ := h
    rfl
  · obtain ⟨a, C, v, rfl, hT, hf, ha, k⟩ := h
    refine ⟨_, pss_one (asOsL (K := K) rfl (ps_osL (pv 0) (pv 1))), ?_⟩
    refine r_osL ?_
    walk_at "g"
    exact ⟨a, C, rfl, hT, hf, ha, fun dx hd ne => k dx hd ne⟩
end
end K07

namespace K07
open PySem PySem.Spec PyProof.Rows L2 J M
theorem all_mk {l : PySem.W.OpenLaw} {w : World} {K : PySem.W.Frag} {h : Heap} {mg : Str → Option Value} {fa : Addr} (X : K.In h) (G : h.Ns mainGlobals mg) (hfa : mg "law" = some (.ref fa))
    {f_law_box : Addr} {od_law_box an_law_box : Option Addr} {sl_law_box : Array (Option Value)} {oc_law_box kV_law_box dc_law_box pm_law_box cd_law_box ct_law_box : Value}
    (a_law_box : PySem.W.nsIn K mainGlobals "_law_box" = some (some (.ref f_law_box))) (l_law_box : K.lookup f_law_box = some ⟨oc_law_box, od_law_box, .func (PySem.W.fnOf "_law_box" "_law_box" (defArgs s_law_box) (defBody s_law_box) (defScope s_law_box) .none kV_law_box dc_law_box pm_law_box an_law_box cd_law_box ct_law_box), sl_law_box⟩) (c_law_box : PySem.W.codeIn K cd_law_box "_law_box" = true) (k_law_box : PySem.W.keepIn K (.ref f_law_box) = true)
    {f_law_take : Addr} {od_law_take an_law_take : Option Addr} {sl_law_take : Array (Option Value)} {oc_law_take kV_law_take dc_law_take pm_law_take cd_law_take ct_law_take : Value}
    (a_law_take : PySem.W.nsIn K mainGlobals "_law_take" = some (some (.ref f_law_take))) (l_law_take : K.lookup f_law_take = some ⟨oc_law_take, od_law_take, .func (PySem.W.fnOf "_law_take" "_law_take" (defArgs s_law_take) (defBody s_law_take) (defScope s_law_take) .none kV_law_take dc_law_take pm_law_take an_law_take cd_law_take ct_law_take), sl_law_take⟩) (c_law_take : PySem.W.codeIn K cd_law_take "_law_take" = true) (k_law_take : PySem.W.keepIn K (.ref f_law_take) = true)
    {f_law_odd : Addr} {od_law_odd an_law_odd : Option Addr} {sl_law_odd : Array (Option Value)} {oc_law_odd kV_law_odd dc_law_odd pm_law_odd cd_law_odd ct_law_odd : Value}
    (a_law_odd : PySem.W.nsIn K mainGlobals "_law_odd" = some (some (.ref f_law_odd))) (l_law_odd : K.lookup f_law_odd = some ⟨oc_law_odd, od_law_odd, .func (PySem.W.fnOf "_law_odd" "_law_odd" (defArgs s_law_odd) (defBody s_law_odd) (defScope s_law_odd) .none kV_law_odd dc_law_odd pm_law_odd an_law_odd cd_law_odd ct_law_odd), sl_law_odd⟩) (c_law_odd : PySem.W.codeIn K cd_law_odd "_law_odd" = true) (k_law_odd : PySem.W.keepIn K (.ref f_law_odd) = true)
    {f_law_due : Addr} {od_law_due an_law_due : Option Addr} {sl_law_due : Array (Option Value)} {oc_law_due kV_law_due dc_law_due pm_law_due cd_law_due ct_law_due : Value}
    (a_law_due : PySem.W.nsIn K mainGlobals "_law_due" = some (some (.ref f_law_due))) (l_law_due : K.lookup f_law_due = some ⟨oc_law_due, od_law_due, .func (PySem.W.fnOf "_law_due" "_law_due" (defArgs s_law_due) (defBody s_law_due) (defScope s_law_due) .none kV_law_due dc_law_due pm_law_due an_law_due cd_law_due ct_law_due), sl_law_due⟩) (c_law_due : PySem.W.codeIn K cd_law_due "_law_due" = true) (k_law_due : PySem.W.keepIn K (.ref f_law_due) = true)
    {f_law_states_right : Addr} {od_law_states_right an_law_states_right : Option Addr} {sl_law_states_right : Array (Option Value)} {oc_law_states_right kV_law_states_right dc_law_states_right pm_law_states_right cd_law_states_right ct_law_states_right : Value}
    (a_law_states_right : PySem.W.nsIn K mainGlobals "_law_states_right" = some (some (.ref f_law_states_right))) (l_law_states_right : K.lookup f_law_states_right = some ⟨oc_law_states_right, od_law_states_right, .func (PySem.W.fnOf "_law_states_right" "_law_states_right" (defArgs s_law_states_right) (defBody s_law_states_right) (defScope s_law_states_right) .none kV_law_states_right dc_law_states_right pm_law_states_right an_law_states_right cd_law_states_right ct_law_states_right), sl_law_states_right⟩) (c_law_states_right : PySem.W.codeIn K cd_law_states_right "_law_states_right" = true) (k_law_states_right : PySem.W.keepIn K (.ref f_law_states_right) = true)
    {f_law_bounds_right : Addr} {od_law_bounds_right an_law_bounds_right : Option Addr} {sl_law_bounds_right : Array (Option Value)} {oc_law_bounds_right kV_law_bounds_right dc_law_bounds_right pm_law_bounds_right cd_law_bounds_right ct_law_bounds_right : Value}
    (a_law_bounds_right : PySem.W.nsIn K mainGlobals "_law_bounds_right" = some (some (.ref f_law_bounds_right))) (l_law_bounds_right : K.lookup f_law_bounds_right = some ⟨oc_law_bounds_right, od_law_bounds_right, .func (PySem.W.fnOf "_law_bounds_right" "_law_bounds_right" (defArgs s_law_bounds_right) (defBody s_law_bounds_right) (defScope s_law_bounds_right) .none kV_law_bounds_right dc_law_bounds_right pm_law_bounds_right an_law_bounds_right cd_law_bounds_right ct_law_bounds_right), sl_law_bounds_right⟩) (c_law_bounds_right : PySem.W.codeIn K cd_law_bounds_right "_law_bounds_right" = true) (k_law_bounds_right : PySem.W.keepIn K (.ref f_law_bounds_right) = true)
    {f_law_right : Addr} {od_law_right an_law_right : Option Addr} {sl_law_right : Array (Option Value)} {oc_law_right kV_law_right dc_law_right pm_law_right cd_law_right ct_law_right : Value}
    (a_law_right : PySem.W.nsIn K mainGlobals "_law_right" = some (some (.ref f_law_right))) (l_law_right : K.lookup f_law_right = some ⟨oc_law_right, od_law_right, .func (PySem.W.fnOf "_law_right" "_law_right" (defArgs s_law_right) (defBody s_law_right) (defScope s_law_right) .none kV_law_right dc_law_right pm_law_right an_law_right cd_law_right ct_law_right), sl_law_right⟩) (c_law_right : PySem.W.codeIn K cd_law_right "_law_right" = true) (k_law_right : PySem.W.keepIn K (.ref f_law_right) = true)
    {f_law_told : Addr} {od_law_told an_law_told : Option Addr} {sl_law_told : Array (Option Value)} {oc_law_told kV_law_told dc_law_told pm_law_told cd_law_told ct_law_told : Value}
    (a_law_told : PySem.W.nsIn K mainGlobals "_law_told" = some (some (.ref f_law_told))) (l_law_told : K.lookup f_law_told = some ⟨oc_law_told, od_law_told, .func (PySem.W.fnOf "_law_told" "_law_told" (defArgs s_law_told) (defBody s_law_told) (defScope s_law_told) .none kV_law_told dc_law_told pm_law_told an_law_told cd_law_told ct_law_told), sl_law_told⟩) (c_law_told : PySem.W.codeIn K cd_law_told "_law_told" = true) (k_law_told : PySem.W.keepIn K (.ref f_law_told) = true)
    {f_law_asked : Addr} {od_law_asked an_law_asked : Option Addr} {sl_law_asked : Array (Option Value)} {oc_law_asked kV_law_asked dc_law_asked pm_law_asked cd_law_asked ct_law_asked : Value}
    (a_law_asked : PySem.W.nsIn K mainGlobals "_law_asked" = some (some (.ref f_law_asked))) (l_law_asked : K.lookup f_law_asked = some ⟨oc_law_asked, od_law_asked, .func (PySem.W.fnOf "_law_asked" "_law_asked" (defArgs s_law_asked) (defBody s_law_asked) (defScope s_law_asked) .none kV_law_asked dc_law_asked pm_law_asked an_law_asked cd_law_asked ct_law_asked), sl_law_asked⟩) (c_law_asked : PySem.W.codeIn K cd_law_asked "_law_asked" = true) (k_law_asked : PySem.W.keepIn K (.ref f_law_asked) = true)
    {f_cut : Addr} {od_cut an_cut : Option Addr} {sl_cut : Array (Option Value)} {oc_cut kV_cut dc_cut pm_cut cd_cut ct_cut : Value}
    (a_cut : PySem.W.nsIn K mainGlobals "cut" = some (some (.ref f_cut))) (l_cut : K.lookup f_cut = some ⟨oc_cut, od_cut, .func (PySem.W.fnOf "cut" "cut" (defArgs s_cut) (defBody s_cut) (defScope s_cut) .none kV_cut dc_cut pm_cut an_cut cd_cut ct_cut), sl_cut⟩) (c_cut : PySem.W.codeIn K cd_cut "cut" = true) (k_cut : PySem.W.keepIn K (.ref f_cut) = true)
    {f_state_of : Addr} {od_state_of an_state_of : Option Addr} {sl_state_of : Array (Option Value)} {oc_state_of kV_state_of dc_state_of pm_state_of cd_state_of ct_state_of : Value}
    (a_state_of : PySem.W.nsIn K mainGlobals "state_of" = some (some (.ref f_state_of))) (l_state_of : K.lookup f_state_of = some ⟨oc_state_of, od_state_of, .func (PySem.W.fnOf "state_of" "state_of" (defArgs s_state_of) (defBody s_state_of) (defScope s_state_of) .none kV_state_of dc_state_of pm_state_of an_state_of cd_state_of ct_state_of), sl_state_of⟩) (c_state_of : PySem.W.codeIn K cd_state_of "state_of" = true) (k_state_of : PySem.W.keepIn K (.ref f_state_of) = true)
    {f_quoted : Addr} {od_quoted an_quoted : Option Addr} {sl_quoted : Array (Option Value)} {oc_quoted kV_quoted dc_quoted pm_quoted cd_quoted ct_quoted : Value}
    (a_quoted : PySem.W.nsIn K mainGlobals "quoted" = some (some (.ref f_quoted))) (l_quoted : K.lookup f_quoted = some ⟨oc_quoted, od_quoted, .func (PySem.W.fnOf "quoted" "quoted" (defArgs s_quoted) (defBody s_quoted) (defScope s_quoted) .none kV_quoted dc_quoted pm_quoted an_quoted cd_quoted ct_quoted), sl_quoted⟩) (c_quoted : PySem.W.codeIn K cd_quoted "quoted" = true) (k_quoted : PySem.W.keepIn K (.ref f_quoted) = true)
    {f_joined : Addr} {od_joined an_joined : Option Addr} {sl_joined : Array (Option Value)} {oc_joined kV_joined dc_joined pm_joined cd_joined ct_joined : Value}
    (a_joined : PySem.W.nsIn K mainGlobals "joined" = some (some (.ref f_joined))) (l_joined : K.lookup f_joined = some ⟨oc_joined, od_joined, .func (PySem.W.fnOf "joined" "joined" (defArgs s_joined) (defBody s_joined) (defScope s_joined) .none kV_joined dc_joined pm_joined an_joined cd_joined ct_joined), sl_joined⟩) (c_joined : PySem.W.codeIn K cd_joined "joined" = true) (k_joined : PySem.W.keepIn K (.ref f_joined) = true)
    {f_quoted_behind : Addr} {od_quoted_behind an_quoted_behind : Option Addr} {sl_quoted_behind : Array (Option Value)} {oc_quoted_behind kV_quoted_behind dc_quoted_behind pm_quoted_behind cd_quoted_behind ct_quoted_behind : Value}
    (a_quoted_behind : PySem.W.nsIn K mainGlobals "quoted_behind" = some (some (.ref f_quoted_behind))) (l_quoted_behind : K.lookup f_quoted_behind = some ⟨oc_quoted_behind, od_quoted_behind, .func (PySem.W.fnOf "quoted_behind" "quoted_behind" (defArgs s_quoted_behind) (defBody s_quoted_behind) (defScope s_quoted_behind) .none kV_quoted_behind dc_quoted_behind pm_quoted_behind an_quoted_behind cd_quoted_behind ct_quoted_behind), sl_quoted_behind⟩) (c_quoted_behind : PySem.W.codeIn K cd_quoted_behind "quoted_behind" = true) (k_quoted_behind : PySem.W.keepIn K (.ref f_quoted_behind) = true)
    {f_shows_cut : Addr} {od_shows_cut an_shows_cut : Option Addr} {sl_shows_cut : Array (Option Value)} {oc_shows_cut kV_shows_cut dc_shows_cut pm_shows_cut cd_shows_cut ct_shows_cut : Value}
    (a_shows_cut : PySem.W.nsIn K mainGlobals "shows_cut" = some (some (.ref f_shows_cut))) (l_shows_cut : K.lookup f_shows_cut = some ⟨oc_shows_cut, od_shows_cut, .func (PySem.W.fnOf "shows_cut" "shows_cut" (defArgs s_shows_cut) (defBody s_shows_cut) (defScope s_shows_cut) .none kV_shows_cut dc_shows_cut pm_shows_cut an_shows_cut cd_shows_cut ct_shows_cut), sl_shows_cut⟩) (c_shows_cut : PySem.W.codeIn K cd_shows_cut "shows_cut" = true) (k_shows_cut : PySem.W.keepIn K (.ref f_shows_cut) = true)
    {f_are_alike : Addr} {od_are_alike an_are_alike : Option Addr} {sl_are_alike : Array (Option Value)} {oc_are_alike kV_are_alike dc_are_alike pm_are_alike cd_are_alike ct_are_alike : Value}
    (a_are_alike : PySem.W.nsIn K mainGlobals "are_alike" = some (some (.ref f_are_alike))) (l_are_alike : K.lookup f_are_alike = some ⟨oc_are_alike, od_are_alike, .func (PySem.W.fnOf "are_alike" "are_alike" (defArgs s_are_alike) (defBody s_are_alike) (defScope s_are_alike) .none kV_are_alike dc_are_alike pm_are_alike an_are_alike cd_are_alike ct_are_alike), sl_are_alike⟩) (c_are_alike : PySem.W.codeIn K cd_are_alike "are_alike" = true) (k_are_alike : PySem.W.keepIn K (.ref f_are_alike) = true)
    {f_cut_plainly : Addr} {od_cut_plainly an_cut_plainly : Option Addr} {sl_cut_plainly : Array (Option Value)} {oc_cut_plainly kV_cut_plainly dc_cut_plainly pm_cut_plainly cd_cut_plainly ct_cut_plainly : Value}
    (a_cut_plainly : PySem.W.nsIn K mainGlobals "_cut_plainly" = some (some (.ref f_cut_plainly))) (l_cut_plainly : K.lookup f_cut_plainly = some ⟨oc_cut_plainly, od_cut_plainly, .func (PySem.W.fnOf "_cut_plainly" "_cut_plainly" (defArgs s_cut_plainly) (defBody s_cut_plainly) (defScope s_cut_plainly) .none kV_cut_plainly dc_cut_plainly pm_cut_plainly an_cut_plainly cd_cut_plainly ct_cut_plainly), sl_cut_plainly⟩) (c_cut_plainly : PySem.W.codeIn K cd_cut_plainly "_cut_plainly" = true) (k_cut_plainly : PySem.W.keepIn K (.ref f_cut_plainly) = true)
    {f_scanned : Addr} {od_scanned an_scanned : Option Addr} {sl_scanned : Array (Option Value)} {oc_scanned kV_scanned dc_scanned pm_scanned cd_scanned ct_scanned : Value}
    (a_scanned : PySem.W.nsIn K mainGlobals "_scanned" = some (some (.ref f_scanned))) (l_scanned : K.lookup f_scanned = some ⟨oc_scanned, od_scanned, .func (PySem.W.fnOf "_scanned" "_scanned" (defArgs s_scanned) (defBody s_scanned) (defScope s_scanned) .none kV_scanned dc_scanned pm_scanned an_scanned cd_scanned ct_scanned), sl_scanned⟩) (c_scanned : PySem.W.codeIn K cd_scanned "_scanned" = true) (k_scanned : PySem.W.keepIn K (.ref f_scanned) = true)
    {f_refuse_too_many : Addr} {od_refuse_too_many an_refuse_too_many : Option Addr} {sl_refuse_too_many : Array (Option Value)} {oc_refuse_too_many kV_refuse_too_many dc_refuse_too_many pm_refuse_too_many cd_refuse_too_many ct_refuse_too_many : Value}
    (a_refuse_too_many : PySem.W.nsIn K mainGlobals "_refuse_too_many" = some (some (.ref f_refuse_too_many))) (l_refuse_too_many : K.lookup f_refuse_too_many = some ⟨oc_refuse_too_many, od_refuse_too_many, .func (PySem.W.fnOf "_refuse_too_many" "_refuse_too_many" (defArgs s_refuse_too_many) (defBody s_refuse_too_many) (defScope s_refuse_too_many) .none kV_refuse_too_many dc_refuse_too_many pm_refuse_too_many an_refuse_too_many cd_refuse_too_many ct_refuse_too_many), sl_refuse_too_many⟩) (c_refuse_too_many : PySem.W.codeIn K cd_refuse_too_many "_refuse_too_many" = true) (k_refuse_too_many : PySem.W.keepIn K (.ref f_refuse_too_many) = true)
    {f_is_line : Addr} {od_is_line an_is_line : Option Addr} {sl_is_line : Array (Option Value)} {oc_is_line kV_is_line dc_is_line pm_is_line cd_is_line ct_is_line : Value}
    (a_is_line : PySem.W.nsIn K mainGlobals "is_line" = some (some (.ref f_is_line))) (l_is_line : K.lookup f_is_line = some ⟨oc_is_line, od_is_line, .func (PySem.W.fnOf "is_line" "is_line" (defArgs s_is_line) (defBody s_is_line) (defScope s_is_line) .none kV_is_line dc_is_line pm_is_line an_is_line cd_is_line ct_is_line), sl_is_line⟩) (c_is_line : PySem.W.codeIn K cd_is_line "is_line" = true) (k_is_line : PySem.W.keepIn K (.ref f_is_line) = true)
    {f_are_signs : Addr} {od_are_signs an_are_signs : Option Addr} {sl_are_signs : Array (Option Value)} {oc_are_signs kV_are_signs dc_are_signs pm_are_signs cd_are_signs ct_are_signs : Value}
    (a_are_signs : PySem.W.nsIn K mainGlobals "are_signs" = some (some (.ref f_are_signs))) (l_are_signs : K.lookup f_are_signs = some ⟨oc_are_signs, od_are_signs, .func (PySem.W.fnOf "are_signs" "are_signs" (defArgs s_are_signs) (defBody s_are_signs) (defScope s_are_signs) .none kV_are_signs dc_are_signs pm_are_signs an_are_signs cd_are_signs ct_are_signs), sl_are_signs⟩) (c_are_signs : PySem.W.codeIn K cd_are_signs "are_signs" = true) (k_are_signs : PySem.W.keepIn K (.ref f_are_signs) = true)
    {f_longer : Addr} {od_longer an_longer : Option Addr} {sl_longer : Array (Option Value)} {oc_longer kV_longer dc_longer pm_longer cd_longer ct_longer : Value}
    (a_longer : PySem.W.nsIn K mainGlobals "_longer" = some (some (.ref f_longer))) (l_longer : K.lookup f_longer = some ⟨oc_longer, od_longer, .func (PySem.W.fnOf "_longer" "_longer" (defArgs s_longer) (defBody s_longer) (defScope s_longer) .none kV_longer dc_longer pm_longer an_longer cd_longer ct_longer), sl_longer⟩) (c_longer : PySem.W.codeIn K cd_longer "_longer" = true) (k_longer : PySem.W.keepIn K (.ref f_longer) = true)
    {f_ways : Addr} {od_ways an_ways : Option Addr} {sl_ways : Array (Option Value)} {oc_ways kV_ways dc_ways pm_ways cd_ways ct_ways : Value}
    (a_ways : PySem.W.nsIn K mainGlobals "_ways" = some (some (.ref f_ways))) (l_ways : K.lookup f_ways = some ⟨oc_ways, od_ways, .func (PySem.W.fnOf "_ways" "_ways" (defArgs s_ways) (defBody s_ways) (defScope s_ways) .none kV_ways dc_ways pm_ways an_ways cd_ways ct_ways), sl_ways⟩) (c_ways : PySem.W.codeIn K cd_ways "_ways" = true) (k_ways : PySem.W.keepIn K (.ref f_ways) = true)
    {f_escaped : Addr} {od_escaped an_escaped : Option Addr} {sl_escaped : Array (Option Value)} {oc_escaped kV_escaped dc_escaped pm_escaped cd_escaped ct_escaped : Value}
    (a_escaped : PySem.W.nsIn K mainGlobals "_escaped" = some (some (.ref f_escaped))) (l_escaped : K.lookup f_escaped = some ⟨oc_escaped, od_escaped, .func (PySem.W.fnOf "_escaped" "_escaped" (defArgs s_escaped) (defBody s_escaped) (defScope s_escaped) .none kV_escaped dc_escaped pm_escaped an_escaped cd_escaped ct_escaped), sl_escaped⟩) (c_escaped : PySem.W.codeIn K cd_escaped "_escaped" = true) (k_escaped : PySem.W.keepIn K (.ref f_escaped) = true)
    {f_is_word : Addr} {od_is_word an_is_word : Option Addr} {sl_is_word : Array (Option Value)} {oc_is_word kV_is_word dc_is_word pm_is_word cd_is_word ct_is_word : Value}
    (a_is_word : PySem.W.nsIn K mainGlobals "is_word" = some (some (.ref f_is_word))) (l_is_word : K.lookup f_is_word = some ⟨oc_is_word, od_is_word, .func (PySem.W.fnOf "is_word" "is_word" (defArgs s_is_word) (defBody s_is_word) (defScope s_is_word) .none kV_is_word dc_is_word pm_is_word an_is_word cd_is_word ct_is_word), sl_is_word⟩) (c_is_word : PySem.W.codeIn K cd_is_word "is_word" = true) (k_is_word : PySem.W.keepIn K (.ref f_is_word) = true)
    {f_are_words : Addr} {od_are_words an_are_words : Option Addr} {sl_are_words : Array (Option Value)} {oc_are_words kV_are_words dc_are_words pm_are_words cd_are_words ct_are_words : Value}
    (a_are_words : PySem.W.nsIn K mainGlobals "are_words" = some (some (.ref f_are_words))) (l_are_words : K.lookup f_are_words = some ⟨oc_are_words, od_are_words, .func (PySem.W.fnOf "are_words" "are_words" (defArgs s_are_words) (defBody s_are_words) (defScope s_are_words) .none kV_are_words dc_are_words pm_are_words an_are_words cd_are_words ct_are_words), sl_are_words⟩) (c_are_words : PySem.W.codeIn K cd_are_words "are_words" = true) (k_are_words : PySem.W.keepIn K (.ref f_are_words) = true)
    {f_is_state : Addr} {od_is_state an_is_state : Option Addr} {sl_is_state : Array (Option Value)} {oc_is_state kV_is_state dc_is_state pm_is_state cd_is_state ct_is_state : Value}
    (a_is_state : PySem.W.nsIn K mainGlobals "is_state" = some (some (.ref f_is_state))) (l_is_state : K.lookup f_is_state = some ⟨oc_is_state, od_is_state, .func (PySem.W.fnOf "is_state" "is_state" (defArgs s_is_state) (defBody s_is_state) (defScope s_is_state) .none kV_is_state dc_is_state pm_is_state an_is_state cd_is_state ct_is_state), sl_is_state⟩) (c_is_state : PySem.W.codeIn K cd_is_state "is_state" = true) (k_is_state : PySem.W.keepIn K (.ref f_is_state) = true)
    {f_written_behind : Addr} {od_written_behind an_written_behind : Option Addr} {sl_written_behind : Array (Option Value)} {oc_written_behind kV_written_behind dc_written_behind pm_written_behind cd_written_behind ct_written_behind : Value}
    (a_written_behind : PySem.W.nsIn K mainGlobals "written_behind" = some (some (.ref f_written_behind))) (l_written_behind : K.lookup f_written_behind = some ⟨oc_written_behind, od_written_behind, .func (PySem.W.fnOf "written_behind" "written_behind" (defArgs s_written_behind) (defBody s_written_behind) (defScope s_written_behind) .none kV_written_behind dc_written_behind pm_written_behind an_written_behind cd_written_behind ct_written_behind), sl_written_behind⟩) (c_written_behind : PySem.W.codeIn K cd_written_behind "written_behind" = true) (k_written_behind : PySem.W.keepIn K (.ref f_written_behind) = true)
    {f_rest_quoted : Addr} {od_rest_quoted an_rest_quoted : Option Addr} {sl_rest_quoted : Array (Option Value)} {oc_rest_quoted kV_rest_quoted dc_rest_quoted pm_rest_quoted cd_rest_quoted ct_rest_quoted : Value}
    (a_rest_quoted : PySem.W.nsIn K mainGlobals "_rest_quoted" = some (some (.ref f_rest_quoted))) (l_rest_quoted : K.lookup f_rest_quoted = some ⟨oc_rest_quoted, od_rest_quoted, .func (PySem.W.fnOf "_rest_quoted" "_rest_quoted" (defArgs s_rest_quoted) (defBody s_rest_quoted) (defScope s_rest_quoted) .none kV_rest_quoted dc_rest_quoted pm_rest_quoted an_rest_quoted cd_rest_quoted ct_rest_quoted), sl_rest_quoted⟩) (c_rest_quoted : PySem.W.codeIn K cd_rest_quoted "_rest_quoted" = true) (k_rest_quoted : PySem.W.keepIn K (.ref f_rest_quoted) = true)
    {f_law_pick : Addr} {od_law_pick an_law_pick : Option Addr} {sl_law_pick : Array (Option Value)} {oc_law_pick kV_law_pick dc_law_pick pm_law_pick cd_law_pick ct_law_pick : Value}
    (a_law_pick : PySem.W.nsIn K mainGlobals "_law_pick" = some (some (.ref f_law_pick))) (l_law_pick : K.lookup f_law_pick = some ⟨oc_law_pick, od_law_pick, .func (PySem.W.fnOf "_law_pick" "_law_pick" (defArgs s_law_pick) (defBody s_law_pick) (defScope s_law_pick) .none kV_law_pick dc_law_pick pm_law_pick an_law_pick cd_law_pick ct_law_pick), sl_law_pick⟩) (c_law_pick : PySem.W.codeIn K cd_law_pick "_law_pick" = true) (k_law_pick : PySem.W.keepIn K (.ref f_law_pick) = true)
    {f_law_line_due : Addr} {od_law_line_due an_law_line_due : Option Addr} {sl_law_line_due : Array (Option Value)} {oc_law_line_due kV_law_line_due dc_law_line_due pm_law_line_due cd_law_line_due ct_law_line_due : Value}
    (a_law_line_due : PySem.W.nsIn K mainGlobals "_law_line_due" = some (some (.ref f_law_line_due))) (l_law_line_due : K.lookup f_law_line_due = some ⟨oc_law_line_due, od_law_line_due, .func (PySem.W.fnOf "_law_line_due" "_law_line_due" (defArgs s_law_line_due) (defBody s_law_line_due) (defScope s_law_line_due) .none kV_law_line_due dc_law_line_due pm_law_line_due an_law_line_due cd_law_line_due ct_law_line_due), sl_law_line_due⟩) (c_law_line_due : PySem.W.codeIn K cd_law_line_due "_law_line_due" = true) (k_law_line_due : PySem.W.keepIn K (.ref f_law_line_due) = true)
    {f_law_is_word : Addr} {od_law_is_word an_law_is_word : Option Addr} {sl_law_is_word : Array (Option Value)} {oc_law_is_word kV_law_is_word dc_law_is_word pm_law_is_word cd_law_is_word ct_law_is_word : Value}
    (a_law_is_word : PySem.W.nsIn K mainGlobals "_law_is_word" = some (some (.ref f_law_is_word))) (l_law_is_word : K.lookup f_law_is_word = some ⟨oc_law_is_word, od_law_is_word, .func (PySem.W.fnOf "_law_is_word" "_law_is_word" (defArgs s_law_is_word) (defBody s_law_is_word) (defScope s_law_is_word) .none kV_law_is_word dc_law_is_word pm_law_is_word an_law_is_word cd_law_is_word ct_law_is_word), sl_law_is_word⟩) (c_law_is_word : PySem.W.codeIn K cd_law_is_word "_law_is_word" = true) (k_law_is_word : PySem.W.keepIn K (.ref f_law_is_word) = true)
    {f_law_is_list : Addr} {od_law_is_list an_law_is_list : Option Addr} {sl_law_is_list : Array (Option Value)} {oc_law_is_list kV_law_is_list dc_law_is_list pm_law_is_list cd_law_is_list ct_law_is_list : Value}
    (a_law_is_list : PySem.W.nsIn K mainGlobals "_law_is_list" = some (some (.ref f_law_is_list))) (l_law_is_list : K.lookup f_law_is_list = some ⟨oc_law_is_list, od_law_is_list, .func (PySem.W.fnOf "_law_is_list" "_law_is_list" (defArgs s_law_is_list) (defBody s_law_is_list) (defScope s_law_is_list) .none kV_law_is_list dc_law_is_list pm_law_is_list an_law_is_list cd_law_is_list ct_law_is_list), sl_law_is_list⟩) (c_law_is_list : PySem.W.codeIn K cd_law_is_list "_law_is_list" = true) (k_law_is_list : PySem.W.keepIn K (.ref f_law_is_list) = true)
    {f_law : Addr} {od_law an_law : Option Addr} {sl_law : Array (Option Value)} {oc_law kV_law dc_law pm_law cd_law ct_law : Value}
    (a_law : PySem.W.nsIn K mainGlobals "law" = some (some (.ref f_law))) (l_law : K.lookup f_law = some ⟨oc_law, od_law, .func (PySem.W.fnOf "law" "law" (defArgs s_law) (defBody s_law) (defScope s_law) .none kV_law dc_law pm_law an_law cd_law ct_law), sl_law⟩) (c_law : PySem.W.codeIn K cd_law "law" = true) (k_law : PySem.W.keepIn K (.ref f_law) = true)
    {C_NoLine f_iNoLine : Addr} {nm_NoLine q_NoLine : Str} {N_NoLine : Addr} {bs_NoLine bm_NoLine : List Value} {sn_NoLine : List Str} {sub_NoLine : List Value} {ab_NoLine : Bool} {col_NoLine : Option Bool} {dd_NoLine : Option Addr} {m0_NoLine m1_NoLine m2_NoLine m3_NoLine m5_NoLine : Option Value}
    {od_iNoLine an_iNoLine : Option Addr} {sl_iNoLine : Array (Option Value)} {oc_iNoLine kV_iNoLine dc_iNoLine pm_iNoLine cd_iNoLine ct_iNoLine : Value}
    (aC_NoLine : PySem.W.nsIn K mainGlobals "NoLine" = some (some (.ref C_NoLine)))
    (xL_NoLine : K.lookup C_NoLine = some (excClassObj nm_NoLine q_NoLine C_NoLine N_NoLine bs_NoLine bm_NoLine true sn_NoLine sub_NoLine ab_NoLine col_NoLine dd_NoLine m0_NoLine m1_NoLine m2_NoLine m3_NoLine m5_NoLine "ValueError.__new__")) (vb_NoLine : PySem.HandSPX.refsVE bm_NoLine = true)
    (sa_NoLine : PySem.W.findIn K (.ref C_NoLine) "__setattr__" = some (some (.builtin "object.__setattr__"))) (ga_NoLine : PySem.W.findIn K (.ref C_NoLine) "__getattribute__" = some (some (.builtin "BaseException.__getattribute__"))) (gg_NoLine : PySem.W.findIn K (.ref C_NoLine) "__getattr__" = some none) (nb_NoLine : PySem.W.findIn K (.ref C_NoLine) "found" = some none)
    (a1_NoLine : PySem.W.findIn K (.ref C_NoLine) "__init__" = some (some (.ref f_iNoLine))) (t1_NoLine : PySem.W.typeIn K (.ref f_iNoLine) = some (.type "function"))
    (l1_NoLine : K.lookup f_iNoLine = some ⟨oc_iNoLine, od_iNoLine, .func (PySem.W.fnOf "__init__" "NoLine.__init__" (defArgs s_iNoLine) (defBody s_iNoLine) (defScope s_iNoLine) .none kV_iNoLine dc_iNoLine pm_iNoLine an_iNoLine cd_iNoLine ct_iNoLine), sl_iNoLine⟩) (c1_NoLine : PySem.W.codeIn K cd_iNoLine "NoLine.__init__" = true) (k1_NoLine : PySem.W.keepIn K (.ref f_iNoLine) = true)
    (kC_NoLine : PySem.W.keepIn K (.ref C_NoLine) = true) (eC_NoLine : PySem.W.subIn K (.ref C_NoLine) (.type "BaseException") = some true) (tC_NoLine : PySem.W.typeIn K (.ref C_NoLine) = some (.type "type")) (hC_NoLine : PySem.W.hasDictIn K C_NoLine = true) (iC_NoLine : PySem.W.isClsIn K C_NoLine = true) (sC_NoLine : PySem.W.subIn K (.ref C_NoLine) (.ref C_NoLine) = some true)
    {C_NoList f_iNoList : Addr} {nm_NoList q_NoList : Str} {N_NoList : Addr} {bs_NoList bm_NoList : List Value} {sn_NoList : List Str} {sub_NoList : List Value} {ab_NoList : Bool} {col_NoList : Option Bool} {dd_NoList : Option Addr} {m0_NoList m1_NoList m2_NoList m3_NoList m5_NoList : Option Value}
    {od_iNoList an_iNoList : Option Addr} {sl_iNoList : Array (Option Value)} {oc_iNoList kV_iNoList dc_iNoList pm_iNoList cd_iNoList ct_iNoList : Value}
    (aC_NoList : PySem.W.nsIn K mainGlobals "NoList" = some (some (.ref C_NoList)))
    (xL_NoList : K.lookup C_NoList = some (excClassObj nm_NoList q_NoList C_NoList N_NoList bs_NoList bm_NoList true sn_NoList sub_NoList ab_NoList col_NoList dd_NoList m0_NoList m1_NoList m2_NoList m3_NoList m5_NoList "ValueError.__new__")) (vb_NoList : PySem.HandSPX.refsVE bm_NoList = true)
    (sa_NoList : PySem.W.findIn K (.ref C_NoList) "__setattr__" = some (some (.builtin "object.__setattr__"))) (ga_NoList : PySem.W.findIn K (.ref C_NoList) "__getattribute__" = some (some (.builtin "BaseException.__getattribute__"))) (gg_NoList : PySem.W.findIn K (.ref C_NoList) "__getattr__" = some none) (nb_NoList : PySem.W.findIn K (.ref C_NoList) "found" = some none)
    (a1_NoList : PySem.W.findIn K (.ref C_NoList) "__init__" = some (some (.ref f_iNoList))) (t1_NoList : PySem.W.typeIn K (.ref f_iNoList) = some (.type "function"))
    (l1_NoList : K.lookup f_iNoList = some ⟨oc_iNoList, od_iNoList, .func (PySem.W.fnOf "__init__" "NoList.__init__" (defArgs s_iNoList) (defBody s_iNoList) (defScope s_iNoList) .none kV_iNoList dc_iNoList pm_iNoList an_iNoList cd_iNoList ct_iNoList), sl_iNoList⟩) (c1_NoList : PySem.W.codeIn K cd_iNoList "NoList.__init__" = true) (k1_NoList : PySem.W.keepIn K (.ref f_iNoList) = true)
    (kC_NoList : PySem.W.keepIn K (.ref C_NoList) = true) (eC_NoList : PySem.W.subIn K (.ref C_NoList) (.type "BaseException") = some true) (tC_NoList : PySem.W.typeIn K (.ref C_NoList) = some (.type "type")) (hC_NoList : PySem.W.hasDictIn K C_NoList = true) (iC_NoList : PySem.W.isClsIn K C_NoList = true) (sC_NoList : PySem.W.subIn K (.ref C_NoList) (.ref C_NoList) = some true)
    {C_NoState f_iNoState : Addr} {nm_NoState q_NoState : Str} {N_NoState : Addr} {bs_NoState bm_NoState : List Value} {sn_NoState : List Str} {sub_NoState : List Value} {ab_NoState : Bool} {col_NoState : Option Bool} {dd_NoState : Option Addr} {m0_NoState m1_NoState m2_NoState m3_NoState m5_NoState : Option Value}
    {od_iNoState an_iNoState : Option Addr} {sl_iNoState : Array (Option Value)} {oc_iNoState kV_iNoState dc_iNoState pm_iNoState cd_iNoState ct_iNoState : Value}
    (aC_NoState : PySem.W.nsIn K mainGlobals "NoState" = some (some (.ref C_NoState)))
    (xL_NoState : K.lookup C_NoState = some (excClassObj nm_NoState q_NoState C_NoState N_NoState bs_NoState bm_NoState true sn_NoState sub_NoState ab_NoState col_NoState dd_NoState m0_NoState m1_NoState m2_NoState m3_NoState m5_NoState "ValueError.__new__")) (vb_NoState : PySem.HandSPX.refsVE bm_NoState = true)
    (sa_NoState : PySem.W.findIn K (.ref C_NoState) "__setattr__" = some (some (.builtin "object.__setattr__"))) (ga_NoState : PySem.W.findIn K (.ref C_NoState) "__getattribute__" = some (some (.builtin "BaseException.__getattribute__"))) (gg_NoState : PySem.W.findIn K (.ref C_NoState) "__getattr__" = some none) (nb_NoState : PySem.W.findIn K (.ref C_NoState) "found" = some none)
    (a1_NoState : PySem.W.findIn K (.ref C_NoState) "__init__" = some (some (.ref f_iNoState))) (t1_NoState : PySem.W.typeIn K (.ref f_iNoState) = some (.type "function"))
    (l1_NoState : K.lookup f_iNoState = some ⟨oc_iNoState, od_iNoState, .func (PySem.W.fnOf "__init__" "NoState.__init__" (defArgs s_iNoState) (defBody s_iNoState) (defScope s_iNoState) .none kV_iNoState dc_iNoState pm_iNoState an_iNoState cd_iNoState ct_iNoState), sl_iNoState⟩) (c1_NoState : PySem.W.codeIn K cd_iNoState "NoState.__init__" = true) (k1_NoState : PySem.W.keepIn K (.ref f_iNoState) = true)
    (kC_NoState : PySem.W.keepIn K (.ref C_NoState) = true) (eC_NoState : PySem.W.subIn K (.ref C_NoState) (.type "BaseException") = some true) (tC_NoState : PySem.W.typeIn K (.ref C_NoState) = some (.type "type")) (hC_NoState : PySem.W.hasDictIn K C_NoState = true) (iC_NoState : PySem.W.isClsIn K C_NoState = true) (sC_NoState : PySem.W.subIn K (.ref C_NoState) (.ref C_NoState) = some true)
    {C_NoWord f_iNoWord : Addr} {nm_NoWord q_NoWord : Str} {N_NoWord : Addr} {bs_NoWord bm_NoWord : List Value} {sn_NoWord : List Str} {sub_NoWord : List Value} {ab_NoWord : Bool} {col_NoWord : Option Bool} {dd_NoWord : Option Addr} {m0_NoWord m1_NoWord m2_NoWord m3_NoWord m5_NoWord : Option Value}
    {od_iNoWord an_iNoWord : Option Addr} {sl_iNoWord : Array (Option Value)} {oc_iNoWord kV_iNoWord dc_iNoWord pm_iNoWord cd_iNoWord ct_iNoWord : Value}
    (aC_NoWord : PySem.W.nsIn K mainGlobals "NoWord" = some (some (.ref C_NoWord)))
    (xL_NoWord : K.lookup C_NoWord = some (excClassObj nm_NoWord q_NoWord C_NoWord N_NoWord bs_NoWord bm_NoWord true sn_NoWord sub_NoWord ab_NoWord col_NoWord dd_NoWord m0_NoWord m1_NoWord m2_NoWord m3_NoWord m5_NoWord "ValueError.__new__")) (vb_NoWord : PySem.HandSPX.refsVE bm_NoWord = true)
    (sa_NoWord : PySem.W.findIn K (.ref C_NoWord) "__setattr__" = some (some (.builtin "object.__setattr__"))) (ga_NoWord : PySem.W.findIn K (.ref C_NoWord) "__getattribute__" = some (some (.builtin "BaseException.__getattribute__"))) (gg_NoWord : PySem.W.findIn K (.ref C_NoWord) "__getattr__" = some none) (nb_NoWord : PySem.W.findIn K (.ref C_NoWord) "found" = some none)
    (a1_NoWord : PySem.W.findIn K (.ref C_NoWord) "__init__" = some (some (.ref f_iNoWord))) (t1_NoWord : PySem.W.typeIn K (.ref f_iNoWord) = some (.type "function"))
    (l1_NoWord : K.lookup f_iNoWord = some ⟨oc_iNoWord, od_iNoWord, .func (PySem.W.fnOf "__init__" "NoWord.__init__" (defArgs s_iNoWord) (defBody s_iNoWord) (defScope s_iNoWord) .none kV_iNoWord dc_iNoWord pm_iNoWord an_iNoWord cd_iNoWord ct_iNoWord), sl_iNoWord⟩) (c1_NoWord : PySem.W.codeIn K cd_iNoWord "NoWord.__init__" = true) (k1_NoWord : PySem.W.keepIn K (.ref f_iNoWord) = true)
    (kC_NoWord : PySem.W.keepIn K (.ref C_NoWord) = true) (eC_NoWord : PySem.W.subIn K (.ref C_NoWord) (.type "BaseException") = some true) (tC_NoWord : PySem.W.typeIn K (.ref C_NoWord) = some (.type "type")) (hC_NoWord : PySem.W.hasDictIn K C_NoWord = true) (iC_NoWord : PySem.W.isClsIn K C_NoWord = true) (sC_NoWord : PySem.W.subIn K (.ref C_NoWord) (.ref C_NoWord) = some true)
    {C_BadSign f_iBadSign : Addr} {nm_BadSign q_BadSign : Str} {N_BadSign : Addr} {bs_BadSign bm_BadSign : List Value} {sn_BadSign : List Str} {sub_BadSign : List Value} {ab_BadSign : Bool} {col_BadSign : Option Bool} {dd_BadSign : Option Addr} {m0_BadSign m1_BadSign m2_BadSign m3_BadSign m5_BadSign : Option Value}
    {od_iBadSign an_iBadSign : Option Addr} {sl_iBadSign : Array (Option Value)} {oc_iBadSign kV_iBadSign dc_iBadSign pm_iBadSign cd_iBadSign ct_iBadSign : Value}
    (aC_BadSign : PySem.W.nsIn K mainGlobals "BadSign" = some (some (.ref C_BadSign)))
    (xL_BadSign : K.lookup C_BadSign = some (excClassObj nm_BadSign q_BadSign C_BadSign N_BadSign bs_BadSign bm_BadSign true sn_BadSign sub_BadSign ab_BadSign col_BadSign dd_BadSign m0_BadSign m1_BadSign m2_BadSign m3_BadSign m5_BadSign "ValueError.__new__")) (vb_BadSign : PySem.HandSPX.refsVE bm_BadSign = true)
    (sa_BadSign : PySem.W.findIn K (.ref C_BadSign) "__setattr__" = some (some (.builtin "object.__setattr__"))) (ga_BadSign : PySem.W.findIn K (.ref C_BadSign) "__getattribute__" = some (some (.builtin "BaseException.__getattribute__"))) (gg_BadSign : PySem.W.findIn K (.ref C_BadSign) "__getattr__" = some none) (nb_BadSign : PySem.W.findIn K (.ref C_BadSign) "at" = some none)
    (a1_BadSign : PySem.W.findIn K (.ref C_BadSign) "__init__" = some (some (.ref f_iBadSign))) (t1_BadSign : PySem.W.typeIn K (.ref f_iBadSign) = some (.type "function"))
    (l1_BadSign : K.lookup f_iBadSign = some ⟨oc_iBadSign, od_iBadSign, .func (PySem.W.fnOf "__init__" "BadSign.__init__" (defArgs s_iBadSign) (defBody s_iBadSign) (defScope s_iBadSign) .none kV_iBadSign dc_iBadSign pm_iBadSign an_iBadSign cd_iBadSign ct_iBadSign), sl_iBadSign⟩) (c1_BadSign : PySem.W.codeIn K cd_iBadSign "BadSign.__init__" = true) (k1_BadSign : PySem.W.keepIn K (.ref f_iBadSign) = true)
    (kC_BadSign : PySem.W.keepIn K (.ref C_BadSign) = true) (eC_BadSign : PySem.W.subIn K (.ref C_BadSign) (.type "BaseException") = some true) (tC_BadSign : PySem.W.typeIn K (.ref C_BadSign) = some (.type "type")) (hC_BadSign : PySem.W.hasDictIn K C_BadSign = true) (iC_BadSign : PySem.W.isClsIn K C_BadSign = true) (sC_BadSign : PySem.W.subIn K (.ref C_BadSign) (.ref C_BadSign) = some true)
    {C_TooMany f_iTooMany : Addr} {nm_TooMany q_TooMany : Str} {N_TooMany : Addr} {bs_TooMany bm_TooMany : List Value} {sn_TooMany : List Str} {sub_TooMany : List Value} {ab_TooMany : Bool} {col_TooMany : Option Bool} {dd_TooMany : Option Addr} {m0_TooMany m1_TooMany m2_TooMany m3_TooMany m5_TooMany : Option Value}
    {od_iTooMany an_iTooMany : Option Addr} {sl_iTooMany : Array (Option Value)} {oc_iTooMany kV_iTooMany dc_iTooMany pm_iTooMany cd_iTooMany ct_iTooMany : Value}
    (aC_TooMany : PySem.W.nsIn K mainGlobals "TooMany" = some (some (.ref C_TooMany)))
    (xL_TooMany : K.lookup C_TooMany = some (excClassObj nm_TooMany q_TooMany C_TooMany N_TooMany bs_TooMany bm_TooMany true sn_TooMany sub_TooMany ab_TooMany col_TooMany dd_TooMany m0_TooMany m1_TooMany m2_TooMany m3_TooMany m5_TooMany "LookupError.__new__")) (vb_TooMany : PySem.JX.Over leTail bm_TooMany)
    (sa_TooMany : PySem.W.findIn K (.ref C_TooMany) "__setattr__" = some (some (.builtin "object.__setattr__"))) (ga_TooMany : PySem.W.findIn K (.ref C_TooMany) "__getattribute__" = some (some (.builtin "BaseException.__getattribute__"))) (gg_TooMany : PySem.W.findIn K (.ref C_TooMany) "__getattr__" = some none) (nb_TooMany : PySem.W.findIn K (.ref C_TooMany) "many" = some none)
    (a1_TooMany : PySem.W.findIn K (.ref C_TooMany) "__init__" = some (some (.ref f_iTooMany))) (t1_TooMany : PySem.W.typeIn K (.ref f_iTooMany) = some (.type "function"))
    (l1_TooMany : K.lookup f_iTooMany = some ⟨oc_iTooMany, od_iTooMany, .func (PySem.W.fnOf "__init__" "TooMany.__init__" (defArgs s_iTooMany) (defBody s_iTooMany) (defScope s_iTooMany) .none kV_iTooMany dc_iTooMany pm_iTooMany an_iTooMany cd_iTooMany ct_iTooMany), sl_iTooMany⟩) (c1_TooMany : PySem.W.codeIn K cd_iTooMany "TooMany.__init__" = true) (k1_TooMany : PySem.W.keepIn K (.ref f_iTooMany) = true)
    (kC_TooMany : PySem.W.keepIn K (.ref C_TooMany) = true) (eC_TooMany : PySem.W.subIn K (.ref C_TooMany) (.type "BaseException") = some true) (tC_TooMany : PySem.W.typeIn K (.ref C_TooMany) = some (.type "type")) (hC_TooMany : PySem.W.hasDictIn K C_TooMany = true) (iC_TooMany : PySem.W.isClsIn K C_TooMany = true) (sC_TooMany : PySem.W.subIn K (.ref C_TooMany) (.ref C_TooMany) = some true)
    (cl_NoLine : PySem.W.findIn K (.ref C_NoLine) "__class__" = some (some (.builtin "object.__class__"))) (hn_NoLine : PySem.W.specialIn K (.builtin "object.__class__") "__get__" = some (some (.builtin "getset_descriptor.__get__"))) (tk_NoLine : PySem.W.takesIn K (.builtin "object.__class__") = some true) (mo_NoLine : PySem.W.mroIn K C_NoLine (.type "object") = some true)
    (cl_NoList : PySem.W.findIn K (.ref C_NoList) "__class__" = some (some (.builtin "object.__class__"))) (hn_NoList : PySem.W.specialIn K (.builtin "object.__class__") "__get__" = some (some (.builtin "getset_descriptor.__get__"))) (tk_NoList : PySem.W.takesIn K (.builtin "object.__class__") = some true) (mo_NoList : PySem.W.mroIn K C_NoList (.type "object") = some true)
    (cl_NoState : PySem.W.findIn K (.ref C_NoState) "__class__" = some (some (.builtin "object.__class__"))) (hn_NoState : PySem.W.specialIn K (.builtin "object.__class__") "__get__" = some (some (.builtin "getset_descriptor.__get__"))) (tk_NoState : PySem.W.takesIn K (.builtin "object.__class__") = some true) (mo_NoState : PySem.W.mroIn K C_NoState (.type "object") = some true)
    (cl_NoWord : PySem.W.findIn K (.ref C_NoWord) "__class__" = some (some (.builtin "object.__class__"))) (hn_NoWord : PySem.W.specialIn K (.builtin "object.__class__") "__get__" = some (some (.builtin "getset_descriptor.__get__"))) (tk_NoWord : PySem.W.takesIn K (.builtin "object.__class__") = some true) (mo_NoWord : PySem.W.mroIn K C_NoWord (.type "object") = some true)
    (kq_NoLine_NoLine : PySem.W.kitOne K (.ref C_NoLine) (.ref C_NoLine) = some true)
    (kq_NoLine_NoList : PySem.W.kitOne K (.ref C_NoLine) (.ref C_NoList) = some false)
    (kq_NoLine_NoState : PySem.W.kitOne K (.ref C_NoLine) (.ref C_NoState) = some false)
    (kq_NoLine_NoWord : PySem.W.kitOne K (.ref C_NoLine) (.ref C_NoWord) = some false)
    (kq_NoList_NoLine : PySem.W.kitOne K (.ref C_NoList) (.ref C_NoLine) = some false)
    (kq_NoList_NoList : PySem.W.kitOne K (.ref C_NoList) (.ref C_NoList) = some true)
    (kq_NoList_NoState : PySem.W.kitOne K (.ref C_NoList) (.ref C_NoState) = some false)
    (kq_NoList_NoWord : PySem.W.kitOne K (.ref C_NoList) (.ref C_NoWord) = some false)
    (kq_NoState_NoLine : PySem.W.kitOne K (.ref C_NoState) (.ref C_NoLine) = some false)
    (kq_NoState_NoList : PySem.W.kitOne K (.ref C_NoState) (.ref C_NoList) = some false)
    (kq_NoState_NoState : PySem.W.kitOne K (.ref C_NoState) (.ref C_NoState) = some true)
    (kq_NoState_NoWord : PySem.W.kitOne K (.ref C_NoState) (.ref C_NoWord) = some false)
    (kq_NoWord_NoLine : PySem.W.kitOne K (.ref C_NoWord) (.ref C_NoLine) = some false)
    (kq_NoWord_NoList : PySem.W.kitOne K (.ref C_NoWord) (.ref C_NoList) = some false)
    (kq_NoWord_NoState : PySem.W.kitOne K (.ref C_NoWord) (.ref C_NoState) = some false)
    (kq_NoWord_NoWord : PySem.W.kitOne K (.ref C_NoWord) (.ref C_NoWord) = some true)
    (xq_BadSign_BadSign : PySem.W.exmOne K (.ref C_BadSign) (.ref C_BadSign) = some true)
    (xq_TooMany_BadSign : PySem.W.exmOne K (.ref C_TooMany) (.ref C_BadSign) = some false)
    (xq_TooMany_TooMany : PySem.W.exmOne K (.ref C_TooMany) (.ref C_TooMany) = some true)
    (am_NoLine : PySem.W.exmAny K (.ref C_NoLine) [.ref C_NoLine, .ref C_NoList, .ref C_NoState, .ref C_NoWord] = some true)
    (am_NoList : PySem.W.exmAny K (.ref C_NoList) [.ref C_NoLine, .ref C_NoList, .ref C_NoState, .ref C_NoWord] = some true)
    (am_NoState : PySem.W.exmAny K (.ref C_NoState) [.ref C_NoLine, .ref C_NoList, .ref C_NoState, .ref C_NoWord] = some true)
    (am_NoWord : PySem.W.exmAny K (.ref C_NoWord) [.ref C_NoLine, .ref C_NoList, .ref C_NoState, .ref C_NoWord] = some true)
    (am_BadSign : PySem.W.exmAny K (.ref C_BadSign) [.ref C_NoLine, .ref C_NoList, .ref C_NoState, .ref C_NoWord] = some false)
    (am_TooMany : PySem.W.exmAny K (.ref C_TooMany) [.ref C_NoLine, .ref C_NoList, .ref C_NoState, .ref C_NoWord] = some false)
    {t_MOST_SIGNS : Tok} (m_MOST_SIGNS : PySem.W.nsIn K mainGlobals "MOST_SIGNS" = some (some (.int 40 t_MOST_SIGNS)))
    {t_MOST_LINE : Tok} (m_MOST_LINE : PySem.W.nsIn K mainGlobals "MOST_LINE" = some (some (.int 2000 t_MOST_LINE)))
    {t_MOST_WORDS : Tok} (m_MOST_WORDS : PySem.W.nsIn K mainGlobals "MOST_WORDS" = some (some (.int 40 t_MOST_WORDS)))
    {t_PARTING : Tok} (m_PARTING : PySem.W.nsIn K mainGlobals "PARTING" = some (some (.str " \n" t_PARTING)))
    {t_NEEDING : Tok} (m_NEEDING : PySem.W.nsIn K mainGlobals "NEEDING" = some (some (.str " '\"\\" t_NEEDING)))
    {t_NEEDING_WITHIN : Tok} (m_NEEDING_WITHIN : PySem.W.nsIn K mainGlobals "NEEDING_WITHIN" = some (some (.str "\"\\" t_NEEDING_WITHIN)))
    {q_QUOTES : Addr} {odq_QUOTES : Option Addr} {nq_QUOTES : Nat} {slq_QUOTES : Array (Option Value)} {t0_QUOTES : Tok} {t1_QUOTES : Tok} (m_QUOTES : PySem.W.nsIn K mainGlobals "QUOTES" = some (some (.ref q_QUOTES))) (lq_QUOTES : K.lookup q_QUOTES = some ⟨.type "tuple", odq_QUOTES, .seq #[.str "'" t0_QUOTES, .str "\"" t1_QUOTES] nq_QUOTES, slq_QUOTES⟩)
    (z_len : PySem.W.nsIn K mainGlobals "len" = some none)
    (z_all : PySem.W.nsIn K mainGlobals "all" = some none)
    (z_isinstance : PySem.W.nsIn K mainGlobals "isinstance" = some none)
    (z_str : PySem.W.nsIn K mainGlobals "str" = some none)
    (z_list : PySem.W.nsIn K mainGlobals "list" = some none)
    (z_tuple : PySem.W.nsIn K mainGlobals "tuple" = some none)
    (z_int : PySem.W.nsIn K mainGlobals "int" = some none)
    (z_min : PySem.W.nsIn K mainGlobals "min" = some none)
    (z_repr : PySem.W.nsIn K mainGlobals "repr" = some none)
    (z_max : PySem.W.nsIn K mainGlobals "max" = some none)
    (z_dict : PySem.W.nsIn K mainGlobals "dict" = some none)
    (z_range : PySem.W.nsIn K mainGlobals "range" = some none)
    (z_enumerate : PySem.W.nsIn K mainGlobals "enumerate" = some none)
    (z_bool : PySem.W.nsIn K mainGlobals "bool" = some none)
    : ∃ fd : FuncData, (∀ (s : Shared) (v : Value), BindsTo s fd ⟨[v], []⟩ [("_law_script", v)]) ∧ ∀ base : Heap, K.In base → base.Ns mainGlobals mg → FnG l.prog w K mg base CX0 13 fa fd ["_law_script"] (spLaw K) := by
  have e := hfa.symm.trans (PySem.W.mg_of X G a_law)
  cases e
  have T : Tx K mg := { z_len := PySem.W.mg_none_of X G z_len, z_all := PySem.W.mg_none_of X G z_all, z_isinstance := PySem.W.mg_none_of X G z_isinstance, z_str := PySem.W.mg_none_of X G z_str, z_list := PySem.W.mg_none_of X G z_list, z_tuple := PySem.W.mg_none_of X G z_tuple, z_int := PySem.W.mg_none_of X G z_int, z_min := PySem.W.mg_none_of X G z_min, z_repr := PySem.W.mg_none_of X G z_repr, z_max := PySem.W.mg_none_of X G z_max, z_dict := PySem.W.mg_none_of X G z_dict, z_range := PySem.W.mg_none_of X G z_range, z_enumerate := PySem.W.mg_none_of X G z_enumerate, z_bool := PySem.W.mg_none_of X G z_bool, c_MOST_SIGNS := ⟨_, PySem.W.mg_of X G m_MOST_SIGNS⟩, c_MOST_LINE := ⟨_, PySem.W.mg_of X G m_MOST_LINE⟩, c_MOST_WORDS := ⟨_, PySem.W.mg_of X G m_MOST_WORDS⟩, c_PARTING := ⟨_, PySem.W.mg_of X G m_PARTING⟩, c_NEEDING := ⟨_, PySem.W.mg_of X G m_NEEDING⟩, c_NEEDING_WITHIN := ⟨_, PySem.W.mg_of X G m_NEEDING_WITHIN⟩, c_QUOTES := ⟨_, PySem.W.mg_of X G m_QUOTES, fun _ => .inr ⟨_, _, _, lq_QUOTES, rfl, rfl, by show 2 ≤ sizeLine; decide, .cons ⟨_, rfl⟩ (.cons ⟨_, rfl⟩ (.nil))⟩⟩ }
  have F_law_box := fun_mk (st := s_law_box) l_law_box c_law_box k_law_box
  have F_law_take := fun_mk (st := s_law_take) l_law_take c_law_take k_law_take
  have F_law_odd := fun_mk (st := s_law_odd) l_law_odd c_law_odd k_law_odd
  have F_law_due := fun_mk (st := s_law_due) l_law_due c_law_due k_law_due
  have F_law_states_right := fun_mk (st := s_law_states_right) l_law_states_right c_law_states_right k_law_states_right
  have F_law_bounds_right := fun_mk (st := s_law_bounds_right) l_law_bounds_right c_law_bounds_right k_law_bounds_right
  have F_law_right := fun_mk (st := s_law_right) l_law_right c_law_right k_law_right
  have F_law_told := fun_mk (st := s_law_told) l_law_told c_law_told k_law_told
  have F_law_asked := fun_mk (st := s_law_asked) l_law_asked c_law_asked k_law_asked
  have F_cut := fun_mk (st := s_cut) l_cut c_cut k_cut
  have F_state_of := fun_mk (st := s_state_of) l_state_of c_state_of k_state_of
  have F_quoted := fun_mk (st := s_quoted) l_quoted c_quoted k_quoted
  have F_joined := fun_mk (st := s_joined) l_joined c_joined k_joined
  have F_quoted_behind := fun_mk (st := s_quoted_behind) l_quoted_behind c_quoted_behind k_quoted_behind
  have F_shows_cut := fun_mk (st := s_shows_cut) l_shows_cut c_shows_cut k_shows_cut
  have F_are_alike := fun_mk (st := s_are_alike) l_are_alike c_are_alike k_are_alike
  have F_cut_plainly := fun_mk (st := s_cut_plainly) l_cut_plainly c_cut_plainly k_cut_plainly
  have F_scanned := fun_mk (st := s_scanned) l_scanned c_scanned k_scanned
  have F_refuse_too_many := fun_mk (st := s_refuse_too_many) l_refuse_too_many c_refuse_too_many k_refuse_too_many
  have F_is_line := fun_mk (st := s_is_line) l_is_line c_is_line k_is_line
  have F_are_signs := fun_mk (st := s_are_signs) l_are_signs c_are_signs k_are_signs
  have F_longer := fun_mk (st := s_longer) l_longer c_longer k_longer
  have F_ways := fun_mk (st := s_ways) l_ways c_ways k_ways
  have F_escaped := fun_mk (st := s_escaped) l_escaped c_escaped k_escaped
  have F_is_word := fun_mk (st := s_is_word) l_is_word c_is_word k_is_word
  have F_are_words := fun_mk (st := s_are_words) l_are_words c_are_words k_are_words
  have F_is_state := fun_mk (st := s_is_state) l_is_state c_is_state k_is_state
  have F_written_behind := fun_mk (st := s_written_behind) l_written_behind c_written_behind k_written_behind
  have F_rest_quoted := fun_mk (st := s_rest_quoted) l_rest_quoted c_rest_quoted k_rest_quoted
  have F_law_pick := fun_mk (st := s_law_pick) l_law_pick c_law_pick k_law_pick
  have F_law_line_due := fun_mk (st := s_law_line_due) l_law_line_due c_law_line_due k_law_line_due
  have F_law_is_word := fun_mk (st := s_law_is_word) l_law_is_word c_law_is_word k_law_is_word
  have F_law_is_list := fun_mk (st := s_law_is_list) l_law_is_list c_law_is_list k_law_is_list
  have F_law := fun_mk (st := s_law) l_law c_law k_law
  have D_law_box : DAt K mg "_law_box" s_law_box P_law_box f_law_box _ := ⟨F_law_box, PySem.W.mg_of X G a_law_box, F_law_box.binds (ps := P_law_box) fun _ _ _ _ _ _ us hl => match us, hl with | [_], _ => rfl⟩
  have D_law_take : DAt K mg "_law_take" s_law_take P_law_take f_law_take _ := ⟨F_law_take, PySem.W.mg_of X G a_law_take, F_law_take.binds (ps := P_law_take) fun _ _ _ _ _ _ us hl => match us, hl with | [_, _], _ => rfl⟩
  have D_law_odd : DAt K mg "_law_odd" s_law_odd P_law_odd f_law_odd _ := ⟨F_law_odd, PySem.W.mg_of X G a_law_odd, F_law_odd.binds (ps := P_law_odd) fun _ _ _ _ _ _ us hl => match us, hl with | [_], _ => rfl⟩
  have D_law_due : DAt K mg "_law_due" s_law_due P_law_due f_law_due _ := ⟨F_law_due, PySem.W.mg_of X G a_law_due, F_law_due.binds (ps := P_law_due) fun _ _ _ _ _ _ us hl => match us, hl with | [_, _, _], _ => rfl⟩
  have D_law_states_right : DAt K mg "_law_states_right" s_law_states_right P_law_states_right f_law_states_right _ := ⟨F_law_states_right, PySem.W.mg_of X G a_law_states_right, F_law_states_right.binds (ps := P_law_states_right) fun _ _ _ _ _ _ us hl => match us, hl with | [_], _ => rfl⟩
  have D_law_bounds_right : DAt K mg "_law_bounds_right" s_law_bounds_right P_law_bounds_right f_law_bounds_right _ := ⟨F_law_bounds_right, PySem.W.mg_of X G a_law_bounds_right, F_law_bounds_right.binds (ps := P_law_bounds_right) fun _ _ _ _ _ _ us hl => match us, hl with | [_], _ => rfl⟩
  have D_law_right : DAt K mg "_law_right" s_law_right P_law_right f_law_right _ := ⟨F_law_right, PySem.W.mg_of X G a_law_right, F_law_right.binds (ps := P_law_right) fun _ _ _ _ _ _ us hl => match us, hl with | [_, _, _, _], _ => rfl⟩
  have D_law_told : DAt K mg "_law_told" s_law_told P_law_told f_law_told _ := ⟨F_law_told, PySem.W.mg_of X G a_law_told, F_law_told.binds (ps := P_law_told) fun _ _ _ _ _ _ us hl => match us, hl with | [_, _, _], _ => rfl⟩
  have D_law_asked : DAt K mg "_law_asked" s_law_asked P_law_asked f_law_asked _ := ⟨F_law_asked, PySem.W.mg_of X G a_law_asked, F_law_asked.binds (ps := P_law_asked) fun _ _ _ _ _ _ us hl => match us, hl with | [_, _, _], _ => rfl⟩
  have D_cut : DAt K mg "cut" s_cut P_cut f_cut _ := ⟨F_cut, PySem.W.mg_of X G a_cut, F_cut.binds (ps := P_cut) fun _ _ _ _ _ _ us hl => match us, hl with | [_], _ => rfl⟩
  have D_state_of : DAt K mg "state_of" s_state_of P_state_of f_state_of _ := ⟨F_state_of, PySem.W.mg_of X G a_state_of, F_state_of.binds (ps := P_state_of) fun _ _ _ _ _ _ us hl => match us, hl with | [_], _ => rfl⟩
  have D_quoted : DAt K mg "quoted" s_quoted P_quoted f_quoted _ := ⟨F_quoted, PySem.W.mg_of X G a_quoted, F_quoted.binds (ps := P_quoted) fun _ _ _ _ _ _ us hl => match us, hl with | [_], _ => rfl⟩
  have D_joined : DAt K mg "joined" s_joined P_joined f_joined _ := ⟨F_joined, PySem.W.mg_of X G a_joined, F_joined.binds (ps := P_joined) fun _ _ _ _ _ _ us hl => match us, hl with | [_], _ => rfl⟩
  have D_quoted_behind : DAt K mg "quoted_behind" s_quoted_behind P_quoted_behind f_quoted_behind _ := ⟨F_quoted_behind, PySem.W.mg_of X G a_quoted_behind, F_quoted_behind.binds (ps := P_quoted_behind) fun _ _ _ _ _ _ us hl => match us, hl with | [_, _], _ => rfl⟩
  have D_shows_cut : DAt K mg "shows_cut" s_shows_cut P_shows_cut f_shows_cut _ := ⟨F_shows_cut, PySem.W.mg_of X G a_shows_cut, F_shows_cut.binds (ps := P_shows_cut) fun _ _ _ _ _ _ us hl => match us, hl with | [_, _], _ => rfl⟩
  have D_are_alike : DAt K mg "are_alike" s_are_alike P_are_alike f_are_alike _ := ⟨F_are_alike, PySem.W.mg_of X G a_are_alike, F_are_alike.binds (ps := P_are_alike) fun _ _ _ _ _ _ us hl => match us, hl with | [_, _], _ => rfl⟩
  have D_cut_plainly : DAt K mg "_cut_plainly" s_cut_plainly P_cut_plainly f_cut_plainly _ := ⟨F_cut_plainly, PySem.W.mg_of X G a_cut_plainly, F_cut_plainly.binds (ps := P_cut_plainly) fun _ _ _ _ _ _ us hl => match us, hl with | [_], _ => rfl⟩
  have D_scanned : DAt K mg "_scanned" s_scanned P_scanned f_scanned _ := ⟨F_scanned, PySem.W.mg_of X G a_scanned, F_scanned.binds (ps := P_scanned) fun _ _ _ _ _ _ us hl => match us, hl with | [_], _ => rfl⟩
  have D_refuse_too_many : DAt K mg "_refuse_too_many" s_refuse_too_many P_refuse_too_many f_refuse_too_many _ := ⟨F_refuse_too_many, PySem.W.mg_of X G a_refuse_too_many, F_refuse_too_many.binds (ps := P_refuse_too_many) fun _ _ _ _ _ _ us hl => match us, hl with | [_], _ => rfl⟩
  have D_is_line : DAt K mg "is_line" s_is_line P_is_line f_is_line _ := ⟨F_is_line, PySem.W.mg_of X G a_is_line, F_is_line.binds (ps := P_is_line) fun _ _ _ _ _ _ us hl => match us, hl with | [_], _ => rfl⟩
  have D_are_signs : DAt K mg "are_signs" s_are_signs P_are_signs f_are_signs _ := ⟨F_are_signs, PySem.W.mg_of X G a_are_signs, F_are_signs.binds (ps := P_are_signs) fun _ _ _ _ _ _ us hl => match us, hl with | [_], _ => rfl⟩
  have D_longer : DAt K mg "_longer" s_longer P_longer f_longer _ := ⟨F_longer, PySem.W.mg_of X G a_longer, F_longer.binds (ps := P_longer) fun _ _ _ _ _ _ us hl => match us, hl with | [_, _, _], _ => rfl⟩
  have D_ways : DAt K mg "_ways" s_ways P_ways f_ways _ := ⟨F_ways, PySem.W.mg_of X G a_ways, F_ways.binds (ps := P_ways) fun _ _ _ _ _ _ us hl => match us, hl with | [_], _ => rfl⟩
  have D_escaped : DAt K mg "_escaped" s_escaped P_escaped f_escaped _ := ⟨F_escaped, PySem.W.mg_of X G a_escaped, F_escaped.binds (ps := P_escaped) fun _ _ _ _ _ _ us hl => match us, hl with | [_, _], _ => rfl⟩
  have D_is_word : DAt K mg "is_word" s_is_word P_is_word f_is_word _ := ⟨F_is_word, PySem.W.mg_of X G a_is_word, F_is_word.binds (ps := P_is_word) fun _ _ _ _ _ _ us hl => match us, hl with | [_], _ => rfl⟩
  have D_are_words : DAt K mg "are_words" s_are_words P_are_words f_are_words _ := ⟨F_are_words, PySem.W.mg_of X G a_are_words, F_are_words.binds (ps := P_are_words) fun _ _ _ _ _ _ us hl => match us, hl with | [_], _ => rfl⟩
  have D_is_state : DAt K mg "is_state" s_is_state P_is_state f_is_state _ := ⟨F_is_state, PySem.W.mg_of X G a_is_state, F_is_state.binds (ps := P_is_state) fun _ _ _ _ _ _ us hl => match us, hl with | [_], _ => rfl⟩
  have D_written_behind : DAt K mg "written_behind" s_written_behind P_written_behind f_written_behind _ := ⟨F_written_behind, PySem.W.mg_of X G a_written_behind, F_written_behind.binds (ps := P_written_behind) fun _ _ _ _ _ _ us hl => match us, hl with | [_, _], _ => rfl⟩
  have D_rest_quoted : DAt K mg "_rest_quoted" s_rest_quoted P_rest_quoted f_rest_quoted _ := ⟨F_rest_quoted, PySem.W.mg_of X G a_rest_quoted, F_rest_quoted.binds (ps := P_rest_quoted) fun _ _ _ _ _ _ us hl => match us, hl with | [_, _], _ => rfl⟩
  have D_law_pick : DAt K mg "_law_pick" s_law_pick P_law_pick f_law_pick _ := ⟨F_law_pick, PySem.W.mg_of X G a_law_pick, F_law_pick.binds (ps := P_law_pick) fun _ _ _ _ _ _ us hl => match us, hl with | [_, _], _ => rfl⟩
  have D_law_line_due : DAt K mg "_law_line_due" s_law_line_due P_law_line_due f_law_line_due _ := ⟨F_law_line_due, PySem.W.mg_of X G a_law_line_due, F_law_line_due.binds (ps := P_law_line_due) fun _ _ _ _ _ _ us hl => match us, hl with | [_], _ => rfl⟩
  have D_law_is_word : DAt K mg "_law_is_word" s_law_is_word P_law_is_word f_law_is_word _ := ⟨F_law_is_word, PySem.W.mg_of X G a_law_is_word, F_law_is_word.binds (ps := P_law_is_word) fun _ _ _ _ _ _ us hl => match us, hl with | [_], _ => rfl⟩
  have D_law_is_list : DAt K mg "_law_is_list" s_law_is_list P_law_is_list f_law_is_list _ := ⟨F_law_is_list, PySem.W.mg_of X G a_law_is_list, F_law_is_list.binds (ps := P_law_is_list) fun _ _ _ _ _ _ us hl => match us, hl with | [_], _ => rfl⟩
  have F_iNoLine := fun_mk (st := s_iNoLine) l1_NoLine c1_NoLine k1_NoLine
  have O_NoLine : ∀ base : Heap, OE l.prog w K mg base "NoLine" "found" C_NoLine := fun base => { T := { cls := ⟨nm_NoLine, q_NoLine, N_NoLine, bs_NoLine, _, sn_NoLine, sub_NoLine, ab_NoLine, col_NoLine, dd_NoLine, m0_NoLine, m1_NoLine, m2_NoLine, m3_NoLine, m5_NoLine, xL_NoLine, vb_NoLine⟩, sa := sa_NoLine, exC := eC_NoLine, tyC := tC_NoLine, kC := kC_NoLine }, nf := nb_NoLine, gl := PySem.W.mg_of X G aC_NoLine, ini := ⟨f_iNoLine, _, a1_NoLine, t1_NoLine, ok_iNoLine F_iNoLine, F_iNoLine.binds (ps := ["self", "found"]) fun _ _ _ _ _ _ us hl => match us, hl with | [_, _], _ => rfl⟩ }
  have XF_NoLine : XfC K C_NoLine := ⟨ga_NoLine, gg_NoLine, eC_NoLine, hC_NoLine⟩
  have EX_NoLine : PySem.W.exmOne K (.ref C_NoLine) (.ref C_NoLine) = some true := exm_same eC_NoLine iC_NoLine tC_NoLine sC_NoLine
  have F_iNoList := fun_mk (st := s_iNoList) l1_NoList c1_NoList k1_NoList
  have O_NoList : ∀ base : Heap, OE l.prog w K mg base "NoList" "found" C_NoList := fun base => { T := { cls := ⟨nm_NoList, q_NoList, N_NoList, bs_NoList, _, sn_NoList, sub_NoList, ab_NoList, col_NoList, dd_NoList, m0_NoList, m1_NoList, m2_NoList, m3_NoList, m5_NoList, xL_NoList, vb_NoList⟩, sa := sa_NoList, exC := eC_NoList, tyC := tC_NoList, kC := kC_NoList }, nf := nb_NoList, gl := PySem.W.mg_of X G aC_NoList, ini := ⟨f_iNoList, _, a1_NoList, t1_NoList, ok_iNoList F_iNoList, F_iNoList.binds (ps := ["self", "found"]) fun _ _ _ _ _ _ us hl => match us, hl with | [_, _], _ => rfl⟩ }
  have XF_NoList : XfC K C_NoList := ⟨ga_NoList, gg_NoList, eC_NoList, hC_NoList⟩
  have EX_NoList : PySem.W.exmOne K (.ref C_NoList) (.ref C_NoList) = some true := exm_same eC_NoList iC_NoList tC_NoList sC_NoList
  have F_iNoState := fun_mk (st := s_iNoState) l1_NoState c1_NoState k1_NoState
  have O_NoState : ∀ base : Heap, OE l.prog w K mg base "NoState" "found" C_NoState := fun base => { T := { cls := ⟨nm_NoState, q_NoState, N_NoState, bs_NoState, _, sn_NoState, sub_NoState, ab_NoState, col_NoState, dd_NoState, m0_NoState, m1_NoState, m2_NoState, m3_NoState, m5_NoState, xL_NoState, vb_NoState⟩, sa := sa_NoState, exC := eC_NoState, tyC := tC_NoState, kC := kC_NoState }, nf := nb_NoState, gl := PySem.W.mg_of X G aC_NoState, ini := ⟨f_iNoState, _, a1_NoState, t1_NoState, ok_iNoState F_iNoState, F_iNoState.binds (ps := ["self", "found"]) fun _ _ _ _ _ _ us hl => match us, hl with | [_, _], _ => rfl⟩ }
  have XF_NoState : XfC K C_NoState := ⟨ga_NoState, gg_NoState, eC_NoState, hC_NoState⟩
  have EX_NoState : PySem.W.exmOne K (.ref C_NoState) (.ref C_NoState) = some true := exm_same eC_NoState iC_NoState tC_NoState sC_NoState
  have F_iNoWord := fun_mk (st := s_iNoWord) l1_NoWord c1_NoWord k1_NoWord
  have O_NoWord : ∀ base : Heap, OE l.prog w K mg base "NoWord" "found" C_NoWord := fun base => { T := { cls := ⟨nm_NoWord, q_NoWord, N_NoWord, bs_NoWord, _, sn_NoWord, sub_NoWord, ab_NoWord, col_NoWord, dd_NoWord, m0_NoWord, m1_NoWord, m2_NoWord, m3_NoWord, m5_NoWord, xL_NoWord, vb_NoWord⟩, sa := sa_NoWord, exC := eC_NoWord, tyC := tC_NoWord, kC := kC_NoWord }, nf := nb_NoWord, gl := PySem.W.mg_of X G aC_NoWord, ini := ⟨f_iNoWord, _, a1_NoWord, t1_NoWord, ok_iNoWord F_iNoWord, F_iNoWord.binds (ps := ["self", "found"]) fun _ _ _ _ _ _ us hl => match us, hl with | [_, _], _ => rfl⟩ }
  have XF_NoWord : XfC K C_NoWord := ⟨ga_NoWord, gg_NoWord, eC_NoWord, hC_NoWord⟩
  have EX_NoWord : PySem.W.exmOne K (.ref C_NoWord) (.ref C_NoWord) = some true := exm_same eC_NoWord iC_NoWord tC_NoWord sC_NoWord
  have F_iBadSign := fun_mk (st := s_iBadSign) l1_BadSign c1_BadSign k1_BadSign
  have O_BadSign : ∀ base : Heap, OE l.prog w K mg base "BadSign" "at" C_BadSign := fun base => { T := { cls := ⟨nm_BadSign, q_BadSign, N_BadSign, bs_BadSign, _, sn_BadSign, sub_BadSign, ab_BadSign, col_BadSign, dd_BadSign, m0_BadSign, m1_BadSign, m2_BadSign, m3_BadSign, m5_BadSign, xL_BadSign, vb_BadSign⟩, sa := sa_BadSign, exC := eC_BadSign, tyC := tC_BadSign, kC := kC_BadSign }, nf := nb_BadSign, gl := PySem.W.mg_of X G aC_BadSign, ini := ⟨f_iBadSign, _, a1_BadSign, t1_BadSign, ok_iBadSign F_iBadSign, F_iBadSign.binds (ps := ["self", "at"]) fun _ _ _ _ _ _ us hl => match us, hl with | [_, _], _ => rfl⟩ }
  have XF_BadSign : XfC K C_BadSign := ⟨ga_BadSign, gg_BadSign, eC_BadSign, hC_BadSign⟩
  have EX_BadSign : PySem.W.exmOne K (.ref C_BadSign) (.ref C_BadSign) = some true := exm_same eC_BadSign iC_BadSign tC_BadSign sC_BadSign
  have F_iTooMany := fun_mk (st := s_iTooMany) l1_TooMany c1_TooMany k1_TooMany
  have O_TooMany : ∀ base : Heap, OL l.prog w K mg base "TooMany" "many" C_TooMany := fun base => { T := { cls := ⟨nm_TooMany, q_TooMany, N_TooMany, bs_TooMany, _, sn_TooMany, sub_TooMany, ab_TooMany, col_TooMany, dd_TooMany, m0_TooMany, m1_TooMany, m2_TooMany, m3_TooMany, m5_TooMany, xL_TooMany, vb_TooMany⟩, sa := sa_TooMany, ex := eC_TooMany, ty := tC_TooMany, kp := kC_TooMany }, nf := nb_TooMany, gl := PySem.W.mg_of X G aC_TooMany, ini := ⟨f_iTooMany, _, a1_TooMany, t1_TooMany, ok_iTooMany F_iTooMany, F_iTooMany.binds (ps := ["self", "many"]) fun _ _ _ _ _ _ us hl => match us, hl with | [_, _], _ => rfl⟩ }
  have XF_TooMany : XfC K C_TooMany := ⟨ga_TooMany, gg_TooMany, eC_TooMany, hC_TooMany⟩
  have EX_TooMany : PySem.W.exmOne K (.ref C_TooMany) (.ref C_TooMany) = some true := exm_same eC_TooMany iC_TooMany tC_TooMany sC_TooMany
  have XC_NoLine : ExcC K C_NoLine := ⟨ga_NoLine, gg_NoLine, eC_NoLine, hC_NoLine, cl_NoLine, hn_NoLine, tk_NoLine, mo_NoLine⟩
  have XC_NoList : ExcC K C_NoList := ⟨ga_NoList, gg_NoList, eC_NoList, hC_NoList, cl_NoList, hn_NoList, tk_NoList, mo_NoList⟩
  have XC_NoState : ExcC K C_NoState := ⟨ga_NoState, gg_NoState, eC_NoState, hC_NoState, cl_NoState, hn_NoState, tk_NoState, mo_NoState⟩
  have XC_NoWord : ExcC K C_NoWord := ⟨ga_NoWord, gg_NoWord, eC_NoWord, hC_NoWord, cl_NoWord, hn_NoWord, tk_NoWord, mo_NoWord⟩
  have TQ : TK K C_NoLine C_NoList C_NoState C_NoWord C_BadSign C_TooMany := { m := fun k => match k with | 0 => am_NoLine | 1 => am_NoList | 2 => am_NoState | _ + 3 => am_NoWord, mB := am_BadSign, mT := am_TooMany, q0 := fun k => match k with | 0 => by rw [decide_eq_true (by omega)]; exact kq_NoLine_NoLine | 1 => by rw [decide_eq_false (by omega)]; exact kq_NoList_NoLine | 2 => by rw [decide_eq_false (by omega)]; exact kq_NoState_NoLine | n + 3 => by rw [decide_eq_false (by omega)]; exact kq_NoWord_NoLine, q1 := fun k => match k with | 0 => by rw [decide_eq_false (by omega)]; exact kq_NoLine_NoList | 1 => by rw [decide_eq_true (by omega)]; exact kq_NoList_NoList | 2 => by rw [decide_eq_false (by omega)]; exact kq_NoState_NoList | n + 3 => by rw [decide_eq_false (by omega)]; exact kq_NoWord_NoList, q2 := fun k => match k with | 0 => by rw [decide_eq_false (by omega)]; exact kq_NoLine_NoState | 1 => by rw [decide_eq_false (by omega)]; exact kq_NoList_NoState | 2 => by rw [decide_eq_true (by omega)]; exact kq_NoState_NoState | n + 3 => by rw [decide_eq_false (by omega)]; exact kq_NoWord_NoState, q3 := fun k => match k with | 0 => by rw [decide_eq_false (by omega)]; exact kq_NoLine_NoWord | 1 => by rw [decide_eq_false (by omega)]; exact kq_NoList_NoWord | 2 => by rw [decide_eq_false (by omega)]; exact kq_NoState_NoWord | n + 3 => by rw [decide_eq_true (by omega)]; exact kq_NoWord_NoWord, xc := fun k => match k with | 0 => XC_NoLine | 1 => XC_NoList | 2 => XC_NoState | _ + 3 => XC_NoWord, xf := fun k => match k with | 0 => XF_NoLine | 1 => XF_NoList | 2 => XF_NoState | _ + 3 => XF_NoWord, nf := fun k => match k with | 0 => nb_NoLine | 1 => nb_NoList | 2 => nb_NoState | _ + 3 => nb_NoWord, bB := xq_BadSign_BadSign, tB := xq_TooMany_BadSign, tT := xq_TooMany_TooMany, xB := XF_BadSign, xT := XF_TooMany }
  exact ⟨PySem.W.fnOf "law" "law" (defArgs s_law) (defBody s_law) (defScope s_law) .none kV_law dc_law pm_law an_law cd_law ct_law, fun s v => .of_eq rfl, fun base _ _ => ok_law T (O_NoLine base) (O_NoList base) (O_NoState base) (O_NoWord base) (O_BadSign base) (O_TooMany base) TQ F_law D_law_box D_law_take D_law_odd D_law_due D_law_states_right D_law_bounds_right D_law_right D_law_told D_law_asked D_cut D_state_of D_quoted D_joined D_quoted_behind D_shows_cut D_are_alike D_cut_plainly D_scanned D_refuse_too_many D_is_line D_are_signs D_longer D_ways D_escaped D_is_word D_are_words D_is_state D_written_behind D_rest_quoted D_law_pick D_law_line_due D_law_is_word D_law_is_list⟩
theorem walk {l : PySem.W.OpenLaw} {q : Program} {loose : List Str} {XP : (Str → Option Value) → Heap → Prop} {YP : World → Heap → Prop} {d : DefRec} {K : Params → PySem.W.Frag} (hn : l.most = some 63) (hdf : d.params.defaults = []) (hY : ∀ (w : World) (h : Heap), YP w h → (K w.params).In h)
    (F : ∀ (w : World) (mg : Str → Option Value) (fa : Addr) (h : Heap), (K w.params).In h → h.Ns mainGlobals mg → mg d.name = some (.ref fa) →  -- own
      ∃ fd : FuncData, (∀ (s : Shared) (u : Value), BindsTo s fd ⟨[u], []⟩ [("_law_script", u)]) ∧ ∀ base : Heap, (K w.params).In base → base.Ns mainGlobals mg → FnG l.prog w (K w.params) mg base CX0 13 fa fd ["_law_script"] (spLaw (K w.params))) :
    PySem.W.WalkO q loose XP YP l.row.toRowW d [] (fun f vs => PySem.call f vs) :=  -- own
  walk_ofG (n := 63) (k := 13) (x := "_law_script") (sp := fun w => spLaw (K w.params)) hn (by decide) hdf ⟨rfl, by decide, by decide⟩ hY F (fun _ _ a ns hl _ hS => ⟨a, ns, rfl, hS, hl, fun _ => rfl⟩)
end K07
open PySem PySem.W PyProof.Rows  -- own
set_option maxRecDepth 100000 in  -- own
set_option maxHeartbeats 0 in
theorem PySem.Challenge.cw_callwords_k07_lines_refused_holds : PySem.Challenge.rw_callwords_k07_lines_refused.Holds := by
  w_on; o_law; k_head; (case hw => w_witness2)  -- own
  k_fill
  refine K07.walk (l := PySem.Challenge.rw_callwords_k07_lines_refused) rfl rfl (fun w h Y => PySem.W.kIn_of Y) ?F
  case F =>
    intro w mg fa h KX G hmg
    refine' K07.all_mk KX G hmg ?a_law_box ?l_law_box ?c_law_box ?k_law_box ?a_law_take ?l_law_take ?c_law_take ?k_law_take ?a_law_odd ?l_law_odd ?c_law_odd ?k_law_odd ?a_law_due ?l_law_due ?c_law_due ?k_law_due ?a_law_states_right ?l_law_states_right ?c_law_states_right ?k_law_states_right ?a_law_bounds_right ?l_law_bounds_right ?c_law_bounds_right ?k_law_bounds_right ?a_law_right ?l_law_right ?c_law_right ?k_law_right ?a_law_told ?l_law_told ?c_law_told ?k_law_told ?a_law_asked ?l_law_asked ?c_law_asked ?k_law_asked ?a_cut ?l_cut ?c_cut ?k_cut ?a_state_of ?l_state_of ?c_state_of ?k_state_of ?a_quoted ?l_quoted ?c_quoted ?k_quoted ?a_joined ?l_joined ?c_joined ?k_joined ?a_quoted_behind ?l_quoted_behind ?c_quoted_behind ?k_quoted_behind ?a_shows_cut ?l_shows_cut ?c_shows_cut ?k_shows_cut ?a_are_alike ?l_are_alike ?c_are_alike ?k_are_alike ?a_cut_plainly ?l_cut_plainly ?c_cut_plainly ?k_cut_plainly ?a_scanned ?l_scanned ?c_scanned ?k_scanned ?a_refuse_too_many ?l_refuse_too_many ?c_refuse_too_many ?k_refuse_too_many ?a_is_line ?l_is_line ?c_is_line ?k_is_line ?a_are_signs ?l_are_signs ?c_are_signs ?k_are_signs ?a_longer ?l_longer ?c_longer ?k_longer ?a_ways ?l_ways ?c_ways ?k_ways ?a_escaped ?l_escaped ?c_escaped ?k_escaped ?a_is_word ?l_is_word ?c_is_word ?k_is_word ?a_are_words ?l_are_words ?c_are_words ?k_are_words ?a_is_state ?l_is_state ?c_is_state ?k_is_state ?a_written_behind ?l_written_behind ?c_written_behind ?k_written_behind ?a_rest_quoted ?l_rest_quoted ?c_rest_quoted ?k_rest_quoted ?a_law_pick ?l_law_pick ?c_law_pick ?k_law_pick ?a_law_line_due ?l_law_line_due ?c_law_line_due ?k_law_line_due ?a_law_is_word ?l_law_is_word ?c_law_is_word ?k_law_is_word ?a_law_is_list ?l_law_is_list ?c_law_is_list ?k_law_is_list ?a_law ?l_law ?c_law ?k_law ?aC_NoLine ?xL_NoLine ?vb_NoLine ?sa_NoLine ?ga_NoLine ?gg_NoLine ?nb_NoLine ?a1_NoLine ?t1_NoLine ?l1_NoLine ?c1_NoLine ?k1_NoLine ?kC_NoLine ?eC_NoLine ?tC_NoLine ?hC_NoLine ?iC_NoLine ?sC_NoLine ?aC_NoList ?xL_NoList ?vb_NoList ?sa_NoList ?ga_NoList ?gg_NoList ?nb_NoList ?a1_NoList ?t1_NoList ?l1_NoList ?c1_NoList ?k1_NoList ?kC_NoList ?eC_NoList ?tC_NoList ?hC_NoList ?iC_NoList ?sC_NoList ?aC_NoState ?xL_NoState ?vb_NoState ?sa_NoState ?ga_NoState ?gg_NoState ?nb_NoState ?a1_NoState ?t1_NoState ?l1_NoState ?c1_NoState ?k1_NoState ?kC_NoState ?eC_NoState ?tC_NoState ?hC_NoState ?iC_NoState ?sC_NoState ?aC_NoWord ?xL_NoWord ?vb_NoWord ?sa_NoWord ?ga_NoWord ?gg_NoWord ?nb_NoWord ?a1_NoWord ?t1_NoWord ?l1_NoWord ?c1_NoWord ?k1_NoWord ?kC_NoWord ?eC_NoWord ?tC_NoWord ?hC_NoWord ?iC_NoWord ?sC_NoWord ?aC_BadSign ?xL_BadSign ?vb_BadSign ?sa_BadSign ?ga_BadSign ?gg_BadSign ?nb_BadSign ?a1_BadSign ?t1_BadSign ?l1_BadSign ?c1_BadSign ?k1_BadSign ?kC_BadSign ?eC_BadSign ?tC_BadSign ?hC_BadSign ?iC_BadSign ?sC_BadSign ?aC_TooMany ?xL_TooMany ?vb_TooMany ?sa_TooMany ?ga_TooMany ?gg_TooMany ?nb_TooMany ?a1_TooMany ?t1_TooMany ?l1_TooMany ?c1_TooMany ?k1_TooMany ?kC_TooMany ?eC_TooMany ?tC_TooMany ?hC_TooMany ?iC_TooMany ?sC_TooMany ?cl_NoLine ?hn_NoLine ?tk_NoLine ?mo_NoLine ?cl_NoList ?hn_NoList ?tk_NoList ?mo_NoList ?cl_NoState ?hn_NoState ?tk_NoState ?mo_NoState ?cl_NoWord ?hn_NoWord ?tk_NoWord ?mo_NoWord ?kq_NoLine_NoLine ?kq_NoLine_NoList ?kq_NoLine_NoState ?kq_NoLine_NoWord ?kq_NoList_NoLine ?kq_NoList_NoList ?kq_NoList_NoState ?kq_NoList_NoWord ?kq_NoState_NoLine ?kq_NoState_NoList ?kq_NoState_NoState ?kq_NoState_NoWord ?kq_NoWord_NoLine ?kq_NoWord_NoList ?kq_NoWord_NoState ?kq_NoWord_NoWord ?xq_BadSign_BadSign ?xq_TooMany_BadSign ?xq_TooMany_TooMany ?am_NoLine ?am_NoList ?am_NoState ?am_NoWord ?am_BadSign ?am_TooMany ?m_MOST_SIGNS ?m_MOST_LINE ?m_MOST_WORDS ?m_PARTING ?m_NEEDING ?m_NEEDING_WITHIN ?m_QUOTES ?lq_QUOTES ?z_len ?z_all ?z_isinstance ?z_str ?z_list ?z_tuple ?z_int ?z_min ?z_repr ?z_max ?z_dict ?z_range ?z_enumerate ?z_bool
    (case a_law_box => k_is)
    (case l_law_box => k_is)
    (case c_law_box => k_is)
    (case k_law_box => k_is)
    (case a_law_take => k_is)
    (case l_law_take => k_is)
    (case c_law_take => k_is)
    (case k_law_take => k_is)
    (case a_law_odd => k_is)
    (case l_law_odd => k_is)
    (case c_law_odd => k_is)
    (case k_law_odd => k_is)
    (case a_law_due => k_is)
    (case l_law_due => k_is)
    (case c_law_due => k_is)
    (case k_law_due => k_is)
    (case a_law_states_right => k_is)
    (case l_law_states_right => k_is)
    (case c_law_states_right => k_is)
    (case k_law_states_right => k_is)
    (case a_law_bounds_right => k_is)
    (case l_law_bounds_right => k_is)
    (case c_law_bounds_right => k_is)
    (case k_law_bounds_right => k_is)
    (case a_law_right => k_is)
    (case l_law_right => k_is)
    (case c_law_right => k_is)
    (case k_law_right => k_is)
    (case a_law_told => k_is)
    (case l_law_told => k_is)
    (case c_law_told => k_is)
    (case k_law_told => k_is)
    (case a_law_asked => k_is)
    (case l_law_asked => k_is)
    (case c_law_asked => k_is)
    (case k_law_asked => k_is)
    (case a_cut => k_is)
    (case l_cut => k_is)
    (case c_cut => k_is)
    (case k_cut => k_is)
    (case a_state_of => k_is)
    (case l_state_of => k_is)
    (case c_state_of => k_is)
    (case k_state_of => k_is)
    (case a_quoted => k_is)
    (case l_quoted => k_is)
    (case c_quoted => k_is)
    (case k_quoted => k_is)
    (case a_joined => k_is)
    (case l_joined => k_is)
    (case c_joined => k_is)
    (case k_joined => k_is)
    (case a_quoted_behind => k_is)
    (case l_quoted_behind => k_is)
    (case c_quoted_behind => k_is)
    (case k_quoted_behind => k_is)
    (case a_shows_cut => k_is)
    (case l_shows_cut => k_is)
    (case c_shows_cut => k_is)
    (case k_shows_cut => k_is)
    (case a_are_alike => k_is)
    (case l_are_alike => k_is)
    (case c_are_alike => k_is)
    (case k_are_alike => k_is)
    (case a_cut_plainly => k_is)
    (case l_cut_plainly => k_is)
    (case c_cut_plainly => k_is)
    (case k_cut_plainly => k_is)
    (case a_scanned => k_is)
    (case l_scanned => k_is)
    (case c_scanned => k_is)
    (case k_scanned => k_is)
    (case a_refuse_too_many => k_is)
    (case l_refuse_too_many => k_is)
    (case c_refuse_too_many => k_is)
    (case k_refuse_too_many => k_is)
    (case a_is_line => k_is)
    (case l_is_line => k_is)
    (case c_is_line => k_is)
    (case k_is_line => k_is)
    (case a_are_signs => k_is)
    (case l_are_signs => k_is)
    (case c_are_signs => k_is)
    (case k_are_signs => k_is)
    (case a_longer => k_is)
    (case l_longer => k_is)
    (case c_longer => k_is)
    (case k_longer => k_is)
    (case a_ways => k_is)
    (case l_ways => k_is)
    (case c_ways => k_is)
    (case k_ways => k_is)
    (case a_escaped => k_is)
    (case l_escaped => k_is)
    (case c_escaped => k_is)
    (case k_escaped => k_is)
    (case a_is_word => k_is)
    (case l_is_word => k_is)
    (case c_is_word => k_is)
    (case k_is_word => k_is)
    (case a_are_words => k_is)
    (case l_are_words => k_is)
    (case c_are_words => k_is)
    (case k_are_words => k_is)
    (case a_is_state => k_is)
    (case l_is_state => k_is)
    (case c_is_state => k_is)
    (case k_is_state => k_is)
    (case a_written_behind => k_is)
    (case l_written_behind => k_is)
    (case c_written_behind => k_is)
    (case k_written_behind => k_is)
    (case a_rest_quoted => k_is)
    (case l_rest_quoted => k_is)
    (case c_rest_quoted => k_is)
    (case k_rest_quoted => k_is)
    (case a_law_pick => k_is)
    (case l_law_pick => k_is)
    (case c_law_pick => k_is)
    (case k_law_pick => k_is)
    (case a_law_line_due => k_is)
    (case l_law_line_due => k_is)
    (case c_law_line_due => k_is)
    (case k_law_line_due => k_is)
    (case a_law_is_word => k_is)
    (case l_law_is_word => k_is)
    (case c_law_is_word => k_is)
    (case k_law_is_word => k_is)
    (case a_law_is_list => k_is)
    (case l_law_is_list => k_is)
    (case c_law_is_list => k_is)
    (case k_law_is_list => k_is)
    (case a_law => k_is)
    (case l_law => k_is)
    (case c_law => k_is)
    (case k_law => k_is)
    (case aC_NoLine => k_is)
    (case xL_NoLine => k_is)
    (case vb_NoLine => first | rfl | exact ⟨[_], rfl⟩)
    (case sa_NoLine => k_is)
    (case ga_NoLine => k_is)
    (case gg_NoLine => k_is)
    (case nb_NoLine => k_is)
    (case a1_NoLine => k_is)
    (case t1_NoLine => k_is)
    (case l1_NoLine => k_is)
    (case c1_NoLine => k_is)
    (case k1_NoLine => k_is)
    (case kC_NoLine => k_is)
    (case eC_NoLine => k_is)
    (case tC_NoLine => k_is)
    (case hC_NoLine => k_is)
    (case iC_NoLine => k_is)
    (case sC_NoLine => first | rfl | k_is)
    (case aC_NoList => k_is)
    (case xL_NoList => k_is)
    (case vb_NoList => first | rfl | exact ⟨[_], rfl⟩)
    (case sa_NoList => k_is)
    (case ga_NoList => k_is)
    (case gg_NoList => k_is)
    (case nb_NoList => k_is)
    (case a1_NoList => k_is)
    (case t1_NoList => k_is)
    (case l1_NoList => k_is)
    (case c1_NoList => k_is)
    (case k1_NoList => k_is)
    (case kC_NoList => k_is)
    (case eC_NoList => k_is)
    (case tC_NoList => k_is)
    (case hC_NoList => k_is)
    (case iC_NoList => k_is)
    (case sC_NoList => first | rfl | k_is)
    (case aC_NoState => k_is)
    (case xL_NoState => k_is)
    (case vb_NoState => first | rfl | exact ⟨[_], rfl⟩)
    (case sa_NoState => k_is)
    (case ga_NoState => k_is)
    (case gg_NoState => k_is)
    (case nb_NoState => k_is)
    (case a1_NoState => k_is)
    (case t1_NoState => k_is)
    (case l1_NoState => k_is)
    (case c1_NoState => k_is)
    (case k1_NoState => k_is)
    (case kC_NoState => k_is)
    (case eC_NoState => k_is)
    (case tC_NoState => k_is)
    (case hC_NoState => k_is)
    (case iC_NoState => k_is)
    (case sC_NoState => first | rfl | k_is)
    (case aC_NoWord => k_is)
    (case xL_NoWord => k_is)
    (case vb_NoWord => first | rfl | exact ⟨[_], rfl⟩)
    (case sa_NoWord => k_is)
    (case ga_NoWord => k_is)
    (case gg_NoWord => k_is)
    (case nb_NoWord => k_is)
    (case a1_NoWord => k_is)
    (case t1_NoWord => k_is)
    (case l1_NoWord => k_is)
    (case c1_NoWord => k_is)
    (case k1_NoWord => k_is)
    (case kC_NoWord => k_is)
    (case eC_NoWord => k_is)
    (case tC_NoWord => k_is)
    (case hC_NoWord => k_is)
    (case iC_NoWord => k_is)
    (case sC_NoWord => first | rfl | k_is)
    (case aC_BadSign => k_is)
    (case xL_BadSign => k_is)
    (case vb_BadSign => first | rfl | exact ⟨[_], rfl⟩)
    (case sa_BadSign => k_is)
    (case ga_BadSign => k_is)
    (case gg_BadSign => k_is)
    (case nb_BadSign => k_is)
    (case a1_BadSign => k_is)
    (case t1_BadSign => k_is)
    (case l1_BadSign => k_is)
    (case c1_BadSign => k_is)
    (case k1_BadSign => k_is)
    (case kC_BadSign => k_is)
    (case eC_BadSign => k_is)
    (case tC_BadSign => k_is)
    (case hC_BadSign => k_is)
    (case iC_BadSign => k_is)
    (case sC_BadSign => first | rfl | k_is)
    (case aC_TooMany => k_is)
    (case xL_TooMany => k_is)
    (case vb_TooMany => first | rfl | exact ⟨[_], rfl⟩)
    (case sa_TooMany => k_is)
    (case ga_TooMany => k_is)
    (case gg_TooMany => k_is)
    (case nb_TooMany => k_is)
    (case a1_TooMany => k_is)
    (case t1_TooMany => k_is)
    (case l1_TooMany => k_is)
    (case c1_TooMany => k_is)
    (case k1_TooMany => k_is)
    (case kC_TooMany => k_is)
    (case eC_TooMany => k_is)
    (case tC_TooMany => k_is)
    (case hC_TooMany => k_is)
    (case iC_TooMany => k_is)
    (case sC_TooMany => first | rfl | k_is)
    (case cl_NoLine => k_is)
    (case hn_NoLine => k_is)
    (case tk_NoLine => k_is)
    (case mo_NoLine => k_is)
    (case cl_NoList => k_is)
    (case hn_NoList => k_is)
    (case tk_NoList => k_is)
    (case mo_NoList => k_is)
    (case cl_NoState => k_is)
    (case hn_NoState => k_is)
    (case tk_NoState => k_is)
    (case mo_NoState => k_is)
    (case cl_NoWord => k_is)
    (case hn_NoWord => k_is)
    (case tk_NoWord => k_is)
    (case mo_NoWord => k_is)
    (case kq_NoLine_NoLine => first | rfl | k_is | decide +kernel)
    (case kq_NoLine_NoList => first | rfl | k_is | decide +kernel)
    (case kq_NoLine_NoState => first | rfl | k_is | decide +kernel)
    (case kq_NoLine_NoWord => first | rfl | k_is | decide +kernel)
    (case kq_NoList_NoLine => first | rfl | k_is | decide +kernel)
    (case kq_NoList_NoList => first | rfl | k_is | decide +kernel)
    (case kq_NoList_NoState => first | rfl | k_is | decide +kernel)
    (case kq_NoList_NoWord => first | rfl | k_is | decide +kernel)
    (case kq_NoState_NoLine => first | rfl | k_is | decide +kernel)
    (case kq_NoState_NoList => first | rfl | k_is | decide +kernel)
    (case kq_NoState_NoState => first | rfl | k_is | decide +kernel)
    (case kq_NoState_NoWord => first | rfl | k_is | decide +kernel)
    (case kq_NoWord_NoLine => first | rfl | k_is | decide +kernel)
    (case kq_NoWord_NoList => first | rfl | k_is | decide +kernel)
    (case kq_NoWord_NoState => first | rfl | k_is | decide +kernel)
    (case kq_NoWord_NoWord => first | rfl | k_is | decide +kernel)
    (case xq_BadSign_BadSign => first | rfl | k_is | decide +kernel)
    (case xq_TooMany_BadSign => first | rfl | k_is | decide +kernel)
    (case xq_TooMany_TooMany => first | rfl | k_is | decide +kernel)
    (case am_NoLine => first | rfl | k_is | decide +kernel)
    (case am_NoList => first | rfl | k_is | decide +kernel)
    (case am_NoState => first | rfl | k_is | decide +kernel)
    (case am_NoWord => first | rfl | k_is | decide +kernel)
    (case am_BadSign => first | rfl | k_is | decide +kernel)
    (case am_TooMany => first | rfl | k_is | decide +kernel)
    (case m_MOST_SIGNS => k_is)
    (case m_MOST_LINE => k_is)
    (case m_MOST_WORDS => k_is)
    (case m_PARTING => k_is)
    (case m_NEEDING => k_is)
    (case m_NEEDING_WITHIN => k_is)
    (case m_QUOTES => k_is)
    (case lq_QUOTES => k_is)
    (case z_len => k_is)
    (case z_all => k_is)
    (case z_isinstance => k_is)
    (case z_str => k_is)
    (case z_list => k_is)
    (case z_tuple => k_is)
    (case z_int => k_is)
    (case z_min => k_is)
    (case z_repr => k_is)
    (case z_max => k_is)
    (case z_dict => k_is)
    (case z_range => k_is)
    (case z_enumerate => k_is)
    (case z_bool => k_is)

