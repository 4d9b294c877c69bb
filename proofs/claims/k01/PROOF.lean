import PyProof.Rows.All
import Wide.All
import OpenK.AllK
import Wide.FinOn
import KE.IntTextText
import KE.KIntText
import HandS.ForMost
import HandS.ForExc
import HandS.IsInst
import HandS.Flow
import HandS.StrMore
import HandS.TryMany
import HandS.ExcInit
import HandS.Wide
import HandS.WideBits
import HandS.TupAny
import HandS.Style
import HandS.Small
import HandS.Replace
import HandS.Deep
import PyProof.Draws
import PyProof.ReprRoads
import PyProof.StrBlock2
import KE.DataMinKey
import PyProof.WalkInts
import HandS.ReplaceLit
import HandS.ReplaceList
import HandS.ExcField
import HandS.ExcOwn
import HandS.WordsExc
import KE.KRevSl
import PyProof.SliceStr2
import HandS.Ends
import KE.KExcInit
import PyProof.ExcBaseAll.LookupError
import PyProof.ReprLen
import PyProof.StrLawsRepr
import KE.KWords
import KE.DatumOrd
import HandS.Strs
import HandS.Zip
import PyProof.WalksMore
import PyProof.TupleIter
import KE.IntTextLaws
import HandS.Defaults
import HandS.RaiseMore
import KE.KExcStr
import KE.KExcIs
import PyProof.ExcRepr
import HandS.ExcValue
import HandS.MapObj
import HandS.MapJoin
import HandS.RevTup
import HandS.Rev
import PyProof.FactsAll.dict_1
import PyProof.FactsAll.subtypes
import PySem.Challenge.RW_callwords_k01_things_of_all_sorts
set_option Elab.async false
set_option linter.all false
set_option maxRecDepth 100000
set_option maxHeartbeats 4000000  -- own
/-! the cutting of lines, as plain functions over codes -/
namespace M
/-- words whole, the begun one, the open quote (0: none), where it was opened, a stroke ahead -/
structure Sc where
  ws : List (List Nat)
  bg : Option (List Nat)
  qt : Nat
  op : Nat
  tk : Bool
  deriving DecidableEq
def sc0 : Sc := ⟨[], none, 0, 0, false⟩
/-- the program's turn -/
def stP (s : Sc) (i c : Nat) : Except Nat Sc :=
  if c = 10 ∧ (s.tk = true ∨ s.qt ≠ 0) then .error i
  else if s.tk = true then (if ((s.bg.getD []) ++ [c]).length > 40 then .error i else .ok { s with bg := some ((s.bg.getD []) ++ [c]), tk := false })
  else if c = 92 ∧ s.qt ≠ 39 then .ok { s with tk := true }
  else if c = s.qt then .ok { s with qt := 0 }
  else if s.qt = 0 ∧ (c = 39 ∨ c = 34) then .ok { s with bg := some (s.bg.getD []), qt := c, op := i }
  else if s.qt = 0 ∧ (c = 32 ∨ c = 10) then .ok { s with ws := (match s.bg with | some b => s.ws ++ [b] | none => s.ws), bg := none }
  else if ((s.bg.getD []) ++ [c]).length > 40 then .error i else .ok { s with bg := some ((s.bg.getD []) ++ [c]) }
/-- the law's turn -/
def stL (s : Sc) (i c : Nat) : Except Nat Sc :=
  if s.tk = true ∨ (s.qt ≠ 0 ∧ c ≠ s.qt ∧ (c ≠ 92 ∨ s.qt = 39)) ∨ (s.qt = 0 ∧ c ≠ 32 ∧ c ≠ 10 ∧ c ≠ 39 ∧ c ≠ 34 ∧ c ≠ 92) then
    (if c = 10 ∨ ((s.bg.getD []) ++ [c]).length > 40 then .error i else .ok { s with bg := some ((s.bg.getD []) ++ [c]), tk := false })
  else if c = 92 then .ok { s with bg := some (s.bg.getD []), tk := true }
  else if s.qt ≠ 0 then .ok { s with qt := 0 }
  else if c = 39 ∨ c = 34 then .ok { s with bg := some (s.bg.getD []), qt := c, op := i }
  else .ok { s with ws := (match s.bg with | some b => s.ws ++ [b] | none => s.ws), bg := none }
def scan (st : Sc → Nat → Nat → Except Nat Sc) : Nat → Sc → List Nat → Except Nat Sc
  | _, s, [] => .ok s
  | i, s, c :: l => match st s i c with
    | .ok t => scan st (i + 1) t l
    | .error e => .error e
theorem scan_snoc (st : Sc → Nat → Nat → Except Nat Sc) : ∀ (l : List Nat) (i : Nat) (s : Sc) (c : Nat), scan st i s (l ++ [c]) = match scan st i s l with | .ok t => st t (i + l.length) c | .error e => .error e
  | [], i, s, c => by
    simp only [List.nil_append, scan, List.length_nil, Nat.add_zero]
    cases st s i c <;> rfl
  | d :: l, i, s, c => by
    simp only [List.cons_append, scan]
    cases h : st s i d with
    | error e => rfl
    | ok t =>
      have ih := scan_snoc st l (i + 1) t c
      have e : i + 1 + l.length = i + (d :: l).length := by simp only [List.length_cons]; omega
      rw [e] at ih
      exact ih
theorem scan_app (st : Sc → Nat → Nat → Except Nat Sc) : ∀ (l m : List Nat) (i : Nat) (s : Sc), scan st i s (l ++ m) = match scan st i s l with | .ok t => scan st (i + l.length) t m | .error e => .error e
  | [], m, i, s => by simp [scan]
  | d :: l, m, i, s => by
    simp only [List.cons_append, scan]
    cases h : st s i d with
    | error e => rfl
    | ok t =>
      have ih := scan_app st l m (i + 1) t
      have e : i + 1 + l.length = i + (d :: l).length := by simp only [List.length_cons]; omega
      rw [e] at ih
      exact ih
theorem scan_take_succ {st : Sc → Nat → Nat → Except Nat Sc} {l : List Nat} {i c : Nat} {s t : Sc} (h : l[i]? = some c) (hs : scan st 0 s (l.take i) = .ok t) : scan st 0 s (l.take (i + 1)) = st t i c := by
  have e : l.take (i + 1) = l.take i ++ [c] := by rw [List.take_add_one, h]; rfl
  have li : (l.take i).length = i := by
    have := (List.getElem?_eq_some_iff.mp h).1
    rw [List.length_take]; omega
  rw [e, scan_snoc, hs, li]
  simp
theorem scan_take_err {st : Sc → Nat → Nat → Except Nat Sc} {l : List Nat} {i e : Nat} {s : Sc} (h : scan st 0 s (l.take i) = .error e) : scan st 0 s l = .error e := by
  have := scan_app st (l.take i) (l.drop i) 0 s
  rw [List.take_append_drop, h] at this
  exact this
/-- the state in which the law is where the program is -/
def lw (s : Sc) : Sc := if s.tk = true then { s with bg := some (s.bg.getD []) } else s
theorem lw_sc0 : lw sc0 = sc0 := rfl
/-- the quote is none, or one of the two -/
def Gd (s : Sc) : Prop := (s.qt = 0 ∨ s.qt = 39 ∨ s.qt = 34) ∧ (s.tk = true → s.qt ≠ 39)
theorem st_eq {s : Sc} (g : Gd s) (i c : Nat) (h0 : c ≠ 0) : match stP s i c with | .ok t => stL (lw s) i c = .ok (lw t) ∧ Gd t | .error e => stL (lw s) i c = .error e := by
  obtain ⟨ws, bg, qt, op, tk⟩ := s
  obtain ⟨g1, g2⟩ := g
  simp only at g1 g2
  cases tk
  · have lw0 : lw ⟨ws, bg, qt, op, false⟩ = ⟨ws, bg, qt, op, false⟩ := rfl
    rw [lw0]
    unfold stP stL
    simp only [Bool.false_eq_true, false_or, if_false, ne_eq]
    by_cases c10 : c = 10
    · subst c10
      rcases g1 with rfl | rfl | rfl
      · simp [lw, Gd]
      · simp [lw, Gd]
      · simp [lw, Gd]
    · by_cases c92 : c = 92
      · subst c92
        rcases g1 with rfl | rfl | rfl
        · simp [lw, Gd]
        · by_cases hl : 40 < (bg.getD []).length + 1 <;> simp [lw, Gd, hl]
        · simp [lw, Gd]
      · by_cases cq : c = qt
        · subst cq
          rcases g1 with h | h | h
          · exact absurd h h0
          · subst h; simp [lw, Gd]
          · subst h; simp [lw, Gd]
        · rcases g1 with rfl | rfl | rfl
          · by_cases c39 : c = 39
            · subst c39; simp [lw, Gd]
            · by_cases c34 : c = 34
              · subst c34; simp [lw, Gd]
              · by_cases c32 : c = 32
                · subst c32; simp [lw, Gd]
                · by_cases hl : 40 < (bg.getD []).length + 1 <;> simp [lw, Gd, hl, c10, c92, cq, c39, c34, c32]
          · by_cases hl : 40 < (bg.getD []).length + 1 <;> simp [lw, Gd, hl, c10, c92, cq]
          · by_cases hl : 40 < (bg.getD []).length + 1 <;> simp [lw, Gd, hl, c10, c92, cq]
  · have lw0 : lw ⟨ws, bg, qt, op, true⟩ = ⟨ws, some (bg.getD []), qt, op, true⟩ := rfl
    rw [lw0]
    unfold stP stL
    by_cases c10 : c = 10
    · subst c10; simp
    · by_cases hl : ((bg.getD []) ++ [c]).length > 40
      · simp only [c10, false_and, if_false, if_true, hl, or_true, true_or, Option.getD_some, false_or]
      · simp only [c10, false_and, if_false, if_true, hl, or_false, true_or, Option.getD_some, false_or, lw, Bool.false_eq_true]
        exact ⟨trivial, g1, fun h => by simp at h⟩
theorem scan_eq : ∀ (l : List Nat) (i : Nat) (s : Sc), Gd s → (∀ c ∈ l, c ≠ 0) → match scan stP i s l with | .ok t => scan stL i (lw s) l = .ok (lw t) ∧ Gd t | .error e => scan stL i (lw s) l = .error e
  | [], i, s, g, _ => ⟨rfl, g⟩
  | c :: l, i, s, g, h => by
    have e := st_eq g i c (h c (List.mem_cons_self ..))
    simp only [scan]
    cases q : stP s i c with
    | error x => rw [q] at e; rw [e]
    | ok t =>
      rw [q] at e
      obtain ⟨e, g'⟩ := e
      rw [e]
      exact scan_eq l (i + 1) t g' fun d hd => h d (List.mem_cons_of_mem _ hd)
end M

/-! quoting, and that what is quoted is cut to the same -/
namespace M
def N1 : List Nat := [32, 39, 34, 92]
def N2 : List Nat := [34, 92]
def esc (need : List Nat) : List Nat → List Nat
  | [] => []
  | c :: l => (if c ∈ need then [92, c] else [c]) ++ esc need l
def ways (l : List Nat) : List (List Nat) := (if l = [] then [] else [esc N1 l]) ++ ((if 39 ∈ l then [] else [39 :: l ++ [39]]) ++ [34 :: esc N2 l ++ [34]])
/-- the first of the shortest -/
def FM (xs : List (List Nat)) (v : List Nat) : Prop := ∃ i : Nat, xs[i]? = some v ∧ ∀ j w, xs[j]? = some w → v.length ≤ w.length ∧ (j < i → v.length < w.length)
theorem FM.uniq {xs : List (List Nat)} {v w : List Nat} (a : FM xs v) (b : FM xs w) : v = w := by
  obtain ⟨i, hi, a⟩ := a
  obtain ⟨j, hj, b⟩ := b
  rcases Nat.lt_trichotomy i j with h | h | h
  · have := (a j w hj).1; have := (b i v hi).2 h; omega
  · subst h; rw [hi] at hj; exact Option.some.inj hj
  · have := (b i v hi).1; have := (a j w hj).2 h; omega
theorem FM.cons {x v : List Nat} {xs : List (List Nat)} (h : xs[0]? = some x) (a : FM (x :: xs) v) : FM xs v := by
  obtain ⟨i, hi, a⟩ := a
  cases i with
  | zero =>
    have e : x = v := by simpa using hi
    subst e
    exact ⟨0, h, fun j w hj => ⟨(a (j + 1) w (by simpa using hj)).1, fun q => absurd q (Nat.not_lt_zero _)⟩⟩
  | succ i => exact ⟨i, by simpa using hi, fun j w hj => ⟨(a (j + 1) w (by simpa using hj)).1, fun q => (a (j + 1) w (by simpa using hj)).2 (by omega)⟩⟩
theorem esc_none {need l : List Nat} (h : ∀ c ∈ l, c ∉ need) : esc need l = l := by
  induction l with
  | nil => rfl
  | cons c l ih =>
    unfold esc
    rw [if_neg (h c (List.mem_cons_self ..)), ih fun d hd => h d (List.mem_cons_of_mem _ hd)]
    rfl
theorem esc_len (need : List Nat) : ∀ l : List Nat, (esc need l).length ≤ 2 * l.length
  | [] => Nat.le_refl _
  | c :: l => by
    have := esc_len need l
    unfold esc
    split <;> simp only [List.length_append, List.length_cons, List.length_nil] <;> omega
theorem esc_eq (need : List Nat) : ∀ l : List Nat, esc need l = (l.map fun c => if c ∈ need then [92, c] else [c]).flatten
  | [] => rfl
  | c :: l => by
    unfold esc
    rw [esc_eq need l]; rfl
theorem esc_mem {need : List Nat} : ∀ {l : List Nat} {c : Nat}, c ∈ esc need l → c = 92 ∨ c ∈ l
  | [], c, h => by simp [esc] at h
  | d :: l, c, h => by
    unfold esc at h
    rcases List.mem_append.mp h with h | h  -- own
    · split at h
      · rcases List.mem_cons.mp h with h | h
        · exact .inl h
        · exact .inr (List.mem_cons.mpr (.inl (List.mem_singleton.mp h)))
      · exact .inr (List.mem_cons.mpr (.inl (List.mem_singleton.mp h)))
    · rcases esc_mem h with h | h
      · exact .inl h
      · exact .inr (List.mem_cons_of_mem _ h)
/-- a word: at most forty signs -/
def Wd (l : List Nat) : Prop := l.length ≤ 40 ∧ ∀ c ∈ l, 32 ≤ c ∧ c ≤ 126
theorem scan_esc1 : ∀ (l : List Nat) (i : Nat) (ws : List (List Nat)) (b : Option (List Nat)) (op : Nat), (∀ c ∈ l, 32 ≤ c ∧ c ≤ 126) → (b.getD []).length + l.length ≤ 40 →
    scan stP i ⟨ws, b, 0, op, false⟩ (esc N1 l) = .ok ⟨ws, if l = [] then b else some (b.getD [] ++ l), 0, op, false⟩
  | [], i, ws, b, op, _, _ => by simp [esc, scan]
  | c :: l, i, ws, b, op, h, hl => by
    have hc := h c (List.mem_cons_self ..)  -- own
    have hl' : l.length + 1 + (b.getD []).length ≤ 40 := by simpa [Nat.add_comm] using hl
    have ih := fun i => scan_esc1 l i ws (some (b.getD [] ++ [c])) op (fun d hd => h d (List.mem_cons_of_mem _ hd)) (by simp; omega)
    have fin : (if l = [] then some (b.getD [] ++ [c]) else some ((some (b.getD [] ++ [c])).getD [] ++ l)) = some (b.getD [] ++ c :: l) := by
      split
      · rename_i e; subst e; rfl
      · simp
    have n1 : ¬ 40 < (b.getD []).length + 1 := by omega
    have n2 : ¬ c = 10 := by omega
    have n3 : ¬ c = 0 := by omega
    unfold esc
    split
    · rename_i hm
      have e1 : stP ⟨ws, b, 0, op, false⟩ i 92 = .ok ⟨ws, b, 0, op, true⟩ := by simp [stP]
      have e2 : stP ⟨ws, b, 0, op, true⟩ (i + 1) c = .ok ⟨ws, some (b.getD [] ++ [c]), 0, op, false⟩ := by simp [stP, n1, n2]
      simp only [List.cons_append, List.nil_append, scan, e1, e2]
      rw [ih, fin]
      simp
    · rename_i hm
      simp [N1] at hm
      obtain ⟨m1, m2, m3, m4⟩ := hm
      have e2 : stP ⟨ws, b, 0, op, false⟩ i c = .ok ⟨ws, some (b.getD [] ++ [c]), 0, op, false⟩ := by simp [stP, n1, n2, n3, m1, m2, m3, m4]
      simp only [List.cons_append, List.nil_append, scan, e2]
      rw [ih, fin]
      simp
theorem scan_in1 : ∀ (l : List Nat) (i : Nat) (ws : List (List Nat)) (b : List Nat) (op : Nat), (∀ c ∈ l, 32 ≤ c ∧ c ≤ 126) → 39 ∉ l → b.length + l.length ≤ 40 →
    scan stP i ⟨ws, some b, 39, op, false⟩ l = .ok ⟨ws, some (b ++ l), 39, op, false⟩
  | [], i, ws, b, op, _, _, _ => by simp [scan]
  | c :: l, i, ws, b, op, h, h39, hl => by
    have hc := h c (List.mem_cons_self ..)  -- own
    have hl' : l.length + 1 + b.length ≤ 40 := by simpa [Nat.add_comm] using hl
    have n1 : ¬ 40 < b.length + 1 := by omega
    have n2 : ¬ c = 10 := by omega
    have n3 : ¬ c = 39 := fun e => h39 (by rw [e]; exact List.mem_cons_self ..)
    have e2 : stP ⟨ws, some b, 39, op, false⟩ i c = .ok ⟨ws, some (b ++ [c]), 39, op, false⟩ := by simp [stP, n1, n2, n3]
    simp only [scan, e2]
    rw [scan_in1 l (i + 1) ws (b ++ [c]) op (fun d hd => h d (List.mem_cons_of_mem _ hd)) (fun e => h39 (List.mem_cons_of_mem _ e)) (by simp; omega)]
    simp
theorem scan_in2 : ∀ (l : List Nat) (i : Nat) (ws : List (List Nat)) (b : List Nat) (op : Nat), (∀ c ∈ l, 32 ≤ c ∧ c ≤ 126) → b.length + l.length ≤ 40 →
    scan stP i ⟨ws, some b, 34, op, false⟩ (esc N2 l) = .ok ⟨ws, some (b ++ l), 34, op, false⟩
  | [], i, ws, b, op, _, _ => by simp [scan, esc]
  | c :: l, i, ws, b, op, h, hl => by
    have hc := h c (List.mem_cons_self ..)  -- own
    have hl' : l.length + 1 + b.length ≤ 40 := by simpa [Nat.add_comm] using hl
    have n1 : ¬ 40 < b.length + 1 := by omega
    have n2 : ¬ c = 10 := by omega
    have ih := fun i => scan_in2 l i ws (b ++ [c]) op (fun d hd => h d (List.mem_cons_of_mem _ hd)) (by simp; omega)
    unfold esc
    split
    · rename_i hm
      have e1 : stP ⟨ws, some b, 34, op, false⟩ i 92 = .ok ⟨ws, some b, 34, op, true⟩ := by simp [stP]
      have e2 : stP ⟨ws, some b, 34, op, true⟩ (i + 1) c = .ok ⟨ws, some (b ++ [c]), 34, op, false⟩ := by simp [stP, n1, n2]
      simp only [List.cons_append, List.nil_append, scan, e1, e2]
      rw [ih]
      simp
    · rename_i hm
      simp [N2] at hm
      obtain ⟨m3, m4⟩ := hm
      have e2 : stP ⟨ws, some b, 34, op, false⟩ i c = .ok ⟨ws, some (b ++ [c]), 34, op, false⟩ := by simp [stP, n1, n2, m3, m4]
      simp only [List.cons_append, List.nil_append, scan, e2]
      rw [ih]
      simp
/-- each way, from between two words: the word is begun -/
theorem scan_way {l v : List Nat} (w : Wd l) (hv : v ∈ ways l) (i : Nat) (ws : List (List Nat)) (op : Nat) : ∃ o, scan stP i ⟨ws, none, 0, op, false⟩ v = .ok ⟨ws, some l, 0, o, false⟩ := by
  obtain ⟨wl, wc⟩ := w
  unfold ways at hv
  rcases List.mem_append.mp hv with h | h
  · split at h
    · cases h
    · rename_i ne
      rw [List.mem_singleton.mp h]
      refine ⟨op, ?_⟩
      rw [scan_esc1 l i ws none op wc (by simpa using wl), if_neg ne]
      simp
  · rcases List.mem_append.mp h with h | h  -- own
    · split at h
      · cases h
      · rename_i h39
        rw [List.mem_singleton.mp h]
        refine ⟨i, ?_⟩
        have e1 : stP ⟨ws, none, 0, op, false⟩ i 39 = .ok ⟨ws, some [], 39, i, false⟩ := by simp [stP]
        simp only [List.cons_append, scan, e1]
        rw [scan_app, scan_in1 l _ ws [] i wc h39 (by simpa using wl)]
        simp [scan, stP]
    · rw [List.mem_singleton.mp h]
      refine ⟨i, ?_⟩
      have e1 : stP ⟨ws, none, 0, op, false⟩ i 34 = .ok ⟨ws, some [], 34, i, false⟩ := by simp [stP]
      simp only [List.cons_append, scan, e1]
      rw [scan_app, scan_in2 l _ ws [] i wc (by simpa using wl)]
      simp [scan, stP]
theorem way_len {l v : List Nat} (w : Wd l) (hv : v ∈ ways l) : v.length ≤ 82 ∧ ∀ c ∈ v, 32 ≤ c ∧ c ≤ 126 := by
  obtain ⟨wl, wc⟩ := w
  have g1 := esc_len N1 l
  have g2 := esc_len N2 l
  have hm : ∀ need, ∀ c ∈ esc need l, 32 ≤ c ∧ c ≤ 126 := fun need c hc => by
    rcases esc_mem hc with h | h
    · omega
    · exact wc c h
  unfold ways at hv
  rcases List.mem_append.mp hv with h | h
  · split at h
    · cases h
    · rw [List.mem_singleton.mp h]; exact ⟨by omega, hm _⟩
  · rcases List.mem_append.mp h with h | h  -- own
    · split at h
      · cases h
      · rw [List.mem_singleton.mp h]
        refine ⟨by simp only [List.length_append, List.length_cons, List.length_nil]; omega, fun c hc => ?_⟩
        simp only [List.cons_append, List.mem_cons, List.mem_append, List.not_mem_nil, or_false] at hc
        rcases hc with h | h | h
        · omega
        · exact wc c h
        · omega
    · rw [List.mem_singleton.mp h]
      refine ⟨by simp only [List.length_append, List.length_cons, List.length_nil]; omega, fun c hc => ?_⟩
      simp only [List.cons_append, List.mem_cons, List.mem_append, List.not_mem_nil, or_false] at hc
      rcases hc with h | h | h
      · omega
      · exact hm _ c h
      · omega
/-- many words: each quoted in some way, a blank between -/
def jn : List (List Nat) → List Nat
  | [] => []
  | [x] => x
  | x :: y :: r => x ++ 32 :: jn (y :: r)
inductive Ways : List (List Nat) → List (List Nat) → Prop
  | nil : Ways [] []
  | cons {l v : List Nat} {ls vs : List (List Nat)} (w : Wd l) (h : v ∈ ways l) (r : Ways ls vs) : Ways (l :: ls) (v :: vs)
theorem scan_jn : ∀ {ls vs : List (List Nat)}, Ways ls vs → ∀ (i : Nat) (ws : List (List Nat)) (op : Nat), ∃ o, scan stP i ⟨ws, none, 0, op, false⟩ (jn vs) = .ok ⟨ws ++ ls.dropLast, ls.getLast?, 0, o, false⟩
  | _, _, .nil, i, ws, op => ⟨op, by simp [jn, scan]⟩
  | _, _, .cons (l := l) (v := v) (ls := ls) (vs := vs) w h r, i, ws, op => by
    cases r with
    | nil =>
      obtain ⟨o, e⟩ := scan_way w h i ws op
      exact ⟨o, by simpa [jn] using e⟩
    | cons w2 h2 r2 =>
      rename_i l2 v2 ls2 vs2
      obtain ⟨o, e⟩ := scan_way w h i ws op
      obtain ⟨o2, e2⟩ := scan_jn (.cons w2 h2 r2) (i + v.length + 1) (ws ++ [l]) o
      refine ⟨o2, ?_⟩
      have e3 : stP ⟨ws, some l, 0, o, false⟩ (i + v.length) 32 = .ok ⟨ws ++ [l], none, 0, o, false⟩ := by simp [stP]
      simp only [jn]
      rw [scan_app, e]
      simp only [scan, e3]
      rw [e2]
      simp
theorem jn_ok : ∀ {ls vs : List (List Nat)}, Ways ls vs → (jn vs).length ≤ 83 * ls.length ∧ ∀ c ∈ jn vs, 32 ≤ c ∧ c ≤ 126
  | _, _, .nil => ⟨Nat.le_refl _, fun c h => by simp [jn] at h⟩
  | _, _, .cons (l := l) (v := v) (ls := ls) (vs := vs) w h r => by
    obtain ⟨a, b⟩ := way_len w h
    cases r with
    | nil => exact ⟨by simp [jn]; omega, b⟩
    | cons w2 h2 r2 =>
      obtain ⟨a2, b2⟩ := jn_ok (.cons w2 h2 r2)
      refine ⟨?_, fun c hc => ?_⟩
      · simp only [jn, List.length_append, List.length_cons] at a2 ⊢; omega
      · simp only [jn, List.mem_append, List.mem_cons] at hc b2
        rcases hc with h | h | h
        · exact b c h
        · omega
        · exact b2 c h
end M

/-! lines written part by part in drawn ways -/
namespace M
/-- the signs of l, some with a stroke ahead, all of need -/
inductive Strk (need : List Nat) : List Nat → List Nat → Prop
  | nil : Strk need [] []
  | bare {c : Nat} {l o : List Nat} (h : c ∉ need) (r : Strk need l o) : Strk need (c :: l) (c :: o)
  | str {c : Nat} {l o : List Nat} (r : Strk need l o) : Strk need (c :: l) (92 :: c :: o)
theorem Strk.app {need : List Nat} : ∀ {l o m q : List Nat}, Strk need l o → Strk need m q → Strk need (l ++ m) (o ++ q)
  | _, _, _, _, .nil, s => s
  | _, _, _, _, .bare h r, s => .bare h (r.app s)
  | _, _, _, _, .str r, s => .str (r.app s)
theorem Strk.len {need : List Nat} : ∀ {l o : List Nat}, Strk need l o → o.length ≤ 2 * l.length
  | _, _, .nil => Nat.le_refl _
  | _, _, .bare h r => by have := r.len; simp only [List.length_cons]; omega
  | _, _, .str r => by have := r.len; simp only [List.length_cons]; omega
theorem Strk.mem {need : List Nat} : ∀ {l o : List Nat}, Strk need l o → ∀ c ∈ o, c = 92 ∨ c ∈ l
  | _, _, .nil, c, h => (List.not_mem_nil h).elim
  | _, _, .bare _ r, c, h => by
    rcases List.mem_cons.mp h with q | q  -- own
    · exact .inr (by rw [q]; exact List.mem_cons_self ..)
    · exact (r.mem c q).imp id (List.mem_cons_of_mem _)
  | _, _, .str r, c, h => by
    rcases List.mem_cons.mp h with q | q  -- own
    · exact .inl q
    rcases List.mem_cons.mp q with q | q
    · exact .inr (by rw [q]; exact List.mem_cons_self ..)
    · exact (r.mem c q).imp id (List.mem_cons_of_mem _)
theorem scan_strk1 : ∀ {l o : List Nat}, Strk N1 l o → ∀ (i : Nat) (ws : List (List Nat)) (b : Option (List Nat)) (op : Nat), (∀ c ∈ l, 32 ≤ c ∧ c ≤ 126) → (b.getD []).length + l.length ≤ 40 →
    scan stP i ⟨ws, b, 0, op, false⟩ o = .ok ⟨ws, if l = [] then b else some (b.getD [] ++ l), 0, op, false⟩
  | _, _, .nil, i, ws, b, op, _, _ => by simp [scan]
  | _, _, .bare (c := c) (l := l) (o := o) m r, i, ws, b, op, h, hl => by
    have hc := h c (List.mem_cons_self ..)  -- own
    rw [List.length_cons] at hl
    have ih := fun i => scan_strk1 r i ws (some (b.getD [] ++ [c])) op (fun d hd => h d (List.mem_cons_of_mem _ hd)) (by simp; omega)
    simp [N1] at m
    obtain ⟨m1, m2, m3, m4⟩ := m
    have n1 : ¬ 40 < (b.getD []).length + 1 := by omega
    have n2 : ¬ c = 10 := by omega
    have n3 : ¬ c = 0 := by omega
    have e2 : stP ⟨ws, b, 0, op, false⟩ i c = .ok ⟨ws, some (b.getD [] ++ [c]), 0, op, false⟩ := by simp [stP, n1, n2, n3, m1, m2, m3, m4]
    simp only [scan, e2]
    rw [ih]
    by_cases q : l = [] <;> simp [q]
  | _, _, .str (c := c) (l := l) (o := o) r, i, ws, b, op, h, hl => by
    have hc := h c (List.mem_cons_self ..)  -- own
    rw [List.length_cons] at hl
    have ih := fun i => scan_strk1 r i ws (some (b.getD [] ++ [c])) op (fun d hd => h d (List.mem_cons_of_mem _ hd)) (by simp; omega)
    have n1 : ¬ 40 < (b.getD []).length + 1 := by omega
    have n2 : ¬ c = 10 := by omega
    have e1 : stP ⟨ws, b, 0, op, false⟩ i 92 = .ok ⟨ws, b, 0, op, true⟩ := by simp [stP]
    have e2 : stP ⟨ws, b, 0, op, true⟩ (i + 1) c = .ok ⟨ws, some (b.getD [] ++ [c]), 0, op, false⟩ := by simp [stP, n1, n2]
    simp only [scan, e1, e2]
    rw [ih]
    by_cases q : l = [] <;> simp [q]
theorem scan_strk2 : ∀ {l o : List Nat}, Strk N2 l o → ∀ (i : Nat) (ws : List (List Nat)) (b : List Nat) (op : Nat), (∀ c ∈ l, 32 ≤ c ∧ c ≤ 126) → b.length + l.length ≤ 40 →
    scan stP i ⟨ws, some b, 34, op, false⟩ o = .ok ⟨ws, some (b ++ l), 34, op, false⟩
  | _, _, .nil, i, ws, b, op, _, _ => by simp [scan]
  | _, _, .bare (c := c) (l := l) (o := o) m r, i, ws, b, op, h, hl => by
    have hc := h c (List.mem_cons_self ..)  -- own
    rw [List.length_cons] at hl
    have ih := fun i => scan_strk2 r i ws (b ++ [c]) op (fun d hd => h d (List.mem_cons_of_mem _ hd)) (by simp; omega)
    simp [N2] at m
    obtain ⟨m3, m4⟩ := m
    have n1 : ¬ 40 < b.length + 1 := by omega
    have n2 : ¬ c = 10 := by omega
    have e2 : stP ⟨ws, some b, 34, op, false⟩ i c = .ok ⟨ws, some (b ++ [c]), 34, op, false⟩ := by simp [stP, n1, n2, m3, m4]
    simp only [scan, e2]
    rw [ih]; simp
  | _, _, .str (c := c) (l := l) (o := o) r, i, ws, b, op, h, hl => by
    have hc := h c (List.mem_cons_self ..)  -- own
    rw [List.length_cons] at hl
    have ih := fun i => scan_strk2 r i ws (b ++ [c]) op (fun d hd => h d (List.mem_cons_of_mem _ hd)) (by simp; omega)
    have n1 : ¬ 40 < b.length + 1 := by omega
    have n2 : ¬ c = 10 := by omega
    have e1 : stP ⟨ws, some b, 34, op, false⟩ i 92 = .ok ⟨ws, some b, 34, op, true⟩ := by simp [stP]
    have e2 : stP ⟨ws, some b, 34, op, true⟩ (i + 1) c = .ok ⟨ws, some (b ++ [c]), 34, op, false⟩ := by simp [stP, n1, n2]
    simp only [scan, e1, e2]
    rw [ih]; simp
/-- one part of a word, in one of three ways -/
inductive Pc : List Nat → List Nat → Prop
  | sq {p : List Nat} (h : 39 ∉ p) : Pc p (39 :: p ++ [39])
  | dq {p o : List Nat} (h : Strk N2 p o) : Pc p (34 :: o ++ [34])
  | ba {p o : List Nat} (h : Strk N1 p o) : Pc p o
theorem Pc.len {p q : List Nat} (h : Pc p q) : q.length ≤ 2 * p.length + 2 := by
  cases h with
  | sq _ => simp only [List.length_append, List.length_cons, List.length_nil]; omega
  | dq r => have := r.len; simp only [List.length_append, List.length_cons, List.length_nil]; omega
  | ba r => have := r.len; omega
theorem Pc.mem {p q : List Nat} (h : Pc p q) (hp : ∀ c ∈ p, 32 ≤ c ∧ c ≤ 126) : ∀ c ∈ q, 32 ≤ c ∧ c ≤ 126 := by
  have k : ∀ {need o}, Strk need p o → ∀ c ∈ o, 32 ≤ c ∧ c ≤ 126 := fun r c hc => by
    rcases r.mem c hc with q | q
    · omega
    · exact hp c q
  intro c hc
  cases h with
  | sq _ =>
    rcases List.mem_append.mp hc with q | q
    · rcases List.mem_cons.mp q with q | q  -- own
      · omega
      · exact hp c q
    · have := List.mem_singleton.mp q; omega
  | dq r =>
    rcases List.mem_append.mp hc with q | q
    · rcases List.mem_cons.mp q with q | q  -- own
      · omega
      · exact k r c q
    · have := List.mem_singleton.mp q; omega
  | ba r => exact k r c hc
theorem scan_pc {p q : List Nat} (h : Pc p q) (hp : ∀ c ∈ p, 32 ≤ c ∧ c ≤ 126) (hn : p ≠ []) (i : Nat) (ws : List (List Nat)) (b : Option (List Nat)) (op : Nat) (hl : (b.getD []).length + p.length ≤ 40) :
    ∃ o, scan stP i ⟨ws, b, 0, op, false⟩ q = .ok ⟨ws, some (b.getD [] ++ p), 0, o, false⟩ := by
  cases h with
  | sq h =>
    refine ⟨i, ?_⟩
    have e1 : stP ⟨ws, b, 0, op, false⟩ i 39 = .ok ⟨ws, some (b.getD []), 39, i, false⟩ := by simp [stP]
    have e2 := scan_in1 p (i + 1) ws (b.getD []) i hp h hl
    have e3 : ∀ j, stP ⟨ws, some (b.getD [] ++ p), 39, i, false⟩ j 39 = .ok ⟨ws, some (b.getD [] ++ p), 0, i, false⟩ := fun j => by simp [stP]
    rw [List.cons_append]
    simp only [scan, e1]
    rw [scan_app, e2]
    simp only [scan, e3]
  | dq h =>
    refine ⟨i, ?_⟩
    have e1 : stP ⟨ws, b, 0, op, false⟩ i 34 = .ok ⟨ws, some (b.getD []), 34, i, false⟩ := by simp [stP]
    have e2 := scan_strk2 h (i + 1) ws (b.getD []) i hp hl
    have e3 : ∀ j, stP ⟨ws, some (b.getD [] ++ p), 34, i, false⟩ j 34 = .ok ⟨ws, some (b.getD [] ++ p), 0, i, false⟩ := fun j => by simp [stP]
    rw [List.cons_append]
    simp only [scan, e1]
    rw [scan_app, e2]
    simp only [scan, e3]
  | ba h =>
    refine ⟨op, ?_⟩
    rw [scan_strk1 h i ws b op hp hl, if_neg hn]
/-- parts, one behind the other -/
inductive Wrt : List Nat → List Nat → Prop
  | nil : Wrt [] []
  | snoc {l o p q : List Nat} (h : Wrt l o) (n : p ≠ []) (k : Pc p q) : Wrt (l ++ p) (o ++ q)
theorem Wrt.len : ∀ {l o : List Nat}, Wrt l o → o.length ≤ 4 * l.length
  | _, _, .nil => Nat.le_refl _
  | _, _, .snoc (p := p) h n k => by
    have := h.len
    have := k.len
    have : 0 < p.length := List.length_pos_iff.mpr n
    simp only [List.length_append]; omega
theorem Wrt.mem : ∀ {l o : List Nat}, Wrt l o → (∀ c ∈ l, 32 ≤ c ∧ c ≤ 126) → ∀ c ∈ o, 32 ≤ c ∧ c ≤ 126
  | _, _, .nil, _, c, h => (List.not_mem_nil h).elim
  | _, _, .snoc h n k, hp, c, hc => by
    rcases List.mem_append.mp hc with q | q
    · exact h.mem (fun d hd => hp d (List.mem_append_left _ hd)) c q
    · exact k.mem (fun d hd => hp d (List.mem_append_right _ hd)) c q
theorem scan_wrt : ∀ {l o : List Nat}, Wrt l o → (∀ c ∈ l, 32 ≤ c ∧ c ≤ 126) → l.length ≤ 40 → ∀ (i : Nat) (ws : List (List Nat)) (op : Nat), ∃ o', scan stP i ⟨ws, none, 0, op, false⟩ o = .ok ⟨ws, if l = [] then none else some l, 0, o', false⟩
  | _, _, .nil, _, _, i, ws, op => ⟨op, by simp [scan]⟩
  | _, _, .snoc (l := l) (o := o) (p := p) (q := q) h n k, hp, hl, i, ws, op => by
    rw [List.length_append] at hl
    obtain ⟨o1, e1⟩ := scan_wrt h (fun d hd => hp d (List.mem_append_left _ hd)) (by omega) i ws op
    have hb : (if l = [] then (none : Option (List Nat)) else some l).getD [] = l := by
      by_cases z : l = []
      · rw [if_pos z, z]; rfl
      · rw [if_neg z]; rfl
    obtain ⟨o2, e2⟩ := scan_pc k (fun d hd => hp d (List.mem_append_right _ hd)) n (i + o.length) ws (if l = [] then none else some l) o1 (by rw [hb]; omega)
    refine ⟨o2, ?_⟩
    rw [scan_app, e1]
    simp only
    rw [e2, hb, if_neg (by simp [n])]
/-- a word as it is written -/
def WrO (l o : List Nat) : Prop := (l = [] ∧ o ∈ [[39, 39], [34, 34], [39, 39, 34, 34], [34, 34, 34, 34]]) ∨ (l ≠ [] ∧ Wrt l o)
theorem WrO.len {l o : List Nat} (h : WrO l o) (hl : l.length ≤ 40) : o.length ≤ 160 := by
  rcases h with ⟨_, h⟩ | ⟨_, h⟩
  · simp only [List.mem_cons, List.not_mem_nil, or_false] at h
    rcases h with h | h | h | h <;> subst h <;> decide
  · have := h.len; omega
theorem WrO.mem {l o : List Nat} (h : WrO l o) (hp : ∀ c ∈ l, 32 ≤ c ∧ c ≤ 126) : ∀ c ∈ o, 32 ≤ c ∧ c ≤ 126 := by
  rcases h with ⟨_, h⟩ | ⟨_, h⟩
  · simp only [List.mem_cons, List.not_mem_nil, or_false] at h
    rcases h with h | h | h | h <;> subst h <;> decide
  · exact h.mem hp
theorem scan_wro {l o : List Nat} (h : WrO l o) (hp : ∀ c ∈ l, 32 ≤ c ∧ c ≤ 126) (hl : l.length ≤ 40) (i : Nat) (ws : List (List Nat)) (op : Nat) : ∃ o', scan stP i ⟨ws, none, 0, op, false⟩ o = .ok ⟨ws, some l, 0, o', false⟩ := by
  rcases h with ⟨e, h⟩ | ⟨n, h⟩
  · subst e
    simp only [List.mem_cons, List.not_mem_nil, or_false] at h
    rcases h with h | h | h | h <;> subst h <;> exact ⟨_, by simp [scan, stP]; rfl⟩
  · obtain ⟨o', e⟩ := scan_wrt h hp hl i ws op
    exact ⟨o', by rw [e, if_neg n]⟩
/-- a gap -/
def Gp (g : List Nat) : Prop := ∀ c ∈ g, c = 32 ∨ c = 10
theorem scan_gap : ∀ (g : List Nat), Gp g → ∀ (i : Nat) (ws : List (List Nat)) (b : Option (List Nat)) (op : Nat), scan stP i ⟨ws, b, 0, op, false⟩ g = .ok (if g = [] then ⟨ws, b, 0, op, false⟩ else ⟨ws ++ b.toList, none, 0, op, false⟩)
  | [], _, i, ws, b, op => by simp [scan]
  | c :: g, h, i, ws, b, op => by
    have hc := h c (List.mem_cons_self ..)  -- own
    have e1 : stP ⟨ws, b, 0, op, false⟩ i c = .ok ⟨ws ++ b.toList, none, 0, op, false⟩ := by
      rcases hc with q | q <;> subst q <;> cases b <;> simp [stP]
    have ih := scan_gap g (fun d hd => h d (List.mem_cons_of_mem _ hd)) (i + 1) (ws ++ b.toList) none op
    simp only [scan, e1]
    rw [ih]
    by_cases q : g = [] <;> simp [q]
end M
namespace M
/-- so far: these words, the last one begun, nothing open -/
def SoFar (ls : List (List Nat)) (f : List Nat) : Prop := ∃ o, scan stP 0 sc0 f = .ok ⟨ls.dropLast, ls.getLast?, 0, o, false⟩
/-- .. and a gap behind: all words are whole -/
def Whole (ls : List (List Nat)) (f : List Nat) : Prop := ∃ o, scan stP 0 sc0 f = .ok ⟨ls, none, 0, o, false⟩
theorem last_split : ∀ ls : List (List Nat), ls.dropLast ++ ls.getLast?.toList = ls
  | [] => rfl
  | [x] => rfl
  | x :: y :: r => by rw [List.dropLast_cons₂, List.getLast?_cons_cons, List.cons_append, last_split (y :: r)]
theorem Whole.zero {g : List Nat} (h : Gp g) : Whole [] g := by
  refine ⟨0, ?_⟩
  have := scan_gap g h 0 [] none 0
  rw [show sc0 = ⟨[], none, 0, 0, false⟩ from rfl, this]
  by_cases q : g = [] <;> simp [q]
theorem Whole.soFar {f : List Nat} (h : Whole [] f) : SoFar [] f := h
theorem SoFar.gap {ls : List (List Nat)} {f g : List Nat} (h : SoFar ls f) (hg : Gp g) (n : g ≠ [] ∨ ls = []) : Whole ls (f ++ g) := by
  obtain ⟨o, e⟩ := h
  refine ⟨o, ?_⟩
  rw [scan_app, e]
  simp only
  rw [scan_gap g hg, last_split]
  rcases n with n | n
  · rw [if_neg n]
  · subst n
    by_cases q : g = [] <;> simp [q]
theorem Whole.word {ls : List (List Nat)} {f l w : List Nat} (h : Whole ls f) (hw : WrO l w) (hp : ∀ c ∈ l, 32 ≤ c ∧ c ≤ 126) (hl : l.length ≤ 40) : SoFar (ls ++ [l]) (f ++ w) := by
  obtain ⟨o, e⟩ := h
  obtain ⟨o', e'⟩ := scan_wro hw hp hl (0 + f.length) ls o
  refine ⟨o', ?_⟩
  rw [scan_app, e]
  simp only
  rw [e', List.dropLast_concat, List.getLast?_concat]
/-- the line's end: it is cut to the words -/
theorem SoFar.done {ls : List (List Nat)} {f g : List Nat} (h : SoFar ls f) (hg : Gp g) : ∃ t, scan stP 0 sc0 (f ++ g) = .ok t ∧ t.tk = false ∧ t.qt = 0 ∧ t.ws ++ t.bg.toList = ls := by
  obtain ⟨o, e⟩ := h
  rw [scan_app, e]
  simp only
  rw [scan_gap g hg]
  by_cases q : g = []
  · rw [if_pos q]; exact ⟨_, rfl, rfl, rfl, last_split ls⟩
  · rw [if_neg q]; exact ⟨_, rfl, rfl, rfl, by rw [last_split]; simp⟩
/-- a good line, a blank, what can't be cut -/
theorem bad_end {f : List Nat} {t : Sc} (h : scan stP 0 sc0 f = .ok t) (h1 : t.tk = false) (h2 : t.qt = 0) {b : List Nat} (hb : b ∈ [[39], [34], [39, 97], [34, 98, 32, 99], [100, 92], [34, 92]]) :
    ∃ u, scan stP 0 sc0 (f ++ 32 :: b) = .ok u ∧ (u.tk = true ∨ u.tk = false ∧ u.qt ≠ 0) := by
  obtain ⟨ws, bg, qt, op, tk⟩ := t
  simp only at h1 h2
  subst h1 h2
  have e1 : ∀ i, stP ⟨ws, bg, 0, op, false⟩ i 32 = .ok ⟨ws ++ bg.toList, none, 0, op, false⟩ := fun i => by cases bg <;> simp [stP]
  rw [scan_app, h]
  simp only [scan, e1]
  simp only [List.mem_cons, List.not_mem_nil, or_false] at hb  -- own
  rcases hb with q | q | q | q | q | q <;> subst q <;> refine ⟨_, by simp [scan, stP]; rfl, ?_⟩ <;> simp
end M

/-! decimal figures, and what begins them -/
namespace M
open PySem PySem.NumText
def D (n : Nat) : List Nat := (Nat.toDigits 10 n).map Char.toNat
theorem dc_of : ∀ d : Nat, d < 10 → (Nat.digitChar d).toNat = 48 + d := by decide
theorem D_lt {n : Nat} (h : n < 10) : D n = [48 + n] := by
  unfold D
  rw [Nat.toDigits_of_lt_base h, List.map_cons, List.map_nil, dc_of n h]
theorem D_ge {n : Nat} (h : 10 ≤ n) : D n = D (n / 10) ++ [48 + n % 10] := by
  have hm : n % 10 < 10 := Nat.mod_lt n (by decide)  -- own
  have t : Nat.toDigits 10 (n / 10) ++ Nat.toDigits 10 (n % 10) = Nat.toDigits 10 (10 * (n / 10) + n % 10) := Nat.toDigits_append_toDigits (by decide) (by omega) hm  -- own
  rw [Nat.div_add_mod] at t
  show (Nat.toDigits 10 n).map Char.toNat = _  -- own
  rw [← t, List.map_append]
  show D (n / 10) ++ D (n % 10) = _
  rw [D_lt hm]
theorem D_val (n : Nat) : digitsVal (D n) = n := PySem.W.KIN.val_back n
theorem D_ne (n : Nat) : D n ≠ [] := by
  by_cases h : n < 10
  · rw [D_lt h]; exact List.cons_ne_nil _ _
  · rw [D_ge (by omega)]; simp
theorem D_digits (n : Nat) : AllDigits (D n) := by
  induction n using Nat.strongRecOn with  -- own
  | _ n ih =>
    by_cases h : n < 10
    · rw [D_lt h]
      intro c hc
      have := List.mem_singleton.mp hc
      omega
    · rw [D_ge (by omega)]
      intro c hc
      rcases List.mem_append.mp hc with q | q
      · exact ih _ (by omega) c q
      · have := List.mem_singleton.mp q
        have := Nat.mod_lt n (show 10 > 0 by decide)
        omega
theorem D_head {n : Nat} (h : 1 ≤ n) : ∃ c r, D n = c :: r ∧ 49 ≤ c := by
  induction n using Nat.strongRecOn with  -- own
  | _ n ih =>
    by_cases q : n < 10
    · exact ⟨48 + n, [], D_lt q, by omega⟩
    · obtain ⟨c, r, e, hc⟩ := ih (n / 10) (by omega) (by omega)
      exact ⟨c, r ++ [48 + n % 10], by rw [D_ge (by omega), e, List.cons_append], hc⟩
theorem D_zero : D 0 = [48] := D_lt (by decide)
def Canon (l : List Nat) : Prop := l ≠ [] ∧ AllDigits l ∧ (l = [48] ∨ l.head? ≠ some 48)
theorem D_canon (n : Nat) : Canon (D n) := by
  refine ⟨D_ne n, D_digits n, ?_⟩
  by_cases h : n = 0
  · subst h; exact .inl D_zero
  · obtain ⟨c, r, e, hc⟩ := D_head (show 1 ≤ n by omega)
    exact .inr (by rw [e]; simp; omega)
theorem back_chars : ∀ {l : List Nat}, AllDigits l → (l.map Char.ofNat).map Char.toNat = l
  | [], _ => rfl
  | c :: l, h => by
    rw [List.map_cons, List.map_cons, back_chars h.tail]
    have hc := h c (List.mem_cons_self ..)  -- own
    have k : ∀ c : Nat, c < 58 → (Char.ofNat c).toNat = c := by decide
    rw [k c (by omega)]
theorem canon_D {l : List Nat} (h : Canon l) : l = D (digitsVal l) := by
  obtain ⟨h1, h2, h3⟩ := h
  have e := toDigits_digitsVal (l.length - 1) l (by have := List.length_pos_iff.mpr h1; omega) h2 (by
    rcases h3 with q | q
    · exact .inl (by rw [q]; rfl)
    · cases l with
      | nil => exact absurd rfl h1
      | cons c r =>
        have hc := h2 c (List.mem_cons_self ..)
        exact .inr ⟨c, r, rfl, by
          have : c ≠ 48 := fun e => q (by rw [e]; rfl)
          omega⟩)
  show l = (Nat.toDigits 10 (digitsVal l)).map Char.toNat
  rw [e, back_chars h2]
def dec (m : Int) : List Nat := if m < 0 then 45 :: D m.natAbs else D m.natAbs
theorem dec_nat (n : Nat) : dec (n : Nat) = D n := by
  unfold dec
  rw [if_neg (by omega), Int.natAbs_natCast]
theorem dec_neg {n : Nat} (h : 1 ≤ n) : dec (-(n : Nat)) = 45 :: D n := by
  unfold dec
  rw [if_pos (by omega), Int.natAbs_neg, Int.natAbs_natCast]
/-- the number that a text plainly writes -/
noncomputable def numV (l : List Nat) : Option Int :=
  open Classical in
  if l.head? = some 45 then (if Canon l.tail ∧ l.tail ≠ [48] then some (-(digitsVal l.tail : Nat)) else none) else if Canon l then some (digitsVal l : Nat) else none
theorem numV_some {l : List Nat} {n : Int} : numV l = some n ↔ l = dec n := by
  unfold numV
  constructor
  · intro h
    split at h
    · rename_i h0
      split at h
      · rename_i h1
        obtain ⟨h1, h2⟩ := h1
        cases h
        have e := canon_D h1
        have v : 1 ≤ digitsVal l.tail := by
          by_cases z : digitsVal l.tail = 0
          · exact absurd (by rw [e, z, D_zero]) h2
          · omega
        rw [dec_neg v, ← e]
        cases l with
        | nil => cases h0
        | cons c r =>
          cases h0
          rfl
      · cases h
    · split at h
      · rename_i h1
        cases h
        rw [dec_nat]
        exact canon_D h1
      · cases h
  · intro h
    by_cases q : n < 0
    · obtain ⟨k, rfl, hk⟩ : ∃ k : Nat, n = -(k : Nat) ∧ 1 ≤ k := ⟨n.natAbs, by omega, by omega⟩
      rw [dec_neg hk] at h
      subst h
      rw [if_pos (show (45 :: D k).head? = some 45 from rfl), List.tail_cons, if_pos ⟨D_canon k, fun e => by
        have := congrArg digitsVal e
        rw [D_val] at this
        have : k = 0 := this
        omega⟩, D_val]
    · obtain ⟨k, rfl⟩ : ∃ k : Nat, n = (k : Nat) := ⟨n.natAbs, by omega⟩
      rw [dec_nat] at h
      subst h
      have hd : (D k).head? ≠ some 45 := by
        cases e : D k with
        | nil => exact absurd e (D_ne k)
        | cons c r =>
          have := D_digits k c (by rw [e]; exact List.mem_cons_self ..)
          simp; omega
      rw [if_neg hd, if_pos (D_canon k), D_val]
theorem pre_snoc {α : Type} {l m : List α} {c : α} : l <+: m ++ [c] ↔ l = m ++ [c] ∨ l <+: m := by
  constructor
  · rintro ⟨t, e⟩
    rcases List.eq_nil_or_concat t with q | ⟨t', d, q⟩
    · subst q; exact .inl (by rw [← e, List.append_nil])
    · subst q
      rw [List.concat_eq_append, ← List.append_assoc] at e
      exact .inr ⟨t', (List.append_inj' e rfl).1⟩
  · rintro (q | ⟨t, q⟩)
    · exact ⟨[], by rw [q, List.append_nil]⟩
    · exact ⟨t ++ [c], by rw [← List.append_assoc, q]⟩
/-- what begins a number's figures -/
theorem pre_D {l : List Nat} (hl : l ≠ []) : ∀ m : Nat, l <+: D m ↔ ∃ k : Nat, l = D (m / 10 ^ k) ∧ (k = 0 ∨ 10 ^ k ≤ m) := by
  intro m
  induction m using Nat.strongRecOn with  -- own
  | _ m ih =>
    by_cases h : m < 10
    · rw [D_lt h]
      constructor
      · rintro ⟨t, e⟩
        refine ⟨0, ?_, .inl rfl⟩
        rw [Nat.pow_zero, Nat.div_one, D_lt h]
        cases l with
        | nil => exact absurd rfl hl
        | cons c r =>
          rw [List.cons_append] at e
          injection e with e1 e2
          rw [e1, (List.append_eq_nil_iff.mp e2).1]
      · rintro ⟨k, e, q⟩
        rcases q with q | q
        · subst q
          rw [Nat.pow_zero, Nat.div_one, D_lt h] at e
          rw [e]; exact List.prefix_rfl
        · cases k with
          | zero =>
            rw [Nat.pow_zero, Nat.div_one, D_lt h] at e
            rw [e]; exact List.prefix_rfl
          | succ k =>
            have : 10 ^ 1 ≤ 10 ^ (k + 1) := Nat.pow_le_pow_right (by decide) (by omega)
            omega
    · rw [D_ge (by omega), pre_snoc, ih (m / 10) (by omega), ← D_ge (by omega)]
      have e10 : ∀ k, m / 10 / 10 ^ k = m / 10 ^ (k + 1) := fun k => by rw [Nat.div_div_eq_div_mul, Nat.pow_succ, Nat.mul_comm]
      constructor
      · rintro (q | ⟨k, e, q⟩)
        · exact ⟨0, by rw [Nat.pow_zero, Nat.div_one]; exact q, .inl rfl⟩
        · refine ⟨k + 1, by rw [← e10]; exact e, .inr ?_⟩
          rcases q with q | q
          · subst q; simp; omega
          · rw [Nat.pow_succ]; exact (Nat.le_div_iff_mul_le (by decide)).mp q
      · rintro ⟨k, e, q⟩
        cases k with
        | zero => rw [Nat.pow_zero, Nat.div_one] at e; exact .inl e
        | succ k =>
          refine .inr ⟨k, by rw [e10]; exact e, ?_⟩
          rcases q with q | q
          · cases q
          · rw [Nat.pow_succ] at q
            exact .inr ((Nat.le_div_iff_mul_le (by decide)).mpr q)
def hasB (lo hi n : Int) : Prop := ∃ k : Nat, n * 10 ^ k ≤ hi ∧ lo ≤ n * 10 ^ k + (10 ^ k - 1)
def begNum (lo hi : Int) (l : List Nat) : Prop := l = [] ∨ (l = [45] ∧ lo < 0) ∨ ∃ n : Int, l = dec n ∧ ((n = 0 ∧ lo ≤ 0 ∧ 0 ≤ hi) ∨ (0 < n ∧ hasB lo hi n) ∨ (n < 0 ∧ hasB (-hi) (-lo) (-n)))
theorem has_iff {lo hi : Int} {n : Nat} (hn : 1 ≤ n) (h : lo ≤ hi) : hasB lo hi n ↔ ∃ (m k : Nat), lo ≤ m ∧ (m : Int) ≤ hi ∧ n = m / 10 ^ k ∧ 10 ^ k ≤ m := by
  constructor
  · rintro ⟨k, h1, h2⟩
    obtain ⟨P, hP⟩ : ∃ P : Nat, P = 10 ^ k := ⟨_, rfl⟩
    have p : 0 < P := by rw [hP]; exact Nat.pow_pos (by decide)
    have c : ((10 : Int) ^ k) = ((P : Nat) : Int) := by rw [hP]; simp
    rw [c] at h1 h2
    have e : (n : Int) * (P : Int) = ((n * P : Nat) : Int) := by simp
    rw [e] at h1 h2
    have nP : P ≤ n * P := Nat.le_mul_of_pos_left P hn
    have sm : (n + 1) * P = n * P + P := Nat.succ_mul n P
    refine ⟨max lo.toNat (n * P), k, by omega, by omega, ?_, by rw [← hP]; omega⟩
    rw [← hP]
    exact (Nat.div_eq_of_lt_le (by omega) (by omega)).symm
  · rintro ⟨m, k, h1, h2, e, h3⟩
    obtain ⟨P, hP⟩ : ∃ P : Nat, P = 10 ^ k := ⟨_, rfl⟩
    have p : 0 < P := by rw [hP]; exact Nat.pow_pos (by decide)
    have c : ((10 : Int) ^ k) = ((P : Nat) : Int) := by rw [hP]; simp
    rw [← hP] at e
    have a := Nat.div_add_mod m P
    have b := Nat.mod_lt m p
    rw [← e, Nat.mul_comm] at a
    have e2 : (n : Int) * (P : Int) = ((n * P : Nat) : Int) := by simp
    refine ⟨k, ?_, ?_⟩
    · rw [c, e2]; omega
    · rw [c, e2]; omega
theorem begNum_iff {lo hi : Int} {l : List Nat} (h : lo ≤ hi) : begNum lo hi l ↔ ∃ m : Int, lo ≤ m ∧ m ≤ hi ∧ l <+: dec m := by
  constructor
  · rintro (e | ⟨e, h0⟩ | ⟨n, e, ⟨h0, h1, h2⟩ | ⟨h0, h1⟩ | ⟨h0, h1⟩⟩)
    · exact ⟨lo, Int.le_refl _, h, by rw [e]; exact List.nil_prefix⟩
    · refine ⟨lo, Int.le_refl _, h, ?_⟩
      rw [e]
      unfold dec
      rw [if_pos h0]
      exact ⟨_, rfl⟩
    · exact ⟨0, h1, h2, by rw [e, h0]; exact List.prefix_rfl⟩
    · obtain ⟨k, rfl⟩ : ∃ k : Nat, n = (k : Nat) := ⟨n.natAbs, by omega⟩
      obtain ⟨m, j, m1, m2, m3, m4⟩ := (has_iff (by omega) h).mp h1
      refine ⟨m, m1, m2, ?_⟩
      rw [e, dec_nat, dec_nat]
      exact (pre_D (D_ne k) m).mpr ⟨j, by rw [← m3], .inr m4⟩
    · obtain ⟨k, rfl, hk⟩ : ∃ k : Nat, n = -(k : Nat) ∧ 1 ≤ k := ⟨n.natAbs, by omega, by omega⟩
      rw [Int.neg_neg] at h1
      obtain ⟨m, j, m1, m2, m3, m4⟩ := (has_iff hk (by omega)).mp h1
      have p : 0 < 10 ^ j := Nat.pow_pos (by decide)
      refine ⟨-(m : Int), by omega, by omega, ?_⟩
      rw [e, dec_neg hk, dec_neg (by omega), List.cons_prefix_cons]
      exact ⟨rfl, (pre_D (D_ne k) m).mpr ⟨j, by rw [← m3], .inr m4⟩⟩
  · rintro ⟨m, m1, m2, pre⟩
    by_cases l0 : l = []
    · exact .inl l0
    by_cases q : m < 0
    · obtain ⟨k, rfl, hk⟩ : ∃ k : Nat, m = -(k : Nat) ∧ 1 ≤ k := ⟨m.natAbs, by omega, by omega⟩
      rw [dec_neg hk] at pre
      cases l with
      | nil => exact absurd rfl l0
      | cons c r =>
        obtain ⟨rfl, pre2⟩ := List.cons_prefix_cons.mp pre
        by_cases r0 : r = []
        · subst r0; exact .inr (.inl ⟨rfl, by omega⟩)
        obtain ⟨j, e, hj⟩ := (pre_D r0 k).mp pre2
        have p : 0 < 10 ^ j := Nat.pow_pos (by decide)
        have hj2 : 10 ^ j ≤ k := by
          rcases hj with z | z
          · subst z; simpa using hk
          · exact z
        have n1 : 1 ≤ k / 10 ^ j := (Nat.le_div_iff_mul_le p).mpr (by rw [Nat.one_mul]; exact hj2)
        refine .inr (.inr ⟨-((k / 10 ^ j : Nat) : Int), by rw [dec_neg n1, e], .inr (.inr ⟨by omega, ?_⟩)⟩)
        rw [Int.neg_neg]
        exact (has_iff n1 (by omega)).mpr ⟨k, j, by omega, by omega, rfl, hj2⟩
    · obtain ⟨k, rfl⟩ : ∃ k : Nat, m = (k : Nat) := ⟨m.natAbs, by omega⟩
      rw [dec_nat] at pre
      obtain ⟨j, e, hj⟩ := (pre_D l0 k).mp pre
      have p : 0 < 10 ^ j := Nat.pow_pos (by decide)
      refine .inr (.inr ⟨((k / 10 ^ j : Nat) : Int), by rw [dec_nat, e], ?_⟩)
      by_cases z : k = 0
      · subst z
        exact .inl ⟨by simp, m1, m2⟩
      · have hj2 : 10 ^ j ≤ k := by
          rcases hj with z | z
          · subst z; simp; omega
          · exact z
        have n1 : 1 ≤ k / 10 ^ j := (Nat.le_div_iff_mul_le p).mpr (by rw [Nat.one_mul]; exact hj2)
        exact .inr (.inl ⟨by omega, (has_iff n1 h).mpr ⟨k, j, m1, m2, rfl, hj2⟩⟩)
end M

/-! own rules over the layer -/
namespace J
open PySem PySem.Spec PyProof.Rows L2  -- own

/-! ### texts as lists of codes -/
/-- the text of these codes -/
def S (l : List Nat) : Str := ⟨l.toArray⟩
theorem S_cps (l : List Nat) : (S l).cps.toList = l := by simp [S]
theorem S_of (x : Str) : S x.cps.toList = x := by cases x; simp [S]
theorem S_len (l : List Nat) : (S l).length = l.length := by simp [S, Str.length]
theorem S_inj {l m : List Nat} : S l = S m ↔ l = m := ⟨fun h => by have := congrArg (fun z : Str => z.cps.toList) h; simpa [S_cps] using this, fun h => by rw [h]⟩
theorem S_app (l m : List Nat) : S l ++ S m = S (l ++ m) := by
  show (⟨(S l).cps ++ (S m).cps⟩ : Str) = _
  simp [S]
theorem S_one (c : Nat) : (⟨#[c]⟩ : Str) = S [c] := rfl

section
variable {X : Cx}
/-- either of two readings of an operation -/
theorem orR {f : Value → Value → Sem Value} {r q : R2} (a : OpR X f r) (b : OpR X f q) : OpR X f (fun x y H Q => r x y H Q ∨ q x y H Q) :=
  fun pins s σ H x y v u Q I rx ry h => h.elim (fun z => a pins s σ H x y v u Q I rx ry z) fun z => b pins s σ H x y v u Q I rx ry z
def rMulS : R2 := fun x y H Q => ∃ (z : Str) (n : Int), x = .str z ∧ y = .int n ∧ MulOk z n ∧ Q (.str (Txt.mul z n)) H
theorem op_mulS : OpR X (binaryOp .Mult) rMulS := fun pins s σ H x y v u Q I rx ry h => by
  obtain ⟨z, n, ex, ey, ok, q⟩ := h
  subst ex ey
  obtain ⟨t, rfl⟩ := rx
  obtain ⟨t', rfl⟩ := ry
  exact SB.mul ok fun _ _ => ⟨.str _, H, I.tok _, ⟨_, rfl⟩, q⟩
/-- a + b: ints, texts, lists, tuples -/
def rAddI : R2 := fun x y H Q => ∃ i j : Int, x = .int i ∧ y = .int j ∧ Q (.int (i + j)) H
def rAddS : R2 := fun x y H Q => ∃ a b : Str, x = .str a ∧ y = .str b ∧ a.length + b.length ≤ sizeLine ∧ Q (.str (a ++ b)) H
def rAdd (K : PySem.W.Frag) : R2 := fun x y H Q => rAddI x y H Q ∨ rAddS x y H Q ∨ rCat x y H Q ∨ rCatA K x y H Q
theorem oAdd : OpR X (binaryOp .Add) (rAdd X.K) :=
  orR (fun pins s σ H x y v u Q I rx ry h => L2.op_add pins s σ H x y v u Q I rx ry h) (orR (fun pins s σ H x y v u Q I rx ry h => L2.op_add_str pins s σ H x y v u Q I rx ry h) (orR L2.op_cat L2.op_catA))
/-- a * b: ints, a text, a list by an int -/
def rMul : R2 := fun x y H Q => rI CMulW (fun i j => .int (i * j)) x y H Q ∨ rMulS x y H Q ∨ rRep x y H Q
theorem oMul : OpR X (binaryOp .Mult) rMul := orR L2.op_mulW (orR op_mulS L2.op_rep)
/-- == and != -/
def rEqA (K : PySem.W.Frag) : R2 := fun x y H Q => rEq x y H Q ∨ rEqD K x y H Q
def rNeA (K : PySem.W.Frag) : R2 := fun x y H Q => rNe x y H Q ∨ rNeD K x y H Q
theorem op_eqA (hu : X.A.units + 64 < cLine) : OpR X (compareOp .Eq) (rEqA X.K) := orR L2.op_eq (L2.op_eqD hu)
theorem op_neA (hu : X.A.units + 64 < cLine) : OpR X (compareOp .NotEq) (rNeA X.K) := orR L2.op_ne (L2.op_neD hu)
/-- in, not in: a sign in a text, a flat thing in a list or tuple -/
def rInS (neg : Bool) : R2 := fun x y H Q => ∃ (c : Nat) (z : Str), x = .str ⟨#[c]⟩ ∧ y = .str z ∧ Q (.bl (if neg = true then !decide (c ∈ z.cps.toList) else decide (c ∈ z.cps.toList))) H
def rInA (K : PySem.W.Frag) (neg : Bool) : R2 := fun x y H Q => rInS neg x y H Q ∨ rIn K neg x y H Q
theorem op_inA : OpR X (compareOp .In) (rInA X.K false) :=
  orR (fun pins s σ H x y v u Q I rx ry h => by obtain ⟨c, z, a, b, q⟩ := h; exact L2.op_in_sign pins s σ H x y v u Q I rx ry ⟨c, z, a, b, by simpa using q⟩) L2.op_in_seq
theorem op_notInA : OpR X (compareOp .NotIn) (rInA X.K true) :=
  orR (fun pins s σ H x y v u Q I rx ry h => by obtain ⟨c, z, a, b, q⟩ := h; exact L2.op_notIn_sign pins s σ H x y v u Q I rx ry ⟨c, z, a, b, by simpa using q⟩) L2.op_notIn_seq
/-- slices -/
def rSl (K : PySem.W.Frag) : V → Option Int → Option Int → Hp → VK → Prop := fun x lo hi H Q => rSlL K x lo hi H Q ∨ rSlS x lo hi H Q
theorem sl_any : SlR X (rSl X.K) := L2.sl_list.or L2.sl_str
/-- repr of data, where no repr is running -/
def rRepr (K : PySem.W.Frag) : List V → Hp → VK → Prop := fun xs H Q => ∃ (x : V) (d : PyData), xs = [x] ∧ Dp K H x d ∧ d.showable = true ∧ d.depth ≤ 60 ∧ d.hasDict = false ∧ d.shown.length ≤ sizeLine ∧ Q (.str d.shown) H
theorem call_repr (hg : X.A.guards = some []) (hu : X.A.units + 64 < cLine) : CallR X (.builtin "repr") (rRepr X.K) := fun pins s σ H xs us Q I r h => by
  obtain ⟨x, d, ex, hd, hs, hdp, hnd, hz, q⟩ := h
  subst ex
  obtain ⟨u, rfl, ru⟩ := vals1 r  -- own
  have hsm : ∀ as : List Addr, d.hasDict = true → sysModules ∉ as := fun as z => by rw [hnd] at z; cases z
  have far : ∀ {a : Addr} {as : List Addr}, Reads s.heap (.ref a) d as → wpAny (model X.prog X.w) X.A (call (.builtin "repr") [.ref a]) (EP X pins σ Q) X.xe s := fun {a as} rd =>
    repr_of_reads' rd hs (hsm as) hg (by omega) (fun _ _ e => e) (fun h' t tk hk => ⟨.str _, H, I.kept hk, ⟨_, rfl⟩, q⟩) hz
  obtain ⟨as, rd⟩ := Dp.reads I d x u hd ru
  cases hd with
  | non => cases (show u = Value.none from ru); exact PySem.P.repr_of_none ⟨.str _, H, I.tok _, ⟨_, rfl⟩, q⟩
  | bl b =>
    cases (show u = Value.bool b from ru)
    exact PySem.P.repr_of_bool ⟨.str _, H, I.tok _, ⟨_, rfl⟩, q⟩
  | int i =>
    obtain ⟨t, e⟩ := (show ∃ t, u = Value.int i t from ru)
    subst e
    exact PySem.P.repr_of_int (by simpa [PyData.showable] using hs) ⟨.str _, H, I.tok _, ⟨_, rfl⟩, q⟩
  | str z =>
    obtain ⟨t, e⟩ := (show ∃ t, u = Value.str z t from ru)
    subst e
    exact PySem.P.repr_of_str ⟨.str _, H, I.tok _, ⟨_, rfl⟩, q⟩ hz
  | lst a b =>
    cases (show u = Value.ref _ from ru)
    exact far rd
  | tup a b =>
    cases (show u = Value.ref _ from ru)
    exact far rd
end
end J

/-! loops: one form for all that is walked; enumerate(text) -/
namespace J
open PySem PySem.Spec PyProof.Rows L2  -- own

/-- the loop's question -/
def LoopQ (J : It) (g : TG) (tb : TS) (D : Ends) (σ : L2.St) (H : Hp) : Prop :=
  ∃ W : Nat → Nat → L2.St → Hp → Prop, (∃ m, W 0 m σ H) ∧
    ∀ i m σ H, W i m σ H → (J.stop i H ∧ D.nx σ H) ∨
      (J.go i H ∧ ∃ N : L2.St → Hp → Prop, (∀ σ' H', N σ' H' → ∃ m', m' < m ∧ W (i + 1) m' σ' H') ∧
        ∀ x H', J.yld i H x H' → g x σ H' fun σ2 H2 => tb { D with nx := N, ct := N, bk := D.nx } σ2 H2)
/-- by an invariant over the turn: n turns -/
theorem loop_of {J : It} {g : TG} {tb : TS} {D : Ends} {σ : L2.St} {H : Hp} (n : Nat) (I : Nat → L2.St → Hp → Prop) (start : I 0 σ H)
    (go : ∀ i σ H, i < n → I i σ H → J.go i H) (stop : ∀ σ H, I n σ H → J.stop n H)
    (turn : ∀ i σ H x H', i < n → I i σ H → J.yld i H x H' → g x σ H' fun σ2 H2 => tb { D with nx := I (i + 1), ct := I (i + 1), bk := D.nx } σ2 H2)
    (fin : ∀ σ H, I n σ H → D.nx σ H) : LoopQ J g tb D σ H := by
  refine ⟨fun i m σ H => m = n - i ∧ i ≤ n ∧ I i σ H, ⟨n, by omega, Nat.zero_le _, start⟩, fun i m σ H w => ?_⟩
  obtain ⟨hm, hi, w⟩ := w
  subst hm
  rcases Nat.lt_or_ge i n with lt | ge
  · exact .inr ⟨go i σ H lt w, I (i + 1), fun σ' H' w' => ⟨n - (i + 1), by omega, rfl, lt, w'⟩, fun x H' y => turn i σ H x H' lt w y⟩
  · obtain rfl : i = n := by omega
    exact .inl ⟨stop σ H w, fin σ H w⟩
/-- the comprehension's question -/
def CompQ (J : It) (g : TG) (tt : TT) (te : TE) (vs : List Nat) (σ : L2.St) (H1 : Hp) (D : Addr) (Z : Hp → Prop) : Prop :=
  ∃ W : Nat → Nat → Hp → Prop, (∃ m, W 0 m (upd H1 D (.lst []))) ∧
    ∀ i m H, W i m H → (J.stop i H ∧ Z H) ∨
      (J.go i H ∧ ∃ Nx : Hp → Prop, (∀ H', Nx H' → ∃ m', m' < m ∧ W (i + 1) m' H') ∧
        ∀ x H', J.yld i H x H' → g x (wipe σ vs) H' fun σ2 H2 => wipe σ2 vs = wipe σ vs ∧ tt σ2 H2 fun b H3 =>
          if b = true then te σ2 H3 fun y H4 => ∃ acc, H4 D = some (.lst acc) ∧ acc.length < sizeLine ∧ Nx (upd H4 D (.lst (acc ++ [y]))) else Nx H3)  -- own
theorem comp_of {J : It} {g : TG} {tt : TT} {te : TE} {vs : List Nat} {σ : L2.St} {H1 : Hp} {D : Addr} {Z : Hp → Prop} (n : Nat) (I : Nat → Hp → Prop) (start : I 0 (upd H1 D (.lst [])))
    (go : ∀ i H, i < n → I i H → J.go i H) (stop : ∀ H, I n H → J.stop n H)
    (turn : ∀ i H x H', i < n → I i H → J.yld i H x H' → g x (wipe σ vs) H' fun σ2 H2 => wipe σ2 vs = wipe σ vs ∧ tt σ2 H2 fun b H3 =>
      if b = true then te σ2 H3 fun y H4 => ∃ acc, H4 D = some (.lst acc) ∧ acc.length < sizeLine ∧ I (i + 1) (upd H4 D (.lst (acc ++ [y]))) else I (i + 1) H3)
    (fin : ∀ H, I n H → Z H) : CompQ J g tt te vs σ H1 D Z := by
  refine ⟨fun i m H => m = n - i ∧ i ≤ n ∧ I i H, ⟨n, by omega, Nat.zero_le _, start⟩, fun i m H w => ?_⟩
  obtain ⟨hm, hi, w⟩ := w
  subst hm
  rcases Nat.lt_or_ge i n with lt | ge
  · exact .inr ⟨go i H lt w, I (i + 1), fun H' w' => ⟨n - (i + 1), by omega, rfl, lt, w'⟩, fun x H' y => turn i H x H' lt w y⟩
  · obtain rfl : i = n := by omega
    exact .inl ⟨stop H w, fin H w⟩

/-! ### enumerate(text) -/
/-- each sign with its number, in a new pair -/
def Ites (z : Str) : It :=
  ⟨fun i _ => i < z.cps.size, fun i H v H' => ∃ (T : Addr) (c : Nat), v = .ref T ∧ H T = none ∧ H' = upd H T (.tup [.int (i : Nat), .str ⟨#[c]⟩]) ∧ z.cps[i]? = some c, fun i _ => i = z.cps.size⟩
theorem draws_str {P : Program} {w : World} {A : Around} (hh : A.handled = none) (it : Addr) (z : Str) (t : Tok) :
    Draws P w A it [it] z.cps.size (fun i v => ∃ c u, z.cps[i]? = some c ∧ v = .str ⟨#[c]⟩ u) (fun i h => h.IsStrIter it (strIterType z) z t i) := by
  unfold strIterType
  split
  · exact Draws.strAscii hh it z t
  · exact Draws.strWide hh it z t
theorem turn_enumS {P : Program} {w : World} {K : PySem.W.Frag} {elts : List Expr} {kk : Nat} {tpos : Pos} (z : Str) (t : Tok) (e it : Addr) :
    Turn P w K (.Tuple elts kk tpos) (Ites z) [e, it] e (fun i h => (∃ old, IsEnum h e it ((i : Nat) : Int) old) ∧ h.IsStrIter it (strIterType z) z t i ∧ e ≠ it) where
  mem := List.mem_cons_self ..
  obj := fun i h st b hb => by
    obtain ⟨⟨old, he⟩, ⟨o, ho, hc, hd⟩, _⟩ := st  -- own
    rcases List.mem_cons.mp hb with q | q
    · subst q; exact ⟨_, he, fun v q => nomatch q⟩
    · obtain rfl := List.mem_singleton.mp q
      exact ⟨o, ho, fun v q => by rw [hd] at q; cases q⟩
  keep := fun i h h' st k => by
    obtain ⟨⟨old, he⟩, ⟨o, ho, r⟩, ne⟩ := st
    exact ⟨⟨old, k e (List.mem_cons_self ..) _ he⟩, ⟨o, k it (List.mem_cons_of_mem _ (List.mem_singleton_self _)) o ho, r⟩, ne⟩
  item := by
    intro X hP hw hK hc i pins s σ H E I hf st hg  -- own
    subst hP hw hK
    obtain ⟨⟨old, he⟩, hit, ne⟩ := st
    have D := draws_str (P := X.prog) (w := X.w) (A := X.A.in1) (I.ok.hd hc) it z t
    have nin : e ∉ [it] := fun q => ne (List.mem_singleton.mp q)
    have le : e < s.heap.objs.size := Heap.lt_size he
    have li : it < s.heap.objs.size := by obtain ⟨_, q⟩ := D.live _ _ hit; exact Heap.lt_size q
    refine wpAny_pyNext_enum_itemD D he hit hg ne nin fun x h' tk hx ho hit' hT hsz hk => ⟨_, rfl, ?_⟩
    obtain ⟨c, u, hcx, rfl⟩ := hx
    refine wpAny_letOwnedTupleGo_enum (s := { s with heap := h', toks := tk + 1 }) ho fun h2 he2 sb => ?_
    have hT2 : h2.get? s.heap.objs.size = some { cls := .type "tuple", data := .seq #[.int i tk, .str ⟨#[c]⟩ u] } := (sb.2 _ (Nat.ne_of_gt le)).trans hT
    have new : ObjOk X.prog X.w (upd H s.heap.objs.size (.tup [.int (i : Nat), .str ⟨#[c]⟩])) h2 s.heap.objs.size (.tup [.int (i : Nat), .str ⟨#[c]⟩]) :=
      ⟨by show 2 ≤ sizeLine; decide, [.int i tk, .str ⟨#[c]⟩ u], .cons ⟨_, rfl⟩ (.cons ⟨_, rfl⟩ .nil), ⟨_, hT2, rfl, _, rfl⟩⟩
    have kp : ∀ b o, b ∉ [e, it] → s.heap.get? b = some o → h2.get? b = some o := fun b o hb q => by
      have n1 : b ≠ e := fun w => hb (w ▸ List.mem_cons_self ..)
      have n2 : b ≠ it := fun w => hb (w ▸ List.mem_cons_of_mem _ (List.mem_singleton_self _))
      exact (sb.2 b n1).trans (hk b o n1 n2 q)
    have I1 := Inv.turnedNew (h' := h2) (t' := tk + 1) (ch := [e, it]) I kp hf (Nat.le_refl _) new
    refine ⟨.ref s.heap.objs.size, _, I1, rfl, ⟨_, c, rfl, I.hok.fresh (Nat.le_refl _), rfl, hcx⟩, ⟨⟨_, he2⟩, D.frame _ _ _ hit' fun b hb o q => ?_, ne⟩, fun b hb => ?_⟩
    · exact (sb.2 b fun w => nin (w ▸ hb)).trans q
    · have lb : b < s.heap.objs.size := by
        rcases List.mem_cons.mp hb with q | q
        · rw [q]; exact le
        · rw [List.mem_singleton.mp q]; exact li
      rw [upd_ne (Nat.ne_of_lt lb)]
      exact (hf b hb).1
  done := by
    intro X hP hw hK hc i pins s σ H E I hf st hg  -- own
    subst hP hw hK
    obtain ⟨⟨old, he⟩, hit, ne⟩ := st
    obtain ⟨f0, f1, f2, f3, f4, f5⟩ := hf it (List.mem_cons_of_mem _ (List.mem_singleton_self _))
    have D := draws_str (P := X.prog) (w := X.w) (A := X.A.in1) (I.ok.hd hc) it z t
    have ei : i = z.cps.size := hg
    subst ei
    exact wpAny_pyNext_enum_endD D he hit fun h' eb => ⟨rfl, I.turned (t' := s.toks) (fun b o hb q => eb b o hb q) f0 f1 f3 f4 f5⟩
  self := fun A i s Q E st h => by  -- own
    obtain ⟨⟨_, he⟩, _⟩ := st
    exact wpAny_pyIter_enum he h
def iEnumS (ta : TA) : TI := fun σ H R => ta σ H fun vs H1 => ∃ z : Str, vs = [.str z] ∧ R (Ites z) H1
theorem pi_enumS {X : Cx} {e : Expr} {ta : TA} {p pos tpos : Pos} {elts : List Expr} {kk : Nat} (hg : Gl X "enumerate") (hm : X.mg "enumerate" = none) (ha : PA X [e] ta)
    (hs : starEach [e] X.env = [(false, eval e X.env)] := by rfl) : PI X (.Tuple elts kk tpos) (.Call (.Name "enumerate" p) [e] [] pos) (iEnumS ta) := by
  refine ⟨fun pins s σ H R I h => Call_ (ld_blt I hg hm boot_enumerate (PyProof.Rows.callWith_type1 (thn (ha.run pos pins s σ H _ I h) fun us s1 q => ?_) hs rfl))⟩
  obtain ⟨vs, H1, I1, r1, z, ez, q1⟩ := q
  subst ez
  obtain ⟨u, rfl, t, rfl⟩ := vals1 r1
  refine call_enumerate_str fun h' he hit hsz hk => wpAny_pyIter_enum he ?_
  have I2 : Inv X pins σ H1 { s1 with heap := h' } := I1.kept (t' := s1.toks) hk  -- own
  refine ⟨s1.heap.objs.size + 1, [s1.heap.objs.size + 1, s1.heap.objs.size], _, _, H1, rfl, I2, turn_enumS z t (s1.heap.objs.size + 1) s1.heap.objs.size, ⟨⟨.none, he⟩, hit, Nat.succ_ne_self _⟩, fun b hb => ?_, q1⟩
  have lb : s1.heap.objs.size ≤ b := by
    rcases List.mem_cons.mp hb with w | w
    · rw [w]; exact Nat.le_succ _
    · rw [List.mem_singleton.mp w]; exact Nat.le_refl _
  exact I1.fpOk lb (I1.hok.fresh lb)
end J

/-! the reading, step by step; heaps; the law's box -/
namespace J
open PySem PySem.Spec PyProof.Rows L2  -- own

section
variable {X : Cx}
/-! ### comparisons of ints or of texts -/
def rCmp (f : Int → Int → Bool) (g : List Nat → List Nat → Bool) : R2 := fun x y H Q => (∃ i j : Int, x = .int i ∧ y = .int j ∧ Q (.bl (f i j)) H) ∨ (∃ a b : Str, x = .str a ∧ y = .str b ∧ Q (.bl (g a.cps.toList b.cps.toList)) H)
theorem op_ltA : OpR X (compareOp .Lt) (rCmp (fun i j => decide (i < j)) fun a b => decide (a < b)) := orR (fun pins s σ H x y v u Q I rx ry h => L2.op_lt pins s σ H x y v u Q I rx ry h) (fun pins s σ H x y v u Q I rx ry h => L2.op_lt_str pins s σ H x y v u Q I rx ry h)
theorem op_leA : OpR X (compareOp .LtE) (rCmp (fun i j => decide (i ≤ j)) fun a b => !decide (b < a)) := orR (fun pins s σ H x y v u Q I rx ry h => L2.op_le pins s σ H x y v u Q I rx ry h) (fun pins s σ H x y v u Q I rx ry h => L2.op_le_str pins s σ H x y v u Q I rx ry h)
theorem op_gtA : OpR X (compareOp .Gt) (rCmp (fun i j => decide (j < i)) fun a b => decide (b < a)) := orR (fun pins s σ H x y v u Q I rx ry h => L2.op_gt pins s σ H x y v u Q I rx ry h) (fun pins s σ H x y v u Q I rx ry h => L2.op_gt_str pins s σ H x y v u Q I rx ry h)
theorem op_geA : OpR X (compareOp .GtE) (rCmp (fun i j => decide (j ≤ i)) fun a b => !decide (a < b)) := orR (fun pins s σ H x y v u Q I rx ry h => L2.op_ge pins s σ H x y v u Q I rx ry h) (fun pins s σ H x y v u Q I rx ry h => L2.op_ge_str pins s σ H x y v u Q I rx ry h)
end

/-! ### steps of the reading: a goal's head tells the one that fits -/
section
variable {σ : L2.St} {H : Hp} {Q : VK} {D : Ends} {K : PySem.W.Frag}
theorem r_var {i : Nat} {v : V} (h : σ[i]? = some (some v)) (k : Q v H) : tVar i σ H Q := ⟨v, h, k⟩
theorem r_c {v : V} (k : Q v H) : tC v σ H Q := k
theorem r_op {r : R2} {ta tb : TE} (k : ta σ H fun x H1 => tb σ H1 fun y H2 => r x y H2 Q) : tOp r ta tb σ H Q := k
theorem r_un {r : V → Hp → VK → Prop} {ta : TE} (k : ta σ H fun x H1 => r x H1 Q) : tUn r ta σ H Q := k
theorem r_cb {r : List V → Hp → VK → Prop} {t : TA} (k : t σ H fun vs H1 => r vs H1 Q) : tCB r t σ H Q := k
theorem r_nil {Q : List V → Hp → Prop} (k : Q [] H) : tNil σ H Q := k
theorem r_cons {ta : TE} {tr : TA} {Q : List V → Hp → Prop} (k : ta σ H fun x H1 => tr σ H1 fun xs H2 => Q (x :: xs) H2) : tCons ta tr σ H Q := k
theorem r_tb {t : TE} {Q : Bool → Hp → Prop} (k : t σ H fun x H1 => ∃ c, x = .bl c ∧ Q c H1) : tB t σ H Q := k
theorem r_test {t : TE} {Q : Bool → Hp → Prop} (k : t σ H fun x H1 => ∃ c, x = .bl c ∧ Q c H1) : tTest t σ H Q := k
theorem r_bl {b : Bool} {Q : Bool → Prop} (k : Q b) : ∃ c, V.bl b = .bl c ∧ Q c := ⟨b, rfl, k⟩
theorem r_not {t : TT} {Q : Bool → Hp → Prop} (k : t σ H fun c H1 => Q (!c) H1) : tNot t σ H Q := k
theorem r_and {t u : TT} {Q : Bool → Hp → Prop} (k : t σ H fun c H1 => if c = true then u σ H1 Q else Q false H1) : tAnd t u σ H Q := k
theorem r_or {t u : TT} {Q : Bool → Hp → Prop} (k : t σ H fun c H1 => if c = true then Q true H1 else u σ H1 Q) : tOr t u σ H Q := k
theorem r_ifE {t : TT} {a b : TE} (k : t σ H fun c H1 => if c = true then a σ H1 Q else b σ H1 Q) : tIf t a b σ H Q := k
theorem r_call {sp : Sp} {dvs : List V} {E : XK} {t : TA} (k : t σ H fun vs H1 => sp (vs ++ dvs) H1 Q E) : tCall sp dvs E t σ H Q := k
theorem r_lst {t : TA} (k : t σ H fun xs H1 => xs.length ≤ sizeLine ∧ ∀ p, H1 p = none → Q (.ref p) (upd H1 p (.lst xs))) : tLst t σ H Q := k
theorem r_tup {t : TA} (k : t σ H fun xs H1 => xs.length ≤ sizeLine ∧ ∀ p, H1 p = none → Q (.ref p) (upd H1 p (.tup xs))) : tTup t σ H Q := k
-- values
theorem r_addI {i j : Int} (k : Q (.int (i + j)) H) : rAdd K (.int i) (.int j) H Q := .inl ⟨i, j, rfl, rfl, k⟩
theorem r_addS {a b : Str} (h : a.length + b.length ≤ sizeLine) (k : Q (.str (a ++ b)) H) : rAdd K (.str a) (.str b) H Q := .inr (.inl ⟨a, b, rfl, rfl, h, k⟩)
theorem r_subI {i j : Int} (k : Q (.int (i - j)) H) : rI0 (fun i j => .int (i - j)) (.int i) (.int j) H Q := ⟨i, j, rfl, rfl, k⟩
theorem r_rI {C : Int → Int → Prop} {g : Int → Int → V} {i j : Int} (h : C i j) (k : Q (g i j) H) : rI C g (.int i) (.int j) H Q := ⟨i, j, rfl, rfl, h, k⟩
theorem r_mulI {i j : Int} (h : CMulW i j) (k : Q (.int (i * j)) H) : rMul (.int i) (.int j) H Q := .inl ⟨i, j, rfl, rfl, h, k⟩
theorem r_mulS {z : Str} {n : Int} (h : MulOk z n) (k : Q (.str (Txt.mul z n)) H) : rMul (.str z) (.int n) H Q := .inr (.inl ⟨z, n, rfl, rfl, h, k⟩)
theorem r_cmpI {f : Int → Int → Bool} {g : List Nat → List Nat → Bool} {i j : Int} (k : Q (.bl (f i j)) H) : rCmp f g (.int i) (.int j) H Q := .inl ⟨i, j, rfl, rfl, k⟩
theorem r_cmpS {f : Int → Int → Bool} {g : List Nat → List Nat → Bool} {a b : Str} (k : Q (.bl (g a.cps.toList b.cps.toList)) H) : rCmp f g (.str a) (.str b) H Q := .inr ⟨a, b, rfl, rfl, k⟩
theorem dec_int {i j : Int} : decide (V.int i = V.int j) = decide (i = j) := by by_cases h : i = j <;> simp [h]
theorem dec_str {i j : Str} : decide (V.str i = V.str j) = decide (i = j) := by by_cases h : i = j <;> simp [h]
theorem r_eqI {i j : Int} (k : Q (.bl (decide (i = j))) H) : rEqA K (.int i) (.int j) H Q := .inl ⟨rfl, by rw [dec_int]; exact k⟩
theorem r_neI {i j : Int} (k : Q (.bl (!decide (i = j))) H) : rNeA K (.int i) (.int j) H Q := .inl ⟨rfl, by rw [dec_int]; exact k⟩
theorem r_eqS {i j : Str} (k : Q (.bl (decide (i = j))) H) : rEqA K (.str i) (.str j) H Q := .inl ⟨rfl, by rw [dec_str]; exact k⟩
theorem r_neS {i j : Str} (k : Q (.bl (!decide (i = j))) H) : rNeA K (.str i) (.str j) H Q := .inl ⟨rfl, by rw [dec_str]; exact k⟩
theorem r_inSF {c : Nat} {z : Str} (k : Q (.bl (decide (c ∈ z.cps.toList))) H) : rInA K false (.str ⟨#[c]⟩) (.str z) H Q := .inl ⟨c, z, rfl, rfl, k⟩
theorem r_inST {c : Nat} {z : Str} (k : Q (.bl (!decide (c ∈ z.cps.toList))) H) : rInA K true (.str ⟨#[c]⟩) (.str z) H Q := .inl ⟨c, z, rfl, rfl, k⟩
theorem log2_small {n : Nat} (h : n < 2 ^ 200) : n.log2 < 300000 := by
  by_cases h0 : n = 0
  · subst h0; decide
  · exact Nat.lt_of_lt_of_le ((Nat.log2_lt h0).mpr h) (by decide)
theorem cmulW {i j : Int} (hi : i.natAbs < 2 ^ 200) (hj : j.natAbs < 2 ^ 200) : CMulW i j := by
  have := log2_small hi
  have := log2_small hj
  show _ + _ < _
  omega
-- items
theorem r_ixL {p : Addr} {xs : List V} {i : Int} {v : V} (h : SqL K H p xs) (e : atI xs i = some v) (k : Q v H) : rIx K (.ref p) (.int i) H Q := .inl ⟨p, xs, i, v, rfl, rfl, h, e, k⟩
theorem r_ixT {p : Addr} {xs : List V} {i : Int} {v : V} (h : SqT K H p xs) (e : atI xs i = some v) (k : Q v H) : rIx K (.ref p) (.int i) H Q := .inr (.inl ⟨p, xs, i, v, rfl, rfl, h, e, k⟩)
theorem r_ixS {z : Str} {i : Int} {c : Nat} (h : z.length ≤ sizeLine) (e : atI z.cps.toList i = some c) (k : Q (.str ⟨#[c]⟩) H) : rIx K (.str z) (.int i) H Q := .inr (.inr ⟨z, i, c, rfl, rfl, h, e, k⟩)
-- statements
theorem r_seq {t u : TS} {n : L2.St → Hp → Prop} {rt : VK} {bk ct : L2.St → Hp → Prop} (k : t { nx := u ⟨n, rt, bk, ct⟩, rt := rt, bk := bk, ct := ct } σ H) : tSeq t u ⟨n, rt, bk, ct⟩ σ H := k
theorem r_next {n : L2.St → Hp → Prop} {rt : VK} {bk ct : L2.St → Hp → Prop} (k : n σ H) : tNext ⟨n, rt, bk, ct⟩ σ H := k
theorem r_ret {te : TE} {n : L2.St → Hp → Prop} {rt : VK} {bk ct : L2.St → Hp → Prop} (k : te σ H rt) : tRet te ⟨n, rt, bk, ct⟩ σ H := k
theorem r_drop {te : TE} {n : L2.St → Hp → Prop} {rt : VK} {bk ct : L2.St → Hp → Prop} (k : te σ H fun _ H1 => n σ H1) : tDrop te ⟨n, rt, bk, ct⟩ σ H := k
theorem r_rI0 {g : Int → Int → V} {i j : Int} (k : Q (g i j) H) : rI0 g (.int i) (.int j) H Q := ⟨i, j, rfl, rfl, k⟩
theorem r_setL {p : Addr} {xs : List V} {i : Int} {j : Nat} {v : V} {Q : Hp → Prop} (h : H p = some (.lst xs)) (e : ixN xs.length i = some j) (k : Q (upd H p (.lst (xs.set j v)))) : rSetL (.ref p) (.int i) v H Q := ⟨p, xs, i, j, rfl, rfl, h, e, k⟩
theorem r_sets {te : TE} {g : TG} {n : L2.St → Hp → Prop} {rt : VK} {bk ct : L2.St → Hp → Prop} (k : te σ H fun x H1 => g x σ H1 n) : tAsg te g ⟨n, rt, bk, ct⟩ σ H := k
theorem r_gname {i : Nat} {v : V} {Q : L2.St → Hp → Prop} (k : Q (σ.set i (some v)) H) : gName i v σ H Q := k
theorem r_ifS {c : TT} {t u : TS} (k : c σ H fun b H1 => if b = true then t D σ H1 else u D σ H1) : tIfS c t u D σ H := k
theorem r_gsub {to ti : TE} {t : TSet} {v : V} {Q : L2.St → Hp → Prop} (k : to σ H fun o H1 => ti σ H1 fun i H2 => t o i v H2 fun H3 => Q σ H3) : gSub to ti t v σ H Q := k
end
/-! ### tests -/
theorem r_ite {b : Bool} {A B : Prop} (h1 : b = true → A) (h2 : b = false → B) : if b = true then A else B := by cases b <;> simp_all
theorem r_iteD {p : Prop} {inst : Decidable p} {A B : Prop} (h1 : p → A) (h2 : ¬ p → B) : if decide p = true then A else B := by by_cases h : p <;> simp_all
theorem r_iteN {p : Prop} {inst : Decidable p} {A B : Prop} (h1 : ¬ p → A) (h2 : p → B) : if (!decide p) = true then A else B := by by_cases h : p <;> simp_all

/-! ### heaps: all but what stands at b is as it was -/
def Keep (b : Addr) (H H' : Hp) : Prop := ∀ p o, H p = some o → p ≠ b → H' p = some o
theorem Keep.refl (b : Addr) (H : Hp) : Keep b H H := fun _ _ h _ => h
theorem Keep.trans {b : Addr} {H H1 H2 : Hp} (x : Keep b H H1) (y : Keep b H1 H2) : Keep b H H2 := fun p o h n => y p o (x p o h n) n
theorem Keep.upd (b : Addr) (H : Hp) (o : HO) : Keep b H (upd H b o) := fun p u h n => by rw [upd_ne n]; exact h
theorem Keep.new {b p : Addr} {H : Hp} (o : HO) (h : H p = none) : Keep b H (L2.upd H p o) := fun q u hq _ => by rw [upd_ne (ne_of_none hq h)]; exact hq
theorem Keep.same {b : Addr} {H H' : Hp} (h : Same H H') : Keep b H H' := fun p o q _ => h p o q
theorem Keep.seq {K : PySem.W.Frag} {b a : Addr} {xs : List V} {H H' : Hp} (x : Keep b H H') (n : a ≠ b) (h : SqL K H a xs) : SqL K H' a xs := by
  rcases h with (h | ⟨o, h⟩) | h  -- own
  · exact .inl (.inl (x _ _ h n))
  · exact .inl (.inr ⟨o, x _ _ h n⟩)
  · exact .inr h
theorem Keep.free {b a : Addr} {H H' : Hp} (x : Keep b H H') (n : a ≠ b) (h : H' a = none) : H a = none := by
  cases q : H a with
  | none => rfl
  | some o => rw [x a o q n] at h; cases h
theorem new_ne {H : Hp} {p q : Addr} {o : HO} (h : H p = none) (h' : H q = some o) : p ≠ q := fun e => by rw [e, h'] at h; cases h

/-! ### the law's box: three ints, at most n draws -/
def Bx (H : Hp) (b : Addr) (n : Nat) : Prop := ∃ x y z : Int, H b = some (.lst [.int x, .int y, .int z]) ∧ 0 ≤ x ∧ 0 ≤ y ∧ y < 2147483629 ∧ 0 ≤ z ∧ z ≤ n
theorem Bx.mono {H : Hp} {b : Addr} {n m : Nat} (h : Bx H b n) (l : n ≤ m) : Bx H b m := by
  obtain ⟨x, y, z, e, a1, a2, a3, a4, a5⟩ := h
  exact ⟨x, y, z, e, a1, a2, a3, a4, by omega⟩
theorem Bx.new {H : Hp} {b p : Addr} {n : Nat} {o : HO} (h : Bx H b n) (f : H p = none) : Bx (upd H p o) b n := by
  obtain ⟨x, y, z, e, r⟩ := h
  exact ⟨x, y, z, by rw [upd_ne (new_ne f e).symm]; exact e, r⟩
/-- a draw: below m -/
def spTake : Sp := fun vs H Q _ => ∃ (b : Addr) (m : Int) (n : Nat), vs = [.ref b, .int m] ∧ Bx H b n ∧ n ≤ 1000000000 ∧ 1 ≤ m ∧ m < 1000000000 ∧
  ∀ (k : Int) (H' : Hp), 0 ≤ k → k < m → Keep b H H' → Bx H' b (n + 1) → Q (.int k) H'
end J

/-! the promises of the defs that cut and quote lines -/
namespace J
open PySem PySem.Spec PyProof.Rows L2 M

abbrev cd (z : Str) : List Nat := z.cps.toList
theorem cd_S (l : List Nat) : cd (S l) = l := S_cps l
theorem cd_app (a b : Str) : cd (a ++ b) = cd a ++ cd b := by show (a.cps ++ b.cps).toList = _; simp
theorem cd_one (c : Nat) : cd ⟨#[c]⟩ = [c] := rfl
theorem len_cd (z : Str) : z.length = (cd z).length := by simp [Str.length]
theorem str_eq {a b : Str} : a = b ↔ cd a = cd b := ⟨fun h => by rw [h], fun h => by rw [← S_of a, ← S_of b]; exact congrArg S h⟩
/-- a text of signs -/
def sg (l : List Nat) : Bool := l.all fun c => decide (32 ≤ c ∧ c ≤ 126)
theorem sg_iff {l : List Nat} : sg l = true ↔ ∀ c ∈ l, 32 ≤ c ∧ c ≤ 126 := by simp [sg]
def wV (l : List Nat) : V := .str (S l)
def obV : Option (List Nat) → V
  | none => .non
  | some l => .str (S l)
def qV (q : Nat) : V := .str (if q = 0 then S [] else S [q])
/-- a line without line feeds: signs, at most 2,000 -/
def Ln (l : List Nat) : Prop := l.length ≤ 2000 ∧ ∀ c ∈ l, 32 ≤ c ∧ c ≤ 126

def spSigns : Sp := fun vs H Q _ => ∃ z : Str, vs = [.str z] ∧ z.length ≤ 10000000 ∧ ∀ H', Same H H' → Q (.bl (sg (cd z))) H'
def spIsWord : Sp := fun vs H Q _ => ∃ z : Str, vs = [.str z] ∧ z.length ≤ 10000000 ∧ ∀ H', Same H H' → Q (.bl (decide (z.length ≤ 40) && sg (cd z))) H'
def spIsLine : Sp := fun vs H Q _ => ∃ z : Str, vs = [.str z] ∧ Ln (cd z) ∧ ∀ H', Same H H' → Q (.bl true) H'
def spAreWords (K : PySem.W.Frag) : Sp := fun vs H Q _ => ∃ (a : Addr) (ls : List (List Nat)), vs = [.ref a] ∧ (H a = some (.lst (ls.map wV)) ∨ H a = some (.tup (ls.map wV))) ∧ ls.length ≤ 40 ∧ (∀ l ∈ ls, Wd l) ∧ ∀ H', Same H H' → Q (.bl true) H'
def spLonger : Sp := fun vs H Q _ => ∃ (b : Option (List Nat)) (c : Nat) (i : Int), vs = [obV b, .str ⟨#[c]⟩, .int i] ∧ (b.getD []).length + 1 ≤ 40 ∧ Q (.str (S (b.getD [] ++ [c]))) H
def spRefuse : Sp := fun vs H Q _ => ∃ n : Int, vs = [.int n] ∧ n ≤ 40 ∧ Q .non H
def spScanned : Sp := fun vs H Q _ => ∃ (z : Str) (t : Sc), vs = [.str z] ∧ Ln (cd z) ∧ scan stP 0 sc0 (cd z) = .ok t ∧ t.tk = false ∧
  ∀ (p w : Addr) (H' : Hp), H p = none → H w = none → Same H H' → H' p = some (.tup [.ref w, obV t.bg, qV t.qt, .int t.op]) → H' w = some (.lst (t.ws.map wV)) → p ≠ w → Q (.ref p) H'
/-- all words of a state -/
def fin (t : Sc) : List (List Nat) := t.ws ++ t.bg.toList
def spCut : Sp := fun vs H Q _ => ∃ (z : Str) (t : Sc), vs = [.str z] ∧ Ln (cd z) ∧ scan stP 0 sc0 (cd z) = .ok t ∧ t.tk = false ∧ t.qt = 0 ∧ (fin t).length ≤ 40 ∧
  ∀ (w : Addr) (H' : Hp), H w = none → Same H H' → H' w = some (.lst ((fin t).map wV)) → Q (.ref w) H'
def spEscaped : Sp := fun vs H Q _ => ∃ z n : Str, vs = [.str z, .str n] ∧ z.length ≤ 100000 ∧ ∀ H', Same H H' → Q (.str (S (esc (cd n) (cd z)))) H'
def spWays : Sp := fun vs H Q _ => ∃ z : Str, vs = [.str z] ∧ z.length ≤ 100000 ∧ ∀ (w : Addr) (H' : Hp), H w = none → Same H H' → H' w = some (.lst ((ways (cd z)).map wV)) → Q (.ref w) H'
def spQuoted : Sp := fun vs H Q _ => ∃ z : Str, vs = [.str z] ∧ Wd (cd z) ∧ ∀ (v : List Nat) (H' : Hp), FM (ways (cd z)) v → Same H H' → Q (.str (S v)) H'
/-- each of a list's first shortest ways -/
inductive FMs : List (List Nat) → List (List Nat) → Prop
  | nil : FMs [] []
  | cons {l v : List Nat} {ls vs : List (List Nat)} (h : FM (ways l) v) (r : FMs ls vs) : FMs (l :: ls) (v :: vs)
theorem FM.mem {xs : List (List Nat)} {v : List Nat} (h : FM xs v) : v ∈ xs := let ⟨_, hi, _⟩ := h; List.mem_of_getElem? hi
theorem FMs.ways : ∀ {ls vs : List (List Nat)}, FMs ls vs → (∀ l ∈ ls, Wd l) → Ways ls vs
  | _, _, .nil, _ => .nil
  | _, _, .cons h r, w => .cons (w _ (List.mem_cons_self ..)) (FM.mem h) (r.ways fun l hl => w l (List.mem_cons_of_mem _ hl))
theorem FMs.uniq : ∀ {ls vs us : List (List Nat)}, FMs ls vs → FMs ls us → vs = us
  | _, _, _, .nil, .nil => rfl
  | _, _, _, .cons h r, .cons h' r' => by rw [FM.uniq h h', r.uniq r']
theorem FMs.snoc : ∀ {ls vs : List (List Nat)} {l v : List Nat}, FMs ls vs → FM (M.ways l) v → FMs (ls ++ [l]) (vs ++ [v])
  | _, _, _, _, .nil, h => .cons h .nil  -- own
  | _, _, _, _, .cons h' r, h => .cons h' (r.snoc h)
theorem FMs.len : ∀ {ls vs : List (List Nat)}, FMs ls vs → ls.length = vs.length
  | _, _, .nil => rfl
  | _, _, .cons _ r => by simp [r.len]  -- own
def spJoined (K : PySem.W.Frag) : Sp := fun vs H Q _ => ∃ (a : Addr) (ls : List (List Nat)), vs = [.ref a] ∧ (H a = some (.lst (ls.map wV)) ∨ H a = some (.tup (ls.map wV))) ∧ ls.length ≤ 40 ∧ (∀ l ∈ ls, Wd l) ∧
  ∀ (us : List (List Nat)) (H' : Hp), FMs ls us → Same H H' → Q (.str (S (jn us))) H'
-- the law's
def spBox : Sp := fun vs H Q _ => ∃ c : Int, vs = [.int c] ∧ ∀ (p : Addr) (H' : Hp), H p = none → Same H H' → Bx H' p 0 → Q (.ref p) H'
def spPick (K : PySem.W.Frag) : Sp := fun vs H Q _ => ∃ (b : Addr) (n : Nat), Bx H b n ∧ n ≤ 900000000 ∧
  ((∃ z : Str, vs = [.ref b, .str z] ∧ 0 < z.length ∧ z.length ≤ 1000 ∧ ∀ (c : Nat) (H' : Hp), c ∈ cd z → Keep b H H' → Bx H' b (n + 1) → Q (.str ⟨#[c]⟩) H') ∨
   (∃ (a : Addr) (xs : List V), vs = [.ref b, .ref a] ∧ a ≠ b ∧ SqL K H a xs ∧ 0 < xs.length ∧ xs.length ≤ 1000 ∧ ∀ (v : V) (H' : Hp), v ∈ xs → Keep b H H' → Bx H' b (n + 1) → Q v H'))
def spSign : Sp := fun vs H Q _ => ∃ (b : Addr) (n : Nat), vs = [.ref b] ∧ Bx H b n ∧ n ≤ 800000000 ∧ ∀ (c : Nat) (H' : Hp), 32 ≤ c → c ≤ 126 → Keep b H H' → Bx H' b (n + 2) → Q (.str ⟨#[c]⟩) H'
def spWord : Sp := fun vs H Q _ => ∃ (b : Addr) (n m : Nat), vs = [.ref b, .int m] ∧ m ≤ 40 ∧ Bx H b n ∧ n ≤ 700000000 ∧ ∀ (l : List Nat) (H' : Hp), l.length ≤ max m 8 → Wd l → Keep b H H' → Bx H' b (n + 100) → Q (.str (S l)) H'
end J

/-! min(texts, key=len); replace where there is nothing to replace; more steps of the reading -/
namespace J
open PySem PySem.Spec PyProof.Rows L2 M
open Sem (wp)

theorem argBest_first (f : Nat → Int) : ∀ k : Nat, argBest (fun i j => decide (f i < f j)) k ≤ k ∧ ∀ j, j ≤ k → f (argBest (fun i j => decide (f i < f j)) k) ≤ f j ∧ (j < argBest (fun i j => decide (f i < f j)) k → f (argBest (fun i j => decide (f i < f j)) k) < f j)
  | 0 => ⟨Nat.le_refl _, fun j hj => by
      obtain rfl : j = 0 := by omega
      exact ⟨Int.le_refl _, fun h => absurd h (Nat.lt_irrefl _)⟩⟩
  | k + 1 => by
    obtain ⟨h1, h2⟩ := argBest_first f k
    unfold argBest
    by_cases c : f (k + 1) < f (argBest (fun i j => decide (f i < f j)) k)
    · rw [if_pos (decide_eq_true c)]  -- own
      refine ⟨Nat.le_refl _, fun j hj => ?_⟩  -- own
      rcases Nat.lt_or_ge k j with q | q
      · obtain rfl : j = k + 1 := by omega
        exact ⟨Int.le_refl _, fun h => absurd h (Nat.lt_irrefl _)⟩
      · have := (h2 j q).1
        exact ⟨by omega, fun _ => by omega⟩  -- own
    · rw [if_neg (by simpa using c)]
      refine ⟨by omega, fun j hj => ?_⟩  -- own
      rcases Nat.lt_or_ge k j with q | q
      · obtain rfl : j = k + 1 := by omega
        exact ⟨by omega, fun h => by omega⟩
      · exact h2 j q
section
variable {X : Cx}
/-- min(xs, key=len) of a list of texts: the first of the shortest -/
def tMinLen (K : PySem.W.Frag) (te : TE) : TE := fun σ H Q => te σ H fun x H1 => ∃ (a : Addr) (ls : List (List Nat)), x = .ref a ∧ SqL K H1 a (ls.map wV) ∧ 0 < ls.length ∧ (∀ l ∈ ls, l.length < 1000000) ∧ ∀ v, FM ls v → Q (.str (S v)) H1
theorem pe_minLen {e : Expr} {te : TE} {p p2 kp pos : Pos} (he : PE X e te) (hc : X.calm = true) (hg : Gl X "min") (hm : X.mg "min" = none) (hg2 : Gl X "len") (hm2 : X.mg "len" = none)
    (h1 : backTo pos (starEach [e] X.env) = (false, eval e X.env) :: backTo pos (starEach [] X.env) := by rfl) (h2 : (backTo pos (starEach [e] X.env)).any (·.1) = false := by rfl)
    (h3 : (backToKw pos (keywordEach [⟨some "key", .Name "len" p2, kp⟩] X.env)).all (·.1.isSome) = true := by rfl) (h4 : (backToKw pos (keywordEach [⟨some "key", .Name "len" p2, kp⟩] X.env)).any (·.1.isNone) = false := by rfl)
    (h0 : starEach [e] X.env = (false, eval e X.env) :: starEach [] X.env := by rfl)
    (h5 : (backToKw pos (keywordEach [⟨some "key", .Name "len" p2, kp⟩] X.env)).filterMap (·.1) = [Str.ofString "key"] := by rfl) :
    PE X (.Call (.Name "min" p) [e] [⟨some "key", .Name "len" p2, kp⟩] pos) (tMinLen X.K te) := by
  refine ⟨fun pins s σ H Q I h => wpAny_Call_Name_kw (ld_blt (u := .builtin "min") I hg hm (by decide +kernel) ?_ (by decide) (by decide))⟩
  refine PyProof.Rows.callWith_kw (thn ((pa_cons he pa_nil h0).run pos pins s σ H (fun vs H1 => match vs with
    | [x] => ∃ (a : Addr) (ls : List (List Nat)), x = .ref a ∧ SqL X.K H1 a (ls.map wV) ∧ 0 < ls.length ∧ (∀ l ∈ ls, l.length < 1000000) ∧ ∀ v, FM ls v → Q (.str (S v)) H1
    | _ => False) I h) fun us s1 hh => ?_) h1 h2 h3 h4
  obtain ⟨vs, H1, I1, r1, q1⟩ := hh
  cases r1 with
  | nil => exact q1.elim
  | cons rx rr =>
    cases rr with
    | cons _ _ => exact q1.elim
    | nil =>
      obtain ⟨a, ls, ex, hs, hn, hl, q⟩ := q1
      subst ex
      cases rx
      rw [h5]
      show wpAny _ _ (evalAll [do let v ← eval (.Name "len" p2) X.env; standAt pos; pure v]) _ _ s1
      refine wpAny_evalAll_cons (wpAny_bind (ld_blt (u := .builtin "len") I1 hg2 hm2 (by decide +kernel) (wpAny_bind (wpAny_standAt (wpAny_pure (wpAny_evalAll_nil ?_)))) (by decide) (by decide)))
      show wpAny _ _ (call (.builtin "min") [.ref a] [(Str.ofString "key", .builtin "len")]) _ _ s1
      obtain ⟨its, rv, hL, hz⟩ := I1.list hs
      have hlen := rv.length
      rw [List.length_map] at hlen
      have hla : a < s1.heap.objs.size := by obtain ⟨o, e, _⟩ := hL.isList; exact Heap.lt_size e
      have at_ : ∀ (i : Nat) (v : Value), its.toArray[i]? = some v → ∃ l t, ls[i]? = some l ∧ v = .str (S l) t := fun i v hv => by
        have hv' : its[i]? = some v := by simpa using hv  -- own
        cases e : ls[i]? with
        | none =>
          have := Vals.none_of rv (i := i) (by rw [List.getElem?_map, e]; rfl)
          rw [hv'] at this; cases this
        | some l =>
          obtain ⟨u, hu, ru⟩ := rv.get (i := i) (x := wV l) (by rw [List.getElem?_map, e]; rfl)
          rw [hv'] at hu; cases hu
          obtain ⟨t, et⟩ := (show ∃ t, v = Value.str (S l) t from ru)
          exact ⟨l, t, rfl, et⟩
      refine call_min_walkKB (wpAny_pyIter_list hL.isList ?_)
      have W := (Walks.list (prog := X.prog) (w := X.w) (A := X.A.in1) (I1.ok.hd hc) s1.heap.objs.size a (Nat.ne_of_lt hla) its.toArray).toS
      refine ⟨_, _, _, _, _, _, _, (fun s' : Shared => (∀ b o, s1.heap.get? b = some o → s'.heap.get? b = some o) ∧ s'.gens = s1.gens ∧ s'.drawn = s1.drawn ∧ s'.os = s1.os), (fun (i : Nat) (k : Value) (_ : Shared) => ∃ t, k = Value.int (((ls[i]?.getD []).length : Nat) : Int) t),
        (fun i j => decide ((((ls[i]?.getD []).length : Nat) : Int) < (((ls[j]?.getD []).length : Nat) : Int))), rfl, W, ⟨⟨_, Heap.get?_push_size _ rfl, rfl, rfl⟩, hL.isList.push _⟩, fun b hb => ?_, by simp; omega, ⟨?_, ?_, ?_, ?_⟩, ⟨fun b o e => Heap.get?_push_of_some _ e, rfl, rfl, rfl⟩, fun v s' hv hJ => ?_⟩
      · show b < (s1.heap.push _).objs.size
        rw [Heap.size_push]
        rcases List.mem_cons.mp hb with q | q
        · rw [q]; exact Nat.lt_succ_self _
        · rw [List.mem_singleton.mp q]; exact Nat.lt_succ_of_lt hla
      · intro s2 s3 ⟨k1, k2, k3, k4⟩ m
        refine ⟨fun b o e => m.heap b o (fun hm => ?_) (k1 b o e), (show s3.gens = s2.gens from m.gens).trans k2, m.drawn.trans k3, m.os.trans k4⟩
        have lb := Heap.lt_size e
        simp only [List.mem_cons, List.not_mem_nil, or_false] at hm  -- own
        have sz : (s1.heap.push { cls := Value.type "list_iterator", data := Data.fields #[Value.ref a, Value.int 0 0] }).objs.size = s1.heap.objs.size + 1 := Heap.size_push ..
        rcases hm with q | q
        · have q' : b = s1.heap.objs.size + 1 := q.trans sz
          rw [q'] at lb
          exact Nat.lt_irrefl _ (Nat.lt_of_succ_lt lb)
        · rw [q] at lb
          exact Nat.lt_irrefl _ lb
      · exact fun _ _ _ _ h _ => h
      · intro i v s2 o Q' E' hi hP hJ hst hS hq
        obtain ⟨l, t, hl', rfl⟩ := at_ i v hP
        refine PySem.P.len_str ?_ (hq _ _ hJ hst hS ⟨_, by rw [hl', S_len]; rfl⟩ fun _ _ h => h)
        have := hl l (List.mem_of_getElem? hl')
        rw [S_len]; omega
      · intro i j ki kj s2 Q' E' _ hi hj h
        obtain ⟨t, rfl⟩ := hi
        obtain ⟨u, rfl⟩ := hj
        exact richCompare_gives (op := .Lt) (typeIs_int s2 _ t) (typeIs_int s2 _ u) PySem.F.slot_int_lt PySem.F.entry_int_lt (PySem.F.args_int_lt_2 _ _) (gives_int_lt _ _ t u) (fun x => nomatch x) h
      · obtain ⟨l, t, hl', rfl⟩ := at_ _ v hv
        obtain ⟨k1, k2, k3, k4⟩ := hJ
        obtain ⟨h', g', d', t', o'⟩ := s'  -- own
        simp only at k1 k2 k3 k4
        subst k2 k3 k4
        obtain ⟨b1, b2⟩ := argBest_first (fun i => (((ls[i]?.getD []).length : Nat) : Int)) (its.toArray.size - 1)
        refine ⟨.str (S l), H1, I1.kept k1, ⟨t, rfl⟩, q l ⟨_, hl', fun j w hj => ?_⟩⟩
        have lj := (List.getElem?_eq_some_iff.mp hj).1
        have := b2 j (by simp; omega)
        simp only [hl', hj, Option.getD_some] at this
        exact ⟨by omega, fun q => by have := this.2 q; omega⟩

/-! ### replace where there is nothing to replace -/
def rRep0 : V → List V → Hp → VK → Prop := fun x xs H Q => ∃ (a b : Str) (c : Nat), x = .str a ∧ xs = [.str ⟨#[c]⟩, .str b] ∧ c ∉ cd a ∧ Q (.str a) H
theorem occ_nil {x : Str} {c : Nat} (h : c ∉ cd x) : (Builtin.Str.occurrences x ⟨#[c]⟩ 0 x.length (x.length + 1)).isEmpty = true := by
  obtain ⟨f, q⟩ := StrLaws.occ_chain x ⟨#[c]⟩ (x.length + 1)
  cases e : Builtin.Str.occurrences x ⟨#[c]⟩ 0 x.length (x.length + 1) with
  | nil => rfl
  | cons i r =>
    rw [e] at q
    exact absurd (List.mem_of_getElem? ((StrLaws.subAt_one x c i).mp q.2.1)) h
theorem mt_rep0 : MtR X "str.replace" rRep0 := fun pins s σ H x xs v us Q I r rr h => by
  obtain ⟨a, b, c, ex, exs, hc, q⟩ := h
  subst ex exs
  obtain ⟨t, rfl⟩ := r
  obtain ⟨u1, u2, rfl, r1, r2⟩ := vals2 rr
  obtain ⟨t1, rfl⟩ := (show ∃ t, u1 = Value.str ⟨#[c]⟩ t from r1)
  obtain ⟨t2, rfl⟩ := (show ∃ t, u2 = Value.str b t from r2)
  have e := occ_nil hc
  refine call_gives PySem.F.slot_str_replace (typeIs_str _ _ _) PySem.F.entry_str_replace (PySem.F.args_str_replace_3 _ _ _) (gives_str_replace a ⟨#[c]⟩ b t t1 t2 fun z => by rw [e] at z; cases z) ?_
  rw [e]
  exact ⟨.str a, H, I, ⟨t, rfl⟩, q⟩
end
/-! ### joined texts -/
theorem l_nil' : cd (Str.ofString "") = [] := by decide +kernel
theorem l_sp' : cd (Str.ofString " ") = [32] := by decide +kernel
theorem tj (a : Str) (ys : List Str) : Txt.join a ys = Str.join a ys := StrLaws.glued_eq_join ..
theorem join_nil : ∀ ls : List (List Nat), Txt.join (Str.ofString "") (ls.map S) = S ls.flatten
  | [] => by decide +kernel
  | [x] => by rw [tj]; show S x = _; simp
  | x :: y :: r => by
    have ih := join_nil (y :: r)
    rw [tj] at ih ⊢
    show S x ++ Str.ofString "" ++ Str.join (Str.ofString "") ((y :: r).map S) = _
    rw [ih, str_eq, cd_app, cd_app, cd_S, cd_S, cd_S, l_nil']
    simp
theorem join_sp : ∀ ls : List (List Nat), Txt.join (Str.ofString " ") (ls.map S) = S (jn ls)
  | [] => by decide +kernel
  | [x] => by rw [tj]; rfl
  | x :: y :: r => by
    have ih := join_sp (y :: r)
    rw [tj] at ih ⊢
    show S x ++ Str.ofString " " ++ Str.join (Str.ofString " ") ((y :: r).map S) = _
    rw [ih, str_eq, cd_app, cd_app, cd_S, cd_S, cd_S, l_sp']
    simp [jn]
theorem sum_le : ∀ (ls : List (List Nat)) (B : Nat), (∀ l ∈ ls, l.length ≤ B) → ((ls.map S).map (·.length)).sum ≤ B * ls.length
  | [], B, _ => by simp
  | l :: ls, B, h => by
    have ih := sum_le ls B fun m hm => h m (List.mem_cons_of_mem _ hm)
    have := h l (List.mem_cons_self ..)
    simp only [List.map_cons, List.sum_cons, List.length_cons, S_len]
    rw [Nat.mul_add, Nat.mul_one]
    omega
/-! ### built-ins, their readings named -/
def rLen (K : PySem.W.Frag) : List V → Hp → VK → Prop := fun xs H Q => ∃ x n, xs = [x] ∧ LenV K x H n ∧ Q (.int (n : Nat)) H
def rIntA : List V → Hp → VK → Prop := fun xs H Q => (∃ i, xs = [V.int i] ∧ Q (V.int i) H) ∨ ∃ k, xs = [V.bl k] ∧ Q (V.int (if k = true then 1 else 0)) H
def rMax2 : List V → Hp → VK → Prop := fun xs H Q => ∃ i j, xs = [V.int i, V.int j] ∧ Q (V.int (if j > i then j else i)) H
def rMin2 : List V → Hp → VK → Prop := fun xs H Q => ∃ i j, xs = [V.int i, V.int j] ∧ Q (V.int (if j < i then j else i)) H
def rListOf (K : PySem.W.Frag) : List V → Hp → VK → Prop := fun xs H Q => ∃ p ys, xs = [.ref p] ∧ (SqL K H p ys ∨ SqT K H p ys) ∧ ∀ l, H l = none → Q (.ref l) (upd H l (.lst ys))
def rTupOf (K : PySem.W.Frag) : List V → Hp → VK → Prop := fun xs H Q => ∃ p ys, xs = [.ref p] ∧ ((SqL K H p ys ∧ ∀ l, H l = none → Q (.ref l) (upd H l (.tup ys))) ∨ (SqT K H p ys ∧ Q (.ref p) H))
def rJoin (K : PySem.W.Frag) : V → List V → Hp → VK → Prop := fun x xs H Q => ∃ a p, ∃ ys : List Str, x = .str a ∧ xs = [.ref p] ∧ (SqL K H p (ys.map V.str) ∨ SqT K H p (ys.map V.str)) ∧ (ys.map (·.length)).sum + ys.length * a.length ≤ 16777216 ∧ Q (.str (Txt.join a ys)) H
section
variable {X : Cx}
theorem call_lenA : CallR X (.builtin "len") (rLen X.K) := L2.call_len
theorem call_intA : CallR X (.type "int") rIntA := L2.call_int1
theorem call_maxA (hc : X.calm = true) : CallR X (.builtin "max") rMax2 := L2.call_max2 hc
theorem call_minA (hc : X.calm = true) : CallR X (.builtin "min") rMin2 := L2.call_min2 hc
theorem call_listA : CallR X (.type "list") (rListOf X.K) := L2.call_list_of
theorem call_tupA : CallR X (.type "tuple") (rTupOf X.K) := L2.call_tuple_of
end
/-! ### the written part by its own name -/
section
variable {X : Cx} {K : PySem.W.Frag} {e tg : Expr} {T : String} {r : V → List V → Hp → VK → Prop} {to tb : TE} {t : TA}
theorem asBM (eK : X.K = K) (h : PE X e (tBM X.K T r to t)) : PE X e (tBM K T r to t) := eK ▸ h
theorem asJoin (eK : X.K = K) (h : PE X e (tM1 (rJoin X.K) to tb)) : PE X e (tM1 (rJoin K) to tb) := eK ▸ h
theorem asOrT (eK : X.K = K) (h : PE X e (tOrT X.K to tb)) : PE X e (tOrT K to tb) := eK ▸ h
theorem asMin (eK : X.K = K) (h : PE X e (tMinLen X.K to)) : PE X e (tMinLen K to) := eK ▸ h
theorem asList (eK : X.K = K) (h : PI X tg e (iList X.K to)) : PI X tg e (iList K to) := eK ▸ h
theorem asTup (eK : X.K = K) (h : PI X tg e (iTup X.K to)) : PI X tg e (iTup K to) := eK ▸ h
end
/-! ### constants of the module -/
section
variable {X : Cx} {x : Str} {pos : Pos}
theorem pe_gI {n : Int} (h : ∃ t, X.mg x = some (.int n t)) (hg : Gl X x) (hd : (x == ("__debug__" : Str)) = false := by decide) : PE X (.Name x pos) (tC (.int n)) := let ⟨t, e⟩ := h; pe_glob hg e ⟨t, rfl⟩ hd
theorem pe_gS {z : Str} (h : ∃ t, X.mg x = some (.str z t)) (hg : Gl X x) (hd : (x == ("__debug__" : Str)) = false := by decide) : PE X (.Name x pos) (tC (.str z)) := let ⟨t, e⟩ := h; pe_glob hg e ⟨t, rfl⟩ hd
theorem pe_gR {a : Addr} (h : X.mg x = some (.ref a)) (hg : Gl X x) (hd : (x == ("__debug__" : Str)) = false := by decide) : PE X (.Name x pos) (tC (.ref a)) := pe_glob hg h rfl hd
end
/-- a def as the top has left it -/
structure DAt (K : PySem.W.Frag) (mg : Str → Option Value) (x : Str) (st : Stmt) (ps : List Str) (f : Addr) (fd : FuncData) : Prop where
  fn : Fun K x x st f fd
  gl : mg x = some (.ref f)
  bd : Binds K fd ps []
/-! ### heaps, again -/
theorem _root_.L2.Same.at {H H' : Hp} {p : Addr} (s : Same H H') (n : H p = none) (o : HO) : Same H (upd H' p o) := fun b u h => by rw [upd_ne (ne_of_none h n)]; exact s b u h
theorem _root_.L2.Same.new {H H' : Hp} {p : Addr} (s : Same H H') (n : H' p = none) (o : HO) : Same H (upd H' p o) := fun b u h => by rw [upd_ne (ne_of_none (s b u h) n)]; exact s b u h
theorem _root_.L2.Same.seqT {K : PySem.W.Frag} {H H' : Hp} {a : Addr} {xs : List V} (e : Same H H') (h : SqT K H a xs) : SqT K H' a xs := by
  rcases h with (h | ⟨o, h⟩) | h  -- own
  · exact .inl (.inl (e _ _ h))
  · exact .inl (.inr ⟨o, e _ _ h⟩)  -- own
  · exact .inr h
theorem take_snoc {α : Type} {l : List α} {i : Nat} {c : α} (h : l[i]? = some c) : l.take (i + 1) = l.take i ++ [c] := by rw [List.take_add_one, h]; rfl
theorem cps_at {z : Str} {i c : Nat} (h : z.cps[i]? = some c) : (cd z)[i]? = some c := by simpa using h
theorem one_lt {a b : Nat} : ([a] < [b]) ↔ a < b := by simp [List.cons_lt_cons_iff]
theorem not_dec {p : Prop} {i : Decidable p} : (!decide p) = decide (¬ p) := by by_cases h : p <;> simp [h]
theorem l_sp : (Str.ofString " ").cps.toList = [32] := by decide +kernel
theorem l_til : (Str.ofString "~").cps.toList = [126] := by decide +kernel
theorem l_nl : (Str.ofString "\n").cps.toList = [10] := by decide +kernel
theorem l_q1 : (Str.ofString "'").cps.toList = [39] := by decide +kernel
theorem l_q2 : (Str.ofString "\"").cps.toList = [34] := by decide +kernel
theorem l_bs : (Str.ofString "\\").cps.toList = [92] := by decide +kernel
theorem l_nil : (Str.ofString "").cps.toList = [] := by decide +kernel
theorem l_part : (Str.ofString " \n").cps.toList = [32, 10] := by decide +kernel
theorem l_need : (Str.ofString " '\"\\").cps.toList = [32, 39, 34, 92] := by decide +kernel
theorem l_need2 : (Str.ofString "\"\\").cps.toList = [34, 92] := by decide +kernel
theorem l_all : (Str.ofString " \n'\"\\").cps.toList = [32, 10, 39, 34, 92] := by decide +kernel
theorem l_qs : (Str.ofString "'\"").cps.toList = [39, 34] := by decide +kernel
theorem one_cps (c : Nat) : (⟨#[c]⟩ : Str).cps.toList = [c] := rfl
theorem len_app (a b : Str) : (a ++ b).length = a.length + b.length := by rw [len_cd, cd_app, List.length_append, ← len_cd, ← len_cd]
theorem S_nil_app (c : Nat) : (Str.ofString "" ++ ⟨#[c]⟩ : Str) = S ([] ++ [c]) := by rw [str_eq, cd_app, cd_S]; simp [l_nil]
theorem S_app_one (l : List Nat) (c : Nat) : (S l ++ ⟨#[c]⟩ : Str) = S (l ++ [c]) := S_app l [c]
theorem le_line {n : Nat} (h : n ≤ 16777216) : n ≤ sizeLine := h
theorem big : (1000000 : Nat) < sizeLine := by decide
/-! ### more steps -/
section
variable {σ : L2.St} {H : Hp} {Q : VK} {D : Ends} {K : PySem.W.Frag}
theorem r_andV {a b : TE} (k : a σ H fun x H1 => ∃ c, x = .bl c ∧ if c = true then b σ H1 Q else Q (.bl false) H1) : tAndV a b σ H Q := k
theorem r_orV {a b : TE} (k : a σ H fun x H1 => ∃ c, x = .bl c ∧ if c = true then Q (.bl true) H1 else b σ H1 Q) : tOrV a b σ H Q := k
theorem r_notV {a : TE} (k : a σ H fun x H1 => ∃ c, x = .bl c ∧ Q (.bl (!c)) H1) : tNotV a σ H Q := k
theorem r_chain {r r' : R2} {ta tb tc : TE} (k : ta σ H fun x H1 => tb σ H1 fun y H2 => r x y H2 fun z H3 => ∃ k, z = .bl k ∧ (if k = true then tc σ H3 fun w' H4 => r' y w' H4 Q else Q (.bl false) H3)) : tChain r r' ta tb tc σ H Q := k
theorem r_slice {r : V → Option Int → Option Int → Hp → VK → Prop} {te : TE} {tl th : TO} (k : te σ H fun x H1 => tl σ H1 fun l H2 => th σ H2 fun u H3 => r x l u H3 Q) : tSl r te tl th σ H Q := k
theorem r_nop {Q : Option Int → Hp → Prop} (k : Q none H) : tNoPart σ H Q := k
theorem r_part {t : TE} {Q : Option Int → Hp → Prop} (k : t σ H fun x H1 => ∃ i, x = .int i ∧ Q (some i) H1) : tPart t σ H Q := k
theorem r_isI {i : Int} {Q : Int → Prop} (k : Q i) : ∃ j, V.int i = .int j ∧ Q j := ⟨i, rfl, k⟩
theorem r_isiStr {z : Str} (k : Q (.bl true) H) : rIsi K [.str z, .ty "str"] H Q := ⟨_, _, _, _, true, rfl, .ty _, .base (.str z), kit_ty (by decide +kernel), k⟩
theorem r_len {z : Str} (h : z.length ≤ sizeLine) (k : Q (.int (z.length : Nat)) H) : rLen K [V.str z] H Q := ⟨_, _, rfl, ⟨h, rfl⟩, k⟩
theorem r_lenL {p : Addr} {xs : List V} (h : SqL K H p xs) (k : Q (.int (xs.length : Nat)) H) : rLen K [V.ref p] H Q := ⟨_, _, rfl, .inl ⟨xs, h, rfl⟩, k⟩
theorem r_lenT {p : Addr} {xs : List V} (h : SqT K H p xs) (k : Q (.int (xs.length : Nat)) H) : rLen K [V.ref p] H Q := ⟨_, _, rfl, .inr ⟨xs, h, rfl⟩, k⟩
theorem r_bm {T : String} {r : V → List V → Hp → VK → Prop} {to : TE} {t : TA} (k : to σ H fun x H1 => tyV K T x H1 ∧ t σ H1 fun xs H2 => r x xs H2 Q) : tBM K T r to t σ H Q := k
theorem r_m1 {r : V → List V → Hp → VK → Prop} {to te : TE} (k : to σ H fun x H1 => (∃ a, x = .str a) ∧ te σ H1 fun y H2 => r x [y] H2 Q) : tM1 r to te σ H Q := k
theorem r_isStr {z : Str} {P : Prop} (k : P) : (∃ a, V.str z = .str a) ∧ P := ⟨⟨z, rfl⟩, k⟩
theorem r_isS {z : Str} {Q : Str → Prop} (k : Q z) : ∃ x, V.str z = .str x ∧ Q x := ⟨z, rfl, k⟩
theorem r_lcS {te te' : TE} {g : TG} {tt : TT} {vs : List Nat} (k : te σ H fun v H1 => ∃ z, v = .str z ∧ ∀ E, H1 E = none → CompQ (Its z) g tt te' vs σ H1 E fun H => Q (.ref E) H) : tLc (iStr te) g tt te' vs σ H Q := k
theorem r_lcL {te te' : TE} {g : TG} {tt : TT} {vs : List Nat} (k : te σ H fun v H1 => ∃ a, v = .ref a ∧ (∃ xs, SqL K H1 a xs) ∧ ∀ E, H1 E = none → CompQ (Itl K a) g tt te' vs σ H1 E fun H => Q (.ref E) H) : tLc (iList K te) g tt te' vs σ H Q := k
theorem r_orT {te tb : TE} (k : te σ H fun x H1 => ∃ k, TruV K x H1 k ∧ if k = true then Q x H1 else tb σ H1 Q) : tOrT K te tb σ H Q := k
theorem r_truN {A B : Prop} (h : B) : ∃ k, TruV K .non H k ∧ if k = true then A else B := ⟨false, rfl, iteF h⟩
theorem r_truS {z : Str} {A B : Prop} (hl : z.length ≤ sizeLine) (h0 : z.length = 0 → B) (h1 : z.length ≠ 0 → A) : ∃ k, TruV K (.str z) H k ∧ if k = true then A else B := by
  by_cases e : z.length = 0
  · exact ⟨false, ⟨hl, by rw [e]; rfl⟩, iteF (h0 e)⟩
  · exact ⟨true, ⟨hl, by simp [e]⟩, iteT (h1 e)⟩
theorem r_join {a : Str} {p : Addr} {ls : List (List Nat)} (h : SqL K H p (ls.map wV)) (B : Nat) (hB : ∀ l ∈ ls, l.length ≤ B) (hn : B * ls.length + ls.length * a.length ≤ 16777216) (k : Q (.str (Txt.join a (ls.map S))) H) : rJoin K (.str a) [.ref p] H Q := by
  have := sum_le ls B hB
  exact ⟨a, p, ls.map S, rfl, rfl, .inl (by rw [List.map_map]; exact h), by rw [List.length_map]; omega, k⟩
theorem r_app {l : Addr} {xs : List V} {y : V} (h : H l = some (.lst xs)) (hz : xs.length < sizeLine) (k : Q .non (upd H l (.lst (xs ++ [y])))) : rAppend (.ref l) [y] H Q := ⟨l, xs, y, rfl, rfl, h, hz, k⟩
theorem r_tyL {l : Addr} {xs : List V} {B : Prop} (h : H l = some (.lst xs)) (k : B) : tyV K "list" (.ref l) H ∧ B := ⟨.inl ⟨rfl, _, SqL.of h⟩, k⟩
/-- a statement ahead of others: the rest is shown once -/
theorem r_seqJ {t u : TS} {n : L2.St → Hp → Prop} {rt : VK} {bk ct : L2.St → Hp → Prop} (Mid : L2.St → Hp → Prop) (first : ∀ N : L2.St → Hp → Prop, (∀ σ' H', Mid σ' H' → N σ' H') → t ⟨N, rt, bk, ct⟩ σ H)
    (rest : ∀ σ' H', Mid σ' H' → u ⟨n, rt, bk, ct⟩ σ' H') : tSeq t u ⟨n, rt, bk, ct⟩ σ H := first _ rest
theorem r_intI {i : Int} (k : Q (.int i) H) : rIntA [.int i] H Q := .inl ⟨i, rfl, k⟩
theorem r_intB {b : Bool} (k : Q (.int (if b = true then 1 else 0)) H) : rIntA [.bl b] H Q := .inr ⟨b, rfl, k⟩
theorem r_max2 {i j : Int} (k : Q (.int (if j > i then j else i)) H) : rMax2 [.int i, .int j] H Q := ⟨i, j, rfl, k⟩
theorem r_min2 {i j : Int} (k : Q (.int (if j < i then j else i)) H) : rMin2 [.int i, .int j] H Q := ⟨i, j, rfl, k⟩
theorem r_yes {Q : Bool → Hp → Prop} (k : Q true H) : tYes σ H Q := k
end
end J

/-! a list or a tuple walked; comprehensions that leave the heap as it was -/
namespace J
open PySem PySem.Spec PyProof.Rows L2 M

/-- a walk over what stays -/
structure SeqIt (J : It) (xs : List V) (H0 : Hp) : Prop where
  go : ∀ i H, Same H0 H → i < xs.length → J.go i H
  stop : ∀ H, Same H0 H → J.stop xs.length H
  yld : ∀ i H x H', Same H0 H → J.yld i H x H' → H' = H ∧ xs[i]? = some x
theorem _root_.L2.Same.seqL {K : PySem.W.Frag} {H H' : Hp} {a : Addr} {xs : List V} (e : Same H H') (h : SqL K H a xs) : SqL K H' a xs := by
  rcases h with (h | ⟨o, h⟩) | h  -- own
  · exact .inl (.inl (e _ _ h))
  · exact .inl (.inr ⟨o, e _ _ h⟩)  -- own
  · exact .inr h
theorem seqIt_l {K : PySem.W.Frag} {a : Addr} {xs : List V} {H : Hp} (h : SqL K H a xs) : SeqIt (Itl K a) xs H where
  go := fun i H' s hi => ⟨xs, _, s.seqL h, List.getElem?_eq_getElem hi⟩
  stop := fun H' s => ⟨xs, s.seqL h, Nat.le_refl _⟩
  yld := fun i H' x H'' s y => ⟨y.1, y.2 xs (s.seqL h)⟩
theorem seqIt_t {K : PySem.W.Frag} {a : Addr} {xs : List V} {H : Hp} (h : SqT K H a xs) : SeqIt (Itt K a) xs H where
  go := fun i H' s hi => ⟨xs, _, s.seqT h, List.getElem?_eq_getElem hi⟩
  stop := fun H' s => ⟨xs, s.seqT h, Nat.le_refl _⟩
  yld := fun i H' x H'' s y => ⟨y.1, y.2 xs (s.seqT h)⟩
def sgnV (c : Nat) : V := .str ⟨#[c]⟩
theorem seqIt_s {z : Str} {H : Hp} : SeqIt (Its z) ((cd z).map sgnV) H where
  go := fun i H' s hi => by
    have : (cd z).length = z.cps.size := by simp
    rw [List.length_map, this] at hi; exact hi
  stop := fun H' s => by
    have : (cd z).length = z.cps.size := by simp
    rw [List.length_map, this]; exact Nat.le_refl _
  yld := fun i H' x H'' s y => by
    obtain ⟨rfl, c, hc, rfl⟩ := y
    exact ⟨rfl, by rw [List.getElem?_map, cps_at hc]; rfl⟩
theorem SeqIt.mono {J : It} {xs : List V} {H H1 : Hp} (a : SeqIt J xs H) (s : Same H H1) : SeqIt J xs H1 :=
  ⟨fun i H' t hi => a.go i H' (s.trans t) hi, fun H' t => a.stop H' (s.trans t), fun i H' x H'' t y => a.yld i H' x H'' (s.trans t) y⟩
/-- one y for each x, all else as it was -/
theorem comp_same {J : It} {g : TG} {te : TE} {vs : List Nat} {σ : L2.St} {H1 : Hp} {D : Addr} {Z : Hp → Prop} {xs : List V} (SI : SeqIt J xs H1) (hD : H1 D = none) (ys : List V) (hl : ys.length = xs.length) (hs : xs.length < sizeLine)
    (turn : ∀ (i : Nat) (x : V) (H : Hp) (N : V → Hp → Prop), xs[i]? = some x → Same H1 H → (∀ y H4, ys[i]? = some y → Same H H4 → N y H4) → g x (wipe σ vs) H fun σ2 H2 => wipe σ2 vs = wipe σ vs ∧ te σ2 H2 N)
    (fin : ∀ H, Same H1 H → H D = some (.lst ys) → Z H) : CompQ J g tYes te vs σ H1 D Z := by
  refine comp_of xs.length (fun i H => Same H1 H ∧ H D = some (.lst (ys.take i))) ⟨(Same.refl H1).at hD _, by rw [upd_same]; rfl⟩ (fun i H hi w => SI.go i H w.1 hi) (fun H w => SI.stop H w.1) (fun i H x H' hi w y => ?_) (fun H w => ?_)
  · obtain ⟨rfl, hx⟩ := SI.yld i H x H' w.1 y
    exact turn i x H' _ hx w.1 fun y H4 hy s => ⟨_, s _ _ w.2, Nat.lt_of_le_of_lt (by rw [List.length_take]; omega) hs, (w.1.trans s).at hD _, by rw [upd_same, take_snoc hy]⟩
  · have : ys.take xs.length = ys := List.take_of_length_le (Nat.le_of_eq hl)
    rw [this] at w
    exact fin H w.1 w.2
/-- a list or a tuple walked -/
def iSeq (K : PySem.W.Frag) (tl : TE) : TI := fun σ H R => tl σ H fun x H1 => ∃ a xs, x = .ref a ∧ ((SqL K H1 a xs ∧ R (Itl K a) H1) ∨ (SqT K H1 a xs ∧ R (Itt K a) H1))
theorem pi_seq {X : Cx} {tg l : Expr} {tl : TE} (hl : PE X l tl) : PI X tg l (iSeq X.K tl) := by
  refine ⟨fun pins s σ H R I h => ?_⟩  -- own
  refine thn (hl.run pins s σ H _ I h) fun v s1 ⟨x, H1, I1, r1, q1⟩ => ?_  -- own
  obtain ⟨a, xs, e, q⟩ := q1
  subst e
  cases r1
  have low : ∀ b, b ∈ [s1.heap.objs.size] → b = s1.heap.objs.size := fun b hb => by simpa using hb
  rcases q with ⟨hq, q⟩ | ⟨hq, q⟩  -- own
  · obtain ⟨its, rv, p, hz⟩ := I1.list hq
    refine wpAny_pyIter_list p.isList ⟨s1.heap.objs.size, [s1.heap.objs.size], _, _, H1, rfl, I1.kept (t' := s1.toks) fun b o e => Heap.get?_push_of_some _ e, turn_list a _, ⟨_, Heap.get?_push_size _ rfl, rfl, rfl⟩, fun b hb => ?_, q⟩
    rw [low b hb]
    exact I1.fpOk (Nat.le_refl _) (I1.hok.fresh (Nat.le_refl _))  -- own
  · obtain ⟨its, rv, p, hz⟩ := I1.tuple hq
    refine wpAny_pyIter_tuple (show s1.heap.IsTuple a its.toArray from p) ⟨s1.heap.objs.size, [s1.heap.objs.size], _, _, H1, rfl, I1.kept (t' := s1.toks) fun b o e => Heap.get?_push_of_some _ e, turn_tuple a _, ⟨_, Heap.get?_push_size _ rfl, rfl, rfl⟩, fun b hb => ?_, q⟩
    rw [low b hb]
    exact I1.fpOk (Nat.le_refl _) (I1.hok.fresh (Nat.le_refl _))  -- own
theorem asSeq {X : Cx} {K : PySem.W.Frag} {e tg : Expr} {to : TE} (eK : X.K = K) (h : PI X tg e (iSeq X.K to)) : PI X tg e (iSeq K to) := eK ▸ h
section
variable {σ : L2.St} {H : Hp} {Q : VK} {K : PySem.W.Frag}
/-- of a variable -/
theorem r_lcV {i : Nat} {a : Addr} {xs : List V} {te' : TE} {g : TG} {tt : TT} {vs : List Nat} (hv : σ[i]? = some (some (.ref a))) (hs : SqL K H a xs ∨ SqT K H a xs) (k : ∀ J, SeqIt J xs H → ∀ E, H E = none → CompQ J g tt te' vs σ H E fun H => Q (.ref E) H) :
    tLc (iSeq K (tVar i)) g tt te' vs σ H Q := by
  exact ⟨.ref a, hv, a, xs, rfl, hs.elim (fun h => .inl ⟨h, fun E hE => k _ (seqIt_l h) E hE⟩) fun h => .inr ⟨h, fun E hE => k _ (seqIt_t h) E hE⟩⟩
theorem r_iteNT {A B : Prop} (h : B) : if (!true) = true then A else B := h
theorem r_iteNF {A B : Prop} (h : A) : if (!false) = true then A else B := h
theorem r_minL {te : TE} (k : te σ H fun x H1 => ∃ (a : Addr) (ls : List (List Nat)), x = .ref a ∧ SqL K H1 a (ls.map wV) ∧ 0 < ls.length ∧ (∀ l ∈ ls, l.length < 1000000) ∧ ∀ v, FM ls v → Q (.str (S v)) H1) : tMinLen K te σ H Q := k
theorem r_inLT {a z : Str} (c : Nat) (e : cd a = [c]) (k : Q (.bl (!decide (c ∈ cd z))) H) : rInA K true (.str a) (.str z) H Q := by
  obtain rfl : a = ⟨#[c]⟩ := by rw [str_eq, e]
  exact r_inST k
theorem r_inLF {a z : Str} (c : Nat) (e : cd a = [c]) (k : Q (.bl (decide (c ∈ cd z))) H) : rInA K false (.str a) (.str z) H Q := by
  obtain rfl : a = ⟨#[c]⟩ := by rw [str_eq, e]
  exact r_inSF k
end
/-! ### the first of the shortest is there -/
theorem FM_ex {xs : List (List Nat)} (h : 0 < xs.length) : ∃ v, FM xs v := by
  obtain ⟨b1, b2⟩ := argBest_first (fun i => (((xs[i]?.getD []).length : Nat) : Int)) (xs.length - 1)
  have hb : argBest (fun i j => decide ((((xs[i]?.getD []).length : Nat) : Int) < (((xs[j]?.getD []).length : Nat) : Int))) (xs.length - 1) < xs.length := by omega
  refine ⟨_, _, List.getElem?_eq_getElem hb, fun j w hj => ?_⟩
  have lj := (List.getElem?_eq_some_iff.mp hj).1
  have := b2 j (by omega)
  simp only [List.getElem?_eq_getElem hb, hj, Option.getD_some] at this
  exact ⟨by omega, fun q => by have := this.2 q; omega⟩
theorem ways_pos (l : List Nat) : 0 < (ways l).length := by simp only [ways, List.length_append, List.length_cons]; omega
theorem FMs.ex : ∀ ls : List (List Nat), ∃ us, FMs ls us
  | [] => ⟨_, .nil⟩
  | l :: ls => let ⟨_, h⟩ := FM_ex (ways_pos l); let ⟨_, r⟩ := FMs.ex ls; ⟨_, .cons h r⟩
theorem FMs.at : ∀ {ls us : List (List Nat)}, FMs ls us → ∀ {i : Nat} {l v : List Nat}, ls[i]? = some l → FM (M.ways l) v → us[i]? = some v
  | _, _, .cons h r, 0, l, v, e, hv => by
    cases (show some _ = some l from e)
    exact congrArg some (FM.uniq h hv)
  | _, _, .cons h r, i + 1, l, v, e, hv => r.at (i := i) e hv
/-- isinstance of a list or a tuple, by both classes -/
theorem r_isiLT {K : PySem.W.Frag} {H : Hp} {Q : VK} {a p : Addr} {xs : List V} (hs : H a = some (.lst xs) ∨ H a = some (.tup xs)) (hp : H p = some (.tup [V.ty "list", V.ty "tuple"])) (k : Q (.bl true) H) : rIsiT K [.ref a, .ref p] H Q := by
  rcases hs with h | h
  · exact ⟨_, p, _, _, _, true, rfl, hp, .cons (.ty _) (.cons (.ty _) .nil), .base (.lst h), rfl, k⟩
  · exact ⟨_, p, _, _, _, true, rfl, hp, .cons (.ty _) (.cons (.ty _) .nil), .base (.tup h), rfl, k⟩
theorem r_len2 {K : PySem.W.Frag} {H : Hp} {Q : VK} {a : Addr} {xs : List V} (hs : SqL K H a xs ∨ SqT K H a xs) (k : Q (.int (xs.length : Nat)) H) : rLen K [V.ref a] H Q := hs.elim (fun h => r_lenL h k) fun h => r_lenT h k
end J

/-! tuple targets, two stores at once, loops over a text's signs with their numbers -/
namespace J
open PySem PySem.Spec PyProof.Rows L2 M
theorem asGTup {X : Cx} {K : PySem.W.Frag} {tg : Expr} {n : Nat} {t : TGs} (eK : X.K = K) (h : PG X tg (gTup X.K n t)) : PG X tg (gTup K n t) := eK ▸ h
section
variable {σ : L2.St} {H : Hp} {Q : L2.St → Hp → Prop} {K : PySem.W.Frag}
theorem r_gtup {a : Addr} {xs : List V} {n : Nat} {t : TGs} (h : SqT K H a xs) (hn : xs.length = n) (k : t xs σ H Q) : gTup K n t (.ref a) σ H Q := ⟨a, xs, rfl, h, hn, k⟩
theorem r_gcons {v : V} {r : List V} {t : TG} {u : TGs} (k : t v σ H fun σ' H' => u r σ' H' Q) : gCons t u (v :: r) σ H Q := ⟨v, r, rfl, k⟩
theorem r_gnil (k : Q σ H) : gNil [] σ H Q := ⟨rfl, k⟩
theorem r_par {i j : Nat} {ta : TA} {n : L2.St → Hp → Prop} {rt : VK} {bk ct : L2.St → Hp → Prop} (k : ta σ H fun vs H1 => ∃ v w, vs = [v, w] ∧ n ((σ.set i (some v)).set j (some w)) H1) : tPar i j ta ⟨n, rt, bk, ct⟩ σ H := k
theorem r_is2 {v w : V} {P : V → V → Prop} (k : P v w) : ∃ v' w', [v, w] = [v', w'] ∧ P v' w' := ⟨v, w, rfl, k⟩
theorem r_par3 {i j l : Nat} {ta : TA} {n : L2.St → Hp → Prop} {rt : VK} {bk ct : L2.St → Hp → Prop} (k : ta σ H fun vs H1 => ∃ u v w, vs = [u, v, w] ∧ n (((σ.set i (some u)).set j (some v)).set l (some w)) H1) : tPar3 i j l ta ⟨n, rt, bk, ct⟩ σ H := k
theorem r_is3 {u v w : V} {P : V → V → V → Prop} (k : P u v w) : ∃ u' v' w', [u, v, w] = [u', v', w'] ∧ P u' v' w' := ⟨u, v, w, rfl, k⟩
/-- for i, c in enumerate(text): an invariant over the number of signs walked -/
theorem r_forEnum {z : Str} {i : Nat} {g : TG} {tb : TS} {n : L2.St → Hp → Prop} {rt : VK} {bk ct : L2.St → Hp → Prop} (hv : σ[i]? = some (some (.str z))) (I : Nat → L2.St → Hp → Prop) (start : I 0 σ H)
    (turn : ∀ (j : Nat) σ1 H1 (T : Addr) (c : Nat), (cd z)[j]? = some c → I j σ1 H1 → H1 T = none → g (.ref T) σ1 (upd H1 T (.tup [.int (j : Nat), .str ⟨#[c]⟩])) fun σ2 H2 => tb ⟨I (j + 1), rt, n, I (j + 1)⟩ σ2 H2)
    (fin : ∀ σ1 H1, I (cd z).length σ1 H1 → n σ1 H1) : tFor (iEnumS (tCons (tVar i) tNil)) g tb ⟨n, rt, bk, ct⟩ σ H := by
  have e : (cd z).length = z.cps.size := by simp
  refine ⟨.str z, hv, z, rfl, ?_⟩
  exact loop_of (D := ⟨n, rt, bk, ct⟩) z.cps.size I start (fun j _ _ hj _ => hj) (fun _ _ _ => rfl) (fun j σ1 H1 x H' hj w y => by
    obtain ⟨T, c, rfl, hT, rfl, hc⟩ := y
    exact turn j σ1 H1 T c (cps_at hc) w hT) (fun σ1 H1 w => fin σ1 H1 (by rw [e]; exact w))
end
end J

/-! single signs and quotes compared -/
namespace J
open PySem PySem.Spec PyProof.Rows L2 M
def qS (q : Nat) : Str := if q = 0 then S [] else S [q]
theorem one_eq {b : Str} {c d : Nat} (h : cd b = [d]) : (⟨#[c]⟩ : Str) = b ↔ c = d := by
  rw [str_eq, h]; show [c] = [d] ↔ _; simp
theorem qS_cd (q : Nat) : cd (qS q) = if q = 0 then [] else [q] := by unfold qS; split <;> exact cd_S _
theorem one_nl {c : Nat} : (⟨#[c]⟩ : Str) = Str.ofString "\n" ↔ c = 10 := one_eq l_nl
theorem one_bs {c : Nat} : (⟨#[c]⟩ : Str) = Str.ofString "\\" ↔ c = 92 := one_eq l_bs
theorem one_q1 {c : Nat} : (⟨#[c]⟩ : Str) = Str.ofString "'" ↔ c = 39 := one_eq l_q1
theorem one_q2 {c : Nat} : (⟨#[c]⟩ : Str) = Str.ofString "\"" ↔ c = 34 := one_eq l_q2
theorem qS_nil {q : Nat} : qS q = Str.ofString "" ↔ q = 0 := by
  rw [str_eq, qS_cd, show cd (Str.ofString "") = [] from l_nil]; split <;> simp_all
theorem qS_q1 {q : Nat} : qS q = Str.ofString "'" ↔ q = 39 := by
  rw [str_eq, qS_cd, show cd (Str.ofString "'") = [39] from l_q1]; split <;> simp_all
theorem one_qS {c q : Nat} : (⟨#[c]⟩ : Str) = qS q ↔ c = q ∧ q ≠ 0 := by
  rw [str_eq, qS_cd]; show [c] = _ ↔ _; split <;> simp_all
theorem mem_part {c : Nat} : c ∈ (Str.ofString " \n").cps.toList ↔ c = 32 ∨ c = 10 := by rw [l_part]; simp
theorem mem_qs {c : Nat} : c ∈ (Str.ofString "'\"").cps.toList ↔ c = 39 ∨ c = 34 := by rw [l_qs]; simp
theorem mem_all {c : Nat} : c ∈ (Str.ofString " \n'\"\\").cps.toList ↔ c = 32 ∨ c = 10 ∨ c = 39 ∨ c = 34 ∨ c = 92 := by rw [l_all]; simp
theorem iteDT {p : Prop} {i : Decidable p} {A B : Prop} (h : p) (k : A) : if decide p = true then A else B := by rw [if_pos (decide_eq_true h)]; exact k
theorem iteDF {p : Prop} {i : Decidable p} {A B : Prop} (h : ¬ p) (k : B) : if decide p = true then A else B := by rw [if_neg (by rw [decide_eq_false h]; exact Bool.false_ne_true)]; exact k
theorem iteNT {p : Prop} {i : Decidable p} {A B : Prop} (h : ¬ p) (k : A) : if (!decide p) = true then A else B := by rw [if_pos (by rw [decide_eq_false h]; rfl)]; exact k
theorem iteNF {p : Prop} {i : Decidable p} {A B : Prop} (h : p) (k : B) : if (!decide p) = true then A else B := by rw [if_neg (by rw [decide_eq_true h]; exact Bool.false_ne_true)]; exact k
section
variable {σ : L2.St} {H : Hp} {Q : VK} {K : PySem.W.Frag}
theorem r_inQ {a : Addr} {c : Nat} (h : SqT K H a [.str "'", .str "\""]) (k : Q (.bl (decide (c = 39 ∨ c = 34))) H) : rInA K false (.str ⟨#[c]⟩) (.ref a) H Q := by
  refine .inr ⟨a, _, rfl, .inr h, rfl, rfl, ?_⟩
  have e : inV (V.str ⟨#[c]⟩) [.str "'", .str "\""] = decide (c = 39 ∨ c = 34) := by
    unfold inV
    simp only [List.any_cons, List.any_nil, Bool.or_false]
    have e1 : eqV (V.str (Str.ofString "'")) (V.str ⟨#[c]⟩) = decide (c = 39) := by
      show decide (Str.ofString "'" = ⟨#[c]⟩) = _
      exact decide_eq_decide.mpr (eq_comm.trans one_q1)
    have e2 : eqV (V.str (Str.ofString "\"")) (V.str ⟨#[c]⟩) = decide (c = 34) := by
      show decide (Str.ofString "\"" = ⟨#[c]⟩) = _
      exact decide_eq_decide.mpr (eq_comm.trans one_q2)
    rw [e1, e2]
    exact (Bool.decide_or _ _).symm
  rw [e]
  exact k
end
theorem scan_inv {st : Sc → Nat → Nat → Except Nat Sc} (Pr : Sc → Prop) (h : ∀ s i c t, Pr s → st s i c = .ok t → Pr t) : ∀ (l : List Nat) (i : Nat) (s t : Sc), Pr s → scan st i s l = .ok t → Pr t
  | [], _, s, t, p, e => by cases e; exact p
  | c :: l, i, s, t, p, e => by
    unfold M.scan at e
    cases hs : st s i c with
    | error x => rw [hs] at e; cases e
    | ok u => rw [hs] at e; exact scan_inv Pr h l (i + 1) u t (h s i c u p hs) e
theorem stP_bg {s t : Sc} {i c : Nat} (p : (s.bg.getD []).length ≤ 40) (e : stP s i c = .ok t) : (t.bg.getD []).length ≤ 40 := by
  unfold stP at e
  repeat' split at e
  all_goals first
    | cases e; done
    | (cases e; first | exact p | (simp only [Option.getD_some]; omega) | (simp only [Option.getD_some]; exact p) | exact Nat.zero_le _)
theorem scan_bg {l : List Nat} {t : Sc} (h : scan stP 0 sc0 l = .ok t) : (t.bg.getD []).length ≤ 40 := scan_inv (fun s => (s.bg.getD []).length ≤ 40) (fun _ _ _ _ p e => stP_bg p e) l 0 sc0 t (Nat.zero_le _) h
end J

/-! ranges; texts of drawn signs; the law's states -/
namespace J
open PySem PySem.Spec PyProof.Rows L2 M
theorem Keep.at {b D : Addr} {H H' : Hp} (k : Keep b H H') (n : H D = none) (o : HO) : Keep b H (L2.upd H' D o) := fun q u hq ne => by rw [upd_ne (ne_of_none hq n)]; exact k q u hq ne
theorem Bx.at {b D : Addr} {H : Hp} {n : Nat} (h : Bx H b n) (ne : D ≠ b) (o : HO) : Bx (upd H D o) b n := by
  obtain ⟨x, y, z, e, r⟩ := h
  exact ⟨x, y, z, by rw [upd_ne ne.symm]; exact e, r⟩
theorem Bx.ne {b p : Addr} {H : Hp} {n : Nat} (h : Bx H b n) (hp : H p = none) : p ≠ b := by
  obtain ⟨_, _, _, e, _⟩ := h
  exact new_ne hp e
section
variable {σ : L2.St} {H : Hp} {Q : VK} {K : PySem.W.Frag}
theorem r_lcR {i q : Nat} {te' : TE} {g : TG} {tt : TT} {vs : List Nat} (hv : σ[i]? = some (some (.int (q : Nat)))) (hq : q < 2 ^ 62) (k : ∀ E, H E = none → CompQ (Itr 0 q) g tt te' vs σ H E fun H => Q (.ref E) H) : tLc (iRng1 (tCons (tVar i) tNil)) g tt te' vs σ H Q := by
  refine ⟨_, hv, q, rfl, by omega, by omega, ?_⟩
  rw [Int.toNat_natCast]
  exact k
theorem r_forR {n' : L2.St → Hp → Prop} {rt : VK} {bk ct : L2.St → Hp → Prop} {q : Nat} {g : TG} {tb : TS} (hq : q < 2 ^ 62) (I : Nat → L2.St → Hp → Prop) (start : I 0 σ H)
    (turn : ∀ (j : Nat) σ1 H1, j < q → I j σ1 H1 → g (.int (j : Nat)) σ1 H1 fun σ2 H2 => tb ⟨I (j + 1), rt, n', I (j + 1)⟩ σ2 H2)
    (fin : ∀ σ1 H1, I q σ1 H1 → n' σ1 H1) : tFor (iRng1 (tCons (tC (.int (q : Nat))) tNil)) g tb ⟨n', rt, bk, ct⟩ σ H := by
  refine ⟨q, rfl, by omega, by omega, ?_⟩
  rw [Int.toNat_natCast]
  exact loop_of (D := ⟨n', rt, bk, ct⟩) q I start (fun j _ _ hj _ => hj) (fun _ _ _ => Nat.le_refl _) (fun j σ1 H1 x H' hj w y => by
    obtain ⟨rfl, rfl⟩ := y
    have e : (0 + (j : Nat) : Int) = (j : Nat) := by omega
    rw [e]
    exact turn j σ1 H' hj w) fin
theorem map_sgn (l : List Nat) : l.map sgnV = (l.map fun c => [c]).map wV := by rw [List.map_map]; rfl
theorem flat_one (l : List Nat) : (l.map fun c => [c]).flatten = l := by
  induction l with
  | nil => rfl
  | cons c l ih => rw [List.map_cons, List.flatten_cons, ih]; rfl
/-- signs joined by nothing -/
theorem r_joinC {p : Addr} {l : List Nat} (h : H p = some (.lst (l.map sgnV))) (hl : l.length ≤ 1000000) (k : Q (.str (S l)) H) : rJoin K (.str (Str.ofString "")) [.ref p] H Q := by
  refine r_join (ls := l.map fun c => [c]) (SqL.of (by rw [← map_sgn]; exact h)) 1 (fun v hv => ?_) ?_ ?_
  · obtain ⟨c, _, rfl⟩ := List.mem_map.mp hv
    exact Nat.le_refl _
  · have : (Str.ofString "").length = 0 := rfl
    rw [List.length_map, this]; omega
  · rw [_root_.J.join_nil, flat_one]
    exact k
end
end J

/-! lists of words compared; comprehensions that leave out -/
namespace J
open PySem PySem.Spec PyProof.Rows L2 M
/-- what is left, each x by f -/
theorem comp_filt {J : It} {g : TG} {tt : TT} {te : TE} {vs : List Nat} {σ : L2.St} {H1 : Hp} {D : Addr} {Z : Hp → Prop} {xs : List V} (SI : SeqIt J xs H1) (hD : H1 D = none) (f : V → Option V) (hs : xs.length < sizeLine)
    (turn : ∀ (i : Nat) (x : V) (H : Hp) (N : V → Hp → Prop) (N0 : Hp → Prop), xs[i]? = some x → Same H1 H → (∀ y H4, f x = some y → Same H H4 → N y H4) → (∀ H4, f x = none → Same H H4 → N0 H4) →
      g x (wipe σ vs) H fun σ2 H2 => wipe σ2 vs = wipe σ vs ∧ tt σ2 H2 fun b H3 => if b = true then te σ2 H3 N else N0 H3)
    (fin : ∀ H, Same H1 H → H D = some (.lst (xs.filterMap f)) → Z H) : CompQ J g tt te vs σ H1 D Z := by
  refine comp_of xs.length (fun i H => Same H1 H ∧ H D = some (.lst ((xs.take i).filterMap f))) ⟨(Same.refl H1).at hD _, by rw [upd_same]; rfl⟩ (fun i H hi w => SI.go i H w.1 hi) (fun H w => SI.stop H w.1) (fun i H x H' hi w y => ?_) (fun H w => ?_)
  · obtain ⟨rfl, hx⟩ := SI.yld i H x H' w.1 y
    refine turn i x H' _ _ hx w.1 (fun y H4 hy s => ⟨_, s _ _ w.2, ?_, (w.1.trans s).at hD _, ?_⟩) fun H4 hn s => ⟨w.1.trans s, ?_⟩
    · exact Nat.lt_of_le_of_lt (Nat.le_trans (List.length_filterMap_le ..) (by rw [List.length_take]; omega)) hs
    · rw [upd_same, take_snoc hx, List.filterMap_append]; simp [hy]
    · rw [s _ _ w.2, take_snoc hx, List.filterMap_append]; simp [hn]
  · have : xs.take xs.length = xs := List.take_of_length_le (Nat.le_refl _)
    rw [this] at w
    exact fin H w.1 w.2
def dW (l : List Nat) : PyData := .str (S l)
def dWs (ls : List (List Nat)) : PyData := .list (ls.map dW)
theorem dp_all {K : PySem.W.Frag} {H : Hp} : ∀ ls : List (List Nat), DpAll K H (ls.map wV) (ls.map dW)
  | [] => .nil
  | l :: ls => .cons (.str _) (dp_all ls)
theorem dp_ws {K : PySem.W.Frag} {H : Hp} {a : Addr} {ls : List (List Nat)} (h : SqL K H a (ls.map wV)) : Dp K H (.ref a) (dWs ls) := .lst h (dp_all ls)
theorem can_w {l : List Nat} (h : ∀ c ∈ l, c ≤ 126) : PyData.canLay0 (dW l) = true := by
  show (S l).cps.all _ = true
  rw [Array.all_eq_true']
  intro x hx
  have : x ∈ l := by rw [← S_cps l]; exact Array.mem_toList_iff.mpr hx
  have := h x this
  simp; omega
theorem can_ws : ∀ {ls : List (List Nat)}, (∀ l ∈ ls, ∀ c ∈ l, c ≤ 126) → PyData.canLayAll0 (ls.map dW) = true
  | [], _ => rfl
  | l :: ls, h => by
    show (PyData.canLay0 (dW l) && PyData.canLayAll0 (ls.map dW)) = true
    rw [can_w (h l (List.mem_cons_self ..)), can_ws fun m hm => h m (List.mem_cons_of_mem _ hm)]; rfl
theorem dep_ws : ∀ ls : List (List Nat), PyData.depthAll (ls.map dW) = 0
  | [] => rfl
  | l :: ls => by
    show max 0 (PyData.depthAll (ls.map dW)) = 0
    rw [dep_ws ls]; rfl
theorem sh_ws {ls : List (List Nat)} (h : ∀ l ∈ ls, ∀ c ∈ l, c ≤ 126) : SeqAt.shaped (dWs ls) = true := by
  show (PyData.canLayAll0 (ls.map dW) && decide (PyData.depthAll (ls.map dW) + 1 ≤ 64)) = true
  rw [can_ws h, dep_ws]; rfl
/-- ['told', words] -/
theorem sh_two {t : Str} {ls : List (List Nat)} (ht : ∀ c ∈ cd t, c ≤ 126) (h : ∀ l ∈ ls, ∀ c ∈ l, c ≤ 126) : SeqAt.shaped (.list [.str t, dWs ls]) = true := by
  have e : PyData.canLay0 (.str t) = true := by
    have := can_w ht
    rwa [show dW (cd t) = .str t from congrArg PyData.str (S_of t)] at this
  show (PyData.canLay0 (.str t) && (PyData.canLayAll0 (ls.map dW) && true) && decide (max 0 (max (PyData.depthAll (ls.map dW) + 1) 0) + 1 ≤ 64)) = true
  rw [e, can_ws h, dep_ws]; rfl
theorem wd126 {ls : List (List Nat)} (h : ∀ l ∈ ls, Wd l) : ∀ l ∈ ls, ∀ c ∈ l, c ≤ 126 := fun l hl c hc => ((h l hl).2 c hc).2
section
variable {H : Hp} {Q : VK} {K : PySem.W.Frag}
/-- two lists of the same words -/
theorem r_neWs {a b : Addr} {ls : List (List Nat)} (ha : SqL K H a (ls.map wV)) (hb : SqL K H b (ls.map wV)) (h : ∀ l ∈ ls, ∀ c ∈ l, c ≤ 126) (k : Q (.bl false) H) : rNeA K (.ref a) (.ref b) H Q := by
  refine .inr ⟨dWs ls, dWs ls, dp_ws ha, dp_ws hb, sh_ws h, sh_ws h, ?_⟩
  rw [SeqAt.eqv_refl _ (SeqAt.canLay_of_shaped (sh_ws h))]
  exact k
theorem r_neTwo {a b a1 b1 : Addr} {t : Str} {ls : List (List Nat)} (ha : SqL K H a [.str t, .ref a1]) (ha1 : SqL K H a1 (ls.map wV)) (hb : SqL K H b [.str t, .ref b1]) (hb1 : SqL K H b1 (ls.map wV)) (ht : ∀ c ∈ cd t, c ≤ 126) (h : ∀ l ∈ ls, ∀ c ∈ l, c ≤ 126) (k : Q (.bl false) H) : rNeA K (.ref a) (.ref b) H Q := by
  refine .inr ⟨.list [.str t, dWs ls], .list [.str t, dWs ls], .lst ha (.cons (.str _) (.cons (dp_ws ha1) .nil)), .lst hb (.cons (.str _) (.cons (dp_ws hb1) .nil)), sh_two ht h, sh_two ht h, ?_⟩
  rw [SeqAt.eqv_refl _ (SeqAt.canLay_of_shaped (sh_two ht h))]
  exact k
/-- a list of words and the empty one -/
theorem r_eqNil {a b : Addr} {ls : List (List Nat)} (ha : SqL K H a (ls.map wV)) (hb : SqL K H b []) (h : ∀ l ∈ ls, ∀ c ∈ l, c ≤ 126) (k : Q (.bl (decide (ls = []))) H) : rEqA K (.ref a) (.ref b) H Q := by
  refine .inr ⟨dWs ls, dWs [], dp_ws ha, dp_ws hb, sh_ws h, sh_ws (fun _ h => (List.not_mem_nil h).elim), ?_⟩
  have e : PyData.eqv (dWs ls) (dWs []) = decide (ls = []) := by cases ls <;> rfl
  rw [e]
  exact k
end
theorem mul_0 {z : Str} : MulOk z 0 ∧ Txt.mul z 0 = Str.ofString "" := ⟨⟨by decide, fun h => absurd (by decide) h, fun h => absurd (by decide) h⟩, rfl⟩
theorem mul_1 {z : Str} : MulOk z 1 ∧ Txt.mul z 1 = z := ⟨⟨by decide, fun _ h => by simp at h, fun _ h => by simp at h⟩, rfl⟩
section
variable {σ : L2.St} {H : Hp} {Q : VK} {K : PySem.W.Frag}
theorem r_lcLV {i : Nat} {a : Addr} {xs : List V} {te' : TE} {g : TG} {tt : TT} {vs : List Nat} (hv : σ[i]? = some (some (.ref a))) (h : SqL K H a xs) (k : ∀ E, H E = none → CompQ (Itl K a) g tt te' vs σ H E fun H => Q (.ref E) H) :
    tLc (iList K (tVar i)) g tt te' vs σ H Q := ⟨.ref a, hv, a, rfl, ⟨xs, h⟩, k⟩
end
/-- the first of the length that is the least -/
theorem FM_first (m : Nat) : ∀ xs : List (List Nat), (∃ x ∈ xs, x.length = m) → (∀ x ∈ xs, m ≤ x.length) → ∃ v, (xs.filter fun x => decide (x.length = m))[0]? = some v ∧ v.length = m ∧ FM xs v
  | [], ⟨x, h, _⟩, _ => (List.not_mem_nil h).elim
  | x :: r, ⟨y, hy, ey⟩, h => by
    by_cases c : x.length = m
    · refine ⟨x, by rw [List.filter_cons_of_pos (by simp [c])]; rfl, c, 0, rfl, fun j w hw => ⟨by rw [c]; exact h w (List.mem_of_getElem? hw), fun q => absurd q (Nat.not_lt_zero _)⟩⟩
    · obtain ⟨v, h1, h2, i, hi, hm⟩ := FM_first m r ⟨y, (List.mem_cons.mp hy).resolve_left fun e => c (by rw [← e]; exact ey), ey⟩ fun z hz => h z (List.mem_cons_of_mem _ hz)
      have hx := h x (List.mem_cons_self ..)
      refine ⟨v, by rw [List.filter_cons_of_neg (by simp [c])]; exact h1, h2, i + 1, hi, fun j w hw => ?_⟩
      cases j with
      | zero =>
        cases (show some x = some w from hw)
        exact ⟨by omega, fun _ => by omega⟩  -- own
      | succ j =>
        obtain ⟨a, b⟩ := hm j w hw
        exact ⟨a, fun q => b (by omega)⟩
def kpS (need : List Nat) (v : V) : Option V := if v ∈ need.map sgnV then some v else none
def kpL (m : Nat) : V → Option V
  | .str z => if z.length = m then some (.str z) else none
  | _ => none
theorem mem_sgn {need : List Nat} {c : Nat} : sgnV c ∈ need.map sgnV ↔ c ∈ need := by
  rw [List.mem_map]
  exact ⟨fun ⟨d, hd, q⟩ => by
    have : d = c := by simpa [sgnV] using q
    rw [← this]; exact hd, fun h => ⟨c, h, rfl⟩⟩
theorem kpS_pos {need : List Nat} {c : Nat} (h : c ∈ need) : kpS need (.str ⟨#[c]⟩) = some (.str ⟨#[c]⟩) := if_pos (mem_sgn.mpr h)
theorem kpS_neg {need : List Nat} {c : Nat} (h : c ∉ need) : kpS need (.str ⟨#[c]⟩) = none := if_neg fun q => h (mem_sgn.mp q)
theorem filt_sgn (need : List Nat) : ∀ l : List Nat, (l.map sgnV).filterMap (kpS need) = (l.filter fun c => decide (c ∈ need)).map sgnV
  | [] => rfl
  | c :: l => by
    rw [List.map_cons, List.filterMap_cons, filt_sgn need l]
    by_cases q : c ∈ need
    · rw [show kpS need (sgnV c) = some (sgnV c) from kpS_pos q, List.filter_cons_of_pos (by simp [q])]; rfl
    · rw [show kpS need (sgnV c) = none from kpS_neg q, List.filter_cons_of_neg (by simp [q])]
theorem kpL_pos {m : Nat} {l : List Nat} (h : l.length = m) : kpL m (.str (S l)) = some (.str (S l)) := if_pos (by rw [S_len]; exact h)
theorem kpL_neg {m : Nat} {l : List Nat} (h : l.length ≠ m) : kpL m (.str (S l)) = none := if_neg (by rw [S_len]; exact h)
theorem filt_len (m : Nat) : ∀ ls : List (List Nat), (ls.map wV).filterMap (kpL m) = (ls.filter fun x => decide (x.length = m)).map wV
  | [] => rfl
  | l :: ls => by
    have e : kpL m (wV l) = if l.length = m then some (wV l) else none := by
      show (if (S l).length = m then some (wV l) else none) = _
      rw [S_len]
    rw [List.map_cons, List.filterMap_cons, filt_len m ls, e]
    by_cases q : l.length = m
    · rw [if_pos q, List.filter_cons_of_pos (by simp [q])]; rfl
    · rw [if_neg q, List.filter_cons_of_neg (by simp [q])]
/-- what the law lays ahead -/
def plainW (l : List Nat) : List (List Nat) := if l ≠ [] ∧ (l.filter fun c => decide (c ∈ N1)) = [] then [l] else []
theorem FM_plain {l v : List Nat} (h : FM (plainW l ++ ways l) v) : FM (ways l) v := by
  unfold plainW at h
  split at h
  · rename_i c
    refine FM.cons ?_ h
    have : esc N1 l = l := esc_none fun d hd hn => by
      have : d ∈ l.filter fun c => decide (c ∈ N1) := List.mem_filter.mpr ⟨hd, by simp [hn]⟩
      rw [c.2] at this
      exact List.not_mem_nil this
    unfold ways
    rw [if_neg c.1, this]; rfl
  · exact h
end J

/-! small dicts; tests whose outcome is known; the law's state -/
namespace J
open PySem PySem.Spec PyProof.Rows L2 M
def stD (wd : Addr) (t : Sc) : List (Key × V) := [(.inr "bad", .non), (.inr "words", .ref wd), (.inr "begun", obV t.bg), (.inr "quote", .str (qS t.qt)), (.inr "opened", .int (t.op : Nat))]
theorem merge_st (wd : Addr) (t : Sc) : mergeK [] (stD wd t) = stD wd t := by
  unfold stD mergeK
  simp only [List.foldl_cons, List.foldl_nil]
  rfl
theorem get_bad (wd : Addr) (t : Sc) : valV (stD wd t) (.inr "bad") = some .non := rfl
theorem get_words (wd : Addr) (t : Sc) : valV (stD wd t) (.inr "words") = some (.ref wd) := rfl
theorem get_begun (wd : Addr) (t : Sc) : valV (stD wd t) (.inr "begun") = some (obV t.bg) := rfl
theorem get_quote (wd : Addr) (t : Sc) : valV (stD wd t) (.inr "quote") = some (.str (qS t.qt)) := rfl
/-- the law's looks at a line that can be cut -/
def spState : Sp := fun vs H Q _ => ∃ (z : Str) (t : Sc), vs = [.str z] ∧ Ln (cd z) ∧ M.scan stL 0 sc0 (cd z) = .ok t ∧ t.tk = false ∧ t.ws.length ≤ 2000 ∧
  ∀ (p wd : Addr) (H' : Hp), H p = none → Same H H' → H' p = some (.dK (stD wd t)) → H' wd = some (.lst (t.ws.map wV)) → Q (.ref p) H'
def spDue : Sp := fun vs H Q _ => ∃ (z : Str) (t : Sc), vs = [.str z] ∧ Ln (cd z) ∧ M.scan stL 0 sc0 (cd z) = .ok t ∧ t.tk = false ∧ t.qt = 0 ∧ (fin t).length ≤ 40 ∧
  ∀ (p wd : Addr) (H' : Hp), Same H H' → H' p = some (.lst [.str "told", .ref wd]) → H' wd = some (.lst ((fin t).map wV)) → Q (.ref p) H'
section
variable {σ : L2.St} {H : Hp} {Q : VK} {K : PySem.W.Frag} {D : Ends}
theorem r_ifK {c : TT} {t u : TS} (b : Bool) (h : ∀ N : Bool → Hp → Prop, N b H → c σ H N) (k1 : b = true → t D σ H) (k2 : b = false → u D σ H) : tIfS c t u D σ H := h _ (by
  cases b
  · exact k2 rfl
  · exact k1 rfl)
theorem r_pairs {tk tv : TE} {r : List (TE × TE)} {Q : List (V × V) → Hp → Prop} (k : tk σ H fun x H1 => tv σ H1 fun y H2 => tPairs r σ H2 fun ps H3 => Q ((x, y) :: ps) H3) : tPairs ((tk, tv) :: r) σ H Q := k
theorem r_pairs0 {Q : List (V × V) → Hp → Prop} (k : Q [] H) : tPairs [] σ H Q := k
theorem r_dget {td ty : TE} (k : td σ H fun x H1 => ty σ H1 fun y H2 => ∃ a v, x = .ref a ∧ DGet H2 a y (some v) ∧ Q v H2) : tDGet td ty σ H Q := k
theorem r_dgetK {p : Addr} {kvs : List (Key × V)} {k : Str} {v : V} {Q : V → Prop} (h : H p = some (.dK kvs)) (e : valV kvs (.inr k) = some v) (q : Q v) : ∃ a v', V.ref p = .ref a ∧ DGet H a (.str k) (some v') ∧ Q v' := ⟨p, v, rfl, .inl ⟨kvs, .inr k, .inl h, rfl, e.symm⟩, q⟩
theorem r_rep {l : Addr} {xs : List V} {b : Bool} (h : H l = some (.lst xs)) (hx : xs.length ≤ 1000) (k : ∀ p, H p = none → Q (.ref p) (upd H p (.lst (if b = true then xs else [])))) : J.rMul (.ref l) (.int (if b = true then 1 else 0)) H Q := by
  refine .inr (.inr ⟨l, _, xs, rfl, rfl, h, ?_, ?_, ?_, fun p hp => ?_⟩)
  · cases b <;> decide
  · cases b <;> decide
  · cases b
    · exact Nat.zero_le _
    · exact Nat.le_trans (show xs.length * 1 ≤ 1000 by omega) (by decide)
  · have := k p hp
    cases b
    · exact this
    · simpa using this
theorem r_cat {l m : Addr} {xs ys : List V} (h : H l = some (.lst xs)) (g : H m = some (.lst ys)) (hx : xs.length + ys.length ≤ 16777216) (k : ∀ p, H p = none → Q (.ref p) (upd H p (.lst (xs ++ ys)))) : J.rAdd K (.ref l) (.ref m) H Q := .inr (.inr (.inl ⟨l, m, xs, ys, rfl, rfl, h, g, hx, k⟩))
end
theorem stL_bg {s t : Sc} {i c : Nat} (p : (s.bg.getD []).length ≤ 40) (e : stL s i c = .ok t) : (t.bg.getD []).length ≤ 40 := by
  unfold stL at e
  repeat' split at e
  all_goals first
    | cases e; done
    | (cases e; first | exact p | (simp only [Option.getD_some]; omega) | (simp only [Option.getD_some]; exact p) | exact Nat.zero_le _)
theorem scanL_bg {l : List Nat} {t : Sc} (h : M.scan stL 0 sc0 l = .ok t) : (t.bg.getD []).length ≤ 40 := scan_inv (fun s => (s.bg.getD []).length ≤ 40) (fun _ _ _ _ p e => stL_bg p e) l 0 sc0 t (Nat.zero_le _) h
end J

/-! loops over lists; small repeated texts; lines that are cut to what was quoted -/
namespace J
open PySem PySem.Spec PyProof.Rows L2 M
theorem _root_.L2.Same.keep {b : Addr} {H0 H1 H2 : Hp} (s : Same H0 H1) (n : H0 b = none) (k : Keep b H1 H2) : Same H0 H2 := fun a o h => k a o (s a o h) (ne_of_none h n)
theorem _root_.L2.Same.none {H0 H1 : Hp} {b : Addr} (s : Same H0 H1) (n : H1 b = none) : H0 b = none := by
  cases q : H0 b with
  | none => rfl
  | some o => rw [s _ _ q] at n; cases n
section
variable {σ : L2.St} {H : Hp} {Q : VK} {K : PySem.W.Frag} {D : Ends}
theorem r_for {wi : TI} {g : TG} {tb : TS} (k : wi σ H fun J H1 => LoopQ J g tb D σ H1) : tFor wi g tb D σ H := k
theorem r_ilist {te : TE} {R : It → Hp → Prop} (k : te σ H fun x H1 => ∃ a, x = .ref a ∧ (∃ xs, SqL K H1 a xs) ∧ R (Itl K a) H1) : iList K te σ H R := k
theorem r_isRL {a : Addr} {xs : List V} {H : Hp} {P : Addr → Prop} (h : SqL K H a xs) (k : P a) : ∃ b, V.ref a = .ref b ∧ (∃ xs, SqL K H b xs) ∧ P b := ⟨a, rfl, ⟨xs, h⟩, k⟩
theorem loop_seq {J : It} {g : TG} {tb : TS} {n' : L2.St → Hp → Prop} {rt : VK} {bk ct : L2.St → Hp → Prop} {xs : List V} {H0 : Hp} (SI : SeqIt J xs H0) (I : Nat → L2.St → Hp → Prop) (keep : ∀ i σ H, I i σ H → Same H0 H) (start : I 0 σ H)
    (turn : ∀ (i : Nat) (x : V) σ1 H1, xs[i]? = some x → I i σ1 H1 → g x σ1 H1 fun σ2 H2 => tb ⟨I (i + 1), rt, n', I (i + 1)⟩ σ2 H2)
    (fin : ∀ σ1 H1, I xs.length σ1 H1 → n' σ1 H1) : LoopQ J g tb ⟨n', rt, bk, ct⟩ σ H :=
  loop_of (D := ⟨n', rt, bk, ct⟩) xs.length I start (fun i σ H hi w => SI.go i H (keep i σ H w) hi) (fun σ H w => SI.stop H (keep _ σ H w)) (fun i σ1 H1 x H' hi w y => by
    obtain ⟨rfl, hx⟩ := SI.yld i H1 x H' (keep i σ1 H1 w) y
    exact turn i x σ1 H' hx w) fin
end
theorem mul_rep (z : Str) (c : Nat) (h : cd z = [c]) (h0 : z.length = 1) (k : Int) (a : 0 ≤ k) (b : k < 4) : MulOk z k ∧ Txt.mul z k = S (List.replicate k.toNat c) := by
  have hz : z = S [c] := by rw [str_eq, h, cd_S]
  rcases (show k = 0 ∨ k = 1 ∨ k = 2 ∨ k = 3 by omega) with rfl | rfl | rfl | rfl
  · exact ⟨mul_0.1, mul_0.2.trans (by rw [str_eq, cd_S]; exact l_nil)⟩
  · exact ⟨mul_1.1, mul_1.2.trans hz⟩
  · refine ⟨⟨by decide, fun _ _ => by rw [h0]; decide, fun _ _ => by rw [h0]; decide⟩, ?_⟩
    subst hz; rfl
  · refine ⟨⟨by decide, fun _ _ => by rw [h0]; decide, fun _ _ => by rw [h0]; decide⟩, ?_⟩
    subst hz; rfl
/-- a written word is cut to it -/
theorem cut_way {l v : List Nat} (w : Wd l) (hv : v ∈ ways l) : Ln v ∧ ∃ t, M.scan stP 0 sc0 v = .ok t ∧ M.scan stL 0 sc0 v = .ok t ∧ t.tk = false ∧ t.qt = 0 ∧ fin t = [l] := by
  obtain ⟨h1, h2⟩ := way_len w hv
  obtain ⟨o, e⟩ := scan_way w hv 0 [] 0
  have q := scan_eq v 0 sc0 ⟨.inl rfl, fun h => by cases h⟩ fun c hc => by have := h2 c hc; omega
  rw [show M.scan stP 0 sc0 v = _ from e] at q
  exact ⟨⟨Nat.le_trans h1 (by decide), h2⟩, _, e, q.1, rfl, rfl, rfl⟩
theorem last_app {α : Type} : ∀ ls : List α, ls.dropLast ++ ls.getLast?.toList = ls
  | [] => rfl
  | [x] => rfl
  | x :: y :: r => by
    have := last_app (y :: r)
    rw [List.dropLast_cons₂, List.getLast?_cons_cons, List.cons_append, this]
theorem cut_jn {ls vs : List (List Nat)} (h : Ways ls vs) (hl : (jn vs).length ≤ 2000) : Ln (jn vs) ∧ ∃ t, M.scan stP 0 sc0 (jn vs) = .ok t ∧ M.scan stL 0 sc0 (jn vs) = .ok t ∧ t.tk = false ∧ t.qt = 0 ∧ fin t = ls := by
  obtain ⟨h1, h2⟩ := jn_ok h
  obtain ⟨o, e⟩ := scan_jn h 0 [] 0
  have q := scan_eq (jn vs) 0 sc0 ⟨.inl rfl, fun h => by cases h⟩ fun c hc => by have := h2 c hc; omega
  rw [show M.scan stP 0 sc0 (jn vs) = _ from e] at q
  refine ⟨⟨hl, h2⟩, _, e, q.1, rfl, rfl, ?_⟩
  show [] ++ ls.dropLast ++ ls.getLast?.toList = ls
  rw [List.nil_append]
  exact last_app ls
end J
namespace J
open PySem PySem.Spec PyProof.Rows L2 M
theorem cutV_map {α : Type} (f : α → V) (ls : List α) (lo hi : Option Int) : ∃ ls' : List α, cutV (ls.map f) lo hi = ls'.map f ∧ (∀ l ∈ ls', l ∈ ls) ∧ ls'.length ≤ ls.length ∧ ls'.length ≤ HT.sIx ls.length ls.length hi - HT.sIx ls.length 0 lo := by
  refine ⟨(ls.drop (HT.sIx ls.length 0 lo)).take (HT.sIx ls.length ls.length hi - HT.sIx ls.length 0 lo), ?_, fun l hl => List.mem_of_mem_drop (List.mem_of_mem_take hl), ?_, ?_⟩
  · unfold cutV
    rw [List.length_map, List.map_take, List.map_drop]
  · rw [List.length_take, List.length_drop]; omega
  · rw [List.length_take]; omega
section
variable {σ : L2.St} {H : Hp} {Q : VK} {K : PySem.W.Frag} {D : Ends}
theorem r_slL {a : Addr} {xs : List V} {lo hi : Option Int} (h : SqL K H a xs) (k : ∀ p, H p = none → Q (.ref p) (upd H p (.lst (cutV xs lo hi)))) : rSl K (.ref a) lo hi H Q := .inl ⟨a, xs, rfl, h, k⟩
theorem r_listOf {p : Addr} {ys : List V} (h : SqL K H p ys ∨ SqT K H p ys) (k : ∀ l, H l = none → Q (.ref l) (upd H l (.lst ys))) : rListOf K [.ref p] H Q := ⟨p, ys, rfl, h, k⟩
theorem r_tupOf {p : Addr} {ys : List V} (h : SqL K H p ys) (k : ∀ l, H l = none → Q (.ref l) (upd H l (.tup ys))) : rTupOf K [.ref p] H Q := ⟨p, ys, rfl, .inl ⟨h, k⟩⟩
end
def spLaw (K : PySem.W.Frag) : Sp := fun vs H Q _ => ∃ (a : Addr) (ns : List Int), vs = [.ref a] ∧ SqL K H a (ns.map V.int) ∧ ns.length ≤ 63 ∧ ∀ H', Q (.bl true) H'  -- own
end J
namespace J
open PySem PySem.Spec PyProof.Rows L2 M
theorem r_rep4 {l : Addr} {xs : List V} {H : Hp} {Q : VK} (h : H l = some (.lst xs)) (hx : xs.length ≤ 1000) (k : ∀ p, H p = none → Q (.ref p) (upd H p (.lst (List.replicate 4 xs).flatten))) : J.rMul (.ref l) (.int 4) H Q :=
  .inr (.inr ⟨l, 4, xs, rfl, rfl, h, by decide, by decide, Nat.le_trans (show xs.length * 4 ≤ 4000 by omega) (by decide), k⟩)
theorem rep4_map (f : List Nat → V) (ls : List (List Nat)) : (List.replicate 4 (ls.map f)).flatten = ((List.replicate 4 ls).flatten).map f := by
  simp [List.replicate, List.flatten_cons, List.map_append]
theorem rep4_mem {ls : List (List Nat)} {l : List Nat} (h : l ∈ (List.replicate 4 ls).flatten) : l ∈ ls := by
  obtain ⟨m, hm, hl⟩ := List.mem_flatten.mp h
  rw [List.eq_of_mem_replicate hm] at hl
  exact hl
end J

/-! a try whose clauses have names; what none of them takes does not come -/
namespace J
open PySem PySem.Spec PyProof.Rows L2  -- own
/-- the ends of a suite that holds its exception in slot i -/
def unset (D : Ends) (i : Nat) : Ends := ⟨fun τ G => D.nx (τ.set i none) G, D.rt, fun τ G => D.bk (τ.set i none) G, fun τ G => D.ct (τ.set i none) G⟩
abbrev Clause := Value × Nat × (Addr → Value → Option Addr → TS)
def wN (K : PySem.W.Frag) (D : Ends) : List Clause → WX
  | [] => fun _ _ _ _ => False
  | (c, i, ts) :: r => fun cls d σ H => ∃ b, PySem.W.exmOne K cls c = some b ∧ (b = true → ∀ a, H a = none → ts a cls d (unset D i) (σ.set i (some (.ref a))) H) ∧ (b = false → wN K D r cls d σ H)
inductive HN (X : Cx) : List ExceptHandler → List Clause → Prop
  | any (rest : List ExceptHandler) : HN X rest []
  | cons {x n : Str} {c : Value} {i : Nat} {ts : Addr → Value → Option Addr → TS} {b₀ : Stmt} {bs : List Stmt} {p1 p2 : Pos} {hds : List ExceptHandler} {l : List Clause} (hi : X.N[i]? = some n) (hl : X.env.kindOf n = some .local) (hc : Names X x c)
      (su : ∀ (a : Addr) (o : Obj) (cls : Value) (d : Option Addr) (pn : List (Addr × Obj)), Zc cls d o → (∃ vs, o.data = .fields vs) → PSs (X.suite a ((a, o) :: pn)) (b₀ :: bs) (ts a cls d)) (r : HN X hds l) :
      HN X (.ExceptHandler (some (.Name x p1)) (some n) (b₀ :: bs) p2 :: hds) ((c, i, ts) :: l)
theorem ps_tryN {X : Cx} {body : List Stmt} {h₀ : ExceptHandler} {hds : List ExceptHandler} {l : List Clause} {pos : Pos} {tb : WX → TS} (hs : X.stack = X.env :: X.outer) (hf : X.env.frame = some X.env.locals) (hN : X.N.Nodup)
    (hb : ∀ (W : WX) (pn : List (Addr × Obj)) (xe : Value → Shared → Prop), Takes (X.tr pn xe) W → PassesOwn (model X.prog X.w) X.A X.env xe → PSs (X.tr pn xe) body (tb W)) (hh : HN X (h₀ :: hds) l) :
    PS X (.Try body (h₀ :: hds) [] [] pos) (fun D σ H => tb (wN X.K D l) D σ H) := by
  constructor
  intro pins s σ H D I q0
  have fs0 : X.A.frames = some (X.env :: X.outer) := I.ok.frames.trans (congrArg some hs)
  apply wpAny_Try_except
  let catch_ : Value → Shared → Prop := fun e t => wpAny (model X.prog X.w) X.A (noteFrame e X.env) (fun _ t2 => wpAny (model X.prog X.w) X.A (setFlight e none) (fun _ t3 => wpAny (model X.prog X.w) X.A (handleBy e X.env (h₀ :: hds)) (SP X pins D) X.xe t3) X.xe t2) X.xe t
  have caught : Takes (X.tr (X.pn ++ pins) catch_) (wN X.K D l) := by
    rintro u t ⟨e, B, sI, pins2, σ2, H2, cls, d, rfl, J2, nb, up, sky, ne, os, ag, w⟩
    have J := J2.ofTry I.ok
    refine Sky.land Zc.steady fs0 hf (hs ▸ sky : Sky B (X.env :: X.outer) e (Zc cls d) X.env.locals t.heap) fun h3 f3 up3 => ?_
    obtain ⟨o3, v3, e3, z3, d3⟩ := f3.there
    have away : e ∉ frs (X.env :: X.outer) := fun hm => by
      obtain ⟨_, o', g, nf⟩ := f3.2.2.1.mem hm
      cases e3.symm.trans g
      exact nf _ d3
    have away1 : e ≠ X.env.locals := fun z => away (List.mem_filterMap.mpr ⟨X.env, List.mem_cons_self, hf.trans (congrArg some z.symm)⟩)
    have away2 : e ∉ X.fs := fun hm => let ⟨g, g1, g2⟩ := List.mem_filterMap.mp hm; away (List.mem_filterMap.mpr ⟨g, List.mem_cons_of_mem _ g1, g2⟩)
    have J3 : Inv X pins σ2 H2 { t with heap := h3 } := J.landed nb f3.1 (up.trans up3) os ag
    have S3 := J3.suite e3 d3 ne away1 away2
    -- down the clauses
    suffices go : ∀ {hs' : List ExceptHandler} {l' : List Clause}, HN X hs' l' → wN X.K D l' cls d σ2 H2 → wpAny (model X.prog X.w) X.A (handleBy (.ref e) X.env hs') (SP X pins D) X.xe { t with heap := h3 } from go hh w
    intro hs' l' k
    induction k with
    | any rest => exact False.elim
    | @cons x n c i ts b₀ bs p1 p2 hds2 l2 hi hl hc su r ih =>
      rintro ⟨b, m, yes, no⟩
      refine wpAny_handleBy_cons (codeAny_handlers_test ?_) (fun z => nomatch z)
      have lk := PySem.W.exm_one (M := model X.prog X.w) J3.kIn (fun A Q E s' k' q' => wpAny_typeOf_ref (k' _ _ e3) (z3.1.symm ▸ q')) m
      have name : ∀ {Q E : Value → Shared → Prop}, Q c { t with heap := h3 } → wpAny (model X.prog X.w) (X.A.mark (some (.ref e))) (eval (.Name x p1) X.env) Q E { t with heap := h3 } := fun {Q E} q' => by
        obtain ⟨g1, g2, g3⟩ := hc
        rcases g3 with g3 | ⟨g3, g4, g5⟩
        · exact ld_glob (X := X.suite e ((e, o3) :: (X.pn ++ pins))) S3 g1 g3 q' g2
        · exact ld_blt (X := X.suite e ((e, o3) :: (X.pn ++ pins))) S3 g1 g3 g4 q' g5 g2
      refine name (lk.here ?_)
      cases b
      · exact ih (no rfl)
      · refine codeAny_handlers_suite_as (HandSPX.lands_againZ f3 fun h4 f4 up4 => ?_)
        obtain ⟨o4, v4, e4, z4, d4⟩ := f4.there
        have J4 : Inv X pins σ2 H2 { t with heap := h4 } := J.landed nb f4.1 ((up.trans up3).trans up4) os ag
        refine store_ok (X := X.suite e ((e, o4) :: (X.pn ++ pins))) (v := .ref e) (J4.suite e4 d4 ne away1 away2) hN hi (.inl hl) rfl (fun s5 S5 => ?_) (.inr hl)
        refine wpAny_mono ((su e o4 cls d (X.pn ++ pins) z4 ⟨_, d4⟩).run [] s5 _ H2 _ S5 (yes rfl e ne)) (fun f s6 r6 => ?_) (fun _ _ z => False.elim z)
        have last : ∀ {τ : L2.St} {G : Hp} {Q : Shared → Prop}, Inv (X.suite e ((e, o4) :: (X.pn ++ pins))) [] τ G s6 → (∀ s7, Inv X pins (τ.set i none) G s7 → Q s7) → wpAny (model X.prog X.w) X.A (do bindName X.env n .none; unbindBehindTheSuite X.env n p2) (fun _ s7 => Q s7) X.xe s6 := fun {τ G Q} S6 hq => gone_ok (Q := fun _ s7 => Q s7) (S6.unsuite I.ok) hN hi hl hq
        cases f with
        | ret u => exact let ⟨_, _, _, S6, rv, q6⟩ := r6; last S6 fun s7 J7 => ⟨_, _, _, J7, rv, q6⟩
        | next => exact let ⟨_, _, S6, q6⟩ := r6; last S6 fun s7 J7 => ⟨_, _, J7, q6⟩
        | brk => exact let ⟨_, _, S6, q6⟩ := r6; last S6 fun s7 J7 => ⟨_, _, J7, q6⟩
        | cont => exact let ⟨_, _, S6, q6⟩ := r6; last S6 fun s7 J7 => ⟨_, _, J7, q6⟩
  refine wpAny_mono ((hb (wN X.K D l) (X.pn ++ pins) catch_ caught PassesOwn.looking).run [] s σ H D (I.toTry _) q0) (fun f s1 r1 => ?_) (fun _ _ z => z)
  cases f with
  | ret u => exact let ⟨_, _, _, J1, rv, q1⟩ := r1; ⟨_, _, _, J1.ofTry I.ok, rv, q1⟩
  | next => exact let ⟨_, _, J1, q1⟩ := r1; wpAny_execs_nil ⟨_, _, J1.ofTry I.ok, q1⟩
  | brk => exact let ⟨_, _, J1, q1⟩ := r1; ⟨_, _, J1.ofTry I.ok, q1⟩
  | cont => exact let ⟨_, _, J1, q1⟩ := r1; ⟨_, _, J1.ofTry I.ok, q1⟩
end J

/-! replace within a chain of and: the len ahead of it gives out a token -/
namespace J
open PySem PySem.Spec PyProof.Rows L2 CwR
/-- behind it a token has been given out -/
def PE1 (X : Cx) (e : Expr) (t : TE) : Prop := ∀ (pins : List (Addr × Obj)) (s : Shared) (σ : L2.St) (H : Hp) (Q : VK), Inv X pins σ H s → t σ H Q → wpAny (model X.prog X.w) X.A (eval e X.env) (fun v s1 => 1 ≤ s1.toks ∧ EP X pins σ Q v s1) X.xe s
def tLenS (te : TE) : TE := fun σ H Q => te σ H fun x H1 => ∃ z : Str, x = .str z ∧ z.length ≤ sizeLine ∧ Q (.int (z.length : Nat)) H1
section
variable {X : Cx} {e a b c f : Expr} {te ta tb tc : TE} {p pos pos' pos2 : Pos}
theorem pe1_len (hg : Gl X "len") (hm : X.mg "len" = none) (he : PE X e te) (hs : starEach (e :: []) X.env = (false, eval e X.env) :: starEach [] X.env := by rfl) (hpl : (backTo pos (starEach [] X.env)).any (·.1) = false := by rfl) : PE1 X (.Call (.Name "len" p) [e] [] pos) (tLenS te) := by
  intro pins s σ H Q I h
  refine wpAny_Call_Name_kw (ld_blt (u := .builtin "len") I hg hm (by decide +kernel) (PyProof.Rows.callWith_builtin1 (thn ((pa_cons he pa_nil hs).run pos pins s σ H (fun vs H1 => match vs with | [x] => ∃ z : Str, x = .str z ∧ z.length ≤ sizeLine ∧ Q (.int (z.length : Nat)) H1 | _ => False) I h) fun us s1 r => ?_) hs hpl) (by decide) (by decide))
  obtain ⟨vs, H1, I1, rv, q⟩ := r
  cases rv with
  | nil => exact q.elim
  | cons r1 r2 =>
    cases r2 with
    | cons _ _ => exact q.elim
    | nil =>
      obtain ⟨z, rfl, hz, q⟩ := q
      obtain ⟨t, rfl⟩ := r1
      have h63 := line63
      refine len_str (by omega) ⟨by show 1 ≤ s1.toks + 1 + 1; omega, .int _, H1, I1.tok _, ⟨_, rfl⟩, q⟩
theorem pe1_cmp {op : CmpOp} {r : R2} (ho : OpR X (compareOp op) r) (ha : PE1 X a ta) (hb : PE X b tb) (hm : behindInMarks op b = false) : PE1 X (.Compare a [op] [b] pos) (tOp r ta tb) := by
  intro pins s σ H Q I h
  refine wpAny_Compare1 (thn (ha pins s σ H _ I h) fun v s1 q => ?_) hm
  obtain ⟨k1, x, H1, I1, r1, q1⟩ := q
  refine wpAny_mono (wpAny_toks_of k1 (hb.run pins s1 σ H1 _ I1 q1)) (fun u s2 q => ?_) fun _ _ z => z.2
  obtain ⟨k2, y, H2, I2, r2, q2⟩ := q
  exact wpAny_mono (wpAny_toks_of k2 (ho pins s2 σ H2 x y v u _ I2 r1 r2 q2)) (fun _ _ z => z) fun _ _ z => z.2
/-- a and b and c: b gives out a token, c wants one -/
theorem pe_and3 (ha : PE X a ta) (hb : PE1 X b tb) (hc : PET X c tc) : PE X (.BoolOp .And [a, b, c] pos) (tAndV ta (tAndV tb tc)) := by
  refine ⟨fun pins s σ H Q I h => ?_⟩  -- own
  refine BoolOp_and (thn (ha.run pins s σ H _ I h) fun v s1 q => ?_)
  obtain ⟨x, H1, I1, r1, k, rfl, q1⟩ := q
  cases r1
  refine wpAny_truthy_bool ?_
  cases k with
  | false => exact ⟨.bl false, H1, I1, rfl, q1⟩  -- own
  | true =>
    refine BoolOp_and (thn (hb pins s1 σ H1 _ I1 q1) fun v2 s2 q => ?_)
    obtain ⟨k2, y, H2, I2, r2, kk, rfl, q2⟩ := q
    cases r2
    refine wpAny_truthy_bool ?_
    cases kk with
    | false => exact ⟨.bl false, H2, I2, rfl, q2⟩
    | true => exact BoolOp_one (hc pins s2 σ H2 Q k2 I2 q2)
theorem pet_call {CX : CXT} {k : Nat} {g : Addr} {fd : FuncData} {ps : List Str} {sp : Sp} {ds : List Value} {dvs : List V} {E : XK} {x : Str} {es : List Expr} {t : TA} (F : FnOk X.prog X.w X.K X.mg X.base CX k g fd ps sp) (hr : Room k X.A) (hg : Gl X x) (hm : X.mg x = some (.ref g))
    (hk : PySem.W.keepIn X.K (.ref g) = true) (hb : Binds X.K fd ps ds) (hd : Vals dvs ds) (hx : Passes CX X E) (ha : PAT X (e :: es) t) (hdb : (x == ("__debug__" : Str)) = false := by decide)
    (he : starEach (e :: es) X.env = (false, eval e X.env) :: starEach es X.env := by rfl) (hpl : (backTo pos (starEach es X.env)).any (·.1) = false := by rfl) : PET X (.Call (.Name x p) (e :: es) [] pos) (tCall sp dvs E t) := by
  intro pins s σ H Q h0 I h
  exact wpAny_Call_Name_kw (ld_glob I hg hm (PySem.W.callWith_K (h₀ := X.base) I.ok.mod.kin hk (thn (ha pos pins s σ H _ h0 I h) fun us s1 q => let ⟨vs, H1, I1, r, w⟩ := q; ⟨I1.kIn, run_fn F hr hb hd hx I1 r w⟩) he hpl) hdb)
end
end J

/-! own errors with one field; lines with line feeds, cut or refused -/
namespace J
open PySem PySem.Spec PyProof.Rows L2 M
/-- raise C(x) -/
def tRz (C : Addr) (sp : Sp) (ta : TA) (W : WX) : TS := fun _ σ H => tMkO C sp [] ta σ H fun cls d H' => W cls d σ H'
theorem ps_rz {X : Cx} {W : WX} {e : Expr} {C : Addr} {sp : Sp} {ta : TA} {pos : Pos} (hc : X.calm = true) (tk : Takes X W) (he : PMk X e (tMkO C sp [] ta)) : PS X (.Raise (some e) none pos) (tRz C sp ta W) := ps_raise hc tk he
/-- an __init__ that keeps its one argument as f -/
def spInit (K : PySem.W.Frag) (f : Str) : Sp := fun vs H Q _ => ∃ (a C : Addr) (v : V), vs = [.ref a, v] ∧ OexC K C ∧ PySem.W.findIn K (.ref C) f = some none ∧ H a = some (exo a C none) ∧ ∀ dx, H dx = none → dx ≠ a → Q .non (upd (upd H dx (exd dx [(f, v)])) a (exo a C (some dx)))
/-- an error of the class at C, its field f being v, may be raised from H -/
def Err (C : Addr) (f : Str) (v : V) (H : Hp) (E : XK) : Prop := ∀ (d : Addr) (H' : Hp), H d = none → Same H H' → H' d = some (.xd [(f, v)]) → E (.ref C) (some d) H'
theorem Err.at {C : Addr} {f : Str} {v : V} {H H1 : Hp} {E : XK} (e : Err C f v H E) (s : Same H H1) : Err C f v H1 E := fun d H' n t h => e d H' (by
  cases q : H d with
  | none => rfl
  | some o => rw [s _ _ q] at n; cases n) (s.trans t) h
def RzQ (C : Addr) (sp : Sp) (W : WX) (σ : L2.St) (vs : List V) (H1 : Hp) : Prop := vs.length ≤ 1000 ∧ ∀ a, H1 a = none → sp (.ref a :: (vs ++ [])) (upd H1 a (exo a C none))
  (fun v H2 => v = .non ∧ ∃ (d : Addr) (fs : List (Str × V)), H2 a = some (exo a C (some d)) ∧ H2 d = some (exd d fs) ∧ H1 d = none ∧ W (.ref C) (some d) σ (upd (del H2 a) d (.xd fs))) (fun _ _ _ => False)
theorem r_rz {σ : L2.St} {H : Hp} {D : Ends} {C : Addr} {sp : Sp} {W : WX} {ta : TA} (k : ta σ H fun vs H1 => RzQ C sp W σ vs H1) : tRz C sp ta W D σ H := k
theorem rz_one {K : PySem.W.Frag} {σ : L2.St} {H1 : Hp} {C : Addr} {f : Str} {W : WX} {v : V} (T : OexC K C) (hf : PySem.W.findIn K (.ref C) f = some none) (er : Err C f v H1 (fun cls d H' => W cls d σ H')) : RzQ C (spInit K f) W σ [v] H1 := by
  refine ⟨show 1 ≤ 1000 by decide, fun a ha => ⟨a, C, v, rfl, T, hf, upd_same, fun dx hd ne => ⟨rfl, dx, [(f, v)], upd_same, by rw [upd_ne ne, upd_same], ?_, ?_⟩⟩⟩
  · rwa [upd_ne ne] at hd
  · rw [upd_ne ne] at hd
    refine er dx _ hd (fun b o hb => ?_) upd_same
    have b1 := ne_of_none hb hd
    have b2 := ne_of_none hb ha
    rw [upd_ne b1, del_ne b2, upd_ne b2, upd_ne b1, upd_ne b2]
    exact hb
theorem asOst {X : Cx} {K : PySem.W.Frag} {st : Stmt} {f : Str} {to te : TE} (eK : X.K = K) (h : PS X st (tOst X.K f to te)) : PS X st (tOst K f to te) := eK ▸ h
theorem r_ost {K : PySem.W.Frag} {σ : L2.St} {H : Hp} {f : Str} {to te : TE} {n : L2.St → Hp → Prop} {rt : VK} {bk ct : L2.St → Hp → Prop} (k : te σ H fun y H1 => to σ H1 fun x H2 => ∃ a C : Addr, x = .ref a ∧ OexC K C ∧ PySem.W.findIn K (.ref C) f = some none ∧
  ((H2 a = some (exo a C none) ∧ ∀ dx, H2 dx = none → dx ≠ a → n σ (upd (upd H2 dx (exd dx [(f, y)])) a (exo a C (some dx)))) ∨
    ∃ (dx : Addr) (fs : List (Str × V)), H2 a = some (exo a C (some dx)) ∧ H2 dx = some (exd dx fs) ∧ fs.length ≤ 900 ∧ n σ (upd H2 dx (exd dx ((f, y) :: fs))))) : tOst K f to te ⟨n, rt, bk, ct⟩ σ H := k
theorem r_callS {σ : L2.St} {H : Hp} {Q : VK} {sp : Sp} {E : L2.St → XK} {t : TA} (k : t σ H fun vs H1 => sp vs H1 Q (E σ)) : tCallS sp E t σ H Q := k
/-! ### lines with line feeds -/
/-- signs and line feeds, at most 2,000 -/
def Lf (l : List Nat) : Prop := l.length ≤ 2000 ∧ ∀ c ∈ l, c = 10 ∨ 32 ≤ c ∧ c ≤ 126
/-- the words, or the first sign that is wrong -/
def cutR (st : Sc → Nat → Nat → Except Nat Sc) (l : List Nat) : Except Nat (List (List Nat)) := match M.scan st 0 sc0 l with
  | .error e => .error e
  | .ok t => if t.tk = true then .error (l.length - 1) else if t.qt ≠ 0 then .error t.op else .ok (fin t)
theorem cutR_eq {l : List Nat} (h : ∀ c ∈ l, c ≠ 0) : cutR stL l = cutR stP l := by
  have q := scan_eq l 0 sc0 ⟨.inl rfl, fun h => by cases h⟩ h
  unfold cutR
  cases e : M.scan stP 0 sc0 l with
  | error x => rw [e] at q; rw [show M.scan stL 0 sc0 l = _ from q]
  | ok t =>
    rw [e] at q
    rw [show M.scan stL 0 sc0 l = _ from q.1]
    obtain ⟨ws, bg, qt, op, tk⟩ := t
    cases tk <;> rfl
theorem replL_one (d : Nat) : ∀ l : List Nat, PySem.StrLaws.replL [d] [] l = l.filter fun c => decide (c ≠ d)
  | [] => PySem.StrLaws.replL_nil
  | c :: l => by
    by_cases h : c = d
    · rw [PySem.StrLaws.replL_hit (List.cons_ne_nil _ _) (by simp [h]), List.filter_cons_of_neg (by simp [h])]
      exact replL_one d l
    · rw [PySem.StrLaws.replL_miss (by simp [h]), List.filter_cons_of_pos (by simp [h]), replL_one d l]
/-- a replaced text: without line feeds -/
theorem repl_nl {z : Str} : cd (Txt.replace z (Str.ofString "\n") (Str.ofString "")) = (cd z).filter fun c => decide (c ≠ 10) := by
  rw [show cd (Txt.replace z (Str.ofString "\n") (Str.ofString "")) = _ from PySem.StrLaws.replace_list (by decide +kernel)]
  rw [l_nl, l_nil]
  exact replL_one 10 _
def spIsLineX : Sp := fun vs H Q _ => ∃ z : Str, vs = [.str z] ∧ z.length ≤ 1000000 ∧ ∀ H', Same H H' → Q (.bl (decide (z.length ≤ 2000) && sg ((cd z).filter fun c => decide (c ≠ 10)))) H'
theorem lf_line {z : Str} (h : Lf (cd z)) : (decide (z.length ≤ 2000) && sg ((cd z).filter fun c => decide (c ≠ 10))) = true := by
  rw [decide_eq_true (by rw [len_cd]; exact h.1), Bool.true_and]
  refine sg_iff.mpr fun c hc => ?_
  obtain ⟨h1, h2⟩ := List.mem_filter.mp hc
  rcases h.2 c h1 with h3 | h3
  · exact absurd h3 (of_decide_eq_true h2)
  · exact h3
def spLongerX (C : Addr) : Sp := fun vs H Q E => ∃ (b : Option (List Nat)) (c : Nat) (i : Int), vs = [obV b, .str ⟨#[c]⟩, .int i] ∧ (b.getD []).length ≤ 40 ∧ ((b.getD []).length + 1 ≤ 40 → Q (.str (S (b.getD [] ++ [c]))) H) ∧ (40 < (b.getD []).length + 1 → Err C "at" (.int i) H E)
def spScannedX (C : Addr) : Sp := fun vs H Q E => ∃ z : Str, vs = [.str z] ∧ Lf (cd z) ∧
  (∀ e, M.scan stP 0 sc0 (cd z) = .error e → Err C "at" (.int (e : Nat)) H E) ∧
  (∀ t, M.scan stP 0 sc0 (cd z) = .ok t → t.tk = true → Err C "at" (.int (((cd z).length : Nat) - 1 : Int)) H E) ∧
  (∀ t, M.scan stP 0 sc0 (cd z) = .ok t → t.tk = false → ∀ (p w : Addr) (H' : Hp), H p = none → H w = none → Same H H' → H' p = some (.tup [.ref w, obV t.bg, qV t.qt, .int t.op]) → H' w = some (.lst (t.ws.map wV)) → p ≠ w → Q (.ref p) H')
def spCutX (C : Addr) : Sp := fun vs H Q E => ∃ z : Str, vs = [.str z] ∧ Lf (cd z) ∧ (∀ ws, cutR stP (cd z) = .ok ws → ws.length ≤ 40) ∧
  (∀ e, cutR stP (cd z) = .error e → Err C "at" (.int (e : Nat)) H E) ∧
  (∀ ws, cutR stP (cd z) = .ok ws → ∀ (w : Addr) (H' : Hp), H w = none → Same H H' → H' w = some (.lst (ws.map wV)) → Q (.ref w) H')
end J
namespace J
open PySem PySem.Spec PyProof.Rows L2 M
/-- what the written part says of an own error x with one field f -/
structure OE (P : Program) (w : World) (K : PySem.W.Frag) (mg : Str → Option Value) (base : Heap) (x f : Str) (C : Addr) : Prop where
  T : OexC K C
  nf : PySem.W.findIn K (.ref C) f = some none
  gl : mg x = some (.ref C)
  ini : ∃ (fI : Addr) (fdI : FuncData), PySem.W.findIn K (.ref C) "__init__" = some (some (.ref fI)) ∧ PySem.W.typeIn K (.ref fI) = some (.type "function") ∧ FnOk P w K mg base CX0 1 fI fdI ["self", f] (spInit K f) ∧ Binds K fdI ["self", f] []
theorem ps_rzK {X : Cx} {K : PySem.W.Frag} {W : WX} {e : Expr} {C : Addr} {x f : Str} {ta : TA} {p pos pos2 : Pos} (eK : X.K = K) (hc : X.calm = true) (tk : Takes X W) (O : OE X.prog X.w X.K X.mg X.base x f C) (hr : Room 2 X.A) (hg : Gl X x) (ha : PA X [e] ta)
    (hdb : (x == ("__debug__" : Str)) = false := by decide) (he : starEach (e :: []) X.env = (false, eval e X.env) :: starEach [] X.env := by rfl) (hpl : (backTo pos (starEach [] X.env)).any (·.1) = false := by rfl) :
    PS X (.Raise (some (.Call (.Name x p) [e] [] pos)) none pos2) (tRz C (spInit K f) ta W) := by
  subst eK
  obtain ⟨fI, fdI, i1, i2, i3, i4⟩ := O.ini
  exact ps_rz hc tk (pmk_oex O.T i1 i2 i3 hr i4 .nil pass0 hg O.gl ha hdb he hpl)
end J

/-! data that stays; lists of words compared; doors of the lines -/
namespace J
open PySem PySem.Spec PyProof.Rows L2 M
mutual
theorem dp_mono {K : PySem.W.Frag} {H H' : Hp} (s : Same H H') : ∀ {v : V} {d : PyData}, Dp K H v d → Dp K H' v d
  | _, _, .non => .non
  | _, _, .bl b => .bl b
  | _, _, .int i => .int i
  | _, _, .str x => .str x
  | _, _, .lst h a => .lst (s.seqL h) (dpa_mono s a)
  | _, _, .tup h a => .tup (s.seqT h) (dpa_mono s a)
theorem dpa_mono {K : PySem.W.Frag} {H H' : Hp} (s : Same H H') : ∀ {vs : List V} {ds : List PyData}, DpAll K H vs ds → DpAll K H' vs ds
  | _, _, .nil => .nil
  | _, _, .cons h r => .cons (dp_mono s h) (dpa_mono s r)
end
theorem eqv_ws : ∀ a b : List (List Nat), PyData.eqv (dWs a) (dWs b) = decide (a = b)
  | [], [] => rfl
  | [], _ :: _ => rfl
  | _ :: _, [] => rfl
  | x :: a, y :: b => by
    have ih := eqv_ws a b
    show (PyData.eqv (dW x) (dW y) && PyData.eqv (dWs a) (dWs b)) = _
    rw [ih]
    have e : PyData.eqv (dW x) (dW y) = decide (x = y) := by
      show (S x == S y) = _
      by_cases h : x = y
      · subst h; simp
      · rw [decide_eq_false h]
        simp [S_inj, h]
    rw [e, ← Bool.decide_and]
    exact decide_eq_decide.mpr (by simp)
/-- the words of a good line are words -/
theorem scan_wd : ∀ {l : List Nat} {t : Sc}, (∀ c ∈ l, c ≤ 126) → M.scan stP 0 sc0 l = .ok t → (∀ w ∈ t.ws, ∀ c ∈ w, c ≤ 126) ∧ ∀ c ∈ t.bg.getD [], c ≤ 126 := by
  suffices key : ∀ (l : List Nat) (i : Nat) (s t : Sc), (∀ c ∈ l, c ≤ 126) → ((∀ w ∈ s.ws, ∀ c ∈ w, c ≤ 126) ∧ ∀ c ∈ s.bg.getD [], c ≤ 126) → M.scan stP i s l = .ok t → (∀ w ∈ t.ws, ∀ c ∈ w, c ≤ 126) ∧ ∀ c ∈ t.bg.getD [], c ≤ 126 from
    fun {l t} h e => key l 0 sc0 t h ⟨fun _ h => (List.not_mem_nil h).elim, fun _ h => (List.not_mem_nil h).elim⟩ e
  intro l
  induction l with
  | nil => intro i s t _ p e; cases e; exact p
  | cons d l ih =>
    intro i s t h p e
    have hd := h d (List.mem_cons_self ..)
    unfold M.scan at e
    cases hs : stP s i d with
    | error x => rw [hs] at e; cases e
    | ok u =>
      rw [hs] at e
      refine ih (i + 1) u t (fun c hc => h c (List.mem_cons_of_mem _ hc)) ?_ e
      have add : ∀ c ∈ s.bg.getD [] ++ [d], c ≤ 126 := fun c hc => by
        rcases List.mem_append.mp hc with q | q
        · exact p.2 c q
        · rw [List.mem_singleton.mp q]; exact hd
      unfold stP at hs
      repeat' split at hs
      all_goals first
        | (cases hs; done)
        | (cases hs; exact ⟨p.1, add⟩)
        | (cases hs; exact p)
        | skip
      all_goals (cases hs; refine ⟨?_, fun _ h => (List.not_mem_nil h).elim⟩)
      all_goals (intro w hw c hc)
      · rename_i b hb
        rcases List.mem_append.mp hw with q | q
        · exact p.1 w q c hc
        · rw [List.mem_singleton.mp q] at hc
          exact p.2 c (by rw [hb]; exact hc)
      · exact p.1 w hw c hc
theorem cutR_wd {l : List Nat} {ws : List (List Nat)} (h : Lf l) (e : cutR stP l = .ok ws) : ∀ w ∈ ws, ∀ c ∈ w, c ≤ 126 := by
  unfold cutR at e
  cases hs : M.scan stP 0 sc0 l with
  | error x => rw [hs] at e; cases e
  | ok t =>
    rw [hs] at e
    simp only at e
    split at e
    · cases e
    · split at e
      · cases e
      · cases e
        obtain ⟨h1, h2⟩ := scan_wd (fun c hc => by rcases h.2 c hc with q | q <;> omega) hs
        intro w hw c hc
        rcases List.mem_append.mp hw with q | q
        · exact h1 w q c hc
        · cases hb : t.bg with
          | none => rw [hb] at q; exact (List.not_mem_nil q).elim
          | some b =>
            rw [hb] at q
            rw [List.mem_singleton.mp q] at hc
            exact h2 c (by rw [hb]; exact hc)
end J
namespace J
open PySem PySem.Spec PyProof.Rows L2 M
/-- neither a list nor a tuple -/
def NoSeq (H : Hp) (x : V) : Prop := x = .non ∨ (∃ y, x = .str y) ∨ ∃ a kvs, x = .ref a ∧ H a = some (.dK kvs)
theorem NoSeq.mono {H H' : Hp} {x : V} (s : Same H H') (h : NoSeq H x) : NoSeq H' x := by
  rcases h with h | h | ⟨a, kvs, e, h⟩
  · exact .inl h
  · exact .inr (.inl h)
  · exact .inr (.inr ⟨a, kvs, e, s _ _ h⟩)
theorem r_isiNo {K : PySem.W.Frag} {H : Hp} {Q : VK} {x : V} {p : Addr} (h : NoSeq H x) (hp : H p = some (.tup [V.ty "list", V.ty "tuple"])) (k : Q (.bl false) H) : rIsiT K [x, .ref p] H Q := by
  rcases h with rfl | ⟨y, rfl⟩ | ⟨a, kvs, rfl, h⟩
  · exact ⟨_, p, _, _, _, false, rfl, hp, .cons (.ty _) (.cons (.ty _) .nil), .base .non, rfl, k⟩
  · exact ⟨_, p, _, _, _, false, rfl, hp, .cons (.ty _) (.cons (.ty _) .nil), .base (.str y), rfl, k⟩
  · exact ⟨_, p, _, _, _, false, rfl, hp, .cons (.ty _) (.cons (.ty _) .nil), .base (.dK h), rfl, k⟩
def spAlike (C : Addr) : Sp := fun vs H Q E => ∃ z y : Str, vs = [.str z, .str y] ∧ Lf (cd z) ∧ Lf (cd y) ∧ (∀ ws, cutR stP (cd z) = .ok ws → ws.length ≤ 40) ∧ (∀ ws, cutR stP (cd y) = .ok ws → ws.length ≤ 40) ∧
  (∀ e, cutR stP (cd z) = .error e → Err C "at" (.int (e : Nat)) H E) ∧
  (∀ ws, cutR stP (cd z) = .ok ws → (∀ e, cutR stP (cd y) = .error e → Err C "at" (.int (e : Nat)) H E) ∧ ∀ us, cutR stP (cd y) = .ok us → ∀ H', Same H H' → Q (.bl (decide (ws = us))) H')
def spShows (K : PySem.W.Frag) (C : Addr) : Sp := fun vs H Q E => ∃ (z : Str) (x : V), vs = [.str z, x] ∧ Lf (cd z) ∧ (∀ ws, cutR stP (cd z) = .ok ws → ws.length ≤ 40) ∧ (∀ e, cutR stP (cd z) = .error e → Err C "at" (.int (e : Nat)) H E) ∧
  ∀ ws, cutR stP (cd z) = .ok ws → (NoSeq H x ∧ ∀ H', Same H H' → Q (.bl false) H') ∨
    ∃ (a : Addr) (xs : List V) (ds : List PyData), x = .ref a ∧ (H a = some (.lst xs) ∨ H a = some (.tup xs)) ∧ DpAll K H xs ds ∧ SeqAt.shaped (.list ds) = true ∧ ∀ H', Same H H' → Q (.bl (PyData.eqv (.list ds) (dWs ws))) H'
theorem r_eqWW {K : PySem.W.Frag} {H : Hp} {Q : VK} {a b : Addr} {ls ms : List (List Nat)} (ha : SqL K H a (ls.map wV)) (hb : SqL K H b (ms.map wV)) (h1 : ∀ l ∈ ls, ∀ c ∈ l, c ≤ 126) (h2 : ∀ l ∈ ms, ∀ c ∈ l, c ≤ 126) (k : Q (.bl (decide (ls = ms))) H) : rEqA K (.ref a) (.ref b) H Q :=
  .inr ⟨dWs ls, dWs ms, dp_ws ha, dp_ws hb, sh_ws h1, sh_ws h2, by rw [eqv_ws]; exact k⟩
end J

/-! the law's drawn lines -/
namespace J
open PySem PySem.Spec PyProof.Rows L2 M
def spStroked : Sp := fun vs H Q _ => ∃ (b : Addr) (n : Nat) (z d : Str), vs = [.ref b, .str z, .str d] ∧ Bx H b n ∧ n ≤ 700000000 ∧ (cd z).length ≤ 40 ∧ ∀ (o : List Nat) (H' : Hp), Strk (cd d) (cd z) o → Keep b H H' → Bx H' b (n + 40) → Q (.str (S o)) H'
def spWritten : Sp := fun vs H Q _ => ∃ (b : Addr) (n : Nat) (z : Str), vs = [.ref b, .str z] ∧ Bx H b n ∧ n ≤ 600000000 ∧ Wd (cd z) ∧ ∀ (o : List Nat) (H' : Hp), WrO (cd z) o → Keep b H H' → Bx H' b (n + 2000) → Q (.str (S o)) H'
def spGap : Sp := fun vs H Q _ => ∃ (b : Addr) (n few : Nat), vs = [.ref b, .int few] ∧ few ≤ 1 ∧ Bx H b n ∧ n ≤ 700000000 ∧ ∀ (g : List Nat) (H' : Hp), Gp g → g.length ≤ few + 1 → few ≤ g.length → Keep b H H' → Bx H' b (n + 10) → Q (.str (S g)) H'
/-- a line of these words -/
def LineOf (ls : List (List Nat)) (f : List Nat) : Prop := f.length ≤ 4 + 170 * ls.length ∧ (∀ c ∈ f, c = 10 ∨ 32 ≤ c ∧ c ≤ 126) ∧ ∃ t, M.scan stP 0 sc0 f = .ok t ∧ t.tk = false ∧ t.qt = 0 ∧ fin t = ls
def spLineOf (K : PySem.W.Frag) : Sp := fun vs H Q _ => ∃ (b a : Addr) (n : Nat) (ls : List (List Nat)), vs = [.ref b, .ref a] ∧ a ≠ b ∧ SqL K H a (ls.map wV) ∧ ls.length ≤ 10 ∧ (∀ l ∈ ls, Wd l) ∧ Bx H b n ∧ n ≤ 500000000 ∧ ∀ (f : List Nat) (H' : Hp), LineOf ls f → Keep b H H' → Bx H' b (n + 25000) → Q (.str (S f)) H'
end J
namespace J
open PySem PySem.Spec PyProof.Rows L2 M
section
variable {σ : L2.St} {H : Hp} {Q : VK} {K : PySem.W.Frag} {D : Ends}
theorem r_slS {z : Str} {lo hi : Option Int} (h : z.length ≤ 16777216) (k : Q (.str (cutS z lo hi)) H) : rSl K (.str z) lo hi H Q := .inr ⟨z, rfl, h, k⟩
theorem r_while {c : TT} {tb : TS} {n : L2.St → Hp → Prop} {rt : VK} {bk ct : L2.St → Hp → Prop} (I : Nat → L2.St → Hp → Prop) (m0 : Nat) (start : I m0 σ H)
    (turn : ∀ m σ1 H1, I m σ1 H1 → c σ1 H1 fun b H2 => if b = true then (∃ N : L2.St → Hp → Prop, (∀ σ' H', N σ' H' → ∃ m', m' < m ∧ I m' σ' H') ∧ tb ⟨N, rt, n, N⟩ σ1 H2) else n σ1 H2) : tWhile c tb ⟨n, rt, bk, ct⟩ σ H := ⟨I, ⟨m0, start⟩, turn⟩
theorem cutS_take (z : Str) (k : Nat) : cutS z none (some (k : Int)) = S ((cd z).take k) := by
  rw [str_eq, cd_S]
  unfold cutS
  rw [HT.sIx_nat, HT.sIx_none]
  show ((cd z).drop 0).take (min k z.length - 0) = _
  rw [List.drop_zero, Nat.sub_zero, len_cd, ← List.take_take, List.take_length]
theorem cutS_drop (z : Str) (k : Nat) : cutS z (some (k : Int)) none = S ((cd z).drop k) := by
  rw [str_eq, cd_S]
  unfold cutS
  rw [HT.sIx_nat, HT.sIx_none]
  show ((cd z).drop (min k z.length)).take (z.length - min k z.length) = _
  rw [len_cd]
  by_cases h : k ≤ (cd z).length
  · rw [Nat.min_eq_left h]
    exact List.take_of_length_le (by rw [List.length_drop]; omega)  -- own
  · rw [Nat.min_eq_right (by omega), List.drop_eq_nil_of_le (show (cd z).length ≤ (cd z).length from Nat.le_refl _), List.drop_eq_nil_of_le (by omega)]
    simp
end
theorem strk_one {need : List Nat} {c : Nat} (b : Bool) (h : c ∈ need → b = true) : Strk need [c] (if b = true then [92, c] else [c]) := by
  cases b
  · exact .bare (fun q => by have := h q; cases this) .nil
  · exact .str .nil
/-- a stroke, or none, and a sign -/
theorem r_stroke {K : PySem.W.Frag} {H : Hp} {N : VK} {c : Nat} {b : Bool} (k : N (.str (S (if b = true then [92, c] else [c]))) H) : J.rMul (.str "\\") (.int (if b = true then 1 else 0)) H fun x H1 => J.rAdd K x (.str ⟨#[c]⟩) H1 N := by
  cases b
  · rw [if_neg Bool.false_ne_true]
    refine r_mulS mul_0.1 ?_
    rw [mul_0.2]
    refine r_addS (a := "") (b := ⟨#[c]⟩) (le_line (show 0 + 1 ≤ 16777216 by decide)) ?_
    rw [S_nil_app]
    exact k
  · rw [if_pos rfl]
    refine r_mulS mul_1.1 ?_
    rw [mul_1.2]
    refine r_addS (a := "\\") (b := ⟨#[c]⟩) (le_line (show 1 + 1 ≤ 16777216 by decide)) ?_
    have e : (Str.ofString "\\" ++ ⟨#[c]⟩ : Str) = S [92, c] := by rw [str_eq, cd_app, cd_S]; rfl
    rw [e]
    exact k
end J
namespace J
open PySem PySem.Spec PyProof.Rows L2 M
theorem r_strokeV {K : PySem.W.Frag} {H : Hp} {σ : L2.St} {N : VK} {c i : Nat} (b : Bool) (hv : σ[i]? = some (some (.str ⟨#[c]⟩))) (k : N (.str (S (if b = true then [92, c] else [c]))) H) :
    J.rMul (.str "\\") (.int (if b = true then 1 else 0)) H fun x H1 => tVar i σ H1 fun y H2 => J.rAdd K x y H2 N := by
  have key := r_stroke (K := K) (b := b) k
  cases b
  · rw [if_neg Bool.false_ne_true] at key ⊢
    refine r_mulS mul_0.1 ?_
    rw [mul_0.2]
    refine r_var hv (r_addS (a := "") (b := ⟨#[c]⟩) (le_line (show 0 + 1 ≤ 16777216 by decide)) ?_)
    rw [S_nil_app]
    exact k
  · rw [if_pos rfl] at key ⊢
    refine r_mulS mul_1.1 ?_
    rw [mul_1.2]
    refine r_var hv (r_addS (a := "\\") (b := ⟨#[c]⟩) (le_line (show 1 + 1 ≤ 16777216 by decide)) ?_)
    have e : (Str.ofString "\\" ++ ⟨#[c]⟩ : Str) = S [92, c] := by rw [str_eq, cd_app, cd_S]; rfl
    rw [e]
    exact k
/-- for i, x in enumerate(list): an invariant over the number walked -/
theorem r_forEnumL {K : PySem.W.Frag} {σ : L2.St} {H : Hp} {i : Nat} {a : Addr} {xs : List V} {g : TG} {tb : TS} {n : L2.St → Hp → Prop} {rt : VK} {bk ct : L2.St → Hp → Prop} (hv : σ[i]? = some (some (.ref a))) (I : Nat → L2.St → Hp → Prop) (list : ∀ j σ1 H1, I j σ1 H1 → SqL K H1 a xs) (start : I 0 σ H)
    (turn : ∀ (j : Nat) σ1 H1 (T : Addr) (x : V), xs[j]? = some x → I j σ1 H1 → H1 T = none → g (.ref T) σ1 (upd H1 T (.tup [.int (j : Nat), x])) fun σ2 H2 => tb ⟨I (j + 1), rt, n, I (j + 1)⟩ σ2 H2)
    (fin : ∀ σ1 H1, I xs.length σ1 H1 → n σ1 H1) : tFor (iEnum K (tCons (tVar i) tNil)) g tb ⟨n, rt, bk, ct⟩ σ H := by
  refine ⟨.ref a, hv, a, xs, rfl, list _ _ _ start, ?_⟩
  exact loop_of (D := ⟨n, rt, bk, ct⟩) xs.length I start (fun j σ1 H1 hj w => ⟨xs, _, list _ _ _ w, List.getElem?_eq_getElem hj⟩) (fun σ1 H1 w => ⟨xs, list _ _ _ w, Nat.le_refl _⟩) (fun j σ1 H1 x H' hj w y => by
    obtain ⟨T, c, rfl, hT, rfl, hc⟩ := y
    exact turn j σ1 H1 T c (hc xs (list _ _ _ w)) w hT) fin
theorem asEnum {X : Cx} {K : PySem.W.Frag} {tg e : Expr} {ta : TA} (eK : X.K = K) (h : PI X tg e (iEnum X.K ta)) : PI X tg e (iEnum K ta) := eK ▸ h
end J
namespace J
open PySem PySem.Spec PyProof.Rows L2 M
theorem r_lcRG {σ : L2.St} {H : Hp} {Q : VK} {ta : TA} {te' : TE} {g : TG} {tt : TT} {vs : List Nat} (k : ta σ H fun ws H1 => ∃ j : Int, ws = [.int j] ∧ -(2 ^ 62) ≤ j ∧ j < 2 ^ 62 ∧ ∀ E, H1 E = none → CompQ (Itr 0 j.toNat) g tt te' vs σ H1 E fun H => Q (.ref E) H) : tLc (iRng1 ta) g tt te' vs σ H Q := k
end J
namespace J
open PySem PySem.Spec PyProof.Rows L2 M
def badD (i : Int) : List (Key × V) := [(.inr "bad", .int i)]
theorem merge_bad (i : Int) : mergeK [] (badD i) = badD i := rfl
theorem get_badI (i : Int) : valV (badD i) (.inr "bad") = some (.int i) := rfl
theorem get_opened (wd : Addr) (t : Sc) : valV (stD wd t) (.inr "opened") = some (.int (t.op : Nat)) := rfl
def Lf3 (l : List Nat) : Prop := l.length ≤ 3000 ∧ ∀ c ∈ l, c = 10 ∨ 32 ≤ c ∧ c ≤ 126
def spStateX : Sp := fun vs H Q _ => ∃ z : Str, vs = [.str z] ∧ Lf3 (cd z) ∧
  (∀ e, M.scan stL 0 sc0 (cd z) = .error e → ∀ (p : Addr) (H' : Hp), Same H H' → H' p = some (.dK (badD (e : Nat))) → Q (.ref p) H') ∧
  (∀ t, M.scan stL 0 sc0 (cd z) = .ok t → t.tk = true → ∀ (p : Addr) (H' : Hp), Same H H' → H' p = some (.dK (badD (((cd z).length : Nat) - 1 : Int))) → Q (.ref p) H') ∧
  (∀ t, M.scan stL 0 sc0 (cd z) = .ok t → t.tk = false → ∀ (p wd : Addr) (H' : Hp), Same H H' → H' p = some (.dK (stD wd t)) → H' wd = some (.lst (t.ws.map wV)) → Q (.ref p) H')
def spDueX : Sp := fun vs H Q _ => ∃ z : Str, vs = [.str z] ∧ Lf3 (cd z) ∧ (∀ ws, cutR stL (cd z) = .ok ws → ws.length ≤ 40) ∧
  (∀ e, cutR stL (cd z) = .error e → ∀ (p : Addr) (H' : Hp), Same H H' → H' p = some (.lst [.str "sign", .int (e : Nat)]) → Q (.ref p) H') ∧
  (∀ ws, cutR stL (cd z) = .ok ws → ∀ (p wd : Addr) (H' : Hp), Same H H' → H' p = some (.lst [.str "told", .ref wd]) → H' wd = some (.lst (ws.map wV)) → Q (.ref p) H')
end J

/-! what the doors tell -/
namespace J
open PySem PySem.Spec PyProof.Rows L2 M
def outA (l m : List Nat) : Except Nat Bool := match cutR stP l with
  | .error e => .error e
  | .ok ws => match cutR stP m with
    | .error e => .error e
    | .ok us => .ok (decide (ws = us))
def outS (l : List Nat) (f : List (List Nat) → Bool) : Except Nat Bool := match cutR stP l with
  | .error e => .error e
  | .ok ws => .ok (f ws)
def outV : Except Nat Bool → List V
  | .error e => [.str "sign", .int (e : Nat)]
  | .ok b => [.str "told", .bl b]
def Few (l : List Nat) : Prop := ∀ ws, cutR stP l = .ok ws → ws.length ≤ 40
def spTold (K : PySem.W.Frag) : Sp := fun vs H Q _ => ∃ (door : Int) (z : Str) (x : V) (o : Except Nat Bool), vs = [.int door, .str z, x] ∧ Lf (cd z) ∧ Few (cd z) ∧
  ((door = 0 ∧ ∃ y : Str, x = .str y ∧ Lf (cd y) ∧ Few (cd y) ∧ o = outA (cd z) (cd y)) ∨
   (door = 1 ∧ ((NoSeq H x ∧ o = outS (cd z) fun _ => false) ∨
     ∃ (a : Addr) (xs : List V) (ds : List PyData), x = .ref a ∧ (H a = some (.lst xs) ∨ H a = some (.tup xs)) ∧ DpAll K H xs ds ∧ SeqAt.shaped (.list ds) = true ∧ o = outS (cd z) fun ws => PyData.eqv (.list ds) (dWs ws)))) ∧
  ∀ (p : Addr) (H' : Hp), Same H H' → H' p = some (.lst (outV o)) → Q (.ref p) H'
theorem r_xf {a C dd : Addr} {cls : Value} {d : Option Addr} {f : Str} {i : Nat} {v : V} {σ : L2.St} {H : Hp} {Q : VK} (hv : σ[i]? = some (some (.ref a))) (hc : cls = .ref C) (hd : d = some dd) (h : H dd = some (.xd [(f, v)])) (k : Q v H) : tXf a cls d C f (tVar i) σ H Q :=
  ⟨_, hv, rfl, hc, dd, _, v, hd, h, by simp [List.lookup], k⟩
end J

/-! a text the other way about -/
namespace J
open PySem PySem.Spec PyProof.Rows L2 M
theorem range_all (l : Array Nat) : (List.range l.size).filterMap (l[·]?) = l.toList := by
  apply List.ext_getElem?
  intro i
  rw [show (List.range l.size).filterMap (l[·]?) = (List.range l.size).filterMap (fun j => l.toList[j]?) from by congr 1; funext j; simp]
  have : ∀ (m : List Nat), (List.range m.length).filterMap (fun j => m[j]?) = m := fun m => by
    induction m with
    | nil => rfl
    | cons a m ih =>
      rw [List.length_cons, List.range_succ_eq_map, List.filterMap_cons]
      simp only [List.getElem?_cons_zero, List.filterMap_map]
      congr 1
  have h := this l.toList
  rw [Array.length_toList] at h
  rw [h]
theorem picked_rev (z : Str) (t : Tok) : (slicePicked z none none (some (-1, t))).filterMap (z.cps[·]?) = z.cps.toList.reverse := by
  have e : slicePicked z none none (some (-1, t)) = (List.range z.cps.size).reverse := by
    show sliceRange ((z.cps.size : Int) - 1) (-1) (-1) = _
    rw [PySem.W.krv_sliceRange, PySem.W.krv_range]
  rw [e, List.filterMap_reverse, range_all]
def tRevS (te : TE) : TE := fun σ H Q => te σ H fun x H1 => ∃ z : Str, x = .str z ∧ z.length ≤ sizeLine ∧ Q (.str (S (cd z).reverse)) H1
theorem pe_revS {X : Cx} {e : Expr} {te : TE} {k : Nat} {p1 p2 p3 pos : Pos} (he : PE X e te) : PE X (.Subscript e (.Slice none none (some (.UnaryOp .USub (.Constant (.int 1) k p1) p2)) p3) pos) (tRevS te) := by
  constructor
  intro pins s σ H Q I h
  apply Subscript_
  refine thn (he.run pins s σ H _ I h) fun v s1 r => ?_
  obtain ⟨x, H1, I1, rx, z, rfl, hz, q⟩ := r
  obtain ⟨tz, rfl⟩ := rx
  apply wpAny_Slice
  refine thn (po_none.run pins s1 σ H1 (fun o G => o = none ∧ G = H1) I1 ⟨rfl, rfl⟩) fun a s2 r => ?_
  obtain ⟨a', G, I2, pa, ea, rfl⟩ := r
  subst ea
  refine thn (po_none.run pins s2 σ G (fun o G' => o = none ∧ G' = G) I2 ⟨rfl, rfl⟩) fun b s3 r => ?_
  obtain ⟨b', G', I3, pb, eb, rfl⟩ := r
  subst eb
  have minus : PO X (some (.UnaryOp .USub (.Constant (.int 1) k p1) p2)) (tPart (tUn (rU fun i => .int (-i)) (tC (.int 1)))) := po_some (pe_un un_neg pe_int)
  refine thn (minus.run pins s3 σ G' (fun o F => o = some (-1) ∧ F = G') I3 ⟨1, rfl, -1, rfl, rfl, rfl⟩) fun c s4 r => ?_
  obtain ⟨c', F, I4, pc, ec, rfl⟩ := r
  subst ec
  obtain ⟨l1, rfl, e1⟩ := IsPart.raw pa
  obtain ⟨l2, rfl, e2⟩ := IsPart.raw pb
  obtain ⟨l3, rfl, e3⟩ := IsPart.raw pc
  obtain ⟨rfl⟩ : l1 = none := by cases l1 with | none => rfl | some _ => cases e1
  obtain ⟨rfl⟩ : l2 = none := by cases l2 with | none => rfl | some _ => cases e2
  obtain ⟨t3, rfl⟩ : ∃ t3, l3 = some (-1, t3) := by
    cases l3 with
    | none => cases e3
    | some y => obtain ⟨i, t3⟩ := y; cases e3; exact ⟨t3, rfl⟩
  refine tail_any (ops := [.ref s4.heap.objs.size, .str z tz]) (typeIs_str _ z tz) PySem.F.slot_str_getitem.lookup ?_ (by with_unfolding_all rfl)
  refine wpAny_getItem_str_slice (l := none) (u := none) (st := some (-1, t3)) ⟨_, Heap.get?_push_size _ rfl, rfl, rfl⟩ rfl ?_
  have me : sliceMade z tz none none (some (-1, t3)) = .str (S (cd z).reverse) := by
    unfold sliceMade
    rw [picked_rev]
    rfl
  rw [me]
  have I5 : Inv X pins σ F { s4 with heap := s4.heap.push { cls := .type "slice", data := .fields #[partValue none, partValue none, partValue (some (-1, t3))] } } := I4.kept (t' := s4.toks) fun b ob h => Heap.get?_push_of_some _ h
  exact ⟨by rw [S_len, List.length_reverse, ← len_cd]; exact hz, .str _, F, I5.tok _, ⟨_, rfl⟩, q⟩
end J
namespace J
open PySem PySem.Spec PyProof.Rows L2 M
def spOtherwise (K : PySem.W.Frag) : Sp := fun vs H Q _ => ∃ (b a : Addr) (n : Nat) (ls : List (List Nat)), vs = [.ref b, .ref a] ∧ a ≠ b ∧ H a = some (.lst (ls.map wV)) ∧ ls.length ≤ 5 ∧ (∀ l ∈ ls, l.length ≤ 20 ∧ ∀ c ∈ l, 32 ≤ c ∧ c ≤ 126) ∧ Bx H b n ∧ n ≤ 700000000 ∧
  ∀ (os : List (List Nat)) (p : Addr) (H' : Hp), os.length ≤ 6 → (∀ o ∈ os, Wd o) → Keep b H H' → Bx H' b (n + 10) → H' p = some (.lst (os.map wV)) → p ≠ b → Q (.ref p) H'
theorem r_rev {te : TE} {σ : L2.St} {H : Hp} {Q : VK} (k : te σ H fun x H1 => ∃ z : Str, x = .str z ∧ z.length ≤ sizeLine ∧ Q (.str (S (cd z).reverse)) H1) : tRevS te σ H Q := k
/-- lists that are put together: all as it was, a new one -/
theorem r_catN {K : PySem.W.Frag} {l m : Addr} {xs ys : List (List Nat)} {H : Hp} {Q : VK} (h : H l = some (.lst (xs.map wV))) (g : H m = some (.lst (ys.map wV))) (hx : xs.length + ys.length ≤ 1000) (k : ∀ p H', H p = none → (∀ q o, H q = some o → H' q = some o) → H' p = some (.lst ((xs ++ ys).map wV)) → (∀ b n, Bx H b n → Bx H' b n) → Q (.ref p) H') : J.rAdd K (.ref l) (.ref m) H Q := by
  refine r_cat h g (by rw [List.length_map, List.length_map]; exact Nat.le_trans hx (by decide)) fun p hp => ?_
  exact k p _ hp (fun q o hq => by rw [upd_ne (ne_of_none hq hp)]; exact hq) (by rw [upd_same, List.map_append]) fun b n hb => hb.new hp
theorem r_slN {K : PySem.W.Frag} {a : Addr} {ls : List (List Nat)} {lo hi : Option Int} {H : Hp} {Q : VK} (h : H a = some (.lst (ls.map wV))) (k : ∀ p H' ms, H p = none → (∀ q o, H q = some o → H' q = some o) → H' p = some (.lst (List.map wV ms)) → (∀ l ∈ ms, l ∈ ls) → ms.length ≤ HT.sIx ls.length ls.length hi - HT.sIx ls.length 0 lo → (∀ b n, Bx H b n → Bx H' b n) → Q (.ref p) H') : rSl K (.ref a) lo hi H Q := by
  refine r_slL (SqL.of h) fun p hp => ?_
  obtain ⟨ms, e, h1, _, h2⟩ := cutV_map wV ls lo hi
  rw [e]
  exact k p _ ms hp (fun q o hq => by rw [upd_ne (ne_of_none hq hp)]; exact hq) upd_same h1 h2 fun b n hb => hb.new hp
theorem r_lstN {H : Hp} {Q : VK} (os : List (List Nat)) (hl : os.length ≤ 1000) (k : ∀ p H', H p = none → (∀ q o, H q = some o → H' q = some o) → H' p = some (.lst (os.map wV)) → (∀ b n, Bx H b n → Bx H' b n) → Q (.ref p) H') : (os.map wV).length ≤ sizeLine ∧ ∀ p, H p = none → Q (.ref p) (upd H p (.lst (os.map wV))) := by
  refine ⟨by rw [List.length_map]; exact Nat.le_trans hl (by decide), fun p hp => ?_⟩
  exact k p _ hp (fun q o hq => by rw [upd_ne (ne_of_none hq hp)]; exact hq) upd_same fun b n hb => hb.new hp
end J

/-! what is told compared; dicts of pairs; lists of pairs -/
namespace J
open PySem PySem.Spec PyProof.Rows L2 M
def rDictP (K : PySem.W.Frag) : List V → Hp → VK → Prop := fun xs H Q => ∃ (a : Addr) (ps : List Addr) (kvs : List (Key × V)), xs = [.ref a] ∧ SqL K H a (ps.map V.ref) ∧ Paired (fun p kv => SqT K H p [kV kv.1, kv.2]) ps kvs ∧ ∀ p, H p = none → Q (.ref p) (upd H p (.dK (mergeK [] kvs)))
theorem call_dictA {X : Cx} (hc : X.calm = true) : CallR X (.type "dict") (rDictP X.K) := L2.call_dictP hc
def outD : Except Nat Bool → List PyData
  | .error e => [.str "sign", .int (e : Nat)]
  | .ok b => [.str "told", .bool b]
theorem dp_out {K : PySem.W.Frag} {H : Hp} : ∀ o : Except Nat Bool, DpAll K H (outV o) (outD o)
  | .error e => .cons (.str _) (.cons (.int _) .nil)
  | .ok b => .cons (.str _) (.cons (.bl _) .nil)
theorem sh_out : ∀ o : Except Nat Bool, SeqAt.shaped (.list (outD o)) = true
  | .error e => by show (PyData.canLay0 (.list [.str "sign", .int _]) && _) = true; simp [PyData.canLay0, PyData.canLayAll0, PyData.depth, PyData.depthAll]; exact ⟨by decide +kernel, by simp [outD, PyData.depth, PyData.depthAll]⟩
  | .ok b => by show (PyData.canLay0 (.list [.str "told", .bool b]) && _) = true; simp [PyData.canLay0, PyData.canLayAll0, PyData.depth, PyData.depthAll]; exact ⟨by decide +kernel, by simp [outD, PyData.depth, PyData.depthAll]⟩
theorem eqv_out : ∀ o : Except Nat Bool, PyData.eqv (.list (outD o)) (.list (outD o)) = true
  | .error e => by simp [outD, PyData.eqv, PyData.eqvAll]
  | .ok b => by simp [outD, PyData.eqv, PyData.eqvAll]
theorem r_neOut {K : PySem.W.Frag} {H : Hp} {Q : VK} {a b : Addr} {xs ys : List V} (o : Except Nat Bool) (ha : H a = some (.lst xs)) (hb : H b = some (.lst ys)) (ex : xs = outV o) (ey : ys = outV o) (k : Q (.bl false) H) : rNeA K (.ref a) (.ref b) H Q := by
  subst ex ey
  exact .inr ⟨_, _, .lst (SqL.of ha) (dp_out o), .lst (SqL.of hb) (dp_out o), sh_out o, sh_out o, by rw [eqv_out]; exact k⟩
theorem r_eqOut {K : PySem.W.Frag} {H : Hp} {Q : VK} {a b : Addr} {xs ys : List V} (o : Except Nat Bool) (ha : H a = some (.lst xs)) (hb : H b = some (.lst ys)) (ex : xs = outV o) (ey : ys = outV o) (k : Q (.bl true) H) : rEqA K (.ref a) (.ref b) H Q := by
  subst ex ey
  exact .inr ⟨_, _, .lst (SqL.of ha) (dp_out o), .lst (SqL.of hb) (dp_out o), sh_out o, sh_out o, by rw [eqv_out]; exact k⟩
/-- [(word, 1) for word in words] -/
theorem comp_pairs {J : It} {g : TG} {te : TE} {vs : List Nat} {σ : L2.St} {H1 : Hp} {D : Addr} {Z : Hp → Prop} {ls : List (List Nat)} (SI : SeqIt J (ls.map wV) H1) (hD : H1 D = none) (hs : ls.length < 1000)
    (turn : ∀ (l : List Nat) (H : Hp) (N : V → Hp → Prop), Same H1 H → (∀ p, H p = none → N (.ref p) (upd H p (.tup [wV l, .int 1]))) → g (wV l) (wipe σ vs) H fun σ2 H2 => wipe σ2 vs = wipe σ vs ∧ te σ2 H2 N)
    (fin : ∀ H ps, Same H1 H → H D = some (.lst (ps.map V.ref)) → Paired (fun p l => H p = some (.tup [wV l, .int 1])) ps ls → Z H) : CompQ J g tYes te vs σ H1 D Z := by
  refine comp_of ls.length (fun i H => Same H1 H ∧ ∃ ps : List Addr, H D = some (.lst (ps.map V.ref)) ∧ Paired (fun p l => H p = some (.tup [wV l, .int 1]) ∧ p ≠ D) ps (ls.take i)) ⟨(Same.refl H1).at hD _, [], upd_same, .nil⟩ (fun i H hi w => SI.go i H w.1 (by rw [List.length_map]; exact hi)) (fun H w => by have := SI.stop H w.1; rwa [List.length_map] at this) (fun i H x H' hi w y => ?_) (fun H w => ?_)
  · obtain ⟨s, ps, hps, pr⟩ := w
    obtain ⟨rfl, hx⟩ := SI.yld i H x H' s y
    rw [List.getElem?_map] at hx
    obtain ⟨l, hl, rfl⟩ := Option.map_eq_some_iff.mp hx
    refine turn l H' _ s fun p hp => ?_
    have pD : p ≠ D := fun e => by rw [e, hps] at hp; cases hp
    have e1 : upd H' p (.tup [wV l, .int 1]) D = some (.lst (ps.map V.ref)) := by rw [upd_ne pD.symm]; exact hps
    refine ⟨_, e1, ?_, (s.new hp _).at hD _, ps ++ [p], by rw [upd_same, List.map_append]; rfl, ?_⟩
    · have := pr.length
      rw [List.length_map, this, List.length_take]
      exact Nat.lt_of_le_of_lt (show _ ≤ 1000 by omega) (by decide)
    · rw [take_snoc hl]
      refine Paired.snoc (L2.Paired.mapP pr fun q m ⟨h1, h2⟩ => ⟨?_, h2⟩) ⟨by rw [upd_ne pD, upd_same], pD⟩
      rw [upd_ne h2, upd_ne (ne_of_none h1 hp)]
      exact h1
  · obtain ⟨s, ps, hps, pr⟩ := w
    rw [List.take_of_length_le (Nat.le_refl _)] at pr
    exact fin H ps s hps (L2.Paired.mapP pr fun _ _ h => h.1)
/-- a dict of such pairs -/
theorem pairs_key {K : PySem.W.Frag} {H : Hp} {ps : List Addr} {ls : List (List Nat)} (h : Paired (fun p l => H p = some (.tup [wV l, .int 1])) ps ls) : Paired (fun p (kv : Key × V) => SqT K H p [kV kv.1, kv.2]) ps (ls.map fun l => ((.inr (S l) : Key), V.int 1)) := by
  induction h with
  | nil => exact .nil
  | cons h _ ih => exact .cons (SqT.of h) ih
theorem eqv_lw {d : PyData} {l : List Nat} (h : ∀ x, d ≠ .str x) : PyData.eqv d (dW l) = false := by
  cases d <;> first | rfl | exact absurd rfl (h _)
theorem eqvAll_len : ∀ (xs ys : List PyData), xs.length ≠ ys.length → PyData.eqvAll xs ys = false
  | [], [], h => absurd rfl h
  | [], _ :: _, _ => rfl
  | _ :: _, [], _ => rfl
  | x :: xs, y :: ys, h => by
    show (PyData.eqv x y && PyData.eqvAll xs ys) = false
    rw [eqvAll_len xs ys (by simpa using h), Bool.and_false]
end J

/-! the doors asked of lines that can be cut, or can't -/
namespace J
open PySem PySem.Spec PyProof.Rows L2 M
/-- a line that is cut to these words -/
def Cu (ws : List (List Nat)) (f : List Nat) : Prop := Lf f ∧ cutR stP f = .ok ws ∧ ws.length ≤ 40
theorem Cu.of {ls : List (List Nat)} {f : List Nat} (h : LineOf ls f) (hl : ls.length ≤ 10) : Cu ls f := by
  obtain ⟨h1, h2, t, h3, h4, h5, h6⟩ := h
  refine ⟨⟨by omega, h2⟩, ?_, by omega⟩
  unfold cutR
  rw [h3]
  simp only [h4, h5, h6]
  rfl
theorem Cu.few {ws : List (List Nat)} {f : List Nat} (h : Cu ws f) : Few f := fun us e => by
  rw [h.2.1] at e; cases e; exact h.2.2
/-- a line that can't be cut: its first wrong sign -/
def Bd (e : Nat) (f : List Nat) : Prop := Lf f ∧ cutR stP f = .error e
theorem Bd.few {e : Nat} {f : List Nat} (h : Bd e f) : Few f := fun us q => by rw [h.2] at q; cases q
theorem bd_end {ls : List (List Nat)} {f : List Nat} (h : LineOf ls f) (hl : ls.length ≤ 10) {b : List Nat} (hb : b ∈ [[39], [34], [39, 97], [34, 98, 32, 99], [100, 92], [34, 92]]) : ∃ e, Bd e (f ++ 32 :: b) := by
  obtain ⟨h1, h2, t, h3, h4, h5, h6⟩ := h
  obtain ⟨u, e1, e2⟩ := bad_end h3 h4 h5 hb
  have lb : b.length ≤ 4 ∧ ∀ c ∈ b, 32 ≤ c ∧ c ≤ 126 := by
    simp only [List.mem_cons, List.not_mem_nil, or_false] at hb  -- own
    rcases hb with q | q | q | q | q | q <;> subst q <;> decide
  have lf : Lf (f ++ 32 :: b) := ⟨by simp only [List.length_append, List.length_cons]; omega, fun c hc => by
    rcases List.mem_append.mp hc with q | q
    · exact h2 c q
    rcases List.mem_cons.mp q with q | q
    · omega
    · exact .inr (lb.2 c q)⟩
  have key : ∃ e, cutR stP (f ++ 32 :: b) = .error e := by
    unfold cutR
    rw [e1]
    rcases e2 with e2 | ⟨e2, e3⟩
    · exact ⟨_, by simp only [e2]; rfl⟩
    · exact ⟨_, by simp only [e2, Bool.false_eq_true, if_false, ne_eq, e3, not_false_eq_true, if_true]; rfl⟩
  obtain ⟨e, he⟩ := key
  exact ⟨e, lf, he⟩
theorem lf_ne {f : List Nat} (h : Lf f) : ∀ c ∈ f, c ≠ 0 := fun c hc => by have := h.2 c hc; omega
theorem Lf.three {f : List Nat} (h : Lf f) : Lf3 f := ⟨Nat.le_trans h.1 (by decide), h.2⟩
/-- what is no list of these words, and can be asked about -/
def Odd (K : PySem.W.Frag) (ws : List (List Nat)) (H : Hp) (x : V) : Prop := NoSeq H x ∨ ∃ (a : Addr) (xs : List V) (ds : List PyData), x = .ref a ∧ (H a = some (.lst xs) ∨ H a = some (.tup xs)) ∧ DpAll K H xs ds ∧ SeqAt.shaped (.list ds) = true ∧ PyData.eqv (.list ds) (dWs ws) = false
theorem Odd.mono {K : PySem.W.Frag} {ws : List (List Nat)} {H H' : Hp} {x : V} (s : Same H H') (h : Odd K ws H x) : Odd K ws H' x := by
  rcases h with h | ⟨a, xs, ds, e, h1, h2, h3⟩
  · exact .inl (h.mono s)
  · exact .inr ⟨a, xs, ds, e, h1.imp (s _ _) (s _ _), dpa_mono s h2, h3⟩
section
variable {K : PySem.W.Frag} {H : Hp} {Q : VK} {E : XK}
theorem told_two {z y : Str} {ls ms : List (List Nat)} (b : Bool) (h : Cu ls (cd z)) (g : Cu ms (cd y)) (hb : decide (ls = ms) = b) (k : ∀ (p : Addr) (H' : Hp), Same H H' → H' p = some (.lst (outV (.ok b))) → Q (.ref p) H') : spTold K [.int 0, .str z, .str y] H Q E :=
  ⟨0, z, .str y, .ok b, rfl, h.1, h.few, .inl ⟨rfl, y, rfl, g.1, g.few, by simp only [outA, h.2.1, g.2.1, hb]⟩, k⟩
theorem told_bd1 {z y : Str} {ls : List (List Nat)} {e : Nat} (h : Cu ls (cd z)) (g : Bd e (cd y)) (k : ∀ (p : Addr) (H' : Hp), Same H H' → H' p = some (.lst (outV (.error e))) → Q (.ref p) H') : spTold K [.int 0, .str z, .str y] H Q E :=
  ⟨0, z, .str y, .error e, rfl, h.1, h.few, .inl ⟨rfl, y, rfl, g.1, g.few, by simp only [outA, h.2.1, g.2]⟩, k⟩
theorem told_bd2 {z y : Str} {e : Nat} (h : Bd e (cd z)) (g : Lf (cd y)) (gf : Few (cd y)) (k : ∀ (p : Addr) (H' : Hp), Same H H' → H' p = some (.lst (outV (.error e))) → Q (.ref p) H') : spTold K [.int 0, .str z, .str y] H Q E :=
  ⟨0, z, .str y, .error e, rfl, h.1, h.few, .inl ⟨rfl, y, rfl, g, gf, by simp only [outA, h.2]⟩, k⟩
theorem told_bd3 {z : Str} {e : Nat} (h : Bd e (cd z)) (k : ∀ (p : Addr) (H' : Hp), Same H H' → H' p = some (.lst (outV (.error e))) → Q (.ref p) H') : spTold K [.int 1, .str z, .non] H Q E :=
  ⟨1, z, .non, .error e, rfl, h.1, h.few, .inr ⟨rfl, .inl ⟨.inl rfl, by simp only [outS, h.2]⟩⟩, k⟩
theorem told_ws {z : Str} {a : Addr} {ls ms : List (List Nat)} (b : Bool) (h : Cu ls (cd z)) (ha : H a = some (.lst (ms.map wV)) ∨ H a = some (.tup (ms.map wV))) (hm : ∀ l ∈ ms, ∀ c ∈ l, c ≤ 126) (hb : decide (ms = ls) = b) (k : ∀ (p : Addr) (H' : Hp), Same H H' → H' p = some (.lst (outV (.ok b))) → Q (.ref p) H') : spTold K [.int 1, .str z, .ref a] H Q E :=
  ⟨1, z, .ref a, .ok b, rfl, h.1, h.few, .inr ⟨rfl, .inr ⟨a, _, ms.map dW, rfl, ha, dp_all ms, sh_ws hm, by simp only [outS, h.2.1]; rw [show PyData.eqv (.list (ms.map dW)) (dWs ls) = _ from eqv_ws ms ls, hb]⟩⟩, k⟩
theorem told_odd {z : Str} {x : V} {ls : List (List Nat)} (h : Cu ls (cd z)) (o : Odd K ls H x) (k : ∀ (p : Addr) (H' : Hp), Same H H' → H' p = some (.lst (outV (.ok false))) → Q (.ref p) H') : spTold K [.int 1, .str z, x] H Q E := by
  rcases o with o | ⟨a, xs, ds, e, h1, h2, h3, h4⟩
  · exact ⟨1, z, x, .ok false, rfl, h.1, h.few, .inr ⟨rfl, .inl ⟨o, by simp only [outS, h.2.1]⟩⟩, k⟩
  · exact ⟨1, z, x, .ok false, rfl, h.1, h.few, .inr ⟨rfl, .inr ⟨a, xs, ds, e, h1, h2, h3, by simp only [outS, h.2.1, h4]⟩⟩, k⟩
theorem ne_told {a : Addr} {xs : List V} {o : Except Nat Bool} (ha : H a = some (.lst (outV o))) (ex : xs = outV o) (k : ∀ H', Same H H' → Q (.bl false) H') : xs.length ≤ sizeLine ∧ ∀ p, H p = none → rNeA K (.ref a) (.ref p) (upd H p (.lst xs)) Q := by
  refine ⟨?_, fun p hp => r_neOut o (by rw [upd_ne (new_ne hp ha).symm]; exact ha) upd_same rfl ex (k _ ((Same.refl H).new hp _))⟩
  rw [ex]; cases o <;> exact show 2 ≤ sizeLine by decide
theorem eq_told {a : Addr} {xs : List V} {o : Except Nat Bool} (ha : H a = some (.lst (outV o))) (ex : xs = outV o) (k : ∀ H', Same H H' → Q (.bl true) H') : xs.length ≤ sizeLine ∧ ∀ p, H p = none → rEqA K (.ref a) (.ref p) (upd H p (.lst xs)) Q := by
  refine ⟨?_, fun p hp => r_eqOut o (by rw [upd_ne (new_ne hp ha).symm]; exact ha) upd_same rfl ex (k _ ((Same.refl H).new hp _))⟩
  rw [ex]; cases o <;> exact show 2 ≤ sizeLine by decide
end
def spRight : Sp := fun vs H Q _ => ∃ (b a : Addr) (n : Nat) (ls : List (List Nat)), vs = [.ref b, .ref a] ∧ a ≠ b ∧ H a = some (.lst (ls.map wV)) ∧ ls.length ≤ 5 ∧ (∀ l ∈ ls, l.length ≤ 20 ∧ ∀ c ∈ l, 32 ≤ c ∧ c ≤ 126) ∧ Bx H b n ∧ n ≤ 400000000 ∧ ∀ H', Keep b H H' → Bx H' b (n + 100000) → Q (.bl true) H'
end J

/-! things that are no list of the words -/
namespace J
open PySem PySem.Spec PyProof.Rows L2 M
theorem jn_len : ∀ (ls : List (List Nat)) (B : Nat), (∀ l ∈ ls, l.length ≤ B) → (jn ls).length ≤ (B + 1) * ls.length
  | [], B, _ => Nat.zero_le _
  | [x], B, h => by
    have := h x (List.mem_cons_self ..)
    simp only [jn, List.length_cons, List.length_nil]; omega
  | x :: y :: r, B, h => by
    have h1 := h x (List.mem_cons_self ..)  -- own
    have h2 := jn_len (y :: r) B fun l hl => h l (List.mem_cons_of_mem _ hl)
    simp only [jn, List.length_append, List.length_cons, Nat.mul_add, Nat.mul_one] at h2 ⊢; omega
theorem can_app : ∀ {xs ys : List PyData}, PyData.canLayAll0 xs = true → PyData.canLayAll0 ys = true → PyData.canLayAll0 (xs ++ ys) = true
  | [], ys, _, h => h
  | x :: xs, ys, h, g => by
    have h := Bool.and_eq_true_iff.mp (show (PyData.canLay0 x && PyData.canLayAll0 xs) = true from h)
    show (PyData.canLay0 x && PyData.canLayAll0 (xs ++ ys)) = true
    rw [h.1, can_app h.2 g]; rfl
theorem dep_wsN : ∀ ls : List (List Nat), PyData.depthAll (ls.map dW ++ [.none]) = 0
  | [] => by simp [PyData.depthAll, PyData.depth]
  | l :: ls => by
    have := dep_wsN ls
    rw [List.map_cons, List.cons_append]
    simp [PyData.depthAll, PyData.depth, dW, this]
theorem dpa_app {K : PySem.W.Frag} {H : Hp} : ∀ {xs : List V} {ds : List PyData} {ys : List V} {es : List PyData}, DpAll K H xs ds → DpAll K H ys es → DpAll K H (xs ++ ys) (ds ++ es)
  | _, _, _, _, .nil, h => h
  | _, _, _, _, .cons a r, h => .cons a (dpa_app r h)
section
variable {K : PySem.W.Frag} {H : Hp} {ls : List (List Nat)}
theorem odd_in {p a : Addr} (hp : H p = some (.lst [.ref a])) (ha : H a = some (.lst (ls.map wV))) (h : ∀ l ∈ ls, ∀ c ∈ l, c ≤ 126) : Odd K ls H (.ref p) := by
  refine .inr ⟨p, _, [dWs ls], rfl, .inl hp, .cons (dp_ws (SqL.of ha)) .nil, ?_, ?_⟩
  · show (PyData.canLay0 (.list [dWs ls]) && decide _) = true
    have c : PyData.canLay0 (.list [dWs ls]) = true := by
      show (PyData.canLayAll0 (ls.map dW) && true) = true
      rw [can_ws h]; rfl
    rw [c, Bool.true_and]
    refine decide_eq_true ?_
    simp [PyData.depth, PyData.depthAll, dWs, dep_ws]
  · show PyData.eqvAll [dWs ls] (ls.map dW) = false
    cases ls with
    | nil => rfl
    | cons l r => rfl
theorem odd_more {p : Addr} (hp : H p = some (.lst (ls.map wV ++ [.non]))) (h : ∀ l ∈ ls, ∀ c ∈ l, c ≤ 126) : Odd K ls H (.ref p) := by
  refine .inr ⟨p, _, ls.map dW ++ [.none], rfl, .inl hp, dpa_app (dp_all ls) (.cons .non .nil), ?_, ?_⟩
  · show (PyData.canLayAll0 (ls.map dW ++ [.none]) && decide _) = true
    rw [can_app (can_ws h) rfl, Bool.true_and]
    refine decide_eq_true ?_
    simp only [PyData.depth]
    rw [dep_wsN]; decide
  · exact eqvAll_len _ _ (by simp)
end
end J

namespace J
open PySem PySem.Spec PyProof.Rows L2  -- own
/-- a class is what an except clause that names it takes -/
theorem exm_same {K : PySem.W.Frag} {C : Addr} (a : PySem.W.subIn K (.ref C) (.type "BaseException") = some true) (b : PySem.W.isClsIn K C = true) (c : PySem.W.typeIn K (.ref C) = some (.type "type")) (d : PySem.W.subIn K (.ref C) (.ref C) = some true) : PySem.W.exmOne K (.ref C) (.ref C) = some true := by
  have x : (PySem.W.subIn K (.ref C) (.type "BaseException") == some true) = true := by rw [a]; rfl
  have y : ((PySem.W.clsIn K C).isSome && PySem.W.typeIn K (.ref C) == some (.type "type")) = true := by
    rw [show (PySem.W.clsIn K C).isSome = true from b, c]; rfl
  have z : PySem.W.kitCls K (.ref C) (.ref C) = some true := by
    show (if ((PySem.W.clsIn K C).isSome && PySem.W.typeIn K (.ref C) == some (.type "type")) = true then PySem.W.subIn K (.ref C) (.ref C) else none) = some true
    rw [if_pos y, d]
  unfold PySem.W.exmOne
  rw [if_pos x, z]
end J

/-! promises of defs that are called where no repr is running: so their bodies may ask for the repr of lists -/
namespace J
open PySem PySem.Spec PyProof.Rows L2  -- own
/-- as FnOk, of calls with no repr around -/
structure FnG (P : Program) (w : World) (K : PySem.W.Frag) (mg : Str → Option Value) (base : Heap) (CX : CXT) (k : Nat) (f : Addr) (fd : FuncData) (ps : List Str) (sp : Sp) : Prop where
  long : ∀ vs H Q E, sp vs H Q E → vs.length = ps.length
  goes : ∀ (A : Around), A.guards = some [] → Room k A → ∀ (outer : List Env) (s : Shared) (H : Hp), Env0 P w K mg base A outer s H → ∀ (args : Args) (us : List Value) (vs : List V) (Q : VK) (E : XK),
    BindsTo s fd args (ps.zip us) → Vals vs us → sp vs H Q E → codeAny (model P w) A (.call (.ref f) args) (CR CX outer P w H s Q E) s
theorem FnG.of {P : Program} {w : World} {K : PySem.W.Frag} {mg : Str → Option Value} {base : Heap} {CX : CXT} {k : Nat} {f : Addr} {fd : FuncData} {ps : List Str} {sp : Sp} (F : FnOk P w K mg base CX k f fd ps sp) : FnG P w K mg base CX k f fd ps sp :=
  ⟨F.len, fun A _ hr outer s H e0 args us vs Q E b r h => F.run A outer s H args us vs Q E hr e0 b r h⟩
section
variable {P : Program} {w : World} {K : PySem.W.Frag} {mg : Str → Option Value} {base : Heap}  -- own
/-- a def's promise from its body's, where no repr is running -/
theorem fun_g {x qual : Str} {st : Stmt} {f : Addr} {fd : FuncData} {N ps : List Str} {k : Nat} {sp : Sp} (F : Fun K x qual st f fd) (S : FnScope N ps (defScope st)) (long : ∀ vs H Q E, sp vs H Q E → vs.length = ps.length)
    (body : ∀ (cdv : Value) (A : Around) (outer : List Env) (s : Shared) (H : Hp) (vs : List V) (Q : VK) (E : XK), A.guards = some [] → Room k (A.deeper (envOfC qual (defScope st) s.heap.objs.size f cdv)) → sp vs H Q E →
      ∃ t, PSs (cxOf CX0 P w K mg base N qual (defScope st) f cdv A outer s H E).nox (defBody st) t ∧ t { nx := fun _ H' => Q .non H', rt := Q } (start N vs) H) : FnG P w K mg base CX0 (k + 1) f fd ps sp := by
  obtain ⟨oc, od, kV, doc, pm, an, cdv, ct, osl, e, lk, hcd⟩ := F.ex
  subst e
  refine ⟨long, fun A hg hr outer s H e0 args us vs Q E b r h => ?_⟩
  have hl : vs.length = ps.length := long _ _ _ _ h
  have stay := fun (a : Addr) (o : Obj) (q : base.get? a = some o) => (e0.bs a o q).1
  have kin : K.In s.heap := e0.mod.kin.keeps stay
  have free := e0.mod.nolimit.keeps stay
  refine codeAny_call_function hr.depth (kin _ _ lk) rfl S.co S.gen rfl (PySem.W.codeRec_of kin hcd) (b _ _ _ _ ?_)
  have known : ∀ y ∈ ps.zip us, (defScope st).names.lookup y.1 = some .local ∨ ((defScope st).names.lookup y.1 = some .cell ∧ ((cellsFrom (s.heap.objs.size + 1) (defScope st).names []).lookup y.1).isSome = true) := by
    rintro ⟨n, v⟩ hy
    exact (S.par n (List.of_mem_zip hy).1).imp id fun q => ⟨q, PySem.W.cellsFrom_some _ _ _ (.inl q)⟩
  refine wpAny_newFunctionEnv_cells S.kind known fun env he s1 xx => ?_
  subst he
  refine ⟨free.keeps xx.toInCall.keep, codeAny_func ?_⟩
  obtain ⟨t, pt, q⟩ := body cdv A outer s H vs Q E hg (hr.deeper _) h
  have I1 : Inv (cxOf CX0 P w K mg base N qual (defScope st) f cdv A outer s H E) [] (start N vs) H s1 := inv_start S hr.hd e0 hl r xx
  refine wpAny_mono (pt.nox.run [] s1 (start N vs) H _ I1 q) (fun fl s2 hs => ?_) fun _ _ z => z
  cases fl with
  | brk => exact hs.elim fun _ z => z.elim fun _ z => z.2.elim
  | cont => exact hs.elim fun _ z => z.elim fun _ z => z.2.elim
  | next => obtain ⟨_, H2, J2, q2⟩ := hs; exact ⟨.non, H2, J2.os, J2.bare, J2.base, J2.hok, rfl, q2⟩
  | ret u => obtain ⟨v, _, H2, J2, rv, q2⟩ := hs; exact ⟨v, H2, J2.os, J2.bare, J2.base, J2.hok, rv, q2⟩
end
section
variable {X : Cx} {CX : CXT} {k : Nat} {f : Addr} {fd : FuncData} {ps : List Str} {sp : Sp} {dvs : List V} {ds : List Value} {E : XK} {x : Str} {p pos : Pos} {e : Expr} {es : List Expr} {t : TA}
/-- f(..) of such a def, from a body of the same sort -/
theorem pe_callG (F : FnG X.prog X.w X.K X.mg X.base CX k f fd ps sp) (hG : X.A.guards = some []) (hr : Room k X.A) (hg : Gl X x) (hm : X.mg x = some (.ref f)) (hk : PySem.W.keepIn X.K (.ref f) = true) (hb : Binds X.K fd ps ds) (hd : Vals dvs ds) (hx : Passes CX X E)
    (ha : PA X (e :: es) t) (hdb : (x == ("__debug__" : Str)) = false := by decide) (he : starEach (e :: es) X.env = (false, eval e X.env) :: starEach es X.env := by rfl) (hpl : (backTo pos (starEach es X.env)).any (·.1) = false := by rfl) :  -- own
    PE X (.Call (.Name x p) (e :: es) [] pos) (tCall sp dvs E t) := ⟨fun pins s σ H Q I h => by
  refine wpAny_Call_Name_kw (ld_glob I hg hm ?_ hdb)  -- own
  refine PySem.W.callWith_K (h₀ := X.base) I.ok.mod.kin hk (thn (ha.run pos pins s σ H _ I h) fun us s1 z => ?_) he hpl
  obtain ⟨vs, H1, I1, r, q⟩ := z
  have r2 := r.append hd
  have n2 : (us ++ ds).length = ps.length := r2.length ▸ F.long _ _ _ _ q
  refine ⟨I1.kIn, wpAny_call (codeAny_mono (F.goes X.A hG hr X.stack s1 H1 I1.env0 ⟨us, []⟩ (us ++ ds) (vs ++ dvs) Q E (hb s1 us I1.kIn n2) r2 q) fun r s2 hq => ?_)⟩
  cases r with
  | error e => exact hx pins σ H1 s1 e s2 I1 hq
  | ok fl => cases fl with
    | ret u => exact I1.after hq
    | _ => exact hq.elim⟩
end
end J

/-! the end of a law whose own def asks for the repr of lists -/
namespace J
open PySem PySem.Spec PyProof.Rows L2  -- own
/-- what a law's call comes to -/
abbrev Fine (s s' : Shared) (r : Result) : Prop := r = .ok (.ret (.bool true)) ∧ OldK s.heap s'.heap ∧ s'.os = s.os ∧ AllBare s'.gens
section
variable {P : Program} {w : World} {K : PySem.W.Frag} {mg mb : Str → Option Value} {k : Nat} {fa a : Addr} {fd : FuncData} {x : Str} {sp : Sp} {s : Shared}
/-- with just the script tracked, or nothing -/
theorem top_at (kin : K.In s.heap) (hns : s.heap.Ns mainGlobals mg) (hmb : s.heap.Ns builtinsNs mb) (hbb : ∀ x : Str, x ≠ "__name__" → mb x = bootBuiltins x) (free : s.heap.NoLimit) (hg : s.gens = #[]) (hr : Room k callerA)
    (F : ∀ base : Heap, K.In base → base.Ns mainGlobals mg → FnG P w K mg base CX0 k fa fd [x] sp) (bind : ∀ (s : Shared) (u : Value), BindsTo s fd ⟨[u], []⟩ [(x, u)])
    {H : Hp} (only : Only H) (hok : HOk P w H s.heap) (just : ∀ b, H b ≠ none → b = a) (apart : H a ≠ none → K.lookup a = none) (list : ∀ o, s.heap.get? a = some o → ∀ es ep, o.data ≠ .dict es ep)
    (h : sp [.ref a] H (fun v _ => v = .bl true) fun _ _ _ => False) : codeAny (model P w) callerA (.call (.ref fa) ⟨[.ref a], []⟩) (fun r s' => Fine s s' r) s := by
  have off : ∀ {b : Addr} {m : Str → Option Value}, s.heap.Ns b m → (hidT s.heap H).Ns b m := fun {b m} ns => by
    obtain ⟨o, es, ep, e, d, r⟩ := ns
    refine ⟨o, es, ep, hidT_get e (Classical.byContradiction fun z => ?_), d, r⟩
    have := just b z
    subst this
    exact list o e es ep d
  have kb : K.In (hidT s.heap H) := fun b o e => hidT_get (kin b o e) (Classical.byContradiction fun z => by
    have := just b z
    subst this
    rw [apart z] at e
    cases e)
  have mod : Mod K mg (hidT s.heap H) := ⟨kb, off hns, ⟨mb, off hmb, hbb⟩, free.elim fun mc z => ⟨mc, off z.1, z.2⟩⟩
  have e0 : Env0 P w K mg (hidT s.heap H) callerA [] s H := ⟨rfl, mod, fun b o e => of_hidT e, Nat.le_of_eq (hidT_size _ _), trivial, fun b hb => (List.not_mem_nil hb).elim, hok, .of_eq hg⟩
  refine codeAny_mono ((F _ kb (off hns)).goes callerA rfl hr [] s H e0 ⟨[.ref a], []⟩ [.ref a] [.ref a] _ _ (bind s (.ref a)) (.cons rfl .nil) h) fun r s' q => ?_
  match r, q with
  | .error e, q => exact (show False from q).elim
  | .ok .next, q => exact q.elim
  | .ok .brk, q => exact q.elim
  | .ok .cont, q => exact q.elim
  | .ok (.ret u), q =>
    obtain ⟨v, H', os, bare, un, hok', rv, ev⟩ := q
    obtain rfl : v = .bl true := ev
    obtain rfl : u = Value.bool true := rv
    refine ⟨rfl, OldK.of_keep fun b o e => ?_, os, bare⟩  -- own
    rcases only b with z | ⟨ob, xs, z⟩
    · exact un.keep b o e z List.not_mem_nil List.not_mem_nil
    · have g1 := (hok b _ z).1
      have g2 := (hok' b _ (un.frzs b ob _ z)).1
      rw [e] at g1
      cases g1
      exact g2
/-- the law's promise, at the heap behind the top -/
theorem top_call {n : Nat} {vs : List Value} {ns : List Int} (kin : K.In s.heap) (hns : s.heap.Ns mainGlobals mg) (hmb : s.heap.Ns builtinsNs mb) (hbb : ∀ x : Str, x ≠ "__name__" → mb x = bootBuiltins x) (free : s.heap.NoLimit) (hg : s.gens = #[]) (hr : Room k callerA)
    (F : ∀ base : Heap, K.In base → base.Ns mainGlobals mg → FnG P w K mg base CX0 k fa fd [x] sp) (bind : ∀ (s : Shared) (u : Value), BindsTo s fd ⟨[u], []⟩ [(x, u)])
    (ha : s.heap.get? a = some { cls := .type "list", data := .seq vs.toArray }) (hi : IntsAre vs ns) (hl : ns.length ≤ n) (hn : n ≤ sizeLine)
    (h : ∀ H : Hp, Only H → SqL K H a (ns.map V.int) → sp [.ref a] H (fun v _ => v = .bl true) fun _ _ _ => False) :
    codeAny (model P w) callerA (.call (.ref fa) ⟨[.ref a], []⟩) (fun r s' => Fine s s' r) s := by
  have rv := vals_ints hi
  have nd : ∀ o, s.heap.get? a = some o → ∀ es ep, o.data ≠ .dict es ep := fun o e es ep z => by
    rw [ha] at e
    cases e
    cases (show Data.seq vs.toArray _ = Data.dict es ep from z)
  have small : ns.length ≤ sizeLine := Nat.le_trans hl hn
  cases q : K.lookup a with
  | some o =>
    have e := kin a o q
    rw [ha] at e
    cases e
    refine top_at kin hns hmb hbb free hg hr F bind (H := fun _ => none) (fun _ => .inl rfl) (fun _ _ z => nomatch z) (fun _ z => (z rfl).elim) (fun z => (z rfl).elim) nd (h _ (fun _ => .inl rfl) (.inr ⟨_, vs.toArray, _, q, rfl, rfl, rfl, ?_, by simpa using rv⟩))
    rw [List.size_toArray, hi.length]  -- own
    exact small
  | none =>
    let ob : Obj := { cls := .type "list", data := .seq vs.toArray }
    have at_a : (fun b : Addr => if b = a then some (HO.frz ob (.lst (ns.map V.int))) else none) a = some (HO.frz ob (.lst (ns.map V.int))) := if_pos rfl
    have off : ∀ b : Addr, b ≠ a → (fun b : Addr => if b = a then some (HO.frz ob (.lst (ns.map V.int))) else none) b = none := fun b z => if_neg z
    have only : Only (fun b : Addr => if b = a then some (HO.frz ob (.lst (ns.map V.int))) else none) := fun b => (Classical.em (b = a)).elim (fun z => .inr ⟨ob, ns.map V.int, z ▸ at_a⟩) fun z => .inl (off b z)
    refine top_at kin hns hmb hbb free hg hr F bind (H := fun b : Addr => if b = a then some (HO.frz ob (.lst (ns.map V.int))) else none) only (fun b u z => ?_) (fun b z => Classical.byContradiction fun y => z (off b y)) (fun _ => q) nd (h _ only (.inl (.inr ⟨ob, at_a⟩)))
    rcases Classical.em (b = a) with y | y
    · subst y
      cases at_a.symm.trans z
      exact ⟨ha, by rw [List.length_map]; exact small, vs, _, rv, ha⟩
    · cases (off b y).symm.trans z
end
theorem walk_ofG {l : PySem.W.OpenLaw} {n k : Nat} {q : Program} {loose : List Str} {XP : (Str → Option Value) → Heap → Prop} {YP : World → Heap → Prop} {d : DefRec} {K : Params → PySem.W.Frag} {sp : World → Sp} {x : Str}
    (hn : l.most = some n) (hn2 : n ≤ sizeLine) (hdf : d.params.defaults = []) (hr : Room k callerA) (hY : ∀ (w : World) (h : Heap), YP w h → (K w.params).In h)  -- own
    (F : ∀ (w : World) (mg : Str → Option Value) (fa : Addr) (h : Heap), (K w.params).In h → h.Ns mainGlobals mg → mg d.name = some (.ref fa) →  -- own
      ∃ fd : FuncData, (∀ (s : Shared) (u : Value), BindsTo s fd ⟨[u], []⟩ [(x, u)]) ∧ ∀ base : Heap, (K w.params).In base → base.Ns mainGlobals mg → FnG l.prog w (K w.params) mg base CX0 k fa fd [x] (sp w))
    (hsp : ∀ (w : World) (H : Hp) (a : Addr) (ns : List Int), ns.length ≤ n → Only H → SqL (K w.params) H a (ns.map V.int) → sp w [.ref a] H (fun v _ => v = .bl true) fun _ _ _ => False) :
    PySem.W.WalkO q loose XP YP l.row.toRowW d [] (fun f vs => PySem.call f vs) :=  -- own
  Att.attach_call hn hdf fun w s₀ s₁ mg mb fa o pm cd doc a vs ns G Y ho hd hcd hmg hobj hints hlen hg =>
    let ⟨_, hb, hF⟩ := F w mg fa _ (hY w _ Y) G.T.g hmg
    top_call (hY w _ Y) G.T.g G.T.b G.T.builtins G.T.nolimit hg hr hF hb hobj hints hlen hn2 fun H hO hS => hsp w H a ns hlen hO hS
end J

/-! own errors over LookupError: the library's rules for those over ValueError, with the base left open -/
namespace PySem
namespace JX
open PySem.W PySem.Calls PyProof.Rows PySem.HandSPX Builtin Builtin.ObjectAttr
/-- own classes, then a base's mro -/
def Over (tail : List Value) (l : List Value) : Prop := ∃ cs : List Addr, l = cs.map Value.ref ++ tail
theorem Over.pass {tail : List Value} {self : Value} (h : refuseLoop self "__setattr__" tail = pure ()) {l : List Value} (o : Over tail l) : refuseLoop self "__setattr__" l = pure () := by
  obtain ⟨cs, rfl⟩ := o
  induction cs with
  | nil => exact h
  | cons c cs ih => exact (refuseLoop_ref ..).trans ih
theorem Over.has {tail : List Value} {l : List Value} (o : Over tail l) (x : String) : l.contains (.type x) = tail.contains (.type x) := by
  obtain ⟨cs, rfl⟩ := o
  induction cs with
  | nil => rfl
  | cons c cs ih => rw [List.map_cons, List.cons_append, List.contains_cons, ih]; rfl
theorem Over.more {tail : List Value} {l : List Value} (o : Over tail l) (c : Addr) : Over tail (.ref c :: l) := by
  obtain ⟨cs, rfl⟩ := o
  exact ⟨c :: cs, rfl⟩
section
variable {prog : Program} {w : World} {A : Around} {R : Result → Shared → Prop} {hp : Heap} {g : Array GenState} {d : Drawn} {t : Nat} {os : OsState} {K : W.Frag} {name : Str} {tk : Tok} {v : Value} {x C : Addr} {fv : Array Value} {cd : ClassData}
/-- the first attribute of an exception -/
theorem first_attr (kin : K.In hp) (at_x : hp.get? x = some { cls := .ref C, data := .fields fv }) (cls : W.clsIn K C = some cd) (some_ : cd.mro.isEmpty = false) (ob : cd.mro.contains (.type "object") = true)
    (ps : refuseLoop (.ref x) "__setattr__" cd.mro = pure ()) (hd : cd.hasDict = true) (none_ : W.findIn K (.ref C) name = some none)
    (q : ∀ h' tk' dx, (∀ b o, b ≠ x → hp.get? b = some o → h'.get? b = some o) → hp.objs.size ≤ dx → dx ≠ x → h'.get? x = some { cls := .ref C, dict := some dx, data := .fields fv } →
      h'.Ns1 dx (fun y => if y = name then some v else none) → R (.ok (.ret .none)) ⟨h', g, d, tk', os⟩) :  -- own
    codeAny (model prog w) A (.call (.builtin "object.__setattr__") ⟨[.ref x, .str name tk, v], []⟩) R ⟨hp, g, d, t, os⟩ := by  -- own
  have old : x ≠ hp.objs.size := Nat.ne_of_lt (Heap.lt_size at_x)
  have ia : W.InstAt hp x { cls := .ref C, data := .fields fv } C none := ⟨at_x, rfl, rfl, trivial⟩
  have isob : W.Looks (model prog w) hp (isInstance (.ref x) (.type "object")) true := ia.type.andThen (W.looks_mroIn kin (by unfold W.mroIn; rw [cls, Option.bind_some, if_neg (by rw [some_]; decide), ob]))
  refine codeAny_call_builtin F.store_object.slot.plain F.store_object.entry (@W.check_slot (model prog w) _ _ ⟨hp, g, d, t, os⟩ "object.__setattr__" "object" "__setattr__" (.ref x) [.str name tk, v] [] _ F.store_object.kind F.store_object.split isob (F.store_object.args (.ref x) (.str name tk) v) ?_)
  have own : W.Looks (model prog w) hp (classData C) cd := W.looks_clsIn kin cls
  have line : W.Looks (model prog w) hp (mroOf (.ref C)) cd.mro := own.andThen .now
  have tk0 : W.Looks (model prog w) hp (storeTaker? none) none := .now
  rw [W.osa_eq, refuse_eq]
  refine wpAny_bind (wpAny_bind (ia.type.at (wpAny_bind (line.at ?_))))
  rw [ps]
  refine wpAny_pure (wpAny_bind (ia.type.at (wpAny_bind ((W.looks_findIn kin none_).at (wpAny_bind (tk0.at ?_))))))
  show wpAny _ _ (storeInOwnDict (.ref x) (.ref C) (.str name tk) name v false) _ _ _  -- own
  rcases cd with ⟨nm, bs, mro, ns, qn, hdd, sn, sb, ab, col, del⟩
  cases hd
  unfold storeInOwnDict ownDictForStores  -- own
  repeat (first | with_reducible refine store_in_new ?_ ?_ | with_reducible refine wpAny_loadPart_at at_x ?_ | with_reducible refine own.at ?_ | wp_step)
  · exact ⟨_, #[], _, (Heap.get?_update_ne _ _ _ _ old.symm).trans (Heap.get?_push_at rfl rfl), rfl, fun e he => absurd he (by simp), fun _ => rfl⟩
  · intro h' tk' hn' hs
    refine q h' tk' hp.objs.size (fun b o hb ho => (hs.2 b (Nat.ne_of_lt (Heap.lt_size ho))).trans ((Heap.get?_update_ne _ _ _ _ hb).trans (Heap.get?_push_of_some _ ho))) (Nat.le_refl _) old.symm ?_ hn'
    exact (hs.2 x old).trans (Heap.get?_update_self _ (Heap.get?_push_of_some _ at_x) rfl)
end
end JX
end PySem
namespace J
open PySem PySem.Spec PyProof.Rows L2  -- own
abbrev leTail : List Value := [.type "LookupError", .type "Exception", .type "BaseException", .type "object"]
/-- what the written part says of an own class over LookupError -/
structure OexL (K : PySem.W.Frag) (C : Addr) : Prop where
  cls : ∃ nm q N bs bm sn sub ab col dd k0 k1 k2 k3 k5, K.lookup C = some (excClassObj nm q C N bs bm true sn sub ab col dd k0 k1 k2 k3 k5 "LookupError.__new__") ∧ PySem.JX.Over leTail bm
  sa : PySem.W.findIn K (.ref C) "__setattr__" = some (some (.builtin "object.__setattr__"))  -- own
  ex : PySem.W.subIn K (.ref C) (.type "BaseException") = some true
  ty : PySem.W.typeIn K (.ref C) = some (.type "type")
  kp : PySem.W.keepIn K (.ref C) = true  -- own
section
variable {X : Cx} {pins : List (Addr × Obj)} {σ : L2.St} {H : Hp} {s : Shared} {a C : Addr} {f : Str} {y : V} {u : Value} {Q : Unit → Shared → Prop} {E : Value → Shared → Prop} {A : Around}
theorem set_firstL (T : OexL X.K C) (I : Inv X pins σ H s) (ea : H a = some (exo a C none)) (nf : PySem.W.findIn X.K (.ref C) f = some none) (ry : RelV y u)
    (h : ∀ dx s', H dx = none → dx ≠ a → Inv X pins σ (upd (upd H dx (exd dx [(f, y)])) a (exo a C (some dx))) s' → Q () s') : wpAny (model X.prog X.w) A (setAttr (.ref a) f u) Q E s := by  -- own
  obtain ⟨nm, q, N, bs, bm, sn, sub, ab, col, dd, k0, k1, k2, k3, k5, hC, ov⟩ := T.cls
  have cls : PySem.W.clsIn X.K C = some { name := nm, bases := bs, mro := .ref C :: bm, ns := N, qualname := q, hasDict := true, slotNames := sn, subclasses := sub, abstract := ab, collection := col, hasDel := false } := by
    unfold PySem.W.clsIn
    rw [hC]
  obtain ⟨t1, ho⟩ := exo_at I.hok ea
  cases s with
  | mk hp g d t os =>
  refine PySem.W.set_plain I.kIn (od := none) ⟨ho, rfl, rfl, trivial⟩ T.sa ?_
  refine PySem.JX.first_attr I.kIn ho cls rfl (((ov.more C).has "object").trans (by decide +kernel)) ((ov.more C).pass (PySem.F.store_LookupError.passes (.ref a))) rfl nf fun h' tk' dx stay big ne hx hn => ?_
  have free : H dx = none := I.hok.fresh big
  have else_ : ∀ {b : Addr} {o : Obj}, hp.get? b = some o → b ≠ dx := fun {b o} z e => by
    have := Heap.lt_size z
    rw [e] at this
    exact Nat.not_le_of_lt this big
  have away : ∀ {b : Addr}, H b = none → b ≠ a := fun {b} z e => by rw [e, ea] at z; cases z
  have un : Un X.fs [] H (upd (upd H dx (exd dx [(f, y)])) a (exo a C (some dx))) hp h' :=
    { keep := fun b o z n _ _ => stay b o (away n) z
      slot := fun b o z n _ _ => ⟨_, stay b o (away n) z⟩
      free := fun b o z n _ => by rw [upd_ne (away n), upd_ne (else_ z)]; exact n
      there := fun b o z _ => (Classical.em (b = a)).elim (fun e => ⟨_, e ▸ hx⟩) fun e => ⟨o, stay b o e z⟩
      tups := fun b xs z => by rw [upd_ne (at_ne ea z exo_tup), upd_ne (ne_of_none z free)]; exact z
      frzs := fun b o v z => by rw [upd_ne (at_ne ea z exo_frz), upd_ne (ne_of_none z free)]; exact z
      tbls := fun b ps z => ⟨#[], by rw [upd_ne (at_ne ea z exo_tbl), upd_ne (ne_of_none z free), z]; simp⟩ }
  refine h dx _ free ne (I.un (t' := tk') un fun b o z => ?_)
  rcases Classical.em (b = a) with e | e
  · subst e
    rw [upd_same] at z
    cases z
    exact exo_ok hx
  rw [upd_ne e] at z
  rcases Classical.em (b = dx) with e2 | e2
  · subst e2
    rw [upd_same] at z
    cases z
    exact exd_ok hn (relO_put (fs := []) ry fun _ => True.intro)
  rw [upd_ne e2] at z
  refine (I.hok b o z).stay (fun c v hc w => stay c v (hc.elim (fun q => q ▸ e) fun q => at_ne ea q exo_own) w) (fun c hc => ?_) fun c xs hc => ?_
  · rw [upd_ne (at_ne ea hc exo_own), upd_ne (ne_of_none hc free)]; exact hc
  · rw [upd_ne (at_ne ea hc exo_tup), upd_ne (ne_of_none hc free)]; exact hc
end
/-- self.f = y, of an exception that has no attribute yet -/
def tOsL (K : PySem.W.Frag) (f : Str) (to te : TE) : TS := fun D σ H => te σ H fun y H1 => to σ H1 fun x H2 => ∃ a C : Addr, x = .ref a ∧ OexL K C ∧ PySem.W.findIn K (.ref C) f = some none ∧
  H2 a = some (exo a C none) ∧ ∀ dx, H2 dx = none → dx ≠ a → D.nx σ (upd (upd H2 dx (exd dx [(f, y)])) a (exo a C (some dx)))
section
variable {X : Cx} {o e : Expr} {es : List Expr} {to te : TE} {ta : TA} {f : Str} {p p' pos : Pos}
theorem ps_osL (ho : PE X o to) (he : PE X e te) (hs : swapsWith e (some (.Attribute o f p')) pos.line X.env = pure false := by rfl) : PS X (.Assign [.Attribute o f p'] e pos) (tOsL X.K f to te) := ⟨fun pins s σ H D I h => by
  refine plainObj_wpAny_Assign_Attribute (thn (he.run pins s σ H _ I h) fun v s1 z => ?_) hs
  obtain ⟨y, H1, I1, r1, q1⟩ := z
  refine thn (ho.run pins s1 σ H1 _ I1 q1) fun u s2 z => ?_
  obtain ⟨x, H2, I2, r2, a, C, ex, T, nf, ea, q⟩ := z
  subst ex
  obtain rfl : u = Value.ref a := r2  -- own
  exact set_firstL T I2 ea nf r1 fun dx s' n ne J => ⟨σ, _, J, q dx n ne⟩⟩
theorem pmk_oexL {CX : CXT} {x : Str} {C fI : Addr} {k : Nat} {fd : FuncData} {ps : List Str} {sp : Sp} {ds : List Value} {dvs : List V} (T : OexL X.K C) (iC : PySem.W.findIn X.K (.ref C) "__init__" = some (some (.ref fI))) (tI : PySem.W.typeIn X.K (.ref fI) = some (.type "function"))
    (G : FnOk X.prog X.w X.K X.mg X.base CX k fI fd ps sp) (hr : Room (k + 1) X.A) (hb : Binds X.K fd ps ds) (hd : Vals dvs ds) (hx : Passes CX X (fun _ _ _ => False)) (hg : Gl X x) (hm : X.mg x = some (.ref C)) (ha : PA X (e :: es) ta)
    (hdb : (x == ("__debug__" : Str)) = false := by decide) (he : starEach (e :: es) X.env = (false, eval e X.env) :: starEach es X.env := by rfl) (hpl : (backTo pos (starEach es X.env)).any (·.1) = false := by rfl) :  -- own
    PMk X (.Call (.Name x p) (e :: es) [] pos) (tMkO C sp dvs ta) := fun pins s σ H Q I h => by
  obtain ⟨nm, q, N, bs, bm, sn, sub, ab, col, dd, k0, k1, k2, k3, k5, hC, ov⟩ := T.cls
  refine wpAny_Call_Name_kw (ld_glob I hg hm ?_ hdb)  -- own
  refine PySem.W.callWith_K (h₀ := X.base) I.ok.mod.kin T.kp (thn (ha.run pos pins s σ H _ I h) fun us s1 z => ?_) he hpl
  obtain ⟨vs, H1, I1, r1, hz, q1⟩ := z
  refine ⟨I1.kIn, ?_⟩
  cases s1 with
  | mk hp g dr tk os =>
  let n := hp.objs.size + 1
  let h2 := (hp.push (PySem.W.kdv_tup us)).push (PySem.HandSPX.excO C hp.objs.size)
  have le : hp.objs.size ≤ n := Nat.le_succ _
  have hq := q1 n (I1.hok.fresh le)
  have there : h2.get? n = some (PySem.HandSPX.excO C hp.objs.size) := by
    show ((hp.push (PySem.W.kdv_tup us)).push (PySem.HandSPX.excO C hp.objs.size)).get? (hp.objs.size + 1) = _
    heap_get
  have I2 : Inv X pins σ (upd H1 n (exo n C none)) ⟨h2, g, dr, tk, os⟩ := I1.laid (t' := tk) (a := n) (o := exo n C none) (h' := h2) (fun b o z => Heap.get?_push_of_some _ (Heap.get?_push_of_some _ z)) le (exo_ok there)
  have r2 : Vals (V.ref n :: (vs ++ dvs)) (Value.ref n :: (us ++ ds)) := .cons rfl (r1.append hd)
  have hl : (Value.ref n :: us ++ ds).length = ps.length := r2.length.symm.trans (G.len _ _ _ _ hq)
  have small : us.length ≤ sizeLine := by
    rw [← Paired.length r1, sizeLine_eq]; omega
  have run := G.run _ X.stack _ _ ⟨Value.ref n :: us, []⟩ (Value.ref n :: (us ++ ds)) _ _ (fun _ _ _ => False) (hr.make C us []) (I2.env0.make C us []) (hb _ (Value.ref n :: us) I2.kIn hl) r2 hq
  refine wpAny_call (PySem.HandSPX.call_own PySem.F.excBase_LookupError (fun Y => ov.has Y) (I1.kIn _ _ hC) (PySem.W.looks_findIn I1.kIn iC) (fun self => PySem.W.bind_fn I1.kIn self tI) small (codeAny_mono run fun r s' hq' => ?_))
  match r, hq' with
  | .error er, z => exact hx pins σ _ _ er s' I2 z
  | .ok .next, z => exact z.elim
  | .ok .brk, z => exact z.elim
  | .ok .cont, z => exact z.elim
  | .ok (.ret u), z =>
    obtain ⟨v, H2, os2, bare2, un2, hok2, rv, ev, d, fs, ea, ed, hd1, q2⟩ := z
    subst ev
    cases s' with
    | mk h3 g2 d2 t2 os' => exact ⟨rv, mk_end (raises_own T.ex T.ty) I1 le (fun b o z => Heap.get?_push_of_some _ (Heap.get?_push_of_some _ z)) un2 hok2 os2 bare2 ea ed hd1 q2⟩
end
end J

/-! own errors over LookupError, raised and taken; what is told of a line, and its repr -/
namespace J
open PySem PySem.Spec PyProof.Rows L2 M
def spInitL (K : PySem.W.Frag) (f : Str) : Sp := fun vs H Q _ => ∃ (a C : Addr) (v : V), vs = [.ref a, v] ∧ OexL K C ∧ PySem.W.findIn K (.ref C) f = some none ∧ H a = some (exo a C none) ∧ ∀ dx, H dx = none → dx ≠ a → Q .non (upd (upd H dx (exd dx [(f, v)])) a (exo a C (some dx)))
theorem rz_oneL {K : PySem.W.Frag} {σ : L2.St} {H1 : Hp} {C : Addr} {f : Str} {W : WX} {v : V} (T : OexL K C) (hf : PySem.W.findIn K (.ref C) f = some none) (er : Err C f v H1 (fun cls d H' => W cls d σ H')) : RzQ C (spInitL K f) W σ [v] H1 := by
  refine ⟨show 1 ≤ 1000 by decide, fun a ha => ⟨a, C, v, rfl, T, hf, upd_same, fun dx hd ne => ⟨rfl, dx, [(f, v)], upd_same, by rw [upd_ne ne, upd_same], ?_, ?_⟩⟩⟩
  · rwa [upd_ne ne] at hd
  · rw [upd_ne ne] at hd
    refine er dx _ hd (fun b o hb => ?_) upd_same
    have b1 := ne_of_none hb hd
    have b2 := ne_of_none hb ha
    rw [upd_ne b1, del_ne b2, upd_ne b2, upd_ne b1, upd_ne b2]
    exact hb
theorem asOsL {X : Cx} {K : PySem.W.Frag} {st : Stmt} {f : Str} {to te : TE} (eK : X.K = K) (h : PS X st (tOsL X.K f to te)) : PS X st (tOsL K f to te) := eK ▸ h
theorem r_osL {K : PySem.W.Frag} {σ : L2.St} {H : Hp} {f : Str} {to te : TE} {n : L2.St → Hp → Prop} {rt : VK} {bk ct : L2.St → Hp → Prop} (k : te σ H fun y H1 => to σ H1 fun x H2 => ∃ a C : Addr, x = .ref a ∧ OexL K C ∧ PySem.W.findIn K (.ref C) f = some none ∧
  H2 a = some (exo a C none) ∧ ∀ dx, H2 dx = none → dx ≠ a → n σ (upd (upd H2 dx (exd dx [(f, y)])) a (exo a C (some dx)))) : tOsL K f to te ⟨n, rt, bk, ct⟩ σ H := k
/-- what the written part says of an own error x over LookupError with one field f -/
structure OL (P : Program) (w : World) (K : PySem.W.Frag) (mg : Str → Option Value) (base : Heap) (x f : Str) (C : Addr) : Prop where
  T : OexL K C
  nf : PySem.W.findIn K (.ref C) f = some none
  gl : mg x = some (.ref C)
  ini : ∃ (fI : Addr) (fdI : FuncData), PySem.W.findIn K (.ref C) "__init__" = some (some (.ref fI)) ∧ PySem.W.typeIn K (.ref fI) = some (.type "function") ∧ FnOk P w K mg base CX0 1 fI fdI ["self", f] (spInitL K f) ∧ Binds K fdI ["self", f] []
theorem ps_rzL {X : Cx} {K : PySem.W.Frag} {W : WX} {e : Expr} {C : Addr} {x f : Str} {ta : TA} {p pos pos2 : Pos} (eK : X.K = K) (hc : X.calm = true) (tk : Takes X W) (O : OL X.prog X.w X.K X.mg X.base x f C) (hr : Room 2 X.A) (hg : Gl X x) (ha : PA X [e] ta)
    (hdb : (x == ("__debug__" : Str)) = false := by decide) (he : starEach (e :: []) X.env = (false, eval e X.env) :: starEach [] X.env := by rfl) (hpl : (backTo pos (starEach [] X.env)).any (·.1) = false := by rfl) :
    PS X (.Raise (some (.Call (.Name x p) [e] [] pos)) none pos2) (tRz C (spInitL K f) ta W) := by
  subst eK
  obtain ⟨fI, fdI, i1, i2, i3, i4⟩ := O.ini
  exact ps_rz hc tk (pmk_oexL O.T i1 i2 i3 hr i4 .nil pass0 hg O.gl ha hdb he hpl)
/-- an except clause that names another class takes none of these -/
theorem exm_other {K : PySem.W.Frag} {C B : Addr} (a : PySem.W.subIn K (.ref B) (.type "BaseException") = some true) (b : PySem.W.isClsIn K B = true) (c : PySem.W.typeIn K (.ref B) = some (.type "type")) (d : PySem.W.subIn K (.ref C) (.ref B) = some false) : PySem.W.exmOne K (.ref C) (.ref B) = some false := by
  have x : (PySem.W.subIn K (.ref B) (.type "BaseException") == some true) = true := by rw [a]; rfl
  have y : ((PySem.W.clsIn K B).isSome && PySem.W.typeIn K (.ref B) == some (.type "type")) = true := by
    rw [show (PySem.W.clsIn K B).isSome = true from b, c]; rfl
  have z : PySem.W.kitCls K (.ref C) (.ref B) = some false := by
    show (if ((PySem.W.clsIn K B).isSome && PySem.W.typeIn K (.ref B) == some (.type "type")) = true then PySem.W.subIn K (.ref C) (.ref B) else none) = some false
    rw [if_pos y, d]
  unfold PySem.W.exmOne
  rw [if_pos x, z]
/-! ### what is told of a line -/
/-- the words of a line, or the first wrong sign, or how many words there are -/
def spRefuseY (C : Addr) : Sp := fun vs H Q E => ∃ n : Int, vs = [.int n] ∧ (n ≤ 40 → Q .non H) ∧ (40 < n → Err C "many" (.int n) H E)
def spCutY (C CT : Addr) : Sp := fun vs H Q E => ∃ z : Str, vs = [.str z] ∧ Lf (cd z) ∧
  (∀ e, cutR stP (cd z) = .error e → Err C "at" (.int (e : Nat)) H E) ∧
  (∀ ws, cutR stP (cd z) = .ok ws → 40 < ws.length → Err CT "many" (.int (ws.length : Nat)) H E) ∧
  (∀ ws, cutR stP (cd z) = .ok ws → ws.length ≤ 40 → ∀ (w : Addr) (H' : Hp), H w = none → Same H H' → H' w = some (.lst (ws.map wV)) → Q (.ref w) H')
/-- at p: what is told; its words, where there are any, stand at a place that was free in H0 -/
def Told (H0 H : Hp) (p : Addr) (r : Except Nat (List (List Nat))) : Prop :=
  (∃ e, r = .error e ∧ H p = some (.lst [.str "sign", .int (e : Nat)])) ∨
  (∃ ws wd, r = .ok ws ∧ ws.length ≤ 40 ∧ H p = some (.lst [.str "told", .ref wd]) ∧ H wd = some (.lst (ws.map wV)) ∧ H0 wd = none ∧ wd ≠ p) ∨
  (∃ ws, r = .ok ws ∧ 40 < ws.length ∧ H p = some (.lst [.str "many", .int (ws.length : Nat)]))
def toldD : Except Nat (List (List Nat)) → PyData
  | .error e => .list [.str "sign", .int (e : Nat)]
  | .ok ws => if ws.length ≤ 40 then .list [.str "told", dWs ws] else .list [.str "many", .int (ws.length : Nat)]
theorem Told.dp {K : PySem.W.Frag} {H0 H : Hp} {p : Addr} {r : Except Nat (List (List Nat))} (h : Told H0 H p r) : Dp K H (.ref p) (toldD r) := by
  rcases h with ⟨e, rfl, h⟩ | ⟨ws, wd, rfl, q, h1, h2, _⟩ | ⟨ws, rfl, q, h⟩
  · exact .lst (SqL.of h) (.cons (.str _) (.cons (.int _) .nil))
  · simp only [toldD, if_pos q]
    exact .lst (SqL.of h1) (.cons (.str _) (.cons (dp_ws (SqL.of h2)) .nil))
  · simp only [toldD, if_neg (Nat.not_le_of_lt q)]
    exact .lst (SqL.of h) (.cons (.str _) (.cons (.int _) .nil))
theorem Told.mono {H0 H H' : Hp} {p : Addr} {r : Except Nat (List (List Nat))} (s : Same H H') (h : Told H0 H p r) : Told H0 H' p r := by
  rcases h with ⟨e, er, h⟩ | ⟨ws, wd, er, q, h1, h2, h3⟩ | ⟨ws, er, q, h⟩
  · exact .inl ⟨e, er, s _ _ h⟩
  · exact .inr (.inl ⟨ws, wd, er, q, s _ _ h1, s _ _ h2, h3⟩)
  · exact .inr (.inr ⟨ws, er, q, s _ _ h⟩)
theorem Told.back {H0 H1 H : Hp} {p : Addr} {r : Except Nat (List (List Nat))} (s : Same H0 H1) (h : Told H1 H p r) : Told H0 H p r := by
  rcases h with h | ⟨ws, wd, er, q, h1, h2, h3, h4⟩ | h
  · exact .inl h
  · exact .inr (.inl ⟨ws, wd, er, q, h1, h2, s.none h3, h4⟩)
  · exact .inr (.inr h)
/-- small enough to be shown -/
def Small (r : Except Nat (List (List Nat))) : Prop := match r with
  | .error e => e ≤ 100000
  | .ok ws => ws.length ≤ 100000 ∧ ∀ w ∈ ws, w.length ≤ 40 ∧ ∀ c ∈ w, c ≤ 126
theorem show_w {w : List Nat} (h : w.length ≤ 40 ∧ ∀ c ∈ w, c ≤ 126) : (PyData.shown (dW w)).length ≤ 402 := by
  have := PySem.StrLaws.reprText_len (S w) (fun c hc => by rw [S_cps] at hc; have := h.2 c hc; exact Nat.lt_of_le_of_lt this (by decide))
  rw [S_len] at this
  exact Nat.le_trans this (by have := h.1; omega)
theorem show_ws : ∀ {ws : List (List Nat)}, (∀ w ∈ ws, w.length ≤ 40 ∧ ∀ c ∈ w, c ≤ 126) → ((PyData.shownAll (ws.map dW)).map (·.length)).sum ≤ 402 * ws.length ∧ (PyData.shownAll (ws.map dW)).length = ws.length ∧ PyData.showableAll (ws.map dW) = true ∧ PyData.hasDictAll (ws.map dW) = false
  | [], _ => ⟨Nat.le_refl _, rfl, rfl, rfl⟩
  | w :: ws, h => by
    obtain ⟨a, b, c, d⟩ := show_ws (ws := ws) fun x hx => h x (List.mem_cons_of_mem _ hx)
    have := show_w (h w (List.mem_cons_self ..))
    refine ⟨?_, by rw [List.map_cons, PyData.shownAll, List.length_cons, b, List.length_cons], ?_, ?_⟩
    · rw [List.map_cons, PyData.shownAll, List.map_cons, List.sum_cons, List.length_cons]; omega
    · show (PyData.showable (dW w) && PyData.showableAll (ws.map dW)) = true
      rw [c]; rfl
    · show (PyData.hasDict (dW w) || PyData.hasDictAll (ws.map dW)) = false
      rw [d]; rfl
theorem log_small {n : Nat} (h : n ≤ 100000) : (n : Int).natAbs.log2 < 1920 := by
  rw [Int.natAbs_natCast]
  by_cases h0 : n = 0
  · subst h0; decide
  · exact Nat.lt_of_lt_of_le ((Nat.log2_lt h0).mpr (Nat.lt_of_le_of_lt h (show 100000 < 2 ^ 20 by decide))) (by decide)
theorem show_i {n : Nat} (h : n ≤ 100000) : (PyData.shown (.int (n : Nat))).length ≤ 21 := by
  show (Str.ofString (toString (n : Int))).length ≤ 21
  have := int_text_length_le (a := (n : Int)) (k := 20) (by decide) (by
    rw [Int.natAbs_natCast]
    by_cases h0 : n = 0
    · subst h0; decide
    · exact (Nat.log2_lt h0).mpr (Nat.lt_of_le_of_lt h (by decide)))
  have e : (Str.ofString (toString (n : Int))).length = (toString (n : Int)).length := PySem.ofString_length _
  omega
theorem show_two {t : Str} {d : PyData} {n : Nat} (ht : (PyData.shown (.str t)).length ≤ 10) (hd : d.shown.length ≤ n) : (PyData.shown (.list [.str t, d])).length ≤ n + 17 := by
  have := listText_len_le (PyData.shownAll [.str t, d])
  simp only [PyData.shownAll, List.map_cons, List.map_nil, List.sum_cons, List.sum_nil, List.length_cons, List.length_nil] at this
  show (listText (PyData.shownAll [.str t, d])).length ≤ _
  simp only [PyData.shownAll]
  omega
/-- what may be asked for its repr -/
def Showy (d : PyData) : Prop := d.showable = true ∧ d.depth ≤ 60 ∧ d.hasDict = false ∧ d.shown.length ≤ sizeLine
theorem showy_told {r : Except Nat (List (List Nat))} (h : Small r) : Showy (toldD r) := by
  cases r with
  | error e =>
    have h : e ≤ 100000 := h
    refine ⟨?_, by simp [toldD, PyData.depth, PyData.depthAll], rfl, Nat.le_trans (show_two (t := "sign") (by decide +kernel) (show_i h)) (by decide)⟩
    show (PyData.showable (.str "sign") && (PyData.showable (.int (e : Nat)) && true)) = true
    rw [show PyData.showable (.int (e : Nat)) = true from decide_eq_true (log_small h)]; rfl
  | ok ws =>
    obtain ⟨h1, h2⟩ : ws.length ≤ 100000 ∧ ∀ w ∈ ws, w.length ≤ 40 ∧ ∀ c ∈ w, c ≤ 126 := h
    by_cases q : ws.length ≤ 40
    · simp only [toldD, if_pos q]
      obtain ⟨a, b, c, d⟩ := show_ws h2
      have e : (PyData.shown (dWs ws)).length ≤ 20000 := by
        have := listText_len_le (PyData.shownAll (ws.map dW))
        show (listText (PyData.shownAll (ws.map dW))).length ≤ _
        omega
      refine ⟨?_, ?_, ?_, Nat.le_trans (show_two (t := "told") (by decide +kernel) e) (by decide)⟩
      · show (PyData.showable (.str "told") && (PyData.showableAll (ws.map dW) && true)) = true
        rw [c]; rfl
      · simp [PyData.depth, PyData.depthAll, dWs, dep_ws]
      · show (PyData.hasDict (.str "told") || (PyData.hasDictAll (ws.map dW) || false)) = false
        rw [d]; rfl
    · simp only [toldD, if_neg q]
      refine ⟨?_, by simp [PyData.depth, PyData.depthAll], rfl, Nat.le_trans (show_two (t := "many") (by decide +kernel) (show_i h1)) (by decide)⟩
      show (PyData.showable (.str "many") && (PyData.showable (.int (ws.length : Nat)) && true)) = true
      rw [show PyData.showable (.int (ws.length : Nat)) = true from decide_eq_true (log_small h1)]; rfl
theorem r_repr {K : PySem.W.Frag} {H : Hp} {Q : VK} {x : V} {d : PyData} (h : Dp K H x d) (s : Showy d) (k : Q (.str d.shown) H) : rRepr K [x] H Q := ⟨x, d, rfl, h, s.1, s.2.1, s.2.2.1, s.2.2.2, k⟩
def spTells (st : Sc → Nat → Nat → Except Nat Sc) : Sp := fun vs H Q _ => ∃ z : Str, vs = [.str z] ∧ Lf (cd z) ∧ ∀ (p : Addr) (H' : Hp), Same H H' → H p = none → Told H H' p (cutR st (cd z)) → Q (.ref p) H'
end J

/-! what is told of a line is small -/
namespace J
open PySem PySem.Spec PyProof.Rows L2 M
def Mid (i : Nat) (s : Sc) : Prop := s.op ≤ i ∧ s.ws.length ≤ i ∧ (∀ w ∈ s.ws, w.length ≤ 40) ∧ (s.bg.getD []).length ≤ 40
theorem mid_step {s t : Sc} {i c : Nat} (m : Mid i s) (e : stP s i c = .ok t) : Mid (i + 1) t := by
  obtain ⟨ws, bg, qt, op, tk⟩ := s
  obtain ⟨m1, m2, m3, m4⟩ := m
  simp only at m1 m2 m3 m4
  unfold stP at e
  simp only at e
  have up : ∀ {b : Option (List Nat)} {q : Nat} {o : Nat} {k : Bool}, o ≤ i + 1 → (b.getD []).length ≤ 40 → Mid (i + 1) ⟨ws, b, q, o, k⟩ := fun h1 h2 => ⟨h1, by show ws.length ≤ _; omega, m3, h2⟩
  split at e
  · cases e
  split at e
  · split at e
    · cases e
    · rename_i h
      cases e
      exact up (by omega) (by simpa using h)
  split at e
  · cases e; exact up (by omega) m4
  split at e
  · cases e; exact up (by omega) m4
  split at e
  · cases e; exact up (by omega) (by simpa using m4)
  split at e
  · cases e
    cases bg with
    | none => exact ⟨by show op ≤ _; omega, by show ws.length ≤ _; omega, m3, Nat.zero_le _⟩
    | some b =>
      refine ⟨by show op ≤ _; omega, by show (ws ++ [b]).length ≤ _; rw [List.length_append]; simp; omega, fun w hw => ?_, Nat.zero_le _⟩
      rcases List.mem_append.mp hw with h | h
      · exact m3 w h
      · rw [List.mem_singleton.mp h]; exact m4
  split at e
  · cases e
  · rename_i h
    cases e
    exact up (by omega) (by simpa using h)
theorem err_step {s : Sc} {i c e : Nat} (h : stP s i c = .error e) : e = i := by
  unfold stP at h
  repeat' split at h
  all_goals first | (injection h with h; exact h.symm) | (cases h; done)
theorem mid_scan : ∀ (l : List Nat) (i : Nat) (s : Sc), Mid i s → match M.scan stP i s l with | .ok t => Mid (i + l.length) t | .error e => e < i + l.length
  | [], i, s, m => m
  | c :: l, i, s, m => by
    simp only [M.scan]
    cases q : stP s i c with
    | error e =>
      have := err_step q
      show e < _
      rw [List.length_cons]; omega
    | ok t =>
      have := mid_scan l (i + 1) t (mid_step m q)
      rw [List.length_cons, show i + (l.length + 1) = i + 1 + l.length by omega]
      exact this
theorem small_cut {l : List Nat} (h : Lf l) : Small (cutR stP l) := by
  have m := mid_scan l 0 sc0 ⟨Nat.le_refl _, Nat.le_refl _, fun _ h => (List.not_mem_nil h).elim, Nat.zero_le _⟩
  rw [Nat.zero_add] at m
  have h1 := h.1
  unfold cutR
  cases q : M.scan stP 0 sc0 l with
  | error e =>
    rw [q] at m
    exact show e ≤ 100000 by have : e < l.length := m; omega
  | ok t =>
    rw [q] at m
    obtain ⟨m1, m2, m3, m4⟩ := m
    by_cases k1 : t.tk = true
    · simp only [if_pos k1]; exact show l.length - 1 ≤ 100000 by omega
    simp only [if_neg k1]
    by_cases k2 : t.qt ≠ 0
    · simp only [if_pos k2]; exact show t.op ≤ 100000 by omega
    simp only [if_neg k2]
    have wd := scan_wd (fun c hc => by have := h.2 c hc; omega) q
    refine ⟨?_, fun w hw => ?_⟩
    · show (t.ws ++ t.bg.toList).length ≤ _
      have : t.bg.toList.length ≤ 1 := by cases t.bg <;> simp
      rw [List.length_append]; omega
    · rcases List.mem_append.mp hw with x | x
      · exact ⟨m3 w x, wd.1 w x⟩
      · cases b : t.bg with
        | none => rw [b] at x; cases x
        | some y =>
          rw [b] at x m4 wd
          rw [List.mem_singleton.mp x]
          exact ⟨m4, wd.2⟩
end J

/-! whole lines of up to forty words; texts some times over -/
namespace J
open PySem PySem.Spec PyProof.Rows L2 M
theorem scan_ws {l : List Nat} {t : Sc} (h : M.scan stP 0 sc0 l = .ok t) : t.ws.length ≤ l.length := by
  have m := mid_scan l 0 sc0 ⟨Nat.le_refl _, Nat.le_refl _, fun _ h => (List.not_mem_nil h).elim, Nat.zero_le _⟩
  rw [h] at m
  have := m.2.1
  omega
theorem scanL_ws {l : List Nat} {t : Sc} (n : ∀ c ∈ l, c ≠ 0) (h : M.scan stL 0 sc0 l = .ok t) : t.ws.length ≤ l.length := by
  have q := scan_eq l 0 sc0 ⟨.inl rfl, fun h => by cases h⟩ n
  cases e : M.scan stP 0 sc0 l with
  | error x =>
    rw [e] at q
    rw [show M.scan stL 0 sc0 l = _ from q] at h
    cases h
  | ok u =>
    rw [e] at q
    rw [show M.scan stL 0 sc0 l = _ from q.1] at h
    cases h
    have := scan_ws e
    obtain ⟨ws, bg, qt, op, tk⟩ := u
    unfold lw
    split <;> exact this
theorem foldl_cat (l : Array Nat) : ∀ (k : Nat) (acc : Array Nat), ((List.replicate k l).foldl (· ++ ·) acc).toList = acc.toList ++ (List.replicate k l.toList).flatten
  | 0, acc => by simp
  | k + 1, acc => by
    rw [List.replicate_succ, List.foldl_cons, foldl_cat l k, List.replicate_succ, List.flatten_cons]
    simp
theorem mul_cd (z : Str) (n : Nat) : cd (Txt.mul z (n : Int)) = (List.replicate n (cd z)).flatten := by
  unfold Txt.mul
  by_cases h1 : (n : Int) < 1
  · rw [if_pos h1, show n = 0 by omega]; rfl
  · rw [if_neg h1]
    by_cases h2 : n = 1
    · subst h2; simp
    · by_cases h3 : z.length = 0
      · rw [if_pos (by rw [h3]; simp)]
        have e : cd z = [] := by rw [len_cd] at h3; exact List.eq_nil_of_length_eq_zero h3
        rw [e]
        simp
      · rw [if_neg (by simp; omega)]
        show ((List.replicate ((n : Nat) : Int).toNat z.cps).foldl (· ++ ·) #[]).toList = _
        rw [foldl_cat, Int.toNat_natCast]; simp
theorem mul_ok {z : Str} {n : Nat} (hz : z.length ≤ 1000) (hn : n ≤ 1000) : MulOk z (n : Int) := by
  refine ⟨by simp; omega, fun h1 _ => ?_, fun h1 _ => ?_⟩
  · have : (1000 : Int) ≤ (2 ^ 63 - 1) / (n : Int) := Int.le_ediv_of_mul_le (by omega) (by omega)
    omega
  · have : z.length * ((n : Nat) : Int).toNat ≤ 1000 * 1000 := Nat.mul_le_mul hz (by omega)
    unfold Builtin.Str.tooLong
    refine decide_eq_false (Nat.not_lt.mpr (Nat.le_trans this (by decide)))
theorem rep_len (n : Nat) (l : List Nat) : (List.replicate n l).flatten.length = n * l.length := by simp
theorem rep_mem {n : Nat} {l : List Nat} {c : Nat} (h : c ∈ (List.replicate n l).flatten) : c ∈ l := by
  obtain ⟨m, hm, hc⟩ := List.mem_flatten.mp h
  rw [(List.mem_replicate.mp hm).2] at hc
  exact hc
theorem wro_len {l o : List Nat} (h : WrO l o) : o.length ≤ 4 + 4 * l.length := by
  rcases h with ⟨_, h⟩ | ⟨_, h⟩
  · simp only [List.mem_cons, List.not_mem_nil, or_false] at h  -- own
    rcases h with h | h | h | h <;> subst h <;> simp only [List.length_cons, List.length_nil] <;> omega
  · have := h.len; omega
/-- a line of these words, not long -/
def LineA (ls : List (List Nat)) (f : List Nat) : Prop := f.length ≤ 1200 ∧ (∀ c ∈ f, c = 10 ∨ 32 ≤ c ∧ c ≤ 126) ∧ ∃ t, M.scan stP 0 sc0 f = .ok t ∧ t.tk = false ∧ t.qt = 0 ∧ fin t = ls
theorem LineA.cut {ls : List (List Nat)} {f : List Nat} (h : LineA ls f) : cutR stP f = .ok ls := by
  obtain ⟨_, _, t, e, h1, h2, h3⟩ := h
  unfold cutR
  rw [e]
  simp only [h1, Bool.false_eq_true, if_false]
  rw [if_neg (fun q => q h2), h3]
theorem LineA.lf {ls : List (List Nat)} {f : List Nat} (h : LineA ls f) : Lf f := ⟨Nat.le_trans h.1 (by decide), h.2.1⟩
def spGood : Sp := fun vs H Q _ => ∃ (b : Addr) (n : Nat), vs = [.ref b] ∧ Bx H b n ∧ n ≤ 500000000 ∧ ∀ (ls : List (List Nat)) (f : List Nat) (p wd : Addr) (H' : Hp), ls.length ≤ 40 → (∀ l ∈ ls, Wd l) → LineA ls f → Keep b H H' → Bx H' b (n + 100000) →
  H' p = some (.tup [.ref wd, .str (S f)]) → H' wd = some (.lst (ls.map wV)) → p ≠ b → wd ≠ b → Q (.ref p) H'
def spLineZ : Sp := fun vs H Q _ => ∃ (b : Addr) (n : Nat), vs = [.ref b] ∧ Bx H b n ∧ n ≤ 400000000 ∧ ∀ (f : List Nat) (H' : Hp), f.length ≤ 1300 → (∀ c ∈ f, c = 10 ∨ 32 ≤ c ∧ c ≤ 126) → Keep b H H' → Bx H' b (n + 200000) → Q (.str (S f)) H'
def spRightZ : Sp := fun vs H Q _ => ∃ z : Str, vs = [.str z] ∧ Lf (cd z) ∧ ∀ H', Same H H' → Q (.bl true) H'
theorem sh_told {ls : List (List Nat)} (h : ∀ l ∈ ls, Wd l) : SeqAt.shaped (.list [.str "told", dWs ls]) = true := sh_two (by decide +kernel) (wd126 h)
end J

namespace J
open PySem PySem.Spec PyProof.Rows L2 M
theorem Bx.same {b : Addr} {H H' : Hp} {n : Nat} (h : Bx H b n) (s : Same H H') : Bx H' b n := let ⟨x, y, z, e, r⟩ := h; ⟨x, y, z, s _ _ e, r⟩
theorem lf_app {x y : Str} (hx : (cd x).length ≤ 1000) (hy : (cd y).length ≤ 1000) (cx : ∀ c ∈ cd x, c = 10 ∨ 32 ≤ c ∧ c ≤ 126) (cy : ∀ c ∈ cd y, c = 10 ∨ 32 ≤ c ∧ c ≤ 126) : Lf (cd (x ++ y)) := by
  rw [cd_app]
  refine ⟨by rw [List.length_append]; omega, fun c hc => (List.mem_append.mp hc).elim (cx c) (cy c)⟩
end J

/-! what is told of a line that breaks off, and its repr -/
namespace J
open PySem PySem.Spec PyProof.Rows L2 M
def stR (st : Sc → Nat → Nat → Except Nat Sc) (l : List Nat) : Except Nat Sc := match M.scan st 0 sc0 l with
  | .error e => .error e
  | .ok t => if t.tk = true then .error (l.length - 1) else .ok t
def cnt (t : Sc) : Nat := t.ws.length + t.bg.toList.length
theorem stR_eq {l : List Nat} (h : ∀ c ∈ l, c ≠ 0) : stR stL l = stR stP l := by
  have q := scan_eq l 0 sc0 ⟨.inl rfl, fun h => by cases h⟩ h
  unfold stR
  cases e : M.scan stP 0 sc0 l with
  | error x => rw [e] at q; rw [show M.scan stL 0 sc0 l = _ from q]
  | ok t =>
    rw [e] at q
    rw [show M.scan stL 0 sc0 l = _ from q.1]
    obtain ⟨ws, bg, qt, op, tk⟩ := t
    cases tk <;> rfl
def ToldS (F : Prop) (H0 H : Hp) (p : Addr) (r : Except Nat Sc) : Prop :=
  (∃ e, r = .error e ∧ H p = some (.lst [.str "sign", .int (e : Nat)])) ∨
  (∃ t q wd, r = .ok t ∧ cnt t ≤ 40 ∧ H p = some (.lst [.str "told", .ref q]) ∧ H q = some (.tup [.ref wd, obV t.bg, .str (qS t.qt)]) ∧ H wd = some (.lst (t.ws.map wV)) ∧ (F → H0 wd = none) ∧ wd ≠ p ∧ wd ≠ q) ∨
  (∃ t, r = .ok t ∧ 40 < cnt t ∧ H p = some (.lst [.str "many", .int (cnt t : Nat)]))
def obD : Option (List Nat) → PyData
  | none => .none
  | some l => dW l
def stD3 (t : Sc) : PyData := .tuple [dWs t.ws, obD t.bg, .str (qS t.qt)]
def tlS : Except Nat Sc → PyData
  | .error e => .list [.str "sign", .int (e : Nat)]
  | .ok t => if cnt t ≤ 40 then .list [.str "told", stD3 t] else .list [.str "many", .int (cnt t : Nat)]
theorem dp_ob {K : PySem.W.Frag} {H : Hp} : ∀ b : Option (List Nat), Dp K H (obV b) (obD b)
  | none => .non
  | some l => .str _
theorem ToldS.dp {F : Prop} {K : PySem.W.Frag} {H0 H : Hp} {p : Addr} {r : Except Nat Sc} (h : ToldS F H0 H p r) : Dp K H (.ref p) (tlS r) := by
  rcases h with ⟨e, rfl, h⟩ | ⟨t, q, wd, rfl, c, h1, h2, h3, _⟩ | ⟨t, rfl, c, h⟩
  · exact .lst (SqL.of h) (.cons (.str _) (.cons (.int _) .nil))
  · simp only [tlS, if_pos c]
    exact .lst (SqL.of h1) (.cons (.str _) (.cons (.tup (SqT.of h2) (.cons (dp_ws (SqL.of h3)) (.cons (dp_ob _) (.cons (.str _) .nil)))) .nil))
  · simp only [tlS, if_neg (Nat.not_le_of_lt c)]
    exact .lst (SqL.of h) (.cons (.str _) (.cons (.int _) .nil))
theorem ToldS.mono {F : Prop} {H0 H H' : Hp} {p : Addr} {r : Except Nat Sc} (s : Same H H') (h : ToldS F H0 H p r) : ToldS F H0 H' p r := by
  rcases h with ⟨e, er, h⟩ | ⟨t, q, wd, er, c, h1, h2, h3, h4⟩ | ⟨t, er, c, h⟩
  · exact .inl ⟨e, er, s _ _ h⟩
  · exact .inr (.inl ⟨t, q, wd, er, c, s _ _ h1, s _ _ h2, s _ _ h3, h4⟩)
  · exact .inr (.inr ⟨t, er, c, s _ _ h⟩)
def SmallS (r : Except Nat Sc) : Prop := match r with
  | .error e => e ≤ 100000
  | .ok t => t.ws.length ≤ 100000 ∧ (∀ w ∈ t.ws, w.length ≤ 40 ∧ ∀ c ∈ w, c ≤ 126) ∧ ((t.bg.getD []).length ≤ 40 ∧ ∀ c ∈ t.bg.getD [], c ≤ 126) ∧ (t.qt = 0 ∨ t.qt = 39 ∨ t.qt = 34)
theorem small_st {l : List Nat} (h : Lf l) : SmallS (stR stP l) := by
  have m := mid_scan l 0 sc0 ⟨Nat.le_refl _, Nat.le_refl _, fun _ h => (List.not_mem_nil h).elim, Nat.zero_le _⟩
  have g := scan_eq l 0 sc0 ⟨.inl rfl, fun h => by cases h⟩ (lf_ne h)
  rw [Nat.zero_add] at m
  have h1 := h.1
  unfold stR
  cases q : M.scan stP 0 sc0 l with
  | error e =>
    rw [q] at m
    exact show e ≤ 100000 by have : e < l.length := m; omega
  | ok t =>
    rw [q] at m g
    obtain ⟨m1, m2, m3, m4⟩ := m
    by_cases k1 : t.tk = true
    · simp only [if_pos k1]; exact show l.length - 1 ≤ 100000 by omega
    simp only [if_neg k1]
    have wd := scan_wd (fun c hc => by have := h.2 c hc; omega) q
    exact ⟨by omega, fun w hw => ⟨m3 w hw, wd.1 w hw⟩, ⟨m4, wd.2⟩, g.2.1⟩
theorem show_ob {b : Option (List Nat)} (h : (b.getD []).length ≤ 40 ∧ ∀ c ∈ b.getD [], c ≤ 126) : (PyData.shown (obD b)).length ≤ 402 ∧ (obD b).showable = true ∧ (obD b).hasDict = false ∧ (obD b).depth = 0 := by
  cases b with
  | none => exact ⟨by decide +kernel, rfl, rfl, rfl⟩
  | some l => exact ⟨show_w h, rfl, rfl, rfl⟩
theorem show_qs {q : Nat} (h : q = 0 ∨ q = 39 ∨ q = 34) : (PyData.shown (.str (qS q))).length ≤ 10 := by
  rcases h with rfl | rfl | rfl <;> decide +kernel
theorem showy_st {r : Except Nat Sc} (h : SmallS r) : Showy (tlS r) := by
  cases r with
  | error e =>
    have h : e ≤ 100000 := h
    refine ⟨?_, by simp [tlS, PyData.depth, PyData.depthAll], rfl, Nat.le_trans (show_two (t := "sign") (by decide +kernel) (show_i h)) (by decide)⟩
    show (PyData.showable (.str "sign") && (PyData.showable (.int (e : Nat)) && true)) = true
    rw [show PyData.showable (.int (e : Nat)) = true from decide_eq_true (log_small h)]; rfl
  | ok t =>
    obtain ⟨h1, h2, h3, h4⟩ : t.ws.length ≤ 100000 ∧ (∀ w ∈ t.ws, w.length ≤ 40 ∧ ∀ c ∈ w, c ≤ 126) ∧ ((t.bg.getD []).length ≤ 40 ∧ ∀ c ∈ t.bg.getD [], c ≤ 126) ∧ (t.qt = 0 ∨ t.qt = 39 ∨ t.qt = 34) := h
    by_cases q : cnt t ≤ 40
    · simp only [tlS, if_pos q]
      obtain ⟨a, b, c, d⟩ := show_ws h2
      obtain ⟨o1, o2, o3, o4⟩ := show_ob h3
      have q1 := show_qs h4
      have wl : t.ws.length ≤ 40 := by unfold cnt at q; omega
      have e : (PyData.shown (dWs t.ws)).length ≤ 20000 := by
        have := listText_len_le (PyData.shownAll (t.ws.map dW))
        show (listText (PyData.shownAll (t.ws.map dW))).length ≤ _
        omega
      have e3 : (PyData.shown (stD3 t)).length ≤ 21000 := by
        have := tupleText_len_le (PyData.shownAll [dWs t.ws, obD t.bg, .str (qS t.qt)])
        simp only [PyData.shownAll, List.map_cons, List.map_nil, List.sum_cons, List.sum_nil, List.length_cons, List.length_nil] at this
        show (tupleText (PyData.shownAll [dWs t.ws, obD t.bg, .str (qS t.qt)])).length ≤ _
        simp only [PyData.shownAll]
        omega
      refine ⟨?_, ?_, ?_, Nat.le_trans (show_two (t := "told") (by decide +kernel) e3) (by decide)⟩
      · show (PyData.showable (.str "told") && ((PyData.showableAll (t.ws.map dW) && (PyData.showable (obD t.bg) && (PyData.showable (.str (qS t.qt)) && true))) && true)) = true
        rw [c, o2]; rfl
      · simp [PyData.depth, PyData.depthAll, stD3, dWs, dep_ws, o4]
      · show (PyData.hasDict (.str "told") || ((PyData.hasDictAll (t.ws.map dW) || (PyData.hasDict (obD t.bg) || (PyData.hasDict (.str (qS t.qt)) || false))) || false)) = false
        rw [d, o3]; rfl
    · simp only [tlS, if_neg q]
      have : cnt t ≤ 100001 := by unfold cnt; have : t.bg.toList.length ≤ 1 := (by cases t.bg <;> simp); omega
      have c5 : cnt t ≤ 100000 ∨ cnt t = 100001 := by omega
      have lg : (((cnt t : Nat) : Int)).natAbs.log2 < 1920 := by
        rcases c5 with c5 | c5
        · exact log_small c5
        · rw [c5]; decide +kernel
      have sh : (PyData.shown (.int (cnt t : Nat))).length ≤ 21 := by
        rcases c5 with c5 | c5
        · exact show_i c5
        · rw [c5]; decide +kernel
      refine ⟨?_, by simp [PyData.depth, PyData.depthAll], rfl, Nat.le_trans (show_two (t := "many") (by decide +kernel) sh) (by decide)⟩
      show (PyData.showable (.str "many") && (PyData.showable (.int (cnt t : Nat)) && true)) = true
      rw [show PyData.showable (.int (cnt t : Nat)) = true from decide_eq_true lg]; rfl
def spTellsS (F : Prop) (st : Sc → Nat → Nat → Except Nat Sc) : Sp := fun vs H Q _ => ∃ z : Str, vs = [.str z] ∧ Lf (cd z) ∧ ∀ (p : Addr) (H' : Hp), Same H H' → H p = none → ToldS F H H' p (stR st (cd z)) → Q (.ref p) H'
def spStateOf (C CT : Addr) : Sp := fun vs H Q E => ∃ z : Str, vs = [.str z] ∧ Lf (cd z) ∧
  (∀ e, stR stP (cd z) = .error e → Err C "at" (.int (e : Nat)) H E) ∧
  (∀ t, stR stP (cd z) = .ok t → 40 < cnt t → Err CT "many" (.int (cnt t : Nat)) H E) ∧
  (∀ t, stR stP (cd z) = .ok t → cnt t ≤ 40 → ∀ (p wd : Addr) (H' : Hp), H p = none → H wd = none → Same H H' → H' p = some (.tup [.ref wd, obV t.bg, .str (qS t.qt)]) → H' wd = some (.lst (t.ws.map wV)) → wd ≠ p → Q (.ref p) H')
/-- for i in range(lo, lo + q) -/
theorem r_for2 {σ : L2.St} {H : Hp} {n' : L2.St → Hp → Prop} {rt : VK} {bk ct : L2.St → Hp → Prop} {lo q : Nat} {g : TG} {tb : TS} (I : Nat → L2.St → Hp → Prop) (start : I 0 σ H)
    (turn : ∀ (j : Nat) σ1 H1, j < q → I j σ1 H1 → g (.int ((lo + j : Nat))) σ1 H1 fun σ2 H2 => tb ⟨I (j + 1), rt, n', I (j + 1)⟩ σ2 H2)
    (fin : ∀ σ1 H1, I q σ1 H1 → n' σ1 H1) : LoopQ (Itr (lo : Nat) q) g tb ⟨n', rt, bk, ct⟩ σ H := by
  exact loop_of (D := ⟨n', rt, bk, ct⟩) q I start (fun j _ _ hj _ => hj) (fun _ _ _ => Nat.le_refl _) (fun j σ1 H1 x H' hj w y => by
    obtain ⟨rfl, rfl⟩ := y
    have := turn j σ1 _ hj w
    rwa [show (((lo + j : Nat)) : Int) = (lo : Int) + (j : Int) from by omega] at this) fin
theorem r_repn {l : Addr} {xs : List V} {n : Nat} {H : Hp} {Q : VK} (h : H l = some (.lst xs)) (hx : xs.length ≤ 1000) (hn : n ≤ 1000) (k : ∀ p, H p = none → Q (.ref p) (upd H p (.lst (List.replicate n xs).flatten))) : J.rMul (.ref l) (.int (n : Nat)) H Q :=
  .inr (.inr ⟨l, _, xs, rfl, rfl, h, by omega, by omega, by rw [Int.toNat_natCast]; exact Nat.le_trans (Nat.mul_le_mul hx hn) (by decide), by rw [Int.toNat_natCast]; exact k⟩)
end J

namespace J
open PySem PySem.Spec PyProof.Rows L2 M
theorem r_irng2 {ta : TA} {σ : L2.St} {H : Hp} {R : It → Hp → Prop} (k : ta σ H fun vs H1 => ∃ i j : Int, vs = [.int i, .int j] ∧ (-(2 ^ 62) ≤ i ∧ i < 2 ^ 62 ∧ -(2 ^ 62) ≤ j ∧ j < 2 ^ 62) ∧ R (Itr i (j - i).toNat) H1) : iRng2 ta σ H R := k
theorem dpa_rep {K : PySem.W.Frag} {H : Hp} {x : V} {d : PyData} (h : Dp K H x d) : ∀ n : Nat, DpAll K H (List.replicate n x) (List.replicate n d)
  | 0 => .nil
  | n + 1 => .cons h (dpa_rep h n)
theorem r_neD0 {K : PySem.W.Frag} {H : Hp} {Q : VK} {x y : V} {d e : PyData} (hd : Dp K H x d) (he : Dp K H y e) (sd : SeqAt.shaped d = true) (se : SeqAt.shaped e = true) (q : PyData.eqv d e = true) (k : Q (.bl false) H) : rNeA K x y H Q := .inr ⟨d, e, hd, he, sd, se, by rw [q]; exact k⟩
theorem rep_one (n : Nat) (x : V) : (List.replicate n [x]).flatten = List.replicate n x := by
  induction n with
  | zero => rfl
  | succ n ih => rw [List.replicate_succ, List.flatten_cons, ih]; rfl
def isSt : Except Nat Sc → Sc → Bool
  | .ok t, u => decide (t.ws = u.ws ∧ t.bg = u.bg ∧ t.qt = u.qt ∧ t.op = u.op ∧ t.tk = u.tk)
  | _, _ => false
theorem isSt_eq {r : Except Nat Sc} {u : Sc} (h : isSt r u = true) : r = .ok u := by
  cases r with
  | error e => cases h
  | ok t =>
    obtain ⟨a, b, c, d, e⟩ := of_decide_eq_true (show decide (t.ws = u.ws ∧ t.bg = u.bg ∧ t.qt = u.qt ∧ t.op = u.op ∧ t.tk = u.tk) = true from h)
    obtain ⟨ws, bg, qt, op, tk⟩ := t
    obtain ⟨ws', bg', qt', op', tk'⟩ := u
    simp only at a b c d e
    subst a b c d e
    rfl
def s39 : Sc := ⟨List.replicate 39 [97], some [98], 0, 0, false⟩
def s40 : Sc := ⟨List.replicate 40 [97], some [], 39, 80, false⟩
theorem st39 : stR stP ((List.replicate 39 [97, 32]).flatten ++ [98]) = .ok s39 := isSt_eq (by decide +kernel)
theorem st40 : stR stP ((List.replicate 40 [97, 32]).flatten ++ [39]) = .ok s40 := isSt_eq (by decide +kernel)
def d39 : PyData := .list [.str "told", .tuple [.list (List.replicate 39 (.str "a")), .str "b", .str ""]]
theorem eqv39 : PyData.eqv (tlS (.ok s39)) d39 = true ∧ SeqAt.shaped (tlS (.ok s39)) = true ∧ SeqAt.shaped d39 = true := by decide +kernel
def d41 : PyData := .list [.str "many", .int 41]
theorem eqv41 : PyData.eqv (tlS (.ok s40)) d41 = true ∧ SeqAt.shaped (tlS (.ok s40)) = true ∧ SeqAt.shaped d41 = true := by decide +kernel
theorem lf39 : Lf ((List.replicate 39 [97, 32]).flatten ++ [98]) := ⟨by decide +kernel, by decide +kernel⟩
theorem lf40 : Lf ((List.replicate 40 [97, 32]).flatten ++ [39]) := ⟨by decide +kernel, by decide +kernel⟩
theorem t39 : cd (Txt.mul "a " 39 ++ Str.ofString "b") = (List.replicate 39 [97, 32]).flatten ++ [98] := by
  rw [cd_app, show cd (Txt.mul "a " 39) = _ from mul_cd "a " 39]; decide +kernel
theorem t40 : cd (Txt.mul "a " 40 ++ Str.ofString "'") = (List.replicate 40 [97, 32]).flatten ++ [39] := by
  rw [cd_app, show cd (Txt.mul "a " 40) = _ from mul_cd "a " 40]; decide +kernel
end J

/-! questions of a text's signs; max(ints, default=d); a line's words by its gaps -/
namespace J
open PySem PySem.Spec PyProof.Rows L2 M
/-! ### questions of a text -/
def rIs (f : Str → Bool) : V → List V → Hp → VK → Prop := fun x xs H Q => ∃ a, x = .str a ∧ xs = [] ∧ True ∧ Q (.bl (f a)) H
def rWords : V → List V → Hp → VK → Prop := fun x xs H Q => ∃ a, x = .str a ∧ xs = [] ∧ a.length + 2 ≤ sizeLine ∧ rNewStrs (Txt.words a) H Q
theorem r_m0 {σ : L2.St} {H : Hp} {Q : VK} {r : V → List V → Hp → VK → Prop} {to : TE} (k : to σ H fun x H1 => (∃ a, x = .str a) ∧ r x [] H1 Q) : tM0 r to σ H Q := k
theorem r_is {f : Str → Bool} {z : Str} {H : Hp} {Q : VK} (k : Q (.bl (f z)) H) : rIs f (.str z) [] H Q := ⟨z, rfl, rfl, trivial, k⟩
theorem mA_isascii {X : Cx} : MtR X "str.isascii" (rIs Txt.isascii) := mt_isascii
theorem mA_isprintable {X : Cx} : MtR X "str.isprintable" (rIs Txt.isprintable) := mt_isprintable
theorem mA_isalnum {X : Cx} : MtR X "str.isalnum" (rIs Txt.isalnum) := mt_isalnum
theorem mA_isalpha {X : Cx} : MtR X "str.isalpha" (rIs Txt.isalpha) := mt_isalpha
theorem mA_islower {X : Cx} : MtR X "str.islower" (rIs Txt.islower) := mt_islower
theorem mA_isdigit {X : Cx} : MtR X "str.isdigit" (rIs Txt.isdigit) := mt_isdigit
theorem mA_words {X : Cx} : MtR X "str.split" rWords := mt_words
theorem all_cd {p : Nat → Bool} {z : Str} : z.cps.all p = (cd z).all p := by rw [← Array.all_toList]
theorem pr_c : ∀ c, c < 128 → Unicode.isPrintable c = decide (32 ≤ c ∧ c ≤ 126) := by decide +kernel
theorem an_c : ∀ c, c < 128 → Unicode.isAlnum c = true → 32 ≤ c ∧ c ≤ 126 ∧ c ≠ 32 ∧ c ≠ 39 ∧ c ≠ 34 ∧ c ≠ 92 := by decide +kernel
theorem sp_c : ∀ c, c < 128 → (c = 10 ∨ 32 ≤ c) → Unicode.isSpace c = decide (c = 10 ∨ c = 32) := by decide +kernel
/-- both questions together: each is a sign -/
theorem ascii_sg (z : Str) : (Txt.isascii z && Txt.isprintable z) = sg (cd z) := by
  unfold Txt.isascii Txt.isprintable sg
  rw [all_cd, all_cd, Bool.eq_iff_iff, Bool.and_eq_true, List.all_eq_true, List.all_eq_true, List.all_eq_true]
  refine ⟨fun h c hc => ?_, fun h => ⟨fun c hc => ?_, fun c hc => ?_⟩⟩
  · rw [← pr_c c (of_decide_eq_true (h.1 c hc))]
    exact h.2 c hc
  · have := of_decide_eq_true (h c hc)
    exact decide_eq_true (by omega)  -- own
  · have := of_decide_eq_true (h c hc)
    rw [pr_c c (by omega)]
    exact h c hc
/-- letters and figures: none that needs a stroke, and at least one -/
theorem alnum_sg {z : Str} (h : ∀ c ∈ cd z, 32 ≤ c ∧ c ≤ 126) (e : Txt.isalnum z = true) : cd z ≠ [] ∧ ∀ c ∈ cd z, c ∉ N1 := by
  unfold Txt.isalnum at e
  rw [all_cd, Bool.and_eq_true, List.all_eq_true] at e
  refine ⟨fun q => ?_, fun c hc => ?_⟩
  · have := of_decide_eq_true e.1
    rw [len_cd, q] at this
    exact Nat.lt_irrefl 0 this
  · have := an_c c (by have := h c hc; omega) (e.2 c hc)
    simp only [N1, List.mem_cons, List.not_mem_nil, or_false]
    omega
/-- such a word is its own shortest way -/
theorem FM_alnum {l : List Nat} (h0 : l ≠ []) (h : ∀ c ∈ l, c ∉ N1) : FM (ways l) l := by
  have e1 : esc N1 l = l := esc_none h
  have n39 : 39 ∉ l := fun q => h 39 q (by decide)
  refine ⟨0, ?_, fun j w hj => ?_⟩
  · simp only [ways, if_neg h0, e1]; rfl
  · refine ⟨?_, fun q => absurd q (Nat.not_lt_zero _)⟩
    have hw : w ∈ ways l := List.mem_of_getElem? hj
    simp only [ways, if_neg h0, if_neg n39, e1, List.cons_append, List.nil_append, List.mem_cons, List.not_mem_nil, or_false] at hw
    rcases hw with rfl | rfl | rfl
    · exact Nat.le_refl _
    · simp only [List.length_cons, List.length_append]; omega
    · have : ∀ n : List Nat, ∀ l : List Nat, l.length ≤ (esc n l).length := fun n l => by
        induction l with
        | nil => exact Nat.zero_le _
        | cons c r ih =>
          rw [esc_eq, List.map_cons, List.flatten_cons, ← esc_eq, List.length_append, List.length_cons]
          split <;> simp only [List.length_cons, List.length_nil] <;> omega
      have := this N2 l
      simp only [List.length_cons, List.length_append]; omega
/-! ### the words of a line without quotes and strokes -/
theorem run_keeps : ∀ (l : List Nat) (st : KWd.St), (∀ w ∈ st.1, w ∈ (l.foldl KWd.step st).1) ∧ (st.2.length ≤ (l.foldl KWd.step st).2.length ∨ ∃ w ∈ (l.foldl KWd.step st).1, st.2.length ≤ w.length)
  | [], st => ⟨fun _ h => h, .inl (Nat.le_refl _)⟩
  | c :: l, st => by
    rw [List.foldl_cons]
    obtain ⟨i1, i2⟩ := run_keeps l (KWd.step st c)
    unfold KWd.step at i1 i2 ⊢
    by_cases hs : Unicode.isSpace c = true
    · simp only [hs, if_true] at i1 i2 ⊢
      by_cases h0 : st.2.length = 0
      · simp only [h0, if_true] at i1 i2 ⊢
        exact ⟨i1, .inl (Nat.zero_le _)⟩
      · simp only [h0, if_false] at i1 i2 ⊢
        exact ⟨fun w hw => i1 w (List.mem_append_left _ hw), .inr ⟨st.2, i1 _ (List.mem_append_right _ (List.mem_singleton.mpr rfl)), Nat.le_refl _⟩⟩
    · simp only [hs, if_false] at i1 i2 ⊢
      have le : st.2.length ≤ (st.2 ++ ⟨#[c]⟩ : Str).length := by rw [len_app]; omega
      refine ⟨i1, i2.imp (fun h => Nat.le_trans le h) fun ⟨w, hw, h⟩ => ⟨w, hw, Nat.le_trans le h⟩⟩
def bgOf (r : Str) : Option (List Nat) := if r.length = 0 then none else some (cd r)
theorem bg_len (r : Str) : ((bgOf r).getD []).length = r.length := by
  unfold bgOf
  split
  · rename_i h; rw [h]; rfl
  · rw [len_cd]; rfl
theorem bg_getD (r : Str) : (bgOf r).getD [] = cd r := by
  unfold bgOf
  split
  · rename_i h
    rw [len_cd] at h
    exact (List.eq_nil_of_length_eq_zero h).symm
  · rfl
theorem scan_plain : ∀ (l : List Nat) (i : Nat) (st : KWd.St), (∀ c ∈ l, (c = 10 ∨ 32 ≤ c ∧ c ≤ 126) ∧ c ≠ 39 ∧ c ≠ 34 ∧ c ≠ 92) →
    (∀ w ∈ (l.foldl KWd.step st).1, w.length ≤ 40) → (l.foldl KWd.step st).2.length ≤ 40 →
    M.scan stP i ⟨st.1.map (fun z => cd z), bgOf st.2, 0, 0, false⟩ l = .ok ⟨(l.foldl KWd.step st).1.map (fun z => cd z), bgOf (l.foldl KWd.step st).2, 0, 0, false⟩
  | [], i, st, _, _, _ => rfl
  | c :: l, i, st, h, hw, hr => by
    obtain ⟨hc, n39, n34, n92⟩ := h c (List.mem_cons_self ..)
    rw [List.foldl_cons] at hw hr ⊢
    have ih := scan_plain l (i + 1) (KWd.step st c) (fun d hd => h d (List.mem_cons_of_mem _ hd)) hw hr
    have e : stP ⟨st.1.map (fun z => cd z), bgOf st.2, 0, 0, false⟩ i c = .ok ⟨(KWd.step st c).1.map (fun z => cd z), bgOf (KWd.step st c).2, 0, 0, false⟩ := by
      have sp := sp_c c (by omega) (by omega)
      have c0 : c ≠ 0 := by omega
      by_cases hs : c = 10 ∨ c = 32
      · have st1 : stP ⟨st.1.map (fun z => cd z), bgOf st.2, 0, 0, false⟩ i c = .ok ⟨(match bgOf st.2 with | some b => st.1.map (fun z => cd z) ++ [b] | none => st.1.map (fun z => cd z)), none, 0, 0, false⟩ := by
          unfold stP
          rw [if_neg (by simp), if_neg (by simp), if_neg (by simp; omega), if_neg (by simp; omega), if_neg (by simp; omega), if_pos (by simp; omega)]
          all_goals (cases bgOf st.2 <;> rfl)
        rw [st1]
        unfold KWd.step
        rw [sp, decide_eq_true hs]
        simp only [if_true]
        by_cases h0 : st.2.length = 0
        · rw [if_pos h0]
          have : bgOf st.2 = none := if_pos h0
          rw [this]
        · rw [if_neg h0]
          have b1 : bgOf st.2 = some (cd st.2) := if_neg h0
          have b2 : bgOf Str.empty = none := rfl
          rw [b1, b2, List.map_append]; rfl
      · have k : KWd.step st c = (st.1, st.2 ++ ⟨#[c]⟩) := by
          unfold KWd.step
          rw [sp, decide_eq_false hs]; rfl
        have rk := (run_keeps l (KWd.step st c)).2
        rw [k] at rk hw hr ⊢
        have le : (st.2 ++ ⟨#[c]⟩ : Str).length ≤ 40 := rk.elim (fun q => Nat.le_trans q hr) fun ⟨w, hw', q⟩ => Nat.le_trans q (hw w hw')
        rw [len_app] at le
        have le : st.2.length + 1 ≤ 40 := le
        clear rk
        have st1 : stP ⟨st.1.map (fun z => cd z), bgOf st.2, 0, 0, false⟩ i c = .ok ⟨st.1.map (fun z => cd z), some ((bgOf st.2).getD [] ++ [c]), 0, 0, false⟩ := by
          unfold stP
          rw [if_neg (by simp), if_neg (by simp), if_neg (by simp; omega), if_neg (by simp; omega), if_neg (by simp; omega), if_neg (by simp; omega), if_neg (by rw [List.length_append, bg_len]; simp only [List.length_cons, List.length_nil]; omega)]
        rw [st1, bg_getD]
        have : bgOf (st.2 ++ ⟨#[c]⟩) = some (cd st.2 ++ [c]) := by
          unfold bgOf
          rw [if_neg (by rw [len_app]; exact Nat.succ_ne_zero _), cd_app]
        rw [this]
    show (match stP ⟨st.1.map (fun z => cd z), bgOf st.2, 0, 0, false⟩ i c with | .ok t => M.scan stP (i + 1) t l | .error e => .error e) = _
    rw [e]
    exact ih
def plainWs (z : Str) : List (List Nat) := (Txt.words z).map fun y => cd y
theorem words_wV (z : Str) : (Txt.words z).map V.str = (plainWs z).map wV := by
  unfold plainWs
  rw [List.map_map]
  refine List.map_congr_left fun y _ => ?_
  show V.str y = V.str (S (cd y))
  rw [S_of]
theorem plain_few {z : Str} (h : (cd z).length ≤ 2000) : (plainWs z).length ≤ 2000 ∧ ∀ w ∈ plainWs z, w.length ≤ 2001 := by
  have q := PySem.StrLaws.words_weight z
  rw [len_cd] at q
  have e : (plainWs z).length = (Txt.words z).length := List.length_map ..
  have sm : ∀ (ns : List Nat) (n : Nat), n ∈ ns → n ≤ ns.sum := fun ns n hn => by
    induction ns with
    | nil => cases hn
    | cons m r ih =>
      rw [List.sum_cons]
      rcases List.mem_cons.mp hn with rfl | q
      · omega
      · have := ih q; omega
  have pos : ∀ y ∈ Txt.words z, 1 ≤ y.length := PySem.StrLaws.words_pos z
  have ge : ∀ ys : List Str, (∀ y ∈ ys, 1 ≤ y.length) → ys.length ≤ (ys.map (·.length)).sum := fun ys h => by
    induction ys with
    | nil => exact Nat.zero_le _
    | cons y r ih =>
      rw [List.map_cons, List.sum_cons, List.length_cons]
      have := ih fun u hu => h u (List.mem_cons_of_mem _ hu)
      have := h y (List.mem_cons_self ..)
      omega
  have g := ge _ pos
  refine ⟨by omega, fun w hw => ?_⟩
  obtain ⟨y, hy, rfl⟩ := List.mem_map.mp hw
  have := sm ((Txt.words z).map (·.length)) y.length (List.mem_map.mpr ⟨y, hy, rfl⟩)
  rw [← len_cd]
  omega
theorem r_words {z : Str} {H : Hp} {Q : VK} (h : z.length + 2 ≤ sizeLine) (k : ∀ p, H p = none → Q (.ref p) (upd H p (.lst ((plainWs z).map wV)))) : rWords (.str z) [] H Q :=
  ⟨z, rfl, rfl, h, fun p hp => by rw [words_wV]; exact k p hp⟩
/-- such a line's words, where none is too long -/
theorem cut_plain {z : Str} (h : Lf (cd z)) (h39 : 39 ∉ cd z) (h34 : 34 ∉ cd z) (h92 : 92 ∉ cd z) (hw : ∀ w ∈ plainWs z, w.length ≤ 40) : cutR stP (cd z) = .ok (plainWs z) := by
  have e : Txt.words z = KWd.fin (KWd.scan z) := KWd.words_scan z
  have hw' : ∀ y ∈ KWd.fin (KWd.scan z), y.length ≤ 40 := fun y hy => by
    rw [len_cd]
    exact hw _ (List.mem_map.mpr ⟨y, by rw [e]; exact hy, rfl⟩)
  have hs := scan_plain (cd z) 0 ([], Str.empty) (fun c hc => ⟨h.2 c hc, fun q => h39 (q ▸ hc), fun q => h34 (q ▸ hc), fun q => h92 (q ▸ hc)⟩)
    (fun w hw2 => hw' w (by unfold KWd.fin; split; exact hw2; exact List.mem_append_left _ hw2))
    (by
      show (KWd.scan z).2.length ≤ 40
      unfold KWd.fin at hw'
      by_cases h0 : (KWd.scan z).2.length = 0
      · omega
      · rw [if_neg h0] at hw'
        exact hw' _ (List.mem_append_right _ (List.mem_singleton.mpr rfl)))
  have hs : M.scan stP 0 sc0 (cd z) = .ok ⟨(KWd.scan z).1.map (fun z => cd z), bgOf (KWd.scan z).2, 0, 0, false⟩ := hs
  unfold cutR
  rw [hs]
  show Except.ok (J.fin _) = _
  unfold plainWs
  rw [e]
  unfold KWd.fin J.fin bgOf
  by_cases h0 : (KWd.scan z).2.length = 0
  · simp only [h0, if_true]; simp
  · simp only [h0, if_false]; simp
/-! ### max(ints, default=d) -/
def tMaxD (K : PySem.W.Frag) (te td : TE) : TE := fun σ H Q => te σ H fun x H1 => td σ H1 fun y H2 => ∃ (a : Addr) (ns : List Int) (d : Int), x = .ref a ∧ y = .int d ∧ SqL K H2 a (ns.map .int) ∧ ∀ m : Int, (ns = [] → m = d) → (ns ≠ [] → m ∈ ns ∧ ∀ n ∈ ns, n ≤ m) → Q (.int m) H2
theorem reads_ints {h : Heap} : ∀ {ns : List Int} {us : List Value}, Vals (ns.map V.int) us → ∃ as, ReadsAll h us (ns.map PySem.W.Datum.toD) as
  | [], _, .nil => ⟨_, .nil⟩
  | n :: ns, _, .cons r t => by
    obtain ⟨k, rfl⟩ := r
    obtain ⟨as, q⟩ := reads_ints (h := h) t
    exact ⟨_, .cons (.int n k) q⟩
theorem maxOf_int : ∀ (xs : List Int) (x : Int), PySem.W.maxOf x xs ∈ x :: xs ∧ ∀ n ∈ x :: xs, n ≤ PySem.W.maxOf x xs
  | [], x => ⟨List.mem_singleton.mpr rfl, fun n hn => by rw [List.mem_singleton.mp hn]; exact Int.le_refl _⟩
  | y :: ys, x => by
    have e : PySem.W.maxOf x (y :: ys) = PySem.W.maxOf (if x < y then y else x) ys := by
      show List.foldl _ _ _ = List.foldl _ _ _
      rw [List.foldl_cons]
      congr 1
      show (if decide (x < y) = true then y else x) = _
      by_cases h : x < y <;> simp [h]
    obtain ⟨i1, i2⟩ := maxOf_int ys (if x < y then y else x)
    rw [e]
    have i3 := i2 _ (List.mem_cons_self ..)
    refine ⟨?_, fun n hn => ?_⟩
    · rcases List.mem_cons.mp i1 with q | q
      · rw [q]
        split
        · exact List.mem_cons_of_mem _ (List.mem_cons_self ..)
        · exact List.mem_cons_self ..
      · exact List.mem_cons_of_mem _ (List.mem_cons_of_mem _ q)
    · rcases List.mem_cons.mp hn with rfl | q
      · exact Int.le_trans (by split <;> omega) i3
      · rcases List.mem_cons.mp q with rfl | q  -- own
        · exact Int.le_trans (by split <;> omega) i3
        · exact i2 n (List.mem_cons_of_mem _ q)
theorem pe_maxD {X : Cx} {e d : Expr} {te td : TE} {p kp pos : Pos} (he : PE X e te) (hd : PE X d td) (hc : X.calm = true) (hg : Gl X "max") (hm : X.mg "max" = none) (hu : X.A.units + 64 < cLine)
    (h1 : backTo pos (starEach [e] X.env) = (false, eval e X.env) :: backTo pos (starEach [] X.env) := by rfl) (h2 : (backTo pos (starEach [e] X.env)).any (·.1) = false := by rfl)
    (h3 : (backToKw pos (keywordEach [⟨some "default", d, kp⟩] X.env)).all (·.1.isSome) = true := by rfl) (h4 : (backToKw pos (keywordEach [⟨some "default", d, kp⟩] X.env)).any (·.1.isNone) = false := by rfl)
    (h0 : starEach [e] X.env = (false, eval e X.env) :: starEach [] X.env := by rfl)
    (h5 : (backToKw pos (keywordEach [⟨some "default", d, kp⟩] X.env)).filterMap (·.1) = [Str.ofString "default"] := by rfl) :
    PE X (.Call (.Name "max" p) [e] [⟨some "default", d, kp⟩] pos) (tMaxD X.K te td) := by
  refine ⟨fun pins s σ H Q I h => wpAny_Call_Name_kw (ld_blt (u := .builtin "max") I hg hm (by decide +kernel) ?_ (by decide) (by decide))⟩
  refine PyProof.Rows.callWith_kw (thn ((pa_cons he pa_nil h0).run pos pins s σ H (fun vs H1 => match vs with
    | [x] => td σ H1 fun y H2 => ∃ (a : Addr) (ns : List Int) (d : Int), x = .ref a ∧ y = .int d ∧ SqL X.K H2 a (ns.map .int) ∧ ∀ m : Int, (ns = [] → m = d) → (ns ≠ [] → m ∈ ns ∧ ∀ n ∈ ns, n ≤ m) → Q (.int m) H2
    | _ => False) I h) fun us s1 hh => ?_) h1 h2 h3 h4
  obtain ⟨vs, H1, I1, r1, q1⟩ := hh
  cases r1 with
  | nil => exact q1.elim
  | cons rx rr =>
    cases rr with
    | cons _ _ => exact q1.elim
    | nil =>
      rw [h5]
      show wpAny _ _ (evalAll [do let v ← eval d X.env; standAt pos; pure v]) _ _ s1
      refine wpAny_evalAll_cons (wpAny_bind (thn (hd.run pins s1 σ H1 _ I1 q1) fun u2 s2 ⟨y, H2, I2, ry, a, ns, d0, ex, ey, hs, q⟩ => wpAny_bind (wpAny_standAt (wpAny_pure (wpAny_evalAll_nil ?_)))))
      subst ex ey
      cases rx
      obtain ⟨t, rfl⟩ := ry
      show wpAny _ _ (call (.builtin "max") [.ref a] [(Str.ofString "default", .int d0 t)]) _ _ s2
      obtain ⟨its, rv, hL, hz⟩ := I2.list hs
      refine PySem.W.max_list_datum_default (α := Int) (xs := ns) (I2.ok.hd hc) hL.isList (show PySem.W.HoldAll s2.heap its.toArray.toList ns by rw [List.toList_toArray]; exact reads_ints rv) (by show X.A.units + 1 + 0 < cLine; omega) (fun e0 h' tk hk => ?_) fun y ys i v h' tk e0 hi hv hk => ?_
      · exact ⟨.int d0, H2, I2.kept hk, ⟨t, rfl⟩, q d0 (fun _ => rfl) fun n => absurd e0 n⟩
      · subst e0
        obtain ⟨as, r⟩ := hv
        have : ∃ t', v = .int (PySem.W.maxOf y ys) t' := by
          cases r with
          | int i t' => exact ⟨t', rfl⟩
        obtain ⟨t', rfl⟩ := this
        have m := maxOf_int ys y
        exact ⟨.int _, H2, I2.kept hk, ⟨t', rfl⟩, q _ (fun n => by cases n) fun _ => m⟩
theorem asMaxD {X : Cx} {K : PySem.W.Frag} {e : Expr} {te td : TE} (eK : X.K = K) (h : PE X e (tMaxD X.K te td)) : PE X e (tMaxD K te td) := eK ▸ h
theorem r_maxD {K : PySem.W.Frag} {σ : L2.St} {H : Hp} {Q : VK} {te td : TE} (k : te σ H fun x H1 => td σ H1 fun y H2 => ∃ (a : Addr) (ns : List Int) (d : Int), x = .ref a ∧ y = .int d ∧ SqL K H2 a (ns.map .int) ∧ ∀ m : Int, (ns = [] → m = d) → (ns ≠ [] → m ∈ ns ∧ ∀ n ∈ ns, n ≤ m) → Q (.int m) H2) : tMaxD K te td σ H Q := k
/-- a line without quotes and strokes: its words, or nothing -/
def spCutPl : Sp := fun vs H Q _ => ∃ z : Str, vs = [.str z] ∧ Lf (cd z) ∧ (∀ H', Same H H' → Q .non H') ∧
  (∀ ws, cutR stP (cd z) = .ok ws → ws.length ≤ 2000 → ∀ (w : Addr) (H' : Hp), H w = none → Same H H' → H' w = some (.lst (ws.map wV)) → Q (.ref w) H')
end J

namespace J
open PySem PySem.Spec PyProof.Rows L2 M
/-- as spCutPl, of a line without line feeds -/
def spCutPn : Sp := fun vs H Q _ => ∃ z : Str, vs = [.str z] ∧ Ln (cd z) ∧ (∀ H', Same H H' → Q .non H') ∧
  (∀ ws, cutR stP (cd z) = .ok ws → ws.length ≤ 2000 → ∀ (w : Addr) (H' : Hp), H w = none → Same H H' → H' w = some (.lst (ws.map wV)) → Q (.ref w) H')
end J

/-! set(texts), of any many, alike or not; len(set(texts)) -/
namespace J
open PySem PySem.Spec PyProof.Rows L2 M
/-- each once -/
def addU (l : List Str) (x : Str) : List Str := if x ∈ l then l else l ++ [x]
def uq (xs : List Str) : List Str := xs.foldl addU []
theorem uq_snoc (xs : List Str) (x : Str) : uq (xs ++ [x]) = addU (uq xs) x := by unfold uq; rw [List.foldl_append]; rfl
theorem addU_mem {l : List Str} {x y : Str} : y ∈ addU l x ↔ y ∈ l ∨ y = x := by
  unfold addU
  split
  · rename_i h
    exact ⟨.inl, fun q => q.elim id fun e => e ▸ h⟩
  · simp
theorem fold_mem : ∀ (xs l : List Str) (y : Str), y ∈ xs.foldl addU l ↔ y ∈ l ∨ y ∈ xs
  | [], l, y => by simp
  | x :: r, l, y => by rw [List.foldl_cons, fold_mem r, addU_mem, List.mem_cons, or_assoc]
theorem uq_mem {xs : List Str} {y : Str} : y ∈ uq xs ↔ y ∈ xs := by
  unfold uq
  rw [fold_mem]
  simp
theorem uq_len : ∀ (xs l : List Str), (xs.foldl addU l).length ≤ l.length + xs.length
  | [], l => Nat.le_refl _
  | x :: r, l => by
    rw [List.foldl_cons, List.length_cons]  -- own
    have := uq_len r (addU l x)
    have e : (addU l x).length ≤ l.length + 1 := by
      unfold addU
      split
      · omega
      · rw [List.length_append]; exact Nat.le_refl _
    omega
/-- as many as there are: just where all are unlike -/
theorem uq_all : ∀ (xs l : List Str), ((xs.foldl addU l).length = l.length + xs.length) ↔ (xs.Nodup ∧ ∀ x ∈ xs, x ∉ l)
  | [], l => by simp
  | x :: r, l => by
    rw [List.foldl_cons, List.length_cons, List.nodup_cons]
    have b := uq_len r (addU l x)
    by_cases h : x ∈ l
    · have e : addU l x = l := if_pos h
      rw [e] at b ⊢
      exact ⟨fun q => absurd q (by omega), fun q => absurd h (q.2 x (List.mem_cons_self ..))⟩
    · have e : addU l x = l ++ [x] := if_neg h
      have ih := uq_all r (l ++ [x])
      rw [e]
      rw [List.length_append] at ih
      have : l.length + [x].length + r.length = l.length + (r.length + 1) := by simp only [List.length_cons, List.length_nil]; omega
      rw [this] at ih
      rw [ih]
      refine ⟨fun q => ⟨⟨fun hx => q.2 x hx (List.mem_append_right _ (List.mem_singleton.mpr rfl)), q.1⟩, fun y hy => ?_⟩, fun q => ⟨q.1.2, fun y hy m => ?_⟩⟩
      · rcases List.mem_cons.mp hy with rfl | hy  -- own
        · exact h
        · exact fun m => q.2 y hy (List.mem_append_left _ m)
      · rcases List.mem_append.mp m with m | m
        · exact q.2 y (List.mem_cons_of_mem _ hy) m
        · rw [List.mem_singleton.mp m] at hy
          exact q.1.1 hy
theorem uq_eq (xs : List Str) : (uq xs).length = xs.length ↔ xs.Nodup := by
  have := uq_all xs []
  simpa [uq] using this
theorem uq_le (xs : List Str) : (uq xs).length ≤ xs.length := by
  have := uq_len xs []
  simpa [uq] using this
/-- which texts are in -/
def inU (l : List Str) : Str → Bool := fun y => decide (y ∈ l)
section
variable {prog : Program} {w : World} {A : Around} {R : Result → Shared → Prop} {it S : Addr} {fp wr : List Addr} {G : Array GenState → Array GenState → Prop} {n : Nat} {P : Nat → Value → Prop} {St : Nat → Shared → Prop}
theorem moves_set {s s' : Shared} {D : Str → Bool} {m : Nat} (q : Moved wr G s s') (hS : S ∉ wr) (h : s.heap.SetOf (strKind prog w) S D m) : s'.heap.SetOf (strKind prog w) S D m :=
  let ⟨o, es, ep, t, ho, r⟩ := h
  ⟨o, es, ep, t, q.heap S _ hS ho, r⟩
/-- what is taken in, text by text -/
theorem take_in (W : WalksS prog w A.in1 it fp wr G n P St) (hS : S ∉ fp) (xs : List Str) (hx : xs.length = n) (hv : ∀ i v, P i v → ∃ t, v = .str (xs.getD i Str.empty) t) (hn : n + 1 < scanBound) :
    ∀ (left i : Nat) (s : Shared), n - i = left → i ≤ n → St i s → s.heap.SetOf (strKind prog w) S (inU (uq (xs.take i))) (uq (xs.take i)).length →
      (∀ s', Moved (S :: wr) G s s' → s'.heap.SetOf (strKind prog w) S (inU (uq xs)) (uq xs).length → R (.ok (.ret .none)) s') → codeAny (model prog w) A (.builtin "set.update.loop" ⟨[.ref S, .ref it], []⟩) R s := by
  have out : S ∉ wr := fun h => hS (W.sub _ h)
  intro left
  induction left with
  | zero =>
    intro i s hl hi st h k
    obtain rfl : i = n := by omega
    refine codeAny_builtin F.entry_set_update_loop ?_  -- own
    rw [Around.under_plainId F.plain_set_update_loop]
    change wpAny _ A.in1 (pyNext (.ref it) >>= _) _ _ s
    refine wpAny_bind (W.done s _ _ st fun s1 m1 => ?_)
    change wpAny _ A.in1 (ret Value.none) _ _ s1
    rw [show xs.take i = xs from List.take_of_length_le (Nat.le_of_eq hx)] at h
    exact wpAny_pure (k s1 (m1.mono fun b hb => .tail _ hb) (moves_set m1 out h))
  | succ left ih =>
    intro i s hl hi st h k
    have lt : i < n := by omega
    refine codeAny_builtin F.entry_set_update_loop ?_  -- own
    rw [Around.under_plainId F.plain_set_update_loop]
    change wpAny _ A.in1 (pyNext (.ref it) >>= _) _ _ s
    refine wpAny_bind (W.item i s _ _ lt st fun v s1 p st1 m1 => ?_)
    obtain ⟨t, rfl⟩ := hv i v p
    have h1 := moves_set m1 out h
    generalize ex : xs.getD i Str.empty = x at h1 ⊢
    have es : xs.take (i + 1) = xs.take i ++ [x] := by
      have li : i < xs.length := by omega
      rw [List.take_add_one, List.getElem?_eq_getElem li, ← ex, List.getD_eq_getElem?_getD, List.getElem?_eq_getElem li]
      rfl
    have few : (uq (xs.take i)).length ≤ i := Nat.le_trans (uq_le _) (by rw [List.length_take]; omega)
    change wpAny _ A.in1 (holding [Value.str x t] (setAdd S (.str x t)) >>= _) _ _ s1
    refine wpAny_bind (wpAny_holding ?_)  -- own
    unfold setAdd
    refine wpAny_holding (wpAny_bind ((strKind prog w).pyHash (k := x) (strKind_is _ _ _ _) ?_))
    refine wpAny_setAddHashed_of (knd := strKind prog w) (s := { s1 with toks := s1.toks + 1 }) (strKind_is _ _ _ _) rfl h1 (by omega) fun h' sb h2 => ?_
    have h3 : h'.SetOf (strKind prog w) S (inU (uq (xs.take (i + 1)))) (uq (xs.take (i + 1))).length := by
      rw [es, uq_snoc]
      refine SetOf_congr h2 (fun y => ?_) ?_
      · unfold inU
        rw [← Bool.decide_or]
        exact decide_eq_decide.mpr addU_mem.symm
      · unfold inU addU
        by_cases q : x ∈ uq (xs.take i)
        · rw [if_pos (decide_eq_true q), if_pos q]
        · rw [if_neg (by rw [decide_eq_false q]; exact Bool.false_ne_true), if_neg q, List.length_append]; rfl
    have keep : ∀ b o, b ≠ S → s1.heap.get? b = some o → h'.get? b = some o := fun b o ne e => by rw [sb.2 b ne]; exact e
    refine wpAny_pure ⟨plainId_quiet F.plain_set_update_loop _, ih (i + 1) _ (by omega) lt (W.frame _ s1 _ _ st1 (Nat.le_succ _) fun b hb o e => keep b o (fun q => hS (q ▸ hb)) e) h3 fun s2 m2 q => k s2 ?_ q⟩
    exact Moved.trans W.gtrans ((m1.mono fun b hb => .tail _ hb).then_heap (Nat.le_succ _) fun b o nb e => keep b o (fun q => nb (q ▸ .head _)) e) m2
end
/-- a set as it is made -/
abbrev set0 (led : Bool) : Obj := { cls := .type "set", dict := none, data := .set #[] 0 (.fresh 0 0 led) }
/-- what is walked for its items, one behind the other, none of it changed but the iterator itself -/
structure Wk (prog : Program) (w : World) (l : Addr) (o : Obj) (items : Array Value) (itO : Obj) : Prop where
  fr : itO.isFreed = false
  it : ∀ {A : Around} {E Q : Value → Shared → Prop} {s : Shared}, s.heap.get? l = some o → Q (.ref s.heap.objs.size) { s with heap := s.heap.push itO } → wpAny (model prog w) A (pyIter (.ref l)) Q E s
  wk : ∀ {A : Around} {I : Addr} {h : Heap}, A.handled = none → l ≠ I → h.get? I = some itO → h.get? l = some o → ∃ (G : Array GenState → Array GenState → Prop) (St : Nat → Shared → Prop), (∀ a b, G a b → b = a) ∧
    WalksS prog w A I [I, l] [I] G items.size (fun i v => items[i]? = some v) St ∧ ∀ s : Shared, s.heap = h → St 0 s
theorem wk_list {prog : Program} {w : World} {l : Addr} {o : Obj} {items : Array Value} {n : Nat} (hc : o.cls = .type "list") (hd : o.data = .seq items n) : Wk prog w l o items { cls := .type "list_iterator", data := .fields #[.ref l, .int 0 0] } where
  fr := rfl
  it := fun ho q => wpAny_pyIter_list ⟨o, ho, hc, n, hd⟩ q
  wk := fun hh ne hI ho => ⟨_, _, fun _ _ e => e, (Walks.list hh _ l ne items).toS, fun s e => ⟨⟨_, by rw [e]; exact hI, rfl, rfl⟩, ⟨o, by rw [e]; exact ho, hc, n, hd⟩⟩⟩
theorem wk_tuple {prog : Program} {w : World} {l : Addr} {o : Obj} {items : Array Value} {n : Nat} (hc : o.cls = .type "tuple") (hd : o.data = .seq items n) : Wk prog w l o items { cls := .type "tuple_iterator", data := .fields #[.ref l, .int 0 0] } where
  fr := rfl
  it := fun ho q => wpAny_pyIter_tuple ⟨o, ho, hc, n, hd⟩ q
  wk := fun hh ne hI ho => ⟨_, _, fun _ _ e => e, (Walks.tuple hh _ l ne items).toS, fun s e => ⟨⟨_, by rw [e]; exact hI, rfl, rfl⟩, ⟨o, by rw [e]; exact ho, hc, n, hd⟩⟩⟩
section
variable {prog : Program} {w : World} {A : Around} {E : Value → Shared → Prop} {s : Shared}  -- own
/-- set(x), x a list or a tuple of texts -/
theorem set_texts {T : String} {l : Addr} {items : Array Value} {xs : List Str} {Q : Value → Shared → Prop} {od : Option Addr} {nl : Nat} {sl : Array (Option Value)} {itO : Obj}
    (ns : isSubtype (.type T) (.type "set") = pure false) (nf : isSubtype (.type T) (.type "frozenset") = pure false) (nd : (Value.type T == Value.type "dict") = false)
    (hh : A.handled = none) (at_l : s.heap.get? l = some { cls := .type T, dict := od, data := .seq items nl, slots := sl }) (W : Wk prog w l { cls := .type T, dict := od, data := .seq items nl, slots := sl } items itO)
    (hi : StrsAre items.toList xs) (hn : items.size + 1 < scanBound)
    (k : ∀ (h' : Heap) (tk : Nat), h'.SetOf (strKind prog w) s.heap.objs.size (inU (uq xs)) (uq xs).length → (∀ b o, s.heap.get? b = some o → h'.get? b = some o) → Q (.ref s.heap.objs.size) { s with heap := h', toks := tk }) :
    wpAny (model prog w) A (call (.type "set") [.ref l]) Q E s := by  -- own
  obtain ⟨c, tl, m0⟩ := PySem.F.called_set.mro
  have m1 := PySem.F.called_set.made
  have m2 := PySem.F.called_set.sub
  have m3 := PySem.F.called_set.notType
  have m4 := PySem.F.called_set.canCreate
  have m5 := PySem.F.typeCall_set_1 (.ref l)
  refine wpAny_call (codeAny_of_tree ?_)  -- own
  change wpAny _ _ (callAny (.type "set") _) _ _ _
  refine wpAny_pure ⟨Code.quiet_builtin _ (by decide +kernel), codeAny_builtin PySem.F.entry_type_call ?_⟩  -- own
  rw [Around.under_plain (weight_type_call_type "set" [.ref l] []) rfl]  -- own
  repeat (any_goals (first | assumption | wp_step))  -- own
  refine codeAny_mono (code_set_new_1 (.ref l) (E := E) (Q₁ := fun v s1 => ∃ led : Bool, v = .ref s.heap.objs.size ∧ s1 = { s with heap := s.heap.push (set0 led) }) fun led => ⟨led, rfl, rfl⟩) fun r s1 hr => ?_
  rcases r with e | ⟨v⟩ | _ | _ <;> first | exact hr | skip
  obtain ⟨led, rfl, rfl⟩ := hr
  have new : (s.heap.push (set0 led)).get? s.heap.objs.size = some (set0 led) := Heap.get?_push_size _ rfl
  have ty : Shared.TypeIs { s with heap := s.heap.push (set0 led) } (.ref s.heap.objs.size) "set" := ⟨_, new, rfl⟩
  have i1 := PySem.F.called_set.init.lookup
  have i2 := PySem.F.called_set.init.bind (.ref s.heap.objs.size)
  repeat (any_goals (first | assumption | wp_step))  -- own
  refine codeAny_mono (codeAny_call_builtin (R := wants (fun r s2 => r = .none ∧ ∃ h' tk, s2 = { s with heap := h', toks := tk } ∧ h'.SetOf (strKind prog w) s.heap.objs.size (inU (uq xs)) (uq xs).length ∧
    ∀ b o, s.heap.get? b = some o → h'.get? b = some o) E) PySem.F.called_set.init.plain PySem.F.entry_set_init (check_set_init_1 ty ?_)) fun r s2 hr => ?_
  rotate_left
  · rcases r with e | ⟨v⟩ | _ | _ <;> first | exact hr | skip
    obtain ⟨rfl, h', tk, rfl, h1, h2⟩ := hr
    repeat (any_goals (first | assumption | wp_step))  -- own
    exact k _ _ h1 h2
  have old : (s.heap.push (set0 led)).get? l = some { cls := .type T, dict := od, data := .seq items nl, slots := sl } := Heap.get?_push_of_some _ at_l
  have ll : l < s.heap.objs.size := Heap.lt_size at_l
  have sz : (s.heap.push (set0 led)).objs.size = s.heap.objs.size + 1 := Heap.size_push ..
  unfold Builtin.«set.__init__» noKeywords Builtin.Frozenset.updateFrom  -- own
  generalize e0 : pyIter = PI
  wp_walk
  subst e0
  refine W.it old (wpAny_bind (wpAny_runValue ?_))
  have old2 := Heap.get?_push_of_some itO old
  obtain ⟨G, St, hG, wk, st⟩ := W.wk (A := A.in1.in1.in1) (I := (s.heap.push (set0 led)).objs.size) (h := (s.heap.push (set0 led)).push itO) (by simp [hh]) (fun q => absurd (show l < s.heap.objs.size + 1 from Nat.lt_succ_of_lt ll) (by rw [q, sz]; exact Nat.lt_irrefl _)) (Heap.get?_push_size _ W.fr) old2
  refine take_in wk (fun q => by
    rcases List.mem_cons.mp q with q | q
    · rw [sz] at q; exact Nat.ne_of_lt (Nat.lt_succ_self _) q
    · exact absurd ll (by rw [← List.mem_singleton.mp q]; exact Nat.lt_irrefl _)) xs (by rw [← StrsAre.len_eq hi, Array.length_toList]) (fun i v hv => SS.strs_at hi i v (by rw [Array.getElem?_toList]; exact hv)) hn items.size 0 _ (by omega) (Nat.zero_le _) (st _ rfl)
    (SetOf_congr ((setObjOf_fresh (knd := strKind prog w) led).setOf (Heap.get?_push_of_some itO new) (by unfold scanBound; omega)) (fun _ => rfl) rfl) fun s3 m3 h3 => ?_
  obtain ⟨h', g', d', tk', os'⟩ := s3
  obtain rfl : g' = s.gens := hG _ _ m3.gens
  obtain rfl : d' = s.drawn := m3.drawn
  obtain rfl : os' = s.os := m3.os
  change wpAny _ _ _ _ _ _
  refine wpAny_pure ?_
  change wpAny _ _ (ret Value.none) _ _ _
  refine wpAny_pure ⟨rfl, h', tk', rfl, h3, fun b o e => m3.heap b o (fun q => ?_) (Heap.get?_push_of_some _ (Heap.get?_push_of_some _ e))⟩
  have lb := Heap.lt_size e
  rcases List.mem_cons.mp q with q | q
  · exact absurd lb (by rw [q]; exact Nat.lt_irrefl _)
  · have q := List.mem_singleton.mp q
    rw [sz] at q
    exact Nat.lt_irrefl _ (Nat.lt_of_succ_lt (q ▸ lb))
theorem strsAre_texts : ∀ {ys : List Str} {us : List Value}, Vals (ys.map V.str) us → StrsAre us ys
  | [], _, .nil => .nil
  | y :: ys, _, .cons r t => by
    obtain ⟨j, rfl⟩ := r
    exact .cons y j (strsAre_texts t)
/-- len(set(x)), x a list or a tuple of texts -/
def tLenSetT (K : PySem.W.Frag) (ta : TE) : TE := fun σ H Q => ta σ H fun x H1 => ∃ (l : Addr) (xs : List Str), x = .ref l ∧ (SqL K H1 l (xs.map V.str) ∨ SqT K H1 l (xs.map V.str)) ∧ xs.length ≤ 4000 ∧ Q (.int ((uq xs).length : Nat)) H1
theorem pe_lenSetT {X : Cx} {a : Expr} {ta : TE} {p p2 q pos : Pos} (hc : X.calm = true) (hg : Gl X "len") (hm : X.mg "len" = none) (hg2 : Gl X "set") (hm2 : X.mg "set" = none) (ha : PE X a ta)
    (na : starEach [a] X.env = (false, eval a X.env) :: starEach [] X.env := by rfl) : PE X (.Call (.Name "len" p) [.Call (.Name "set" p2) [a] [] q] [] pos) (tLenSetT X.K ta) := ⟨fun pins s σ H Q I h => by
  refine Call_ (ld_blt I hg hm boot_len (callWith_builtin1 (args_cons ?_ rfl) rfl rfl))
  refine Call_ (ld_blt I hg2 hm2 boot_set (callWith_type1 (args_cons (thn (ha.run pins s σ H _ I h) fun v s1 ⟨x, H1, I1, r1, l, xs, ex, hq, hl, q1⟩ => args_nil ?_) na) na rfl))
  subst ex
  cases r1
  have last : ∀ (us : List Value), us.length = xs.length → ∀ (h' : Heap) (tk : Nat), h'.SetOf (strKind X.prog X.w) s1.heap.objs.size (inU (uq xs)) (uq xs).length → (∀ b o, s1.heap.get? b = some o → h'.get? b = some o) →
      wpAny (model X.prog X.w) X.A (spliced (backTo pos (starEach [] X.env))) (fun vs s2 => wpAny (model X.prog X.w) X.A (call (.builtin "len") (Value.ref s1.heap.objs.size :: vs)) (EP X pins σ Q) X.xe s2) X.xe { s1 with heap := h', toks := tk } := fun us hu h' tk hs hk => by
    refine args_nil ?_
    obtain ⟨o, es, ep, t, ho, hex, hd, _, _, _, hf, hn⟩ := hs
    have I2 : Inv X pins σ H1 { s1 with heap := h', toks := tk } := I1.kept hk  -- own
    have := uq_le xs
    exact call_len_set ho hex hd hf (by rw [hn]; omega) ⟨.int ((uq xs).length : Nat), H1, I2.tok _, ⟨_, by rw [hn]⟩, q1⟩
  rcases hq with hq | hq
  · obtain ⟨us, r, pl, hz⟩ := I1.list hq
    obtain ⟨o, ho, hc1, n1, hd1⟩ := pl.isList
    have e1 := r.length
    rw [List.length_map] at e1
    obtain ⟨c1, od, dt, sl⟩ := o
    simp only at hc1 hd1
    subst hc1 hd1
    exact set_texts PySem.F.sub_list_set PySem.F.sub_list_frozenset (by decide) (I1.ok.hd hc) ho (wk_list rfl rfl) (by simpa using strsAre_texts r) (by rw [List.size_toArray, ← e1]; unfold scanBound; omega) (last us e1.symm)
  · obtain ⟨us, r, pl, hz⟩ := I1.tuple hq
    obtain ⟨o, ho, hc1, n1, hd1⟩ := pl
    have e1 := r.length
    rw [List.length_map] at e1
    obtain ⟨c1, od, dt, sl⟩ := o
    simp only at hc1 hd1
    subst hc1 hd1
    exact set_texts PySem.F.sub_tuple_set PySem.F.sub_tuple_frozenset (by decide) (I1.ok.hd hc) ho (wk_tuple rfl rfl) (by simpa using strsAre_texts r) (by rw [List.size_toArray, ← e1]; unfold scanBound; omega) (last us e1.symm)⟩
end
end J

/-! kinds of worths; what begins their words; figures read and written -/
namespace J
open PySem PySem.Spec PyProof.Rows L2 M
/-! ### names -/
def Nm (l : List Nat) : Prop := 1 ≤ l.length ∧ l.length ≤ 8 ∧ ∀ c ∈ l, 97 ≤ c ∧ c ≤ 122
def isNm (l : List Nat) : Bool := decide (1 ≤ l.length) && (decide (l.length ≤ 8) && l.all fun c => decide (97 ≤ c ∧ c ≤ 122))
theorem isNm_iff {l : List Nat} : isNm l = true ↔ Nm l := by simp [isNm, Nm]
theorem Nm.wd {l : List Nat} (h : Nm l) : l.length ≤ 40 ∧ ∀ c ∈ l, 32 ≤ c ∧ c ≤ 126 := ⟨by have := h.2.1; omega, fun c hc => by have := h.2.2 c hc; omega⟩
theorem al_c : ∀ c, c < 128 → Unicode.isAlpha c = decide ((65 ≤ c ∧ c ≤ 90) ∨ (97 ≤ c ∧ c ≤ 122)) := by decide +kernel
theorem up_c : ∀ c, c < 128 → (Unicode.isUpper c || Unicode.isTitle c) = decide (65 ≤ c ∧ c ≤ 90) := by decide +kernel
theorem lo_c : ∀ c, c < 128 → Unicode.isLower c = decide (97 ≤ c ∧ c ≤ 122) := by decide +kernel
theorem any_cd {p : Nat → Bool} {z : Str} : z.cps.any p = (cd z).any p := by rw [← Array.any_toList]
theorem small_letters (z : Str) (h : 1 ≤ (cd z).length) : (Txt.isascii z && (Txt.isalpha z && Txt.islower z)) = (cd z).all fun c => decide (97 ≤ c ∧ c ≤ 122) := by
  unfold Txt.isascii Txt.isalpha Txt.islower
  rw [all_cd, all_cd, any_cd, any_cd, len_cd, Bool.eq_iff_iff, Bool.and_eq_true, Bool.and_eq_true, Bool.and_eq_true, Bool.and_eq_true, List.all_eq_true, List.all_eq_true, List.all_eq_true, List.any_eq_true]
  constructor
  · rintro ⟨h1, ⟨_, h2⟩, _, h3⟩ c hc
    have a := of_decide_eq_true (h1 c hc)
    have b := h2 c hc
    rw [al_c c a] at b
    have b := of_decide_eq_true b
    have u : ¬ (65 ≤ c ∧ c ≤ 90) := fun q => by
      have : (cd z).any (fun c => Unicode.isUpper c || Unicode.isTitle c) = true := List.any_eq_true.mpr ⟨c, hc, by rw [up_c c a]; exact decide_eq_true q⟩
      rw [this] at h3
      cases h3
    exact decide_eq_true (by omega)  -- own
  · intro h1
    have lt : ∀ c ∈ cd z, 97 ≤ c ∧ c ≤ 122 := fun c hc => of_decide_eq_true (h1 c hc)
    refine ⟨fun c hc => decide_eq_true (by have := lt c hc; omega), ⟨decide_eq_true (by omega), fun c hc => ?_⟩, ?_, ?_⟩
    · have := lt c hc
      rw [al_c c (by omega)]
      exact decide_eq_true (.inr this)
    · obtain ⟨c, r, e⟩ : ∃ c r, cd z = c :: r := by
        cases q : cd z with
        | nil => rw [q] at h; exact absurd h (by decide)
        | cons c r => exact ⟨c, r, rfl⟩
      have hc : c ∈ cd z := by rw [e]; exact List.mem_cons_self ..
      have := lt c hc
      exact ⟨c, hc, by rw [lo_c c (by omega)]; exact decide_eq_true this⟩
    · rw [Bool.not_eq_true', List.any_eq_false]
      intro c hc
      have := lt c hc
      rw [up_c c (by omega)]
      simp; omega
/-! ### kinds -/
inductive Kd where
  | num (lo hi : Int)
  | one (ns : List (List Nat))
  | nam
  | txt (n : Int)
  | own (nm : List Nat)
def KdAt (H : Hp) (a : Addr) : Kd → Prop
  | .num lo hi => H a = some (.tup [.str "number", .int lo, .int hi])
  | .one ns => ∃ b, H a = some (.tup [.str "one", .ref b]) ∧ H b = some (.tup (ns.map wV))
  | .nam => H a = some (.tup [.str "name"])
  | .txt n => H a = some (.tup [.str "text", .int n])
  | .own nm => H a = some (.tup [.str "own", .str (S nm)])
def Kd.Ok : Kd → Prop
  | .num lo hi => -999999 ≤ lo ∧ lo ≤ hi ∧ hi ≤ 999999
  | .one ns => 1 ≤ ns.length ∧ ns.length ≤ 8 ∧ (∀ n ∈ ns, Nm n) ∧ ns.Nodup
  | .nam => True
  | .txt n => 1 ≤ n ∧ n ≤ 20
  | .own nm => Nm nm
def OwOk (ws : List (List Nat)) : Prop := ws.length ≤ 8 ∧ (∀ w ∈ ws, 1 ≤ w.length ∧ w.length ≤ 20 ∧ ∀ c ∈ w, 32 ≤ c ∧ c ≤ 126) ∧ ws.Nodup
def Sg (l : List Nat) : Prop := ∀ c ∈ l, 32 ≤ c ∧ c ≤ 126
def Beg (ws : List (List Nat)) (l : List Nat) : Kd → Prop
  | .num lo hi => begNum lo hi l
  | .one ns => ∃ n ∈ ns, l <+: n
  | .nam => l = [] ∨ Nm l
  | .txt n => (l.length : Int) ≤ n ∧ Sg l
  | .own _ => ∃ w ∈ ws, l <+: w
noncomputable def dB (p : Prop) : Bool := @decide p (Classical.propDecidable p)
theorem dB_iff {p : Prop} : dB p = true ↔ p := @decide_eq_true_iff p (Classical.propDecidable p)
theorem dB_t {p : Prop} (h : p) : dB p = true := dB_iff.mpr h
theorem dB_f {p : Prop} (h : ¬ p) : dB p = false := by
  cases e : dB p with
  | false => rfl
  | true => exact absurd (dB_iff.mp e) h
theorem dB_dec {p q : Prop} {i : Decidable q} (h : p ↔ q) : dB p = decide q := by
  rw [Bool.eq_iff_iff, dB_iff, decide_eq_true_iff]
  exact h
noncomputable def begK (k : Kd) (ws : List (List Nat)) (l : List Nat) : Bool := dB (Beg ws l k)
theorem begK_iff {k : Kd} {ws : List (List Nat)} {l : List Nat} : begK k ws l = true ↔ Beg ws l k := dB_iff
theorem KdAt.same {H H' : Hp} (s : Same H H') {a : Addr} : ∀ {k : Kd}, KdAt H a k → KdAt H' a k
  | .num .., h => s _ _ h
  | .one _, ⟨b, h1, h2⟩ => ⟨b, s _ _ h1, s _ _ h2⟩
  | .nam, h => s _ _ h
  | .txt _, h => s _ _ h
  | .own _, h => s _ _ h
theorem Keep.tup {b : Addr} {n : Nat} {H H' : Hp} (kp : Keep b H H') (hb : Bx H b n) {a : Addr} {xs : List V} (h : H a = some (.tup xs)) : H' a = some (.tup xs) := kp _ _ h fun e => by
  obtain ⟨x, y, z, q, _⟩ := hb
  rw [e, q] at h
  cases h
theorem KdAt.keep {b : Addr} {n : Nat} {H H' : Hp} (kp : Keep b H H') (hb : Bx H b n) {a : Addr} : ∀ {k : Kd}, KdAt H a k → KdAt H' a k
  | .num .., h => kp.tup hb h
  | .one _, ⟨c, h1, h2⟩ => ⟨c, kp.tup hb h1, kp.tup hb h2⟩
  | .nam, h => kp.tup hb h
  | .txt _, h => kp.tup hb h
  | .own _, h => kp.tup hb h
/-- own words: a list, or a tuple -/
def OwAt (K : PySem.W.Frag) (H : Hp) (b : Addr) (ws : List (List Nat)) : Prop := SqL K H b (ws.map wV) ∨ SqT K H b (ws.map wV)
theorem OwAt.same {K : PySem.W.Frag} {H H' : Hp} (s : Same H H') {b : Addr} {ws : List (List Nat)} (h : OwAt K H b ws) : OwAt K H' b ws := h.imp s.seqL s.seqT
/-! ### figures -/
theorem cd_toString (i : Int) : cd (PySem.Str.ofString (toString i)) = dec i := by
  by_cases h : i < 0
  · obtain ⟨n, rfl, hn⟩ : ∃ n : Nat, i = -(n : Int) ∧ 1 ≤ n := ⟨i.natAbs, by omega, by omega⟩
    rw [dec_neg hn]
    obtain ⟨m, rfl⟩ : ∃ m, n = m + 1 := ⟨n - 1, by omega⟩  -- own
    show (PySem.Str.ofString ("-" ++ toString (((m + 1 : Nat)) : Int))).cps.toList = _
    rw [signs_ofString, String.toList_append, List.map_append, ← signs_ofString (toString (((m + 1 : Nat)) : Int)), PySem.W.KIN.signs_num]
    rfl
  · obtain ⟨n, rfl⟩ : ∃ n : Nat, i = (n : Int) := ⟨i.natAbs, by omega⟩
    rw [dec_nat]
    exact PySem.W.KIN.signs_num n
theorem int_dec {z : Str} {n : Int} (h : cd z = dec n) (hl : z.length ≤ 4300) : PySem.intText? z = some n := by
  by_cases q : n < 0
  · obtain ⟨k, rfl, hk⟩ : ∃ k : Nat, n = -(k : Int) ∧ 1 ≤ k := ⟨n.natAbs, by omega, by omega⟩
    rw [dec_neg hk] at h
    have := PySem.intText_neg h (D_digits k) (D_ne k) hl
    rw [this, D_val]
  · obtain ⟨k, rfl⟩ : ∃ k : Nat, n = (k : Int) := ⟨n.natAbs, by omega⟩
    rw [dec_nat] at h
    have e : z.cps.toList = D k := h
    rw [PySem.intText_digits (x := z) (by rw [e]; exact D_digits k) (by rw [e]; exact D_ne k) hl, e, D_val]
theorem int_digits {z : Str} (h : PySem.NumText.AllDigits (cd z)) (h0 : cd z ≠ []) (hl : z.length ≤ 4300) : PySem.intText? z = some ((PySem.NumText.digitsVal (cd z) : Nat) : Int) := PySem.intText_digits h h0 hl
/-! ### rules by their own names -/
def rIntS : List V → Hp → VK → Prop := fun xs H Q => ∃ a n, xs = [V.str a] ∧ PySem.intText? a = some n ∧ a.length ≤ 640 ∧ Q (.int n) H
def rStrI : List V → Hp → VK → Prop := fun xs H Q => ∃ i, xs = [V.int i] ∧ i.natAbs.log2 < 1920 ∧ Q (.str (toString i)) H
section
variable {X : Cx}
theorem call_intS : CallR X (.type "int") rIntS := L2.call_int_str
theorem call_strI : CallR X (.type "str") rStrI := L2.call_str_int
theorem asLenSet {K : PySem.W.Frag} {e : Expr} {ta : TE} (eK : X.K = K) (h : PE X e (tLenSetT X.K ta)) : PE X e (tLenSetT K ta) := eK ▸ h
end
section
variable {σ : L2.St} {H : Hp} {Q : VK} {K : PySem.W.Frag} {D : Ends}
theorem r_intS {z : Str} {n : Int} (h : PySem.intText? z = some n) (hl : z.length ≤ 640) (k : Q (.int n) H) : rIntS [.str z] H Q := ⟨z, n, rfl, h, hl, k⟩
theorem r_strI {i : Int} (h : i.natAbs < 2 ^ 200) (k : Q (.str (toString i)) H) : rStrI [.int i] H Q := ⟨i, rfl, by
  by_cases h0 : i.natAbs = 0
  · rw [h0]; decide
  · exact Nat.lt_of_lt_of_le ((Nat.log2_lt h0).mpr h) (by decide), k⟩
theorem r_lenSet {ta : TE} (k : ta σ H fun x H1 => ∃ (l : Addr) (xs : List Str), x = .ref l ∧ (SqL K H1 l (xs.map V.str) ∨ SqT K H1 l (xs.map V.str)) ∧ xs.length ≤ 4000 ∧ Q (.int ((uq xs).length : Nat)) H1) : tLenSetT K ta σ H Q := k
theorem r_asg2 {te : TE} {g1 g2 : TG} (k : te σ H fun x H1 => g1 x σ H1 fun σ1 H2 => g2 x σ1 H2 D.nx) : tAsg2 te g1 g2 D σ H := k
theorem r_isiB {x : V} {t c : String} {b : Bool} (hx : TyX K H x (.type t)) (hk : kitB t c = some b) (k : Q (.bl b) H) : rIsi K [x, .ty c] H Q := ⟨x, _, _, _, b, rfl, .ty _, hx, kit_ty hk, k⟩
theorem r_isiLT2 {a p : Addr} {xs : List V} (hs : SqL K H a xs ∨ SqT K H a xs) (hp : H p = some (.tup [V.ty "list", V.ty "tuple"])) (k : Q (.bl true) H) : rIsiT K [.ref a, .ref p] H Q := by
  rcases hs with ((h | ⟨o, h⟩) | h) | ((h | ⟨o, h⟩) | h)
  · exact ⟨_, p, _, _, _, true, rfl, hp, .cons (.ty _) (.cons (.ty _) .nil), .base (.lst h), rfl, k⟩
  · exact ⟨_, p, _, _, _, true, rfl, hp, .cons (.ty _) (.cons (.ty _) .nil), .base (.frz h), rfl, k⟩
  · obtain ⟨o, _, _, e, c, r⟩ := h
    exact ⟨_, p, _, _, _, true, rfl, hp, .cons (.ty _) (.cons (.ty _) .nil), .kList e c, rfl, k⟩
  · exact ⟨_, p, _, _, _, true, rfl, hp, .cons (.ty _) (.cons (.ty _) .nil), .base (.tup h), rfl, k⟩
  · exact ⟨_, p, _, _, _, true, rfl, hp, .cons (.ty _) (.cons (.ty _) .nil), .fTuple h, rfl, k⟩
  · obtain ⟨o, _, _, e, c, r⟩ := h
    exact ⟨_, p, _, _, _, true, rfl, hp, .cons (.ty _) (.cons (.ty _) .nil), .kTuple e c, rfl, k⟩
theorem r_slT {a : Addr} {xs : List V} {lo hi : Option Int} (h : SqT K H a xs) (n : ¬ (HT.sIx xs.length 0 lo = 0 ∧ HT.sIx xs.length xs.length hi = xs.length)) (k : ∀ p, H p = none → Q (.ref p) (upd H p (.tup (cutV xs lo hi)))) : rSlT K (.ref a) lo hi H Q := ⟨a, xs, rfl, h, n, k⟩
theorem r_ixTu {a : Addr} {xs : List V} {i : Int} {v : V} (h : SqT K H a xs) (e : atI xs i = some v) (k : Q v H) : rIx K (.ref a) (.int i) H Q := .inr (.inl ⟨a, xs, i, v, rfl, rfl, h, e, k⟩)
end
/-! ### the promises -/
def spIsWhole : Sp := fun vs H Q _ => ∃ i lo hi : Int, vs = [.int i, .int lo, .int hi] ∧ Q (.bl (decide (lo ≤ i) && decide (i ≤ hi))) H
def spIsName : Sp := fun vs H Q _ => ∃ z : Str, vs = [.str z] ∧ z.length ≤ 1000000 ∧ Q (.bl (isNm (cd z))) H
def spSignsK : Sp := fun vs H Q _ => ∃ z : Str, vs = [.str z] ∧ z.length ≤ 1000000 ∧ Q (.bl (sg (cd z))) H
def spIsWordK : Sp := fun vs H Q _ => ∃ z : Str, vs = [.str z] ∧ z.length ≤ 1000000 ∧ Q (.bl (decide (z.length ≤ 40) && sg (cd z))) H
def spUnlike (K : PySem.W.Frag) : Sp := fun vs H Q _ => ∃ (a : Addr) (ls : List (List Nat)), vs = [.ref a] ∧ OwAt K H a ls ∧ ls.length ≤ 100 ∧ Q (.bl (decide ls.Nodup)) H
def spChoices : Sp := fun vs H Q _ => ∃ (b : Addr) (ns : List (List Nat)), vs = [.ref b] ∧ H b = some (.tup (ns.map wV)) ∧ 1 ≤ ns.length ∧ ns.length ≤ 8 ∧ (∀ n ∈ ns, Nm n) ∧ ns.Nodup ∧ ∀ H', Same H H' → Q (.bl true) H'
def spBounds : Sp := fun vs H Q _ => ∃ (b : Addr) (lo hi : Int), vs = [.ref b] ∧ H b = some (.tup [.int lo, .int hi]) ∧ -999999 ≤ lo ∧ lo ≤ hi ∧ hi ≤ 999999 ∧ Q (.bl true) H
def spIsKind : Sp := fun vs H Q _ => ∃ (a : Addr) (k : Kd), vs = [.ref a] ∧ KdAt H a k ∧ k.Ok ∧ ∀ H', Same H H' → Q (.bl true) H'
def spAreOwn (K : PySem.W.Frag) : Sp := fun vs H Q _ => ∃ (b : Addr) (ws : List (List Nat)), vs = [.ref b] ∧ OwAt K H b ws ∧ OwOk ws ∧ ∀ H', Same H H' → Q (.bl true) H'
def spLook (K : PySem.W.Frag) : Sp := fun vs H Q _ => ∃ (a b : Addr) (k : Kd) (ws : List (List Nat)), vs = [.ref a, .ref b] ∧ KdAt H a k ∧ k.Ok ∧ OwAt K H b ws ∧ OwOk ws ∧ ∀ H', Same H H' → Q .non H'
def spFigures : Sp := fun vs H Q _ => ∃ z : Str, vs = [.str z] ∧ z.length ≤ 1000000 ∧ Q (.bl (dB (Canon (cd z)))) H
def optV : Option Int → V
  | none => .non
  | some n => .int n
def spNumIn : Sp := fun vs H Q _ => ∃ z : Str, vs = [.str z] ∧ z.length ≤ 50 ∧ Q (optV (numV (cd z))) H
def spHasBegun : Sp := fun vs H Q _ => ∃ lo hi n : Int, vs = [.int lo, .int hi, .int n] ∧ 1 ≤ n ∧ hi ≤ 999999 ∧ Q (.bl (dB (hasB lo hi n))) H
def spBegNum : Sp := fun vs H Q _ => ∃ (lo hi : Int) (z : Str), vs = [.int lo, .int hi, .str z] ∧ z.length ≤ 50 ∧ -999999 ≤ lo ∧ lo ≤ hi ∧ hi ≤ 999999 ∧ Q (.bl (dB (begNum lo hi (cd z)))) H
def spFits : Sp := fun vs H Q _ => ∃ (a b : Addr) (n : Int) (z : Str), vs = [.ref a, .str z, .ref b] ∧ H a = some (.tup [.str "text", .int n]) ∧ z.length ≤ 1000000 ∧ Q (.bl (decide (z.length ≤ 40) && sg (cd z) && decide ((z.length : Int) ≤ n))) H
def spBegins (K : PySem.W.Frag) : Sp := fun vs H Q _ => ∃ (a b : Addr) (k : Kd) (ws : List (List Nat)) (z : Str), vs = [.ref a, .str z, .ref b] ∧ KdAt H a k ∧ k.Ok ∧ OwAt K H b ws ∧ OwOk ws ∧ z.length ≤ 50 ∧ ∀ H', Same H H' → Q (.bl (begK k ws (cd z))) H'
/-- a text, or what is none -/
inductive Thg (K : PySem.W.Frag) (H : Hp) : V → Option Str → Prop where
  | str (z : Str) (h : z.length ≤ 50) : Thg K H (.str z) (some z)
  | non : Thg K H .non none
  | int (i : Int) : Thg K H (.int i) none
  | bl (b : Bool) : Thg K H (.bl b) none
  | lst {a : Addr} {xs : List V} (h : H a = some (.lst xs)) : Thg K H (.ref a) none
  | tup {a : Addr} {xs : List V} (h : H a = some (.tup xs)) : Thg K H (.ref a) none
theorem Thg.same {K : PySem.W.Frag} {H H' : Hp} {x : V} {o : Option Str} (t : Thg K H x o) (s : Same H H') : Thg K H' x o := by
  cases t with
  | str z h => exact .str z h
  | non => exact .non
  | int i => exact .int i
  | bl b => exact .bl b
  | lst h => exact .lst (s _ _ h)
  | tup h => exact .tup (s _ _ h)
def isT (o : Option Str) : Bool := o.isSome
theorem Thg.isi {K : PySem.W.Frag} {H : Hp} {Q : VK} {x : V} {o : Option Str} (t : Thg K H x o) (k : Q (.bl (isT o)) H) : rIsi K [x, .ty "str"] H Q := by
  cases t with
  | str z h => exact r_isiB (.base (.str z)) (show kitB "str" "str" = some true by decide +kernel) k
  | non => exact r_isiB (.base .non) (by decide +kernel) k
  | int i => exact r_isiB (.base (.int i)) (by decide +kernel) k
  | bl b => exact r_isiB (.base (.bl b)) (by decide +kernel) k
  | lst h => exact r_isiB (.base (.lst h)) (by decide +kernel) k
  | tup h => exact r_isiB (.base (.tup h)) (by decide +kernel) k
noncomputable def begT (k : Kd) (ws : List (List Nat)) : Option Str → Bool
  | some z => begK k ws (cd z)
  | none => false
def spBegW (K : PySem.W.Frag) : Sp := fun vs H Q _ => ∃ (a b : Addr) (k : Kd) (ws : List (List Nat)) (x : V) (o : Option Str), vs = [.ref a, x, .ref b] ∧ KdAt H a k ∧ k.Ok ∧ OwAt K H b ws ∧ OwOk ws ∧ Thg K H x o ∧ ∀ H', Same H H' → Q (.bl (begT k ws o)) H'
end J

/-! texts that begin with others; figures -/
namespace J
open PySem PySem.Spec PyProof.Rows L2 M
theorem starts_iff {a b : Str} : Txt.startswith a b = true ↔ cd b <+: cd a := by
  unfold Txt.startswith
  rw [Bool.and_eq_true, decide_eq_true_iff, PySem.StrLaws.subAt_eq, beq_iff_eq, List.drop_zero, Nat.zero_add, len_cd b, len_cd a, List.prefix_iff_eq_take]
  exact ⟨fun h => h.2.symm, fun h => ⟨by
    have := congrArg List.length h  -- own
    rw [List.length_take] at this
    omega, h.symm⟩⟩
theorem starts_dec {a b : Str} : Txt.startswith a b = decide (cd b <+: cd a) := by
  rw [Bool.eq_iff_iff, decide_eq_true_iff]
  exact starts_iff
theorem dg_c : ∀ c, c < 128 → Unicode.isDigit c = decide (48 ≤ c ∧ c ≤ 57) := by decide +kernel
theorem fig_iff (z : Str) : (Txt.isascii z && Txt.isdigit z) = true ↔ cd z ≠ [] ∧ PySem.NumText.AllDigits (cd z) := by
  unfold Txt.isascii Txt.isdigit
  rw [all_cd, all_cd, len_cd, Bool.and_eq_true, Bool.and_eq_true, List.all_eq_true, List.all_eq_true, decide_eq_true_iff]
  constructor
  · rintro ⟨h1, h2, h3⟩
    refine ⟨fun e => by rw [e] at h2; exact absurd h2 (by decide), fun c hc => ?_⟩
    have a := of_decide_eq_true (h1 c hc)
    have b := h3 c hc
    rw [dg_c c a] at b
    exact of_decide_eq_true b
  · rintro ⟨h1, h2⟩
    have lt : ∀ c ∈ cd z, 48 ≤ c ∧ c ≤ 57 := h2
    refine ⟨fun c hc => decide_eq_true (by have := lt c hc; omega), ?_, fun c hc => ?_⟩
    · exact List.length_pos_iff.mpr h1
    · have := lt c hc
      rw [dg_c c (by omega)]
      exact decide_eq_true this
theorem l_min : cd (Str.ofString "-") = [45] := by decide +kernel
theorem l_zero : cd (Str.ofString "0") = [48] := by decide +kernel
theorem head_min {l : List Nat} : [45] <+: l ↔ l.head? = some 45 := by
  cases l with
  | nil => simp
  | cons c r => simp [List.cons_prefix_cons, eq_comm]
theorem numV_neg {l : List Nat} (h : l.head? = some 45) : (Canon l.tail ∧ l.tail ≠ [48] → numV l = some (-((PySem.NumText.digitsVal l.tail : Nat) : Int))) ∧ (¬ (Canon l.tail ∧ l.tail ≠ [48]) → numV l = none) := by
  unfold numV
  rw [if_pos h]
  exact ⟨fun q => if_pos q, fun q => if_neg q⟩
theorem numV_pos {l : List Nat} (h : l.head? ≠ some 45) : (Canon l → numV l = some ((PySem.NumText.digitsVal l : Nat) : Int)) ∧ (¬ Canon l → numV l = none) := by
  unfold numV
  rw [if_neg h]
  exact ⟨fun q => if_pos q, fun q => if_neg q⟩
theorem one_digit {c : Nat} (h : 48 ≤ c ∧ c ≤ 57) : PySem.intText? ⟨#[c]⟩ = some ((c : Int) - 48) := by
  have e := int_digits (z := ⟨#[c]⟩) (fun d hd => by
    have := List.mem_singleton.mp (show d ∈ [c] from hd)
    rw [this]; exact h) (by simp) (by show (1 : Nat) ≤ 4300; decide)
  rw [e]
  show some (((0 * 10 + (c - 48) : Nat) : Int)) = _
  congr 1
  omega
theorem val_snoc {l : List Nat} {c : Nat} (h : 48 ≤ c) : ((PySem.NumText.digitsVal (l ++ [c]) : Nat) : Int) = (PySem.NumText.digitsVal l : Nat) * 10 + ((c : Int) - 48) := by
  rw [PySem.NumText.digitsVal_snoc]
  omega
theorem fold_lt : ∀ (l : List Nat) (a : Nat), PySem.NumText.AllDigits l → l.foldl (fun acc c => acc * 10 + (c - 48)) a < (a + 1) * 10 ^ l.length
  | [], a, _ => by simp
  | c :: r, a, h => by
    have hc := h c (List.mem_cons_self ..)  -- own
    have ih := fold_lt r (a * 10 + (c - 48)) fun d hd => h d (List.mem_cons_of_mem _ hd)
    rw [List.foldl_cons, List.length_cons, Nat.pow_succ']
    refine Nat.lt_of_lt_of_le ih ?_
    rw [← Nat.mul_assoc]
    exact Nat.mul_le_mul_right _ (by omega)  -- own
theorem val_lt {l : List Nat} (h : PySem.NumText.AllDigits l) : PySem.NumText.digitsVal l < 10 ^ l.length := by
  have := fold_lt l 0 h
  rw [Nat.zero_add, Nat.one_mul] at this
  exact this
theorem pow50 {m n : Nat} (h : n < 10 ^ m) (hm : m ≤ 50) : n < 2 ^ 199 := by
  have : 10 ^ m ≤ 10 ^ 50 := Nat.pow_le_pow_right (by decide) hm
  have : (10 : Nat) ^ 50 < 2 ^ 199 := by decide
  omega
section
variable {σ : L2.St} {H : Hp} {Q : VK} {K : PySem.W.Frag} {D : Ends}
theorem r_lcQ {te te' : TE} {g : TG} {tt : TT} {vs : List Nat} (k : te σ H fun x H1 => ∃ a xs, x = .ref a ∧ ((SqL K H1 a xs ∧ ∀ E, H1 E = none → CompQ (Itl K a) g tt te' vs σ H1 E fun H => Q (.ref E) H) ∨ (SqT K H1 a xs ∧ ∀ E, H1 E = none → CompQ (Itt K a) g tt te' vs σ H1 E fun H => Q (.ref E) H))) :
    tLc (iSeq K te) g tt te' vs σ H Q := k
theorem r_seqV {te' : TE} {g : TG} {tt : TT} {vs : List Nat} {a : Addr} {xs : List V} (hs : SqL K H a xs ∨ SqT K H a xs) (k : ∀ J, SeqIt J xs H → ∀ E, H E = none → CompQ J g tt te' vs σ H E fun H => Q (.ref E) H) :
    ∃ b ys, V.ref a = .ref b ∧ ((SqL K H b ys ∧ ∀ E, H E = none → CompQ (Itl K b) g tt te' vs σ H E fun H => Q (.ref E) H) ∨ (SqT K H b ys ∧ ∀ E, H E = none → CompQ (Itt K b) g tt te' vs σ H E fun H => Q (.ref E) H)) :=
  ⟨a, xs, rfl, hs.elim (fun h => .inl ⟨h, k _ (seqIt_l h)⟩) fun h => .inr ⟨h, k _ (seqIt_t h)⟩⟩
theorem r_istr {te : TE} {R : It → Hp → Prop} (k : te σ H fun x H1 => ∃ z, x = .str z ∧ R (Its z) H1) : iStr te σ H R := k
end
theorem any_dec {z : List Nat} {ns : List (List Nat)} : (ns.map fun n => decide (z <+: n)).any id = dB (∃ n ∈ ns, z <+: n) := by
  rw [Bool.eq_iff_iff, dB_iff, List.any_eq_true]
  constructor
  · rintro ⟨x, hx, e⟩
    obtain ⟨n, hn, rfl⟩ := List.mem_map.mp hx
    exact ⟨n, hn, of_decide_eq_true e⟩
  · rintro ⟨n, hn, e⟩
    exact ⟨_, List.mem_map_of_mem hn, decide_eq_true e⟩
/-- a def with a keyword-only list, left out or told -/
structure DKw (K : PySem.W.Frag) (mg : Str → Option Value) (x : Str) (st : Stmt) (ps : List Str) (f e : Addr) (fd : FuncData) (ds : List Value) : Prop where
  fn : Fun K x x st f fd
  gl : mg x = some (.ref f)
  bK : KBinds K fd ps ["own"] (fun us ws => us ++ ws) (fun vs zs => vs ++ zs)
  bd : Binds K fd ps ds
  vs : Vals [V.ref e] ds
  em : ∀ H, SqT K H e []
end J

/-! the law's drawn names and kinds -/
namespace J
open PySem PySem.Spec PyProof.Rows L2 M
theorem comp_rng {q : Nat} {g : TG} {te : TE} {vs : List Nat} {σ : L2.St} {H1 : Hp} {D : Addr} {Z : Hp → Prop} (hD : H1 D = none) (ys : List V) (hl : ys.length = q) (hs : q < sizeLine)
    (turn : ∀ (i : Nat) (H : Hp) (N : V → Hp → Prop), i < q → Same H1 H → (∀ y H4, ys[i]? = some y → Same H H4 → N y H4) → g (.int (i : Nat)) (wipe σ vs) H fun σ2 H2 => wipe σ2 vs = wipe σ vs ∧ te σ2 H2 N)
    (fin : ∀ H, Same H1 H → H D = some (.lst ys) → Z H) : CompQ (Itr 0 q) g tYes te vs σ H1 D Z := by
  refine comp_of q (fun i H => Same H1 H ∧ H D = some (.lst (ys.take i))) ⟨(Same.refl H1).at hD _, by rw [upd_same]; rfl⟩ (fun i H hi w => hi) (fun H w => Nat.le_refl _) (fun i H x H' hi w y => ?_) (fun H w => ?_)
  · obtain ⟨rfl, rfl⟩ := y
    have e : (0 + (i : Nat) : Int) = (i : Nat) := by omega
    rw [e]
    exact turn i H' _ hi w.1 fun y H4 hy s => ⟨_, s _ _ w.2, Nat.lt_of_le_of_lt (by rw [List.length_take]; omega) hs, (w.1.trans s).at hD _, by rw [upd_same, take_snoc hy]⟩
  · have : ys.take q = ys := List.take_of_length_le (Nat.le_of_eq hl)
    rw [this] at w
    exact fin H w.1 w.2
theorem comp_draw {q n : Nat} {b : Addr} {g : TG} {te : TE} {vs : List Nat} {σ : L2.St} {H1 : Hp} {D : Addr} {Z : Hp → Prop} (hD : H1 D = none) (hb : Bx H1 b n) (hs : q < sizeLine) (P : Nat → Prop)
    (turn : ∀ (i : Nat) (H : Hp) (N : V → Hp → Prop), i < q → Keep b H1 H → Bx H b (n + i) → (∀ c H4, P c → Keep b H H4 → Bx H4 b (n + i + 1) → N (.str ⟨#[c]⟩) H4) → g (.int (i : Nat)) (wipe σ vs) H fun σ2 H2 => wipe σ2 vs = wipe σ vs ∧ te σ2 H2 N)
    (fin : ∀ (cs : List Nat) (H : Hp), cs.length = q → (∀ c ∈ cs, P c) → Keep b H1 H → Bx H b (n + q) → H D = some (.lst (cs.map sgnV)) → Z H) : CompQ (Itr 0 q) g tYes te vs σ H1 D Z := by
  have Db : D ≠ b := by
    obtain ⟨_, _, _, e, _⟩ := hb
    exact new_ne hD e
  refine comp_of q (fun i H => ∃ cs : List Nat, cs.length = i ∧ (∀ c ∈ cs, P c) ∧ H D = some (.lst (cs.map sgnV)) ∧ Keep b H1 H ∧ Bx H b (n + i)) ⟨[], rfl, fun _ h => (List.not_mem_nil h).elim, upd_same, Keep.new _ hD, hb.new hD⟩ (fun i H hi w => hi) (fun H w => Nat.le_refl _) ?_ ?_
  · rintro i H x H' hi ⟨cs, hl, hc, hd, kp1, hb1⟩ ⟨rfl, rfl⟩
    have e : (0 + (i : Nat) : Int) = (i : Nat) := by omega
    rw [e]
    refine turn i H' _ hi kp1 hb1 fun c H4 pc kp2 hb2 => ⟨_, kp2 D _ hd Db, by rw [List.length_map]; omega, cs ++ [c], by rw [List.length_append, hl]; rfl, fun d hm => ?_, by rw [upd_same, List.map_append]; rfl, (kp1.trans kp2).at hD _, hb2.at Db _⟩
    rcases List.mem_append.mp hm with h | h
    · exact hc d h
    · rw [List.mem_singleton.mp h]; exact pc
  · rintro H' ⟨cs, hl, hc, hd, kp1, hb1⟩
    exact fin cs H' hl hc kp1 hb1 hd
theorem cutV_take (xs : List V) (k : Nat) : cutV xs none (some (k : Int)) = xs.take k := by
  unfold cutV
  rw [HT.sIx_nat, HT.sIx_none]
  show (xs.drop 0).take (min k xs.length - 0) = _
  rw [List.drop_zero, Nat.sub_zero, ← List.take_take, List.take_length]
theorem let_at : ∀ j, j < 26 → (cd (Str.ofString "abcdefghijklmnopqrstuvwxyz"))[j]? = some (97 + j) := by decide +kernel
theorem let_len : (Str.ofString "abcdefghijklmnopqrstuvwxyz").length = 26 := by decide +kernel
theorem let_all : ∀ c ∈ cd (Str.ofString "abcdefghijklmnopqrstuvwxyz"), 97 ≤ c ∧ c ≤ 122 := by decide +kernel
theorem nodup_rng {α : Type} {q : Nat} {f : Nat → α} (h : ∀ i j, i < q → j < q → f i = f j → i = j) : ((List.range q).map f).Nodup :=
  List.pairwise_map.mpr (List.Pairwise.imp_of_mem (fun {a b} ha hb ne e => ne (h a b (List.mem_range.mp ha) (List.mem_range.mp hb) e)) List.nodup_range)
def spCell (K : PySem.W.Frag) : Sp := fun vs H Q _ => ∃ (a : Addr) (ns : List Int) (k : Nat), vs = [.ref a, .int (k : Nat)] ∧ SqL K H a (ns.map V.int) ∧ k ≤ 1000 ∧ ∀ c : Int, Q (.int c) H
def spName : Sp := fun vs H Q _ => ∃ (b : Addr) (n : Nat), vs = [.ref b] ∧ Bx H b n ∧ n ≤ 900000000 ∧ ∀ (l : List Nat) (H' : Hp), Nm l → Keep b H H' → Bx H' b (n + 9) → Q (.str (S l)) H'
def spNames : Sp := fun vs H Q _ => ∃ (b : Addr) (n m : Nat), vs = [.ref b, .int (m : Nat)] ∧ Bx H b n ∧ n ≤ 800000000 ∧ 1 ≤ m ∧ m ≤ 8 ∧ ∀ (ns : List (List Nat)) (p : Addr) (H' : Hp), ns.length = m → (∀ x ∈ ns, Nm x) → ns.Nodup → Keep b H H' → Bx H' b (n + 11) → H' p = some (.lst (ns.map wV)) → Q (.ref p) H'
def spOwn : Sp := fun vs H Q _ => ∃ (b : Addr) (n : Nat), vs = [.ref b] ∧ Bx H b n ∧ n ≤ 900000000 ∧ ∀ (ws : List (List Nat)) (p : Addr) (H' : Hp), OwOk ws → Keep b H H' → Bx H' b (n + 1) → H' p = some (.lst (ws.map wV)) → p ≠ b → Q (.ref p) H'
def spKind : Sp := fun vs H Q _ => ∃ (b : Addr) (n : Nat), vs = [.ref b] ∧ Bx H b n ∧ n ≤ 700000000 ∧ ∀ (k : Kd) (p : Addr) (H' : Hp), k.Ok → KdAt H' p k → Keep b H H' → Bx H' b (n + 30) → Q (.ref p) H'
def spWordK : Sp := fun vs H Q _ => ∃ (b : Addr) (n m : Nat), vs = [.ref b, .int (m : Nat)] ∧ m ≤ 40 ∧ Bx H b n ∧ n ≤ 800000000 ∧ ∀ (l : List Nat) (H' : Hp), l.length ≤ m → Sg l → Keep b H H' → Bx H' b (n + 42) → Q (.str (S l)) H'
end J

/-! the law's own look at what begins a worth's word -/
namespace J
open PySem PySem.Spec PyProof.Rows L2 M
section
variable {H : Hp} {Q : VK} {K : PySem.W.Frag}
theorem r_neNil {a b : Addr} {ls : List (List Nat)} (ha : SqL K H a (ls.map wV)) (hb : SqL K H b []) (h : ∀ l ∈ ls, ∀ c ∈ l, c ≤ 126) (k : Q (.bl (!decide (ls = []))) H) : rNeA K (.ref a) (.ref b) H Q := by
  refine .inr ⟨dWs ls, dWs [], dp_ws ha, dp_ws hb, sh_ws h, sh_ws (fun _ h => (List.not_mem_nil h).elim), ?_⟩
  have e : PyData.eqv (dWs ls) (dWs []) = decide (ls = []) := by cases ls <;> rfl
  rw [e]
  exact k
theorem dp_ints : ∀ ks : List Int, DpAll K H (ks.map V.int) (ks.map PyData.int)
  | [] => .nil
  | i :: ks => .cons (.int _) (dp_ints ks)
theorem can_ints : ∀ ks : List Int, PyData.canLayAll0 (ks.map PyData.int) = true
  | [] => rfl
  | i :: ks => by
    show (true && PyData.canLayAll0 (ks.map PyData.int)) = true
    rw [can_ints ks]; rfl
theorem dep_ints : ∀ ks : List Int, PyData.depthAll (ks.map PyData.int) = 0
  | [] => rfl
  | i :: ks => by
    show max 0 (PyData.depthAll (ks.map PyData.int)) = 0
    rw [dep_ints ks]; rfl
theorem sh_ints (ks : List Int) : SeqAt.shaped (.list (ks.map PyData.int)) = true := by
  show (PyData.canLayAll0 (ks.map PyData.int) && decide (PyData.depthAll (ks.map PyData.int) + 1 ≤ 64)) = true
  rw [can_ints, dep_ints]; rfl
theorem r_neNilI {a b : Addr} {ks : List Int} (ha : SqL K H a (ks.map V.int)) (hb : SqL K H b []) (k : Q (.bl (!decide (ks = []))) H) : rNeA K (.ref a) (.ref b) H Q := by
  refine .inr ⟨.list (ks.map PyData.int), .list [], .lst ha (dp_ints ks), .lst hb .nil, sh_ints ks, rfl, ?_⟩
  have e : PyData.eqv (.list (ks.map PyData.int)) (.list []) = decide (ks = []) := by cases ks <;> rfl
  rw [e]
  exact k
end
/-- the signs that are kept -/
def kpP (p : Nat → Bool) : V → Option V
  | .str z => match cd z with
    | [c] => if p c = true then some (.str z) else none
    | _ => none
  | _ => none
theorem kpP_sgn {p : Nat → Bool} {c : Nat} : kpP p (.str ⟨#[c]⟩) = if p c = true then some (.str ⟨#[c]⟩) else none := rfl
theorem filt_p (p : Nat → Bool) : ∀ l : List Nat, (l.map sgnV).filterMap (kpP p) = (l.filter p).map sgnV
  | [] => rfl
  | c :: l => by
    rw [List.map_cons, List.filterMap_cons, filt_p p l, show kpP p (sgnV c) = if p c = true then some (sgnV c) else none from rfl]
    by_cases q : p c = true
    · rw [if_pos q, List.filter_cons_of_pos q]; rfl
    · rw [if_neg q, List.filter_cons_of_neg q]
/-- the words that are kept -/
def kpW (p : List Nat → Bool) : V → Option V
  | .str z => if p (cd z) = true then some (.str z) else none
  | _ => none
theorem kpW_w {p : List Nat → Bool} {l : List Nat} : kpW p (wV l) = if p l = true then some (wV l) else none := by
  show (if p (cd (S l)) = true then _ else _) = _
  rw [cd_S]; rfl
theorem filt_w (p : List Nat → Bool) : ∀ ls : List (List Nat), (ls.map wV).filterMap (kpW p) = (ls.filter p).map wV
  | [] => rfl
  | l :: ls => by
    rw [List.map_cons, List.filterMap_cons, filt_w p ls, kpW_w]
    by_cases q : p l = true
    · rw [if_pos q, List.filter_cons_of_pos q]; rfl
    · rw [if_neg q, List.filter_cons_of_neg q]
theorem comp_rngF {lo : Int} {q : Nat} {g : TG} {tt : TT} {te : TE} {vs : List Nat} {σ : L2.St} {H1 : Hp} {D : Addr} {Z : Hp → Prop} (hD : H1 D = none) (p : Nat → Bool) (hs : q < sizeLine)
    (turn : ∀ (i : Nat) (H : Hp) (N : V → Hp → Prop) (N0 : Hp → Prop), i < q → Same H1 H → (p i = true → ∀ H4, Same H H4 → N (.int (lo + (i : Nat))) H4) → (p i = false → ∀ H4, Same H H4 → N0 H4) →
      g (.int (lo + (i : Nat))) (wipe σ vs) H fun σ2 H2 => wipe σ2 vs = wipe σ vs ∧ tt σ2 H2 fun b H3 => if b = true then te σ2 H3 N else N0 H3)
    (fin : ∀ H, Same H1 H → H D = some (.lst ((((List.range q).filter p).map fun i => lo + (i : Nat)).map V.int)) → Z H) : CompQ (Itr lo q) g tt te vs σ H1 D Z := by
  refine comp_of q (fun i H => Same H1 H ∧ H D = some (.lst ((((List.range i).filter p).map fun i => lo + (i : Nat)).map V.int))) ⟨(Same.refl H1).at hD _, by rw [upd_same]; rfl⟩ (fun i H hi w => hi) (fun H w => Nat.le_refl _) (fun i H x H' hi w y => ?_) (fun H w => fin H w.1 w.2)
  obtain ⟨rfl, rfl⟩ := y
  refine turn i H' _ _ hi w.1 (fun hy H4 s => ⟨_, s _ _ w.2, ?_, (w.1.trans s).at hD _, ?_⟩) fun hn H4 s => ⟨w.1.trans s, ?_⟩
  · rw [List.length_map, List.length_map]
    refine Nat.lt_of_le_of_lt (Nat.le_trans (List.length_filter_le ..) ?_) hs
    rw [List.length_range]; omega
  · rw [upd_same, List.range_succ, List.filter_append, List.map_append, List.map_append, List.filter_cons_of_pos hy]; rfl
  · rw [s _ _ w.2, List.range_succ, List.filter_append, List.filter_cons_of_neg (by rw [hn]; exact Bool.false_ne_true), List.filter_nil, List.append_nil]
/-! ### what begins a word is a word -/
theorem D_len : ∀ (k : Nat) {n : Nat}, n < 10 ^ (k + 1) → (D n).length ≤ k + 1
  | 0, n, h => by rw [D_lt (by simpa using h)]; exact Nat.le_refl _
  | k + 1, n, h => by
    by_cases q : n < 10
    · rw [D_lt q, List.length_singleton]; omega
    · rw [D_ge (by omega), List.length_append, List.length_singleton]
      have := D_len k (n := n / 10) ((Nat.div_lt_iff_lt_mul (by decide)).mpr (by rw [← Nat.pow_succ]; exact h))
      omega
theorem dec_sg (m : Int) : Sg (dec m) := by
  intro c hc
  unfold dec at hc
  split at hc
  · rcases List.mem_cons.mp hc with rfl | hc  -- own
    · omega
    · have := D_digits _ c hc; omega
  · have := D_digits _ c hc; omega
theorem dec_len {m : Int} (h1 : -999999 ≤ m) (h2 : m ≤ 999999) : (dec m).length ≤ 7 := by
  have := D_len 5 (n := m.natAbs) (by omega)
  unfold dec
  split
  · rw [List.length_cons]; omega
  · omega
theorem beg_sg {k : Kd} {ws : List (List Nat)} {l : List Nat} (ok : k.Ok) (ow : OwOk ws) (h : Beg ws l k) : l.length ≤ 40 ∧ Sg l := by
  have pre : ∀ w : List Nat, l <+: w → w.length ≤ 40 → Sg w → l.length ≤ 40 ∧ Sg l := fun w p a b => ⟨Nat.le_trans p.length_le a, fun c hc => b c (p.subset hc)⟩
  cases k with
  | num lo hi =>
    obtain ⟨o1, o2, o3⟩ := ok
    obtain ⟨m, m1, m2, p⟩ := (begNum_iff o2).mp h
    exact pre _ p (Nat.le_trans (dec_len (by omega) (by omega)) (by decide)) (dec_sg m)
  | one ns =>
    obtain ⟨w, hw, p⟩ := h
    exact pre w p (ok.2.2.1 w hw).wd.1 (ok.2.2.1 w hw).wd.2
  | nam =>
    rcases h with h | h
    · rw [h]; exact ⟨by simp, fun c hc => (List.not_mem_nil hc).elim⟩
    · exact h.wd
  | txt n => exact ⟨by have := h.1; have := ok.2; omega, h.2⟩
  | own nm =>
    obtain ⟨w, hw, p⟩ := h
    have q := ow.2.1 w hw
    exact pre w p (by omega) q.2.2
theorem r_lcR2 {σ : L2.St} {H : Hp} {Q : VK} {ta : TA} {te' : TE} {g : TG} {tt : TT} {vs : List Nat} (k : ta σ H fun ws H1 => ∃ i j : Int, ws = [.int i, .int j] ∧ (-(2 ^ 62) ≤ i ∧ i < 2 ^ 62 ∧ -(2 ^ 62) ≤ j ∧ j < 2 ^ 62) ∧ ∀ E, H1 E = none → CompQ (Itr i (j - i).toNat) g tt te' vs σ H1 E fun H => Q (.ref E) H) : tLc (iRng2 ta) g tt te' vs σ H Q := k
theorem pre_eq {l m : List Nat} : (S (m.take l.length) = S l) ↔ l <+: m := by
  rw [S_inj, List.prefix_iff_eq_take]
  exact eq_comm
theorem r_seqZ {K : PySem.W.Frag} {σ : L2.St} {H : Hp} {te' : TE} {g : TG} {tt : TT} {vs : List Nat} {Z : Addr → Hp → Prop} {a : Addr} {xs : List V} (hs : SqL K H a xs ∨ SqT K H a xs) (k : ∀ J, SeqIt J xs H → ∀ E, H E = none → CompQ J g tt te' vs σ H E (Z E)) :
    ∃ b ys, V.ref a = .ref b ∧ ((SqL K H b ys ∧ ∀ E, H E = none → CompQ (Itl K b) g tt te' vs σ H E (Z E)) ∨ (SqT K H b ys ∧ ∀ E, H E = none → CompQ (Itt K b) g tt te' vs σ H E (Z E))) :=
  ⟨a, xs, rfl, hs.elim (fun h => .inl ⟨h, k _ (seqIt_l h)⟩) fun h => .inr ⟨h, k _ (seqIt_t h)⟩⟩
/-- the words that begin with a text -/
theorem word_in {J : It} {g : TG} {tt : TT} {te : TE} {vs : List Nat} {σ : L2.St} {H1 : Hp} {D : Addr} {ns : List (List Nat)} (z : Str) (hz : z.length ≤ 40) (SI : SeqIt J (ns.map wV) H1) (hD : H1 D = none) (hl : ns.length ≤ 100) (hn : ∀ l ∈ ns, l.length ≤ 40 ∧ ∀ c ∈ l, c ≤ 126) (Z : Hp → Prop)
    (turn : ∀ (i : Nat) (l : List Nat) (H : Hp) (N : V → Hp → Prop) (N0 : Hp → Prop), l ∈ ns → Same H1 H → (cd z <+: l → ∀ H4, Same H H4 → N (.str (S l)) H4) → (¬ cd z <+: l → ∀ H4, Same H H4 → N0 H4) →
      g (.str (S l)) (wipe σ vs) H fun σ2 H2 => wipe σ2 vs = wipe σ vs ∧ tt σ2 H2 fun b H3 => if b = true then te σ2 H3 N else N0 H3)
    (fin : ∀ H, Same H1 H → ∀ ls : List (List Nat), H D = some (.lst (ls.map wV)) → (∀ l ∈ ls, ∀ c ∈ l, c ≤ 126) → (ls ≠ [] ↔ ∃ n ∈ ns, cd z <+: n) → Z H) : CompQ J g tt te vs σ H1 D Z := by
  refine comp_filt SI hD (kpW fun l => decide (cd z <+: l)) (by rw [List.length_map]; exact Nat.lt_of_le_of_lt hl (by decide)) (fun i x H3 N1 N2 hx sm y1 y2 => ?_) fun H3 sm hd => ?_
  · rw [List.getElem?_map] at hx
    cases hi : ns[i]? with
    | none => rw [hi] at hx; cases hx
    | some l =>
      rw [hi] at hx
      cases hx
      exact turn i l H3 N1 N2 (List.mem_of_getElem? hi) sm (fun q H4 s => y1 _ H4 (by rw [kpW_w, decide_eq_true q]; rfl) s) fun q H4 s => y2 H4 (by rw [kpW_w, decide_eq_false q]; rfl) s
  · rw [filt_w] at hd
    refine fin H3 sm _ hd (fun l h => (hn l (List.mem_filter.mp h).1).2) ?_
    rw [ne_eq, List.filter_eq_nil_iff]
    constructor
    · intro h
      apply Classical.byContradiction
      intro n
      exact h fun l hl q => n ⟨l, hl, of_decide_eq_true q⟩
    · rintro ⟨l, hl, q⟩ h
      exact h l hl (decide_eq_true q)
def spNumBegun : Sp := fun vs H Q _ => ∃ (lo hi : Int) (z : Str), vs = [.int lo, .int hi, .str z] ∧ z.length ≤ 40 ∧ Sg (cd z) ∧ -999999 ≤ lo ∧ lo ≤ hi ∧ hi ≤ 999999 ∧ ∀ H', Same H H' → Q (.bl (dB (begNum lo hi (cd z)))) H'
def spDueK (K : PySem.W.Frag) : Sp := fun vs H Q _ => ∃ (a b : Addr) (k : Kd) (ws : List (List Nat)) (x : V) (o : Option Str), vs = [.ref a, x, .ref b] ∧ KdAt H a k ∧ k.Ok ∧ OwAt K H b ws ∧ OwOk ws ∧ Thg K H x o ∧ (∀ z, o = some z → ∀ c ∈ cd z, c ≤ 126) ∧ ∀ H', Same H H' → Q (.bl (begT k ws o)) H'
end J

/-! loops over lists and ranges where the box changes; the law's begun texts -/
namespace J
open PySem PySem.Spec PyProof.Rows L2 M
section
variable {K : PySem.W.Frag} {σ : L2.St} {H : Hp} {Q : VK} {g : TG} {tb : TS} {n' : L2.St → Hp → Prop} {rt : VK} {bk ct : L2.St → Hp → Prop}
theorem loop_lst {a : Addr} {xs : List V} (I : Nat → L2.St → Hp → Prop) (at_ : ∀ i σ H, I i σ H → H a = some (.lst xs)) (start : I 0 σ H)
    (turn : ∀ (i : Nat) (x : V) σ1 H1, xs[i]? = some x → I i σ1 H1 → g x σ1 H1 fun σ2 H2 => tb ⟨I (i + 1), rt, n', I (i + 1)⟩ σ2 H2)
    (fin : ∀ σ1 H1, I xs.length σ1 H1 → n' σ1 H1) : LoopQ (Itl K a) g tb ⟨n', rt, bk, ct⟩ σ H :=
  loop_of (D := ⟨n', rt, bk, ct⟩) xs.length I start (fun i σ H hi w => ⟨xs, _, SqL.of (at_ i σ H w), List.getElem?_eq_getElem hi⟩) (fun σ H w => ⟨xs, SqL.of (at_ _ σ H w), Nat.le_refl _⟩) (fun i σ1 H1 x H' hi w y => by
    obtain ⟨rfl, hx⟩ := y
    exact turn i x σ1 H' (hx xs (SqL.of (at_ i σ1 H' w))) w) fin
theorem loop_rng {q : Nat} (I : Nat → L2.St → Hp → Prop) (start : I 0 σ H)
    (turn : ∀ (j : Nat) σ1 H1, j < q → I j σ1 H1 → g (.int (j : Nat)) σ1 H1 fun σ2 H2 => tb ⟨I (j + 1), rt, n', I (j + 1)⟩ σ2 H2)
    (fin : ∀ σ1 H1, I q σ1 H1 → n' σ1 H1) : LoopQ (Itr 0 q) g tb ⟨n', rt, bk, ct⟩ σ H :=
  loop_of (D := ⟨n', rt, bk, ct⟩) q I start (fun j _ _ hj _ => hj) (fun _ _ _ => Nat.le_refl _) (fun j σ1 H1 x H' hj w y => by
    obtain ⟨rfl, rfl⟩ := y
    have e : (0 + (j : Nat) : Int) = (j : Nat) := by omega
    rw [e]
    exact turn j σ1 H' hj w) fin
theorem r_irng1 {ta : TA} {R : It → Hp → Prop} (k : ta σ H fun vs H1 => ∃ j : Int, vs = [.int j] ∧ -(2 ^ 62) ≤ j ∧ j < 2 ^ 62 ∧ R (Itr 0 j.toNat) H1) : iRng1 ta σ H R := k
end
/-- texts of the law's -/
def Tz (zs : List Str) : Prop := ∀ z ∈ zs, z.length ≤ 50 ∧ ∀ c ∈ cd z, c ≤ 126
theorem Tz.app {zs ys : List Str} (a : Tz zs) (b : Tz ys) : Tz (zs ++ ys) := fun z hz => (List.mem_append.mp hz).elim (a z) (b z)
/-- the law's words -/
def Wz (ws : List (List Nat)) : Prop := ∀ w ∈ ws, w.length ≤ 20 ∧ ∀ c ∈ w, c ≤ 126
theorem OwOk.wz {ws : List (List Nat)} (h : OwOk ws) : Wz ws := fun w hw => ⟨(h.2.1 w hw).2.1, fun c hc => ((h.2.1 w hw).2.2 c hc).2⟩
theorem Wz.nm {ws : List (List Nat)} (h : ∀ n ∈ ws, Nm n) : Wz ws := fun w hw => ⟨by have := (h w hw).2.1; omega, fun c hc => by have := (h w hw).2.2 c hc; omega⟩
def spTexts : Sp := fun vs H Q _ => ∃ (bx a o : Addr) (n : Nat) (k : Kd) (ws : List (List Nat)), vs = [.ref bx, .ref a, .ref o] ∧ Bx H bx n ∧ n ≤ 500000000 ∧ KdAt H a k ∧ k.Ok ∧ H o = some (.lst (ws.map wV)) ∧ o ≠ bx ∧ OwOk ws ∧
  ∀ (zs : List Str) (p : Addr) (H' : Hp), zs.length ≤ 1000 → Tz zs → Keep bx H H' → Bx H' bx (n + 400) → H' p = some (.lst (zs.map V.str)) → p ≠ bx → Q (.ref p) H'
end J

/-! a def with a keyword-only list, left out or told; the repr of a truth -/
namespace J
open PySem PySem.Spec PyProof.Rows L2 M
structure DKn (K : PySem.W.Frag) (mg : Str → Option Value) (x : Str) (st : Stmt) (ps : List Str) (f e : Addr) (fd : FuncData) (ds : List Value) : Prop where
  fn : Fun K x x st f fd
  gl : mg x = some (.ref f)
  bK : KBn K fd ps 2 ["own"] (fun us ws => us ++ ws) (fun vs zs => vs ++ zs)
  bd : Binds K fd ps ds
  vs : Vals [V.ref e] ds
  em : ∀ H, SqT K H e []
theorem r_callN {σ : L2.St} {H : Hp} {Q : VK} {n m : Nat} {sp : Sp} {gV : List V → List V → List V} {E : XK} {t tk : TA} (k : t σ H fun vs H1 => tk σ H1 fun zs H2 => vs.length = n ∧ zs.length = m ∧ sp (gV vs zs) H2 Q E) : tCallN n m sp gV E t tk σ H Q := k
theorem showy_bl (b : Bool) : Showy (.bool b) := by cases b <;> exact ⟨rfl, by decide, rfl, by decide +kernel⟩
theorem r_neB {K : PySem.W.Frag} {H : Hp} {Q : VK} {b : Bool} (k : Q (.bl false) H) : rNeA K (.bl b) (.bl b) H Q := .inl ⟨rfl, by rw [decide_eq_true rfl]; exact k⟩
theorem r_neSame {K : PySem.W.Frag} {H : Hp} {Q : VK} {z : Str} (k : Q (.bl false) H) : rNeA K (.str z) (.str z) H Q := r_neS (by rw [decide_eq_true rfl]; exact k)
theorem r_midJ {t : TS} {n : L2.St → Hp → Prop} {rt : VK} {bk ct : L2.St → Hp → Prop} {σ : L2.St} {H : Hp} (Mid : L2.St → Hp → Prop) (first : ∀ N : L2.St → Hp → Prop, (∀ σ' H', Mid σ' H' → N σ' H') → t ⟨N, rt, bk, ct⟩ σ H) (rest : ∀ σ' H', Mid σ' H' → n σ' H') : t ⟨n, rt, bk, ct⟩ σ H := first n rest
end J

/-! things of some sorts: what they are, and whether one is a worth -/
namespace J
open PySem PySem.Spec PyProof.Rows L2 M
/-- what does not come to pass -/
theorem ps_false {X : Cx} {st : Stmt} : PS X st (fun _ _ _ => False) := ⟨fun pins s σ H D I h => h.elim⟩
/-! ### x in a list or a tuple, of data -/
def rInX (K : PySem.W.Frag) : R2 := fun x y H Q => ∃ d ds, Dp K H x d ∧ (Dp K H y (.list ds) ∨ Dp K H y (.tuple ds)) ∧ SeqAt.shaped d = true ∧ SeqAt.shaped (.list ds) = true ∧ Q (.bl (ds.any fun z => PyData.eqv z d)) H
theorem op_inX {X : Cx} (hu : X.A.units + 65 < cLine) : OpR X (compareOp .In) (rInX X.K) := by
  intro pins s σ H x y v u Q I rx ry h  -- own
  obtain ⟨d, ds, hd, he, sd, se, q⟩ := h  -- own
  obtain ⟨as, r1⟩ := Dp.reads I d x v hd rx  -- own
  rcases he with he | he
  · obtain ⟨bs, r2⟩ := Dp.reads I (.list ds) y u he ry
    exact SeqAt.in_list_reads r2 r1 (SeqAt.canLay_of_shaped se) (SeqAt.canLay_of_shaped sd) (room_in_shaped sd hu) ⟨.bl _, H, I, rfl, q⟩  -- own
  · obtain ⟨bs, r2⟩ := Dp.reads I (.tuple ds) y u he ry
    exact SeqAt.in_tuple_reads r2 r1 (SeqAt.canLay_of_shaped se) (SeqAt.canLay_of_shaped sd) (room_in_shaped sd hu) ⟨.bl _, H, I, rfl, q⟩
theorem room_65 {k : Nat} {A : Around} (r : Room k A) : A.units + 65 < cLine := by have := r.un; omega
/-! ### things -/
inductive Tg (K : PySem.W.Frag) (H : Hp) : V → PyData → Prop where
  | str (z : Str) (h : z.length ≤ 50) (c : ∀ c ∈ cd z, c ≤ 126) : Tg K H (.str z) (.str z)
  | non : Tg K H .non .none
  | int (i : Int) (h : i.natAbs ≤ 10 ^ 60) : Tg K H (.int i) (.int i)
  | bl (b : Bool) : Tg K H (.bl b) (.bool b)
  | lst {a : Addr} (h : H a = some (.lst [.int 1])) : Tg K H (.ref a) (.list [.int 1])
  | tup {a : Addr} {zs : List (List Nat)} (h : H a = some (.tup (zs.map wV))) (hl : zs.length ≤ 8) (hz : ∀ l ∈ zs, l.length ≤ 8 ∧ ∀ c ∈ l, c ≤ 126) : Tg K H (.ref a) (.tuple (zs.map dW))
theorem Tg.same {K : PySem.W.Frag} {H H' : Hp} {x : V} {d : PyData} (t : Tg K H x d) (s : Same H H') : Tg K H' x d := by
  cases t with
  | str z h c => exact .str z h c
  | non => exact .non
  | int i h => exact .int i h
  | bl b => exact .bl b
  | lst h => exact .lst (s _ _ h)
  | tup h hl hz => exact .tup (s _ _ h) hl hz
theorem Tg.dp {K : PySem.W.Frag} {H : Hp} {x : V} {d : PyData} (t : Tg K H x d) : Dp K H x d := by
  cases t with
  | str z h c => exact .str z
  | non => exact .non
  | int i h => exact .int i
  | bl b => exact .bl b
  | lst h => exact .lst (SqL.of h) (.cons (.int 1) .nil)
  | tup h hl hz => exact .tup (SqT.of h) (dp_all _)
theorem Tg.sh {K : PySem.W.Frag} {H : Hp} {x : V} {d : PyData} (t : Tg K H x d) : SeqAt.shaped d = true := by
  cases t with
  | str z h c =>
    have := can_w c
    rw [show dW (cd z) = .str z from congrArg PyData.str (S_of z)] at this
    show (PyData.canLay0 (.str z) && decide (0 ≤ 64)) = true
    rw [this]; rfl
  | non => rfl
  | int i h => rfl
  | bl b => rfl
  | lst h => rfl
  | @tup _ zs h hl hz =>
    show (PyData.canLayAll0 (zs.map dW) && decide (PyData.depthAll (zs.map dW) + 1 ≤ 64)) = true
    rw [can_ws fun l hl => (hz l hl).2, dep_ws]; rfl
def tyD : PyData → String
  | .str _ => "str"
  | .none => "NoneType"
  | .int _ => "int"
  | .bool _ => "bool"
  | .list _ => "list"
  | .tuple _ => "tuple"
  | _ => ""
theorem Tg.ty {K : PySem.W.Frag} {H : Hp} {x : V} {d : PyData} (t : Tg K H x d) : TyX K H x (.type (tyD d)) := by
  cases t with
  | str z h c => exact .base (.str z)
  | non => exact .base .non
  | int i h => exact .base (.int i)
  | bl b => exact .base (.bl b)
  | lst h => exact .base (.lst h)
  | tup h hl hz => exact .base (.tup h)
def isSD : PyData → Bool
  | .str _ => true
  | _ => false
def isID : PyData → Bool
  | .int _ => true
  | .bool _ => true
  | _ => false
def isBD : PyData → Bool
  | .bool _ => true
  | _ => false
theorem Tg.isS {K : PySem.W.Frag} {H : Hp} {Q : VK} {x : V} {d : PyData} (t : Tg K H x d) (k : Q (.bl (isSD d)) H) : rIsi K [x, .ty "str"] H Q :=
  r_isiB t.ty (by cases t <;> first | exact (show kitB "str" "str" = some true by decide +kernel) | exact (show kitB "NoneType" "str" = some false by decide +kernel) | exact (show kitB "int" "str" = some false by decide +kernel) | exact (show kitB "bool" "str" = some false by decide +kernel) | exact (show kitB "list" "str" = some false by decide +kernel) | exact (show kitB "tuple" "str" = some false by decide +kernel)) k
theorem Tg.isI {K : PySem.W.Frag} {H : Hp} {Q : VK} {x : V} {d : PyData} (t : Tg K H x d) (k : Q (.bl (isID d)) H) : rIsi K [x, .ty "int"] H Q :=
  r_isiB t.ty (by cases t <;> first | exact (show kitB "str" "int" = some false by decide +kernel) | exact (show kitB "NoneType" "int" = some false by decide +kernel) | exact (show kitB "int" "int" = some true by decide +kernel) | exact (show kitB "bool" "int" = some true by decide +kernel) | exact (show kitB "list" "int" = some false by decide +kernel) | exact (show kitB "tuple" "int" = some false by decide +kernel)) k
theorem Tg.isB {K : PySem.W.Frag} {H : Hp} {Q : VK} {x : V} {d : PyData} (t : Tg K H x d) (k : Q (.bl (isBD d)) H) : rIsi K [x, .ty "bool"] H Q :=
  r_isiB t.ty (by cases t <;> first | exact (show kitB "str" "bool" = some false by decide +kernel) | exact (show kitB "NoneType" "bool" = some false by decide +kernel) | exact (show kitB "int" "bool" = some false by decide +kernel) | exact (show kitB "bool" "bool" = some true by decide +kernel) | exact (show kitB "list" "bool" = some false by decide +kernel) | exact (show kitB "tuple" "bool" = some false by decide +kernel)) k
/-- a worth of a kind -/
def Fit (ws : List (List Nat)) (d : PyData) : Kd → Prop
  | .num lo hi => ∃ i, d = .int i ∧ lo ≤ i ∧ i ≤ hi
  | .one ns => ∃ n ∈ ns, d = dW n
  | .nam => ∃ z, d = .str z ∧ Nm (cd z)
  | .txt n => ∃ z, d = .str z ∧ (z.length : Int) ≤ n ∧ Sg (cd z)
  | .own _ => ∃ w ∈ ws, d = dW w
noncomputable def fitB (k : Kd) (ws : List (List Nat)) (d : PyData) : Bool := dB (Fit ws d k)
theorem any_fit {K : PySem.W.Frag} {H : Hp} {x : V} {d : PyData} (t : Tg K H x d) (ns : List (List Nat)) : ((ns.map dW).any fun z => PyData.eqv z d) = dB (∃ n ∈ ns, d = dW n) := by
  have one : ∀ n : List Nat, PyData.eqv (dW n) d = true ↔ d = dW n := fun n => by
    cases t with
    | str z h c =>
      show decide (S n = z) = true ↔ PyData.str z = PyData.str (S n)
      rw [decide_eq_true_iff]
      constructor
      · intro e; rw [e]
      · intro e; injection e with e; exact e.symm
    | non => exact ⟨fun e => (Bool.false_ne_true e).elim, fun e => PyData.noConfusion e⟩
    | int i h => exact ⟨fun e => (Bool.false_ne_true e).elim, fun e => PyData.noConfusion e⟩
    | bl b => exact ⟨fun e => (Bool.false_ne_true e).elim, fun e => PyData.noConfusion e⟩
    | lst h => exact ⟨fun e => (Bool.false_ne_true e).elim, fun e => PyData.noConfusion e⟩
    | tup h hl hz => exact ⟨fun e => (Bool.false_ne_true e).elim, fun e => PyData.noConfusion e⟩
  rw [Bool.eq_iff_iff, dB_iff, List.any_eq_true]
  constructor
  · rintro ⟨y, hy, e⟩
    obtain ⟨n, hn, rfl⟩ := List.mem_map.mp hy
    exact ⟨n, hn, (one n).mp e⟩
  · rintro ⟨n, hn, e⟩
    exact ⟨_, List.mem_map_of_mem hn, (one n).mpr e⟩
/-- the word of a worth -/
def wordV : PyData → V
  | .int i => .str (toString i)
  | .str z => .str z
  | _ => .non
def datV : PyData → V
  | .int i => .int i
  | .str z => .str z
  | _ => .non
end J

/-! promises of the doors to worths and words; keyword calls that may break off -/
namespace J
open PySem PySem.Spec PyProof.Rows L2 M
def whD (lo hi : Int) : PyData → Bool
  | .int i => decide (lo ≤ i) && decide (i ≤ hi)
  | _ => false
theorem whD_t {lo hi i : Int} (h1 : lo ≤ i) (h2 : i ≤ hi) : whD lo hi (.int i) = true := by show (decide _ && decide _) = true; rw [decide_eq_true h1, decide_eq_true h2]; rfl
def nmD : PyData → Bool
  | .str z => isNm (cd z)
  | _ => false
theorem nmD_t {l : List Nat} (h : Nm l) : nmD (.str (S l)) = true := by show isNm (cd (S l)) = true; rw [cd_S]; exact isNm_iff.mpr h
def wdD : PyData → Bool
  | .str z => decide (z.length ≤ 40) && sg (cd z)
  | _ => false
theorem wdD_t {l : List Nat} (h1 : l.length ≤ 40) (h2 : ∀ c ∈ l, 32 ≤ c ∧ c ≤ 126) : wdD (.str (S l)) = true := by show (decide _ && sg (cd (S l))) = true; rw [S_len, cd_S, sg_iff.mpr h2, decide_eq_true h1]; rfl
def intD : PyData → Bool
  | .int _ => true
  | _ => false
noncomputable def numD : PyData → V
  | .str z => optV (numV (cd z))
  | _ => .non
theorem tg_w {K : PySem.W.Frag} {H : Hp} {l : List Nat} (h1 : l.length ≤ 50) (h2 : ∀ c ∈ l, c ≤ 126) : Tg K H (.str (S l)) (.str (S l)) := .str (S l) (by rw [S_len]; exact h1) (by rw [cd_S]; exact h2)
theorem tg_nm {K : PySem.W.Frag} {H : Hp} {l : List Nat} (h : Nm l) : Tg K H (.str (S l)) (.str (S l)) := tg_w (by have := h.2.1; omega) fun c hc => by have := h.2.2 c hc; omega
def spWholeT (K : PySem.W.Frag) : Sp := fun vs H Q _ => ∃ (x : V) (d : PyData) (lo hi : Int), vs = [x, .int lo, .int hi] ∧ Tg K H x d ∧ Q (.bl (whD lo hi d)) H
def spNumberT (K : PySem.W.Frag) : Sp := fun vs H Q _ => ∃ (x : V) (d : PyData), vs = [x] ∧ Tg K H x d ∧ Q (.bl (intD d)) H
def spNameT (K : PySem.W.Frag) : Sp := fun vs H Q _ => ∃ (x : V) (d : PyData), vs = [x] ∧ Tg K H x d ∧ Q (.bl (nmD d)) H
def spWordT (K : PySem.W.Frag) : Sp := fun vs H Q _ => ∃ (x : V) (d : PyData), vs = [x] ∧ Tg K H x d ∧ Q (.bl (wdD d)) H
noncomputable def spNumInT (K : PySem.W.Frag) : Sp := fun vs H Q _ => ∃ (x : V) (d : PyData), vs = [x] ∧ Tg K H x d ∧ Q (numD d) H
def spNumWord : Sp := fun vs H Q _ => ∃ i : Int, vs = [.int i] ∧ i.natAbs < 10 ^ 18 ∧ Q (.str (toString i)) H
/-- what a kind, a thing and own words are handed in for -/
def AtT (K : PySem.W.Frag) (H : Hp) (a b : Addr) (k : Kd) (ws : List (List Nat)) (x : V) (d : PyData) : Prop := KdAt H a k ∧ k.Ok ∧ OwAt K H b ws ∧ OwOk ws ∧ Tg K H x d
theorem AtT.same {K : PySem.W.Frag} {H H' : Hp} {a b : Addr} {k : Kd} {ws : List (List Nat)} {x : V} {d : PyData} (h : AtT K H a b k ws x d) (s : Same H H') : AtT K H' a b k ws x d := ⟨h.1.same s, h.2.1, h.2.2.1.same s, h.2.2.2.1, h.2.2.2.2.same s⟩
def spFitsT (K : PySem.W.Frag) : Sp := fun vs H Q _ => ∃ (a b : Addr) (k : Kd) (ws : List (List Nat)) (x : V) (d : PyData), vs = [.ref a, x, .ref b] ∧ AtT K H a b k ws x d ∧ Q (.bl (fitB k ws d)) H
def spIsWorth (K : PySem.W.Frag) : Sp := fun vs H Q _ => ∃ (a b : Addr) (k : Kd) (ws : List (List Nat)) (x : V) (d : PyData), vs = [.ref a, x, .ref b] ∧ AtT K H a b k ws x d ∧ ∀ H', Same H H' → Q (.bl (fitB k ws d)) H'
/-- the word, where it is known to be a worth -/
def spWordOf0 (K : PySem.W.Frag) : Sp := fun vs H Q _ => ∃ (a b : Addr) (k : Kd) (ws : List (List Nat)) (x : V) (d : PyData), vs = [.ref a, x, .ref b] ∧ AtT K H a b k ws x d ∧ Fit ws d k ∧ ∀ H', Same H H' → Q (wordV d) H'
def spWordOf (K : PySem.W.Frag) (C : Addr) : Sp := fun vs H Q E => ∃ (a b : Addr) (k : Kd) (ws : List (List Nat)) (x : V) (d : PyData), vs = [.ref a, x, .ref b] ∧ AtT K H a b k ws x d ∧ ¬ Fit ws d k ∧ Err C "found" x H E
noncomputable def worthV (k : Kd) (ws : List (List Nat)) (d : PyData) : V :=
  match k with
  | .num lo hi => match numD d with
    | .int n => if lo ≤ n ∧ n ≤ hi then .int n else .non
    | _ => .non
  | k => if fitB k ws d = true then datV d else .non
def spWorthOf (K : PySem.W.Frag) : Sp := fun vs H Q _ => ∃ (a b : Addr) (k : Kd) (ws : List (List Nat)) (x : V) (d : PyData), vs = [.ref a, x, .ref b] ∧ AtT K H a b k ws x d ∧ ∀ H', Same H H' → Q (worthV k ws d) H'
def knownW (ws : List (List Nat)) : Kd → List (List Nat)
  | .one ns => ns
  | .own _ => ws
  | _ => []
def spWordsOf (K : PySem.W.Frag) : Sp := fun vs H Q _ => ∃ (a b : Addr) (k : Kd) (ws : List (List Nat)), vs = [.ref a, .ref b] ∧ KdAt H a k ∧ OwAt K H b ws ∧ ∀ (p : Addr), H p = none → Q (.ref p) (upd H p (.lst ((knownW ws k).map wV)))
def spKnown (K : PySem.W.Frag) : Sp := fun vs H Q _ => ∃ (a b : Addr) (k : Kd) (ws : List (List Nat)), vs = [.ref a, .ref b] ∧ KdAt H a k ∧ k.Ok ∧ OwAt K H b ws ∧ OwOk ws ∧ ∀ (p : Addr) (H' : Hp), H p = none → Same H H' → H' p = some (.lst ((knownW ws k).map wV)) → Q (.ref p) H'
def hasW (ws : List (List Nat)) : Kd → Bool
  | .own _ => decide (0 < ws.length)
  | _ => true
def spHasAny (K : PySem.W.Frag) : Sp := fun vs H Q _ => ∃ (a b : Addr) (k : Kd) (ws : List (List Nat)), vs = [.ref a, .ref b] ∧ KdAt H a k ∧ OwAt K H b ws ∧ Q (.bl (hasW ws k)) H
def spHas (K : PySem.W.Frag) : Sp := fun vs H Q _ => ∃ (a b : Addr) (k : Kd) (ws : List (List Nat)), vs = [.ref a, .ref b] ∧ KdAt H a k ∧ k.Ok ∧ OwAt K H b ws ∧ OwOk ws ∧ ∀ H', Same H H' → Q (.bl (hasW ws k)) H'
/-- a def with a keyword-only list, left out or told, behind n others -/
structure DKm (n : Nat) (K : PySem.W.Frag) (mg : Str → Option Value) (x : Str) (st : Stmt) (ps : List Str) (f e : Addr) (fd : FuncData) (ds : List Value) : Prop where
  fn : Fun K x x st f fd
  gl : mg x = some (.ref f)
  bK : KBn K fd ps n ["own"] (fun us ws => us ++ ws) (fun vs zs => vs ++ zs)
  bd : Binds K fd ps ds
  vs : Vals [V.ref e] ds
  em : ∀ H, SqT K H e []
def tCallNS (n m : Nat) (sp : Sp) (gV : List V → List V → List V) (E : L2.St → XK) (t tk : TA) : TE := fun σ H Q => t σ H fun vs H1 => tk σ H1 fun zs H2 => vs.length = n ∧ zs.length = m ∧ sp (gV vs zs) H2 Q (E σ)
section
variable {X : Cx} {CX : CXT} {k n : Nat} {f : Addr} {fd : FuncData} {ps ks : List Str} {sp : Sp} {E : L2.St → XK} {x : Str} {p pos : Pos} {e : Expr} {es : List Expr} {kws : List Keyword} {t tk : TA} {g : List Value → List Value → List Value} {gV : List V → List V → List V}
theorem pe_callNS (F : FnOk X.prog X.w X.K X.mg X.base CX k f fd ps sp) (hr : Room k X.A) (hg : Gl X x) (hm : X.mg x = some (.ref f)) (hk : PySem.W.keepIn X.K (.ref f) = true) (hb : KBn X.K fd ps n ks g gV) (hx : ∀ σ, PassesAt CX X σ (E σ))
    (ha : PA X (e :: es) t) (hkw : PK X kws tk) (hall : (backToKw pos (keywordEach kws X.env)).all (·.1.isSome) = true := by rfl) (hks : (backToKw pos (keywordEach kws X.env)).filterMap (·.1) = ks := by rfl)  -- own
    (hdb : (x == ("__debug__" : Str)) = false := by decide) (he : starEach (e :: es) X.env = (false, eval e X.env) :: starEach es X.env := by rfl)  -- own
    (hpl : ((backTo pos (starEach (e :: es) X.env)).any (·.1) || (backToKw pos (keywordEach kws X.env)).any (·.1.isNone)) = false := by rfl) :  -- own
    PE X (.Call (.Name x p) (e :: es) kws pos) (tCallNS n ks.length sp gV E t tk) := ⟨fun pins s σ H Q I h => by
  refine wpAny_Call_Name_kw (ld_glob I hg hm ?_ hdb)  -- own
  refine PySem.W.callWith_KW (h₀ := X.base) I.ok.mod.kin hk hall (thn (ha.run pos pins s σ H _ I h) fun us s1 z => ?_) hpl he
  obtain ⟨vs, H1, I1, r, q⟩ := z
  refine thn (hkw.run pos pins s1 σ H1 _ I1 q) fun ws s2 z => ?_
  obtain ⟨zs, H2, I2, rz, l1, l2, q2⟩ := z
  refine ⟨I2.kIn, ?_⟩
  rw [hks]
  refine wpAny_call (codeAny_mono (F.run X.A X.stack s2 H2 ⟨us, ks.zip ws⟩ (g us ws) (gV vs zs) Q (E σ) hr I2.env0 (hb.to s2 us ws I2.kIn (r.length.symm.trans l1) (rz.length.symm.trans l2)) (hb.rel r rz) q2) fun r s3 hq => ?_)
  cases r with
  | error e => exact hx σ pins H2 s2 e s3 I2 hq
  | ok fl => cases fl with
    | ret u => exact I2.after hq
    | _ => exact hq.elim⟩
end
section
variable {σ : L2.St} {H : Hp} {Q : VK} {K : PySem.W.Frag}
theorem r_callNS {n m : Nat} {sp : Sp} {gV : List V → List V → List V} {E : L2.St → XK} {t tk : TA} (k : t σ H fun vs H1 => tk σ H1 fun zs H2 => vs.length = n ∧ zs.length = m ∧ sp (gV vs zs) H2 Q (E σ)) : tCallNS n m sp gV E t tk σ H Q := k
theorem r_dget2 {td ty tx : TE} (k : td σ H fun x H1 => ∃ a, x = .ref a ∧ IsD H1 a ∧ ty σ H1 fun y H2 => tx σ H2 fun z H3 => ∃ o, DGet H3 a y o ∧ Q (o.getD z) H3) : tDGet2 td ty tx σ H Q := k
end
def rStrS : List V → Hp → VK → Prop := fun xs H Q => (∃ i, xs = [V.int i] ∧ i.natAbs.log2 < 1920 ∧ Q (.str (toString i)) H) ∨ ∃ a, xs = [V.str a] ∧ Q (.str a) H
theorem call_strA {X : Cx} : CallR X (.type "str") rStrS := fun pins s σ H vs us Q I r h => h.elim (fun h => L2.call_str_int pins s σ H vs us Q I r h) fun h => SkE.call_str_str pins s σ H vs us Q I r h
end J

/-! the law's own looks at worths, words and what is known -/
namespace J
open PySem PySem.Spec PyProof.Rows L2 M
def spNameL (K : PySem.W.Frag) : Sp := fun vs H Q _ => ∃ (x : V) (d : PyData), vs = [x] ∧ Tg K H x d ∧ ∀ H', Same H H' → Q (.bl (nmD d)) H'
noncomputable def spDueW (K : PySem.W.Frag) : Sp := fun vs H Q _ => ∃ (a b : Addr) (k : Kd) (ws : List (List Nat)) (z : Str), vs = [.ref a, .str z, .ref b] ∧ AtT K H a b k ws (.str z) (.str z) ∧ ∀ H', Same H H' → Q (worthV k ws (.str z)) H'
def spKnownL (K : PySem.W.Frag) : Sp := fun vs H Q _ => ∃ (a b : Addr) (k : Kd) (ws : List (List Nat)), vs = [.ref a, .ref b] ∧ KdAt H a k ∧ OwAt K H b ws ∧ ∀ (p : Addr) (H' : Hp), H p = none → Same H H' → H' p = some (.lst ((knownW ws k).map wV)) → Q (.ref p) H'
/-- things, each with what it is -/
def Sm : PyData → Prop
  | .int i => i.natAbs ≤ 10 ^ 30
  | _ => True
def TgAll (K : PySem.W.Frag) (H : Hp) (es : List (V × PyData)) : Prop := ∀ e ∈ es, Tg K H e.1 e.2 ∧ Sm e.2
theorem TgAll.same {K : PySem.W.Frag} {H H' : Hp} {es : List (V × PyData)} (t : TgAll K H es) (s : Same H H') : TgAll K H' es := fun e he => ⟨(t e he).1.same s, (t e he).2⟩
theorem TgAll.app {K : PySem.W.Frag} {H : Hp} {es fs : List (V × PyData)} (t : TgAll K H es) (u : TgAll K H fs) : TgAll K H (es ++ fs) := fun e he => (List.mem_append.mp he).elim (t e) (u e)
def spThings (K : PySem.W.Frag) : Sp := fun vs H Q _ => ∃ (bx a o : Addr) (n : Nat) (k : Kd) (ws : List (List Nat)), vs = [.ref bx, .ref a, .ref o] ∧ Bx H bx n ∧ n ≤ 500000000 ∧ KdAt H a k ∧ k.Ok ∧ H o = some (.lst (ws.map wV)) ∧ o ≠ bx ∧ OwOk ws ∧
  ∀ (es : List (V × PyData)) (p : Addr) (H' : Hp), TgAll K H' es → es.length ≤ 60 → Keep bx H H' → Bx H' bx (n + 60) → H' p = some (.lst (es.map Prod.fst)) → p ≠ bx → Q (.ref p) H'
def spWordsL (K : PySem.W.Frag) : Sp := fun vs H Q _ => ∃ (bx a p : Addr) (es : List (V × PyData)), vs = [.ref bx, .ref a, .ref p] ∧ TgAll K H es ∧ es.length ≤ 60 ∧ H p = some (.lst (es.map Prod.fst)) ∧
  ∀ (zs : List Str) (q : Addr) (H' : Hp), Tz zs → zs.length ≤ 400 → Same H H' → H' q = some (.lst (zs.map V.str)) → Q (.ref q) H'
def spToldR (K : PySem.W.Frag) : Sp := fun vs H Q _ => ∃ (a o : Addr) (k : Kd) (ws : List (List Nat)), vs = [.ref a, .ref o] ∧ KdAt H a k ∧ k.Ok ∧ H o = some (.lst (ws.map wV)) ∧ OwOk ws ∧ ∀ H', Same H H' → Q (.bl true) H'
def spNoWord (K : PySem.W.Frag) : Sp := fun vs H Q _ => ∃ (a b : Addr) (k : Kd) (ws : List (List Nat)) (x : V) (d : PyData), vs = [.ref a, x, .ref b] ∧ AtT K H a b k ws x d ∧ ¬ Fit ws d k ∧ ∀ H', Same H H' → Q (.bl true) H'
/-- the numeral's own test, as the law writes it -/
theorem canon_of {l : List Nat} (h0 : l ≠ []) (ad : PySem.NumText.AllDigits l) : Canon l ↔ (l = [48] ∨ l.head? ≠ some 48) := ⟨fun c => c.2.2, fun c => ⟨h0, ad, c⟩⟩
end J

/-! things and lists of words may be asked for their repr -/
namespace J
open PySem PySem.Spec PyProof.Rows L2 M
theorem show_z {z : Str} (h : z.length ≤ 100) (hc : ∀ c ∈ cd z, c ≤ 126) : (PyData.shown (.str z)).length ≤ 1002 := by
  have e : z = S (cd z) := (S_of z).symm
  have := PySem.StrLaws.reprText_len (S (cd z)) (fun c q => by rw [S_cps] at q; have := hc c q; exact Nat.lt_of_le_of_lt this (by decide))
  rw [S_len, ← len_cd] at this
  rw [e]
  exact Nat.le_trans this (by omega)
theorem showy_str {z : Str} (h : z.length ≤ 100) (hc : ∀ c ∈ cd z, c ≤ 126) : Showy (.str z) := ⟨rfl, by show 0 ≤ 60; decide, rfl, Nat.le_trans (show_z h hc) (by decide)⟩
theorem log60 {i : Int} (h : i.natAbs ≤ 10 ^ 60) : i.natAbs.log2 < 200 := by
  by_cases h0 : i.natAbs = 0
  · rw [h0]; decide
  · exact (Nat.log2_lt h0).mpr (Nat.lt_of_le_of_lt h (by decide))
theorem show_i60 {i : Int} (h : i.natAbs ≤ 10 ^ 60) : (PyData.shown (.int i)).length ≤ 201 := by
  show (Str.ofString (toString i)).length ≤ 201
  have := int_text_length_le (a := i) (k := 200) (by decide) (log60 h)
  have e : (Str.ofString (toString i)).length = (toString i).length := PySem.ofString_length _
  omega
theorem showy_int {i : Int} (h : i.natAbs ≤ 10 ^ 60) : Showy (.int i) := ⟨decide_eq_true (Nat.lt_trans (log60 h) (by decide)), by show 0 ≤ 60; decide, rfl, Nat.le_trans (show_i60 h) (by decide)⟩
theorem showy_ws {ws : List (List Nat)} (hl : ws.length ≤ 40) (h : ∀ w ∈ ws, w.length ≤ 40 ∧ ∀ c ∈ w, c ≤ 126) : Showy (dWs ws) := by
  obtain ⟨a, b, c, d⟩ := show_ws h
  have e : (PyData.shown (dWs ws)).length ≤ 20000 := by
    have := listText_len_le (PyData.shownAll (ws.map dW))
    show (listText (PyData.shownAll (ws.map dW))).length ≤ _
    omega
  exact ⟨c, by simp [dWs, PyData.depth, dep_ws], d, Nat.le_trans e (by decide)⟩
theorem showy_two {ws : List (List Nat)} {t : Bool} (hl : ws.length ≤ 40) (h : ∀ w ∈ ws, w.length ≤ 40 ∧ ∀ c ∈ w, c ≤ 126) : Showy (.list [dWs ws, .bool t]) := by
  obtain ⟨a, b, c, d⟩ := show_ws h
  have e : (PyData.shown (dWs ws)).length ≤ 20000 := by
    have := listText_len_le (PyData.shownAll (ws.map dW))
    show (listText (PyData.shownAll (ws.map dW))).length ≤ _
    omega
  have e2 : (PyData.shown (.bool t)).length ≤ 10 := by cases t <;> decide +kernel
  refine ⟨?_, ?_, ?_, ?_⟩
  · show (PyData.showableAll (ws.map dW) && (true && true)) = true
    rw [c]; rfl
  · simp [PyData.depth, PyData.depthAll, dWs, dep_ws]
  · show (PyData.hasDictAll (ws.map dW) || (false || false)) = false
    rw [d]; rfl
  · have := listText_len_le (PyData.shownAll [dWs ws, .bool t])
    simp only [PyData.shownAll, List.map_cons, List.map_nil, List.sum_cons, List.sum_nil, List.length_cons, List.length_nil] at this
    refine Nat.le_trans (show (listText (PyData.shownAll [dWs ws, .bool t])).length ≤ 30000 from ?_) (by decide)
    simp only [PyData.shownAll]
    omega
theorem Tg.showy {K : PySem.W.Frag} {H : Hp} {x : V} {d : PyData} (t : Tg K H x d) : Showy d := by
  cases t with
  | str z h c => exact showy_str (by omega) c
  | non => exact ⟨rfl, by decide, rfl, by decide +kernel⟩
  | int i h => exact showy_int h
  | bl b => exact showy_bl b
  | lst h => exact ⟨by decide +kernel, by decide, rfl, by decide +kernel⟩
  | @tup _ zs h hl hz =>
    have hz' : ∀ w ∈ zs, w.length ≤ 40 ∧ ∀ c ∈ w, c ≤ 126 := fun w hw => ⟨by have := (hz w hw).1; omega, (hz w hw).2⟩
    obtain ⟨a, b, c, d⟩ := show_ws hz'
    refine ⟨c, by simp [PyData.depth, dep_ws], d, ?_⟩
    have := tupleText_len_le (PyData.shownAll (zs.map dW))
    refine Nat.le_trans (show (tupleText (PyData.shownAll (zs.map dW))).length ≤ 20000 from ?_) (by decide)
    omega
end J

/-! lists of things, one by one; pieces of texts and texts some times over are things -/
namespace J
open PySem PySem.Spec PyProof.Rows L2 M
theorem TgAll.nil {K : PySem.W.Frag} {H : Hp} : TgAll K H [] := fun _ h => (List.not_mem_nil h).elim
theorem TgAll.cons {K : PySem.W.Frag} {H : Hp} {x : V} {d : PyData} {es : List (V × PyData)} (t : Tg K H x d) (r : TgAll K H es) (sm : Sm d := by first | exact True.intro | (show Int.natAbs _ ≤ _; omega)) : TgAll K H ((x, d) :: es) := fun e he => by
  rcases List.mem_cons.mp he with rfl | h
  · exact ⟨t, sm⟩
  · exact r e h
theorem TgAll.ws {K : PySem.W.Frag} {H : Hp} {ws : List (List Nat)} (h : ∀ w ∈ ws, w.length ≤ 50 ∧ ∀ c ∈ w, c ≤ 126) : TgAll K H (ws.map fun w => (wV w, dW w)) := fun e he => by
  obtain ⟨w, hw, rfl⟩ := List.mem_map.mp he
  exact ⟨tg_w (h w hw).1 (h w hw).2, True.intro⟩
theorem fst_ws (ws : List (List Nat)) : (ws.map fun w => (wV w, dW w)).map Prod.fst = ws.map wV := by rw [List.map_map]; rfl
theorem tg_cut {K : PySem.W.Frag} {H : Hp} {z : Str} {lo hi : Option Int} (h : z.length ≤ 50) (hc : ∀ c ∈ cd z, c ≤ 126) : Tg K H (.str (cutS z lo hi)) (.str (cutS z lo hi)) := by
  have e : cd (cutS z lo hi) = ((cd z).drop (HT.sIx z.length 0 lo)).take (HT.sIx z.length z.length hi - HT.sIx z.length 0 lo) := by simp [cutS]
  refine .str _ ?_ fun c h => ?_
  · rw [len_cd, e, List.length_take, List.length_drop, ← len_cd]; omega
  · rw [e] at h
    exact hc c (List.mem_of_mem_drop (List.mem_of_mem_take h))
theorem tg_mul {K : PySem.W.Frag} {H : Hp} {z : Str} {c : Nat} {n : Nat} (hz : cd z = [c]) (hc : c ≤ 126) (hn : n ≤ 50) : Tg K H (.str (Txt.mul z (n : Int))) (.str (Txt.mul z (n : Int))) := by
  have e : cd (Txt.mul z (n : Int)) = List.replicate n c := by
    rw [mul_cd, hz]
    induction n with
    | zero => rfl
    | succ n ih => rw [List.replicate_succ, List.flatten_cons, ih (by omega), List.replicate_succ]; rfl
  refine .str _ ?_ fun d h => ?_
  · rw [len_cd, e, List.length_replicate]; exact hn
  · rw [e] at h
    rw [(List.mem_replicate.mp h).2]; exact hc
theorem Tg.keep {K : PySem.W.Frag} {H H' : Hp} {b : Addr} {n : Nat} {x : V} {d : PyData} (t : Tg K H x d) (kp : Keep b H H') (hb : Bx H b n) : Tg K H' x d := by
  cases t with
  | str z h c => exact .str z h c
  | non => exact .non
  | int i h => exact .int i h
  | bl b => exact .bl b
  | lst h => exact .lst (kp _ _ h fun e => by
      obtain ⟨x, y, z, q, _⟩ := hb
      rw [e, q] at h
      injection h with h
      injection h with h
      cases h)
  | tup h hl hz => exact .tup (kp.tup hb h) hl hz
theorem TgAll.keep {K : PySem.W.Frag} {H H' : Hp} {b : Addr} {n : Nat} {es : List (V × PyData)} (t : TgAll K H es) (kp : Keep b H H') (hb : Bx H b n) : TgAll K H' es := fun e he => ⟨(t e he).1.keep kp hb, (t e he).2⟩
theorem tg_lit {K : PySem.W.Frag} {H : Hp} {z : Str} (h : (decide (z.length ≤ 50) && (cd z).all fun c => decide (c ≤ 126)) = true) : Tg K H (.str z) (.str z) := by
  rw [Bool.and_eq_true, decide_eq_true_iff, List.all_eq_true] at h
  exact .str z h.1 fun c hc => of_decide_eq_true (h.2 c hc)
theorem dec_len30 {m : Int} (h : m.natAbs ≤ 10 ^ 30) : (dec m).length ≤ 32 := by
  have := D_len 30 (n := m.natAbs) (by omega)
  unfold dec
  split
  · rw [List.length_cons]; omega
  · omega
def kpStr : V → Option V
  | .str z => some (.str z)
  | _ => none
def txs : List (V × PyData) → List Str
  | [] => []
  | (.str z, _) :: r => z :: txs r
  | _ :: r => txs r
theorem txs_map : ∀ es : List (V × PyData), (es.map Prod.fst).filterMap kpStr = (txs es).map V.str
  | [] => rfl
  | (x, d) :: r => by
    have ih := txs_map r
    cases x with
    | str z => exact congrArg (V.str z :: ·) ih
    | _ => exact ih
theorem txs_len : ∀ es : List (V × PyData), (txs es).length ≤ es.length
  | [] => Nat.le_refl _
  | (x, d) :: r => by
    have ih := txs_len r
    cases x with
    | str z => exact Nat.succ_le_succ ih
    | _ => exact Nat.le_succ_of_le ih
theorem txs_tz {K : PySem.W.Frag} {H : Hp} : ∀ {es : List (V × PyData)}, TgAll K H es → Tz (txs es)
  | [], _ => fun _ h => (List.not_mem_nil h).elim
  | (x, d) :: r, t => by
    have ih := txs_tz (es := r) fun e he => t e (List.mem_cons_of_mem _ he)
    have t0 := (t (x, d) (List.mem_cons_self ..)).1
    cases x with
    | str z =>
      intro y hy
      rcases List.mem_cons.mp hy with rfl | h
      · cases t0 with
        | str z h c => exact ⟨h, c⟩
      · exact ih y h
    | _ => exact ih
end J

/-! an own error as a value: made, asked for its class, asked for its repr -/
namespace PySem
open Sem (wp)
open Builtin Builtin.Str Builtin.BaseException Builtin.Exceptions  -- own
open PySem.W (Looks Frag findIn subIn looks_findIn looks_subIn clsIn)
section
variable {prog : Program} {w : World} {M : Model} {A : Around} {E : Value → Shared → Prop} {s : Shared} {K : Frag} {C e t0 : Addr}  -- own
theorem whole_C {cd : ClassData} {Q : String → Shared → Prop} (x : ExcC K C e t0 s.heap) (hc : clsIn K C = some cd) (hq : Q cd.name.toString s) : wpAny M A (typeNameOfWhole (.ref e)) Q E s := by
  unfold typeNameOfWhole shownTypeOf  -- own
  refine wpAny_bind (wpAny_bind (x.LT.here ?_))
  rw [if_neg (show ¬ ((Value.ref C == Value.type "builtin_function_or_method") = true) from fun z => by cases z)]
  refine wpAny_pure ?_
  unfold typeNameWhole
  exact wpAny_bind ((W.looks_clsIn x.1 hc).here (wpAny_pure hq))
def nmS (nm : Str) : Str := Str.ofString (((nm.toString).cutAt '.').getLastD "")
theorem pyRepr_int {i : Int} {t : Tok} {Q : Str → Shared → Prop} (ha : i.natAbs.log2 < 1920) (h : Q (Str.ofString (toString i)) { s with toks := s.toks + 1 }) : wpAny (model prog w) A (pyRepr (.int i t)) Q E s := by
  unfold pyRepr
  exact wpAny_bind (pyReprObj_int ha (wpAny_pure h))
theorem bexc_int {i : Int} {tk : Tok} {cd : ClassData} {Q : Fin → Shared → Prop} (x : ExcC K C e t0 s.heap) (hc : clsIn K C = some cd) (ht : s.heap.TupAt t0 [.int i tk]) (hi : i.natAbs.log2 < 1920) (hz : (nmS cd.name).length ≤ 1000) (h60 : (Str.ofString (toString i)).length ≤ 1000)
    (hq : ∀ t t', Q (.done (.ret (.str (nmS cd.name ++ Str.ofString "(" ++ Str.ofString (toString i) ++ Str.ofString ")") t))) { s with toks := t' }) :
    wpAny (model prog w) A (Builtin.«BaseException.__repr__» ⟨[.ref e], []⟩) Q E s := by
  unfold Builtin.«BaseException.__repr__» Builtin.bexcReprAt
  have hp : 0 + ((Str.ofString ((cd.name.toString.cutAt '.').getLastD "")).length + 1) ≤ sizeLine := by
    show 0 + ((nmS cd.name).length + 1) ≤ sizeLine
    rw [sizeLine_eq]; omega
  have hq : ∀ t t', Q (.done (.ret (.str (Str.ofString ((cd.name.toString.cutAt '.').getLastD "") ++ Str.ofString "(" ++ Str.ofString (toString i) ++ Str.ofString ")") t))) { s with toks := t' } := hq
  have hsz : (Str.ofString ((cd.name.toString.cutAt '.').getLastD "") ++ Str.ofString "(" ++ Str.ofString (toString i) ++ Str.ofString ")").length ≤ sizeLine := by
    show (nmS cd.name ++ Str.ofString "(" ++ Str.ofString (toString i) ++ Str.ofString ")").length ≤ sizeLine
    rw [strLen_append, strLen_append, strLen_append, show (Str.ofString "(").length = 1 by rw [ofString_length]; rfl, show (Str.ofString ")").length = 1 by rw [ofString_length]; rfl, sizeLine_eq]; omega
  repeat (first | with_reducible refine whole_C x hc ?_ | with_reducible refine bexcArgs_C x ht ?_ | rw [pyReprUnder_leaf (v := .int i tk) hp (by intro a; nofun)] | with_reducible refine pyRepr_int hi ?_ | wp_step)
  exact hq _ _
theorem call_bexcRepr_C {Q : Value → Shared → Prop} (x : ExcC K C e t0 s.heap) (hB : subIn K (.ref C) (.type "BaseException") = some true)
    (h : wpAny (model prog w) A.in1 (Builtin.«BaseException.__repr__» ⟨[.ref e], []⟩) (fun fin s' => ∃ v, fin = .done (.ret v) ∧ Q v s') E s) : wpAny (model prog w) A (call (.builtin "BaseException.__repr__") [.ref e]) Q E s := by
  refine wpAny_call (codeAny_call_builtin F.excStr_Exception.repr.plain F.entry_bexc_repr (@PySem.W.check_slot (model prog w) _ _ s "BaseException.__repr__" "BaseException" "__repr__" (.ref e) [] [] _ (by decide +kernel) (by decide +kernel) (x.LI hB) (F.args_bexc_repr _) ?_))
  exact wpAny_mono h (fun fin s' hv => by obtain ⟨v, rfl, q⟩ := hv; exact q) fun _ _ z => z  -- own
theorem bound_C {v tp : Value} {name : Str} {i : String} {Q : Option Value → Shared → Prop} (hT : Looks M s.heap (typeOf v) tp) (hf : Looks M s.heap (typeLookup tp name) (some (.builtin i))) (hb : bindSpecial (.builtin i) v = pure (.builtin i, [v]))
    (hc : wpAny M A (call (.builtin i) [v]) (fun r => Q (some r)) E s) : wpAny M A (callSpecialIfBound? v name) Q E s := by
  simp only [callSpecialIfBound?, callSpecialIfBoundBy?, bindSpecialIfBound?]
  unfold specialOf
  refine wpAny_holding (wpAny_bind (wpAny_bind (wpAny_bind (hT.here (hf.here ?_)))))
  simp only [hb]
  refine wpAny_bind (wpAny_askSetting (wpAny_ite ?_))  -- own
  have fin : wpAny M A (call (.builtin i) ([v] ++ []) >>= fun r => pure (some r)) Q E s := wpAny_bind (wpAny_mono hc (fun v s' h' => wpAny_pure h') fun _ _ h' => h')
  split
  · exact wpAny_bind (wpAny_pure (wpAny_pure fin))  -- own
  · exact wpAny_tryCatch (wpAny_bind (wpAny_pure (wpAny_pure fin)))  -- own
theorem call_reprE {i : Int} {tk : Tok} {cd : ClassData} {Q : Value → Shared → Prop} (hu : A.units + 1 < cLine) (x : ExcC K C e t0 s.heap) (hc : clsIn K C = some cd) (ht : s.heap.TupAt t0 [.int i tk]) (hi : i.natAbs.log2 < 1920) (hz : (nmS cd.name).length ≤ 1000) (h60 : (Str.ofString (toString i)).length ≤ 1000)
    (hr : findIn K (.ref C) "__repr__" = some (some (.builtin "BaseException.__repr__"))) (hB : subIn K (.ref C) (.type "BaseException") = some true)
    (hq : ∀ t t', Q (.str (nmS cd.name ++ Str.ofString "(" ++ Str.ofString (toString i) ++ Str.ofString ")") t) { s with toks := t' }) : wpAny (model prog w) A (call (.builtin "repr") [.ref e]) Q E s := by
  have hf : Looks (model prog w) s.heap (typeLookup (.ref C) "__repr__") (some (.builtin "BaseException.__repr__")) := looks_findIn x.1 hr
  refine Calls.call_function_entry F.kind_repr F.plain_repr F.entry_repr (F.args_repr1 _) ?_  -- own
  unfold Builtin.«repr»
  refine wpAny_bind (m := oneArg "repr" _) (wpAny_pure ?_)  -- own
  refine wpAny_bind (m := cRoomFor _ _) (wpAny_cRoomFor (by show A.units + 1 < cLine; exact hu) ?_)  -- own
  refine wpAny_bind ?_
  unfold specialOf
  refine wpAny_bind (x.LT.here (hf.here ?_))
  refine wpAny_bind (m := callSpecialIfBound? _ (Str.ofString "__repr__")) (bound_C x.LT hf (F.excStr_Exception.repr.bind _) (call_bexcRepr_C x hB (bexc_int x hc ht hi hz h60 fun t t' => ⟨_, rfl, ?_⟩)))
  refine wpAny_bind (wpAny_isInstance (T := "str") (b := true) rfl isSubtype_str_str ?_)  -- own
  exact wpAny_pure ⟨_, rfl, hq _ _⟩
end
end PySem

/-! an own error as a value, what it was made of known -/
namespace J
open PySem PySem.Spec PyProof.Rows L2 M
/-- at e: an error of the class at C, made of what the tuple at t1 holds, its dict (none as yet | at d) -/
def exo1 (e C t1 : Addr) (d : Option Addr) : HO := .ext fun h => h.get? e = some ({ cls := .ref C, dict := d, data := .fields #[.ref t1, .none, .none, .none, .bool false, .none] } : Obj)
theorem exo1_ok {P : Program} {w : World} {H : Hp} {h : Heap} {e C t1 : Addr} {d : Option Addr} (he : h.get? e = some ({ cls := .ref C, dict := d, data := .fields #[.ref t1, .none, .none, .none, .bool false, .none] } : Obj)) : ObjOk P w H h e (exo1 e C t1 d) :=
  ⟨he, ⟨_, he⟩, fun h1 h2 z k => k _ z⟩
theorem exo1_at {P : Program} {w : World} {H : Hp} {h : Heap} {e C t1 : Addr} {d : Option Addr} (hok : HOk P w H h) (he : H e = some (exo1 e C t1 d)) : h.get? e = some ({ cls := .ref C, dict := d, data := .fields #[.ref t1, .none, .none, .none, .bool false, .none] } : Obj) := by
  have x : ObjOk P w H h e (.ext fun h => h.get? e = some ({ cls := .ref C, dict := d, data := .fields #[.ref t1, .none, .none, .none, .bool false, .none] } : Obj)) := hok e _ he
  exact x.1
section
variable {X : Cx} {pins : List (Addr × Obj)} {σ : L2.St} {H : Hp} {s : Shared} {a C t1 : Addr} {f : Str} {y : V} {u : Value} {fs : List (Str × V)} {Q : Unit → Shared → Prop} {E : Value → Shared → Prop} {A : Around}
/-- a field is set, the first one of this error -/
theorem ost_new1 (T : OexC X.K C) (I : Inv X pins σ H s) (e : H a = some (exo1 a C t1 none)) (hno : PySem.W.findIn X.K (.ref C) f = some none) (ry : RelV y u)
    (h : ∀ dx s', H dx = none → dx ≠ a → Inv X pins σ (upd (upd H dx (exd dx [(f, y)])) a (exo1 a C t1 (some dx))) s' → Q () s') : wpAny (model X.prog X.w) A (setAttr (.ref a) f u) Q E s := by
  obtain ⟨nm, q, N, bs, bm, sn, sub, ab, col, dd, k0, k1, k2, k3, k5, hC, hbm⟩ := T.cls  -- own
  have hcl : PySem.W.clsIn X.K C = some { name := nm, bases := bs, mro := .ref C :: bm, ns := N, qualname := q, hasDict := true, slotNames := sn, subclasses := sub, abstract := ab, collection := col, hasDel := false } := by unfold PySem.W.clsIn; rw [hC] <;> rfl  -- own
  have ho := exo1_at I.hok e
  obtain ⟨hp, g, d, t, os⟩ := s
  refine PySem.W.set_plain I.kIn (ox := { cls := .ref C, dict := none, data := .fields #[.ref t1, .none, .none, .none, .bool false, .none] }) (od := none) ⟨ho, rfl, rfl, trivial⟩ T.sa ?_  -- own
  refine PySem.HandSPX.exc_osa I.kIn ho hcl (show PySem.HandSPX.refsVE (.ref C :: bm) = true from hbm) rfl hno (fun h' tk' dx k dn dne hx hn => ?_)  -- own
  have free : H dx = none := I.hok.fresh dn
  obtain ⟨G, stay, gone⟩ := restrict h' fun b => decide (b ≠ dx)
  have at_ : ∀ b, b ≠ dx → G.get? b = h'.get? b := fun b z => stay b (decide_eq_true z)
  -- first the error alone, its dict's object left out; then this is laid beside it
  have I1 := I.write (t' := t) (x := a) (e := a) (o := exo1 a C t1 (some dx)) (h' := G) (by rw [e]; exact True.intro) (.inl rfl)
    (fun b o z y => (at_ b fun w => absurd (w ▸ Heap.lt_size y) (Nat.not_lt_of_le dn)).trans (k b o z y)) ⟨_, (at_ a (Ne.symm dne)).trans hx⟩ (exo1_ok ((at_ a (Ne.symm dne)).trans hx))
  have I2 := I1.laidN (t' := tk') (h' := h') (a := dx) (o := exd dx [(f, y)]) (fun b o z => by
    by_cases w : b = dx
    · rw [w, gone dx (by simp)] at z; cases z
    · exact (at_ b w).symm.trans z) (gone dx (by simp)) (by rw [upd_ne dne]; exact free) (exd_ok hn (relO_put (fs := []) ry fun _ => True.intro))
  have swap : upd (upd H a (exo1 a C t1 (some dx))) dx (exd dx [(f, y)]) = upd (upd H dx (exd dx [(f, y)])) a (exo1 a C t1 (some dx)) := by
    funext b
    by_cases w : b = dx
    · rw [w, upd_same, upd_ne dne, upd_same]
    · rw [upd_ne w]
      by_cases v : b = a
      · rw [v, upd_same, upd_same]
      · rw [upd_ne v, upd_ne v, upd_ne w]
  rw [swap] at I2
  exact h dx _ free dne I2
end
/-- self.f = e -/
def tOst1 (K : PySem.W.Frag) (f : Str) (to te : TE) : TS := fun D σ H => te σ H fun y H1 => to σ H1 fun x H2 => ∃ a C t1 : Addr, x = .ref a ∧ OexC K C ∧ PySem.W.findIn K (.ref C) f = some none ∧
  H2 a = some (exo1 a C t1 none) ∧ ∀ dx, H2 dx = none → dx ≠ a → D.nx σ (upd (upd H2 dx (exd dx [(f, y)])) a (exo1 a C t1 (some dx)))
section
variable {X : Cx} {o e : Expr} {es : List Expr} {to te : TE} {ta : TA} {f : Str} {p p' p1 p2 pos : Pos}  -- own
theorem ps_ost1 (ho : PE X o to) (he : PE X e te) (hs : swapsWith e (some (.Attribute o f p')) pos.line X.env = pure false := by rfl) : PS X (.Assign [.Attribute o f p'] e pos) (tOst1 X.K f to te) := by
  refine ⟨fun pins s σ H D I h => ?_⟩  -- own
  refine plainObj_wpAny_Assign_Attribute (thn (he.run pins s σ H _ I h) fun v s1 ⟨y, H1, I1, r1, q1⟩ => thn (ho.run pins s1 σ H1 _ I1 q1) fun u s2 ⟨x, H2, I2, r2, a, C, t1, ex, T, hno, ea, q⟩ => ?_) hs
  subst ex
  obtain rfl : u = Value.ref a := r2  -- own
  exact ost_new1 T I2 ea hno r1 fun dx s' n ne J => ⟨σ, _, J, q dx n ne⟩
/-- an __init__ that keeps its one argument as f, what the error was made of known -/
def spInit1 (K : PySem.W.Frag) (f : Str) : Sp := fun vs H Q _ => ∃ (a C t1 : Addr) (v : V), vs = [.ref a, v] ∧ OexC K C ∧ PySem.W.findIn K (.ref C) f = some none ∧ H a = some (exo1 a C t1 none) ∧ ∀ dx, H dx = none → dx ≠ a → Q .non (upd (upd H dx (exd dx [(f, v)])) a (exo1 a C t1 (some dx)))
/-- C(e), a value -/
def tMkV (C : Addr) (sp : Sp) (ta : TA) : TE := fun σ H Q => ta σ H fun vs H1 => vs.length ≤ 1000 ∧ ∀ a t1, H1 t1 = none → H1 a = none → a ≠ t1 → sp (.ref a :: vs) (upd (upd H1 t1 (.tup vs)) a (exo1 a C t1 none)) (fun v H2 => v = .non ∧ Q (.ref a) H2) (fun _ _ _ => False)
theorem pe_mkV {CX : CXT} {x : Str} {C fI : Addr} {k : Nat} {fd : FuncData} {ps : List Str} {sp : Sp} (T : OexC X.K C) (iC : PySem.W.findIn X.K (.ref C) "__init__" = some (some (.ref fI))) (tI : PySem.W.typeIn X.K (.ref fI) = some (.type "function"))
    (F1 : FnOk X.prog X.w X.K X.mg X.base CX k fI fd ps sp) (hr : Room (k + 1) X.A) (hb : Binds X.K fd ps []) (hx : Passes CX X (fun _ _ _ => False)) (hg : Gl X x) (hm : X.mg x = some (.ref C)) (ha : PA X (e :: es) ta)
    (hdb : (x == ("__debug__" : Str)) = false := by decide) (he : starEach (e :: es) X.env = (false, eval e X.env) :: starEach es X.env := by rfl) (hpl : (backTo pos (starEach es X.env)).any (·.1) = false := by rfl) :  -- own
    PE X (.Call (.Name x p) (e :: es) [] pos) (tMkV C sp ta) := by
  refine ⟨fun pins s σ H Q I h => ?_⟩  -- own
  obtain ⟨nm, q, N, bs, bm, sn, sub, ab, col, dd, k0, k1, k2, k3, k5, hC, hbm⟩ := T.cls  -- own
  refine wpAny_Call_Name_kw (ld_glob I hg hm ?_ hdb)  -- own
  refine PySem.W.callWith_K (h₀ := X.base) I.ok.mod.kin T.kC (thn (ha.run pos pins s σ H _ I h) fun us s1 ⟨vs, H1, I1, r1, hz, q1⟩ => ⟨I1.kIn, ?_⟩) he hpl  -- own
  show wpAny _ _ (call (.ref C) us) _ _ _  -- own
  obtain ⟨hp, g, dr, tk, os⟩ := s1  -- own
  have hus : us.length ≤ sizeLine := by  -- own
    rw [← Paired.length r1, sizeLine_eq]  -- own
    omega
  have hn0 : H1 hp.objs.size = none := I1.hok.fresh (Nat.le_refl _)
  have I2 : Inv X pins σ (upd H1 hp.objs.size (.tup vs)) ⟨hp.push (PySem.W.kdv_tup us), g, dr, tk, os⟩ :=
    I1.laid (t' := tk) (a := hp.objs.size) (o := .tup vs) (h' := hp.push (PySem.W.kdv_tup us)) (fun b o e => Heap.get?_push_of_some _ e) (Nat.le_refl _) ⟨by rw [sizeLine_eq]; omega, us, r1, _, Heap.get?_push_size _ rfl, rfl, _, rfl⟩
  have hn : H1 (hp.objs.size + 1) = none := I1.hok.fresh (Nat.le_succ _)
  have sz1 : (hp.push (PySem.W.kdv_tup us)).objs.size = hp.objs.size + 1 := by simp [Heap.push]
  have hget : ((hp.push (PySem.W.kdv_tup us)).push (PySem.HandSPX.excO C hp.objs.size)).get? (hp.objs.size + 1) = some (PySem.HandSPX.excO C hp.objs.size) := by heap_get  -- own
  have hq := q1 (hp.objs.size + 1) hp.objs.size hn0 hn (Nat.succ_ne_self _)
  have I3 : Inv X pins σ (upd (upd H1 hp.objs.size (.tup vs)) (hp.objs.size + 1) (exo1 (hp.objs.size + 1) C hp.objs.size none)) ⟨(hp.push (PySem.W.kdv_tup us)).push (PySem.HandSPX.excO C hp.objs.size), g, dr, tk, os⟩ :=
    I2.laid (t' := tk) (a := hp.objs.size + 1) (o := exo1 (hp.objs.size + 1) C hp.objs.size none) (h' := (hp.push (PySem.W.kdv_tup us)).push (PySem.HandSPX.excO C hp.objs.size)) (fun b o e => Heap.get?_push_of_some _ e) (Nat.le_of_eq sz1) (exo1_ok hget)
  have r2 : Vals (V.ref (hp.objs.size + 1) :: vs) (Value.ref (hp.objs.size + 1) :: us) := .cons rfl r1  -- own
  have hl : (Value.ref (hp.objs.size + 1) :: us).length = ps.length := by
    have e := r2.length
    rw [F1.len _ _ _ _ hq] at e
    exact e.symm
  have hb1 := hb _ (Value.ref (hp.objs.size + 1) :: us) I3.kIn (by rw [List.append_nil]; exact hl)
  rw [List.append_nil] at hb1
  refine wpAny_call (PySem.HandSPX.call_own F.excBase_ValueError (fun Y => PySem.HandSPX.refsVE_contains Y bm hbm) (I1.kIn _ _ hC) (PySem.W.looks_findIn I1.kIn iC) (fun self => PySem.W.bind_fn I1.kIn self tI) hus  -- own
    (codeAny_mono (F1.run _ X.stack _ _ ⟨Value.ref (hp.objs.size + 1) :: us, []⟩ (Value.ref (hp.objs.size + 1) :: us) _ _ (fun _ _ _ => False) (hr.make C us []) (I3.env0.make C us []) hb1 r2 hq) fun r s' hq' => ?_))
  cases r with
  | error er => exact hx pins σ _ _ er s' I3 hq'
  | ok fl =>
    cases fl with
    | ret u =>
      obtain ⟨v, H2, os2, bare2, un2, hok2, rv, ev, q2⟩ := hq'
      subst ev
      obtain ⟨h2, g2, d2, t2, os'⟩ := s'  -- own
      have J : Inv X pins σ H2 ⟨h2, g2, d2, t2, os'⟩ := I3.call' (ch := []) os2 un2 hok2 bare2 (fun b z => absurd z (by simp))
      exact ⟨rv, .ref (hp.objs.size + 1), H2, J, rfl, q2⟩
    | next => exact False.elim hq'  -- own
    | brk => exact False.elim hq'
    | cont => exact False.elim hq'  -- own
end
end J

/-! isinstance and repr of things, own errors among them -/
namespace J
open PySem PySem.Spec PyProof.Rows L2 M
/-- what the written part says of a class whose errors are values -/
structure ExF (K : PySem.W.Frag) (C : Addr) (cd : ClassData) : Prop where
  T : OexC K C
  ga : PySem.W.findIn K (.ref C) "__getattribute__" = some (some (.builtin "BaseException.__getattribute__"))  -- own
  gt : PySem.W.findIn K (.ref C) "__getattr__" = some none
  cl : PySem.W.findIn K (.ref C) "__class__" = some (some (.builtin "object.__class__"))
  hn : PySem.W.specialIn K (.builtin "object.__class__") "__get__" = some (some (.builtin "getset_descriptor.__get__"))  -- own
  tk : PySem.W.takesIn K (.builtin "object.__class__") = some true
  mo : PySem.W.mroIn K C (.type "object") = some true
  rp : PySem.W.findIn K (.ref C) "__repr__" = some (some (.builtin "BaseException.__repr__"))
  cdE : PySem.W.clsIn K C = some cd
  nm : (PySem.nmS cd.name).length ≤ 1000
  ni : PySem.W.kitOne K (.ref C) (.type "int") = some false
  ns : PySem.W.kitOne K (.ref C) (.type "str") = some false
  nb : PySem.W.kitOne K (.ref C) (.type "bool") = some false
/-- at a: an error of the class at C, made of i -/
def EvA (H : Hp) (C a : Addr) (i : Int) : Prop := ∃ (t1 dx : Addr) (fs : List (Str × V)), H a = some (exo1 a C t1 (some dx)) ∧ H dx = some (exd dx fs) ∧ H t1 = some (.tup [.int i])
theorem EvA.same {H H' : Hp} {C a : Addr} {i : Int} (e : EvA H C a i) (s : Same H H') : EvA H' C a i := by
  obtain ⟨t1, dx, fs, h1, h2, h3⟩ := e
  exact ⟨t1, dx, fs, s _ _ h1, s _ _ h2, s _ _ h3⟩
/-- its repr -/
def evS (cd : ClassData) (i : Int) : Str := PySem.nmS cd.name ++ Str.ofString "(" ++ Str.ofString (toString i) ++ Str.ofString ")"
def rIsiE (K : PySem.W.Frag) (C : Addr) : List V → Hp → VK → Prop := fun xs H Q => ∃ (a : Addr) (i : Int) (n : String) (b : Bool), xs = [.ref a, .ty n] ∧ EvA H C a i ∧ PySem.W.kitOne K (.ref C) (.type n) = some b ∧ Q (.bl b) H
def rIsiX (K : PySem.W.Frag) (C : Addr) : List V → Hp → VK → Prop := fun xs H Q => rIsi K xs H Q ∨ rIsiE K C xs H Q
def rReprX (K : PySem.W.Frag) (C : Addr) (cd : ClassData) : List V → Hp → VK → Prop := fun xs H Q => rRepr K xs H Q ∨ (∃ (a : Addr) (i : Int), xs = [.ref a] ∧ EvA H C a i ∧ i.natAbs ≤ 10 ^ 60 ∧ Q (.str (evS cd i)) H) ∨ ∃ a : Addr, xs = [.ref a] ∧ H a = some (.dK []) ∧ Q (.str (PyData.shown (.dict []))) H
section
variable {X : Cx} {C : Addr} {cd : ClassData}
theorem call_isiX (F : ExF X.K C cd) : CallR X (.builtin "isinstance") (rIsiX X.K C) := by
  intro pins s σ H xs us Q I r h  -- own
  rcases h with h | ⟨a, i, n, b, rfl, ev, hk, q⟩
  · exact L2.call_isi pins s σ H xs us Q I r h
  · obtain ⟨u1, u2, rfl, r1, r2⟩ := vals2 r
    cases (show u1 = Value.ref a from r1)  -- own
    cases (show u2 = Value.type n from r2)
    obtain ⟨t1, dx, fs, h1, h2, h3⟩ := ev
    have ho := exo1_at I.hok h1
    obtain ⟨mA, hns, _⟩ := exd_at I.hok h2
    obtain ⟨oD, _, _, hoD, _, _⟩ := hns
    have hcl : (PySem.W.clsIn X.K C).isSome = true := by rw [F.cdE]; rfl
    have Z : PySem.W.KitX X.K (.ref a) (.ref C) _ := PySem.W.kitx_exc (ox := { cls := .ref C, dict := some dx, data := .fields #[.ref t1, .none, .none, .none, .bool false, .none] }) (od := some oD) hcl F.ga F.gt F.T.exC F.cl F.hn F.tk F.mo
    exact PySem.W.kia_one Z I.kIn ⟨ho, rfl, rfl, hoD⟩ hk (fun z => nomatch z) fun tk => ⟨.bl b, H, I.tok tk, rfl, q⟩
theorem call_reprX (F : ExF X.K C cd) (hg : X.A.guards = some []) (hu : X.A.units + 64 < cLine) : CallR X (.builtin "repr") (rReprX X.K C cd) := by
  intro pins s σ H xs us Q I r h  -- own
  rcases h with h | ⟨a, i, rfl, ev, hi, q⟩ | ⟨a, rfl, ha, q⟩
  · exact J.call_repr hg hu pins s σ H xs us Q I r h
  · obtain ⟨u, rfl, ru⟩ := vals1 r
    cases (show u = Value.ref a from ru)  -- own
    obtain ⟨t1, dx, fs, h1, h2, h3⟩ := ev
    have ho := exo1_at I.hok h1
    obtain ⟨_, its, rv, o, g1, g2, n, g3⟩ := (show ObjOk X.prog X.w H s.heap t1 (.tup [.int i]) from I.hok t1 _ h3)
    cases rv with
    | cons r1 rs =>
      cases rs
      obtain ⟨tk, e⟩ := r1
      subst e
      have x : PySem.ExcC X.K C a t1 s.heap := ⟨I.kIn, _, _, ho, rfl, rfl, rfl⟩
      exact PySem.call_reprE (by omega) x F.cdE ⟨o, n, g1, g2, g3⟩ (Nat.lt_trans (log60 hi) (by decide)) F.nm (Nat.le_trans (show_i60 hi) (by decide)) F.rp F.T.exC fun t t' => ⟨.str _, H, I.tok t', ⟨_, rfl⟩, q⟩
  · obtain ⟨u, rfl, ru⟩ := vals1 r
    cases (show u = Value.ref a from ru)  -- own
    obtain ⟨_, hsm, vs, r0, o, es, ep, g1, g2, g3, g4⟩ := (show ObjOk X.prog X.w H s.heap a (.dK []) from I.hok a _ ha)
    cases r0
    have e0 : es.toList = [] := by
      cases h : es.toList with
      | nil => rfl
      | cons y r =>
        have g5 := g4.2.1
        rw [h] at g5
        cases g5
    have rd : Reads s.heap (.ref a) (.dict []) [a] := Reads.dict (as := []) (bs := []) g1 g2.1 g3 (by rw [e0]; exact .nil) (by rw [e0]; exact .nil)
    exact repr_of_reads' rd rfl (fun _ h => by
      rw [List.mem_singleton] at h
      rw [h] at hsm
      simp at hsm) hg (by show X.A.units + (1 + 1) < cLine; omega) (fun _ _ e => e) (fun h' t tk hk => ⟨.str _, H, I.kept hk, ⟨_, rfl⟩, q⟩) (by decide +kernel)
end
end J

/-! sep.join(reversed(xs)) -/
namespace J
open PySem PySem.Spec PyProof.Rows L2 M
section
variable {prog : Program} {w : World} {A : Around} {E : Value → Shared → Prop} {s : Shared}  -- own
theorem join_rev {x : Str} {t : Tok} {it l : Addr} {items : Array Value} {ys : List Str} {Q : Value → Shared → Prop} (hh : A.handled = none) (hit : s.heap.IsRevIter it l ((items.size : Int) - 1)) (hl : s.heap.IsList l items) (hne : l ≠ it) (hn : items.size ≤ sizeLine)
    (hP : ∀ acc : Array Value, ItemsOf (fun i v => items[items.size - 1 - i]? = some v) acc items.size → StrsAre acc.toList ys) (hok : (ys.map (·.length)).sum + ys.length * x.length ≤ 16777216)
    (hq : ∀ h' t' k, (∀ b o, b ≠ it → s.heap.get? b = some o → h'.get? b = some o) → Q (.str (Txt.join x ys) t') { s with heap := h', toks := k }) :
    wpAny (model prog w) A (call (.builtin "str.join") [.str x t, .ref it]) Q E s := by
  have hh1 : A.in1.handled = none := hh  -- own
  refine wpAny_call (codeAny_call_builtin F.slot_str_join.plain F.entry_str_join (F.slot_str_join.check _ _ _ _ _ _ _ _ (typeIs_str _ _ _) (F.args_str_join_2 _ _) ?_))  -- own
  rw [join_tree_other]
  refine wpAny_bind (wpAny_typeOf hit.typeIs ?_)
  show wpAny _ A.in1 ((pyIter (.ref it)).tryCatch _ >>= fun it => collect it >>= fun items => joinTail x items) _ _ s
  refine wpAny_bind (wpAny_tryCatch ((Walks.listRev (prog := prog) (w := w) (A := A.in1) hh1 it l hne items).self 0 s _ _ ⟨Nat.zero_le _, by simpa using hit, hl⟩ ?_))
  refine wpAny_bind (RT.collect_rev (A := A.in1) hh1 hit hl hne hn fun h' tk acc hk hacc => ?_)
  obtain ⟨l, hl, ht⟩ := strsAre_values (hP acc hacc)  -- own
  subst ht
  rw [hl]
  have hok' := joinOk_of hok
  unfold JoinOk at hok'
  rw [Bool.not_eq_true'] at hok'  -- own
  have g : Gives (joinTail x (strValues l)) (joinMade x l) := by  -- own
    have g0 := gives_joinTail x l hok'  -- own
    cases l with
    | nil => exact g0
    | cons p r => cases r with
      | nil => exact g0
      | cons q r' => exact g0
  exact g prog w A (wants Q E) _ (post_join l ⟨joinFit_length hok', fun t' k => hq h' t' k hk⟩)
end
theorem strs_of : ∀ {ys : List Str} {vs : List Value}, Vals (ys.map V.str) vs → StrsAre vs ys
  | [], _, r => by cases r; exact .nil
  | y :: ys, _, r => by
    cases r with
    | cons r1 rs =>
      obtain ⟨t, e⟩ := r1
      subst e
      exact .cons y t (strs_of rs)
section
variable {X : Cx}
/-- sep.join(reversed(xs)), xs a list -/
def tJoinRev (K : PySem.W.Frag) (to te : TE) : TE := fun σ H Q => to σ H fun x H1 => (∃ a, x = .str a) ∧ te σ H1 fun v H2 => ∃ (a : Str) (l : Addr) (ys : List Str),
  x = .str a ∧ v = .ref l ∧ SqL K H2 l (ys.map V.str) ∧ (ys.map (·.length)).sum + ys.length * a.length ≤ 16777216 ∧ Q (.str (Txt.join a ys.reverse)) H2
theorem pe_joinRev {o e : Expr} {to te : TE} {apos pos p2 pos2 : Pos} (hc : X.calm = true) (ho : PE X o to) (hg2 : Gl X "reversed") (hm2 : X.mg "reversed" = none) (he : PE X e te)
    (hs1 : starEach [.Call (.Name "reversed" p2) [e] [] pos2] X.env = [(false, eval (.Call (.Name "reversed" p2) [e] [] pos2) X.env)] := by rfl)
    (hs : starEach [e] X.env = (false, eval e X.env) :: starEach [] X.env := by rfl)  -- own
    (hbase : attributeBase o "join" X.env (eval o X.env) = eval o X.env := by rfl) (hline : (apos.endLine == pos.line) = true := by rfl) :  -- own
    PE X (.Call (.Attribute o "join" apos) [.Call (.Name "reversed" p2) [e] [] pos2] [] pos) (tJoinRev X.K to te) := by
  refine ⟨fun pins s σ H Q I h => ?_⟩  -- own
  refine PySem.Call_method1 hbase hs1 hline (thn (ho.run pins s σ H _ I h) fun v s1 ⟨x, H1, I1, r1, q1⟩ => ?_)  -- own
  obtain ⟨⟨a, rfl⟩, q1⟩ := q1
  obtain ⟨t, rfl⟩ := _root_.id r1  -- own
  refine ⟨"str", _, F.plainAttrs_str, F.slot_str_join, F.type_str_join, typeIs_str _ _ _, (fun _ e => nomatch e), Calls.callWith_builtin rfl (Calls.evalArgs_plain (Calls.spliced_cons ?_))⟩  -- own
  refine Call_ (ld_blt I1 hg2 hm2 PyProof.Rows.boot_reversed (PyProof.Rows.callWith_type1 (args_cons (thn (he.run pins s1 σ H1 _ I1 q1) fun u s2 ⟨v, H2, I2, r2, q2⟩ => args_nil ?_) hs) hs rfl))
  obtain ⟨a', l, ys, ea, ev, hq, hz, q3⟩ := q2
  cases ea
  subst ev
  obtain rfl : u = Value.ref l := r2
  obtain ⟨its, rv, p', hn⟩ := I2.list hq
  refine call_reversed_list p'.isList (Calls.spliced_nil ?_)
  have k0 : ∀ b o, s2.heap.get? b = some o → (s2.heap.push (revObj l ((its.toArray.size : Int) - 1))).get? b = some o := fun b o e => Heap.get?_push_of_some _ e
  have I3 : Inv X pins σ H2 { s2 with heap := s2.heap.push (revObj l ((its.toArray.size : Int) - 1)) } := I2.kept (t' := s2.toks) k0
  obtain ⟨f0, f1, f2, f3, f4, f5⟩ := I2.fpOk (H' := H2) (b := s2.heap.objs.size) (Nat.le_refl _) (I2.hok.fresh (Nat.le_refl _))
  have hl := p'.isList
  obtain ⟨ol, hol, _⟩ := id hl
  have hne : l ≠ s2.heap.objs.size := Nat.ne_of_lt (Heap.lt_size hol)
  have hsz : its.toArray.size ≤ sizeLine := by rw [List.size_toArray, ← rv.length]; exact hn
  refine join_rev (s := { s2 with heap := s2.heap.push (revObj l ((its.toArray.size : Int) - 1)) }) (I2.ok.hd hc) ⟨_, Heap.get?_push_size _ rfl, rfl, rfl⟩ (hl.push _) hne hsz (ys := ys.reverse) (fun acc hacc => ?_) (by simpa using hz) fun h' t' k hk => ?_
  · have r := RT.vals_rev rv hacc
    rw [← List.map_reverse] at r
    exact strs_of r
  · exact ⟨.str _, H2, I3.turned (t' := k) (fun b o hb e => hk b o hb e) f0 f1 f3 f4 f5, ⟨t', rfl⟩, q3⟩
theorem asJoinRev {K : PySem.W.Frag} {e : Expr} {to te : TE} (eK : X.K = K) (h : PE X e (tJoinRev X.K to te)) : PE X e (tJoinRev K to te) := eK ▸ h
theorem r_joinRev {K : PySem.W.Frag} {σ : L2.St} {H : Hp} {Q : VK} {to te : TE} (k : to σ H fun x H1 => (∃ a, x = .str a) ∧ te σ H1 fun v H2 => ∃ (a : Str) (l : Addr) (ys : List Str),
  x = .str a ∧ v = .ref l ∧ SqL K H2 l (ys.map V.str) ∧ (ys.map (·.length)).sum + ys.length * a.length ≤ 16777216 ∧ Q (.str (Txt.join a ys.reverse)) H2) : tJoinRev K to te σ H Q := k
end
end J

/-! plain numbers in lots; what is no number; own errors made of a number -/
namespace J
open PySem PySem.Spec PyProof.Rows L2 M
/-! ### figures in lots -/
def padD (k l : Nat) : List Nat := List.replicate (k - (D l).length) 48 ++ D l
theorem pad_one {l : Nat} (h : l < 10) : padD 1 l = [48 + l] := by unfold padD; rw [D_lt h]; rfl
theorem pad_succ {k l : Nat} (hk : 1 ≤ k) : padD (k + 1) l = padD k (l / 10) ++ [48 + l % 10] := by
  unfold padD
  by_cases h : l < 10
  · rw [D_lt h, show l / 10 = 0 by omega, D_zero, show l % 10 = l by omega]
    show List.replicate (k + 1 - 1) 48 ++ [48 + l] = List.replicate (k - 1) 48 ++ [48] ++ [48 + l]
    rw [show k + 1 - 1 = (k - 1) + 1 by omega, List.replicate_succ']
  · rw [D_ge (show 10 ≤ l by omega), List.length_append, List.length_singleton, show k + 1 - ((D (l / 10)).length + 1) = k - (D (l / 10)).length by omega, List.append_assoc]
theorem D_lot : ∀ (k m l : Nat), 1 ≤ m → l < 10 ^ (k + 1) → D (m * 10 ^ (k + 1) + l) = D m ++ padD (k + 1) l
  | 0, m, l, hm, hl => by
    rw [pad_one (by omega), D_ge (by omega), show (m * 10 ^ (0 + 1) + l) / 10 = m by omega, show (m * 10 ^ (0 + 1) + l) % 10 = l by omega]
  | k + 1, m, l, hm, hl => by
    have e : 10 ^ (k + 1 + 1) = 10 * 10 ^ (k + 1) := Nat.pow_succ'
    have p1 : 1 ≤ 10 ^ (k + 1) := Nat.pos_of_ne_zero (by simp)
    have big : 10 ≤ m * (10 * 10 ^ (k + 1)) := by
      have := Nat.mul_le_mul hm (Nat.mul_le_mul (Nat.le_refl 10) p1)
      omega
    rw [e] at hl ⊢
    rw [D_ge (by omega), pad_succ (by omega)]
    have a : (m * (10 * 10 ^ (k + 1)) + l) / 10 = m * 10 ^ (k + 1) + l / 10 := by
      rw [show m * (10 * 10 ^ (k + 1)) = 10 * (m * 10 ^ (k + 1)) by rw [Nat.mul_left_comm]]; omega
    have b : (m * (10 * 10 ^ (k + 1)) + l) % 10 = l % 10 := by
      rw [show m * (10 * 10 ^ (k + 1)) = 10 * (m * 10 ^ (k + 1)) by rw [Nat.mul_left_comm]]; omega
    rw [a, b, D_lot k m (l / 10) hm (by omega), List.append_assoc]
theorem cd_zfill {l : Nat} (h : l < 10 ^ 18) : cd (Txt.zfill (Str.ofString (toString ((l : Nat) : Int))) 18) = padD 18 l := by
  have e : cd (Str.ofString (toString ((l : Nat) : Int))) = D l := by rw [cd_toString, dec_nat]
  have ln : (Str.ofString (toString ((l : Nat) : Int))).length = (D l).length := by rw [len_cd, e]
  have l18 : (D l).length ≤ 18 := D_len 17 (by omega)
  generalize Str.ofString (toString ((l : Nat) : Int)) = z at e ln
  unfold Txt.zfill padD
  by_cases c : (18 : Int) ≤ (z.length : Nat)
  · rw [if_pos c, e, show 18 - (D l).length = 0 by omega]; rfl
  · rw [if_neg c, ln]
    have hd : ∀ x, z.cps[0]? = some x → x ≠ 43 ∧ x ≠ 45 := fun x hx => by
      have : x ∈ cd z := by
        have := Array.mem_of_getElem? hx
        exact Array.mem_toList_iff.mpr this
      rw [e] at this
      have := D_digits l x this
      omega
    have pz : Builtin.Str.padded z ((18 : Int).toNat - (D l).length) 0 48 = Builtin.Str.padded z (18 - (D l).length) 0 48 := rfl
    have : PySem.zfilled z ((18 : Int).toNat - (D l).length) = Builtin.Str.padded z (18 - (D l).length) 0 48 := by
      unfold PySem.zfilled
      cases q : z.cps[0]? with
      | none => rfl
      | some x =>
        obtain ⟨h1, h2⟩ := hd x q
        split
        · rename_i h; cases h; exact absurd rfl h1
        · rename_i h; cases h; exact absurd rfl h2
        · rfl
    rw [this]
    show ((Array.replicate (18 - (D l).length) 48 ++ z.cps ++ Array.replicate 0 48).toList) = _
    simp [e]
end J

/-! what is handed in for a number; own errors made on the spot; promises -/
namespace J
open PySem PySem.Spec PyProof.Rows L2 M
inductive Od (C : Addr) (H : Hp) : V → Option Int → Prop where
  | int (i : Int) (h : i.natAbs ≤ 10 ^ 60) : Od C H (.int i) (some i)
  | non : Od C H .non none
  | bl (b : Bool) : Od C H (.bl b) none
  | str (z : Str) (h : z.length ≤ 100) (c : ∀ c ∈ cd z, c ≤ 126) : Od C H (.str z) none
  | lst {a : Addr} (h : H a = some (.lst [.int 7])) : Od C H (.ref a) none
  | tup {a : Addr} (h : H a = some (.tup [.int 7])) : Od C H (.ref a) none
  | dct {a : Addr} (h : H a = some (.dK [])) : Od C H (.ref a) none
  | err {a : Addr} (h : EvA H C a 7) : Od C H (.ref a) none
theorem Od.same {C : Addr} {H H' : Hp} {x : V} {o : Option Int} (t : Od C H x o) (s : Same H H') : Od C H' x o := by
  cases t with
  | int i h => exact .int i h
  | non => exact .non
  | bl b => exact .bl b
  | str z h c => exact .str z h c
  | lst h => exact .lst (s _ _ h)
  | tup h => exact .tup (s _ _ h)
  | dct h => exact .dct (s _ _ h)
  | err h => exact .err (h.same s)
/-- its repr is the same text as long as it stands -/
theorem Od.repr {K : PySem.W.Frag} {C : Addr} {cd0 : ClassData} {H : Hp} {x : V} {o : Option Int} (t : Od C H x o) : ∃ z : Str, ∀ H', Same H H' → ∀ Q : VK, Q (.str z) H' → rReprX K C cd0 [x] H' Q := by
  have plain : ∀ (d : PyData), (∀ H', Same H H' → Dp K H' x d) → Showy d → ∃ z : Str, ∀ H', Same H H' → ∀ Q : VK, Q (.str z) H' → rReprX K C cd0 [x] H' Q := fun d hd sh =>
    ⟨d.shown, fun H' s Q q => .inl (r_repr (hd H' s) sh q)⟩
  cases t with
  | int i h => exact plain _ (fun _ _ => .int i) (showy_int h)
  | non => exact plain .none (fun _ _ => .non) ⟨rfl, by decide, rfl, by decide +kernel⟩
  | bl b => exact plain _ (fun _ _ => .bl b) (showy_bl b)
  | str z h c => exact plain _ (fun _ _ => .str z) (showy_str h c)
  | lst h => exact plain (.list [.int 7]) (fun H' s => .lst (SqL.of (s _ _ h)) (.cons (.int 7) .nil)) ⟨by decide +kernel, by decide, rfl, by decide +kernel⟩
  | tup h => exact plain (.tuple [.int 7]) (fun H' s => .tup (SqT.of (s _ _ h)) (.cons (.int 7) .nil)) ⟨by decide +kernel, by decide, rfl, by decide +kernel⟩
  | dct h => exact ⟨_, fun H' s Q q => .inr (.inr ⟨_, rfl, s _ _ h, q⟩)⟩
  | err h => exact ⟨_, fun H' s Q q => .inr (.inl ⟨_, 7, rfl, h.same s, by decide, q⟩)⟩
/-- an own error x with one field f, made as a value -/
structure OV (P : Program) (w : World) (K : PySem.W.Frag) (mg : Str → Option Value) (base : Heap) (x f : Str) (C : Addr) : Prop where
  T : OexC K C
  nf : PySem.W.findIn K (.ref C) f = some none
  gl : mg x = some (.ref C)
  ini : ∃ (fI : Addr) (fdI : FuncData), PySem.W.findIn K (.ref C) "__init__" = some (some (.ref fI)) ∧ PySem.W.typeIn K (.ref fI) = some (.type "function") ∧ FnOk P w K mg base CX0 1 fI fdI ["self", f] (spInit1 K f) ∧ Binds K fdI ["self", f] []
theorem pe_mkV1 {X : Cx} {K : PySem.W.Frag} {e : Expr} {C : Addr} {x f : Str} {ta : TA} {p pos : Pos} (eK : X.K = K) (O : OV X.prog X.w X.K X.mg X.base x f C) (hr : Room 2 X.A) (hg : Gl X x) (ha : PA X [e] ta)
    (hdb : (x == ("__debug__" : Str)) = false := by decide) (he : starEach (e :: []) X.env = (false, eval e X.env) :: starEach [] X.env := by rfl) (hpl : (backTo pos (starEach [] X.env)).any (·.1) = false := by rfl) :
    PE X (.Call (.Name x p) [e] [] pos) (tMkV C (spInit1 K f) ta) := by
  subst eK
  obtain ⟨fI, fdI, i1, i2, i3, i4⟩ := O.ini
  exact pe_mkV O.T i1 i2 i3 hr i4 pass0 hg O.gl ha hdb he hpl
def MkQ (K : PySem.W.Frag) (C : Addr) (f : Str) (vs : List V) (H1 : Hp) (Q : VK) : Prop := vs.length ≤ 1000 ∧ ∀ a t1, H1 t1 = none → H1 a = none → a ≠ t1 → spInit1 K f (.ref a :: vs) (upd (upd H1 t1 (.tup vs)) a (exo1 a C t1 none)) (fun v H2 => v = .non ∧ Q (.ref a) H2) (fun _ _ _ => False)
theorem r_mkV {K : PySem.W.Frag} {σ : L2.St} {H : Hp} {Q : VK} {C : Addr} {f : Str} {ta : TA} (k : ta σ H fun vs H1 => MkQ K C f vs H1 Q) : tMkV C (spInit1 K f) ta σ H Q := k
theorem mk_one {K : PySem.W.Frag} {H1 : Hp} {Q : VK} {C : Addr} {f : Str} {i : Int} (T : OexC K C) (hf : PySem.W.findIn K (.ref C) f = some none) (k : ∀ a H', EvA H' C a i → Same H1 H' → Q (.ref a) H') : MkQ K C f [.int i] H1 Q := by
  refine ⟨show 1 ≤ 1000 by decide, fun a t1 h1 h2 ne => ⟨a, C, t1, .int i, rfl, T, hf, upd_same, fun dx hd hda => ⟨rfl, k a _ ⟨t1, dx, _, upd_same, by rw [upd_ne hda, upd_same], ?_⟩ ?_⟩⟩⟩
  · have nt : t1 ≠ dx := fun e => by rw [← e, upd_ne (Ne.symm ne), upd_same] at hd; cases hd
    rw [upd_ne (Ne.symm ne), upd_ne nt, upd_ne (Ne.symm ne), upd_same]
  · intro b o hb
    have n1 := ne_of_none hb h1
    have n2 := ne_of_none hb h2
    have n3 : b ≠ dx := fun e => by
      rw [← e, upd_ne n2, upd_ne n1, hb] at hd; cases hd
    rw [upd_ne n2, upd_ne n3, upd_ne n2, upd_ne n1]
    exact hb
/-! ### promises -/
def spNumO (C : Addr) : Sp := fun vs H Q _ => ∃ (x : V) (o : Option Int), vs = [x] ∧ Od C H x o ∧ Q (.bl o.isSome) H
def spNumWordW : Sp := fun vs H Q _ => ∃ i : Int, vs = [.int i] ∧ i.natAbs < 10 ^ 31 ∧ ∀ H', Same H H' → Q (.str (S (dec i))) H'
def spNumWordX (C : Addr) : Sp := fun vs H _ E => ∃ x : V, vs = [x] ∧ Od C H x none ∧ Err C "found" x H E
noncomputable def spNumInW : Sp := fun vs H Q _ => ∃ x : V, vs = [x] ∧ ((∃ z : Str, x = .str z ∧ z.length ≤ 61 ∧ Q (optV (numV (cd z))) H) ∨ ((x = .non ∨ (∃ i, x = .int i) ∨ ∃ a xs, x = .ref a ∧ H a = some (.lst xs)) ∧ Q .non H))
def spTakeW : Sp := fun vs H Q _ => ∃ (b : Addr) (m : Int) (n : Nat), vs = [.ref b, .int m] ∧ Bx H b n ∧ n ≤ 1000000000 ∧ 1 ≤ m ∧ m.natAbs < 2 ^ 110 ∧
  ∀ (k : Int) (H' : Hp), 0 ≤ k → k < m → Keep b H H' → Bx H' b (n + 1) → Q (.int k) H'
def spFigs : Sp := fun vs H Q _ => ∃ i : Int, vs = [.int i] ∧ i.natAbs < 10 ^ 31 ∧ Q (.str (S (dec i))) H
def spNumL : Sp := fun vs H Q _ => ∃ (b : Addr) (n : Nat), vs = [.ref b] ∧ Bx H b n ∧ n ≤ 900000000 ∧ ∀ (i : Int) (H' : Hp), i.natAbs < 10 ^ 30 → Keep b H H' → Bx H' b (n + 4) → Q (.int i) H'
noncomputable def spWrites : Sp := fun vs H Q _ => ∃ z : Str, vs = [.str z] ∧ z.length ≤ 30 ∧ (∀ c ∈ cd z, c ≤ 126) ∧ ∀ H', Same H H' → Q (optV (numV (cd z))) H'
def spBent : Sp := fun vs H Q _ => ∃ (b : Addr) (n : Nat) (z : Str), vs = [.ref b, .str z] ∧ Bx H b n ∧ n ≤ 900000000 ∧ z.length ≤ 32 ∧ (∀ c ∈ cd z, c ≤ 126) ∧
  ∀ (y : Str) (H' : Hp), y.length ≤ 70 → (∀ c ∈ cd y, c ≤ 126) → Keep b H H' → Bx H' b (n + 3) → Q (.str y) H'
def spRefused (C : Addr) : Sp := fun vs H Q _ => ∃ x : V, vs = [x] ∧ Od C H x none ∧ ∀ H', Same H H' → Q (.bl true) H'
theorem dec_len31 {m : Int} (h : m.natAbs < 10 ^ 31) : (dec m).length ≤ 32 := by
  have := D_len 30 (n := m.natAbs) h
  unfold dec
  split
  · rw [List.length_cons]; omega
  · omega
theorem cut_ok {z : Str} {lo hi : Option Int} : (cutS z lo hi).length ≤ z.length ∧ ∀ c ∈ cd (cutS z lo hi), c ∈ cd z := by
  have e : cd (cutS z lo hi) = ((cd z).drop (HT.sIx z.length 0 lo)).take (HT.sIx z.length z.length hi - HT.sIx z.length 0 lo) := by simp [cutS]
  refine ⟨?_, fun c h => ?_⟩
  · rw [len_cd, e, List.length_take, List.length_drop, ← len_cd]; omega
  · rw [e] at h
    exact List.mem_of_mem_drop (List.mem_of_mem_take h)
end J

/-! things of any depth, empty dicts among them: asked for their repr -/
namespace J
open PySem PySem.Spec PyProof.Rows L2 M
mutual
/-- x is d, all of it tracked -/
inductive Dd (b : Addr) (H : Hp) : V → PyData → Prop where
  | non : Dd b H .non .none
  | bl (v : Bool) : Dd b H (.bl v) (.bool v)
  | int (i : Int) (h : i.natAbs ≤ 10 ^ 60) : Dd b H (.int i) (.int i)
  | str (z : Str) (h : z.length ≤ 1000) (c : ∀ c ∈ cd z, c ≤ 126) : Dd b H (.str z) (.str z)
  | lst {a : Addr} {xs : List V} {ds : List PyData} (h : H a = some (.lst xs)) (n : a ≠ b) (t : DdAll b H xs ds) : Dd b H (.ref a) (.list ds)
  | tup {a : Addr} {xs : List V} {ds : List PyData} (h : H a = some (.tup xs)) (t : DdAll b H xs ds) : Dd b H (.ref a) (.tuple ds)
  | dct {a : Addr} (h : H a = some (.dK [])) : Dd b H (.ref a) (.dict [])
inductive DdAll (b : Addr) (H : Hp) : List V → List PyData → Prop where
  | nil : DdAll b H [] []
  | cons {x : V} {xs : List V} {d : PyData} {ds : List PyData} (h : Dd b H x d) (t : DdAll b H xs ds) : DdAll b H (x :: xs) (d :: ds)
end
mutual
theorem Dd.same {b : Addr} {H H' : Hp} (s : Same H H') : ∀ {x : V} {d : PyData}, Dd b H x d → Dd b H' x d
  | _, _, .non => .non
  | _, _, .bl b => .bl b
  | _, _, .int i h => .int i h
  | _, _, .str z h c => .str z h c
  | _, _, .lst h n t => .lst (s _ _ h) n (DdAll.same s t)
  | _, _, .tup h t => .tup (s _ _ h) (DdAll.same s t)
  | _, _, .dct h => .dct (s _ _ h)
theorem DdAll.same {b : Addr} {H H' : Hp} (s : Same H H') : ∀ {xs : List V} {ds : List PyData}, DdAll b H xs ds → DdAll b H' xs ds
  | _, _, .nil => .nil
  | _, _, .cons h t => .cons (Dd.same s h) (DdAll.same s t)
end
theorem box_lst {b a : Addr} {n : Nat} {H : Hp} {o : HO} (hb : Bx H b n) (h : H a = some o) (ne : ∀ xs, o ≠ .lst xs) : a ≠ b := fun e => by
  obtain ⟨x, y, z, g, _⟩ := hb
  rw [e, g] at h
  injection h with h
  exact ne _ h.symm
mutual
theorem Dd.keep {b : Addr} {n : Nat} {H H' : Hp} (hb : Bx H b n) (s : Keep b H H') : ∀ {x : V} {d : PyData}, Dd b H x d → Dd b H' x d
  | _, _, .non => .non
  | _, _, .bl v => .bl v
  | _, _, .int i h => .int i h
  | _, _, .str z h c => .str z h c
  | _, _, .lst h ne t => .lst (s _ _ h ne) ne (DdAll.keep hb s t)
  | _, _, .tup h t => .tup (s _ _ h (box_lst hb h fun _ e => nomatch e)) (DdAll.keep hb s t)
  | _, _, .dct h => .dct (s _ _ h (box_lst hb h fun _ e => nomatch e))
theorem DdAll.keep {b : Addr} {n : Nat} {H H' : Hp} (hb : Bx H b n) (s : Keep b H H') : ∀ {xs : List V} {ds : List PyData}, DdAll b H xs ds → DdAll b H' xs ds
  | _, _, .nil => .nil
  | _, _, .cons h t => .cons (Dd.keep hb s h) (DdAll.keep hb s t)
end
/-! ### by pairs -/
theorem DdAll.of {b : Addr} {H : Hp} : ∀ {es : List (V × PyData)}, (∀ e ∈ es, Dd b H e.1 e.2) → DdAll b H (es.map Prod.fst) (es.map Prod.snd)
  | [], _ => .nil
  | e :: es, h => .cons (h e (List.mem_cons_self ..)) (DdAll.of fun x hx => h x (List.mem_cons_of_mem _ hx))
theorem DdAll.pairs {b : Addr} {H : Hp} : ∀ {xs : List V} {ds : List PyData}, DdAll b H xs ds → ∃ es : List (V × PyData), xs = es.map Prod.fst ∧ ds = es.map Prod.snd ∧ ∀ e ∈ es, Dd b H e.1 e.2
  | _, _, .nil => ⟨[], rfl, rfl, fun _ h => (List.not_mem_nil h).elim⟩
  | _, _, .cons (x := x) (d := d) h t => by
    obtain ⟨es, rfl, rfl, k⟩ := DdAll.pairs t
    refine ⟨(x, d) :: es, rfl, rfl, fun e he => ?_⟩
    rcases List.mem_cons.mp he with rfl | he  -- own
    · exact h
    · exact k e he
/-! ### how long its repr may be -/
mutual
def wt : PyData → Nat
  | .none => 4
  | .bool _ => 5
  | .int _ => 201
  | .str z => 10 * z.length + 2
  | .list xs => wtAll xs + 3
  | .tuple xs => wtAll xs + 3
  | .dict _ => 2
def wtAll : List PyData → Nat
  | [] => 0
  | x :: xs => wt x + 2 + wtAll xs
end
theorem wtAll_sum : ∀ ds : List PyData, wtAll ds = (ds.map fun d => wt d + 2).sum
  | [] => rfl
  | d :: ds => by rw [wtAll, wtAll_sum ds]; rfl
theorem wtAll_app : ∀ ds es : List PyData, wtAll (ds ++ es) = wtAll ds + wtAll es
  | [], es => by rw [List.nil_append, wtAll]; omega
  | d :: ds, es => by rw [List.cons_append, wtAll, wtAll, wtAll_app ds es]; omega
theorem wtAll_mem : ∀ {ds : List PyData} {d : PyData}, d ∈ ds → wt d + 2 ≤ wtAll ds
  | e :: ds, d, h => by
    rw [wtAll]
    rcases List.mem_cons.mp h with rfl | h  -- own
    · omega
    · have := wtAll_mem h; omega
theorem wtAll_len : ∀ ds : List PyData, 2 * ds.length ≤ wtAll ds
  | [] => Nat.le_refl _
  | d :: ds => by have := wtAll_len ds; rw [wtAll, List.length_cons]; omega
theorem wt_pos : ∀ d : PyData, 2 ≤ wt d
  | .none => by rw [wt]; omega
  | .bool _ => by rw [wt]; omega
  | .int _ => by rw [wt]; omega
  | .str z => by rw [wt]; omega
  | .list xs => by rw [wt]; omega
  | .tuple xs => by rw [wt]; omega
  | .dict _ => by rw [wt]; omega
mutual
theorem Dd.short {b : Addr} {H : Hp} : ∀ {x : V} {d : PyData}, Dd b H x d → d.shown.length ≤ wt d ∧ d.showable = true
  | _, _, .non => ⟨by rw [wt]; decide +kernel, rfl⟩
  | _, _, .bl v => ⟨by cases v <;> (rw [wt]; decide +kernel), rfl⟩
  | _, _, .int i h => ⟨show_i60 h, decide_eq_true (Nat.lt_trans (log60 h) (by decide))⟩
  | _, _, .str z h c => by
    refine ⟨?_, rfl⟩
    have := PySem.StrLaws.reprText_len z (fun y q => by have := c y q; exact Nat.lt_of_le_of_lt this (by decide))
    exact this
  | _, _, .lst (ds := ds) h _ t => by
    obtain ⟨a, b, c⟩ := DdAll.short t
    refine ⟨?_, c⟩
    have := listText_len_le (PyData.shownAll ds)
    rw [wt]
    show (listText (PyData.shownAll ds)).length ≤ _
    omega
  | _, _, .tup (ds := ds) h t => by
    obtain ⟨a, b, c⟩ := DdAll.short t
    refine ⟨?_, c⟩
    have := tupleText_len_le (PyData.shownAll ds)
    rw [wt]
    show (tupleText (PyData.shownAll ds)).length ≤ _
    omega
  | _, _, .dct h => ⟨by rw [wt]; decide +kernel, rfl⟩
theorem DdAll.short {b : Addr} {H : Hp} : ∀ {xs : List V} {ds : List PyData}, DdAll b H xs ds → ((PyData.shownAll ds).map (·.length)).sum + 2 * ds.length ≤ wtAll ds ∧ (PyData.shownAll ds).length = ds.length ∧ PyData.showableAll ds = true
  | _, _, .nil => ⟨Nat.le_refl _, rfl, rfl⟩
  | _, _, .cons (d := d) (ds := ds) h t => by
    obtain ⟨a, b, c⟩ := DdAll.short t
    obtain ⟨e, f⟩ := Dd.short h
    refine ⟨?_, by rw [PyData.shownAll, List.length_cons, b, List.length_cons], ?_⟩
    · rw [PyData.shownAll, List.map_cons, List.sum_cons, List.length_cons, wtAll]; omega
    · show (PyData.showable d && PyData.showableAll ds) = true
      rw [f, c]; rfl
end
theorem wt_big {d : PyData} (h : wt d ≤ 1000000) : wt d ≤ sizeLine := Nat.le_trans h (by decide)
/-! ### repr -/
section
variable {X : Cx} {pins : List (Addr × Obj)} {σ : L2.St} {H : Hp} {s : Shared}  -- own
/-- what can be asked for its repr where d layers stand around -/
abbrev Rp (X : Cx) (h : Heap) (u : Value) (d : PyData) : Prop := ∃ as bs, Reads h u d as ∧ ReadAtMost h d.depth bs ∧ ReprK X.prog X.w bs h d.depth u d.shown
abbrev RpAll (X : Cx) (h : Heap) (us : List Value) (ds : List PyData) : Prop := ∃ as bs, ReadsAll h us ds as ∧ ReadAtMost h (PyData.depthAll ds) bs ∧ ReprAllK X.prog X.w bs h (PyData.depthAll ds) us (PyData.shownAll ds)
theorem Rp.leaf {h : Heap} {u : Value} {d : PyData} (r : Reads h u d []) (q : ReprIs X.prog X.w u d.shown) : Rp X h u d := ⟨[], [], r, fun _ z => (List.not_mem_nil z).elim, .of_is q _ _ _⟩
theorem RpAll.cons {h : Heap} {u : Value} {us : List Value} {d : PyData} {ds : List PyData} (a : Rp X h u d) (b : RpAll X h us ds) : RpAll X h (u :: us) (d :: ds) := by
  obtain ⟨as, bs, r, m, k⟩ := a
  obtain ⟨cs, es, r', m', k'⟩ := b
  have l : d.depth ≤ PyData.depthAll (d :: ds) := Nat.le_max_left _ _
  have l' : PyData.depthAll ds ≤ PyData.depthAll (d :: ds) := Nat.le_max_right _ _
  exact ⟨as ++ cs, bs ++ es, .cons r r', (m.mono l).append (m'.mono l'), .cons ((k.more fun b hb => List.mem_append_left _ hb).level_le l) (k'.more_le (fun b hb => List.mem_append_right _ hb) l')⟩
theorem Rp.lst {h : Heap} {a : Addr} {us : List Value} {n : Nat} {ds : List PyData} (g : h.get? a = some { cls := .type "list", data := .seq us.toArray n }) (b : RpAll X h us ds) : Rp X h (.ref a) (.list ds) := by
  obtain ⟨as, bs, r, m, k⟩ := b
  have rd : Reads h (.ref a) (.list ds) (a :: as) := .list g rfl rfl (by rw [List.toList_toArray]; exact r)
  refine ⟨_, a :: bs, rd, ReadAtMost.cons rd (Nat.le_succ _) m, ?_⟩
  cases us with
  | nil =>
    cases r
    exact ReprK.listEmpty g rfl rfl
  | cons u us => exact ReprK.list g rfl rfl (not_mem_of_deeper rd (Nat.lt_succ_self _) m) (by rw [k.length_eq, List.size_toArray]) fun i y e => k.item i y (by simpa using e)
theorem Rp.tup {h : Heap} {a : Addr} {us : List Value} {ds : List PyData} (g : IsTup h a us.toArray) (b : RpAll X h us ds) : Rp X h (.ref a) (.tuple ds) := by
  obtain ⟨as, bs, r, m, k⟩ := b
  obtain ⟨o, g1, g2, n, g3⟩ := g
  have rd : Reads h (.ref a) (.tuple ds) as := .tuple g1 g2 g3 (by rw [List.toList_toArray]; exact r)
  exact ⟨_, a :: bs, rd, ReadAtMost.cons rd (Nat.le_succ _) m, ReprK.tuple g1 g2 g3 (not_mem_of_deeper rd (Nat.lt_succ_self _) m) (by rw [List.toList_toArray]; exact k)⟩
theorem empty_dict (I : Inv X pins σ H s) {a : Addr} (ha : H a = some (.dK [])) : (a == sysModules) = false ∧ ∃ o es n, s.heap.get? a = some o ∧ o.cls = .type "dict" ∧ o.data = .dict es n ∧ es.toList = [] := by
  obtain ⟨_, hsm, vs, r0, o, es, ep, g1, g2, g3, g4⟩ := (show ObjOk X.prog X.w H s.heap a (.dK []) from I.hok a _ ha)
  cases r0
  refine ⟨hsm, o, es, ep, g1, g2.1, g3, ?_⟩
  cases h : es.toList with
  | nil => rfl
  | cons y r =>
    have g5 := g4.2.1
    rw [h] at g5
    cases g5
theorem Rp.dct (I : Inv X pins σ H s) {a : Addr} (ha : H a = some (.dK [])) : Rp X s.heap (.ref a) (.dict []) := by
  obtain ⟨hsm, o, es, n, g1, g2, g3, e0⟩ := empty_dict I ha
  have rd : Reads s.heap (.ref a) (.dict []) [a] := Reads.dict (as := []) (bs := []) g1 g2 g3 (by rw [e0]; exact .nil) (by rw [e0]; exact .nil)
  exact ⟨_, _, rd, (ReprK.of_reads (prog := X.prog) (w := X.w) rd rfl (fun _ h => by
    rw [List.mem_singleton] at h
    rw [h] at hsm
    simp at hsm) (by decide +kernel)).choose_spec⟩
mutual
theorem Dd.rp {b : Addr} (I : Inv X pins σ H s) : ∀ {x : V} {d : PyData}, Dd b H x d → d.shown.length ≤ sizeLine → ∀ {u : Value}, RelV x u → Rp X s.heap u d
  | _, _, .non, _, u, r => by
    cases (show u = Value.none from r)
    exact .leaf .none ReprIs.none
  | _, _, .bl b, _, u, r => by
    cases (show u = Value.bool b from r)
    exact .leaf (.bool b) (ReprIs.bool b)
  | _, _, .int i h, _, u, r => by
    obtain ⟨t, e⟩ := (show ∃ t, u = Value.int i t from r)
    subst e
    exact .leaf (.int i t) (ReprIs.int t (Nat.lt_trans (log60 h) (by decide)))
  | _, _, .str z h c, q, u, r => by
    obtain ⟨t, e⟩ := (show ∃ t, u = Value.str z t from r)
    subst e
    exact .leaf (.str z t) (ReprIs.str z t q)
  | _, _, .lst (a := a) (xs := xs) (ds := ds) h _ t, q, u, r => by
    cases (show u = Value.ref a from r)
    obtain ⟨_, us, n, rv, g⟩ := (show ObjOk X.prog X.w H s.heap a (.lst xs) from I.hok a _ h)
    exact .lst g (DdAll.rp I t (fun z hz => Nat.le_trans (listText_mem_le hz) q) rv)
  | _, _, .tup (a := a) (xs := xs) (ds := ds) h t, q, u, r => by
    cases (show u = Value.ref a from r)
    obtain ⟨_, us, rv, g⟩ := (show ObjOk X.prog X.w H s.heap a (.tup xs) from I.hok a _ h)
    exact .tup g (DdAll.rp I t (fun z hz => Nat.le_trans (tupleText_mem_le hz) q) rv)
  | _, _, .dct (a := a) h, _, u, r => by
    cases (show u = Value.ref a from r)
    exact .dct I h
theorem DdAll.rp {b : Addr} (I : Inv X pins σ H s) : ∀ {xs : List V} {ds : List PyData}, DdAll b H xs ds → (∀ z ∈ PyData.shownAll ds, z.length ≤ sizeLine) → ∀ {us : List Value}, Vals xs us → RpAll X s.heap us ds
  | _, _, .nil, _, _, .nil => ⟨[], [], .nil, fun _ z => (List.not_mem_nil z).elim, .nil⟩
  | _, _, .cons (d := d) (ds := ds) h t, q, _, .cons r rs => .cons (Dd.rp I h (q _ (by rw [PyData.shownAll]; exact List.mem_cons_self ..)) r) (DdAll.rp I t (fun z hz => q z (by rw [PyData.shownAll]; exact List.mem_cons_of_mem _ hz)) rs)
end
def rReprD : List V → Hp → VK → Prop := fun xs H Q => ∃ (b : Addr) (x : V) (d : PyData), xs = [x] ∧ Dd b H x d ∧ wt d ≤ 1000000 ∧ d.depth ≤ 60 ∧ Q (.str d.shown) H
theorem call_reprD (hg : X.A.guards = some []) (hu : X.A.units + 64 < cLine) : CallR X (.builtin "repr") rReprD := by
  intro pins s σ H xs us Q I r h  -- own
  obtain ⟨b, x, d, ex, hd, hw, hdp, q⟩ := h
  have hz : d.shown.length ≤ sizeLine := Nat.le_trans hd.short.1 (wt_big hw)
  have hs := hd.short.2
  have fin : ∀ (h' : Heap) (u : Tok) (tk : Nat), (∀ b o, s.heap.get? b = some o → h'.get? b = some o) → EP X pins σ Q (.str d.shown u) { s with heap := h', toks := tk } := fun h' u tk hk => ⟨.str _, H, I.kept hk, ⟨_, rfl⟩, q⟩
  have easy : Dp X.K H x d → d.hasDict = false → wpAny (model X.prog X.w) X.A (call (.builtin "repr") us) (EP X pins σ Q) X.xe s := fun z n => J.call_repr hg hu pins s σ H xs us Q I r ⟨x, d, ex, z, hs, hdp, n, hz, q⟩
  subst ex
  obtain ⟨u, rfl, ru⟩ := vals1 r  -- own
  cases hd with
  | non => exact easy .non rfl
  | bl v => exact easy (.bl v) rfl
  | int i h => exact easy (.int i) rfl
  | str z h c => exact easy (.str z) rfl
  | @lst a xs ds h _ t =>
    cases (show u = Value.ref a from ru)  -- own
    obtain ⟨_, us, n, rv, g⟩ := (show ObjOk X.prog X.w H s.heap a (.lst xs) from I.hok a _ h)
    have hz' : (listText (PyData.shownAll ds)).length ≤ sizeLine := hz
    have hdp : PyData.depthAll ds + 1 ≤ 60 := hdp
    obtain ⟨as, bs, rd, m, k⟩ := DdAll.rp I t (fun z hz => Nat.le_trans (listText_mem_le hz) hz') rv
    have ra : Reads s.heap (.ref a) (.list ds) (a :: as) := .list g rfl rfl (by rw [List.toList_toArray]; exact rd)
    refine call_repr_slot (by omega) ⟨_, g, rfl⟩ F.slot_list_repr.toG ?_
    cases us with
    | nil =>
      cases rd
      exact call_list_repr_empty ⟨_, g, rfl⟩ g rfl ⟨_, _, rfl, fin s.heap _ _ fun _ _ e => e⟩
    | cons y us => exact call_list_reprK g rfl rfl (not_mem_of_deeper ra (Nat.lt_succ_self _) m) (by rw [k.length_eq, List.size_toArray]) (fun i y e => k.item i y (by simpa using e)) hg (fun b _ => Clear.nil b) (by show X.A.units + 1 + (PyData.depthAll ds + 1) < cLine; omega) (fun _ _ e => e) (fun h' u tk hk => ⟨_, _, rfl, fin h' u tk hk⟩) hz'
  | @tup a xs ds h t =>
    cases (show u = Value.ref a from ru)  -- own
    obtain ⟨_, us, rv, o, g1, g2, n, g3⟩ := (show ObjOk X.prog X.w H s.heap a (.tup xs) from I.hok a _ h)
    have hz' : (tupleText (PyData.shownAll ds)).length ≤ sizeLine := hz
    have hdp : PyData.depthAll ds + 1 ≤ 60 := hdp
    obtain ⟨as, bs, rd, m, k⟩ := DdAll.rp I t (fun z hz => Nat.le_trans (tupleText_mem_le hz) hz') rv
    have ra : Reads s.heap (.ref a) (.tuple ds) as := .tuple g1 g2 g3 (by rw [List.toList_toArray]; exact rd)
    refine call_repr_slot (by omega) ⟨_, g1, g2⟩ F.slot_tuple_repr ?_
    exact call_tuple_reprK g1 g2 g3 (not_mem_of_deeper ra (Nat.lt_succ_self _) m) (by rw [List.toList_toArray]; exact k) hg (fun b _ => Clear.nil b) (by show X.A.units + 1 + (PyData.depthAll ds + 1) < cLine; omega) (fun _ _ e => e) (fun h' u tk hk => ⟨_, _, rfl, fin h' u tk hk⟩) hz'
  | @dct a h =>
    cases (show u = Value.ref a from ru)  -- own
    obtain ⟨hsm, o, es, n, g1, g2, g3, e0⟩ := empty_dict I h
    have rd : Reads s.heap (.ref a) (.dict []) [a] := Reads.dict (as := []) (bs := []) g1 g2 g3 (by rw [e0]; exact .nil) (by rw [e0]; exact .nil)
    exact repr_of_reads' rd rfl (fun _ h => by
      rw [List.mem_singleton] at h
      rw [h] at hsm
      simp at hsm) hg (by show X.A.units + (1 + 1) < cLine; omega) (fun _ _ e => e) fin (by decide +kernel)
end
end J

namespace PySem.SeqAt
open AutoSeq1 (wpAny_loadPart')  -- own
open MeetsSeq
section
variable {A : Around} {s : Shared} (l : Addr) (es : Array DictEntry) (n : Nat) (dd : Option Addr) (sl : Array (Option Value)) (z : Str) (t : Tok)
theorem dict_no_text : Meets (Builtin.«dict.__eq__» ⟨[.ref l, .str z t], []⟩) (fun _ R s => s.heap.get? l = some ⟨.type "dict", dd, .dict es n, sl⟩ ∧ R (.ok (.ret .notImplemented)) s) :=
  .of_wp fun prog w A R s h => by  -- own
    obtain ⟨hp, g, d, tk, os⟩ := s  -- own
    obtain ⟨hl, h⟩ := h
    have f1 := F.sub_str_dict
    wp_walk using wpAny_loadPart' hl  -- own
    exact ⟨_, rfl, h⟩
theorem text_no_dict : Meets (Builtin.«str.__eq__» ⟨[.str z t, .ref l], []⟩) (fun _ R s => s.heap.get? l = some ⟨.type "dict", dd, .dict es n, sl⟩ ∧ R (.ok (.ret .notImplemented)) s) :=
  .of_wp fun prog w A R s h => by  -- own
    obtain ⟨hp, g, d, tk, os⟩ := s  -- own
    obtain ⟨hl, h⟩ := h
    wp_walk using wpAny_loadPart' hl, wpAny_load hl
    exact ⟨_, rfl, h⟩
variable {l es n dd sl z t}
theorem dict_text (g : s.heap.get? l = some ⟨.type "dict", dd, .dict es n, sl⟩) (hu : A.units < cLine) : RcAt A s (.ref l) (.str z t) false := fun prog w E Q h =>
  rc_eq_decline_or (k := false) ⟨_, g, rfl⟩ (typeIs_str s z t) (by decide) F.sub_str_dict F.slot_dict_eq F.slot_str_eq_refl
    (fun _ q => call_meets F.slot_dict_eq ⟨_, g, rfl⟩ F.entry_dict_eq (F.args_dict_eq_2 _ _) (dict_no_text l es n dd sl z t) ⟨g, q⟩)
    (fun _ q => call_meets F.slot_str_eq_refl (typeIs_str s z t) F.entry_str_eq (F.args_str_eq_2 _ _) (text_no_dict l es n dd sl z t) ⟨g, q⟩)
    (fun _ q => wpAny_of_eq rfl q) (.inr hu) h
end
end PySem.SeqAt
namespace J
open PySem PySem.Spec PyProof.Rows L2 M
def strIs : PyData → Str → Bool
  | .str z, n => decide (z = n)
  | _, _ => false
/-- x == n, n a text -/
def rEqT : R2 := fun x y H Q => ∃ (b : Addr) (d : PyData) (n : Str), Dd b H x d ∧ y = .str n ∧ Q (.bl (strIs d n)) H
theorem op_eqT {X : Cx} (hu : X.A.units < cLine) : OpR X (compareOp .Eq) rEqT := by
  intro pins s σ H x y v u Q I rx ry h  -- own
  obtain ⟨b, d, n, hd, rfl, q⟩ := h
  have easy : scal x (.str n) = true → decide (x = .str n) = strIs d n → wpAny (model X.prog X.w) X.A (compareOp .Eq v u) (EP X pins σ Q) X.xe s := fun a e => L2.op_eq pins s σ H x (.str n) v u Q I rx ry ⟨a, by rw [e]; exact q⟩
  obtain ⟨t, e⟩ := (show ∃ t, u = Value.str n t from ry)
  cases hd with
  | non => exact easy rfl rfl
  | bl b => exact easy rfl rfl
  | int i h => exact easy rfl rfl
  | str z h c => exact easy rfl (by rw [dec_str]; rfl)
  | @lst a xs ds h _ _ =>
    subst e
    cases (show v = Value.ref a from rx)  -- own
    obtain ⟨_, us, m, rv, g⟩ := (show ObjOk X.prog X.w H s.heap a (.lst xs) from I.hok a _ h)
    exact SeqAt.RcAt.list_str n t ⟨_, g, rfl, m, rfl⟩ hu X.prog X.w X.xe _ ⟨.bl _, H, I, rfl, q⟩
  | @tup a xs ds h _ =>
    subst e
    cases (show v = Value.ref a from rx)  -- own
    obtain ⟨_, us, rv, g⟩ := (show ObjOk X.prog X.w H s.heap a (.tup xs) from I.hok a _ h)
    exact SeqAt.RcAt.tuple_str n t g hu X.prog X.w X.xe _ ⟨.bl _, H, I, rfl, q⟩
  | @dct a h =>
    subst e
    cases (show v = Value.ref a from rx)  -- own
    obtain ⟨_, ⟨_, _, _, _⟩, es, m, g, c1, c2, _⟩ := empty_dict I h
    simp only at c1 c2
    subst c1 c2
    exact SeqAt.dict_text g hu X.prog X.w X.xe _ ⟨.bl _, H, I, rfl, q⟩
/-! ### tuples and lists compared with what has nothing, or a name, in it -/
def rEqE : R2 := fun x y H Q => ∃ (a c : Addr) (xs : List V), x = .ref a ∧ y = .ref c ∧ H a = some (.tup xs) ∧ H c = some (.tup []) ∧ Q (.bl (decide (xs = []))) H
def rEqN : R2 := fun x y H Q => ∃ (a c : Addr) (z n : Str) (xs : List V), x = .ref a ∧ y = .ref c ∧ H a = some (.tup (.str z :: xs)) ∧ H c = some (.tup [.str n]) ∧ Q (.bl (decide (z = n) && decide (xs = []))) H
def rEqL : R2 := fun x y H Q => ∃ (a c : Addr) (xs : List V), x = .ref a ∧ y = .ref c ∧ H a = some (.lst xs) ∧ H c = some (.lst []) ∧ Q (.bl (decide (xs = []))) H
theorem nil_len {xs : List V} {us : List Value} (r : Vals xs us) : (us.length == 0) = decide (xs = []) := by
  rw [← r.length, Bool.eq_iff_iff, beq_iff_eq, decide_eq_true_iff, List.length_eq_zero_iff]
theorem op_eqE {X : Cx} (hu : X.A.units < cLine) : OpR X (compareOp .Eq) rEqE := by
  intro pins s σ H x y v u Q I rx ry h  -- own
  obtain ⟨a, c, xs, rfl, rfl, ha, hc, q⟩ := h
  cases (show v = Value.ref a from rx)  -- own
  cases (show u = Value.ref c from ry)
  obtain ⟨_, us, rv, g⟩ := (show ObjOk X.prog X.w H s.heap a (.tup xs) from I.hok a _ ha)
  obtain ⟨_, ws, rw', g'⟩ := (show ObjOk X.prog X.w H s.heap c (.tup []) from I.hok c _ hc)
  cases rw'
  refine SeqAt.RcAt.tuples (e := fun _ => true) g g' hu (fun j h1 h2 => absurd h2 (by simp)) X.prog X.w X.xe _ ⟨.bl _, H, I, ?_, q⟩
  have := nil_len rv
  simp only [← this]
  simp
  rfl
theorem op_eqN {X : Cx} (hu : X.A.units < cLine) : OpR X (compareOp .Eq) rEqN := by
  intro pins s σ H x y v u Q I rx ry h  -- own
  obtain ⟨a, c, z, n, xs, rfl, rfl, ha, hc, q⟩ := h
  cases (show v = Value.ref a from rx)  -- own
  cases (show u = Value.ref c from ry)
  obtain ⟨_, us, rv, g⟩ := (show ObjOk X.prog X.w H s.heap a (.tup (.str z :: xs)) from I.hok a _ ha)
  obtain ⟨_, ws, rw', g'⟩ := (show ObjOk X.prog X.w H s.heap c (.tup [.str n]) from I.hok c _ hc)
  cases rv with
  | cons r rs =>
    rename_i u1 us1
    obtain ⟨t, e⟩ := (show ∃ t, u1 = Value.str z t from r)
    subst e
    cases rw' with
    | cons r' rs' =>
      cases rs'
      rename_i u2
      obtain ⟨t', e⟩ := (show ∃ t, u2 = Value.str n t from r')
      subst e
      refine SeqAt.RcAt.tuples (e := fun _ => z == n) g g' hu (fun j h1 h2 => ?_) X.prog X.w X.xe _ ⟨.bl _, H, I, ?_, q⟩
      · have : j = 0 := by simp at h2; omega
        subst this
        exact SeqAt.EqAt.str_str z t n t'
      · have := nil_len rs
        have e1 : min (Value.str z t :: us1).toArray.size [Value.str n t'].toArray.size = 1 := by simp
        rw [e1, ← this]
        simp [List.range_succ]
        rfl
theorem op_eqL {X : Cx} (hu : X.A.units < cLine) : OpR X (compareOp .Eq) rEqL := by
  intro pins s σ H x y v u Q I rx ry h  -- own
  obtain ⟨a, c, xs, rfl, rfl, ha, hc, q⟩ := h
  cases (show v = Value.ref a from rx)  -- own
  cases (show u = Value.ref c from ry)
  obtain ⟨_, us, m, rv, g⟩ := (show ObjOk X.prog X.w H s.heap a (.lst xs) from I.hok a _ ha)
  obtain ⟨_, ws, m', rw', g'⟩ := (show ObjOk X.prog X.w H s.heap c (.lst []) from I.hok c _ hc)
  cases rw'
  have e := nil_len rv
  by_cases z : xs = []
  · subst z
    cases rv
    exact SeqAt.eq_listAt (e := fun _ => true) ⟨_, g, rfl, m, rfl⟩ ⟨_, g', rfl, m', rfl⟩ rfl hu (fun j h1 h2 => absurd h2 (by simp)) ⟨.bl _, H, I, rfl, by rw [decide_eq_true rfl] at q; exact q⟩
  · rw [decide_eq_false z] at q e
    exact SeqAt.RcAt.lists_lengths ⟨_, g, rfl, m, rfl⟩ ⟨_, g', rfl, m', rfl⟩ (by simpa using e) hu X.prog X.w X.xe _ ⟨.bl _, H, I, rfl, q⟩
def rEqK (K : PySem.W.Frag) : R2 := fun x y H Q => rEqA K x y H Q ∨ rEqT x y H Q ∨ rEqE x y H Q ∨ rEqN x y H Q ∨ rEqL x y H Q
theorem op_eqK {X : Cx} (hu : X.A.units + 64 < cLine) : OpR X (compareOp .Eq) (rEqK X.K) :=
  have h : X.A.units < cLine := by omega
  orR (op_eqA hu) (orR (op_eqT h) (orR (op_eqE h) (orR (op_eqN h) (op_eqL h))))
/-! ### what sort it is of -/
def tyN : PyData → String
  | .none => "NoneType"
  | .bool _ => "bool"
  | .int _ => "int"
  | .str _ => "str"
  | .list _ => "list"
  | .tuple _ => "tuple"
  | .dict _ => "dict"
def isTD : PyData → Bool
  | .tuple _ => true
  | _ => false
theorem Dd.ty {K : PySem.W.Frag} {b : Addr} {H : Hp} {x : V} {d : PyData} (t : Dd b H x d) : TyX K H x (.type (tyN d)) := by
  cases t with
  | non => exact .base .non
  | bl v => exact .base (.bl v)
  | int i h => exact .base (.int i)
  | str z h c => exact .base (.str z)
  | lst h _ _ => exact .base (.lst h)
  | tup h _ => exact .base (.tup h)
  | dct h => exact .base (.dK h)
theorem kS (d : PyData) : kitB (tyN d) "str" = some (isSD d) := by cases d <;> first | exact (show kitB "NoneType" "str" = some false by decide +kernel) | exact (show kitB "bool" "str" = some false by decide +kernel) | exact (show kitB "int" "str" = some false by decide +kernel) | exact (show kitB "str" "str" = some true by decide +kernel) | exact (show kitB "list" "str" = some false by decide +kernel) | exact (show kitB "tuple" "str" = some false by decide +kernel) | exact (show kitB "dict" "str" = some false by decide +kernel)
theorem kI (d : PyData) : kitB (tyN d) "int" = some (isID d) := by cases d <;> first | exact (show kitB "NoneType" "int" = some false by decide +kernel) | exact (show kitB "bool" "int" = some true by decide +kernel) | exact (show kitB "int" "int" = some true by decide +kernel) | exact (show kitB "str" "int" = some false by decide +kernel) | exact (show kitB "list" "int" = some false by decide +kernel) | exact (show kitB "tuple" "int" = some false by decide +kernel) | exact (show kitB "dict" "int" = some false by decide +kernel)
theorem kB (d : PyData) : kitB (tyN d) "bool" = some (isBD d) := by cases d <;> first | exact (show kitB "NoneType" "bool" = some false by decide +kernel) | exact (show kitB "bool" "bool" = some true by decide +kernel) | exact (show kitB "int" "bool" = some false by decide +kernel) | exact (show kitB "str" "bool" = some false by decide +kernel) | exact (show kitB "list" "bool" = some false by decide +kernel) | exact (show kitB "tuple" "bool" = some false by decide +kernel) | exact (show kitB "dict" "bool" = some false by decide +kernel)
theorem kT (d : PyData) : kitB (tyN d) "tuple" = some (isTD d) := by cases d <;> first | exact (show kitB "NoneType" "tuple" = some false by decide +kernel) | exact (show kitB "bool" "tuple" = some false by decide +kernel) | exact (show kitB "int" "tuple" = some false by decide +kernel) | exact (show kitB "str" "tuple" = some false by decide +kernel) | exact (show kitB "list" "tuple" = some false by decide +kernel) | exact (show kitB "tuple" "tuple" = some true by decide +kernel) | exact (show kitB "dict" "tuple" = some false by decide +kernel)
/-- a thing, or an own error -/
inductive Tn (b C : Addr) (H : Hp) : V → Option PyData → Prop where
  | dat {x : V} {d : PyData} (h : Dd b H x d) : Tn b C H x (some d)
  | err {a : Addr} (h : EvA H C a 1) : Tn b C H (.ref a) none
theorem Tn.same {b C : Addr} {H H' : Hp} {x : V} {o : Option PyData} (t : Tn b C H x o) (s : Same H H') : Tn b C H' x o := by
  cases t with
  | dat h => exact .dat (h.same s)
  | err h => exact .err (h.same s)
structure ExG (K : PySem.W.Frag) (C : Addr) (cd : ClassData) : Prop extends ExF K C cd where
  nt : PySem.W.kitOne K (.ref C) (.type "tuple") = some false
  na : PySem.W.kitAny K (.ref C) [.type "str", .type "tuple"] = some false
def oB (f : PyData → Bool) : Option PyData → Bool
  | some d => f d
  | none => false
section
variable {K : PySem.W.Frag} {b C : Addr} {cd : ClassData} {H : Hp} {x : V} {o : Option PyData} {Q : VK}
theorem Dd.isS {d : PyData} (t : Dd b H x d) (k : Q (.bl (isSD d)) H) : rIsiX K C [x, .ty "str"] H Q := .inl (r_isiB t.ty (kS d) k)
theorem Dd.isT {d : PyData} (t : Dd b H x d) (k : Q (.bl (isTD d)) H) : rIsiX K C [x, .ty "tuple"] H Q := .inl (r_isiB t.ty (kT d) k)
theorem Tn.isS (G : ExG K C cd) (t : Tn b C H x o) (k : Q (.bl (oB isSD o)) H) : rIsiX K C [x, .ty "str"] H Q := by
  cases t with
  | @dat _ d h => exact .inl (r_isiB h.ty (kS d) k)
  | err h => exact .inr ⟨_, 1, "str", false, rfl, h, G.ns, k⟩
theorem Tn.isI (G : ExG K C cd) (t : Tn b C H x o) (k : Q (.bl (oB isID o)) H) : rIsiX K C [x, .ty "int"] H Q := by
  cases t with
  | @dat _ d h => exact .inl (r_isiB h.ty (kI d) k)
  | err h => exact .inr ⟨_, 1, "int", false, rfl, h, G.ni, k⟩
theorem Tn.isB (G : ExG K C cd) (t : Tn b C H x o) (k : Q (.bl (oB isBD o)) H) : rIsiX K C [x, .ty "bool"] H Q := by
  cases t with
  | @dat _ d h => exact .inl (r_isiB h.ty (kB d) k)
  | err h => exact .inr ⟨_, 1, "bool", false, rfl, h, G.nb, k⟩
theorem Tn.isT (G : ExG K C cd) (t : Tn b C H x o) (k : Q (.bl (oB isTD o)) H) : rIsiX K C [x, .ty "tuple"] H Q := by
  cases t with
  | @dat _ d h => exact .inl (r_isiB h.ty (kT d) k)
  | err h => exact .inr ⟨_, 1, "tuple", false, rfl, h, G.nt, k⟩
end
/-! ### isinstance(x, (str, tuple)) -/
def rIsiTE (K : PySem.W.Frag) (C : Addr) : List V → Hp → VK → Prop := fun xs H Q => ∃ (a tp : Addr) (i : Int) (cs : List V) (us : List Value) (v : Bool), xs = [.ref a, .ref tp] ∧ H tp = some (.tup cs) ∧ Paired ClsV cs us ∧ EvA H C a i ∧ PySem.W.kitAny K (.ref C) us = some v ∧ Q (.bl v) H
def rIsiTX (K : PySem.W.Frag) (C : Addr) : List V → Hp → VK → Prop := fun xs H Q => rIsiT K xs H Q ∨ rIsiTE K C xs H Q
theorem call_isiTX {X : Cx} {C : Addr} {cd : ClassData} (F : ExF X.K C cd) : CallR X (.builtin "isinstance") (rIsiTX X.K C) := by
  intro pins s σ H xs us Q I r h  -- own
  rcases h with h | ⟨a, tp, i, cs, ws, v, rfl, hT, k, ev, e, q⟩
  · exact L2.call_isiT pins s σ H xs us Q I r h
  · obtain ⟨u1, u2, rfl, r1, r2⟩ := vals2 r
    cases (show u1 = Value.ref a from r1)  -- own
    cases (show u2 = Value.ref tp from r2)  -- own
    obtain ⟨t1, dx, fs, h1, h2, h3⟩ := ev
    have ho := exo1_at I.hok h1
    obtain ⟨mA, hns, _⟩ := exd_at I.hok h2
    obtain ⟨oD, _, _, hoD, _, _⟩ := hns
    have hcl : (PySem.W.clsIn X.K C).isSome = true := by rw [F.cdE]; rfl
    have Z : PySem.W.KitX X.K (.ref a) (.ref C) _ := PySem.W.kitx_exc (ox := { cls := .ref C, dict := some dx, data := .fields #[.ref t1, .none, .none, .none, .bool false, .none] }) (od := some oD) hcl F.ga F.gt F.T.exC F.cl F.hn F.tk F.mo
    obtain ⟨_, its, rv, ot, g1, g2, n, g3⟩ := (show ObjOk X.prog X.w H s.heap tp (.tup cs) from I.hok tp _ hT)
    have e3 := ClsV.all k rv
    subst e3
    obtain ⟨oc, od, dt, sl⟩ := ot
    simp only at g2 g3
    subst g2 g3
    exact PySem.W.kia_tup Z I.kIn ⟨ho, rfl, rfl, hoD⟩ g1 e (fun z => nomatch z) fun tk => ⟨.bl v, H, I.tok tk, rfl, q⟩
theorem Tn.isST {K : PySem.W.Frag} {b C p : Addr} {cd : ClassData} {H : Hp} {x : V} {o : Option PyData} {Q : VK} (G : ExG K C cd) (t : Tn b C H x o) (hp : H p = some (.tup [V.ty "str", V.ty "tuple"])) (k : Q (.bl (oB isSD o || oB isTD o)) H) : rIsiTX K C [x, .ref p] H Q := by
  cases t with
  | @dat _ d h => exact .inl ⟨_, p, _, _, _, isSD d || isTD d, rfl, hp, .cons (.ty _) (.cons (.ty _) .nil), h.ty, by cases d <;> rfl, k⟩
  | err h => exact .inr ⟨_, p, 1, _, _, false, rfl, hp, .cons (.ty _) (.cons (.ty _) .nil), h, G.na, k⟩
end J

/-! kinds among things of any depth; promises of what looks at things -/
namespace J
open PySem PySem.Spec PyProof.Rows L2 M
def letD : PyData → Bool
  | .str z => decide (z.length = 1) && (cd z).all fun c => decide (97 ≤ c ∧ c ≤ 122)
  | _ => false
def txD : PyData → List Nat
  | .str z => cd z
  | _ => []
/-- a tuple of one to eight unlike names -/
def choD : PyData → Bool
  | .tuple ds => decide (1 ≤ ds.length) && (decide (ds.length ≤ 8) && (ds.all nmD && decide (ds.map txD).Nodup))
  | _ => false
def bndD : List PyData → Bool
  | [.int i, y] => whD (-999999) 999999 (.int i) && whD i 999999 y
  | _ => false
def kdD : PyData → Bool
  | .tuple [h] => strIs h "name"
  | .tuple [h, x] => if strIs h "own" = true then nmD x else if strIs h "text" = true then whD 1 20 x else strIs h "one" && choD x
  | .tuple (h :: ds) => strIs h "number" && bndD ds
  | _ => false
theorem oB_none {f : PyData → Bool} : oB f none = false := rfl
theorem oB_some {f : PyData → Bool} {d : PyData} : oB f (some d) = f d := rfl
def spWholeX (C : Addr) : Sp := fun vs H Q _ => ∃ (b : Addr) (x : V) (o : Option PyData) (lo hi : Int), vs = [x, .int lo, .int hi] ∧ Tn b C H x o ∧ Q (.bl (oB (whD lo hi) o)) H
def spNameX (C : Addr) : Sp := fun vs H Q _ => ∃ (b : Addr) (x : V) (o : Option PyData), vs = [x] ∧ Tn b C H x o ∧ Q (.bl (oB nmD o)) H
def spLetX (C : Addr) : Sp := fun vs H Q _ => ∃ (b : Addr) (x : V) (o : Option PyData), vs = [x] ∧ Tn b C H x o ∧ Q (.bl (oB letD o)) H
def spWordX (C : Addr) : Sp := fun vs H Q _ => ∃ (b : Addr) (x : V) (o : Option PyData), vs = [x] ∧ Tn b C H x o ∧ Q (.bl (oB wdD o)) H
def spBoundsX : Sp := fun vs H Q _ => ∃ (b a : Addr) (xs : List V) (ds : List PyData), vs = [.ref a] ∧ H a = some (.tup xs) ∧ DdAll b H xs ds ∧ Q (.bl (bndD ds)) H
def spChoicesX : Sp := fun vs H Q _ => ∃ (b : Addr) (x : V) (d : PyData), vs = [x] ∧ Dd b H x d ∧ ∀ H', Same H H' → Q (.bl (choD d)) H'
def spKindX (C : Addr) : Sp := fun vs H Q _ => ∃ (b : Addr) (x : V) (o : Option PyData), vs = [x] ∧ Tn b C H x o ∧ ∀ H', Same H H' → Q (.bl (oB kdD o)) H'
def spNameXL (C : Addr) : Sp := fun vs H Q _ => ∃ (b : Addr) (x : V) (o : Option PyData), vs = [x] ∧ Tn b C H x o ∧ ∀ H', Same H H' → Q (.bl (oB nmD o)) H'
def spWordXL (C : Addr) : Sp := fun vs H Q _ => ∃ (b : Addr) (x : V) (o : Option PyData), vs = [x] ∧ Tn b C H x o ∧ ∀ H', Same H H' → Q (.bl (oB wdD o)) H'
/-- not a text: no name, no letter, no word -/
theorem noS {o : Option PyData} (h : oB isSD o = false) : oB nmD o = false ∧ oB letD o = false ∧ oB wdD o = false := by
  cases o with
  | none => exact ⟨rfl, rfl, rfl⟩
  | some d => cases d <;> first | exact ⟨rfl, rfl, rfl⟩ | exact (Bool.false_ne_true h.symm).elim
theorem isS_str {b C : Addr} {H : Hp} {x : V} {o : Option PyData} (t : Tn b C H x o) (h : oB isSD o = true) : ∃ z : Str, x = .str z ∧ o = some (.str z) ∧ z.length ≤ 1000 ∧ ∀ c ∈ cd z, c ≤ 126 := by
  cases t with
  | err h => exact (Bool.false_ne_true h).elim
  | dat q =>
    cases q with
    | str z hz c => exact ⟨z, rfl, rfl, hz, c⟩
    | _ => exact (Bool.false_ne_true h).elim
theorem isT_tup {b C : Addr} {H : Hp} {x : V} {o : Option PyData} (t : Tn b C H x o) (h : oB isTD o = true) : ∃ (a : Addr) (xs : List V) (ds : List PyData), x = .ref a ∧ o = some (.tuple ds) ∧ H a = some (.tup xs) ∧ DdAll b H xs ds := by
  cases t with
  | err h => exact (Bool.false_ne_true h).elim
  | dat q =>
    cases q with
    | tup ht t => exact ⟨_, _, _, rfl, rfl, ht, t⟩
    | _ => exact (Bool.false_ne_true h).elim
theorem noT {o : Option PyData} (h : oB isTD o = false) : oB kdD o = false ∧ oB choD o = false := by
  cases o with
  | none => exact ⟨rfl, rfl⟩
  | some d => cases d <;> first | exact ⟨rfl, rfl⟩ | exact (Bool.false_ne_true h.symm).elim
theorem isI_int {b C : Addr} {H : Hp} {x : V} {o : Option PyData} (t : Tn b C H x o) (h : oB isID o = true) (h2 : oB isBD o = false) : ∃ i : Int, x = .int i ∧ o = some (.int i) ∧ i.natAbs ≤ 10 ^ 60 := by
  cases t with
  | err h => exact (Bool.false_ne_true h).elim
  | dat q =>
    cases q with
    | int i hi => exact ⟨i, rfl, rfl, hi⟩
    | bl v => exact (Bool.false_ne_true h2.symm).elim
    | _ => exact (Bool.false_ne_true h).elim
theorem noI {o : Option PyData} {lo hi : Int} (h : oB isID o = false ∨ oB isBD o = true) : oB (whD lo hi) o = false := by
  cases o with
  | none => rfl
  | some d => cases d <;> first | rfl | exact (h.elim (fun h => Bool.false_ne_true h.symm) fun h => Bool.false_ne_true h).elim
end J

/-! a tuple the other way about -/
namespace HT
open PySem PySem.Spec PyProof.Rows  -- own
section
variable {prog : Program} {w : World} {A : Around} {E : Value → Shared → Prop} {s : Shared}  -- own
theorem rev_places (n : Nat) : Builtin.Slice.slicePlaces ((n : Int) - 1) (-1) (-1) = n := by
  unfold Builtin.Slice.slicePlaces  -- own
  rw [if_neg (by decide)]
  by_cases h : (n : Int) - 1 > -1  -- own
  · rw [if_pos h, show (-(-1) : Int) = 1 by decide, Int.ediv_one]; omega
  · rw [if_neg h]; omega
theorem rev_applied {sl : Addr} {vs : Value} {n : Nat} {Q : Int × Int × Nat → Shared → Prop} (hs : s.heap.IsSliceOf sl .none .none vs) (ps : IsPart vs (some (-1)))
    (h : Q ((n : Int) - 1, -1, n) s) : wpAny (model prog w) A (Builtin.Slice.sliceApplied (.ref sl) (pure (n : Int))) Q E s := by
  obtain ⟨o, g, _, d⟩ := id hs
  unfold Builtin.Slice.sliceApplied Builtin.Slice.sliceFields  -- own
  refine wpAny_bind (wpAny_bind (wpAny_field g d (x := .none) rfl (wpAny_bind (wpAny_field g d (x := .none) rfl (wpAny_bind (wpAny_field g d (x := vs) rfl (wpAny_pure ?_)))))))
  refine wpAny_bind (slicePart_ ps ?_)
  show wpAny _ _ (if ((-1 : Int) == 0) = true then _ else _) _ _ s
  rw [if_neg (by decide)]
  refine wpAny_bind (slicePart_none (wpAny_bind (slicePart_none (wpAny_bind (wpAny_pure ?_)))))
  show wpAny _ _ (pure ((n : Int) - 1, (-1 : Int), Builtin.Slice.slicePlaces ((n : Int) - 1) (-1) (-1))) _ _ s
  rw [rev_places]
  exact wpAny_pure h
theorem rev_pick (xs : Array Value) : ((List.range xs.size).filterMap fun (k : Nat) => xs[(((xs.size : Int) - 1) + (k : Int) * (-1)).toNat]?).toArray = xs.toList.reverse.toArray := by
  have e : (List.range xs.size).filterMap (fun (k : Nat) => xs[(((xs.size : Int) - 1) + (k : Int) * (-1)).toNat]?) = ((List.range xs.size).map fun k => xs.size - 1 - k).filterMap (xs[·]?) := by
    rw [List.filterMap_map]
    refine congrArg (fun f => (List.range xs.size).filterMap f) (funext fun k => ?_)
    show _ = xs[xs.size - 1 - k]?
    by_cases z : xs.size = 0
    · have : ∀ i : Nat, xs[i]? = none := fun i => Array.getElem?_eq_none (by omega)
      rw [this, this]
    · rw [show (((xs.size : Int) - 1) + (k : Int) * (-1)).toNat = xs.size - 1 - k by omega]
  rw [e, PySem.W.krv_range, List.filterMap_reverse, PySem.W.krv_all]
theorem getItem_tuple_rev {t sl : Addr} {items : Array Value} {vs : Value} {Q : Value → Shared → Prop} (ht : IsTup s.heap t items) (hs : s.heap.IsSliceOf sl .none .none vs) (ps : IsPart vs (some (-1)))
    (h : Q (.ref s.heap.objs.size) { s with heap := s.heap.push { cls := .type "tuple", data := .seq items.toList.reverse.toArray } })
    (hz : items.size ≤ sizeLine) : wpAny (model prog w) A (getItem (.ref t) (.ref sl)) Q E s := by
  have fits : sizeOk (.seq items.toList.reverse.toArray) := by
    show items.toList.reverse.toArray.size ≤ sizeLine
    rw [List.size_toArray, List.length_reverse, Array.length_toList]
    exact hz
  obtain ⟨o, g, c, d⟩ := id hs
  have hT : s.TypeIs (.ref sl) "slice" := ⟨o, g, c⟩
  unfold getItem
  try with_reducible refine wpAny_holding ?_  -- own
  first | refine wpAny_bind (wpAny_pure ?_) | skip  -- own
  refine wpAny_bind (wpAny_sequenceKey ht.typeIs (by decide) ?_)  -- own
  refine wpAny_bind (wpAny_callSpecial?_slot (name := Str.ofString "__getitem__") ht.typeIs PyProof.Rows.slot_tuple_getitem  -- own
    (wpAny_call_entry PyProof.Rows.slot_tuple_getitem ht.typeIs entry_tuple_getitem ?_ (args_tuple_getitem _ _)))  -- own
  show wpAny _ _ (Builtin.Tuple.tupleItemsOf (.ref t) >>= _) _ _ s  -- own
  refine wpAny_bind (tupleItemsOf_ ht ?_)  -- own
  refine wpAny_bind (wpAny_typeOf hT ?_)  -- own
  rw [if_pos (by decide)]
  refine wpAny_bind (rev_applied hs ps ?_)
  show wpAny _ _ (if (((items.size : Int) - 1) == 0 && (-1 : Int) == 1 && items.size == items.size) = true then _ else _) _ _ s
  rw [if_neg (by rw [show ((-1 : Int) == 1) = false by decide, Bool.and_false, Bool.false_and]; exact Bool.false_ne_true), rev_pick]
  first
    | exact wpAny_bind (m := Builtin.Tuple.tupleExact _) (wpAny_newObj_type (wpAny_pure ⟨_, rfl, wpAny_pure h⟩) fits)
    | exact wpAny_bind (m := Builtin.Tuple.tupleExact _) (wpAny_newObj_type (wpAny_bind (wpAny_pure (wpAny_pure ⟨_, rfl, wpAny_pure h⟩))) fits)
    | exact wpAny_bind (wpAny_bind (m := Builtin.Tuple.tupleExact _) (wpAny_newObj_type (wpAny_pure (wpAny_pure ⟨_, rfl, wpAny_pure h⟩)) fits))
    | exact wpAny_bind (wpAny_bind (m := Builtin.Tuple.tupleExact _) (wpAny_newObj_type (wpAny_pure ⟨_, rfl, wpAny_pure h⟩) fits))
end
end HT
namespace J
open PySem PySem.Spec PyProof.Rows L2 M
def tRevT (te : TE) : TE := fun σ H Q => te σ H fun x H1 => ∃ (a : Addr) (xs : List V), x = .ref a ∧ H1 a = some (.tup xs) ∧ ∀ p, H1 p = none → Q (.ref p) (upd H1 p (.tup xs.reverse))
theorem pe_revT {X : Cx} {e : Expr} {te : TE} {k : Nat} {p1 p2 p3 pos : Pos} (he : PE X e te) : PE X (.Subscript e (.Slice none none (some (.UnaryOp .USub (.Constant (.int 1) k p1) p2)) p3) pos) (tRevT te) := by
  constructor
  intro pins s σ H Q I h
  apply Subscript_
  refine thn (he.run pins s σ H _ I h) fun v s1 r => ?_
  obtain ⟨x, H1, I1, rx, a, xs, rfl, ha, q⟩ := r
  cases (show v = Value.ref a from rx)  -- own
  apply wpAny_Slice
  refine thn (po_none.run pins s1 σ H1 (fun o G => o = none ∧ G = H1) I1 ⟨rfl, rfl⟩) fun va s2 r => ?_
  obtain ⟨a', G, I2, pa, ea, rfl⟩ := r
  subst ea
  refine thn (po_none.run pins s2 σ G (fun o G' => o = none ∧ G' = G) I2 ⟨rfl, rfl⟩) fun vb s3 r => ?_
  obtain ⟨b', G', I3, pb, eb, rfl⟩ := r
  subst eb
  have minus : PO X (some (.UnaryOp .USub (.Constant (.int 1) k p1) p2)) (tPart (tUn (rU fun i => .int (-i)) (tC (.int 1)))) := po_some (pe_un un_neg pe_int)
  refine thn (minus.run pins s3 σ G' (fun o F => o = some (-1) ∧ F = G') I3 ⟨1, rfl, -1, rfl, rfl, rfl⟩) fun vc s4 r => ?_
  obtain ⟨c', F, I4, pc, ec, rfl⟩ := r
  subst ec
  cases pa
  cases pb
  have I5 : Inv X pins σ F { s4 with heap := s4.heap.push { cls := .type "slice", data := .fields #[.none, .none, vc] } } := I4.kept (t' := s4.toks) fun b ob h => Heap.get?_push_of_some _ h
  obtain ⟨hz, its, r, ht⟩ := (show ObjOk X.prog X.w F (s4.heap.push { cls := .type "slice", data := .fields #[.none, .none, vc] }) a (.tup xs) from I5.hok a _ ha)
  have hl : its.toArray.size = xs.length := by rw [List.size_toArray]; exact r.length.symm
  refine tail_any (ops := [.ref a, .ref s4.heap.objs.size]) ht.typeIs PyProof.Rows.slot_tuple_getitem.lookup ?_ (by with_unfolding_all rfl)
  refine HT.getItem_tuple_rev ht (Heap.IsSliceOf.new _ .none .none vc) pc ?_ (by rw [hl]; exact hz)
  refine ⟨.ref _, _, I5.laid (t' := s4.toks) (o := .tup xs.reverse) (fun b ob q => Heap.get?_push_of_some _ q) (Nat.le_refl _) ?_, rfl, q _ (I5.hok.fresh (Nat.le_refl _))⟩
  exact ⟨by rw [List.length_reverse]; exact hz, _, r.reverse, IsTup.new _ _⟩
theorem r_revT {te : TE} {σ : L2.St} {H : Hp} {Q : VK} (k : te σ H fun x H1 => ∃ (a : Addr) (xs : List V), x = .ref a ∧ H1 a = some (.tup xs) ∧ ∀ p, H1 p = none → Q (.ref p) (upd H1 p (.tup xs.reverse))) : tRevT te σ H Q := k
end J

/-! lists of things, cut and put together; a thing put otherwise -/
namespace J
open PySem PySem.Spec PyProof.Rows L2 M
section
variable {b : Addr} {H : Hp}
theorem DdAll.app : ∀ {xs ys : List V} {ds es : List PyData}, DdAll b H xs ds → DdAll b H ys es → DdAll b H (xs ++ ys) (ds ++ es)
  | _, _, _, _, .nil, u => u
  | _, _, _, _, .cons h t, u => .cons h (DdAll.app t u)
theorem DdAll.tk : ∀ {xs : List V} {ds : List PyData} (n : Nat), DdAll b H xs ds → DdAll b H (xs.take n) (ds.take n)
  | _, _, 0, _ => by rw [List.take_zero, List.take_zero]; exact .nil
  | _, _, _ + 1, .nil => .nil
  | _, _, n + 1, .cons h t => .cons h (DdAll.tk n t)
theorem DdAll.dp : ∀ {xs : List V} {ds : List PyData} (n : Nat), DdAll b H xs ds → DdAll b H (xs.drop n) (ds.drop n)
  | _, _, 0, t => t
  | _, _, _ + 1, .nil => .nil
  | _, _, n + 1, .cons _ t => DdAll.dp n t
theorem DdAll.rev : ∀ {xs : List V} {ds : List PyData}, DdAll b H xs ds → DdAll b H xs.reverse ds.reverse
  | _, _, .nil => .nil
  | _, _, .cons h t => by rw [List.reverse_cons, List.reverse_cons]; exact (DdAll.rev t).app (.cons h .nil)
theorem DdAll.at_ : ∀ {xs : List V} {ds : List PyData} {j : Nat}, DdAll b H xs ds → j < xs.length → ∃ x d, xs[j]? = some x ∧ ds[j]? = some d ∧ Dd b H x d
  | _, _, _, .nil, h => absurd h (Nat.not_lt_zero _)
  | _, _, 0, .cons h _, _ => ⟨_, _, rfl, rfl, h⟩
  | _, _, j + 1, .cons _ t, l => DdAll.at_ (j := j) t (by rw [List.length_cons] at l; omega)
theorem DdAll.len : ∀ {xs : List V} {ds : List PyData}, DdAll b H xs ds → xs.length = ds.length
  | _, _, .nil => rfl
  | _, _, .cons _ t => by rw [List.length_cons, List.length_cons, DdAll.len t]
end
theorem depAll_le {k : Nat} : ∀ {ds : List PyData}, PyData.depthAll ds ≤ k ↔ ∀ d ∈ ds, d.depth ≤ k
  | [] => ⟨fun _ d h => (List.not_mem_nil h).elim, fun _ => Nat.zero_le _⟩
  | d :: ds => by
    rw [PyData.depthAll, Nat.max_le, depAll_le]
    exact ⟨fun h x hx => (List.mem_cons.mp hx).elim (fun e => e ▸ h.1) fun m => h.2 x m, fun h => ⟨h d (List.mem_cons_self ..), fun x hx => h x (List.mem_cons_of_mem _ hx)⟩⟩
theorem dep_tup {k : Nat} {ds : List PyData} : (PyData.tuple ds).depth ≤ k + 1 ↔ ∀ d ∈ ds, d.depth ≤ k := by
  show PyData.depthAll ds + 1 ≤ k + 1 ↔ _
  rw [← depAll_le]; omega
theorem dep_lst {k : Nat} {ds : List PyData} : (PyData.list ds).depth ≤ k + 1 ↔ ∀ d ∈ ds, d.depth ≤ k := by
  show PyData.depthAll ds + 1 ≤ k + 1 ↔ _
  rw [← depAll_le]; omega
theorem wtAll_take (n : Nat) (ds : List PyData) : wtAll (ds.take n) + wtAll (ds.drop n) = wtAll ds := by
  rw [← wtAll_app, List.take_append_drop]
theorem wtAll_rev : ∀ ds : List PyData, wtAll ds.reverse = wtAll ds
  | [] => rfl
  | d :: ds => by rw [List.reverse_cons, wtAll_app, wtAll_rev ds, wtAll, wtAll, wtAll]; omega
/-- one of them left out, or another in its place -/
theorem wtAll_drop1 (n : Nat) (ds : List PyData) : wtAll (ds.take n) + wtAll (ds.drop (n + 1)) ≤ wtAll ds := by
  have := wtAll_take n ds
  have h2 : wtAll (ds.drop (n + 1)) ≤ wtAll (ds.drop n) := by
    have := wtAll_take 1 (ds.drop n)
    rw [List.drop_drop] at this
    omega
  omega
theorem wt_tup (ds : List PyData) : wt (.tuple ds) = wtAll ds + 3 := by rw [wt]
theorem wt_lst (ds : List PyData) : wt (.list ds) = wtAll ds + 3 := by rw [wt]
theorem wt_str (z : Str) : wt (.str z) = 10 * z.length + 2 := by rw [wt]
theorem wtAll_one (d : PyData) : wtAll [d] = wt d + 2 := by rw [wtAll, wtAll]
/-- a piece of a tuple, or of a text -/
def rSlX (K : PySem.W.Frag) : V → Option Int → Option Int → Hp → VK → Prop := fun x lo hi H Q => rSlT K x lo hi H Q ∨ rSlS x lo hi H Q
theorem sl_ts {X : Cx} : SlR X (rSlX X.K) := L2.sl_tup.or L2.sl_str
theorem r_catTu {K : PySem.W.Frag} {H : Hp} {Q : VK} {a c : Addr} {xs ys : List V} (h : H a = some (.tup xs)) (g : H c = some (.tup ys)) (l : xs.length + ys.length ≤ 100000)
    (k : ∀ (r : Addr) (H' : Hp), Same H H' → H' r = some (.tup (xs ++ ys)) → (∀ b n, Bx H b n → Bx H' b n) → Q (.ref r) H') : J.rAdd K (.ref a) (.ref c) H Q := by
  refine .inr (.inr (.inr ⟨a, c, xs, ys, rfl, rfl, SqT.of h, SqT.of g, Nat.le_trans l (by decide), fun e => ?_, fun _ e => ?_, fun _ _ p hp => ?_⟩))
  · subst e; exact k c H (Same.refl H) g fun _ _ z => z
  · subst e; exact k a H (Same.refl H) (by rw [List.append_nil]; exact h) fun _ _ z => z
  · exact k p _ ((Same.refl H).at hp _) upd_same fun _ _ z => z.new hp
/-- what comes of a thing put otherwise -/
def BentOf (d e : PyData) : Prop := e.depth ≤ d.depth + 1 ∧ wt e ≤ 2 * wt d + 2100
def spBentX (m : Nat) : Sp := fun vs H Q _ => ∃ (b : Addr) (n : Nat) (x : V) (d : PyData), vs = [.ref b, x] ∧ Bx H b n ∧ n + 10 * m ≤ 900000000 ∧ Dd b H x d ∧ d.depth ≤ m ∧ wt d ≤ 9000 ∧
  ∀ (y : V) (e : PyData) (H' : Hp), Keep b H H' → Bx H' b (n + 4 * (m + 1)) → Dd b H' y e → BentOf d e → Q y H'
end J

/-! repr of things and own errors; what is told of a thing told twice -/
namespace J
open PySem PySem.Spec PyProof.Rows L2 M
def rReprY (K : PySem.W.Frag) (C : Addr) (cd : ClassData) : List V → Hp → VK → Prop := fun xs H Q => rReprD xs H Q ∨ rReprX K C cd xs H Q
theorem call_reprY {X : Cx} {C : Addr} {cd : ClassData} (F : ExF X.K C cd) (hg : X.A.guards = some []) (hu : X.A.units + 64 < cLine) : CallR X (.builtin "repr") (rReprY X.K C cd) := by
  intro pins s σ H xs us Q I r h  -- own
  rcases h with h | h
  · exact call_reprD hg hu pins s σ H xs us Q I r h
  · exact call_reprX F hg hu pins s σ H xs us Q I r h
/-- what may be asked for its repr -/
def Fit1 (o : Option PyData) : Prop := ∀ d, o = some d → wt d ≤ 100000 ∧ d.depth ≤ 50
theorem Tn.repr {K : PySem.W.Frag} {b C : Addr} {cd : ClassData} {H : Hp} {x : V} {o : Option PyData} (t : Tn b C H x o) (f : Fit1 o) : ∃ Z : Str, ∀ H', Same H H' → ∀ Q : VK, Q (.str Z) H' → rReprY K C cd [x] H' Q := by
  cases t with
  | @dat _ d h => exact ⟨d.shown, fun H' s Q q => .inl ⟨b, x, d, rfl, h.same s, by have := (f d rfl).1; omega, by have := (f d rfl).2; omega, q⟩⟩
  | err h => exact ⟨_, fun H' s Q q => .inr (.inr (.inl ⟨_, 1, rfl, h.same s, by decide, q⟩))⟩
theorem r_reprB {K : PySem.W.Frag} {C : Addr} {cd : ClassData} {H : Hp} {Q : VK} {v : Bool} (q : Q (.str (PyData.shown (.bool v))) H) : rReprY K C cd [.bl v] H Q := .inl ⟨0, _, _, rfl, .bl v, by rw [wt]; decide, Nat.zero_le _, q⟩
theorem dd_bools {b : Addr} {H : Hp} : ∀ bs : List Bool, DdAll b H (bs.map V.bl) (bs.map PyData.bool) ∧ wtAll (bs.map PyData.bool) = 7 * bs.length ∧ ∀ d ∈ bs.map PyData.bool, d.depth ≤ 0
  | [] => ⟨.nil, rfl, fun _ h => (List.not_mem_nil h).elim⟩
  | v :: bs => by
    obtain ⟨h1, h2, h3⟩ := dd_bools (b := b) (H := H) bs
    refine ⟨.cons (.bl v) h1, ?_, fun d hd => ?_⟩
    · rw [List.map_cons, wtAll, h2, wt, List.length_cons]; omega
    · rcases List.mem_cons.mp hd with rfl | hd  -- own
      · exact Nat.le_refl _
      · exact h3 d hd
theorem r_reprL {K : PySem.W.Frag} {C : Addr} {cd : ClassData} {H : Hp} {Q : VK} {a : Addr} {bs : List Bool} (h : H a = some (.lst (bs.map V.bl))) (l : bs.length ≤ 20) (q : Q (.str (PyData.shown (.list (bs.map PyData.bool)))) H) : rReprY K C cd [.ref a] H Q := by
  obtain ⟨h1, h2, h3⟩ := dd_bools (b := a + 1) (H := H) bs
  refine .inl ⟨a + 1, _, _, rfl, .lst h (Nat.ne_of_lt (Nat.lt_succ_self a)) h1, by rw [wt_lst, h2]; omega, Nat.le_trans (dep_lst.mpr h3) (by decide), q⟩
theorem let_nm {o : Option PyData} : oB letD o = (oB nmD o && oB (fun d => decide ((txD d).length = 1)) o) := by
  cases o with
  | none => rfl
  | some d =>
    cases d with
    | str z =>
      show (decide (z.length = 1) && (cd z).all fun c => decide (97 ≤ c ∧ c ≤ 122)) = (isNm (cd z) && decide ((cd z).length = 1))
      rw [Bool.eq_iff_iff, Bool.and_eq_true, Bool.and_eq_true, isNm_iff, decide_eq_true_iff, decide_eq_true_iff, List.all_eq_true, len_cd]
      constructor
      · rintro ⟨h1, h2⟩
        exact ⟨⟨by omega, by omega, fun c hc => of_decide_eq_true (h2 c hc)⟩, h1⟩
      · rintro ⟨⟨_, _, h3⟩, h1⟩
        exact ⟨h1, fun c hc => decide_eq_true (h3 c hc)⟩
    | _ => rfl
def spRightX (C : Addr) : Sp := fun vs H Q _ => ∃ (b : Addr) (x : V) (o : Option PyData) (lo hi : Int), vs = [x, .int lo, .int hi] ∧ Tn b C H x o ∧ Fit1 o ∧ ∀ H', Same H H' → Q (.bl true) H'
end J

/-! kinds, names and words are things; lists of things -/
namespace J
open PySem PySem.Spec PyProof.Rows L2 M
theorem Tn.keep {b C : Addr} {n : Nat} {H H' : Hp} {x : V} {o : Option PyData} (hb : Bx H b n) (kp : Keep b H H') (t : Tn b C H x o) : Tn b C H' x o := by
  cases t with
  | dat h => exact .dat (h.keep hb kp)
  | err h =>
    obtain ⟨t1, dx, fs, h1, h2, h3⟩ := h
    exact .err ⟨t1, dx, fs, kp _ _ h1 (box_lst hb h1 fun xs z => by have z' : HO.ext _ = HO.lst xs := z; cases z'), kp _ _ h2 (box_lst hb h2 fun xs z => by have z' : HO.ext _ = HO.lst xs := z; cases z'), kp _ _ h3 (box_lst hb h3 fun xs z => by cases z)⟩
theorem dd_w {b : Addr} {H : Hp} {l : List Nat} (h1 : l.length ≤ 41) (h2 : ∀ c ∈ l, c ≤ 126) : Dd b H (wV l) (.str (S l)) ∧ wt (.str (S l)) ≤ 412 ∧ (PyData.str (S l)).depth = 0 :=
  ⟨.str (S l) (by rw [S_len]; omega) (by rw [cd_S]; exact h2), by rw [wt_str, S_len]; omega, rfl⟩
theorem dd_nms {b : Addr} {H : Hp} : ∀ {ns : List (List Nat)}, (∀ n ∈ ns, Nm n) → DdAll b H (ns.map wV) (ns.map dW) ∧ wtAll (ns.map dW) ≤ 84 * ns.length ∧ ∀ d ∈ ns.map dW, d.depth ≤ 0
  | [], _ => ⟨.nil, Nat.le_refl _, fun _ h => (List.not_mem_nil h).elim⟩
  | n :: ns, h => by
    obtain ⟨h1, h2, h3⟩ := dd_nms (b := b) (H := H) (ns := ns) fun x hx => h x (List.mem_cons_of_mem _ hx)
    have hn := h n (List.mem_cons_self ..)
    obtain ⟨w1, w2, w3⟩ := dd_w (b := b) (H := H) (l := n) (by have := hn.2.1; omega) fun c hc => by have := hn.2.2 c hc; omega
    refine ⟨.cons w1 h1, ?_, fun d hd => ?_⟩
    · rw [List.map_cons, wtAll, List.length_cons, show wt (dW n) = 10 * n.length + 2 by show wt (.str (S n)) = _; rw [wt_str, S_len]]
      have := hn.2.1
      omega
    · rcases List.mem_cons.mp hd with rfl | hd  -- own
      · exact Nat.le_refl _
      · exact h3 d hd
theorem dd_kind {b : Addr} {H : Hp} {p : Addr} {k : Kd} (h : KdAt H p k) (ok : k.Ok) : ∃ ds, Dd b H (.ref p) (.tuple ds) ∧ wt (.tuple ds) ≤ 900 ∧ (PyData.tuple ds).depth ≤ 2 := by
  have lit : ∀ z : Str, decide (z.length ≤ 41 ∧ ∀ c ∈ cd z, c ≤ 126) = true → Dd b H (.str z) (.str z) ∧ wt (.str z) ≤ 412 := fun z h => by
    obtain ⟨h1, h2⟩ := of_decide_eq_true h
    exact ⟨.str z (by omega) h2, by rw [wt_str]; omega⟩
  cases k with
  | num lo hi =>
    obtain ⟨o1, o2, o3⟩ := ok
    obtain ⟨l1, l2⟩ := lit "number" (by decide +kernel)
    refine ⟨_, .tup h (.cons l1 (.cons (.int lo (by omega)) (.cons (.int hi (by omega)) .nil))), ?_, by show 1 ≤ 2; decide⟩
    rw [wt_tup, wtAll, wtAll, wtAll, wtAll, wt, wt, wt_str, show (Str.ofString "number").length = 6 by decide +kernel]
    omega
  | nam =>
    obtain ⟨l1, l2⟩ := lit "name" (by decide +kernel)
    refine ⟨_, .tup h (.cons l1 .nil), ?_, by show 1 ≤ 2; decide⟩
    rw [wt_tup, wtAll, wtAll]; omega
  | txt n =>
    obtain ⟨o1, o2⟩ := ok
    obtain ⟨l1, l2⟩ := lit "text" (by decide +kernel)
    refine ⟨_, .tup h (.cons l1 (.cons (.int n (by omega)) .nil)), ?_, by show 1 ≤ 2; decide⟩
    rw [wt_tup, wtAll, wtAll, wtAll, wt]; omega
  | one ns =>
    obtain ⟨c, h, hc⟩ := h
    obtain ⟨o1, o2, o3, o4⟩ := ok
    obtain ⟨l1, l2⟩ := lit "one" (by decide +kernel)
    obtain ⟨n1, n2, n3⟩ := dd_nms (b := b) (H := H) o3
    refine ⟨_, .tup h (.cons l1 (.cons (.tup hc n1) .nil)), ?_, ?_⟩
    · rw [wt_tup, wtAll, wtAll, wtAll, wt_tup, wt_str, show (Str.ofString "one").length = 3 by decide +kernel]; omega
    · refine dep_tup.mpr fun d hd => ?_
      simp only [List.mem_cons, List.not_mem_nil, or_false] at hd
      rcases hd with rfl | rfl
      · exact Nat.zero_le _
      · exact dep_tup.mpr n3
  | own nm =>
    have ok : Nm nm := ok
    obtain ⟨l1, l2⟩ := lit "own" (by decide +kernel)
    obtain ⟨w1, w2, w3⟩ := dd_w (b := b) (H := H) (l := nm) (by have := ok.2.1; omega) fun c hc => by have := ok.2.2 c hc; omega
    refine ⟨_, .tup h (.cons l1 (.cons w1 .nil)), ?_, by show 1 ≤ 2; decide⟩
    rw [wt_tup, wtAll, wtAll, wtAll, wt_str, wt_str, S_len, show (Str.ofString "own").length = 3 by decide +kernel]
    have := ok.2.1
    omega
/-- small enough for the law -/
def Fm (o : Option PyData) : Prop := ∀ d, o = some d → wt d ≤ 1000 ∧ d.depth ≤ 3 ∧ ((isSD d || isTD d) = true → d.depth ≤ 2)
def TnAll (b C : Addr) (H : Hp) (es : List (V × Option PyData)) : Prop := ∀ e ∈ es, Tn b C H e.1 e.2 ∧ Fm e.2
theorem TnAll.nil {b C : Addr} {H : Hp} : TnAll b C H [] := fun _ h => (List.not_mem_nil h).elim
theorem TnAll.cons {b C : Addr} {H : Hp} {x : V} {d : PyData} {es : List (V × Option PyData)} (h : Dd b H x d) (w : wt d ≤ 1000) (dp : d.depth ≤ 2) (t : TnAll b C H es) : TnAll b C H ((x, some d) :: es) := fun e he => by
  rcases List.mem_cons.mp he with rfl | he  -- own
  · exact ⟨.dat h, fun z q => by cases q; exact ⟨w, by omega, fun _ => dp⟩⟩
  · exact t e he
theorem TnAll.consL {b C : Addr} {H : Hp} {x : V} {ds : List PyData} {es : List (V × Option PyData)} (h : Dd b H x (.list ds)) (w : wt (.list ds) ≤ 1000) (dp : (PyData.list ds).depth ≤ 3) (t : TnAll b C H es) : TnAll b C H ((x, some (.list ds)) :: es) := fun e he => by
  rcases List.mem_cons.mp he with rfl | he  -- own
  · exact ⟨.dat h, fun z q => by cases q; exact ⟨w, dp, fun q => (Bool.false_ne_true q).elim⟩⟩
  · exact t e he
theorem TnAll.consE {b C a : Addr} {H : Hp} {es : List (V × Option PyData)} (h : EvA H C a 1) (t : TnAll b C H es) : TnAll b C H ((.ref a, none) :: es) := fun e he => by
  rcases List.mem_cons.mp he with rfl | he  -- own
  · exact ⟨.err h, fun z q => by cases q⟩
  · exact t e he
theorem Fm.fit {o : Option PyData} (h : Fm o) : Fit1 o := fun d e => by have := h d e; exact ⟨by omega, by omega⟩
end J

namespace K01
open PySem PySem.Spec PyProof.Rows L2 J M
def topS (i : Nat) : Stmt := PySem.Challenge.pw_callwords_k01_things_of_all_sorts.main.body.getD i (.Pass ⟨0, 0, 0, 0⟩)
abbrev s_is_whole : Stmt := topS 9
abbrev N_is_whole : List Str := ["thing", "low", "high"]
abbrev P_is_whole : List Str := ["thing", "low", "high"]
theorem sc_is_whole : FnScope N_is_whole P_is_whole (defScope s_is_whole) := ⟨rfl, rfl, rfl, by decide +kernel, rfl, by decide +kernel, by decide +kernel⟩
abbrev s_is_name : Stmt := topS 10
abbrev N_is_name : List Str := ["thing"]
abbrev P_is_name : List Str := ["thing"]
theorem sc_is_name : FnScope N_is_name P_is_name (defScope s_is_name) := ⟨rfl, rfl, rfl, by decide +kernel, rfl, by decide +kernel, by decide +kernel⟩
abbrev s_is_letter : Stmt := topS 11
abbrev N_is_letter : List Str := ["thing"]
abbrev P_is_letter : List Str := ["thing"]
theorem sc_is_letter : FnScope N_is_letter P_is_letter (defScope s_is_letter) := ⟨rfl, rfl, rfl, by decide +kernel, rfl, by decide +kernel, by decide +kernel⟩
abbrev s_is_word : Stmt := topS 12
abbrev N_is_word : List Str := ["thing"]
abbrev P_is_word : List Str := ["thing"]
theorem sc_is_word : FnScope N_is_word P_is_word (defScope s_is_word) := ⟨rfl, rfl, rfl, by decide +kernel, rfl, by decide +kernel, by decide +kernel⟩
abbrev s_are_signs : Stmt := topS 13
abbrev N_are_signs : List Str := ["text"]
abbrev P_are_signs : List Str := ["text"]
theorem sc_are_signs : FnScope N_are_signs P_are_signs (defScope s_are_signs) := ⟨rfl, rfl, rfl, by decide +kernel, rfl, by decide +kernel, by decide +kernel⟩
abbrev s_is_kind : Stmt := topS 14
abbrev N_is_kind : List Str := ["thing", "head", "many"]
abbrev P_is_kind : List Str := ["thing"]
theorem sc_is_kind : FnScope N_is_kind P_is_kind (defScope s_is_kind) := ⟨rfl, rfl, rfl, by decide +kernel, rfl, by decide +kernel, by decide +kernel⟩
abbrev s_are_bounds : Stmt := topS 15
abbrev N_are_bounds : List Str := ["things"]
abbrev P_are_bounds : List Str := ["things"]
theorem sc_are_bounds : FnScope N_are_bounds P_are_bounds (defScope s_are_bounds) := ⟨rfl, rfl, rfl, by decide +kernel, rfl, by decide +kernel, by decide +kernel⟩
abbrev s_are_choices : Stmt := topS 16
abbrev N_are_choices : List Str := ["thing", "name"]
abbrev P_are_choices : List Str := ["thing"]
theorem sc_are_choices : FnScope N_are_choices P_are_choices (defScope s_are_choices) := ⟨rfl, rfl, rfl, by decide +kernel, rfl, by decide +kernel, by decide +kernel⟩
abbrev s_are_unlike : Stmt := topS 17
abbrev N_are_unlike : List Str := ["texts"]
abbrev P_are_unlike : List Str := ["texts"]
theorem sc_are_unlike : FnScope N_are_unlike P_are_unlike (defScope s_are_unlike) := ⟨rfl, rfl, rfl, by decide +kernel, rfl, by decide +kernel, by decide +kernel⟩
abbrev s_law_cell : Stmt := topS 19
abbrev N_law_cell : List Str := ["_law_script", "_law_k"]
abbrev P_law_cell : List Str := ["_law_script", "_law_k"]
theorem sc_law_cell : FnScope N_law_cell P_law_cell (defScope s_law_cell) := ⟨rfl, rfl, rfl, by decide +kernel, rfl, by decide +kernel, by decide +kernel⟩
abbrev s_law_box : Stmt := topS 20
abbrev N_law_box : List Str := ["_law_cell_here"]
abbrev P_law_box : List Str := ["_law_cell_here"]
theorem sc_law_box : FnScope N_law_box P_law_box (defScope s_law_box) := ⟨rfl, rfl, rfl, by decide +kernel, rfl, by decide +kernel, by decide +kernel⟩
abbrev s_law_take : Stmt := topS 21
abbrev N_law_take : List Str := ["_law_box_here", "_law_many", "_law_digit", "_law_number"]
abbrev P_law_take : List Str := ["_law_box_here", "_law_many"]
theorem sc_law_take : FnScope N_law_take P_law_take (defScope s_law_take) := ⟨rfl, rfl, rfl, by decide +kernel, rfl, by decide +kernel, by decide +kernel⟩
abbrev s_law_name : Stmt := topS 22
abbrev N_law_name : List Str := ["_law_box_here", "_law_letters", "_law_k"]
abbrev P_law_name : List Str := ["_law_box_here"]
theorem sc_law_name : FnScope N_law_name P_law_name (defScope s_law_name) := ⟨rfl, rfl, rfl, by decide +kernel, rfl, by decide +kernel, by decide +kernel⟩
abbrev s_law_names : Stmt := topS 23
abbrev N_law_names : List Str := ["_law_box_here", "_law_many", "_law_letters", "_law_stem", "_law_way", "_law_first", "_law_some", "_law_k"]
abbrev P_law_names : List Str := ["_law_box_here", "_law_many"]
theorem sc_law_names : FnScope N_law_names P_law_names (defScope s_law_names) := ⟨rfl, rfl, rfl, by decide +kernel, rfl, by decide +kernel, by decide +kernel⟩
abbrev s_law_kind : Stmt := topS 24
abbrev N_law_kind : List Str := ["_law_box_here", "_law_way", "_law_low"]
abbrev P_law_kind : List Str := ["_law_box_here"]
theorem sc_law_kind : FnScope N_law_kind P_law_kind (defScope s_law_kind) := ⟨rfl, rfl, rfl, by decide +kernel, rfl, by decide +kernel, by decide +kernel⟩
abbrev s_law_word : Stmt := topS 25
abbrev N_law_word : List Str := ["_law_box_here", "_law_top_one", "_law_signs", "_law_k"]
abbrev P_law_word : List Str := ["_law_box_here", "_law_top_one"]
theorem sc_law_word : FnScope N_law_word P_law_word (defScope s_law_word) := ⟨rfl, rfl, rfl, by decide +kernel, rfl, by decide +kernel, by decide +kernel⟩
abbrev s_law_is_whole : Stmt := topS 26
abbrev N_law_is_whole : List Str := ["_law_thing", "_law_low", "_law_high"]
abbrev P_law_is_whole : List Str := ["_law_thing", "_law_low", "_law_high"]
theorem sc_law_is_whole : FnScope N_law_is_whole P_law_is_whole (defScope s_law_is_whole) := ⟨rfl, rfl, rfl, by decide +kernel, rfl, by decide +kernel, by decide +kernel⟩
abbrev s_law_is_name : Stmt := topS 27
abbrev N_law_is_name : List Str := ["_law_thing", "_law_sign"]
abbrev P_law_is_name : List Str := ["_law_thing"]
theorem sc_law_is_name : FnScope N_law_is_name P_law_is_name (defScope s_law_is_name) := ⟨rfl, rfl, rfl, by decide +kernel, rfl, by decide +kernel, by decide +kernel⟩
abbrev s_law_is_word : Stmt := topS 28
abbrev N_law_is_word : List Str := ["_law_thing", "_law_sign"]
abbrev P_law_is_word : List Str := ["_law_thing"]
theorem sc_law_is_word : FnScope N_law_is_word P_law_is_word (defScope s_law_is_word) := ⟨rfl, rfl, rfl, by decide +kernel, rfl, by decide +kernel, by decide +kernel⟩
abbrev s_law_is_kind : Stmt := topS 29
abbrev N_law_is_kind : List Str := ["_law_thing", "_law_word_here", "_law_size", "_law_good", "_law_names_here", "_law_one"]
abbrev P_law_is_kind : List Str := ["_law_thing"]
theorem sc_law_is_kind : FnScope N_law_is_kind P_law_is_kind (defScope s_law_is_kind) := ⟨rfl, rfl, rfl, by decide +kernel, rfl, by decide +kernel, by decide +kernel⟩
abbrev s_law_bent : Stmt := topS 30
abbrev N_law_bent : List Str := ["_law_box_here", "_law_thing", "_law_odd", "_law_at", "_law_sign", "_law_other", "_law_way"]
abbrev P_law_bent : List Str := ["_law_box_here", "_law_thing"]
theorem sc_law_bent : FnScope N_law_bent P_law_bent (defScope s_law_bent) := ⟨rfl, rfl, rfl, by decide +kernel, rfl, by decide +kernel, by decide +kernel⟩
abbrev s_law_right : Stmt := topS 31
abbrev N_law_right : List Str := ["_law_thing", "_law_low", "_law_high", "_law_kept", "_law_due", "_law_turn", "_law_found"]
abbrev P_law_right : List Str := ["_law_thing", "_law_low", "_law_high"]
theorem sc_law_right : FnScope N_law_right P_law_right (defScope s_law_right) := ⟨rfl, rfl, rfl, by decide +kernel, rfl, by decide +kernel, by decide +kernel⟩
abbrev s_law : Stmt := topS 32
abbrev N_law : List Str := ["_law_script", "_law_k", "_law_box_here", "_law_low", "_law_high", "_law_some", "_law_thing", "_law_bent_here"]
abbrev P_law : List Str := ["_law_script"]
theorem sc_law : FnScope N_law P_law (defScope s_law) := ⟨rfl, rfl, rfl, by decide +kernel, rfl, by decide +kernel, by decide +kernel⟩
local macro_rules | `(tactic| walk_at "hp") => `(tactic| first | assumption | exact upd_same | (rw [upd_ne (by assumption)]; walk_at "hp") | (rw [upd_ne (Ne.symm (by assumption))]; walk_at "hp"))
local macro_rules | `(tactic| walk_at "s") => `(tactic| first
  | ((with_reducible refine' r_var ?h ?k); (case h => exact rfl))
  | (with_reducible refine r_c ?_)
  | (with_reducible refine r_op ?_)
  | (with_reducible refine r_un ?_)
  | (with_reducible refine r_seq ?_)
  | (with_reducible refine r_next ?_)
  | (with_reducible refine r_sets ?_)
  | (with_reducible refine r_gname ?_)
  | (with_reducible refine r_ifS ?_)
  | (with_reducible refine r_gsub ?_)
  | (with_reducible refine r_test ?_)
  | (with_reducible refine r_tb ?_)
  | (with_reducible refine r_not ?_)
  | (with_reducible refine r_and ?_)
  | (with_reducible refine r_or ?_)
  | (with_reducible refine r_andV ?_)
  | (with_reducible refine r_orV ?_)
  | (with_reducible refine r_notV ?_)
  | (with_reducible refine r_ifE ?_)
  | (with_reducible refine r_chain ?_)
  | (with_reducible refine r_cb ?_)
  | (with_reducible refine r_cons ?_)
  | (with_reducible refine r_nil ?_)
  | (with_reducible refine r_call ?_)
  | (with_reducible refine r_lst ?_)
  | (with_reducible refine r_tup ?_)
  | (with_reducible refine r_slice ?_)
  | (with_reducible refine r_nop ?_)
  | (with_reducible refine r_part ?_)
  | (with_reducible refine r_bm ?_)
  | (with_reducible refine r_m1 ?_)
  | (with_reducible refine r_m0 ?_)
  | (with_reducible refine r_is ?_)
  | (with_reducible refine r_maxD ?_)
  | (with_reducible refine r_orT ?_)
  | (with_reducible refine r_truN ?_)
  | (with_reducible refine r_intI ?_)
  | (with_reducible refine r_intB ?_)
  | (with_reducible refine r_max2 ?_)
  | (with_reducible refine r_min2 ?_)
  | (with_reducible refine r_yes ?_)
  | (with_reducible refine r_bl ?_)
  | (with_reducible refine iteT ?_)
  | (with_reducible refine iteF ?_)
  | (with_reducible refine r_iteNT ?_)
  | (with_reducible refine r_iteNF ?_)
  | (with_reducible refine r_minL ?_)
  | (with_reducible refine r_gcons ?_)
  | (with_reducible refine r_gnil ?_)
  | (with_reducible refine r_par ?_)
  | (with_reducible refine r_par3 ?_)
  | (with_reducible refine r_is2 ?_)
  | (with_reducible refine r_is3 ?_)
  | (with_reducible refine r_dget ?_)
  | (with_reducible refine r_callS ?_)
  | (with_reducible refine r_rz ?_)
  | (with_reducible refine r_rev ?_)
  | (with_reducible refine r_isI ?_)
  | (with_reducible refine r_isStr ?_)
  | (with_reducible refine r_ret ?_)
  | (with_reducible refine r_drop ?_)
  | (with_reducible refine r_rI0 ?_)
  | (with_reducible refine r_addI ?_)
  | ((with_reducible show rI (fun _ j => 0 < j) _ (.int _) (.int _) _ _); refine r_rI (by first | omega | decide) ?_)
  | ((with_reducible show rI CDiv _ (.int _) (.int _) _ _); refine r_rI (by constructor <;> omega) ?_)
  | ((with_reducible show rI CPow _ (.int _) (.int _) _ _); refine r_rI (by refine ⟨by decide, by decide, ?_⟩; omega) ?_)
  | ((with_reducible show rMul (.int _) (.int _) _ _); refine r_mulI (cmulW (by omega) (by omega)) ?_)
  | (with_reducible refine r_cmpI ?_)
  | (with_reducible refine r_cmpS ?_)
  | (with_reducible refine r_eqI ?_)
  | (with_reducible refine r_neI ?_)
  | (with_reducible refine r_eqS ?_)
  | (with_reducible refine r_neS ?_)
  | (with_reducible refine r_inSF ?_)
  | (with_reducible refine r_inST ?_)
  | (with_reducible refine r_isiStr ?_)
  | ((with_reducible show rIx _ (.ref _) (.int _) _ _); refine' r_ixL (SqL.of ?h) ?e ?_; (case h => walk_at "hp"); (case e => rfl))
  | ((with_reducible show rSetL (.ref _) (.int _) _ _ _); refine' r_setL ?h ?e ?_; (case h => walk_at "hp"); (case e => rfl)))
local macro_rules | `(tactic| walk_at "g") => `(tactic| repeat walk_at "s")


local macro_rules | `(tactic| walk_at "x") => `(tactic| first | omega | decide +kernel | (simp only [List.length_cons, List.length_nil]; omega))
local macro_rules | `(tactic| walk_at "T") => `(tactic| repeat (first
  | walk_at "s"
  | ((with_reducible show rIx _ (.ref _) (.int _) _ _); refine' r_ixTu (SqT.of ?h) ?e ?_; (case h => first | assumption | walk_at "hp"); (case e => rfl))
  | (with_reducible refine r_lenSet ?_)
  | (with_reducible refine r_asg2 ?_)
  | (with_reducible refine iteDT (by walk_at "x") ?_)
  | (with_reducible refine iteDF (by walk_at "x") ?_)
  | (with_reducible refine iteNT (by walk_at "x") ?_)
  | (with_reducible refine iteNF (by walk_at "x") ?_)))
structure Tx (K : PySem.W.Frag) (mg : Str → Option Value) : Prop where
  z_len : mg "len" = none
  z_isinstance : mg "isinstance" = none
  z_str : mg "str" = none
  z_int : mg "int" = none
  z_bool : mg "bool" = none
  z_min : mg "min" = none
  z_max : mg "max" = none
  z_range : mg "range" = none
  z_repr : mg "repr" = none
  z_list : mg "list" = none
  z_tuple : mg "tuple" = none
  z_set : mg "set" = none
  z_all : mg "all" = none
  z_ord : mg "ord" = none
  c_MOST_LETTERS : ∃ t, mg "MOST_LETTERS" = some (.int 8 t)
  c_MOST_SIGNS : ∃ t, mg "MOST_SIGNS" = some (.int 40 t)
  c_MOST_NUMBER : ∃ t, mg "MOST_NUMBER" = some (.int 999999 t)
  c_MOST_NAMES : ∃ t, mg "MOST_NAMES" = some (.int 8 t)
  c_MOST_TEXT : ∃ t, mg "MOST_TEXT" = some (.int 20 t)
section
variable {P : Program} {w : World} {K : PySem.W.Frag} {mg : Str → Option Value} {base : Heap} {C : Addr} {cd0 : ClassData}
theorem ok_is_whole (T : Tx K mg) (XF : ExG K C cd0) {f : Addr} {fd : FuncData} (F : Fun K "is_whole" "is_whole" s_is_whole f fd) : FnOk P w K mg base CX0 1 f fd P_is_whole (spWholeX C) := by
  refine F.ok sc_is_whole (fun vs H Q E h => ?_) (fun cdv A outer s H vs Q E hr h => ?_)
  · obtain ⟨b, x, o, lo, hi, rfl, _⟩ := h
    rfl
  · obtain ⟨b, x, o, lo, hi, rfl, hx, k⟩ := h
    refine ⟨_, (pss_one (ps_ret (pe_and (pe_callB (call_isiX XF.toExF : CallR _ _ (rIsiX K C)) (by rfl) T.z_isinstance (by decide +kernel) (pa_cons (pv 0) (pa_cons (pe_bltn (v := .ty "int") (u := .type "int") rfl T.z_int (by decide +kernel) rfl) pa_nil))) (pe_and (pe_not (pe_callB (call_isiX XF.toExF : CallR _ _ (rIsiX K C)) (by rfl) T.z_isinstance (by decide +kernel) (pa_cons (pv 0) (pa_cons (pe_bltn (v := .ty "bool") (u := .type "bool") rfl T.z_bool (by decide +kernel) rfl) pa_nil)))) (pe_one (pe_chain op_leA op_leA (pv 1) (pv 0) (pv 2))))))), ?_⟩
    walk_at "T"
    refine hx.isI XF ?_
    cases e1 : oB isID o with
    | false =>
      rw [noI (.inl e1)] at k
      exact ⟨_, rfl, iteF k⟩
    | true =>
      refine ⟨_, rfl, iteT ?_⟩
      walk_at "T"
      refine hx.isB XF ?_
      cases e2 : oB isBD o with
      | true =>
        rw [noI (.inr e2)] at k
        exact ⟨_, rfl, ⟨_, rfl, iteF k⟩⟩
      | false =>
        obtain ⟨i, rfl, rfl, _⟩ := isI_int hx e1 e2
        refine ⟨_, rfl, ?_⟩
        refine ⟨_, rfl, iteT ?_⟩
        walk_at "T"
        refine r_iteD (fun c => ?_) fun c => ?_
        · have : oB (whD lo hi) (some (.int i)) = decide (i ≤ hi) := by show (decide _ && decide _) = _; rw [decide_eq_true c, Bool.true_and]
          rw [this] at k
          walk_at "T"
          exact k
        · have : oB (whD lo hi) (some (.int i)) = false := by show (decide _ && decide _) = _; rw [decide_eq_false c, Bool.false_and]
          rw [this] at k
          exact k
theorem ok_is_name (T : Tx K mg) (XF : ExG K C cd0) {f : Addr} {fd : FuncData} (F : Fun K "is_name" "is_name" s_is_name f fd) : FnOk P w K mg base CX0 1 f fd P_is_name (spNameX C) := by
  refine F.ok sc_is_name (fun vs H Q E h => ?_) (fun cdv A outer s H vs Q E hr h => ?_)
  · obtain ⟨b, x, o, rfl, _⟩ := h
    rfl
  · obtain ⟨b, x, o, rfl, hx, k⟩ := h
    refine ⟨_, (pss_cons (ps_if (PW.pt (pw_or (pt_not (pt_val (pe_callB (call_isiX XF.toExF : CallR _ _ (rIsiX K C)) (by rfl) T.z_isinstance (by decide +kernel) (pa_cons (pv 0) (pa_cons (pe_bltn (v := .ty "str") (u := .type "str") rfl T.z_str (by decide +kernel) rfl) pa_nil))))) (pw_or1 (pt_not (pt_chain op_leA op_leA pe_int (pe_callB (call_lenA : CallR _ _ (rLen K)) (by rfl) T.z_len (by decide +kernel) (pa_cons (pv 0) pa_nil)) (pe_gI T.c_MOST_LETTERS rfl)))))) (pss_one (ps_ret pe_bl)) pss_nil) (pss_one (ps_ret (pe_and (pe_m0 PySem.F.slot_str_isascii PySem.F.type_str_isascii mA_isascii (pv 0)) (pe_and (pe_m0 PySem.F.slot_str_isalpha PySem.F.type_str_isalpha mA_isalpha (pv 0)) (pe_one (pe_m0 PySem.F.slot_str_islower PySem.F.type_str_islower mA_islower (pv 0)))))))), ?_⟩
    walk_at "T"
    refine hx.isS XF ?_
    cases e1 : oB isSD o with
    | false =>
      rw [(noS e1).1] at k
      walk_at "T"
      exact k
    | true =>
      obtain ⟨z, rfl, rfl, hz, c126⟩ := isS_str hx e1
      have hz' : z.length ≤ sizeLine := Nat.le_trans hz (by decide)
      have k : Q (.bl (isNm (cd z))) H := k
      unfold isNm at k
      have e := len_cd z
      walk_at "T"
      refine r_len hz' ?_
      walk_at "T"
      refine r_iteD (fun c => ?_) fun c => ?_
      · walk_at "T"
        rw [decide_eq_true (show 1 ≤ (cd z).length by omega), Bool.true_and] at k
        refine r_iteN (fun c2 => ?_) fun c2 => ?_
        · walk_at "T"
          rw [decide_eq_false (show ¬ (cd z).length ≤ 8 by omega), Bool.false_and] at k
          exact k
        · walk_at "T"
          rw [decide_eq_true (show (cd z).length ≤ 8 by omega), Bool.true_and, ← small_letters z (by omega)] at k
          refine r_ite (fun e1 => ?_) fun e1 => ?_
          · rw [e1, Bool.true_and] at k
            walk_at "T"
            refine r_ite (fun e2 => ?_) fun e2 => ?_
            · rw [e2, Bool.true_and] at k
              walk_at "T"
              exact k
            · rw [e2, Bool.false_and] at k
              exact k
          · rw [e1, Bool.false_and] at k
            exact k
      · walk_at "T"
        rw [decide_eq_false (show ¬ 1 ≤ (cd z).length by omega), Bool.false_and] at k
        exact k
theorem one_of {z : Str} (h : z.length = 1) : ∃ c, z = ⟨#[c]⟩ ∧ cd z = [c] := by
  rw [len_cd] at h
  obtain ⟨c, e⟩ := List.length_eq_one_iff.mp h
  exact ⟨c, by rw [str_eq, e, cd_one], e⟩
theorem l_a : (Str.ofString "a").cps.toList = [97] := by decide +kernel
theorem l_z : (Str.ofString "z").cps.toList = [122] := by decide +kernel
theorem ok_is_letter (T : Tx K mg) (XF : ExG K C cd0) {f : Addr} {fd : FuncData} (F : Fun K "is_letter" "is_letter" s_is_letter f fd) : FnOk P w K mg base CX0 1 f fd P_is_letter (spLetX C) := by
  refine F.ok sc_is_letter (fun vs H Q E h => ?_) (fun cdv A outer s H vs Q E hr h => ?_)
  · obtain ⟨b, x, o, rfl, _⟩ := h
    rfl
  · obtain ⟨b, x, o, rfl, hx, k⟩ := h
    refine ⟨_, (pss_one (ps_ret (pe_and (pe_callB (call_isiX XF.toExF : CallR _ _ (rIsiX K C)) (by rfl) T.z_isinstance (by decide +kernel) (pa_cons (pv 0) (pa_cons (pe_bltn (v := .ty "str") (u := .type "str") rfl T.z_str (by decide +kernel) rfl) pa_nil))) (pe_and (pe_cmpR ((op_eqA hr.units) : OpR _ _ (rEqA K)) (pe_callB (call_lenA : CallR _ _ (rLen K)) (by rfl) T.z_len (by decide +kernel) (pa_cons (pv 0) pa_nil)) pe_int (nomark _)) (pe_one (pe_chain op_leA op_leA pe_str (pv 0) pe_str)))))), ?_⟩
    walk_at "T"
    refine hx.isS XF ?_
    cases e1 : oB isSD o with
    | false =>
      rw [(noS e1).2.1] at k
      exact ⟨_, rfl, iteF k⟩
    | true =>
      obtain ⟨z, rfl, rfl, hz, c126⟩ := isS_str hx e1
      refine ⟨_, rfl, iteT ?_⟩
      walk_at "T"
      refine r_len (Nat.le_trans hz (by decide)) ?_
      walk_at "T"
      have k : Q (.bl (decide (z.length = 1) && (cd z).all fun c => decide (97 ≤ c ∧ c ≤ 122))) H := k
      refine r_iteD (fun c => ?_) fun c => ?_
      · have c : z.length = 1 := by omega
        rw [decide_eq_true c, Bool.true_and] at k
        obtain ⟨d, rfl, e⟩ := one_of c
        rw [e] at k
        walk_at "T"
        rw [show decide (((⟨#[d]⟩ : Str).cps.toList) < (Str.ofString "a").cps.toList) = decide (d < 97) from by rw [l_a]; exact decide_eq_decide.mpr one_lt]
        refine r_iteN (fun c1 => ?_) fun c1 => ?_
        · walk_at "T"
          rw [show decide (((Str.ofString "z").cps.toList) < (⟨#[d]⟩ : Str).cps.toList) = decide (122 < d) from by rw [l_z]; exact decide_eq_decide.mpr one_lt]
          rw [show ([d].all fun c => decide (97 ≤ c ∧ c ≤ 122)) = !decide (122 < d) by
            rw [List.all_cons, List.all_nil, Bool.and_true, Bool.eq_iff_iff]; simp; omega] at k
          exact k
        · rw [show ([d].all fun c => decide (97 ≤ c ∧ c ≤ 122)) = false by
            rw [List.all_cons, List.all_nil, Bool.and_true]; exact decide_eq_false (by omega)] at k
          exact k
      · rw [decide_eq_false (show ¬ z.length = 1 by omega), Bool.false_and] at k
        exact k
theorem ok_are_signs (T : Tx K mg) {f : Addr} {fd : FuncData} (F : Fun K "are_signs" "are_signs" s_are_signs f fd) : FnOk P w K mg base CX0 1 f fd P_are_signs spSignsK := by
  refine F.ok sc_are_signs (fun vs H Q E h => ?_) (fun cdv A outer s H vs Q E hr h => ?_)
  · obtain ⟨z, rfl, _⟩ := h
    rfl
  · obtain ⟨z, rfl, hz, k⟩ := h
    refine ⟨_, (pss_one (ps_ret (pe_and (pe_m0 PySem.F.slot_str_isascii PySem.F.type_str_isascii mA_isascii (pv 0)) (pe_one (pe_m0 PySem.F.slot_str_isprintable PySem.F.type_str_isprintable mA_isprintable (pv 0)))))), ?_⟩
    rw [← ascii_sg] at k
    walk_at "T"
    refine r_ite (fun e => ?_) fun e => ?_
    · rw [e] at k
      walk_at "T"
      exact k
    · rw [e] at k
      exact k
theorem ok_is_word (T : Tx K mg) (XF : ExG K C cd0) {f f_are_signs : Addr} {fd fd_are_signs : FuncData} (F : Fun K "is_word" "is_word" s_is_word f fd)
    (D_are_signs : DAt K mg "are_signs" s_are_signs P_are_signs f_are_signs fd_are_signs) : FnOk P w K mg base CX0 2 f fd P_is_word (spWordX C) := by
  have G_are_signs : FnOk P w K mg base CX0 1 f_are_signs fd_are_signs P_are_signs spSignsK := ok_are_signs T D_are_signs.fn
  refine F.ok sc_is_word (fun vs H Q E h => ?_) (fun cdv A outer s H vs Q E hr h => ?_)
  · obtain ⟨b, x, o, rfl, _⟩ := h
    rfl
  · obtain ⟨b, x, o, rfl, hx, k⟩ := h
    refine ⟨_, (pss_one (ps_ret (pe_and (pe_callB (call_isiX XF.toExF : CallR _ _ (rIsiX K C)) (by rfl) T.z_isinstance (by decide +kernel) (pa_cons (pv 0) (pa_cons (pe_bltn (v := .ty "str") (u := .type "str") rfl T.z_str (by decide +kernel) rfl) pa_nil))) (pe_and (pe_cmpR op_leA (pe_callB (call_lenA : CallR _ _ (rLen K)) (by rfl) T.z_len (by decide +kernel) (pa_cons (pv 0) pa_nil)) (pe_gI T.c_MOST_SIGNS rfl) (nomark _)) (pe_one (pe_call G_are_signs (hr.mono (by decide)) rfl D_are_signs.gl D_are_signs.fn.kp D_are_signs.bd .nil pass0 (pa_cons (pv 0) pa_nil))))))), ?_⟩
    walk_at "T"
    refine hx.isS XF ?_
    cases e1 : oB isSD o with
    | false =>
      rw [(noS e1).2.2] at k
      exact ⟨_, rfl, iteF k⟩
    | true =>
      obtain ⟨z, rfl, rfl, hz, c126⟩ := isS_str hx e1
      refine ⟨_, rfl, iteT ?_⟩
      walk_at "T"
      refine r_len (Nat.le_trans hz (by decide)) ?_
      walk_at "T"
      have k : Q (.bl (decide (z.length ≤ 40) && sg (cd z))) H := k
      refine r_iteD (fun c => ?_) fun c => ?_
      · walk_at "T"
        refine ⟨z, rfl, by omega, ?_⟩
        rwa [decide_eq_true (show z.length ≤ 40 by omega), Bool.true_and] at k
      · rwa [decide_eq_false (show ¬ z.length ≤ 40 by omega), Bool.false_and] at k
theorem ok_are_unlike (T : Tx K mg) {f : Addr} {fd : FuncData} (F : Fun K "are_unlike" "are_unlike" s_are_unlike f fd) : FnOk P w K mg base CX0 1 f fd P_are_unlike (spUnlike K) := by
  refine F.ok sc_are_unlike (fun vs H Q E h => ?_) (fun cdv A outer s H vs Q E hr h => ?_)
  · obtain ⟨a, ls, rfl, _⟩ := h
    rfl
  · obtain ⟨a, ls, rfl, ha, hl, k⟩ := h
    refine ⟨_, (pss_one (ps_ret (pe_cmpR ((op_eqA hr.units) : OpR _ _ (rEqA K)) (asLenSet (K := K) rfl (pe_lenSetT rfl rfl T.z_len rfl T.z_set (pv 0))) (pe_callB (call_lenA : CallR _ _ (rLen K)) (by rfl) T.z_len (by decide +kernel) (pa_cons (pv 0) pa_nil)) (nomark _)))), ?_⟩
    have e : ls.map wV = (ls.map S).map V.str := by rw [List.map_map]; rfl
    walk_at "T"
    refine ⟨a, ls.map S, rfl, by rw [← e]; exact ha, by rw [List.length_map]; omega, ?_⟩
    walk_at "T"
    refine r_len2 ha ?_
    walk_at "T"
    have q : (uq (ls.map S)).length = (ls.map S).length ↔ ls.Nodup := (uq_eq _).trans ⟨fun h => (List.pairwise_map.mp h).imp fun n e => n (congrArg S e), fun h => List.pairwise_map.mpr (h.imp fun {a b} n e => n (by rw [← cd_S a, ← cd_S b, e]))⟩
    rw [List.length_map] at q
    rw [List.length_map, show (decide (((uq (ls.map S)).length : Nat) = ((ls.length : Nat) : Int))) = decide ls.Nodup from decide_eq_decide.mpr (by rw [← q]; omega)]
    exact k
end
end K01

namespace K01
open PySem PySem.Spec PyProof.Rows L2 J M
local macro_rules | `(tactic| walk_at "hp") => `(tactic| first | assumption | exact upd_same | (rw [upd_ne (by assumption)]; walk_at "hp") | (rw [upd_ne (Ne.symm (by assumption))]; walk_at "hp"))
local macro_rules | `(tactic| walk_at "s") => `(tactic| first
  | ((with_reducible refine' r_var ?h ?k); (case h => exact rfl))
  | (with_reducible refine r_c ?_)
  | (with_reducible refine r_op ?_)
  | (with_reducible refine r_un ?_)
  | (with_reducible refine r_seq ?_)
  | (with_reducible refine r_next ?_)
  | (with_reducible refine r_sets ?_)
  | (with_reducible refine r_gname ?_)
  | (with_reducible refine r_ifS ?_)
  | (with_reducible refine r_gsub ?_)
  | (with_reducible refine r_test ?_)
  | (with_reducible refine r_tb ?_)
  | (with_reducible refine r_not ?_)
  | (with_reducible refine r_and ?_)
  | (with_reducible refine r_or ?_)
  | (with_reducible refine r_andV ?_)
  | (with_reducible refine r_orV ?_)
  | (with_reducible refine r_notV ?_)
  | (with_reducible refine r_ifE ?_)
  | (with_reducible refine r_chain ?_)
  | (with_reducible refine r_cb ?_)
  | (with_reducible refine r_cons ?_)
  | (with_reducible refine r_nil ?_)
  | (with_reducible refine r_call ?_)
  | (with_reducible refine r_lst ?_)
  | (with_reducible refine r_tup ?_)
  | (with_reducible refine r_slice ?_)
  | (with_reducible refine r_nop ?_)
  | (with_reducible refine r_part ?_)
  | (with_reducible refine r_bm ?_)
  | (with_reducible refine r_m1 ?_)
  | (with_reducible refine r_m0 ?_)
  | (with_reducible refine r_is ?_)
  | (with_reducible refine r_maxD ?_)
  | (with_reducible refine r_orT ?_)
  | (with_reducible refine r_truN ?_)
  | (with_reducible refine r_intI ?_)
  | (with_reducible refine r_intB ?_)
  | (with_reducible refine r_max2 ?_)
  | (with_reducible refine r_min2 ?_)
  | (with_reducible refine r_yes ?_)
  | (with_reducible refine r_bl ?_)
  | (with_reducible refine iteT ?_)
  | (with_reducible refine iteF ?_)
  | (with_reducible refine r_iteNT ?_)
  | (with_reducible refine r_iteNF ?_)
  | (with_reducible refine r_minL ?_)
  | (with_reducible refine r_gcons ?_)
  | (with_reducible refine r_gnil ?_)
  | (with_reducible refine r_par ?_)
  | (with_reducible refine r_par3 ?_)
  | (with_reducible refine r_is2 ?_)
  | (with_reducible refine r_is3 ?_)
  | (with_reducible refine r_dget ?_)
  | (with_reducible refine r_callS ?_)
  | (with_reducible refine r_rz ?_)
  | (with_reducible refine r_rev ?_)
  | (with_reducible refine r_isI ?_)
  | (with_reducible refine r_isStr ?_)
  | (with_reducible refine r_ret ?_)
  | (with_reducible refine r_drop ?_)
  | (with_reducible refine r_rI0 ?_)
  | (with_reducible refine r_addI ?_)
  | ((with_reducible show rI (fun _ j => 0 < j) _ (.int _) (.int _) _ _); refine r_rI (by first | omega | decide) ?_)
  | ((with_reducible show rI CDiv _ (.int _) (.int _) _ _); refine r_rI (by constructor <;> omega) ?_)
  | ((with_reducible show rI CPow _ (.int _) (.int _) _ _); refine r_rI (by refine ⟨by decide, by decide, ?_⟩; omega) ?_)
  | ((with_reducible show rMul (.int _) (.int _) _ _); refine r_mulI (cmulW (by omega) (by omega)) ?_)
  | (with_reducible refine r_cmpI ?_)
  | (with_reducible refine r_cmpS ?_)
  | (with_reducible refine r_eqI ?_)
  | (with_reducible refine r_neI ?_)
  | (with_reducible refine r_eqS ?_)
  | (with_reducible refine r_neS ?_)
  | (with_reducible refine r_inSF ?_)
  | (with_reducible refine r_inST ?_)
  | (with_reducible refine r_isiStr ?_)
  | ((with_reducible show rIx _ (.ref _) (.int _) _ _); refine' r_ixL (SqL.of ?h) ?e ?_; (case h => walk_at "hp"); (case e => rfl))
  | ((with_reducible show rSetL (.ref _) (.int _) _ _ _); refine' r_setL ?h ?e ?_; (case h => walk_at "hp"); (case e => rfl)))
local macro_rules | `(tactic| walk_at "g") => `(tactic| repeat walk_at "s")


local macro_rules | `(tactic| walk_at "x") => `(tactic| first | omega | decide +kernel | (simp only [List.length_cons, List.length_nil]; omega))
local macro_rules | `(tactic| walk_at "T") => `(tactic| repeat (first
  | walk_at "s"
  | ((with_reducible show rIx _ (.ref _) (.int _) _ _); refine' r_ixTu (SqT.of ?h) ?e ?_; (case h => first | assumption | walk_at "hp"); (case e => rfl))
  | (with_reducible refine r_lenSet ?_)
  | (with_reducible refine r_asg2 ?_)
  | (with_reducible refine iteDT (by walk_at "x") ?_)
  | (with_reducible refine iteDF (by walk_at "x") ?_)
  | (with_reducible refine iteNT (by walk_at "x") ?_)
  | (with_reducible refine iteNF (by walk_at "x") ?_)))
section
variable {P : Program} {w : World} {K : PySem.W.Frag} {mg : Str → Option Value} {base : Heap} {C : Addr} {cd0 : ClassData}
theorem not_two {xs : List V} {ds : List PyData} {b : Addr} {H : Hp} (t : DdAll b H xs ds) (n : xs.length ≠ 2) : bndD ds = false := by
  cases t with
  | nil => rfl
  | cons h t =>
    cases t with
    | nil => cases h <;> rfl
    | cons h2 t =>
      cases t with
      | nil => exact absurd rfl n
      | cons h3 t => cases h <;> rfl
theorem ok_are_bounds (T : Tx K mg) (XF : ExG K C cd0) {f f_is_whole : Addr} {fd fd_is_whole : FuncData} (F : Fun K "_are_bounds" "_are_bounds" s_are_bounds f fd)
    (D_is_whole : DAt K mg "is_whole" s_is_whole P_is_whole f_is_whole fd_is_whole) : FnOk P w K mg base CX0 2 f fd P_are_bounds spBoundsX := by
  have G_is_whole : FnOk P w K mg base CX0 1 f_is_whole fd_is_whole P_is_whole (spWholeX C) := ok_is_whole T XF D_is_whole.fn
  refine F.ok sc_are_bounds (fun vs H Q E h => ?_) (fun cdv A outer s H vs Q E hr h => ?_)
  · obtain ⟨b, a, xs, ds, rfl, _⟩ := h
    rfl
  · obtain ⟨b, a, xs, ds, rfl, ha, t, k⟩ := h
    refine ⟨_, (pss_cons (ps_if (PW.pt (pw_or (pt_cmpR ((op_neA hr.units) : OpR _ _ (rNeA K)) (pe_callB (call_lenA : CallR _ _ (rLen K)) (by rfl) T.z_len (by decide +kernel) (pa_cons (pv 0) pa_nil)) pe_int (nomark _)) (pw_or1 (pt_not (pt_val (pe_call G_is_whole (hr.mono (by decide)) rfl D_is_whole.gl D_is_whole.fn.kp D_is_whole.bd .nil pass0 (pa_cons (pe_ix (ix_seq : IxR _ (rIx K)) (pv 0) pe_int (fun _ _ => rfl)) (pa_cons (pe_un L2.un_neg (pe_gI T.c_MOST_NUMBER rfl)) (pa_cons (pe_gI T.c_MOST_NUMBER rfl) pa_nil))))))))) (pss_one (ps_ret pe_bl)) pss_nil) (pss_one (ps_ret (pe_call G_is_whole (hr.mono (by decide)) rfl D_is_whole.gl D_is_whole.fn.kp D_is_whole.bd .nil pass0 (pa_cons (pe_ix (ix_seq : IxR _ (rIx K)) (pv 0) pe_int (fun _ _ => rfl)) (pa_cons (pe_ix (ix_seq : IxR _ (rIx K)) (pv 0) pe_int (fun _ _ => rfl)) (pa_cons (pe_gI T.c_MOST_NUMBER rfl) pa_nil))))))), ?_⟩
    walk_at "T"
    refine r_lenT (SqT.of ha) ?_
    walk_at "T"
    refine r_iteN (fun c => ?_) fun c => ?_
    · rw [not_two t (by omega)] at k
      walk_at "T"
      exact k
    · cases t with
      | nil => exact absurd c (by decide)
      | @cons x xs d ds h t =>
        cases t with
        | nil => exact absurd c (by simp)
        | @cons y ys e es h2 t =>
          cases t with
          | cons h3 t => exact absurd c (by simp only [List.length_cons]; omega)
          | nil =>
            walk_at "T"
            refine ⟨999999, rfl, ?_⟩
            walk_at "T"
            refine ⟨b, x, some d, -999999, 999999, rfl, .dat h, ?_⟩
            cases q : whD (-999999) 999999 d with
            | false =>
              have : bndD [d, e] = false := by
                cases h <;> first | rfl | skip
                show (whD (-999999) 999999 _ && _) = false
                rw [q]; rfl
              rw [this] at k
              rw [show oB (whD (-999999) 999999) (some d) = false from q]
              walk_at "T"
              exact k
            | true =>
              cases h with
              | int i hi =>
                have k : Q (.bl (whD (-999999) 999999 (.int i) && whD i 999999 e)) H := k
                rw [q, Bool.true_and] at k
                rw [show oB (whD (-999999) 999999) (some (.int i)) = true from q]
                walk_at "T"
                exact ⟨b, y, some e, i, 999999, rfl, .dat h2, k⟩
              | _ => exact (Bool.false_ne_true q).elim
theorem all_nm {b : Addr} {H : Hp} : ∀ {xs : List V} {ds : List PyData}, DdAll b H xs ds → ds.all nmD = true → xs = (ds.map txD).map wV
  | _, _, .nil, _ => rfl
  | _, _, .cons h t, q => by
    rw [List.all_cons, Bool.and_eq_true] at q
    cases h with
    | str z hz c =>
      rw [List.map_cons, List.map_cons, ← all_nm t q.2]
      exact congrArg (· :: _) (show V.str z = V.str (S (cd z)) by rw [show S (cd z) = z from S_of z])
    | _ => exact (Bool.false_ne_true q.1).elim
theorem dall_len {b : Addr} {H : Hp} : ∀ {xs : List V} {ds : List PyData}, DdAll b H xs ds → xs.length = ds.length
  | _, _, .nil => rfl
  | _, _, .cons _ t => by rw [List.length_cons, List.length_cons, dall_len t]
theorem dall_get {b : Addr} {H : Hp} : ∀ {xs : List V} {ds : List PyData} {i : Nat} {x : V}, DdAll b H xs ds → xs[i]? = some x → ∃ d, ds[i]? = some d ∧ Dd b H x d
  | _, _, _, _, .nil, e => by cases e
  | _, _, 0, _, .cons h _, e => by cases e; exact ⟨_, rfl, h⟩
  | _, _, i + 1, _, .cons _ t, e => dall_get (i := i) t e
theorem ok_are_choices (T : Tx K mg) (XF : ExG K C cd0) {f f_is_name f_are_unlike : Addr} {fd fd_is_name fd_are_unlike : FuncData} (F : Fun K "_are_choices" "_are_choices" s_are_choices f fd)
    (D_is_name : DAt K mg "is_name" s_is_name P_is_name f_is_name fd_is_name)
    (D_are_unlike : DAt K mg "are_unlike" s_are_unlike P_are_unlike f_are_unlike fd_are_unlike) : FnOk P w K mg base CX0 2 f fd P_are_choices spChoicesX := by
  have G_is_name : FnOk P w K mg base CX0 1 f_is_name fd_is_name P_is_name (spNameX C) := ok_is_name T XF D_is_name.fn
  have G_are_unlike : FnOk P w K mg base CX0 1 f_are_unlike fd_are_unlike P_are_unlike (spUnlike K) := ok_are_unlike T D_are_unlike.fn
  refine F.ok sc_are_choices (fun vs H Q E h => ?_) (fun cdv A outer s H vs Q E hr h => ?_)
  · obtain ⟨b, x, d, rfl, _⟩ := h
    rfl
  · obtain ⟨b, x, d, rfl, hx, k⟩ := h
    refine ⟨_, (pss_cons (ps_if (PW.pt (pw_or (pt_not (pt_val (pe_callB (call_isiX XF.toExF : CallR _ _ (rIsiX K C)) (by rfl) T.z_isinstance (by decide +kernel) (pa_cons (pv 0) (pa_cons (pe_bltn (v := .ty "tuple") (u := .type "tuple") rfl T.z_tuple (by decide +kernel) rfl) pa_nil))))) (pw_or1 (pt_not (pt_chain op_leA op_leA pe_int (pe_callB (call_lenA : CallR _ _ (rLen K)) (by rfl) T.z_len (by decide +kernel) (pa_cons (pv 0) pa_nil)) (pe_gI T.c_MOST_NAMES rfl)))))) (pss_one (ps_ret pe_bl)) pss_nil) (pss_one (ps_ret (pe_and (pe_callB ((L2.cr_all rfl) : CallR _ _ (rAll K)) (by rfl) T.z_all (by decide +kernel) (pa_cons (pe_lc (own := [("name", 1)]) (g := (gName 1)) rfl sc_are_choices.nd (asSeq (K := K) rfl (pi_seq (pv 0))) (blkOk_by (N := N_are_choices) (sc := defScope s_are_choices) (by decide +kernel)) (fun _ _ _ _ _ => pg_name (i := 1) sc_are_choices.nd rfl (Or.inl rfl)) (fun _ _ _ _ _ => pts_nil) (fun _ _ _ _ _ => (pe_call G_is_name (hr.mono (by decide)) rfl D_is_name.gl D_is_name.fn.kp D_is_name.bd .nil pass0 (pa_cons (pv 1) pa_nil)))) pa_nil)) (pe_one (pe_call G_are_unlike (hr.mono (by decide)) rfl D_are_unlike.gl D_are_unlike.fn.kp D_are_unlike.bd .nil pass0 (pa_cons (pv 0) pa_nil))))))), ?_⟩
    walk_at "T"
    refine hx.isT ?_
    cases hx with
    | @tup a xs ds ha t =>
      have le := dall_len t
      have k : ∀ H', Same H H' → Q (.bl (decide (1 ≤ ds.length) && (decide (ds.length ≤ 8) && (ds.all nmD && decide (ds.map txD).Nodup)))) H' := k
      rw [show isTD (PyData.tuple ds) = true from rfl]
      walk_at "T"
      refine r_lenT (SqT.of ha) ?_
      walk_at "T"
      refine r_iteD (fun c1 => ?_) fun c1 => ?_
      · walk_at "T"
        rw [decide_eq_true (show 1 ≤ ds.length by omega), Bool.true_and] at k
        refine r_iteN (fun c2 => ?_) fun c2 => ?_
        · walk_at "T"
          rw [decide_eq_false (show ¬ ds.length ≤ 8 by omega), Bool.false_and] at k
          exact k H (Same.refl H)
        · walk_at "T"
          have l8 : ds.length ≤ 8 := by omega
          rw [decide_eq_true l8, Bool.true_and] at k
          refine r_lcV rfl (.inr (SqT.of ha)) fun J SI D hD => ?_
          refine comp_same SI hD (ds.map fun d => V.bl (nmD d)) (by rw [List.length_map]; exact le.symm) (by rw [le]; exact Nat.lt_of_le_of_lt l8 (by decide)) (fun i x H' N hx sm hN => ?_) fun H' sm hD' => ?_
          · obtain ⟨e, he, hd⟩ := dall_get t hx
            walk_at "T"
            refine ⟨rfl, ?_⟩
            walk_at "T"
            refine ⟨b, x, some e, rfl, (.dat (hd.same sm)), ?_⟩
            exact hN _ _ (by rw [List.getElem?_map, he]; rfl) (Same.refl _)
          · walk_at "T"
            refine ⟨D, ds.map nmD, rfl, SqL.of (by rw [List.map_map]; exact hD'), ?_⟩
            rw [show (ds.map nmD).all id = ds.all nmD by rw [List.all_map]; rfl]
            cases q : ds.all nmD with
            | false =>
              rw [q, Bool.false_and] at k
              walk_at "T"
              exact k H' sm
            | true =>
              rw [q, Bool.true_and] at k
              walk_at "T"
              refine ⟨a, ds.map txD, rfl, .inr (SqT.of (by rw [← all_nm t q]; exact sm _ _ ha)), by rw [List.length_map]; omega, ?_⟩
              exact k H' sm
      · walk_at "T"
        rw [decide_eq_false (show ¬ 1 ≤ ds.length by omega), Bool.false_and] at k
        exact k H (Same.refl H)
    | non => rw [show isTD PyData.none = false from rfl]; walk_at "T"; exact k H (Same.refl H)
    | bl v => rw [show isTD (PyData.bool v) = false from rfl]; walk_at "T"; exact k H (Same.refl H)
    | int i h => rw [show isTD (PyData.int i) = false from rfl]; walk_at "T"; exact k H (Same.refl H)
    | str z h c => rw [show isTD (PyData.str z) = false from rfl]; walk_at "T"; exact k H (Same.refl H)
    | @lst a xs ds h n t => rw [show isTD (PyData.list ds) = false from rfl]; walk_at "T"; exact k H (Same.refl H)
    | dct h => rw [show isTD (PyData.dict []) = false from rfl]; walk_at "T"; exact k H (Same.refl H)
end
end K01

namespace K01
open PySem PySem.Spec PyProof.Rows L2 J M
local macro_rules | `(tactic| walk_at "hp") => `(tactic| first | assumption | exact upd_same | (rw [upd_ne (by assumption)]; walk_at "hp") | (rw [upd_ne (Ne.symm (by assumption))]; walk_at "hp"))
local macro_rules | `(tactic| walk_at "s") => `(tactic| first
  | ((with_reducible refine' r_var ?h ?k); (case h => exact rfl))
  | (with_reducible refine r_c ?_)
  | (with_reducible refine r_op ?_)
  | (with_reducible refine r_un ?_)
  | (with_reducible refine r_seq ?_)
  | (with_reducible refine r_next ?_)
  | (with_reducible refine r_sets ?_)
  | (with_reducible refine r_gname ?_)
  | (with_reducible refine r_ifS ?_)
  | (with_reducible refine r_gsub ?_)
  | (with_reducible refine r_test ?_)
  | (with_reducible refine r_tb ?_)
  | (with_reducible refine r_not ?_)
  | (with_reducible refine r_and ?_)
  | (with_reducible refine r_or ?_)
  | (with_reducible refine r_andV ?_)
  | (with_reducible refine r_orV ?_)
  | (with_reducible refine r_notV ?_)
  | (with_reducible refine r_ifE ?_)
  | (with_reducible refine r_chain ?_)
  | (with_reducible refine r_cb ?_)
  | (with_reducible refine r_cons ?_)
  | (with_reducible refine r_nil ?_)
  | (with_reducible refine r_call ?_)
  | (with_reducible refine r_lst ?_)
  | (with_reducible refine r_tup ?_)
  | (with_reducible refine r_slice ?_)
  | (with_reducible refine r_nop ?_)
  | (with_reducible refine r_part ?_)
  | (with_reducible refine r_bm ?_)
  | (with_reducible refine r_m1 ?_)
  | (with_reducible refine r_m0 ?_)
  | (with_reducible refine r_is ?_)
  | (with_reducible refine r_maxD ?_)
  | (with_reducible refine r_orT ?_)
  | (with_reducible refine r_truN ?_)
  | (with_reducible refine r_intI ?_)
  | (with_reducible refine r_intB ?_)
  | (with_reducible refine r_max2 ?_)
  | (with_reducible refine r_min2 ?_)
  | (with_reducible refine r_yes ?_)
  | (with_reducible refine r_bl ?_)
  | (with_reducible refine iteT ?_)
  | (with_reducible refine iteF ?_)
  | (with_reducible refine r_iteNT ?_)
  | (with_reducible refine r_iteNF ?_)
  | (with_reducible refine r_minL ?_)
  | (with_reducible refine r_gcons ?_)
  | (with_reducible refine r_gnil ?_)
  | (with_reducible refine r_par ?_)
  | (with_reducible refine r_par3 ?_)
  | (with_reducible refine r_is2 ?_)
  | (with_reducible refine r_is3 ?_)
  | (with_reducible refine r_dget ?_)
  | (with_reducible refine r_callS ?_)
  | (with_reducible refine r_rz ?_)
  | (with_reducible refine r_rev ?_)
  | (with_reducible refine r_isI ?_)
  | (with_reducible refine r_isStr ?_)
  | (with_reducible refine r_ret ?_)
  | (with_reducible refine r_drop ?_)
  | (with_reducible refine r_rI0 ?_)
  | (with_reducible refine r_addI ?_)
  | ((with_reducible show rI (fun _ j => 0 < j) _ (.int _) (.int _) _ _); refine r_rI (by first | omega | decide) ?_)
  | ((with_reducible show rI CDiv _ (.int _) (.int _) _ _); refine r_rI (by constructor <;> omega) ?_)
  | ((with_reducible show rI CPow _ (.int _) (.int _) _ _); refine r_rI (by refine ⟨by decide, by decide, ?_⟩; omega) ?_)
  | ((with_reducible show rMul (.int _) (.int _) _ _); refine r_mulI (cmulW (by omega) (by omega)) ?_)
  | (with_reducible refine r_cmpI ?_)
  | (with_reducible refine r_cmpS ?_)
  | (with_reducible refine r_eqI ?_)
  | (with_reducible refine r_neI ?_)
  | (with_reducible refine r_eqS ?_)
  | (with_reducible refine r_neS ?_)
  | (with_reducible refine r_inSF ?_)
  | (with_reducible refine r_inST ?_)
  | (with_reducible refine r_isiStr ?_)
  | ((with_reducible show rIx _ (.ref _) (.int _) _ _); refine' r_ixL (SqL.of ?h) ?e ?_; (case h => walk_at "hp"); (case e => rfl))
  | ((with_reducible show rSetL (.ref _) (.int _) _ _ _); refine' r_setL ?h ?e ?_; (case h => walk_at "hp"); (case e => rfl)))
local macro_rules | `(tactic| walk_at "g") => `(tactic| repeat walk_at "s")


local macro_rules | `(tactic| walk_at "x") => `(tactic| first | omega | decide +kernel | (simp only [List.length_cons, List.length_nil]; omega))
local macro_rules | `(tactic| walk_at "T") => `(tactic| repeat (first
  | walk_at "s"
  | ((with_reducible show rIx _ (.ref _) (.int _) _ _); refine' r_ixTu (SqT.of ?h) ?e ?_; (case h => first | assumption | walk_at "hp"); (case e => rfl))
  | (with_reducible refine r_lenSet ?_)
  | (with_reducible refine r_asg2 ?_)
  | (with_reducible refine iteDT (by walk_at "x") ?_)
  | (with_reducible refine iteDF (by walk_at "x") ?_)
  | (with_reducible refine iteNT (by walk_at "x") ?_)
  | (with_reducible refine iteNF (by walk_at "x") ?_)))
section
variable {P : Program} {w : World} {K : PySem.W.Frag} {mg : Str → Option Value} {base : Heap} {C : Addr} {cd0 : ClassData}
theorem cutV_drop (xs : List V) (k : Nat) : cutV xs (some (k : Int)) none = xs.drop k := by
  unfold cutV
  rw [HT.sIx_nat, HT.sIx_none]
  by_cases h : k ≤ xs.length
  · rw [Nat.min_eq_left h, List.take_of_length_le (by rw [List.length_drop]; omega)]
  · rw [Nat.min_eq_right (by omega), Nat.sub_self, List.take_zero, List.drop_of_length_le (by omega)]
theorem r_tail {H : Hp} {Q : VK} {a : Addr} {xs : List V} {k : Nat} (h : H a = some (.tup xs)) (k0 : 1 ≤ k) (n : 1 ≤ xs.length) (q : ∀ p, H p = none → Q (.ref p) (upd H p (.tup (xs.drop k)))) : rSlT K (.ref a) (some (k : Int)) none H Q :=
  r_slT (SqT.of h) (fun z => by have := z.1; rw [HT.sIx_nat] at this; omega) fun p hp => by rw [cutV_drop]; exact q p hp
theorem r_front {H : Hp} {Q : VK} {a : Addr} {xs : List V} {k : Nat} (h : H a = some (.tup xs)) (n : k < xs.length) (q : ∀ p, H p = none → Q (.ref p) (upd H p (.tup (xs.take k)))) : rSlT K (.ref a) none (some (k : Int)) H Q :=
  r_slT (SqT.of h) (fun z => by have := z.2; rw [HT.sIx_nat] at this; omega) fun p hp => by rw [cutV_take]; exact q p hp
theorem at0 {α : Type} (x : α) (xs : List α) : atI (x :: xs) 0 = some x := atI_nat (j := 0) rfl
theorem strIs_t {d : PyData} {n : Str} (h : strIs d n = true) : d = .str n := by
  cases d with
  | str z => exact congrArg _ (of_decide_eq_true h)
  | _ => exact (Bool.false_ne_true h).elim
theorem strIs_ne {d : PyData} {n m : Str} (h : strIs d n = true) (ne : n ≠ m) : strIs d m = false := by
  rw [strIs_t h]; exact decide_eq_false ne
theorem num_nam : Str.ofString "number" ≠ Str.ofString "name" := by decide +kernel
theorem r_head {H : Hp} {Q : VK} {b : Addr} {x : V} {d : PyData} {n : Str} (h : Dd b H x d) (q : Q (.bl (strIs d n)) H) : rEqK K x (.str n) H Q := .inr (.inl ⟨b, d, n, h, rfl, q⟩)
theorem kd_more {d e g : PyData} {r : List PyData} : kdD (.tuple (d :: e :: g :: r)) = (strIs d "number" && bndD (e :: g :: r)) := rfl
theorem kd_two {d e : PyData} : kdD (.tuple [d, e]) = (if strIs d "own" = true then nmD e else if strIs d "text" = true then whD 1 20 e else strIs d "one" && choD e) := rfl
theorem ok_is_kind (T : Tx K mg) (XF : ExG K C cd0) {f f_is_name f_are_unlike f_is_whole f_are_bounds f_are_choices : Addr} {fd fd_is_name fd_are_unlike fd_is_whole fd_are_bounds fd_are_choices : FuncData} (F : Fun K "is_kind" "is_kind" s_is_kind f fd)
    (D_is_name : DAt K mg "is_name" s_is_name P_is_name f_is_name fd_is_name)
    (D_are_unlike : DAt K mg "are_unlike" s_are_unlike P_are_unlike f_are_unlike fd_are_unlike)
    (D_is_whole : DAt K mg "is_whole" s_is_whole P_is_whole f_is_whole fd_is_whole)
    (D_are_bounds : DAt K mg "_are_bounds" s_are_bounds P_are_bounds f_are_bounds fd_are_bounds)
    (D_are_choices : DAt K mg "_are_choices" s_are_choices P_are_choices f_are_choices fd_are_choices) : FnOk P w K mg base CX0 3 f fd P_is_kind (spKindX C) := by
  have G_is_name : FnOk P w K mg base CX0 1 f_is_name fd_is_name P_is_name (spNameX C) := ok_is_name T XF D_is_name.fn
  have G_is_whole : FnOk P w K mg base CX0 1 f_is_whole fd_is_whole P_is_whole (spWholeX C) := ok_is_whole T XF D_is_whole.fn
  have G_are_bounds : FnOk P w K mg base CX0 2 f_are_bounds fd_are_bounds P_are_bounds spBoundsX := ok_are_bounds T XF D_are_bounds.fn D_is_whole
  have G_are_choices : FnOk P w K mg base CX0 2 f_are_choices fd_are_choices P_are_choices spChoicesX := ok_are_choices T XF D_are_choices.fn D_is_name D_are_unlike
  refine F.ok sc_is_kind (fun vs H Q E h => ?_) (fun cdv A outer s H vs Q E hr h => ?_)
  · obtain ⟨b, x, o, rfl, _⟩ := h
    rfl
  · obtain ⟨b, x, o, rfl, hx, k⟩ := h
    refine ⟨_, (pss_cons (ps_if (PW.pt (pw_or (pt_not (pt_val (pe_callB (call_isiX XF.toExF : CallR _ _ (rIsiX K C)) (by rfl) T.z_isinstance (by decide +kernel) (pa_cons (pv 0) (pa_cons (pe_bltn (v := .ty "tuple") (u := .type "tuple") rfl T.z_tuple (by decide +kernel) rfl) pa_nil))))) (pw_or1 (pt_cmpR ((op_eqA hr.units) : OpR _ _ (rEqA K)) (pe_callB (call_lenA : CallR _ _ (rLen K)) (by rfl) T.z_len (by decide +kernel) (pa_cons (pv 0) pa_nil)) pe_int (nomark _))))) (pss_one (ps_ret pe_bl)) pss_nil) (pss_cons (ps_par (i := 1) (j := 2) rfl sc_is_kind.nd rfl rfl (by decide) rfl rfl (pa_cons (pe_ix (ix_seq : IxR _ (rIx K)) (pv 0) pe_int (fun _ _ => rfl)) (pa_cons (pe_callB (call_lenA : CallR _ _ (rLen K)) (by rfl) T.z_len (by decide +kernel) (pa_cons (pv 0) pa_nil)) pa_nil)) rfl) (pss_cons (ps_if (pt_cmpR ((op_eqA hr.units) : OpR _ _ (rEqA K)) (pv 2) pe_int (nomark _)) (pss_cons (ps_if (pt_cmpR (op_eqK hr.units : OpR _ _ (rEqK K)) (pv 1) pe_str (nomark _)) (pss_one (ps_ret (pe_call G_is_name (hr.mono (by decide)) rfl D_is_name.gl D_is_name.fn.kp D_is_name.bd .nil pass0 (pa_cons (pe_ix (ix_seq : IxR _ (rIx K)) (pv 0) pe_int (fun _ _ => rfl)) pa_nil)))) pss_nil) (pss_cons (ps_if (pt_cmpR (op_eqK hr.units : OpR _ _ (rEqK K)) (pv 1) pe_str (nomark _)) (pss_one (ps_ret (pe_call G_is_whole (hr.mono (by decide)) rfl D_is_whole.gl D_is_whole.fn.kp D_is_whole.bd .nil pass0 (pa_cons (pe_ix (ix_seq : IxR _ (rIx K)) (pv 0) pe_int (fun _ _ => rfl)) (pa_cons pe_int (pa_cons (pe_gI T.c_MOST_TEXT rfl) pa_nil)))))) pss_nil) (pss_one (ps_ret (pe_and (pe_cmpR (op_eqK hr.units : OpR _ _ (rEqK K)) (pv 1) pe_str (nomark _)) (pe_one (pe_call G_are_choices (hr.mono (by decide)) rfl D_are_choices.gl D_are_choices.fn.kp D_are_choices.bd .nil pass0 (pa_cons (pe_ix (ix_seq : IxR _ (rIx K)) (pv 0) pe_int (fun _ _ => rfl)) pa_nil)))))))) pss_nil) (pss_cons (ps_if (pt_cmpR (op_eqK hr.units : OpR _ _ (rEqK K)) (pv 1) pe_str (nomark _)) (pss_one (ps_ret (pe_call G_are_bounds (hr.mono (by decide)) rfl D_are_bounds.gl D_are_bounds.fn.kp D_are_bounds.bd .nil pass0 (pa_cons (pe_slice (sl_tup : SlR _ (rSlT K)) (pv 0) (po_some pe_int) po_none) pa_nil)))) pss_nil) (pss_one (ps_ret (pe_and (pe_cmpR (op_eqK hr.units : OpR _ _ (rEqK K)) (pv 1) pe_str (nomark _)) (pe_one (pe_cmpR ((op_eqA hr.units) : OpR _ _ (rEqA K)) (pv 2) pe_int (nomark _)))))))))), ?_⟩
    walk_at "T"
    refine hx.isT XF ?_
    cases e1 : oB isTD o with
    | false =>
      rw [(noT e1).1] at k
      walk_at "T"
      exact k H (Same.refl H)
    | true =>
      obtain ⟨a, xs, ds, rfl, rfl, ha, t⟩ := isT_tup hx e1
      walk_at "T"
      refine r_lenT (SqT.of ha) ?_
      walk_at "T"
      cases t with
      | nil =>
        walk_at "T"
        exact k H (Same.refl H)
      | @cons x xs d ds h t =>
        refine r_iteD (fun c => absurd c (by rw [List.length_cons]; omega)) fun _ => ?_
        walk_at "T"
        refine r_ixTu (SqT.of ha) (at0 _ _) ?_
        walk_at "T"
        refine r_lenT (SqT.of ha) ?_
        walk_at "T"
        have rest : xs.length ≠ 1 → ∀ H', Same H H' → Q (.bl (strIs d "number" && bndD ds || strIs d "name" && decide (xs = []))) H' := fun n1 H' s => by
          have k := k H' s
          cases t with
          | nil =>
            rw [show bndD [] = false from rfl, Bool.and_false, Bool.false_or, decide_eq_true rfl, Bool.and_true]
            exact k
          | @cons y ys e es h2 t =>
            cases t with
            | nil => exact absurd rfl n1
            | @cons z zs g gs h3 t =>
              rw [show oB kdD (some (PyData.tuple (d :: e :: g :: gs))) = _ from kd_more] at k
              rw [decide_eq_false (by simp), Bool.and_false, Bool.or_false]
              exact k
        refine r_iteD (fun c => ?_) fun c => ?_
        · cases t with
          | nil => exact absurd c (by simp)
          | @cons y ys e es h2 t =>
            cases t with
            | cons h3 t => exact absurd c (by simp only [List.length_cons]; omega)
            | nil =>
              rw [show oB kdD (some (PyData.tuple [d, e])) = _ from kd_two] at k
              walk_at "T"
              refine r_head h ?_
              walk_at "T"
              refine r_ite (fun q => ?_) fun q => ?_
              · rw [if_pos q] at k
                walk_at "T"
                exact ⟨b, y, some e, rfl, .dat h2, k H (Same.refl H)⟩
              · rw [if_neg (by rw [q]; exact Bool.false_ne_true)] at k
                walk_at "T"
                refine r_head h ?_
                walk_at "T"
                refine r_ite (fun q2 => ?_) fun q2 => ?_
                · rw [if_pos q2] at k
                  walk_at "T"
                  exact ⟨b, y, some e, 1, 20, rfl, .dat h2, k H (Same.refl H)⟩
                · rw [if_neg (by rw [q2]; exact Bool.false_ne_true)] at k
                  walk_at "T"
                  refine r_head h ?_
                  walk_at "T"
                  refine r_ite (fun q3 => ?_) fun q3 => ?_
                  · rw [q3, Bool.true_and] at k
                    walk_at "T"
                    exact ⟨b, y, e, rfl, h2, k⟩
                  · rw [q3, Bool.false_and] at k
                    exact k H (Same.refl H)
        · have rest := rest (by rw [List.length_cons] at c; omega)
          walk_at "T"
          refine r_head h ?_
          walk_at "T"
          refine r_ite (fun q => ?_) fun q => ?_
          · rw [q, strIs_ne q num_nam, Bool.true_and, Bool.false_and, Bool.or_false] at rest
            walk_at "T"
            refine r_tail (k := 1) ha (Nat.le_refl _) (by rw [List.length_cons]; omega) fun p hp => ?_
            walk_at "T"
            exact ⟨b, p, xs, ds, rfl, upd_same, t.same ((Same.refl H).at hp _), rest _ ((Same.refl H).at hp _)⟩
          · rw [q, Bool.false_and, Bool.false_or] at rest
            walk_at "T"
            refine r_head h ?_
            walk_at "T"
            refine r_ite (fun q3 => ?_) fun q3 => ?_
            · rw [q3, Bool.true_and] at rest
              walk_at "T"
              rw [show decide (((x :: xs).length : Int) = 1) = decide (xs = []) from decide_eq_decide.mpr ⟨fun z => List.length_eq_zero_iff.mp (by rw [List.length_cons] at z; omega), fun z => by rw [z]; rfl⟩]
              exact rest H (Same.refl H)
            · rw [q3, Bool.false_and] at rest
              exact rest H (Same.refl H)
end
end K01

namespace K01
open PySem PySem.Spec PyProof.Rows L2 J M
local macro_rules | `(tactic| walk_at "hp") => `(tactic| first | assumption | exact upd_same | (rw [upd_ne (by assumption)]; walk_at "hp") | (rw [upd_ne (Ne.symm (by assumption))]; walk_at "hp"))
local macro_rules | `(tactic| walk_at "s") => `(tactic| first
  | ((with_reducible refine' r_var ?h ?k); (case h => exact rfl))
  | (with_reducible refine r_c ?_)
  | (with_reducible refine r_op ?_)
  | (with_reducible refine r_un ?_)
  | (with_reducible refine r_seq ?_)
  | (with_reducible refine r_next ?_)
  | (with_reducible refine r_sets ?_)
  | (with_reducible refine r_gname ?_)
  | (with_reducible refine r_ifS ?_)
  | (with_reducible refine r_gsub ?_)
  | (with_reducible refine r_test ?_)
  | (with_reducible refine r_tb ?_)
  | (with_reducible refine r_not ?_)
  | (with_reducible refine r_and ?_)
  | (with_reducible refine r_or ?_)
  | (with_reducible refine r_andV ?_)
  | (with_reducible refine r_orV ?_)
  | (with_reducible refine r_notV ?_)
  | (with_reducible refine r_ifE ?_)
  | (with_reducible refine r_chain ?_)
  | (with_reducible refine r_cb ?_)
  | (with_reducible refine r_cons ?_)
  | (with_reducible refine r_nil ?_)
  | (with_reducible refine r_call ?_)
  | (with_reducible refine r_lst ?_)
  | (with_reducible refine r_tup ?_)
  | (with_reducible refine r_slice ?_)
  | (with_reducible refine r_nop ?_)
  | (with_reducible refine r_part ?_)
  | (with_reducible refine r_bm ?_)
  | (with_reducible refine r_m1 ?_)
  | (with_reducible refine r_m0 ?_)
  | (with_reducible refine r_is ?_)
  | (with_reducible refine r_maxD ?_)
  | (with_reducible refine r_orT ?_)
  | (with_reducible refine r_truN ?_)
  | (with_reducible refine r_intI ?_)
  | (with_reducible refine r_intB ?_)
  | (with_reducible refine r_max2 ?_)
  | (with_reducible refine r_min2 ?_)
  | (with_reducible refine r_yes ?_)
  | (with_reducible refine r_bl ?_)
  | (with_reducible refine iteT ?_)
  | (with_reducible refine iteF ?_)
  | (with_reducible refine r_iteNT ?_)
  | (with_reducible refine r_iteNF ?_)
  | (with_reducible refine r_minL ?_)
  | (with_reducible refine r_gcons ?_)
  | (with_reducible refine r_gnil ?_)
  | (with_reducible refine r_par ?_)
  | (with_reducible refine r_par3 ?_)
  | (with_reducible refine r_is2 ?_)
  | (with_reducible refine r_is3 ?_)
  | (with_reducible refine r_dget ?_)
  | (with_reducible refine r_callS ?_)
  | (with_reducible refine r_rz ?_)
  | (with_reducible refine r_rev ?_)
  | (with_reducible refine r_isI ?_)
  | (with_reducible refine r_isStr ?_)
  | (with_reducible refine r_ret ?_)
  | (with_reducible refine r_drop ?_)
  | (with_reducible refine r_rI0 ?_)
  | (with_reducible refine r_addI ?_)
  | ((with_reducible show rI (fun _ j => 0 < j) _ (.int _) (.int _) _ _); refine r_rI (by first | omega | decide) ?_)
  | ((with_reducible show rI CDiv _ (.int _) (.int _) _ _); refine r_rI (by constructor <;> omega) ?_)
  | ((with_reducible show rI CPow _ (.int _) (.int _) _ _); refine r_rI (by refine ⟨by decide, by decide, ?_⟩; omega) ?_)
  | ((with_reducible show rMul (.int _) (.int _) _ _); refine r_mulI (cmulW (by omega) (by omega)) ?_)
  | (with_reducible refine r_cmpI ?_)
  | (with_reducible refine r_cmpS ?_)
  | (with_reducible refine r_eqI ?_)
  | (with_reducible refine r_neI ?_)
  | (with_reducible refine r_eqS ?_)
  | (with_reducible refine r_neS ?_)
  | (with_reducible refine r_inSF ?_)
  | (with_reducible refine r_inST ?_)
  | (with_reducible refine r_isiStr ?_)
  | ((with_reducible show rIx _ (.ref _) (.int _) _ _); refine' r_ixL (SqL.of ?h) ?e ?_; (case h => walk_at "hp"); (case e => rfl))
  | ((with_reducible show rSetL (.ref _) (.int _) _ _ _); refine' r_setL ?h ?e ?_; (case h => walk_at "hp"); (case e => rfl)))
local macro_rules | `(tactic| walk_at "g") => `(tactic| repeat walk_at "s")


local macro_rules | `(tactic| walk_at "x") => `(tactic| first | omega | decide +kernel | (simp only [List.length_cons, List.length_nil]; omega))
local macro_rules | `(tactic| walk_at "T") => `(tactic| repeat (first
  | walk_at "s"
  | ((with_reducible show rIx _ (.ref _) (.int _) _ _); refine' r_ixTu (SqT.of ?h) ?e ?_; (case h => first | assumption | walk_at "hp"); (case e => rfl))
  | (with_reducible refine r_lenSet ?_)
  | (with_reducible refine r_asg2 ?_)
  | (with_reducible refine iteDT (by walk_at "x") ?_)
  | (with_reducible refine iteDF (by walk_at "x") ?_)
  | (with_reducible refine iteNT (by walk_at "x") ?_)
  | (with_reducible refine iteNF (by walk_at "x") ?_)))
section
variable {P : Program} {w : World} {K : PySem.W.Frag} {mg : Str → Option Value} {base : Heap} {C : Addr} {cd0 : ClassData}
theorem ok_l_whole (T : Tx K mg) (XF : ExG K C cd0) {f : Addr} {fd : FuncData} (F : Fun K "_law_is_whole" "_law_is_whole" s_law_is_whole f fd) : FnOk P w K mg base CX0 1 f fd P_law_is_whole (spWholeX C) := by
  refine F.ok sc_law_is_whole (fun vs H Q E h => ?_) (fun cdv A outer s H vs Q E hr h => ?_)
  · obtain ⟨b, x, o, lo, hi, rfl, _⟩ := h
    rfl
  · obtain ⟨b, x, o, lo, hi, rfl, hx, k⟩ := h
    refine ⟨_, (pss_one (ps_ret (pe_and (pe_callB (call_isiX XF.toExF : CallR _ _ (rIsiX K C)) (by rfl) T.z_isinstance (by decide +kernel) (pa_cons (pv 0) (pa_cons (pe_bltn (v := .ty "int") (u := .type "int") rfl T.z_int (by decide +kernel) rfl) pa_nil))) (pe_and (pe_not (pe_callB (call_isiX XF.toExF : CallR _ _ (rIsiX K C)) (by rfl) T.z_isinstance (by decide +kernel) (pa_cons (pv 0) (pa_cons (pe_bltn (v := .ty "bool") (u := .type "bool") rfl T.z_bool (by decide +kernel) rfl) pa_nil)))) (pe_one (pe_chain op_leA op_leA (pv 1) (pv 0) (pv 2))))))), ?_⟩
    walk_at "T"
    refine hx.isI XF ?_
    cases e1 : oB isID o with
    | false =>
      rw [noI (.inl e1)] at k
      exact ⟨_, rfl, iteF k⟩
    | true =>
      refine ⟨_, rfl, iteT ?_⟩
      walk_at "T"
      refine hx.isB XF ?_
      cases e2 : oB isBD o with
      | true =>
        rw [noI (.inr e2)] at k
        exact ⟨_, rfl, ⟨_, rfl, iteF k⟩⟩
      | false =>
        obtain ⟨i, rfl, rfl, _⟩ := isI_int hx e1 e2
        refine ⟨_, rfl, ?_⟩
        refine ⟨_, rfl, iteT ?_⟩
        walk_at "T"
        refine r_iteD (fun c => ?_) fun c => ?_
        · have : oB (whD lo hi) (some (.int i)) = decide (i ≤ hi) := by show (decide _ && decide _) = _; rw [decide_eq_true c, Bool.true_and]
          rw [this] at k
          walk_at "T"
          exact k
        · have : oB (whD lo hi) (some (.int i)) = false := by show (decide _ && decide _) = _; rw [decide_eq_false c, Bool.false_and]
          rw [this] at k
          exact k
theorem ok_l_is_name (T : Tx K mg) (XF : ExG K C cd0) {f : Addr} {fd : FuncData} (F : Fun K "_law_is_name" "_law_is_name" s_law_is_name f fd) : FnOk P w K mg base CX0 1 f fd P_law_is_name (spNameXL C) := by
  refine F.ok sc_law_is_name (fun vs H Q E h => ?_) (fun cdv A outer s H vs Q E hr h => ?_)
  · obtain ⟨b, x, o, rfl, _⟩ := h
    rfl
  · obtain ⟨b, x, o, rfl, hx, k⟩ := h
    refine ⟨_, (pss_cons (ps_if (PW.pt (pw_or (pt_not (pt_val (pe_callB (call_isiX XF.toExF : CallR _ _ (rIsiX K C)) (by rfl) T.z_isinstance (by decide +kernel) (pa_cons (pv 0) (pa_cons (pe_bltn (v := .ty "str") (u := .type "str") rfl T.z_str (by decide +kernel) rfl) pa_nil))))) (pw_or1 (pt_not (pt_chain op_ltA op_ltA pe_int (pe_callB (call_lenA : CallR _ _ (rLen K)) (by rfl) T.z_len (by decide +kernel) (pa_cons (pv 0) pa_nil)) pe_int))))) (pss_one (ps_ret pe_bl)) pss_nil) (pss_one (ps_ret (pe_cmpR ((op_eqA hr.units) : OpR _ _ (rEqA K)) (pe_lc (own := [("_law_sign", 1)]) (g := (gName 1)) rfl sc_law_is_name.nd (pi_str (pv 0)) (blkOk_by (N := N_law_is_name) (sc := defScope s_law_is_name) (by decide +kernel)) (fun _ _ _ _ _ => pg_name (i := 1) sc_law_is_name.nd rfl (Or.inl rfl)) (fun _ _ _ _ _ => (pts_one (pt_not (pt_chain op_leA op_leA pe_str (pv 1) pe_str)))) (fun _ _ _ _ _ => (pv 1))) (pe_lst pa_nil) (nomark _))))), ?_⟩
    walk_at "T"
    refine hx.isS XF ?_
    cases e1 : oB isSD o with
    | false =>
      rw [(noS e1).1] at k
      walk_at "T"
      exact k H (Same.refl H)
    | true =>
      obtain ⟨z, rfl, rfl, hz, c126⟩ := isS_str hx e1
      have k : ∀ H', Same H H' → Q (.bl (isNm (cd z))) H' := k
      have e := len_cd z
      have nm : isNm (cd z) = true ↔ (0 < z.length ∧ z.length < 9 ∧ ∀ c ∈ cd z, 97 ≤ c ∧ c ≤ 122) := by
        rw [isNm_iff, e]
        exact ⟨fun q => ⟨by have := q.1; omega, by have := q.2.1; omega, q.2.2⟩, fun q => ⟨by omega, by omega, q.2.2⟩⟩
      have no : ¬ (0 < z.length ∧ z.length < 9) → Q (.bl false) H := fun n => by
        have k := k H (Same.refl H)
        have e : isNm (cd z) = false := by
          cases q : isNm (cd z) with
          | false => rfl
          | true => have := nm.mp q; exact absurd ⟨this.1, this.2.1⟩ n
        rwa [e] at k
      walk_at "T"
      refine r_len (Nat.le_trans hz (by decide)) ?_
      walk_at "T"
      refine r_iteD (fun c1 => ?_) fun c1 => ?_
      · walk_at "T"
        refine r_iteN (fun c2 => ?_) fun c2 => ?_
        · walk_at "T"
          exact no (by omega)
        · walk_at "T"
          refine r_lcS ?_
          walk_at "T"
          refine ⟨z, rfl, fun E hE => ?_⟩
          refine comp_filt seqIt_s hE (kpP fun c => !decide (97 ≤ c ∧ c ≤ 122)) (by rw [List.length_map, ← len_cd]; exact Nat.lt_of_le_of_lt hz (by decide)) (fun i x H3 N1 N2 hx sm y1 y2 => ?_) fun H3 sm hd => ?_
          · rw [List.getElem?_map] at hx
            cases hi' : (cd z)[i]? with
            | none => rw [hi'] at hx; cases hx
            | some d =>
              rw [hi'] at hx
              cases hx
              have keep : ¬ (97 ≤ d ∧ d ≤ 122) → kpP (fun c => !decide (97 ≤ c ∧ c ≤ 122)) (sgnV d) = some (sgnV d) := fun c => by
                rw [show kpP _ (sgnV d) = _ from kpP_sgn, decide_eq_false c]; rfl
              have drop : (97 ≤ d ∧ d ≤ 122) → kpP (fun c => !decide (97 ≤ c ∧ c ≤ 122)) (sgnV d) = none := fun c => by
                rw [show kpP _ (sgnV d) = _ from kpP_sgn, decide_eq_true c]; rfl
              have l_lo : (Str.ofString "a").cps.toList = [97] := by decide +kernel
              have l_hi : (Str.ofString "z").cps.toList = [122] := by decide +kernel
              walk_at "T"
              refine ⟨rfl, ?_⟩
              walk_at "T"
              refine r_cmpS (b := ⟨#[d]⟩) ?_
              refine ⟨_, rfl, ?_⟩
              rw [show decide (((⟨#[d]⟩ : Str).cps.toList) < (Str.ofString "a").cps.toList) = decide (d < 97) from by rw [l_lo]; exact decide_eq_decide.mpr one_lt]
              refine r_iteN (fun c1 => ?_) fun c1 => ?_
              · walk_at "T"
                refine r_cmpS (a := ⟨#[d]⟩) ?_
                refine ⟨_, rfl, ?_⟩
                rw [show decide (((Str.ofString "z").cps.toList) < (⟨#[d]⟩ : Str).cps.toList) = decide (122 < d) from by rw [l_hi]; exact decide_eq_decide.mpr one_lt]
                by_cases c2 : 122 < d
                · rw [decide_eq_true c2]
                  refine iteT ?_
                  walk_at "T"
                  exact y1 _ _ (keep (by omega)) (Same.refl _)
                · rw [decide_eq_false c2]
                  refine iteF ?_
                  exact y2 _ (drop (by omega)) (Same.refl _)
              · refine ⟨_, rfl, ?_⟩
                refine iteT ?_
                walk_at "T"
                exact y1 _ _ (keep (by omega)) (Same.refl _)
          · rw [filt_p, map_sgn] at hd
            walk_at "T"
            refine ⟨show 0 ≤ sizeLine by decide, fun E2 hE2 => ?_⟩
            refine r_eqNil (SqL.of (by rw [upd_ne (ne_of_none hd hE2)]; exact hd)) (SqL.of upd_same) (fun l hl c hc => ?_) ?_
            · obtain ⟨d, hd', rfl⟩ := List.mem_map.mp hl
              rw [List.mem_singleton.mp hc]
              exact c126 d (List.mem_filter.mp hd').1
            have k := k _ (sm.new hE2 (.lst []))
            have e : isNm (cd z) = decide (List.map (fun c => [c]) (List.filter (fun c => !decide (97 ≤ c ∧ c ≤ 122)) (cd z)) = []) := by
              rw [Bool.eq_iff_iff, nm, decide_eq_true_iff, List.map_eq_nil_iff, List.filter_eq_nil_iff]
              exact ⟨fun h c hc => by have := h.2.2 c hc; simp; omega, fun h => ⟨by omega, by omega, fun c hc => by have := h c hc; simpa using this⟩⟩
            rw [← e]
            exact k
      · walk_at "T"
        exact no (by omega)
theorem ok_l_is_word (T : Tx K mg) (XF : ExG K C cd0) {f : Addr} {fd : FuncData} (F : Fun K "_law_is_word" "_law_is_word" s_law_is_word f fd) : FnOk P w K mg base CX0 1 f fd P_law_is_word (spWordXL C) := by
  refine F.ok sc_law_is_word (fun vs H Q E h => ?_) (fun cdv A outer s H vs Q E hr h => ?_)
  · obtain ⟨b, x, o, rfl, _⟩ := h
    rfl
  · obtain ⟨b, x, o, rfl, hx, k⟩ := h
    refine ⟨_, (pss_cons (ps_if (PW.pt (pw_or (pt_not (pt_val (pe_callB (call_isiX XF.toExF : CallR _ _ (rIsiX K C)) (by rfl) T.z_isinstance (by decide +kernel) (pa_cons (pv 0) (pa_cons (pe_bltn (v := .ty "str") (u := .type "str") rfl T.z_str (by decide +kernel) rfl) pa_nil))))) (pw_or1 (pt_cmpR op_gtA (pe_callB (call_lenA : CallR _ _ (rLen K)) (by rfl) T.z_len (by decide +kernel) (pa_cons (pv 0) pa_nil)) pe_int (nomark _))))) (pss_one (ps_ret pe_bl)) pss_nil) (pss_one (ps_ret (pe_cmpR ((op_eqA hr.units) : OpR _ _ (rEqA K)) (pe_lc (own := [("_law_sign", 1)]) (g := (gName 1)) rfl sc_law_is_word.nd (pi_str (pv 0)) (blkOk_by (N := N_law_is_word) (sc := defScope s_law_is_word) (by decide +kernel)) (fun _ _ _ _ _ => pg_name (i := 1) sc_law_is_word.nd rfl (Or.inl rfl)) (fun _ _ _ _ _ => (pts_one (pt_not (pt_chain op_leA op_leA pe_int (pe_callB L2.call_ord (by rfl) T.z_ord (by decide +kernel) (pa_cons (pv 1) pa_nil)) pe_int)))) (fun _ _ _ _ _ => (pv 1))) (pe_lst pa_nil) (nomark _))))), ?_⟩
    walk_at "T"
    refine hx.isS XF ?_
    cases e1 : oB isSD o with
    | false =>
      rw [(noS e1).2.2] at k
      walk_at "T"
      exact k H (Same.refl H)
    | true =>
      obtain ⟨z, rfl, rfl, hz, c126⟩ := isS_str hx e1
      have k : ∀ H', Same H H' → Q (.bl (decide (z.length ≤ 40) && sg (cd z))) H' := k
      walk_at "T"
      refine r_len (Nat.le_trans hz (by decide)) ?_
      walk_at "T"
      refine r_iteD (fun c => ?_) fun c => ?_
      · rw [decide_eq_false (show ¬ z.length ≤ 40 by omega), Bool.false_and] at k
        walk_at "T"
        exact k H (Same.refl H)
      · rw [decide_eq_true (show z.length ≤ 40 by omega), Bool.true_and] at k
        walk_at "T"
        refine r_lcS ?_
        walk_at "T"
        refine ⟨z, rfl, fun E hE => ?_⟩
        refine comp_filt seqIt_s hE (kpP fun c => !decide (32 ≤ c ∧ c ≤ 126)) (by rw [List.length_map, ← len_cd]; exact Nat.lt_of_le_of_lt hz (by decide)) (fun i x H3 N1 N2 hx sm y1 y2 => ?_) fun H3 sm hd => ?_
        · rw [List.getElem?_map] at hx
          cases hi' : (cd z)[i]? with
          | none => rw [hi'] at hx; cases hx
          | some d =>
            rw [hi'] at hx
            cases hx
            have keep : ¬ (32 ≤ d ∧ d ≤ 126) → kpP (fun c => !decide (32 ≤ c ∧ c ≤ 126)) (sgnV d) = some (sgnV d) := fun c => by
              rw [show kpP _ (sgnV d) = _ from kpP_sgn, decide_eq_false c]; rfl
            have drop : (32 ≤ d ∧ d ≤ 126) → kpP (fun c => !decide (32 ≤ c ∧ c ≤ 126)) (sgnV d) = none := fun c => by
              rw [show kpP _ (sgnV d) = _ from kpP_sgn, decide_eq_true c]; rfl
            walk_at "T"
            refine ⟨rfl, ?_⟩
            walk_at "T"
            refine ⟨⟨#[d]⟩, rfl, rfl, ?_⟩
            show rCmp _ _ (V.int 32) (V.int (d : Nat)) _ _
            walk_at "T"
            refine r_iteD (fun c1 => ?_) fun c1 => ?_
            · walk_at "T"
              refine r_iteN (fun c2 => ?_) fun c2 => ?_
              · have c2 : ¬ (d : Int) ≤ 126 := c2
                walk_at "T"
                exact y1 _ _ (keep (by omega)) (Same.refl _)
              · have c2 : (d : Int) ≤ 126 := c2
                walk_at "T"
                exact y2 _ (drop (by omega)) (Same.refl _)
            · walk_at "T"
              exact y1 _ _ (keep (by omega)) (Same.refl _)
        · rw [filt_p, map_sgn] at hd
          walk_at "T"
          refine ⟨show 0 ≤ sizeLine by decide, fun E2 hE2 => ?_⟩
          refine r_eqNil (SqL.of (by rw [upd_ne (ne_of_none hd hE2)]; exact hd)) (SqL.of upd_same) (fun l hl c hc => ?_) ?_
          · obtain ⟨d, hd', rfl⟩ := List.mem_map.mp hl
            rw [List.mem_singleton.mp hc]
            exact c126 d (List.mem_filter.mp hd').1
          have k := k _ (sm.new hE2 (.lst []))
          have e : sg (cd z) = decide (List.map (fun c => [c]) (List.filter (fun c => !decide (32 ≤ c ∧ c ≤ 126)) (cd z)) = []) := by
            rw [Bool.eq_iff_iff, sg_iff, decide_eq_true_iff, List.map_eq_nil_iff, List.filter_eq_nil_iff]
            exact ⟨fun h c hc => by have := h c hc; simp; omega, fun h c hc => by have := h c hc; simpa using this⟩
          rw [← e]
          exact k
end
end K01

namespace K01
open PySem PySem.Spec PyProof.Rows L2 J M
local macro_rules | `(tactic| walk_at "hp") => `(tactic| first | assumption | exact upd_same | (rw [upd_ne (by assumption)]; walk_at "hp") | (rw [upd_ne (Ne.symm (by assumption))]; walk_at "hp"))
local macro_rules | `(tactic| walk_at "s") => `(tactic| first
  | ((with_reducible refine' r_var ?h ?k); (case h => exact rfl))
  | (with_reducible refine r_c ?_)
  | (with_reducible refine r_op ?_)
  | (with_reducible refine r_un ?_)
  | (with_reducible refine r_seq ?_)
  | (with_reducible refine r_next ?_)
  | (with_reducible refine r_sets ?_)
  | (with_reducible refine r_gname ?_)
  | (with_reducible refine r_ifS ?_)
  | (with_reducible refine r_gsub ?_)
  | (with_reducible refine r_test ?_)
  | (with_reducible refine r_tb ?_)
  | (with_reducible refine r_not ?_)
  | (with_reducible refine r_and ?_)
  | (with_reducible refine r_or ?_)
  | (with_reducible refine r_andV ?_)
  | (with_reducible refine r_orV ?_)
  | (with_reducible refine r_notV ?_)
  | (with_reducible refine r_ifE ?_)
  | (with_reducible refine r_chain ?_)
  | (with_reducible refine r_cb ?_)
  | (with_reducible refine r_cons ?_)
  | (with_reducible refine r_nil ?_)
  | (with_reducible refine r_call ?_)
  | (with_reducible refine r_lst ?_)
  | (with_reducible refine r_tup ?_)
  | (with_reducible refine r_slice ?_)
  | (with_reducible refine r_nop ?_)
  | (with_reducible refine r_part ?_)
  | (with_reducible refine r_bm ?_)
  | (with_reducible refine r_m1 ?_)
  | (with_reducible refine r_m0 ?_)
  | (with_reducible refine r_is ?_)
  | (with_reducible refine r_maxD ?_)
  | (with_reducible refine r_orT ?_)
  | (with_reducible refine r_truN ?_)
  | (with_reducible refine r_intI ?_)
  | (with_reducible refine r_intB ?_)
  | (with_reducible refine r_max2 ?_)
  | (with_reducible refine r_min2 ?_)
  | (with_reducible refine r_yes ?_)
  | (with_reducible refine r_bl ?_)
  | (with_reducible refine iteT ?_)
  | (with_reducible refine iteF ?_)
  | (with_reducible refine r_iteNT ?_)
  | (with_reducible refine r_iteNF ?_)
  | (with_reducible refine r_minL ?_)
  | (with_reducible refine r_gcons ?_)
  | (with_reducible refine r_gnil ?_)
  | (with_reducible refine r_par ?_)
  | (with_reducible refine r_par3 ?_)
  | (with_reducible refine r_is2 ?_)
  | (with_reducible refine r_is3 ?_)
  | (with_reducible refine r_dget ?_)
  | (with_reducible refine r_callS ?_)
  | (with_reducible refine r_rz ?_)
  | (with_reducible refine r_rev ?_)
  | (with_reducible refine r_isI ?_)
  | (with_reducible refine r_isStr ?_)
  | (with_reducible refine r_ret ?_)
  | (with_reducible refine r_drop ?_)
  | (with_reducible refine r_rI0 ?_)
  | (with_reducible refine r_addI ?_)
  | ((with_reducible show rI (fun _ j => 0 < j) _ (.int _) (.int _) _ _); refine r_rI (by first | omega | decide) ?_)
  | ((with_reducible show rI CDiv _ (.int _) (.int _) _ _); refine r_rI (by constructor <;> omega) ?_)
  | ((with_reducible show rI CPow _ (.int _) (.int _) _ _); refine r_rI (by refine ⟨by decide, by decide, ?_⟩; omega) ?_)
  | ((with_reducible show rMul (.int _) (.int _) _ _); refine r_mulI (cmulW (by omega) (by omega)) ?_)
  | (with_reducible refine r_cmpI ?_)
  | (with_reducible refine r_cmpS ?_)
  | (with_reducible refine r_eqI ?_)
  | (with_reducible refine r_neI ?_)
  | (with_reducible refine r_eqS ?_)
  | (with_reducible refine r_neS ?_)
  | (with_reducible refine r_inSF ?_)
  | (with_reducible refine r_inST ?_)
  | (with_reducible refine r_isiStr ?_)
  | ((with_reducible show rIx _ (.ref _) (.int _) _ _); refine' r_ixL (SqL.of ?h) ?e ?_; (case h => walk_at "hp"); (case e => rfl))
  | ((with_reducible show rSetL (.ref _) (.int _) _ _ _); refine' r_setL ?h ?e ?_; (case h => walk_at "hp"); (case e => rfl)))
local macro_rules | `(tactic| walk_at "g") => `(tactic| repeat walk_at "s")


local macro_rules | `(tactic| walk_at "x") => `(tactic| first | omega | decide +kernel | (simp only [List.length_cons, List.length_nil]; omega))
local macro_rules | `(tactic| walk_at "T") => `(tactic| repeat (first
  | walk_at "s"
  | ((with_reducible show rIx _ (.ref _) (.int _) _ _); refine' r_ixTu (SqT.of ?h) ?e ?_; (case h => first | assumption | walk_at "hp"); (case e => rfl))
  | (with_reducible refine r_lenSet ?_)
  | (with_reducible refine r_asg2 ?_)
  | (with_reducible refine iteDT (by walk_at "x") ?_)
  | (with_reducible refine iteDF (by walk_at "x") ?_)
  | (with_reducible refine iteNT (by walk_at "x") ?_)
  | (with_reducible refine iteNF (by walk_at "x") ?_)))
section
variable {P : Program} {w : World} {K : PySem.W.Frag} {mg : Str → Option Value} {base : Heap} {C : Addr} {cd0 : ClassData}
/-- what stands there, by the thing alone -/
def whV (lo hi : Int) : V → Bool
  | .int i => decide (lo ≤ i) && decide (i ≤ hi)
  | _ => false
def nmV : V → Bool
  | .str z => isNm (cd z)
  | _ => false
theorem whV_eq {b : Addr} {H : Hp} {x : V} {d : PyData} {lo hi : Int} (h : Dd b H x d) : whV lo hi x = whD lo hi d := by cases h <;> rfl
theorem nmV_eq {b : Addr} {H : Hp} {x : V} {d : PyData} (h : Dd b H x d) : nmV x = nmD d := by cases h <;> rfl
def kpB (f : V → Bool) (x : V) : Option V := if f x = true then some x else none
theorem filt_all {f : V → Bool} : ∀ {xs : List V}, (xs.filterMap (kpB f)).length = xs.length → xs.filterMap (kpB f) = xs ∧ xs.all f = true
  | [], _ => ⟨rfl, rfl⟩
  | x :: xs, h => by
    have le := List.length_filterMap_le (kpB f) xs
    cases q : f x with
    | false =>
      rw [List.filterMap_cons, show kpB f x = none from if_neg (by rw [q]; exact Bool.false_ne_true), List.length_cons] at h
      have h : (xs.filterMap (kpB f)).length = xs.length + 1 := h
      omega
    | true =>
      have e : kpB f x = some x := if_pos q
      rw [List.filterMap_cons, e] at h ⊢
      obtain ⟨a, c⟩ := filt_all (f := f) (xs := xs) (by simpa using h)
      exact ⟨by show x :: _ = _; rw [a], by rw [List.all_cons, q, c]; rfl⟩
theorem filt_len {f : V → Bool} : ∀ {xs : List V}, xs.all f = true → xs.filterMap (kpB f) = xs
  | [], _ => rfl
  | x :: xs, h => by
    rw [List.all_cons, Bool.and_eq_true] at h  -- own
    rw [List.filterMap_cons, show kpB f x = some x from if_pos h.1]
    show x :: _ = _
    rw [filt_len h.2]
theorem nmV_all {b : Addr} {H : Hp} : ∀ {xs : List V} {ds : List PyData}, DdAll b H xs ds → xs.all nmV = ds.all nmD
  | _, _, .nil => rfl
  | _, _, .cons h t => by rw [List.all_cons, List.all_cons, nmV_eq h, nmV_all t]
theorem no_head {d : PyData} {ds : List PyData} (h : isSD d = false) : kdD (.tuple (d :: ds)) = false := by
  have s : ∀ n, strIs d n = false := fun n => by cases d <;> first | rfl | exact (Bool.false_ne_true h.symm).elim
  cases ds with
  | nil => exact s "name"
  | cons e es =>
    cases es with
    | nil => rw [kd_two, s, s, s]; rfl
    | cons g gs => rw [kd_more, s]; rfl
theorem at1 {α : Type} (x y : α) (xs : List α) : atI (x :: y :: xs) 1 = some y := atI_nat (j := 1) rfl
theorem at2 {α : Type} (x y z : α) (xs : List α) : atI (x :: y :: z :: xs) 2 = some z := atI_nat (j := 2) rfl
theorem s_no {a b : Str} (h : a ≠ b) : strIs (.str a) b = false := decide_eq_false h
theorem s_ys {a : Str} : strIs (.str a) a = true := decide_eq_true rfl
theorem kn1 {e : PyData} : kdD (.tuple [.str "number", e]) = false := by
  rw [kd_two, s_no (show Str.ofString "number" ≠ Str.ofString "own" by decide +kernel), s_no (show Str.ofString "number" ≠ Str.ofString "text" by decide +kernel), s_no (show Str.ofString "number" ≠ Str.ofString "one" by decide +kernel)]; rfl
theorem kd_no {z : Str} {ds : List PyData} (n : ds.length ≠ 1) (h1 : ¬ z = Str.ofString "number") (h2 : ¬ z = Str.ofString "name") : kdD (.tuple (.str z :: ds)) = false := by
  cases ds with
  | nil => exact s_no h2
  | cons e es =>
    cases es with
    | nil => exact absurd rfl n
    | cons g gs => rw [kd_more, s_no h1]; rfl
theorem kd_num {ds : List PyData} (n : ds.length ≠ 2) : kdD (.tuple (.str "number" :: ds)) = false := by
  cases ds with
  | nil => exact s_no num_nam
  | cons e es =>
    cases es with
    | nil => exact kn1
    | cons g gs =>
      cases gs with
      | nil => exact absurd rfl n
      | cons u us =>
        rw [kd_more]
        cases e <;> rfl
theorem r_chainV {Q : VK} {H : Hp} {r' : R2} {tc : TE} {y : V} {σ : L2.St} {c : Bool} (h1 : c = true → tc σ H fun w' H4 => r' y w' H4 Q) (h2 : c = false → Q (.bl false) H) : ∃ k, V.bl c = .bl k ∧ (if k = true then tc σ H fun w' H4 => r' y w' H4 Q else Q (.bl false) H) := ⟨c, rfl, r_ite h1 h2⟩
theorem ok_l_is_kind (T : Tx K mg) (XF : ExG K C cd0) {f f_law_is_whole f_law_is_name : Addr} {fd fd_law_is_whole fd_law_is_name : FuncData} (F : Fun K "_law_is_kind" "_law_is_kind" s_law_is_kind f fd)
    (D_law_is_whole : DAt K mg "_law_is_whole" s_law_is_whole P_law_is_whole f_law_is_whole fd_law_is_whole)
    (D_law_is_name : DAt K mg "_law_is_name" s_law_is_name P_law_is_name f_law_is_name fd_law_is_name) : FnOk P w K mg base CX0 2 f fd P_law_is_kind (spKindX C) := by
  have G_law_is_whole : FnOk P w K mg base CX0 1 f_law_is_whole fd_law_is_whole P_law_is_whole (spWholeX C) := ok_l_whole T XF D_law_is_whole.fn
  have G_law_is_name : FnOk P w K mg base CX0 1 f_law_is_name fd_law_is_name P_law_is_name (spNameXL C) := ok_l_is_name T XF D_law_is_name.fn
  refine F.ok sc_law_is_kind (fun vs H Q E h => ?_) (fun cdv A outer s H vs Q E hr h => ?_)
  · obtain ⟨b, x, o, rfl, _⟩ := h
    rfl
  · obtain ⟨b, x, o, rfl, hx, k⟩ := h
    refine ⟨_, (pss_cons (ps_if (PW.pt (pw_or (pt_not (pt_val (pe_callB (call_isiX XF.toExF : CallR _ _ (rIsiX K C)) (by rfl) T.z_isinstance (by decide +kernel) (pa_cons (pv 0) (pa_cons (pe_bltn (v := .ty "tuple") (u := .type "tuple") rfl T.z_tuple (by decide +kernel) rfl) pa_nil))))) (pw_or1 (pt_cmpR (op_eqK hr.units : OpR _ _ (rEqK K)) (pv 0) (pe_tup pa_nil) (nomark _))))) (pss_one (ps_ret pe_bl)) pss_nil) (pss_cons (ps_par (i := 1) (j := 2) rfl sc_law_is_kind.nd rfl rfl (by decide) rfl rfl (pa_cons (pe_ix (ix_seq : IxR _ (rIx K)) (pv 0) pe_int (fun _ _ => rfl)) (pa_cons (pe_callB (call_lenA : CallR _ _ (rLen K)) (by rfl) T.z_len (by decide +kernel) (pa_cons (pv 0) pa_nil)) pa_nil)) rfl) (pss_cons (ps_if (pt_not (pt_val (pe_callB (call_isiX XF.toExF : CallR _ _ (rIsiX K C)) (by rfl) T.z_isinstance (by decide +kernel) (pa_cons (pv 1) (pa_cons (pe_bltn (v := .ty "str") (u := .type "str") rfl T.z_str (by decide +kernel) rfl) pa_nil))))) (pss_one (ps_ret pe_bl)) pss_nil) (pss_cons (ps_if (pt_cmpR ((op_eqA hr.units) : OpR _ _ (rEqA K)) (pv 1) pe_str (nomark _)) (pss_cons (ps_set (i := 3) sc_law_is_kind.nd rfl (Or.inl rfl) (pe_and (pe_cmpR ((op_eqA hr.units) : OpR _ _ (rEqA K)) (pv 2) pe_int (nomark _)) (pe_one (pe_cmpR (op_eqK hr.units : OpR _ _ (rEqK K)) (pe_lc (own := [("_law_one", 5)]) (g := (gName 5)) rfl sc_law_is_kind.nd (asSeq (K := K) rfl (pi_seq (pe_slice (sl_tup : SlR _ (rSlT K)) (pv 0) (po_some pe_int) po_none))) (blkOk_by (N := N_law_is_kind) (sc := defScope s_law_is_kind) (by decide +kernel)) (fun _ _ _ _ _ => pg_name (i := 5) sc_law_is_kind.nd rfl (Or.inl rfl)) (fun _ _ _ _ _ => (pts_one (pt_not (pt_val (pe_call G_law_is_whole (hr.mono (by decide)) rfl D_law_is_whole.gl D_law_is_whole.fn.kp D_law_is_whole.bd .nil pass0 (pa_cons (pv 5) (pa_cons (pe_un L2.un_neg pe_int) (pa_cons pe_int pa_nil)))))))) (fun _ _ _ _ _ => (pv 5))) (pe_lst pa_nil) (nomark _))))) (pss_one (ps_ret (pe_and (pv 3) (pe_one (pe_cmpR op_leA (pe_ix (ix_seq : IxR _ (rIx K)) (pv 0) pe_int (fun _ _ => rfl)) (pe_ix (ix_seq : IxR _ (rIx K)) (pv 0) pe_int (fun _ _ => rfl)) (nomark _))))))) pss_nil) (pss_cons (ps_if (pt_cmpR ((op_eqA hr.units) : OpR _ _ (rEqA K)) (pv 1) pe_str (nomark _)) (pss_cons (ps_if (PW.pt (pw_or (pt_cmpR ((op_neA hr.units) : OpR _ _ (rNeA K)) (pv 2) pe_int (nomark _)) (pw_or (pt_not (pt_val (pe_callB (call_isiX XF.toExF : CallR _ _ (rIsiX K C)) (by rfl) T.z_isinstance (by decide +kernel) (pa_cons (pe_ix (ix_seq : IxR _ (rIx K)) (pv 0) pe_int (fun _ _ => rfl)) (pa_cons (pe_bltn (v := .ty "tuple") (u := .type "tuple") rfl T.z_tuple (by decide +kernel) rfl) pa_nil))))) (pw_or1 (pt_not (pt_chain op_leA op_leA pe_int (pe_callB (call_lenA : CallR _ _ (rLen K)) (by rfl) T.z_len (by decide +kernel) (pa_cons (pe_ix (ix_seq : IxR _ (rIx K)) (pv 0) pe_int (fun _ _ => rfl)) pa_nil)) pe_int)))))) (pss_one (ps_ret pe_bl)) pss_nil) (pss_cons (ps_setLc (i := 4) (own := [("_law_one", 5)]) (g := (gName 5)) rfl sc_law_is_kind.nd rfl rfl (sw_true rfl rfl rfl (by decide +kernel)) (asSeq (K := K) rfl (pi_seq (pe_ix (ix_seq : IxR _ (rIx K)) (pv 0) pe_int (fun _ _ => rfl)))) (blkOk_by (N := N_law_is_kind) (sc := defScope s_law_is_kind) (by decide +kernel)) (fun _ _ _ _ _ => pg_name (i := 5) sc_law_is_kind.nd rfl (Or.inl rfl)) (fun _ _ _ _ _ => (pts_one (pt_val (pe_call G_law_is_name (hr.mono (by decide)) rfl D_law_is_name.gl D_law_is_name.fn.kp D_law_is_name.bd .nil pass0 (pa_cons (pv 5) pa_nil))))) (fun _ _ _ _ _ => (pv 5))) (pss_one (ps_ret (pe_chain (op_eqA hr.units) (op_eqA hr.units) (pe_callB (call_lenA : CallR _ _ (rLen K)) (by rfl) T.z_len (by decide +kernel) (pa_cons (pv 4) pa_nil)) (pe_callB (call_lenA : CallR _ _ (rLen K)) (by rfl) T.z_len (by decide +kernel) (pa_cons (pe_ix (ix_seq : IxR _ (rIx K)) (pv 0) pe_int (fun _ _ => rfl)) pa_nil)) (asLenSet (K := K) rfl (pe_lenSetT rfl rfl T.z_len rfl T.z_set (pv 4)))))))) pss_nil) (pss_cons (ps_if (pt_cmpR ((op_eqA hr.units) : OpR _ _ (rEqA K)) (pv 1) pe_str (nomark _)) (pss_one (ps_ret (pe_and (pe_cmpR ((op_eqA hr.units) : OpR _ _ (rEqA K)) (pv 2) pe_int (nomark _)) (pe_one (pe_call G_law_is_whole (hr.mono (by decide)) rfl D_law_is_whole.gl D_law_is_whole.fn.kp D_law_is_whole.bd .nil pass0 (pa_cons (pe_ix (ix_seq : IxR _ (rIx K)) (pv 0) pe_int (fun _ _ => rfl)) (pa_cons pe_int (pa_cons pe_int pa_nil)))))))) pss_nil) (pss_cons (ps_if (pt_cmpR ((op_eqA hr.units) : OpR _ _ (rEqA K)) (pv 1) pe_str (nomark _)) (pss_one (ps_ret (pe_and (pe_cmpR ((op_eqA hr.units) : OpR _ _ (rEqA K)) (pv 2) pe_int (nomark _)) (pe_one (pe_call G_law_is_name (hr.mono (by decide)) rfl D_law_is_name.gl D_law_is_name.fn.kp D_law_is_name.bd .nil pass0 (pa_cons (pe_ix (ix_seq : IxR _ (rIx K)) (pv 0) pe_int (fun _ _ => rfl)) pa_nil)))))) pss_nil) (pss_one (ps_ret (pe_cmpR (op_eqK hr.units : OpR _ _ (rEqK K)) (pv 0) (pe_tup (pa_cons pe_str pa_nil)) (nomark _))))))))))), ?_⟩
    walk_at "T"
    refine hx.isT XF ?_
    cases e1 : oB isTD o with
    | false =>
      rw [(noT e1).1] at k
      walk_at "T"
      exact k H (Same.refl H)
    | true =>
      obtain ⟨a, xs, ds, rfl, rfl, ha, t⟩ := isT_tup hx e1
      have k : ∀ H', Same H H' → Q (.bl (kdD (.tuple ds))) H' := k
      walk_at "T"
      refine ⟨show 0 ≤ sizeLine by decide, fun p0 hp0 => ?_⟩
      have s0 := (Same.refl H).at hp0 (.tup [])
      have e0 : upd H p0 (.tup []) p0 = some (.tup []) := upd_same
      generalize upd H p0 (.tup []) = H0 at s0 e0 ⊢
      refine .inr (.inr (.inl ⟨a, p0, xs, rfl, rfl, s0 _ _ ha, e0, ?_⟩))
      walk_at "T"
      replace ha := s0 _ _ ha
      replace t := t.same s0
      replace k : ∀ H', Same H0 H' → Q (.bl (kdD (.tuple ds))) H' := fun H' s => k H' (s0.trans s)
      clear s0 hp0 hx
      refine r_iteD (fun c => ?_) fun c => ?_
      · subst c
        cases t
        walk_at "T"
        exact k _ (Same.refl _)
      cases t with
      | nil => exact absurd rfl c
      | @cons x xs d ds h t =>
        walk_at "T"
        refine r_ixTu (SqT.of ha) (at0 _ _) ?_
        walk_at "T"
        refine r_lenT (SqT.of ha) ?_
        walk_at "T"
        refine h.isS ?_
        cases e2 : isSD d with
        | false =>
          rw [no_head e2] at k
          walk_at "T"
          exact k _ (Same.refl _)
        | true =>
          cases h with
          | str z hz c126 =>
            have ha : H0 a = some (.tup (V.str z :: xs)) := ha
            walk_at "T"
            refine r_iteD (fun q => ?_) fun q => ?_
            · subst q
              walk_at "T"
              refine r_iteD (fun c => ?_) fun c => ?_
              · cases t with
                | nil => exact absurd c (by simp)
                | @cons x1 xs e es h1 t =>
                  cases t with
                  | nil => exact absurd c (by simp)
                  | @cons x2 xs g gs h2 t =>
                    cases t with
                    | cons h3 t => exact absurd c (by simp only [List.length_cons]; omega)
                    | nil =>
                      have k : ∀ H', Same H0 H' → Q (.bl (bndD [e, g])) H' := k
                      walk_at "T"
                      refine r_lcQ ?_
                      walk_at "T"
                      refine r_tail (k := 1) ha (Nat.le_refl _) (by simp) fun p hp => ?_
                      have s1 := (Same.refl H0).at hp (.tup [x1, x2])
                      have e1 : upd H0 p (.tup [x1, x2]) p = some (.tup [x1, x2]) := upd_same
                      rw [show List.drop 1 [V.str (Str.ofString "number"), x1, x2] = [x1, x2] from rfl]
                      generalize upd H0 p (.tup [x1, x2]) = H1 at s1 e1 ⊢
                      refine ⟨p, [x1, x2], rfl, .inr ⟨SqT.of e1, fun E hE => ?_⟩⟩
                      refine comp_filt (seqIt_t (SqT.of e1 : SqT K H1 p [x1, x2])) hE (kpB fun x => !whV (-999999) 999999 x) (show 2 < sizeLine by decide) (fun i x H3 N1 N2 hx sm y1 y2 => ?_) fun H3 sm hd => ?_
                      · obtain ⟨u, hu, du⟩ := dall_get (DdAll.cons h1 (DdAll.cons h2 DdAll.nil)) hx
                        walk_at "T"
                        refine ⟨rfl, ?_⟩
                        walk_at "T"
                        refine ⟨999999, rfl, ?_⟩
                        walk_at "T"
                        refine ⟨b, x, some u, -999999, 999999, rfl, .dat (du.same (s1.trans sm)), ?_⟩
                        have du' := whV_eq (lo := -999999) (hi := 999999) du
                        rw [oB_some, ← du']
                        cases w : whV (-999999) 999999 x with
                        | true =>
                          refine ⟨_, rfl, ?_⟩
                          exact y2 _ (if_neg (by show ¬ (!whV (-999999) 999999 x) = true; rw [w]; exact Bool.false_ne_true)) (Same.refl _)
                        | false =>
                          refine ⟨_, rfl, ?_⟩
                          walk_at "T"
                          exact y1 _ _ (if_pos (by show (!whV (-999999) 999999 x) = true; rw [w]; rfl)) (Same.refl _)
                      · have ha3 := sm _ _ (s1 _ _ ha)
                        walk_at "T"
                        refine ⟨show 0 ≤ sizeLine by decide, fun E2 hE2 => ?_⟩
                        have s3 := (Same.refl H3).at hE2 (.lst [])
                        have e3 : upd H3 E2 (.lst []) E2 = some (.lst []) := upd_same
                        generalize upd H3 E2 (.lst []) = H4 at s3 e3 ⊢
                        refine .inr (.inr (.inr (.inr ⟨E, E2, _, rfl, rfl, s3 _ _ hd, e3, ?_⟩)))
                        have ha4 := s3 _ _ ha3
                        have k := k H4 ((s1.trans sm).trans s3)
                        clear hd e3 e1 ha ha3
                        have w1 := whV_eq (lo := -999999) (hi := 999999) h1
                        have w2 := whV_eq (lo := -999999) (hi := 999999) h2
                        have one : ∀ x, kpB (fun x => !whV (-999999) 999999 x) x = if whV (-999999) 999999 x = true then none else some x := fun x => by
                          unfold kpB
                          cases q : whV (-999999) 999999 x <;> simp [q]
                        rw [List.filterMap_cons, List.filterMap_cons, List.filterMap_nil, one, one, w1, w2]
                        cases v1 : whD (-999999) 999999 e with
                        | false =>
                          have : bndD [e, g] = false := by
                            cases h1 <;> first | rfl | skip
                            show (whD (-999999) 999999 _ && _) = false
                            rw [v1]; rfl
                          rw [this] at k
                          rw [decide_eq_false (by simp)]
                          walk_at "T"
                          exact k
                        | true =>
                          cases h1 with
                          | int i hi =>
                            have k : Q (.bl (whD (-999999) 999999 (.int i) && whD i 999999 g)) H4 := k
                            rw [v1, Bool.true_and] at k
                            cases v2 : whD (-999999) 999999 g with
                            | false =>
                              have : whD i 999999 g = false := by
                                cases h2 with
                                | int j hj =>
                                  have v1 : (decide (-999999 ≤ i) && decide (i ≤ 999999)) = true := v1
                                  have v2 : (decide (-999999 ≤ j) && decide (j ≤ 999999)) = false := v2
                                  show (decide (i ≤ j) && decide (j ≤ 999999)) = false
                                  simp at v1 v2 ⊢
                                  omega
                                | _ => rfl
                              rw [this] at k
                              rw [decide_eq_false (by simp)]
                              walk_at "T"
                              exact k
                            | true =>
                              cases h2 with
                              | int j hj =>
                                rw [decide_eq_true (by simp)]
                                walk_at "T"
                                have v2 : (decide (-999999 ≤ j) && decide (j ≤ 999999)) = true := v2
                                have : whD i 999999 (.int j) = decide (i ≤ j) := by
                                  show (decide (i ≤ j) && decide (j ≤ 999999)) = _
                                  rw [Bool.and_eq_true] at v2
                                  rw [v2.2, Bool.and_true]
                                rw [this] at k
                                exact k
                              | _ => exact (Bool.false_ne_true v2).elim
                          | _ => exact (Bool.false_ne_true v1).elim
              · rw [kd_num (by rw [← dall_len t]; intro z; apply c; rw [List.length_cons, z]; rfl)] at k
                walk_at "T"
                exact k _ (Same.refl _)
            walk_at "T"
            refine r_iteD (fun q2 => ?_) fun q2 => ?_
            · subst q2
              walk_at "T"
              refine r_iteN (fun c => ?_) fun c => ?_
              · rw [kd_no (by rw [← dall_len t]; intro z; apply c; rw [List.length_cons, z]; rfl) q (by decide +kernel)] at k
                walk_at "T"
                exact k _ (Same.refl _)
              · cases t with
                | nil => exact absurd c (by simp)
                | @cons y xs e es h2 t =>
                  cases t with
                  | cons h3 t => exact absurd c (by simp only [List.length_cons]; omega)
                  | nil =>
                    have k : ∀ H', Same H0 H' → Q (.bl (choD e)) H' := fun H' s => by
                      have := k H' s
                      rwa [kd_two, s_no (show Str.ofString "one" ≠ Str.ofString "own" by decide +kernel), s_no (show Str.ofString "one" ≠ Str.ofString "text" by decide +kernel), s_ys, if_neg Bool.false_ne_true, if_neg Bool.false_ne_true, Bool.true_and] at this
                    walk_at "T"
                    refine h2.isT ?_
                    cases w : isTD e with
                    | false =>
                      rw [show choD e = false from (noT (o := some e) w).2] at k
                      walk_at "T"
                      exact k _ (Same.refl _)
                    | true =>
                      cases h2 with
                      | @tup a2 ys gs ha2 t2 =>
                        have le := dall_len t2
                        have k : ∀ H', Same H0 H' → Q (.bl (decide (1 ≤ gs.length) && (decide (gs.length ≤ 8) && (gs.all nmD && decide (gs.map txD).Nodup)))) H' := k
                        walk_at "T"
                        refine r_lenT (SqT.of ha2) ?_
                        walk_at "T"
                        refine r_iteD (fun c1 => ?_) fun c1 => ?_
                        · walk_at "T"
                          rw [decide_eq_true (show 1 ≤ gs.length by omega), Bool.true_and] at k
                          refine r_iteN (fun c2 => ?_) fun c2 => ?_
                          · walk_at "T"
                            rw [decide_eq_false (show ¬ gs.length ≤ 8 by omega), Bool.false_and] at k
                            exact k _ (Same.refl _)
                          · have l8 : gs.length ≤ 8 := by omega
                            rw [decide_eq_true l8, Bool.true_and] at k
                            walk_at "T"
                            refine r_lcQ ?_
                            walk_at "T"
                            refine ⟨a2, ys, rfl, .inr ⟨SqT.of ha2, fun E hE => ?_⟩⟩
                            refine comp_filt (seqIt_t (SqT.of ha2 : SqT K H0 a2 ys)) hE (kpB nmV) (by rw [le]; exact Nat.lt_of_le_of_lt l8 (by decide)) (fun i x H3 N1 N2 hx sm y1 y2 => ?_) fun H3 sm hd => ?_
                            · obtain ⟨u, hu, du⟩ := dall_get t2 hx
                              walk_at "T"
                              refine ⟨rfl, ?_⟩
                              walk_at "T"
                              refine ⟨b, x, some u, rfl, .dat (du.same sm), fun H4 s4 => ?_⟩
                              rw [oB_some, ← nmV_eq du]
                              cases w : nmV x with
                              | true =>
                                refine ⟨_, rfl, ?_⟩
                                walk_at "T"
                                exact y1 _ _ (if_pos w) s4
                              | false =>
                                refine ⟨_, rfl, ?_⟩
                                exact y2 _ (if_neg (by rw [w]; exact Bool.false_ne_true)) s4
                            · have ha3 := sm _ _ ha
                              have ha4 := sm _ _ ha2
                              have k := k H3 sm
                              walk_at "T"
                              refine r_lenL (SqL.of hd) ?_
                              walk_at "T"
                              refine r_lenT (SqT.of ha4) ?_
                              walk_at "T"
                              refine r_iteD (fun c3 => ?_) fun c3 => ?_
                              · obtain ⟨f1, f2⟩ := filt_all (f := nmV) (xs := ys) (by omega)
                                rw [nmV_all t2] at f2
                                rw [f2, Bool.true_and] at k
                                rw [f1, all_nm t2 f2] at hd
                                have e : ∀ ls : List (List Nat), ls.map wV = (ls.map S).map V.str := fun ls => by rw [List.map_map]; rfl
                                walk_at "T"
                                refine ⟨E, (gs.map txD).map S, rfl, .inl (SqL.of (by rw [← e]; exact hd)), by rw [List.length_map, List.length_map]; omega, ?_⟩
                                refine r_eqI ?_
                                have u := (uq_eq ((gs.map txD).map S)).trans ⟨fun h => (List.pairwise_map.mp h).imp fun n e => n (congrArg S e), fun h => List.pairwise_map.mpr (h.imp fun {a b} n e => n (by rw [← cd_S a, ← cd_S b, e]))⟩
                                rw [List.length_map, List.length_map] at u
                                rw [show decide (((ys.length : Nat) : Int) = (((uq ((gs.map txD).map S)).length : Nat) : Int)) = decide (gs.map txD).Nodup from decide_eq_decide.mpr (by rw [le]; exact ⟨fun z => u.mp (by omega), fun z => by have := u.mpr z; omega⟩)]
                                exact k
                              · have : gs.all nmD = false := by
                                  cases w : gs.all nmD with
                                  | false => rfl
                                  | true =>
                                    rw [← nmV_all t2] at w
                                    exact absurd (by rw [filt_len w]) c3
                                rw [this, Bool.false_and] at k
                                exact k
                        · walk_at "T"
                          rw [decide_eq_false (show ¬ 1 ≤ gs.length by omega), Bool.false_and] at k
                          exact k _ (Same.refl _)
                      | _ => exact (Bool.false_ne_true w).elim
            walk_at "T"
            refine r_iteD (fun q3 => ?_) fun q3 => ?_
            · subst q3
              walk_at "T"
              refine r_iteD (fun c => ?_) fun c => ?_
              · cases t with
                | nil => exact absurd c (by simp)
                | @cons y xs e es h2 t =>
                  cases t with
                  | cons h3 t => exact absurd c (by simp only [List.length_cons]; omega)
                  | nil =>
                    walk_at "T"
                    refine ⟨b, y, some e, 1, 20, rfl, .dat h2, ?_⟩
                    have k := k _ (Same.refl _)
                    rwa [kd_two, s_no (show Str.ofString "text" ≠ Str.ofString "own" by decide +kernel), s_ys, if_neg Bool.false_ne_true, if_pos rfl] at k
              · rw [kd_no (by rw [← dall_len t]; intro z; apply c; rw [List.length_cons, z]; rfl) q (by decide +kernel)] at k
                exact k _ (Same.refl _)
            walk_at "T"
            refine r_iteD (fun q4 => ?_) fun q4 => ?_
            · subst q4
              walk_at "T"
              refine r_iteD (fun c => ?_) fun c => ?_
              · cases t with
                | nil => exact absurd c (by simp)
                | @cons y xs e es h2 t =>
                  cases t with
                  | cons h3 t => exact absurd c (by simp only [List.length_cons]; omega)
                  | nil =>
                    walk_at "T"
                    refine ⟨b, y, some e, rfl, .dat h2, fun H' s => ?_⟩
                    have k := k _ s
                    rwa [kd_two, s_ys, if_pos rfl] at k
              · rw [kd_no (by rw [← dall_len t]; intro z; apply c; rw [List.length_cons, z]; rfl) q (by decide +kernel)] at k
                exact k _ (Same.refl _)
            walk_at "T"
            refine ⟨show 1 ≤ sizeLine by decide, fun p hp => ?_⟩
            refine .inr (.inr (.inr (.inl ⟨a, p, z, "name", xs, rfl, rfl, by rw [upd_ne (ne_of_none ha hp)]; exact ha, upd_same, ?_⟩)))
            have k := k _ ((Same.refl H0).at hp (.tup [V.str "name"]))
            have : kdD (.tuple (.str z :: ds)) = (decide (z = Str.ofString "name") && decide (xs = [])) := by
              cases t with
              | nil => rw [decide_eq_true (show ([] : List V) = [] from rfl), Bool.and_true]; rfl
              | @cons y ys e es h2 t =>
                rw [decide_eq_false (show ¬ (y :: ys = []) by simp), Bool.and_false]
                cases t with
                | nil => rw [kd_two, s_no q4, s_no q3, s_no q2]; rfl
                | cons h3 t => rw [kd_more, s_no q]; rfl
            rw [this] at k
            exact k
          | _ => exact (Bool.false_ne_true e2).elim
end
end K01

namespace K01
open PySem PySem.Spec PyProof.Rows L2 J M
local macro_rules | `(tactic| walk_at "hp") => `(tactic| first | assumption | exact upd_same | (rw [upd_ne (by assumption)]; walk_at "hp") | (rw [upd_ne (Ne.symm (by assumption))]; walk_at "hp"))
local macro_rules | `(tactic| walk_at "s") => `(tactic| first
  | ((with_reducible refine' r_var ?h ?k); (case h => exact rfl))
  | (with_reducible refine r_c ?_)
  | (with_reducible refine r_op ?_)
  | (with_reducible refine r_un ?_)
  | (with_reducible refine r_seq ?_)
  | (with_reducible refine r_next ?_)
  | (with_reducible refine r_sets ?_)
  | (with_reducible refine r_gname ?_)
  | (with_reducible refine r_ifS ?_)
  | (with_reducible refine r_gsub ?_)
  | (with_reducible refine r_test ?_)
  | (with_reducible refine r_tb ?_)
  | (with_reducible refine r_not ?_)
  | (with_reducible refine r_and ?_)
  | (with_reducible refine r_or ?_)
  | (with_reducible refine r_andV ?_)
  | (with_reducible refine r_orV ?_)
  | (with_reducible refine r_notV ?_)
  | (with_reducible refine r_ifE ?_)
  | (with_reducible refine r_chain ?_)
  | (with_reducible refine r_cb ?_)
  | (with_reducible refine r_cons ?_)
  | (with_reducible refine r_nil ?_)
  | (with_reducible refine r_call ?_)
  | (with_reducible refine r_lst ?_)
  | (with_reducible refine r_tup ?_)
  | (with_reducible refine r_slice ?_)
  | (with_reducible refine r_nop ?_)
  | (with_reducible refine r_part ?_)
  | (with_reducible refine r_bm ?_)
  | (with_reducible refine r_m1 ?_)
  | (with_reducible refine r_m0 ?_)
  | (with_reducible refine r_is ?_)
  | (with_reducible refine r_maxD ?_)
  | (with_reducible refine r_orT ?_)
  | (with_reducible refine r_truN ?_)
  | (with_reducible refine r_intI ?_)
  | (with_reducible refine r_intB ?_)
  | (with_reducible refine r_max2 ?_)
  | (with_reducible refine r_min2 ?_)
  | (with_reducible refine r_yes ?_)
  | (with_reducible refine r_bl ?_)
  | (with_reducible refine iteT ?_)
  | (with_reducible refine iteF ?_)
  | (with_reducible refine r_iteNT ?_)
  | (with_reducible refine r_iteNF ?_)
  | (with_reducible refine r_minL ?_)
  | (with_reducible refine r_gcons ?_)
  | (with_reducible refine r_gnil ?_)
  | (with_reducible refine r_par ?_)
  | (with_reducible refine r_par3 ?_)
  | (with_reducible refine r_is2 ?_)
  | (with_reducible refine r_is3 ?_)
  | (with_reducible refine r_dget ?_)
  | (with_reducible refine r_callS ?_)
  | (with_reducible refine r_rz ?_)
  | (with_reducible refine r_rev ?_)
  | (with_reducible refine r_isI ?_)
  | (with_reducible refine r_isStr ?_)
  | (with_reducible refine r_ret ?_)
  | (with_reducible refine r_drop ?_)
  | (with_reducible refine r_rI0 ?_)
  | (with_reducible refine r_addI ?_)
  | ((with_reducible show rI (fun _ j => 0 < j) _ (.int _) (.int _) _ _); refine r_rI (by first | omega | decide) ?_)
  | ((with_reducible show rI CDiv _ (.int _) (.int _) _ _); refine r_rI (by constructor <;> omega) ?_)
  | ((with_reducible show rI CPow _ (.int _) (.int _) _ _); refine r_rI (by refine ⟨by decide, by decide, ?_⟩; omega) ?_)
  | ((with_reducible show rMul (.int _) (.int _) _ _); refine r_mulI (cmulW (by omega) (by omega)) ?_)
  | (with_reducible refine r_cmpI ?_)
  | (with_reducible refine r_cmpS ?_)
  | (with_reducible refine r_eqI ?_)
  | (with_reducible refine r_neI ?_)
  | (with_reducible refine r_eqS ?_)
  | (with_reducible refine r_neS ?_)
  | (with_reducible refine r_inSF ?_)
  | (with_reducible refine r_inST ?_)
  | (with_reducible refine r_isiStr ?_)
  | ((with_reducible show rIx _ (.ref _) (.int _) _ _); refine' r_ixL (SqL.of ?h) ?e ?_; (case h => walk_at "hp"); (case e => rfl))
  | ((with_reducible show rSetL (.ref _) (.int _) _ _ _); refine' r_setL ?h ?e ?_; (case h => walk_at "hp"); (case e => rfl)))
local macro_rules | `(tactic| walk_at "g") => `(tactic| repeat walk_at "s")


local macro_rules | `(tactic| walk_at "x") => `(tactic| first | omega | decide +kernel | (simp only [List.length_cons, List.length_nil]; omega))
local macro_rules | `(tactic| walk_at "T") => `(tactic| repeat (first
  | walk_at "s"
  | ((with_reducible show rIx _ (.ref _) (.int _) _ _); refine' r_ixTu (SqT.of ?h) ?e ?_; (case h => first | assumption | walk_at "hp"); (case e => rfl))
  | (with_reducible refine r_lenSet ?_)
  | (with_reducible refine r_asg2 ?_)
  | (with_reducible refine iteDT (by walk_at "x") ?_)
  | (with_reducible refine iteDF (by walk_at "x") ?_)
  | (with_reducible refine iteNT (by walk_at "x") ?_)
  | (with_reducible refine iteNF (by walk_at "x") ?_)))
section
variable {P : Program} {w : World} {K : PySem.W.Frag} {mg : Str → Option Value} {base : Heap}  -- own
theorem ok_take {f : Addr} {fd : FuncData} (F : Fun K "_law_take" "_law_take" s_law_take f fd) : FnOk P w K mg base CX0 1 f fd P_law_take spTake := by
  refine F.ok sc_law_take (fun vs H Q E h => ?_) (fun cdv A outer s H vs Q E hr h => ?_)
  · obtain ⟨b, m, n, rfl, _⟩ := h
    rfl
  · obtain ⟨b, m, n, rfl, ⟨x, y, z, hb, x0, y0, y1, z0, z1⟩, hn, m0, m1, k⟩ := h
    refine ⟨_, (pss_cons (ps_if (pt_cmpR op_gtA (pe_ix (ix_seq : IxR _ (rIx K)) (pv 0) pe_int (fun _ _ => rfl)) pe_int (nomark _)) (pss_cons (ps_set (i := 2) sc_law_take.nd rfl (Or.inl rfl) (pe_op L2.op_mod (pe_ix (ix_seq : IxR _ (rIx K)) (pv 0) pe_int (fun _ _ => rfl)) (pv 1))) (pss_cons (ps_asg (pe_op L2.op_fdiv (pe_ix (ix_seq : IxR _ (rIx K)) (pv 0) pe_int (fun _ _ => rfl)) (pv 1)) (pg_sub (pv 0) pe_int set_list)) (pss_one (ps_ret (pv 2))))) pss_nil) (pss_cons (ps_asg (pe_op (oAdd : OpR _ _ (J.rAdd K)) (pe_ix (ix_seq : IxR _ (rIx K)) (pv 0) pe_int (fun _ _ => rfl)) pe_int) (pg_sub (pv 0) pe_int set_list)) (pss_cons (ps_set (i := 3) sc_law_take.nd rfl (Or.inl rfl) (pe_op L2.op_mod (pe_op L2.op_pow (pe_op (oAdd : OpR _ _ (J.rAdd K)) (pe_op (oAdd : OpR _ _ (J.rAdd K)) (pe_ix (ix_seq : IxR _ (rIx K)) (pv 0) pe_int (fun _ _ => rfl)) (pe_op oMul pe_int (pe_ix (ix_seq : IxR _ (rIx K)) (pv 0) pe_int (fun _ _ => rfl)))) pe_int) pe_int) pe_int)) (pss_cons (ps_set (i := 3) sc_law_take.nd rfl (Or.inl rfl) (pe_op L2.op_mod (pe_op L2.op_pow (pe_op (oAdd : OpR _ _ (J.rAdd K)) (pe_op L2.op_fdiv (pv 3) pe_int) (pe_op oMul pe_int (pe_ix (ix_seq : IxR _ (rIx K)) (pv 0) pe_int (fun _ _ => rfl)))) pe_int) pe_int)) (pss_one (ps_ret (pe_op L2.op_mod (pe_op L2.op_fdiv (pv 3) pe_int) (pv 1)))))))), ?_⟩
    walk_at "g"
    refine r_iteD (fun c => ?_) fun c => ?_
    · walk_at "g"
      exact k _ _ (Int.emod_nonneg _ (by omega)) (Int.emod_lt_of_pos _ (by omega)) (Keep.upd _ _ _) ⟨x / m, y, z, upd_same, Int.ediv_nonneg x0 (by omega), y0, y1, z0, by omega⟩
    · walk_at "g"
      have u0 := Int.emod_nonneg ((y + 130363 * (z + 1) + 401) ^ Int.toNat 5) (b := 2147483647) (by decide)
      have u1 := Int.emod_lt_of_pos ((y + 130363 * (z + 1) + 401) ^ Int.toNat 5) (b := 2147483647) (by decide)
      generalize (y + 130363 * (z + 1) + 401) ^ Int.toNat 5 % 2147483647 = u at u0 u1 ⊢
      walk_at "g"
      exact k _ _ (Int.emod_nonneg _ (by omega)) (Int.emod_lt_of_pos _ (by omega)) (Keep.upd _ _ _) ⟨x, y, z + 1, upd_same, x0, y0, y1, by omega, by omega⟩
theorem ok_box (T : Tx K mg) {f : Addr} {fd : FuncData} (F : Fun K "_law_box" "_law_box" s_law_box f fd) : FnOk P w K mg base CX0 1 f fd P_law_box spBox := by
  refine F.ok sc_law_box (fun vs H Q E h => ?_) (fun cdv A outer s H vs Q E hr h => ?_)
  · obtain ⟨c, rfl, _⟩ := h
    rfl
  · obtain ⟨c, rfl, k⟩ := h
    refine ⟨_, (pss_one (ps_ret (pe_lst (pa_cons (pe_callB (call_maxA rfl) (by rfl) T.z_max (by decide +kernel) (pa_cons pe_int (pa_cons (pe_op L2.op_sub (pv 0) (pe_op L2.op_pow pe_int pe_int)) pa_nil))) (pa_cons (pe_op L2.op_mod (pv 0) pe_int) (pa_cons pe_int pa_nil)))))), ?_⟩
    walk_at "g"
    refine ⟨show 3 ≤ sizeLine by decide, fun p hp => k p _ hp ((Same.refl H).at hp _) ⟨_, _, _, upd_same, ?_, Int.emod_nonneg _ (by decide), Int.emod_lt_of_pos _ (by decide), Int.le_refl _, Int.le_refl _⟩⟩
    split <;> omega
theorem ok_cell (T : Tx K mg) {f : Addr} {fd : FuncData} (F : Fun K "_law_cell" "_law_cell" s_law_cell f fd) : FnOk P w K mg base CX0 1 f fd P_law_cell (spCell K) := by
  refine F.ok sc_law_cell (fun vs H Q E h => ?_) (fun cdv A outer s H vs Q E hr h => ?_)
  · obtain ⟨a, ns, i, rfl, _⟩ := h
    rfl
  · obtain ⟨a, ns, i, rfl, ha, hi, k⟩ := h
    refine ⟨_, (pss_cons (ps_if (pt_cmpR op_ltA (pv 1) (pe_callB (call_lenA : CallR _ _ (rLen K)) (by rfl) T.z_len (by decide +kernel) (pa_cons (pv 0) pa_nil)) (nomark _)) (pss_one (ps_ret (pe_ix (ix_seq : IxR _ (rIx K)) (pv 0) (pv 1) (fun _ _ => rfl)))) pss_nil) (pss_one (ps_ret (pe_op (oAdd : OpR _ _ (J.rAdd K)) (pe_op oMul pe_int (pv 1)) pe_int)))), ?_⟩
    walk_at "g"
    refine r_lenL ha ?_
    walk_at "g"
    rw [List.length_map]
    refine r_iteD (fun c => ?_) fun c => ?_
    · walk_at "g"
      have li : i < ns.length := by omega
      refine r_ixL ha (v := .int ns[i]) ?_ (k _)
      rw [atI_nat]
      rw [List.getElem?_map, List.getElem?_eq_getElem li]; rfl
    · walk_at "g"
      exact k _
theorem ok_name (T : Tx K mg) {f f_law_take : Addr} {fd fd_law_take : FuncData} (F : Fun K "_law_name" "_law_name" s_law_name f fd) (D_law_take : DAt K mg "_law_take" s_law_take P_law_take f_law_take fd_law_take) : FnOk P w K mg base CX0 2 f fd P_law_name spName := by
  have G_law_take : FnOk P w K mg base CX0 1 f_law_take fd_law_take P_law_take spTake := ok_take D_law_take.fn
  refine F.ok sc_law_name (fun vs H Q E h => ?_) (fun cdv A outer s H vs Q E hr h => ?_)
  · obtain ⟨b, n, rfl, _⟩ := h
    rfl
  · obtain ⟨b, n, rfl, hb, hn, k⟩ := h
    refine ⟨_, (pss_cons (ps_set (i := 1) sc_law_name.nd rfl (Or.inr rfl) pe_str) (pss_one (ps_ret (asJoin (K := K) rfl (pe_join pe_str (pe_lc (own := [("_law_k", 2)]) (g := (gName 2)) rfl sc_law_name.nd (pi_range1 rfl T.z_range (pa_cons (pe_op (oAdd : OpR _ _ (J.rAdd K)) pe_int (pe_call G_law_take (hr.mono (by decide)) rfl D_law_take.gl D_law_take.fn.kp D_law_take.bd .nil pass0 (pa_cons (pv 0) (pa_cons pe_int pa_nil)))) pa_nil)) (blkOk_by (N := N_law_name) (sc := defScope s_law_name) (by decide +kernel)) (fun _ _ _ _ _ => pg_name (i := 2) sc_law_name.nd rfl (Or.inl rfl)) (fun _ _ _ _ _ => pts_nil) (fun _ _ _ _ _ => (pe_ix (ix_seq : IxR _ (rIx K)) (pv 1) (pe_call G_law_take (hr.mono (by decide)) rfl D_law_take.gl D_law_take.fn.kp D_law_take.bd .nil pass0 (pa_cons (pv 0) (pa_cons pe_int pa_nil))) (fun _ _ => rfl))))))))), ?_⟩
    walk_at "g"
    refine r_lcRG ?_
    walk_at "g"
    refine ⟨b, _, n, rfl, hb, by omega, by omega, by omega, fun i H1 i0 i1 kp hb1 => ?_⟩
    walk_at "g"
    refine ⟨_, rfl, by omega, by omega, fun D hD => ?_⟩
    refine comp_draw hD hb1 (Nat.lt_of_le_of_lt (show _ ≤ 100 by omega) (by decide)) (fun c => 97 ≤ c ∧ c ≤ 122) (fun j H2 N hj kp2 hb2 hN => ?_) fun cs H2 hl hc kp2 hb2 hd => ?_
    · walk_at "g"
      refine ⟨rfl, ?_⟩
      walk_at "g"
      refine ⟨b, _, n + 1 + j, rfl, hb2, by omega, by omega, by omega, fun u H3 u0 u1 kp3 hb3 => ?_⟩
      obtain ⟨v, rfl, hv⟩ : ∃ v : Nat, u = v ∧ v < 26 := ⟨u.toNat, by omega, by omega⟩
      refine r_ixS (by rw [let_len]; decide) (c := 97 + v) (by rw [atI_nat]; exact let_at v hv) ?_
      exact hN _ _ ⟨by omega, by omega⟩ kp3 hb3
    · refine r_joinC hd (by omega) ?_
      exact k cs H2 ⟨by omega, by omega, hc⟩ (kp.trans kp2) (hb2.mono (by omega))
theorem ok_word (T : Tx K mg) {f f_law_take : Addr} {fd fd_law_take : FuncData} (F : Fun K "_law_word" "_law_word" s_law_word f fd) (D_law_take : DAt K mg "_law_take" s_law_take P_law_take f_law_take fd_law_take) : FnOk P w K mg base CX0 2 f fd P_law_word spWordK := by
  have G_law_take : FnOk P w K mg base CX0 1 f_law_take fd_law_take P_law_take spTake := ok_take D_law_take.fn
  refine F.ok sc_law_word (fun vs H Q E h => ?_) (fun cdv A outer s H vs Q E hr h => ?_)
  · obtain ⟨b, n, m, rfl, _⟩ := h
    rfl
  · obtain ⟨b, n, m, rfl, hm, hb, hn, k⟩ := h
    refine ⟨_, (pss_cons (ps_set (i := 2) sc_law_word.nd rfl (Or.inr rfl) (pe_op (oAdd : OpR _ _ (J.rAdd K)) (pe_op (oAdd : OpR _ _ (J.rAdd K)) (pe_op (oAdd : OpR _ _ (J.rAdd K)) pe_str pe_str) pe_str) pe_str)) (pss_one (ps_ret (asJoin (K := K) rfl (pe_join pe_str (pe_lc (own := [("_law_k", 3)]) (g := (gName 3)) rfl sc_law_word.nd (pi_range1 rfl T.z_range (pa_cons (pe_call G_law_take (hr.mono (by decide)) rfl D_law_take.gl D_law_take.fn.kp D_law_take.bd .nil pass0 (pa_cons (pv 0) (pa_cons (pe_op (oAdd : OpR _ _ (J.rAdd K)) (pv 1) pe_int) pa_nil))) pa_nil)) (blkOk_by (N := N_law_word) (sc := defScope s_law_word) (by decide +kernel)) (fun _ _ _ _ _ => pg_name (i := 3) sc_law_word.nd rfl (Or.inl rfl)) (fun _ _ _ _ _ => pts_nil) (fun _ _ _ _ _ => (pe_ix (ix_seq : IxR _ (rIx K)) (pv 2) (pe_call G_law_take (hr.mono (by decide)) rfl D_law_take.gl D_law_take.fn.kp D_law_take.bd .nil pass0 (pa_cons (pv 0) (pa_cons (pe_callB (call_lenA : CallR _ _ (rLen K)) (by rfl) T.z_len (by decide +kernel) (pa_cons (pv 2) pa_nil)) pa_nil))) (fun _ _ => rfl))))))))), ?_⟩
    walk_at "g"
    refine r_addS (by decide +kernel) ?_
    walk_at "g"
    refine r_addS (by decide +kernel) ?_
    walk_at "g"
    refine r_addS (by decide +kernel) ?_
    have zs : ∀ c ∈ cd (Str.ofString " !#$&()*+,-./0123456789:;<=>?@AZ[]^_az{|}~'" ++ Str.ofString "\"" ++ Str.ofString "\\" ++ Str.ofString "`"), 32 ≤ c ∧ c ≤ 126 := by decide +kernel
    have zl : 1 ≤ (Str.ofString " !#$&()*+,-./0123456789:;<=>?@AZ[]^_az{|}~'" ++ Str.ofString "\"" ++ Str.ofString "\\" ++ Str.ofString "`").length ∧ (Str.ofString " !#$&()*+,-./0123456789:;<=>?@AZ[]^_az{|}~'" ++ Str.ofString "\"" ++ Str.ofString "\\" ++ Str.ofString "`").length ≤ 100 := by decide +kernel
    generalize (Str.ofString " !#$&()*+,-./0123456789:;<=>?@AZ[]^_az{|}~'" ++ Str.ofString "\"" ++ Str.ofString "\\" ++ Str.ofString "`") = z at zs zl ⊢
    walk_at "g"
    refine r_lcRG ?_
    walk_at "g"
    refine ⟨b, _, n, rfl, hb, by omega, by omega, by omega, fun i H1 i0 i1 kp hb1 => ?_⟩
    walk_at "g"
    refine ⟨_, rfl, by omega, by omega, fun D hD => ?_⟩
    refine comp_draw hD hb1 (Nat.lt_of_le_of_lt (show _ ≤ 100 by omega) (by decide)) (fun c => 32 ≤ c ∧ c ≤ 126) (fun j H2 N hj kp2 hb2 hN => ?_) fun cs H2 hl hc kp2 hb2 hd => ?_
    · walk_at "g"
      refine ⟨rfl, ?_⟩
      walk_at "g"
      refine r_len (z := z) (Nat.le_trans zl.2 (by decide)) ?_
      walk_at "g"
      refine ⟨b, _, n + 1 + j, rfl, hb2, by omega, by omega, by omega, fun u H3 u0 u1 kp3 hb3 => ?_⟩
      obtain ⟨v, rfl, hv⟩ : ∃ v : Nat, u = v ∧ v < (cd z).length := ⟨u.toNat, by omega, by rw [← len_cd]; omega⟩
      refine r_ixS (Nat.le_trans zl.2 (by decide)) (c := (cd z)[v]) (by rw [atI_nat]; exact List.getElem?_eq_getElem hv) ?_
      exact hN _ _ (zs _ (List.getElem_mem hv)) kp3 hb3
    · refine r_joinC hd (by omega) ?_
      exact k cs H2 (by omega) hc (kp.trans kp2) (hb2.mono (by omega))
theorem ok_names (T : Tx K mg) {f f_law_take f_law_name : Addr} {fd fd_law_take fd_law_name : FuncData} (F : Fun K "_law_names" "_law_names" s_law_names f fd) (D_law_take : DAt K mg "_law_take" s_law_take P_law_take f_law_take fd_law_take) (D_law_name : DAt K mg "_law_name" s_law_name P_law_name f_law_name fd_law_name) : FnOk P w K mg base CX0 3 f fd P_law_names spNames := by
  have G_law_take : FnOk P w K mg base CX0 1 f_law_take fd_law_take P_law_take spTake := ok_take D_law_take.fn
  have G_law_name : FnOk P w K mg base CX0 2 f_law_name fd_law_name P_law_name spName := ok_name T D_law_name.fn D_law_take
  refine F.ok sc_law_names (fun vs H Q E h => ?_) (fun cdv A outer s H vs Q E hr h => ?_)
  · obtain ⟨b, n, m, rfl, _⟩ := h
    rfl
  · obtain ⟨b, n, m, rfl, hb, hn, m0, m1, k⟩ := h
    refine ⟨_, (pss_cons (ps_set (i := 2) sc_law_names.nd rfl (Or.inr rfl) pe_str) (pss_cons (ps_asg (pe_tup (pa_cons (pe_slice (sl_any : SlR _ (rSl K)) (pe_call G_law_name (hr.mono (by decide)) rfl D_law_name.gl D_law_name.fn.kp D_law_name.bd .nil pass0 (pa_cons (pv 0) pa_nil)) po_none (po_some pe_int)) (pa_cons (pe_call G_law_take (hr.mono (by decide)) rfl D_law_take.gl D_law_take.fn.kp D_law_take.bd .nil pass0 (pa_cons (pv 0) (pa_cons pe_int pa_nil))) pa_nil))) (asGTup (K := K) rfl (pg_tup rfl (pgs_cons (pg_name (i := 3) sc_law_names.nd rfl (Or.inr rfl)) (pgs_cons (pg_name (i := 4) sc_law_names.nd rfl (Or.inl rfl)) pgs_nil))))) (pss_cons (ps_set (i := 5) sc_law_names.nd rfl (Or.inr rfl) (pe_call G_law_take (hr.mono (by decide)) rfl D_law_take.gl D_law_take.fn.kp D_law_take.bd .nil pass0 (pa_cons (pv 0) (pa_cons pe_int pa_nil)))) (pss_cons (ps_setLc (i := 6) (own := [("_law_k", 7)]) (g := (gName 7)) rfl sc_law_names.nd rfl rfl (sw_true rfl rfl rfl (by decide +kernel)) (pi_range1 rfl T.z_range (pa_cons (pv 1) pa_nil)) (blkOk_by (N := N_law_names) (sc := defScope s_law_names) (by decide +kernel)) (fun _ _ _ _ _ => pg_name (i := 7) sc_law_names.nd rfl (Or.inl rfl)) (fun _ _ _ _ _ => pts_nil) (fun _ _ _ _ _ => (pe_op (oAdd : OpR _ _ (J.rAdd K)) (pv 3) (pe_ix (ix_seq : IxR _ (rIx K)) (pv 2) (pe_op L2.op_mod (pe_op (oAdd : OpR _ _ (J.rAdd K)) (pv 5) (pe_op oMul pe_int (pv 7))) pe_int) (fun _ _ => rfl))))) (pss_cons (ps_if (pt_cmpR ((op_eqA hr.units) : OpR _ _ (rEqA K)) (pv 4) pe_int (nomark _)) (pss_one (ps_set (i := 6) sc_law_names.nd rfl (Or.inl rfl) (pe_slice (sl_any : SlR _ (rSl K)) (pe_lc (own := [("_law_k", 7)]) (g := (gName 7)) rfl sc_law_names.nd (pi_range1 rfl T.z_range (pa_cons pe_int pa_nil)) (blkOk_by (N := N_law_names) (sc := defScope s_law_names) (by decide +kernel)) (fun _ _ _ _ _ => pg_name (i := 7) sc_law_names.nd rfl (Or.inl rfl)) (fun _ _ _ _ _ => pts_nil) (fun _ _ _ _ _ => (pe_slice (sl_any : SlR _ (rSl K)) (pe_op (oAdd : OpR _ _ (J.rAdd K)) (pv 3) (pv 2)) po_none (po_some (pe_op (oAdd : OpR _ _ (J.rAdd K)) pe_int (pv 7)))))) po_none (po_some (pv 1))))) pss_nil) (pss_one (ps_ret (pv 6)))))))), ?_⟩
    walk_at "g"
    refine ⟨b, n, rfl, hb, by omega, fun l0 H1 nl0 kp1 hb1 => ?_⟩
    walk_at "g"
    refine r_slS (le_line (by rw [S_len]; have := nl0.2.1; omega)) ?_
    rw [show (6 : Int) = ((6 : Nat) : Int) from rfl, cutS_take, cd_S]
    have nl : (l0.take 6).length ≤ 6 ∧ ∀ c ∈ l0.take 6, 97 ≤ c ∧ c ≤ 122 := ⟨by rw [List.length_take]; omega, fun c hc => nl0.2.2 c (List.mem_of_mem_take hc)⟩
    generalize l0.take 6 = l at nl
    walk_at "g"
    refine ⟨b, _, n + 9, rfl, hb1, by omega, by omega, by omega, fun wy H2 w0 w1 kp2 hb2 => ?_⟩
    walk_at "g"
    refine ⟨show 2 ≤ sizeLine by decide, fun p0 hp0 => ?_⟩
    walk_at "g"
    refine r_gtup (SqT.of upd_same) rfl ?_
    walk_at "g"
    refine ⟨b, _, n + 9 + 1, rfl, hb2.new hp0, by omega, by omega, by omega, fun fi H3 f0 f1 kp3 hb3 => ?_⟩
    obtain ⟨fi, rfl, f2⟩ : ∃ v : Nat, fi = v ∧ v < 26 := ⟨fi.toNat, by omega, by omega⟩
    have kp : Keep b H H3 := ((kp1.trans kp2).trans (Keep.new _ hp0)).trans kp3
    walk_at "g"
    refine r_lcR rfl (by omega) fun D hD => ?_
    refine comp_rng hD ((List.range m).map fun i => wV (l ++ [97 + (fi + 3 * i) % 26])) (by rw [List.length_map, List.length_range]) (Nat.lt_of_le_of_lt m1 (by decide)) (fun i H4 N hi sm hN => ?_) fun H4 sm hd => ?_
    · walk_at "g"
      refine ⟨rfl, ?_⟩
      walk_at "g"
      rw [show (((fi : Nat) : Int) + 3 * ((i : Nat) : Int)) % 26 = (((fi + 3 * i) % 26 : Nat) : Int) by omega]
      refine r_ixS (by rw [let_len]; decide) (c := 97 + (fi + 3 * i) % 26) (by rw [atI_nat]; exact let_at _ (Nat.mod_lt _ (by decide))) ?_
      refine r_addS (le_line (by rw [S_len]; show _ + 1 ≤ _; omega)) ?_
      rw [S_app_one]
      exact hN _ _ (by rw [List.getElem?_map, List.getElem?_range hi]; rfl) (Same.refl _)
    · have kp4 : Keep b H H4 := kp.trans (Keep.same sm)
      have hb4 : Bx H4 b (n + 11) := by
        obtain ⟨x, y, z, e, r⟩ := hb3
        exact ⟨x, y, z, sm _ _ e, r⟩
      walk_at "g"
      refine r_iteD (fun c => ?_) fun c => ?_
      · walk_at "g"
        refine r_lcRG ?_
        walk_at "g"
        refine ⟨8, rfl, by decide, by decide, fun D2 hD2 => ?_⟩
        refine comp_rng (q := 8) hD2 ((List.range 8).map fun i => wV ((l ++ cd (Str.ofString "abcdefghijklmnopqrstuvwxyz")).take (1 + i))) (by rw [List.length_map, List.length_range]) (by decide) (fun i H5 N hi sm5 hN => ?_) fun H5 sm5 hd5 => ?_
        · walk_at "g"
          refine ⟨rfl, ?_⟩
          walk_at "g"
          refine r_addS (le_line (by rw [S_len, let_len]; omega)) ?_
          walk_at "g"
          refine r_slS (le_line (by rw [len_app, S_len, let_len]; omega)) ?_
          rw [show (1 + ((i : Nat) : Int)) = ((1 + i : Nat) : Int) by omega, cutS_take, cd_app, cd_S]
          exact hN _ _ (by rw [List.getElem?_map, List.getElem?_range hi]; rfl) (Same.refl _)
        · walk_at "g"
          refine r_slL (SqL.of hd5) fun D3 hD3 => ?_
          rw [cutV_take, ← List.map_take, List.take_range, Nat.min_eq_left m1]
          walk_at "g"
          have al : ∀ x ∈ l ++ cd (Str.ofString "abcdefghijklmnopqrstuvwxyz"), 97 ≤ x ∧ x ≤ 122 := fun x hx => (List.mem_append.mp hx).elim (nl.2 x) (let_all x)
          have ll : (l ++ cd (Str.ofString "abcdefghijklmnopqrstuvwxyz")).length ≥ 26 := by rw [List.length_append, ← len_cd, let_len]; omega
          have hb5 : Bx H5 b (n + 11) := by
            obtain ⟨x, y, z, e, r⟩ := hb4
            exact ⟨x, y, z, sm5 _ _ e, r⟩
          refine k ((List.range m).map fun i => (l ++ cd (Str.ofString "abcdefghijklmnopqrstuvwxyz")).take (1 + i)) D3 _ (by rw [List.length_map, List.length_range]) (fun x hx => ?_) (nodup_rng fun i j hi hj e => ?_) ((kp4.trans (Keep.same sm5)).trans (Keep.new _ hD3)) (hb5.new hD3) (by rw [upd_same, List.map_map]; rfl)
          · obtain ⟨i, hi, rfl⟩ := List.mem_map.mp hx
            have hi := List.mem_range.mp hi
            exact ⟨by rw [List.length_take]; omega, by rw [List.length_take]; omega, fun c hc => al c (List.mem_of_mem_take hc)⟩
          · have := congrArg List.length e
            rw [List.length_take, List.length_take] at this
            omega
      · walk_at "g"
        refine k ((List.range m).map fun i => l ++ [97 + (fi + 3 * i) % 26]) D _ (by rw [List.length_map, List.length_range]) (fun x hx => ?_) (nodup_rng fun i j hi hj e => ?_) kp4 hb4 (by rw [hd, List.map_map]; rfl)
        · obtain ⟨i, hi, rfl⟩ := List.mem_map.mp hx
          have := nl.1
          refine ⟨by rw [List.length_append, List.length_singleton]; omega, by rw [List.length_append, List.length_singleton]; omega, fun c hc => ?_⟩
          rcases List.mem_append.mp hc with h | h  -- own
          · exact nl.2 c h
          · rw [List.mem_singleton.mp h]
            omega
        · have := (List.append_inj' e rfl).2
          have : 97 + (fi + 3 * i) % 26 = 97 + (fi + 3 * j) % 26 := by simpa using this
          omega
theorem ok_kind (T : Tx K mg) {f f_law_take f_law_name f_law_names : Addr} {fd fd_law_take fd_law_name fd_law_names : FuncData} (F : Fun K "_law_kind" "_law_kind" s_law_kind f fd) (D_law_take : DAt K mg "_law_take" s_law_take P_law_take f_law_take fd_law_take) (D_law_name : DAt K mg "_law_name" s_law_name P_law_name f_law_name fd_law_name)
    (D_law_names : DAt K mg "_law_names" s_law_names P_law_names f_law_names fd_law_names) : FnOk P w K mg base CX0 4 f fd P_law_kind spKind := by
  have G_law_take : FnOk P w K mg base CX0 1 f_law_take fd_law_take P_law_take spTake := ok_take D_law_take.fn
  have G_law_name : FnOk P w K mg base CX0 2 f_law_name fd_law_name P_law_name spName := ok_name T D_law_name.fn D_law_take
  have G_law_names : FnOk P w K mg base CX0 3 f_law_names fd_law_names P_law_names spNames := ok_names T D_law_names.fn D_law_take D_law_name
  refine F.ok sc_law_kind (fun vs H Q E h => ?_) (fun cdv A outer s H vs Q E hr h => ?_)
  · obtain ⟨b, n, rfl, _⟩ := h
    rfl
  · obtain ⟨b, n, rfl, hb, hn, k⟩ := h
    refine ⟨_, (pss_cons (ps_set (i := 1) sc_law_kind.nd rfl (Or.inl rfl) (pe_call G_law_take (hr.mono (by decide)) rfl D_law_take.gl D_law_take.fn.kp D_law_take.bd .nil pass0 (pa_cons (pv 0) (pa_cons pe_int pa_nil)))) (pss_cons (ps_if (pt_cmpR op_ltA (pv 1) pe_int (nomark _)) (pss_cons (ps_set (i := 2) sc_law_kind.nd rfl (Or.inl rfl) (pe_ix (ix_seq : IxR _ (rIx K)) (pe_lst (pa_cons pe_int (pa_cons pe_int (pa_cons (pe_un L2.un_neg pe_int) (pa_cons (pe_un L2.un_neg pe_int) (pa_cons pe_int (pa_cons pe_int (pa_cons (pe_un L2.un_neg pe_int) (pa_cons (pe_op L2.op_sub pe_int (pe_call G_law_take (hr.mono (by decide)) rfl D_law_take.gl D_law_take.fn.kp D_law_take.bd .nil pass0 (pa_cons (pv 0) (pa_cons pe_int pa_nil)))) pa_nil))))))))) (pe_call G_law_take (hr.mono (by decide)) rfl D_law_take.gl D_law_take.fn.kp D_law_take.bd .nil pass0 (pa_cons (pv 0) (pa_cons pe_int pa_nil))) (fun _ _ => rfl))) (pss_one (ps_ret (pe_tup (pa_cons pe_str (pa_cons (pv 2) (pa_cons (pe_callB (call_minA rfl) (by rfl) T.z_min (by decide +kernel) (pa_cons pe_int (pa_cons (pe_op (oAdd : OpR _ _ (J.rAdd K)) (pv 2) (pe_ix (ix_seq : IxR _ (rIx K)) (pe_lst (pa_cons pe_int (pa_cons pe_int (pa_cons pe_int (pa_cons pe_int (pa_cons pe_int (pa_cons pe_int pa_nil))))))) (pe_call G_law_take (hr.mono (by decide)) rfl D_law_take.gl D_law_take.fn.kp D_law_take.bd .nil pass0 (pa_cons (pv 0) (pa_cons pe_int pa_nil))) (fun _ _ => rfl))) pa_nil))) pa_nil))))))) pss_nil) (pss_cons (ps_if (pt_cmpR ((op_eqA hr.units) : OpR _ _ (rEqA K)) (pv 1) pe_int (nomark _)) (pss_one (ps_ret (pe_tup (pa_cons pe_str (pa_cons (pe_callTy (call_tupA : CallR _ _ (rTupOf K)) (by rfl) T.z_tuple (by decide +kernel) (pa_cons (pe_call G_law_names (hr.mono (by decide)) rfl D_law_names.gl D_law_names.fn.kp D_law_names.bd .nil pass0 (pa_cons (pv 0) (pa_cons (pe_op (oAdd : OpR _ _ (J.rAdd K)) pe_int (pe_call G_law_take (hr.mono (by decide)) rfl D_law_take.gl D_law_take.fn.kp D_law_take.bd .nil pass0 (pa_cons (pv 0) (pa_cons pe_int pa_nil)))) pa_nil))) pa_nil)) pa_nil))))) pss_nil) (pss_cons (ps_if (pt_cmpR ((op_eqA hr.units) : OpR _ _ (rEqA K)) (pv 1) pe_int (nomark _)) (pss_one (ps_ret (pe_tup (pa_cons pe_str pa_nil)))) pss_nil) (pss_one (ps_ret (pe_ix (ix_seq : IxR _ (rIx K)) (pe_lst (pa_cons (pe_tup (pa_cons pe_str (pa_cons (pe_ix (ix_seq : IxR _ (rIx K)) (pe_lst (pa_cons pe_int (pa_cons pe_int (pa_cons (pe_op (oAdd : OpR _ _ (J.rAdd K)) pe_int (pe_call G_law_take (hr.mono (by decide)) rfl D_law_take.gl D_law_take.fn.kp D_law_take.bd .nil pass0 (pa_cons (pv 0) (pa_cons pe_int pa_nil)))) pa_nil)))) (pe_call G_law_take (hr.mono (by decide)) rfl D_law_take.gl D_law_take.fn.kp D_law_take.bd .nil pass0 (pa_cons (pv 0) (pa_cons pe_int pa_nil))) (fun _ _ => rfl)) pa_nil))) (pa_cons (pe_tup (pa_cons pe_str (pa_cons (pe_call G_law_name (hr.mono (by decide)) rfl D_law_name.gl D_law_name.fn.kp D_law_name.bd .nil pass0 (pa_cons (pv 0) pa_nil)) pa_nil))) pa_nil))) (pe_op L2.op_mod (pv 1) pe_int) (fun _ _ => rfl)))))))), ?_⟩
    walk_at "g"
    refine ⟨b, _, n, rfl, hb, by omega, by omega, by omega, fun wy H1 w0 w1 kp1 hb1 => ?_⟩
    walk_at "g"
    refine r_iteD (fun c => ?_) fun c => ?_
    · walk_at "g"
      refine ⟨_, rfl, ?_⟩
      walk_at "g"
      refine ⟨_, rfl, ?_⟩
      walk_at "g"
      refine ⟨_, rfl, ?_⟩
      walk_at "g"
      refine ⟨b, _, n + 1, rfl, hb1, by omega, by omega, by omega, fun t H2 t0 t1 kp2 hb2 => ?_⟩
      walk_at "g"
      refine ⟨show 8 ≤ sizeLine by decide, fun p1 hp1 => ?_⟩
      walk_at "g"
      refine ⟨b, _, n + 2, rfl, hb2.new hp1, by omega, by omega, by omega, fun i H3 i0 i1 kp3 hb3 => ?_⟩
      have h1 := kp3 p1 _ upd_same (hb2.ne hp1)
      have key : ∃ lo : Int, atI [V.int 0, V.int 1, V.int (-3), V.int (-120), V.int 95, V.int 999999, V.int (-999999), V.int (10 - t)] i = some (V.int lo) ∧ -999999 ≤ lo ∧ lo ≤ 999999 := by
        rcases (show i = 0 ∨ i = 1 ∨ i = 2 ∨ i = 3 ∨ i = 4 ∨ i = 5 ∨ i = 6 ∨ i = 7 by omega) with rfl | rfl | rfl | rfl | rfl | rfl | rfl | rfl
        all_goals exact ⟨_, rfl, by omega, by omega⟩
      obtain ⟨lo, hlo, lo1, lo2⟩ := key
      refine r_ixL (SqL.of h1) hlo ?_
      walk_at "g"
      refine ⟨show 6 ≤ sizeLine by decide, fun p2 hp2 => ?_⟩
      walk_at "g"
      refine ⟨b, _, n + 3, rfl, hb3.new hp2, by omega, by omega, by omega, fun j H4 j0 j1 kp4 hb4 => ?_⟩
      have h2 := kp4 p2 _ upd_same (hb3.ne hp2)
      have key : ∃ d : Int, atI [V.int 0, V.int 1, V.int 9, V.int 30, V.int 250, V.int 1999998] j = some (V.int d) ∧ 0 ≤ d ∧ d ≤ 1999998 := by
        rcases (show j = 0 ∨ j = 1 ∨ j = 2 ∨ j = 3 ∨ j = 4 ∨ j = 5 by omega) with rfl | rfl | rfl | rfl | rfl | rfl
        all_goals exact ⟨_, rfl, by omega, by omega⟩
      obtain ⟨d, hd, d1, d2⟩ := key
      refine r_ixL (SqL.of h2) hd ?_
      walk_at "g"
      refine ⟨show 3 ≤ sizeLine by decide, fun p3 hp3 => ?_⟩
      refine k (.num lo (if lo + d < 999999 then lo + d else 999999)) p3 _ ⟨lo1, by split <;> omega, by split <;> omega⟩ upd_same ((((kp1.trans kp2).trans (Keep.new _ hp1)).trans kp3).trans (((Keep.new _ hp2).trans kp4).trans (Keep.new _ hp3))) ((hb4.new hp3).mono (by omega))
    · walk_at "g"
      refine r_iteD (fun c2 => ?_) fun c2 => ?_
      · walk_at "g"
        refine ⟨b, _, n + 1, rfl, hb1, by omega, by omega, by omega, fun t H2 t0 t1 kp2 hb2 => ?_⟩
        walk_at "g"
        obtain ⟨t, rfl⟩ : ∃ u : Nat, t = u := ⟨t.toNat, by omega⟩
        refine ⟨b, n + 2, 1 + t, by rw [show (1 + ((t : Nat) : Int)) = ((1 + t : Nat) : Int) by omega]; rfl, hb2, by omega, by omega, by omega, fun ns p H3 hl hn2 nd kp3 hb3 hp => ?_⟩
        walk_at "g"
        refine r_tupOf (SqL.of hp) fun q hq => ?_
        walk_at "g"
        refine ⟨show 2 ≤ sizeLine by decide, fun r hr => ?_⟩
        have qr : q ≠ r := fun e => by rw [e, upd_same] at hr; cases hr
        refine k (.one ns) r _ ⟨by omega, by omega, hn2, nd⟩ ⟨q, upd_same, by rw [upd_ne qr]; exact upd_same⟩ ((((kp1.trans kp2).trans kp3).trans (Keep.new _ hq)).trans (Keep.new _ hr)) (((hb3.new hq).new hr).mono (by omega))
      · walk_at "g"
        refine r_iteD (fun c3 => ?_) fun c3 => ?_
        · walk_at "g"
          refine ⟨show 1 ≤ sizeLine by decide, fun p hp => ?_⟩
          exact k .nam p _ trivial upd_same (kp1.trans (Keep.new _ hp)) ((hb1.new hp).mono (by omega))
        · walk_at "g"
          refine ⟨b, _, n + 1, rfl, hb1, by omega, by omega, by omega, fun t H2 t0 t1 kp2 hb2 => ?_⟩
          walk_at "g"
          refine ⟨show 3 ≤ sizeLine by decide, fun p1 hp1 => ?_⟩
          walk_at "g"
          refine ⟨b, _, n + 2, rfl, hb2.new hp1, by omega, by omega, by omega, fun i H3 i0 i1 kp3 hb3 => ?_⟩
          have h1 := kp3 p1 _ upd_same (hb2.ne hp1)
          have key : ∃ m : Int, atI [V.int 1, V.int 20, V.int (1 + t)] i = some (V.int m) ∧ 1 ≤ m ∧ m ≤ 20 := by
            rcases (show i = 0 ∨ i = 1 ∨ i = 2 by omega) with rfl | rfl | rfl
            all_goals exact ⟨_, rfl, by omega, by omega⟩
          obtain ⟨m, hm, m1, m2⟩ := key
          refine r_ixL (SqL.of h1) hm ?_
          walk_at "g"
          refine ⟨show 2 ≤ sizeLine by decide, fun p2 hp2 => ?_⟩
          walk_at "g"
          refine ⟨b, n + 3, rfl, hb3.new hp2, by omega, fun l H4 nl kp4 hb4 => ?_⟩
          walk_at "g"
          refine ⟨show 2 ≤ sizeLine by decide, fun p3 hp3 => ?_⟩
          walk_at "g"
          refine ⟨show 2 ≤ sizeLine by decide, fun p4 hp4 => ?_⟩
          walk_at "g"
          have h2 := kp4 p2 _ upd_same (hb3.ne hp2)
          have e2 : p2 ≠ p3 := ne_of_none h2 hp3
          have e3 : p2 ≠ p4 := ne_of_none (by rw [upd_ne e2]; exact h2) hp4
          have e4 : p3 ≠ p4 := ne_of_none upd_same hp4
          have kk : Keep b H _ := (((((((kp1.trans kp2).trans (Keep.new _ hp1)).trans kp3).trans (Keep.new _ hp2)).trans kp4).trans (Keep.new _ hp3))).trans (Keep.new (.lst [V.ref p2, V.ref p3]) hp4)
          have bb := ((hb4.new (o := .tup [V.str "own", V.str (S l)]) hp3).new (o := .lst [V.ref p2, V.ref p3]) hp4).mono (show n + 3 + 9 ≤ n + 30 by omega)
          rcases (show wy % 2 = 0 ∨ wy % 2 = 1 by omega) with e | e
          · rw [e]
            refine r_ixL (SqL.of upd_same) rfl ?_
            exact k (.txt m) p2 _ ⟨m1, m2⟩ (show upd _ p4 _ p2 = _ by rw [upd_ne e3, upd_ne e2]; exact h2) kk bb
          · rw [e]
            refine r_ixL (SqL.of upd_same) rfl ?_
            exact k (.own l) p3 _ nl (show upd _ p4 _ p3 = _ by rw [upd_ne e4]; exact upd_same) kk bb
end
end K01

namespace K01
open PySem PySem.Spec PyProof.Rows L2 J M
local macro_rules | `(tactic| walk_at "hp") => `(tactic| first | assumption | exact upd_same | (rw [upd_ne (by assumption)]; walk_at "hp") | (rw [upd_ne (Ne.symm (by assumption))]; walk_at "hp"))
local macro_rules | `(tactic| walk_at "s") => `(tactic| first
  | ((with_reducible refine' r_var ?h ?k); (case h => exact rfl))
  | (with_reducible refine r_c ?_)
  | (with_reducible refine r_op ?_)
  | (with_reducible refine r_un ?_)
  | (with_reducible refine r_seq ?_)
  | (with_reducible refine r_next ?_)
  | (with_reducible refine r_sets ?_)
  | (with_reducible refine r_gname ?_)
  | (with_reducible refine r_ifS ?_)
  | (with_reducible refine r_gsub ?_)
  | (with_reducible refine r_test ?_)
  | (with_reducible refine r_tb ?_)
  | (with_reducible refine r_not ?_)
  | (with_reducible refine r_and ?_)
  | (with_reducible refine r_or ?_)
  | (with_reducible refine r_andV ?_)
  | (with_reducible refine r_orV ?_)
  | (with_reducible refine r_notV ?_)
  | (with_reducible refine r_ifE ?_)
  | (with_reducible refine r_chain ?_)
  | (with_reducible refine r_cb ?_)
  | (with_reducible refine r_cons ?_)
  | (with_reducible refine r_nil ?_)
  | (with_reducible refine r_call ?_)
  | (with_reducible refine r_lst ?_)
  | (with_reducible refine r_tup ?_)
  | (with_reducible refine r_slice ?_)
  | (with_reducible refine r_nop ?_)
  | (with_reducible refine r_part ?_)
  | (with_reducible refine r_bm ?_)
  | (with_reducible refine r_m1 ?_)
  | (with_reducible refine r_m0 ?_)
  | (with_reducible refine r_is ?_)
  | (with_reducible refine r_maxD ?_)
  | (with_reducible refine r_orT ?_)
  | (with_reducible refine r_truN ?_)
  | (with_reducible refine r_intI ?_)
  | (with_reducible refine r_intB ?_)
  | (with_reducible refine r_max2 ?_)
  | (with_reducible refine r_min2 ?_)
  | (with_reducible refine r_yes ?_)
  | (with_reducible refine r_bl ?_)
  | (with_reducible refine iteT ?_)
  | (with_reducible refine iteF ?_)
  | (with_reducible refine r_iteNT ?_)
  | (with_reducible refine r_iteNF ?_)
  | (with_reducible refine r_minL ?_)
  | (with_reducible refine r_gcons ?_)
  | (with_reducible refine r_gnil ?_)
  | (with_reducible refine r_par ?_)
  | (with_reducible refine r_par3 ?_)
  | (with_reducible refine r_is2 ?_)
  | (with_reducible refine r_is3 ?_)
  | (with_reducible refine r_dget ?_)
  | (with_reducible refine r_callS ?_)
  | (with_reducible refine r_rz ?_)
  | (with_reducible refine r_rev ?_)
  | (with_reducible refine r_isI ?_)
  | (with_reducible refine r_isStr ?_)
  | (with_reducible refine r_ret ?_)
  | (with_reducible refine r_drop ?_)
  | (with_reducible refine r_rI0 ?_)
  | (with_reducible refine r_addI ?_)
  | ((with_reducible show rI (fun _ j => 0 < j) _ (.int _) (.int _) _ _); refine r_rI (by first | omega | decide) ?_)
  | ((with_reducible show rI CDiv _ (.int _) (.int _) _ _); refine r_rI (by constructor <;> omega) ?_)
  | ((with_reducible show rI CPow _ (.int _) (.int _) _ _); refine r_rI (by refine ⟨by decide, by decide, ?_⟩; omega) ?_)
  | ((with_reducible show rMul (.int _) (.int _) _ _); refine r_mulI (cmulW (by omega) (by omega)) ?_)
  | (with_reducible refine r_cmpI ?_)
  | (with_reducible refine r_cmpS ?_)
  | (with_reducible refine r_eqI ?_)
  | (with_reducible refine r_neI ?_)
  | (with_reducible refine r_eqS ?_)
  | (with_reducible refine r_neS ?_)
  | (with_reducible refine r_inSF ?_)
  | (with_reducible refine r_inST ?_)
  | (with_reducible refine r_isiStr ?_)
  | ((with_reducible show rIx _ (.ref _) (.int _) _ _); refine' r_ixL (SqL.of ?h) ?e ?_; (case h => walk_at "hp"); (case e => rfl))
  | ((with_reducible show rSetL (.ref _) (.int _) _ _ _); refine' r_setL ?h ?e ?_; (case h => walk_at "hp"); (case e => rfl)))
local macro_rules | `(tactic| walk_at "g") => `(tactic| repeat walk_at "s")


local macro_rules | `(tactic| walk_at "x") => `(tactic| first | omega | decide +kernel | (simp only [List.length_cons, List.length_nil]; omega))
local macro_rules | `(tactic| walk_at "T") => `(tactic| repeat (first
  | walk_at "s"
  | ((with_reducible show rIx _ (.ref _) (.int _) _ _); refine' r_ixTu (SqT.of ?h) ?e ?_; (case h => first | assumption | walk_at "hp"); (case e => rfl))
  | (with_reducible refine r_lenSet ?_)
  | (with_reducible refine r_asg2 ?_)
  | (with_reducible refine iteDT (by walk_at "x") ?_)
  | (with_reducible refine iteDF (by walk_at "x") ?_)
  | (with_reducible refine iteNT (by walk_at "x") ?_)
  | (with_reducible refine iteNF (by walk_at "x") ?_)))
section
variable {P : Program} {w : World} {K : PySem.W.Frag} {mg : Str → Option Value} {base : Heap} {C : Addr} {cd0 : ClassData}
theorem drop_at {α : Type} : ∀ {l : List α} {i : Nat} {x : α}, l[i]? = some x → x :: l.drop (i + 1) = l.drop i
  | [], _, _, h => by cases h
  | _ :: _, 0, _, h => by cases h; rfl
  | _ :: l, i + 1, _, h => drop_at (l := l) (i := i) h
theorem ok_bentS {m lv : Nat} {sp' : Sp} (T : Tx K mg) (XF : ExG K C cd0) (hk : 1 ≤ lv) (hsp : m ≠ 0 → sp' = spBentX (m - 1)) {f f_law_take : Addr} {fd fd_law_take : FuncData} (F : Fun K "_law_bent" "_law_bent" s_law_bent f fd)
    (D_law_take : DAt K mg "_law_take" s_law_take P_law_take f_law_take fd_law_take) (D_law_bent : DAt K mg "_law_bent" s_law_bent P_law_bent f fd) (G_law_bent : FnOk P w K mg base CX0 lv f fd P_law_bent sp') : FnOk P w K mg base CX0 (lv + 1) f fd P_law_bent (spBentX m) := by
  have G_law_take : FnOk P w K mg base CX0 1 f_law_take fd_law_take P_law_take spTake := ok_take D_law_take.fn
  refine F.ok sc_law_bent (fun vs H Q E h => ?_) (fun cdv A outer s H vs Q E hr h => ?_)
  · obtain ⟨b, n, x, d, rfl, _⟩ := h
    rfl
  · obtain ⟨b, n, x, d, rfl, hb, hn, hx, hm, hw, k⟩ := h
    refine ⟨_, (pss_cons (ps_set (i := 2) sc_law_bent.nd rfl (Or.inl rfl) (pe_lst (pa_cons pe_non (pa_cons pe_bl (pa_cons pe_str (pa_cons pe_str (pa_cons pe_str (pa_cons pe_str (pa_cons (pe_un L2.un_neg pe_int) (pa_cons pe_int (pa_cons pe_int (pa_cons pe_int (pa_cons (pe_un L2.un_neg pe_int) (pa_cons (pe_lst pa_nil) (pa_cons pe_dnewK (pa_cons (pe_tup pa_nil) (pa_cons (pe_tup (pa_cons pe_str pa_nil)) (pa_cons (pe_tup (pa_cons pe_str (pa_cons pe_str pa_nil))) pa_nil)))))))))))))))))) (pss_cons (ps_set (i := 2) sc_law_bent.nd rfl (Or.inl rfl) (pe_op (oAdd : OpR _ _ (J.rAdd K)) (pv 2) (pe_lst (pa_cons (pe_lst (pa_cons pe_str pa_nil)) (pa_cons pe_str (pa_cons pe_int pa_nil)))))) (pss_cons (ps_if (PW.pt (pw_and (pt_val (pe_callB (call_isiX XF.toExF : CallR _ _ (rIsiX K C)) (by rfl) T.z_isinstance (by decide +kernel) (pa_cons (pv 1) (pa_cons (pe_bltn (v := .ty "str") (u := .type "str") rfl T.z_str (by decide +kernel) rfl) pa_nil)))) (pw_and1 (pt_cmpR ((op_neA hr.units) : OpR _ _ (rNeA K)) (pv 1) pe_str (nomark _))))) (pss_cons (ps_set (i := 3) sc_law_bent.nd rfl (Or.inl rfl) (pe_call G_law_take (hr.mono (by omega)) rfl D_law_take.gl D_law_take.fn.kp D_law_take.bd .nil pass0 (pa_cons (pv 0) (pa_cons (pe_callB (call_lenA : CallR _ _ (rLen K)) (by rfl) T.z_len (by decide +kernel) (pa_cons (pv 1) pa_nil)) pa_nil)))) (pss_cons (ps_set (i := 4) sc_law_bent.nd rfl (Or.inl rfl) (pe_op (oAdd : OpR _ _ (J.rAdd K)) (pe_op (oAdd : OpR _ _ (J.rAdd K)) pe_str pe_str) pe_str)) (pss_cons (ps_set (i := 5) sc_law_bent.nd rfl (Or.inl rfl) (pe_op (oAdd : OpR _ _ (J.rAdd K)) (pe_op (oAdd : OpR _ _ (J.rAdd K)) (pe_slice (sl_ts : SlR _ (rSlX K)) (pv 1) po_none (po_some (pv 3))) (pe_ix (ix_seq : IxR _ (rIx K)) (pv 4) (pe_call G_law_take (hr.mono (by omega)) rfl D_law_take.gl D_law_take.fn.kp D_law_take.bd .nil pass0 (pa_cons (pv 0) (pa_cons pe_int pa_nil))) (fun _ _ => rfl))) (pe_slice (sl_ts : SlR _ (rSlX K)) (pv 1) (po_some (pe_op (oAdd : OpR _ _ (J.rAdd K)) (pv 3) pe_int)) po_none))) (pss_one (ps_ret (pe_ix (ix_seq : IxR _ (rIx K)) (pe_lst (pa_cons (pv 5) (pa_cons (pe_op (oAdd : OpR _ _ (J.rAdd K)) (pv 1) pe_str) (pa_cons (pe_slice (sl_ts : SlR _ (rSlX K)) (pe_op oMul (pv 1) pe_int) po_none (po_some pe_int)) (pa_cons (pe_lst (pa_cons (pv 1) pa_nil)) pa_nil))))) (pe_call G_law_take (hr.mono (by omega)) rfl D_law_take.gl D_law_take.fn.kp D_law_take.bd .nil pass0 (pa_cons (pv 0) (pa_cons pe_int pa_nil))) (fun _ _ => rfl))))))) pss_nil) (pss_cons (ps_if (PW.pt (pw_or (pt_not (pt_val (pe_callB (call_isiX XF.toExF : CallR _ _ (rIsiX K C)) (by rfl) T.z_isinstance (by decide +kernel) (pa_cons (pv 1) (pa_cons (pe_bltn (v := .ty "tuple") (u := .type "tuple") rfl T.z_tuple (by decide +kernel) rfl) pa_nil))))) (pw_or1 (pt_cmpR (op_eqK hr.units : OpR _ _ (rEqK K)) (pv 1) (pe_tup pa_nil) (nomark _))))) (pss_one (ps_ret (pe_ix (ix_seq : IxR _ (rIx K)) (pv 2) (pe_call G_law_take (hr.mono (by omega)) rfl D_law_take.gl D_law_take.fn.kp D_law_take.bd .nil pass0 (pa_cons (pv 0) (pa_cons pe_int pa_nil))) (fun _ _ => rfl)))) pss_nil) (pss_cons (ps_set (i := 3) sc_law_bent.nd rfl (Or.inl rfl) (pe_call G_law_take (hr.mono (by omega)) rfl D_law_take.gl D_law_take.fn.kp D_law_take.bd .nil pass0 (pa_cons (pv 0) (pa_cons (pe_callB (call_lenA : CallR _ _ (rLen K)) (by rfl) T.z_len (by decide +kernel) (pa_cons (pv 1) pa_nil)) pa_nil)))) (pss_cons (ps_set (i := 6) sc_law_bent.nd rfl (Or.inl rfl) (pe_call G_law_take (hr.mono (by omega)) rfl D_law_take.gl D_law_take.fn.kp D_law_take.bd .nil pass0 (pa_cons (pv 0) (pa_cons pe_int pa_nil)))) (pss_cons (ps_if (pt_cmpR ((op_eqA hr.units) : OpR _ _ (rEqA K)) (pv 6) pe_int (nomark _)) (pss_one (ps_ret (pe_op (oAdd : OpR _ _ (J.rAdd K)) (pe_slice (sl_ts : SlR _ (rSlX K)) (pv 1) po_none (po_some (pv 3))) (pe_slice (sl_ts : SlR _ (rSlX K)) (pv 1) (po_some (pe_op (oAdd : OpR _ _ (J.rAdd K)) (pv 3) pe_int)) po_none)))) pss_nil) (pss_cons (ps_if (pt_cmpR ((op_eqA hr.units) : OpR _ _ (rEqA K)) (pv 6) pe_int (nomark _)) (pss_one (ps_ret (pe_op (oAdd : OpR _ _ (J.rAdd K)) (pv 1) (pe_tup (pa_cons (pe_ix (ix_seq : IxR _ (rIx K)) (pv 2) (pe_call G_law_take (hr.mono (by omega)) rfl D_law_take.gl D_law_take.fn.kp D_law_take.bd .nil pass0 (pa_cons (pv 0) (pa_cons pe_int pa_nil))) (fun _ _ => rfl)) pa_nil))))) pss_nil) (pss_cons (ps_if (pt_cmpR ((op_eqA hr.units) : OpR _ _ (rEqA K)) (pv 6) pe_int (nomark _)) (pss_one (ps_ret (pe_ix (ix_seq : IxR _ (rIx K)) (pe_lst (pa_cons (pe_callTy (call_listA : CallR _ _ (rListOf K)) (by rfl) T.z_list (by decide +kernel) (pa_cons (pv 1) pa_nil)) (pa_cons (pe_revT (pv 1)) (pa_cons (pe_tup (pa_cons (pv 1) pa_nil)) (pa_cons (pe_op (oAdd : OpR _ _ (J.rAdd K)) (pv 1) (pe_slice (sl_ts : SlR _ (rSlX K)) (pv 1) (po_some pe_int) po_none)) pa_nil))))) (pe_call G_law_take (hr.mono (by omega)) rfl D_law_take.gl D_law_take.fn.kp D_law_take.bd .nil pass0 (pa_cons (pv 0) (pa_cons pe_int pa_nil))) (fun _ _ => rfl)))) pss_nil) (pss_cons (ps_if (PW.pt (pw_and (pt_cmpR ((op_eqA hr.units) : OpR _ _ (rEqA K)) (pv 6) pe_int (nomark _)) (pw_and1 (pt_cmpR op_gtA (pv 3) pe_int (nomark _))))) (pss_one (ps_ret (pe_op (oAdd : OpR _ _ (J.rAdd K)) (pe_op (oAdd : OpR _ _ (J.rAdd K)) (pe_slice (sl_ts : SlR _ (rSlX K)) (pv 1) po_none (po_some (pv 3))) (pe_tup (pa_cons (pe_call G_law_bent (hr.mono (by omega)) rfl D_law_bent.gl D_law_bent.fn.kp D_law_bent.bd .nil pass0 (pa_cons (pv 0) (pa_cons (pe_ix (ix_seq : IxR _ (rIx K)) (pv 1) (pv 3) (fun _ _ => rfl)) pa_nil))) pa_nil))) (pe_slice (sl_ts : SlR _ (rSlX K)) (pv 1) (po_some (pe_op (oAdd : OpR _ _ (J.rAdd K)) (pv 3) pe_int)) po_none)))) pss_nil) (pss_one (ps_ret (pe_op (oAdd : OpR _ _ (J.rAdd K)) (pe_op (oAdd : OpR _ _ (J.rAdd K)) (pe_slice (sl_ts : SlR _ (rSlX K)) (pv 1) po_none (po_some (pv 3))) (pe_tup (pa_cons (pe_ix (ix_seq : IxR _ (rIx K)) (pv 2) (pe_call G_law_take (hr.mono (by omega)) rfl D_law_take.gl D_law_take.fn.kp D_law_take.bd .nil pass0 (pa_cons (pv 0) (pa_cons pe_int pa_nil))) (fun _ _ => rfl)) pa_nil))) (pe_slice (sl_ts : SlR _ (rSlX K)) (pv 1) (po_some (pe_op (oAdd : OpR _ _ (J.rAdd K)) (pv 3) pe_int)) po_none)))))))))))))), ?_⟩
    walk_at "T"
    refine ⟨1, rfl, ?_⟩
    walk_at "T"
    refine ⟨1000000, rfl, ?_⟩
    walk_at "T"
    refine ⟨show 0 ≤ sizeLine by decide, fun p1 hp1 => ?_⟩
    have t1 : Same H (upd H p1 (.lst [])) := (Same.refl H).at hp1 _
    have e1 : upd H p1 (.lst []) p1 = some (.lst []) := upd_same
    have b1 := hb.new (o := .lst []) hp1
    have n1 : p1 ≠ b := hb.ne hp1
    generalize upd H p1 (.lst []) = A1 at t1 e1 b1 ⊢
    walk_at "T"
    intro p2 hp2
    have t2 : Same A1 (upd A1 p2 (.dK [])) := (Same.refl A1).at hp2 _
    have e2 : upd A1 p2 (.dK []) p2 = some (.dK []) := upd_same
    have b2 := b1.new (o := .dK []) hp2
    have n2 : p2 ≠ b := b1.ne hp2
    generalize upd A1 p2 (.dK []) = A2 at t2 e2 b2 ⊢
    walk_at "T"
    refine ⟨show 0 ≤ sizeLine by decide, fun p3 hp3 => ?_⟩
    have t3 : Same A2 (upd A2 p3 (.tup [])) := (Same.refl A2).at hp3 _
    have e3 : upd A2 p3 (.tup []) p3 = some (.tup []) := upd_same
    have b3 := b2.new (o := .tup []) hp3
    have n3 : p3 ≠ b := b2.ne hp3
    generalize upd A2 p3 (.tup []) = A3 at t3 e3 b3 ⊢
    walk_at "T"
    refine ⟨show 1 ≤ sizeLine by decide, fun p4 hp4 => ?_⟩
    have t4 : Same A3 (upd A3 p4 (.tup [V.str "a"])) := (Same.refl A3).at hp4 _
    have e4 : upd A3 p4 (.tup [V.str "a"]) p4 = some (.tup [V.str "a"]) := upd_same
    have b4 := b3.new (o := .tup [V.str "a"]) hp4
    have n4 : p4 ≠ b := b3.ne hp4
    generalize upd A3 p4 (.tup [V.str "a"]) = A4 at t4 e4 b4 ⊢
    walk_at "T"
    refine ⟨show 2 ≤ sizeLine by decide, fun p5 hp5 => ?_⟩
    have t5 : Same A4 (upd A4 p5 (.tup [V.str "a", V.str "a"])) := (Same.refl A4).at hp5 _
    have e5 : upd A4 p5 (.tup [V.str "a", V.str "a"]) p5 = some (.tup [V.str "a", V.str "a"]) := upd_same
    have b5 := b4.new (o := .tup [V.str "a", V.str "a"]) hp5
    have n5 : p5 ≠ b := b4.ne hp5
    generalize upd A4 p5 (.tup [V.str "a", V.str "a"]) = A5 at t5 e5 b5 ⊢
    walk_at "T"
    refine ⟨show 16 ≤ sizeLine by decide, fun p6 hp6 => ?_⟩
    have t6 : Same A5 (upd A5 p6 (.lst [V.non, V.bl true, V.str "", V.str "Ab", V.str "ninechars", V.str "a b", V.int (-1), V.int 0, V.int 21, V.int 1000000, V.int (-1000000), V.ref p1, V.ref p2, V.ref p3, V.ref p4, V.ref p5])) := (Same.refl A5).at hp6 _
    have e6 : upd A5 p6 (.lst [V.non, V.bl true, V.str "", V.str "Ab", V.str "ninechars", V.str "a b", V.int (-1), V.int 0, V.int 21, V.int 1000000, V.int (-1000000), V.ref p1, V.ref p2, V.ref p3, V.ref p4, V.ref p5]) p6 = some (.lst [V.non, V.bl true, V.str "", V.str "Ab", V.str "ninechars", V.str "a b", V.int (-1), V.int 0, V.int 21, V.int 1000000, V.int (-1000000), V.ref p1, V.ref p2, V.ref p3, V.ref p4, V.ref p5]) := upd_same
    have b6 := b5.new (o := .lst [V.non, V.bl true, V.str "", V.str "Ab", V.str "ninechars", V.str "a b", V.int (-1), V.int 0, V.int 21, V.int 1000000, V.int (-1000000), V.ref p1, V.ref p2, V.ref p3, V.ref p4, V.ref p5]) hp6
    have n6 : p6 ≠ b := b5.ne hp6
    generalize upd A5 p6 (.lst [V.non, V.bl true, V.str "", V.str "Ab", V.str "ninechars", V.str "a b", V.int (-1), V.int 0, V.int 21, V.int 1000000, V.int (-1000000), V.ref p1, V.ref p2, V.ref p3, V.ref p4, V.ref p5]) = A6 at t6 e6 b6 ⊢
    walk_at "T"
    refine ⟨show 1 ≤ sizeLine by decide, fun p7 hp7 => ?_⟩
    have t7 : Same A6 (upd A6 p7 (.lst [V.str "a"])) := (Same.refl A6).at hp7 _
    have e7 : upd A6 p7 (.lst [V.str "a"]) p7 = some (.lst [V.str "a"]) := upd_same
    have b7 := b6.new (o := .lst [V.str "a"]) hp7
    have n7 : p7 ≠ b := b6.ne hp7
    generalize upd A6 p7 (.lst [V.str "a"]) = A7 at t7 e7 b7 ⊢
    walk_at "T"
    refine ⟨show 3 ≤ sizeLine by decide, fun p8 hp8 => ?_⟩
    have t8 : Same A7 (upd A7 p8 (.lst [V.ref p7, V.str "number", V.int 8])) := (Same.refl A7).at hp8 _
    have e8 : upd A7 p8 (.lst [V.ref p7, V.str "number", V.int 8]) p8 = some (.lst [V.ref p7, V.str "number", V.int 8]) := upd_same
    have b8 := b7.new (o := .lst [V.ref p7, V.str "number", V.int 8]) hp8
    have n8 : p8 ≠ b := b7.ne hp8
    generalize upd A7 p8 (.lst [V.ref p7, V.str "number", V.int 8]) = A8 at t8 e8 b8 ⊢
    refine r_cat (t8 _ _ (t7 _ _ e6)) e8 (show 16 + 3 ≤ 16777216 by decide) fun p9 hp9 => ?_
    have t9 : Same A8 (upd A8 p9 (.lst ([V.non, V.bl true, V.str "", V.str "Ab", V.str "ninechars", V.str "a b", V.int (-1), V.int 0, V.int 21, V.int 1000000, V.int (-1000000), V.ref p1, V.ref p2, V.ref p3, V.ref p4, V.ref p5] ++ [V.ref p7, V.str "number", V.int 8]))) := (Same.refl A8).at hp9 _
    have e9 : upd A8 p9 (.lst ([V.non, V.bl true, V.str "", V.str "Ab", V.str "ninechars", V.str "a b", V.int (-1), V.int 0, V.int 21, V.int 1000000, V.int (-1000000), V.ref p1, V.ref p2, V.ref p3, V.ref p4, V.ref p5] ++ [V.ref p7, V.str "number", V.int 8])) p9 = some (.lst ([V.non, V.bl true, V.str "", V.str "Ab", V.str "ninechars", V.str "a b", V.int (-1), V.int 0, V.int 21, V.int 1000000, V.int (-1000000), V.ref p1, V.ref p2, V.ref p3, V.ref p4, V.ref p5] ++ [V.ref p7, V.str "number", V.int 8])) := upd_same
    have b9 := b8.new (o := .lst ([V.non, V.bl true, V.str "", V.str "Ab", V.str "ninechars", V.str "a b", V.int (-1), V.int 0, V.int 21, V.int 1000000, V.int (-1000000), V.ref p1, V.ref p2, V.ref p3, V.ref p4, V.ref p5] ++ [V.ref p7, V.str "number", V.int 8])) hp9
    have n9 : p9 ≠ b := b8.ne hp9
    generalize upd A8 p9 (.lst ([V.non, V.bl true, V.str "", V.str "Ab", V.str "ninechars", V.str "a b", V.int (-1), V.int 0, V.int 21, V.int 1000000, V.int (-1000000), V.ref p1, V.ref p2, V.ref p3, V.ref p4, V.ref p5] ++ [V.ref p7, V.str "number", V.int 8])) = A9 at t9 e9 b9 ⊢
    have od : ∃ (o : Addr) (X : List V) (Dl : List PyData), o = p9 ∧ A9 o = some (.lst X) ∧ X.length = 19 ∧ DdAll b A9 X Dl ∧ ∀ e ∈ Dl, wt e ≤ 201 ∧ e.depth ≤ 1 := by
      refine ⟨p9, _, [.none, .bool true, .str "", .str "Ab", .str "ninechars", .str "a b", .int (-1), .int 0, .int 21, .int 1000000, .int (-1000000), .list [], .dict [], .tuple [], .tuple [.str "a"], .tuple [.str "a", .str "a"], .list [.str "a"], .str "number", .int 8], rfl, e9, rfl, ?_, ?_⟩
      · have st : ∀ z : Str, decide (z.length ≤ 1000 ∧ ∀ c ∈ cd z, c ≤ 126) = true → Dd b A9 (.str z) (.str z) := fun z h => .str z (of_decide_eq_true h).1 (of_decide_eq_true h).2
        have sa := st "a" (by decide +kernel)
        have s29 := ((((((t3.trans t4).trans t5).trans t6).trans t7).trans t8).trans t9)
        exact .cons .non (.cons (.bl true) (.cons (st _ (by decide +kernel)) (.cons (st _ (by decide +kernel)) (.cons (st _ (by decide +kernel)) (.cons (st _ (by decide +kernel)) (.cons (.int _ (by decide)) (.cons (.int _ (by decide)) (.cons (.int _ (by decide)) (.cons (.int _ (by decide)) (.cons (.int _ (by decide))
          (.cons (.lst (s29 _ _ (t2 _ _ e1)) n1 .nil) (.cons (.dct (s29 _ _ e2)) (.cons (.tup (t9 _ _ (t8 _ _ (t7 _ _ (t6 _ _ (t5 _ _ (t4 _ _ e3)))))) .nil) (.cons (.tup (t9 _ _ (t8 _ _ (t7 _ _ (t6 _ _ (t5 _ _ e4))))) (.cons sa .nil)) (.cons (.tup (t9 _ _ (t8 _ _ (t7 _ _ (t6 _ _ e5)))) (.cons sa (.cons sa .nil)))
          (.cons (.lst (t9 _ _ (t8 _ _ e7)) n7 (.cons sa .nil)) (.cons (st _ (by decide +kernel)) (.cons (.int _ (by decide)) .nil))))))))))))))))))
      · intro e he
        have : ([.none, .bool true, .str "", .str "Ab", .str "ninechars", .str "a b", .int (-1), .int 0, .int 21, .int 1000000, .int (-1000000), .list [], .dict [], .tuple [], .tuple [.str "a"], .tuple [.str "a", .str "a"], .list [.str "a"], .str "number", .int 8] : List PyData).all (fun e => decide (wt e ≤ 201 ∧ e.depth ≤ 1)) = true := by decide +kernel
        exact of_decide_eq_true (List.all_eq_true.mp this e he)
    obtain ⟨o, X, Dl, rfl, ho, hX, hD, hW⟩ := od
    have s9 : Same H A9 := ((((((((t1.trans t2).trans t3).trans t4).trans t5).trans t6).trans t7).trans t8).trans t9)
    replace hx := hx.same s9
    replace k : ∀ (y : V) (e : PyData) (H' : Hp), Keep b A9 H' → Bx H' b (n + 4 * (m + 1)) → Dd b H' y e → BentOf d e → Q y H' := fun y e H' kp => k y e H' ((Keep.same s9).trans kp)
    clear t1 t2 t3 t4 t5 t6 t7 t8 t9 e1 e2 e3 e4 e5 e6 e7 e8 e9 b1 b2 b3 b4 b5 b6 b7 b8 n1 n2 n3 n4 n5 n6 n7 n8 hp1 hp2 hp3 hp4 hp5 hp6 hp7 hp8 s9 hb
    have pick : ∀ (A : Hp) (n' : Nat) (N : VK) (E' : XK), A o = some (.lst X) → DdAll b A X Dl → Bx A b n' → n' ≤ 1000000000 → (∀ (y : V) (e : PyData) (A' : Hp), Keep b A A' → Bx A' b (n' + 1) → Dd b A' y e → wt e ≤ 201 → e.depth ≤ 1 → N y A') →
        spTake [V.ref b, V.int 18] A (fun k H' => rIx K (V.ref o) k H' N) E' := fun A n' N E' hA hD hB hn q => by
      refine ⟨b, _, n', rfl, hB, hn, by decide, by decide, fun i A' i0 i1 kp hB' => ?_⟩
      obtain ⟨v, rfl, hv⟩ : ∃ v : Nat, i = v ∧ v < 18 := ⟨i.toNat, by omega, by omega⟩
      obtain ⟨y, e, h1, h2, h3⟩ := hD.at_ (j := v) (by omega)
      obtain ⟨w1, w2⟩ := hW e (List.mem_of_getElem? h2)
      exact r_ixL (SqL.of (kp _ _ hA n9)) (atI_nat h1) (q y e A' kp hB' (h3.keep hB kp) w1 w2)
    refine r_gname ?_
    refine r_seqJ (fun σ' H' => σ' = [some (V.ref b), some x, some (V.ref o), none, none, none, none] ∧ H' = A9 ∧ (isSD d = true → wt d = 2)) (fun N hN => ?_) ?_
    · walk_at "T"
      refine hx.isS ?_
      cases q : isSD d with
      | false => exact ⟨_, rfl, iteF (hN _ _ ⟨rfl, rfl, fun z => (Bool.false_ne_true (q.symm.trans z)).elim⟩)⟩
      | true =>
        cases hx with
        | str z hz c126 =>
          refine ⟨_, rfl, iteT ?_⟩
          walk_at "T"
          refine r_iteN (fun c => ?_) fun c => ?_
          rotate_left
          · refine hN _ _ ⟨rfl, rfl, fun _ => ?_⟩
            rw [wt_str, c]; decide +kernel
          have hwz : 10 * z.length + 2 ≤ 9000 := by rw [← wt_str]; exact hw
          have z1 : 1 ≤ z.length := by
            rcases Nat.eq_zero_or_pos z.length with h0 | h0
            · exact absurd (by rw [str_eq]; rw [len_cd] at h0; rw [List.length_eq_zero_iff.mp h0]; decide +kernel) c
            · exact h0
          walk_at "T"
          refine r_len (Nat.le_trans hz (by decide)) ?_
          walk_at "T"
          refine ⟨b, _, n, rfl, b9, by omega, by omega, by omega, fun i A1 i0 i1 kp1 hb1 => ?_⟩
          obtain ⟨v, rfl, hv⟩ : ∃ v : Nat, i = v ∧ v < z.length := ⟨i.toNat, by omega, by omega⟩
          walk_at "T"
          refine r_addS (le_line (by decide +kernel)) ?_
          walk_at "T"
          refine r_addS (le_line (by decide +kernel)) ?_
          have hSG : ∀ v, v < 9 → (match (cd ((Str.ofString "aZ1 -" ++ Str.ofString "
	~") ++ Str.ofString "_"))[v]? with | some c => decide (c ≤ 126) | none => false) = true := by decide +kernel
          have lSG : ((Str.ofString "aZ1 -" ++ Str.ofString "
	~") ++ Str.ofString "_").length ≤ 1000 := by decide +kernel
          generalize ((Str.ofString "aZ1 -" ++ Str.ofString "
	~") ++ Str.ofString "_") = SG at hSG lSG ⊢
          walk_at "T"
          refine .inr ⟨z, rfl, Nat.le_trans hz (by decide), ?_⟩
          rw [cutS_take]
          walk_at "T"
          refine ⟨b, _, n + 1, rfl, hb1, by omega, by decide, by decide, fun j A2 j0 j1 kp2 hb2 => ?_⟩
          obtain ⟨u, rfl, hu⟩ : ∃ v : Nat, j = v ∧ v < 9 := ⟨j.toNat, by omega, by omega⟩
          have hu := hSG u hu
          cases hc : (cd SG)[u]? with
          | none => rw [hc] at hu; exact (Bool.false_ne_true hu).elim
          | some s0 =>
            rw [hc] at hu
            have hu : s0 ≤ 126 := of_decide_eq_true hu
            refine r_ixS (Nat.le_trans lSG (by decide)) (atI_nat hc) ?_
            have tl : (S ((cd z).take v)).length = v := by rw [S_len, List.length_take, ← len_cd]; omega
            refine r_addS (le_line (by rw [tl]; show v + 1 ≤ _; omega)) ?_
            walk_at "T"
            refine .inr ⟨z, rfl, Nat.le_trans hz (by decide), ?_⟩
            rw [show ((v : Nat) : Int) + 1 = ((v + 1 : Nat) : Int) by omega, cutS_drop]
            have dl : (S ((cd z).drop (v + 1))).length = z.length - (v + 1) := by rw [S_len, List.length_drop, ← len_cd]
            have ol : (S ((cd z).take v) ++ (⟨#[s0]⟩ : Str)).length = v + 1 := by rw [len_app, tl]; rfl
            refine r_addS (le_line (by rw [ol, dl]; omega)) ?_
            have OL : ((S ((cd z).take v) ++ (⟨#[s0]⟩ : Str)) ++ S ((cd z).drop (v + 1))).length = z.length := by rw [len_app, ol, dl]; omega
            have OC : ∀ c ∈ cd ((S ((cd z).take v) ++ (⟨#[s0]⟩ : Str)) ++ S ((cd z).drop (v + 1))), c ≤ 126 := fun c hc => by
              rw [cd_app, cd_app, cd_S, cd_S, cd_one] at hc
              rcases List.mem_append.mp hc with hc | hc  -- own
              · rcases List.mem_append.mp hc with hc | hc
                · exact c126 c (List.mem_of_mem_take hc)
                · rw [List.mem_singleton.mp hc]; exact hu
              · exact c126 c (List.mem_of_mem_drop hc)
            generalize ((S ((cd z).take v) ++ (⟨#[s0]⟩ : Str)) ++ S ((cd z).drop (v + 1))) = OT at OL OC ⊢
            walk_at "T"
            have la : (Str.ofString "a").length = 1 := by decide +kernel
            refine r_addS (le_line (by omega)) ?_
            have AL : (z ++ Str.ofString "a").length = z.length + 1 := by rw [len_app, la]
            have AC : ∀ c ∈ cd (z ++ Str.ofString "a"), c ≤ 126 := fun c hc => by
              rw [cd_app] at hc
              rcases List.mem_append.mp hc with hc | hc  -- own
              · exact c126 c hc
              · exact (show ∀ c ∈ cd (Str.ofString "a"), c ≤ 126 by decide +kernel) c hc
            generalize z ++ Str.ofString "a" = AT at AL AC ⊢
            walk_at "T"
            refine r_mulS (mul_ok (n := 8) hz (by decide)) ?_
            have ml : (Txt.mul z ((8 : Nat) : Int)).length = 8 * z.length ∧ ∀ c ∈ cd (Txt.mul z ((8 : Nat) : Int)), c ≤ 126 := by
              have e : cd (Txt.mul z ((8 : Nat) : Int)) = (List.replicate 8 (cd z)).flatten := mul_cd _ _
              refine ⟨by rw [len_cd, e, rep_len, ← len_cd], fun c hc => ?_⟩
              rw [e] at hc
              obtain ⟨l, hl, hc⟩ := List.mem_flatten.mp hc
              rw [(List.mem_replicate.mp hl).2] at hc
              exact c126 c hc
            obtain ⟨mlen, mc⟩ := ml
            rw [show ((8 : Nat) : Int) = (8 : Int) from rfl] at mlen mc
            generalize Txt.mul z 8 = MT at mlen mc ⊢
            walk_at "T"
            refine .inr ⟨MT, rfl, le_line (by omega), ?_⟩
            rw [show (200 : Int) = ((200 : Nat) : Int) from rfl, cutS_take]
            have CL : (S ((cd MT).take 200)).length ≤ 200 := by rw [S_len, List.length_take]; omega
            have CC : ∀ c ∈ cd (S ((cd MT).take 200)), c ≤ 126 := fun c hc => by rw [cd_S] at hc; exact mc c (List.mem_of_mem_take hc)
            generalize S ((cd MT).take 200) = CT at CL CC ⊢
            walk_at "T"
            refine ⟨show 1 ≤ sizeLine by decide, fun q1 hq1 => ?_⟩
            walk_at "T"
            refine ⟨show 4 ≤ sizeLine by decide, fun q2 hq2 => ?_⟩
            have t1 : Same A2 (upd A2 q1 (.lst [V.str z])) := (Same.refl A2).at hq1 _
            have e1 : upd A2 q1 (.lst [V.str z]) q1 = some (.lst [V.str z]) := upd_same
            have b1 := hb2.new (o := .lst [V.str z]) hq1
            have n1 : q1 ≠ b := hb2.ne hq1
            generalize upd A2 q1 (.lst [V.str z]) = A3 at t1 e1 b1 hq2 ⊢
            have t2 : Same A3 (upd A3 q2 (.lst [V.str OT, V.str AT, V.str CT, V.ref q1])) := (Same.refl A3).at hq2 _
            have e2 : upd A3 q2 (.lst [V.str OT, V.str AT, V.str CT, V.ref q1]) q2 = some (.lst [V.str OT, V.str AT, V.str CT, V.ref q1]) := upd_same
            have b2 := b1.new (o := .lst [V.str OT, V.str AT, V.str CT, V.ref q1]) hq2
            have n2 : q2 ≠ b := b1.ne hq2
            generalize upd A3 q2 (.lst [V.str OT, V.str AT, V.str CT, V.ref q1]) = A4 at t2 e2 b2 ⊢
            walk_at "T"
            refine ⟨b, _, n + 2, rfl, b2, by omega, by decide, by decide, fun i A5 i0 i1 kp3 hb3 => ?_⟩
            have e3 := kp3 _ _ e2 n2
            have all : DdAll b A5 [V.str OT, V.str AT, V.str CT, V.ref q1] [.str OT, .str AT, .str CT, .list [.str z]] :=
              .cons (.str _ (by omega) OC) (.cons (.str _ (by omega) AC) (.cons (.str _ (by omega) CC) (.cons (.lst (kp3 _ _ (t2 _ _ e1) n1) n1 (.cons (.str _ hz c126) .nil)) .nil)))
            have kk : Keep b A9 A5 := (((kp1.trans kp2).trans (Keep.same t1)).trans (Keep.same t2)).trans kp3
            obtain ⟨v, rfl, hv⟩ : ∃ v : Nat, i = v ∧ v < 4 := ⟨i.toNat, by omega, by omega⟩
            obtain ⟨y, e, h1, h2, h3⟩ := all.at_ (j := v) hv
            refine r_ixL (SqL.of e3) (atI_nat h1) (k y e A5 kk (hb3.mono (by omega)) h3 ?_)
            have w0 := wt_str z
            rcases (show v = 0 ∨ v = 1 ∨ v = 2 ∨ v = 3 by omega) with rfl | rfl | rfl | rfl
            · cases h2; exact ⟨Nat.zero_le _, by rw [wt_str, wt_str, OL]; omega⟩
            · cases h2; exact ⟨Nat.zero_le _, by rw [wt_str, wt_str, AL]; omega⟩
            · cases h2; exact ⟨Nat.zero_le _, by rw [wt_str, wt_str]; omega⟩
            · cases h2; exact ⟨by show 0 + 1 ≤ 0 + 1; omega, by rw [wt_lst, wtAll_one, wt_str]; omega⟩
        | _ => exact (Bool.false_ne_true q).elim
    rintro σ' H' ⟨rfl, rfl, hsd⟩
    have n0 : n ≤ 900000000 := by omega
    walk_at "T"
    refine hx.isT ?_
    cases q : isTD d with
    | false =>
      walk_at "T"
      exact pick _ n _ _ ho hD b9 (by omega) fun y e A' kp hb' h' w1 w2 => k y e A' kp (hb'.mono (by omega)) h' ⟨by omega, by omega⟩
    | true =>
      cases hx with
      | @tup a xs ds ha t =>
        walk_at "T"
        refine ⟨show 0 ≤ sizeLine by decide, fun p0 hp0 => ?_⟩
        have t0 : Same H' (upd H' p0 (.tup [])) := (Same.refl H').at hp0 _
        have e0 : upd H' p0 (.tup []) p0 = some (.tup []) := upd_same
        have b0 := b9.new (o := .tup []) hp0
        generalize upd H' p0 (.tup []) = A0 at t0 e0 b0 ⊢
        refine .inr (.inr (.inl ⟨a, p0, xs, rfl, rfl, t0 _ _ ha, e0, ?_⟩))
        replace ha := t0 _ _ ha
        replace t := t.same t0
        replace ho := t0 _ _ ho
        replace hD := hD.same t0
        replace k : ∀ (y : V) (e : PyData) (H2 : Hp), Keep b A0 H2 → Bx H2 b (n + 4 * (m + 1)) → Dd b H2 y e → BentOf (.tuple ds) e → Q y H2 := fun y e H2 kp => k y e H2 ((Keep.same t0).trans kp)
        clear e0 hp0 t0 b9
        have pk : ∀ (A : Hp) (n' : Nat) (N : VK) (E' : XK), Keep b A0 A → Bx A b n' → n' ≤ 1000000000 → (∀ (y : V) (e : PyData) (A' : Hp), Keep b A A' → Bx A' b (n' + 1) → Dd b A' y e → wt e ≤ 201 → e.depth ≤ 1 → N y A') →
            spTake [V.ref b, V.int 18] A (fun k H' => rIx K (V.ref o) k H' N) E' := fun A n' N E' kp hB hn q => pick A n' N E' (kp _ _ ho n9) (hD.keep b0 kp) hB hn q
        clear pick
        walk_at "T"
        have le := t.len
        have wl := wtAll_len ds
        have wd := wt_tup ds
        refine r_iteD (fun c => ?_) fun c => ?_
        · walk_at "T"
          exact pk _ n _ _ (Keep.refl b _) b0 (by omega) fun y e A' kp hb' h' w1 w2 => k y e A' kp (hb'.mono (by omega)) h' ⟨by omega, by omega⟩
        have x1 : 1 ≤ xs.length := by
          cases xs with
          | nil => exact absurd rfl c
          | cons _ _ => rw [List.length_cons]; omega
        have xl : xs.length ≤ 4500 := by omega
        have dd : ∀ d0 ∈ ds, d0.depth ≤ PyData.depthAll ds := depAll_le.mp (Nat.le_refl _)
        have dt : (PyData.tuple ds).depth = PyData.depthAll ds + 1 := rfl
        have m1 : m ≠ 0 := by omega
        walk_at "T"
        refine r_lenT (SqT.of ha) ?_
        walk_at "T"
        refine ⟨b, _, n, rfl, b0, by omega, by omega, by omega, fun i A1 i0 i1 kp1 hb1 => ?_⟩
        obtain ⟨v, rfl, hv⟩ : ∃ v : Nat, i = v ∧ v < xs.length := ⟨i.toNat, by omega, by omega⟩
        walk_at "T"
        refine ⟨b, _, n + 1, rfl, hb1, by omega, by decide, by decide, fun i A2 i0 i1 kp2 hb2 => ?_⟩
        obtain ⟨u, rfl, hu⟩ : ∃ v : Nat, i = v ∧ v < 6 := ⟨i.toNat, by omega, by omega⟩
        have k2 := kp1.trans kp2
        have na : a ≠ b := box_lst b0 ha fun _ e => nomatch e
        have ha2 := k2 _ _ ha na
        have tt := t.keep b0 k2
        walk_at "T"
        refine r_iteD (fun c => ?_) fun c => ?_
        · walk_at "T"
          refine .inl (r_front ha2 hv fun p1 hp1 => ?_)
          have t1 := (Same.refl A2).at hp1 (.tup (xs.take v))
          have e1 : upd A2 p1 (.tup (xs.take v)) p1 = some (.tup (xs.take v)) := upd_same
          have b1 := hb2.new (o := .tup (xs.take v)) hp1
          generalize upd A2 p1 (.tup (xs.take v)) = A3 at t1 e1 b1 ⊢
          walk_at "T"
          rw [show ((v : Nat) : Int) + 1 = ((v + 1 : Nat) : Int) by omega]
          refine .inl (r_tail (t1 _ _ ha2) (by omega) x1 fun p2 hp2 => ?_)
          have t2 := (Same.refl A3).at hp2 (.tup (xs.drop (v + 1)))
          have e2 : upd A3 p2 (.tup (xs.drop (v + 1))) p2 = some (.tup (xs.drop (v + 1))) := upd_same
          have b2 := b1.new (o := .tup (xs.drop (v + 1))) hp2
          generalize upd A3 p2 (.tup (xs.drop (v + 1))) = A4 at t2 e2 b2 ⊢
          refine r_catTu (t2 _ _ e1) e2 (by rw [List.length_take, List.length_drop]; omega) fun r A5 s5 e5 b5 => ?_
          have s25 := ((t1.trans t2).trans s5)
          refine k _ (.tuple (ds.take v ++ ds.drop (v + 1))) A5 (k2.trans (Keep.same s25)) ((b5 _ _ b2).mono (by omega)) (.tup e5 (((tt.tk v).app (tt.dp (v + 1))).same s25)) ⟨?_, ?_⟩
          · rw [dt]
            refine dep_tup.mpr fun d0 h0 => ?_
            rcases List.mem_append.mp h0 with h0 | h0
            · have := dd d0 (List.mem_of_mem_take h0); omega
            · have := dd d0 (List.mem_of_mem_drop h0); omega
          · have := wtAll_drop1 v ds
            rw [wt_tup, wt_tup, wtAll_app]; omega
        walk_at "T"
        refine r_iteD (fun c => ?_) fun c => ?_
        · walk_at "T"
          refine pk _ (n + 2) _ _ k2 hb2 (by omega) fun y e A3 kp3 hb3 h3 w1 w2 => ?_
          walk_at "T"
          refine ⟨show 1 ≤ sizeLine by decide, fun p1 hp1 => ?_⟩
          have t1 := (Same.refl A3).at hp1 (.tup [y])
          have e1 : upd A3 p1 (.tup [y]) p1 = some (.tup [y]) := upd_same
          have b1 := hb3.new (o := .tup [y]) hp1
          generalize upd A3 p1 (.tup [y]) = A4 at t1 e1 b1 ⊢
          have ha4 := t1 _ _ (kp3 _ _ ha2 na)
          refine r_catTu ha4 e1 (by rw [List.length_singleton]; omega) fun r A5 s5 e5 b5 => ?_
          refine k _ (.tuple (ds ++ [e])) A5 ((k2.trans kp3).trans (Keep.same (t1.trans s5))) ((b5 _ _ b1).mono (by omega)) (.tup e5 (((tt.keep hb2 kp3).app (.cons h3 .nil)).same (t1.trans s5))) ⟨?_, ?_⟩
          · rw [dt]
            refine dep_tup.mpr fun d0 h0 => ?_
            rcases List.mem_append.mp h0 with h0 | h0
            · have := dd d0 h0; omega
            · rw [List.mem_singleton.mp h0]; omega
          · rw [wt_tup, wt_tup, wtAll_app, wtAll_one]; omega
        walk_at "T"
        refine r_iteD (fun c => ?_) fun c => ?_
        · walk_at "T"
          refine r_listOf (.inr (SqT.of ha2)) fun p1 hp1 => ?_
          have t1 := (Same.refl A2).at hp1 (.lst xs)
          have e1 : upd A2 p1 (.lst xs) p1 = some (.lst xs) := upd_same
          have b1 := hb2.new (o := .lst xs) hp1
          have n1 : p1 ≠ b := hb2.ne hp1
          generalize upd A2 p1 (.lst xs) = A3 at t1 e1 b1 ⊢
          walk_at "T"
          refine r_revT ?_
          walk_at "T"
          refine ⟨a, xs, rfl, t1 _ _ ha2, fun p2 hp2 => ?_⟩
          have t2 := (Same.refl A3).at hp2 (.tup xs.reverse)
          have e2 : upd A3 p2 (.tup xs.reverse) p2 = some (.tup xs.reverse) := upd_same
          have b2 := b1.new (o := .tup xs.reverse) hp2
          generalize upd A3 p2 (.tup xs.reverse) = A4 at t2 e2 b2 ⊢
          walk_at "T"
          refine ⟨show 1 ≤ sizeLine by decide, fun p3 hp3 => ?_⟩
          have t3 := (Same.refl A4).at hp3 (.tup [V.ref a])
          have e3 : upd A4 p3 (.tup [V.ref a]) p3 = some (.tup [V.ref a]) := upd_same
          have b3 := b2.new (o := .tup [V.ref a]) hp3
          generalize upd A4 p3 (.tup [V.ref a]) = A5 at t3 e3 b3 ⊢
          have ha5 := t3 _ _ (t2 _ _ (t1 _ _ ha2))
          walk_at "T"
          refine .inl (r_tail (k := 1) ha5 (Nat.le_refl _) x1 fun p4 hp4 => ?_)
          have t4 := (Same.refl A5).at hp4 (.tup (xs.drop 1))
          have e4 : upd A5 p4 (.tup (xs.drop 1)) p4 = some (.tup (xs.drop 1)) := upd_same
          have b4 := b3.new (o := .tup (xs.drop 1)) hp4
          generalize upd A5 p4 (.tup (xs.drop 1)) = A6 at t4 e4 b4 ⊢
          refine r_catTu (t4 _ _ ha5) e4 (by rw [List.length_drop]; omega) fun r A7 s7 e7 b7 => ?_
          walk_at "T"
          refine ⟨show 4 ≤ sizeLine by decide, fun p5 hp5 => ?_⟩
          have t5 := (Same.refl A7).at hp5 (.lst [V.ref p1, V.ref p2, V.ref p3, V.ref r])
          have e5 : upd A7 p5 (.lst [V.ref p1, V.ref p2, V.ref p3, V.ref r]) p5 = some (.lst [V.ref p1, V.ref p2, V.ref p3, V.ref r]) := upd_same
          have b7' := b7 _ _ b4
          have b5 := b7'.new (o := .lst [V.ref p1, V.ref p2, V.ref p3, V.ref r]) hp5
          have n5 : p5 ≠ b := b7'.ne hp5
          generalize upd A7 p5 (.lst [V.ref p1, V.ref p2, V.ref p3, V.ref r]) = A8 at t5 e5 b5 ⊢
          walk_at "T"
          refine ⟨b, _, n + 2, rfl, b5, by omega, by decide, by decide, fun i A9 i0 i1 kp9 hb9 => ?_⟩
          have e9 := kp9 _ _ e5 n5
          have s28 := ((((t1.trans t2).trans t3).trans t4).trans s7).trans t5
          have all : DdAll b A8 [V.ref p1, V.ref p2, V.ref p3, V.ref r] [.list ds, .tuple ds.reverse, .tuple [.tuple ds], .tuple (ds ++ ds.drop 1)] :=
            .cons (.lst (t5 _ _ (s7 _ _ (t4 _ _ (t3 _ _ (t2 _ _ e1))))) n1 (tt.same s28)) (.cons (.tup (t5 _ _ (s7 _ _ (t4 _ _ (t3 _ _ e2)))) (tt.rev.same s28))
              (.cons (.tup (t5 _ _ (s7 _ _ (t4 _ _ e3))) (.cons (.tup (s28 _ _ ha2) (tt.same s28)) .nil)) (.cons (.tup (t5 _ _ e7) ((tt.app (tt.dp 1)).same s28)) .nil)))
          obtain ⟨v2, rfl, hv2⟩ : ∃ v : Nat, i = v ∧ v < 4 := ⟨i.toNat, by omega, by omega⟩
          obtain ⟨y, e, h1, h2, h3⟩ := (all.keep b5 kp9).at_ (j := v2) hv2
          refine r_ixL (SqL.of e9) (atI_nat h1) (k y e A9 ((k2.trans (Keep.same s28)).trans kp9) (hb9.mono (by omega)) h3 ?_)
          rcases (show v2 = 0 ∨ v2 = 1 ∨ v2 = 2 ∨ v2 = 3 by omega) with rfl | rfl | rfl | rfl
          · cases h2
            exact ⟨by rw [dt]; exact dep_lst.mpr fun d0 h0 => by have := dd d0 h0; omega, by rw [wt_lst, wt_tup]; omega⟩
          · cases h2
            exact ⟨by rw [dt]; exact dep_tup.mpr fun d0 h0 => by have := dd d0 (List.mem_reverse.mp h0); omega, by rw [wt_tup, wt_tup, wtAll_rev]; omega⟩
          · cases h2
            exact ⟨by rw [dt]; exact dep_tup.mpr fun d0 h0 => by rw [List.mem_singleton.mp h0]; exact Nat.le_refl _, by rw [wt_tup, wtAll_one, wt_tup]; omega⟩
          · cases h2
            refine ⟨?_, ?_⟩
            · rw [dt]
              refine dep_tup.mpr fun d0 h0 => ?_
              rcases List.mem_append.mp h0 with h0 | h0
              · have := dd d0 h0; omega
              · have := dd d0 (List.mem_of_mem_drop h0); omega
            · have := wtAll_take 1 ds
              rw [wt_tup, wt_tup, wtAll_app]; omega
        refine r_next ?_
        obtain ⟨x0, d0, g1, g2, g3⟩ := tt.at_ (j := v) hv
        have m0 := List.mem_of_getElem? g2
        have fin : ∀ e : PyData, e.depth ≤ PyData.depthAll ds + 1 → wt e ≤ 2 * wt d0 + 2100 → BentOf (.tuple ds) (.tuple ((ds.take v ++ [e]) ++ ds.drop (v + 1))) := fun e h1 h2 => by
          refine ⟨?_, ?_⟩
          · rw [dt]
            refine dep_tup.mpr fun z hz => ?_
            rcases List.mem_append.mp hz with hz | hz  -- own
            · rcases List.mem_append.mp hz with hz | hz
              · have := dd z (List.mem_of_mem_take hz); omega
              · rw [List.mem_singleton.mp hz]; omega
            · have := dd z (List.mem_of_mem_drop hz); omega
          · have w1 := wtAll_take v ds
            have w2 : wtAll (ds.drop v) = wt d0 + 2 + wtAll (ds.drop (v + 1)) := by
              rw [← wtAll]
              exact congrArg wtAll (drop_at g2).symm
            rw [wt_tup, wt_tup, wtAll_app, wtAll_app, wtAll_one]; omega
        have d0d := dd d0 m0
        have d0w := wtAll_mem m0
        refine r_seqJ (fun σ' H' => σ' = (([some (V.ref b), some (V.ref a), some (V.ref o), none, none, none, none].set 3 (some (V.int ((v : Nat) : Int)))).set 6 (some (V.int ((u : Nat) : Int)))) ∧ H' = A2) (fun N hN => ?_) ?_
        · have hN := hN _ _ ⟨rfl, rfl⟩
          walk_at "T"
          refine r_iteD (fun c3 => ?_) fun c3 => ?_
          rotate_left
          · exact hN
          walk_at "T"
          refine r_iteD (fun c4 => ?_) fun c4 => ?_
          rotate_left
          · exact hN
          walk_at "T"
          refine .inl (r_front ha2 hv fun p1 hp1 => ?_)
          have t1 := (Same.refl A2).at hp1 (.tup (xs.take v))
          have e1 : upd A2 p1 (.tup (xs.take v)) p1 = some (.tup (xs.take v)) := upd_same
          have b1 := hb2.new (o := .tup (xs.take v)) hp1
          have np1 : p1 ≠ b := hb2.ne hp1
          generalize upd A2 p1 (.tup (xs.take v)) = A3 at t1 e1 b1 ⊢
          walk_at "T"
          refine r_ixTu (SqT.of (t1 _ _ ha2)) (atI_nat g1) ?_
          walk_at "T"
          rw [hsp m1]
          refine ⟨b, n + 2, x0, d0, rfl, b1, by omega, g3.same t1, by omega, by omega, fun y e A4 kp4 hb4 h4 bo => ?_⟩
          obtain ⟨o1, o2⟩ := bo
          walk_at "T"
          refine ⟨show 1 ≤ sizeLine by decide, fun p2 hp2 => ?_⟩
          have t2 := (Same.refl A4).at hp2 (.tup [y])
          have e2 : upd A4 p2 (.tup [y]) p2 = some (.tup [y]) := upd_same
          have b2 := hb4.new (o := .tup [y]) hp2
          generalize upd A4 p2 (.tup [y]) = A5 at t2 e2 b2 ⊢
          have e4 := t2 _ _ (kp4 _ _ e1 np1)
          refine r_catTu e4 e2 (by rw [List.length_take, List.length_singleton]; omega) fun r A6 s6 e6 b6 => ?_
          have k6 : Keep b A3 A6 := kp4.trans (Keep.same (t2.trans s6))
          have ha6 := k6 _ _ (t1 _ _ ha2) na
          walk_at "T"
          rw [show ((v : Nat) : Int) + 1 = ((v + 1 : Nat) : Int) by omega]
          refine .inl (r_tail ha6 (by omega) x1 fun p3 hp3 => ?_)
          have t3 := (Same.refl A6).at hp3 (.tup (xs.drop (v + 1)))
          have e3 : upd A6 p3 (.tup (xs.drop (v + 1))) p3 = some (.tup (xs.drop (v + 1))) := upd_same
          have b3 := (b6 _ _ b2).new (o := .tup (xs.drop (v + 1))) hp3
          generalize upd A6 p3 (.tup (xs.drop (v + 1))) = A7 at t3 e3 b3 ⊢
          refine r_catTu (t3 _ _ e6) e3 (by rw [List.length_append, List.length_take, List.length_singleton, List.length_drop]; omega) fun r2 A8 s8 e8 b8 => ?_
          have s48 := (t2.trans s6).trans (t3.trans s8)
          have tt4 := (tt.same t1).keep b1 kp4
          refine k _ (.tuple ((ds.take v ++ [e]) ++ ds.drop (v + 1))) A8 ((k2.trans (Keep.same t1)).trans (kp4.trans (Keep.same s48))) ((b8 _ _ b3).mono (by omega)) (.tup e8 ((((tt4.tk v).app (.cons h4 .nil)).app (tt4.dp (v + 1))).same s48)) (fin e ?_ ?_)
          · omega
          · omega
        rintro σ' H2 ⟨rfl, rfl⟩
        walk_at "T"
        refine .inl (r_front ha2 hv fun p1 hp1 => ?_)
        have t1 := (Same.refl H2).at hp1 (.tup (xs.take v))
        have e1 : upd H2 p1 (.tup (xs.take v)) p1 = some (.tup (xs.take v)) := upd_same
        have b1 := hb2.new (o := .tup (xs.take v)) hp1
        have np1 : p1 ≠ b := hb2.ne hp1
        generalize upd H2 p1 (.tup (xs.take v)) = A3 at t1 e1 b1 ⊢
        walk_at "T"
        refine pk _ (n + 2) _ _ (k2.trans (Keep.same t1)) b1 (by omega) fun y e A4 kp4 hb4 h4 w1 w2 => ?_
        walk_at "T"
        refine ⟨show 1 ≤ sizeLine by decide, fun p2 hp2 => ?_⟩
        have t2 := (Same.refl A4).at hp2 (.tup [y])
        have e2 : upd A4 p2 (.tup [y]) p2 = some (.tup [y]) := upd_same
        have b2 := hb4.new (o := .tup [y]) hp2
        generalize upd A4 p2 (.tup [y]) = A5 at t2 e2 b2 ⊢
        have e4 := t2 _ _ (kp4 _ _ e1 np1)
        refine r_catTu e4 e2 (by rw [List.length_take, List.length_singleton]; omega) fun r A6 s6 e6 b6 => ?_
        have k6 : Keep b A3 A6 := kp4.trans (Keep.same (t2.trans s6))
        have ha6 := k6 _ _ (t1 _ _ ha2) na
        walk_at "T"
        rw [show ((v : Nat) : Int) + 1 = ((v + 1 : Nat) : Int) by omega]
        refine .inl (r_tail ha6 (by omega) x1 fun p3 hp3 => ?_)
        have t3 := (Same.refl A6).at hp3 (.tup (xs.drop (v + 1)))
        have e3 : upd A6 p3 (.tup (xs.drop (v + 1))) p3 = some (.tup (xs.drop (v + 1))) := upd_same
        have b3 := (b6 _ _ b2).new (o := .tup (xs.drop (v + 1))) hp3
        generalize upd A6 p3 (.tup (xs.drop (v + 1))) = A7 at t3 e3 b3 ⊢
        refine r_catTu (t3 _ _ e6) e3 (by rw [List.length_append, List.length_take, List.length_singleton, List.length_drop]; omega) fun r2 A8 s8 e8 b8 => ?_
        have s48 := (t2.trans s6).trans (t3.trans s8)
        have tt4 := (tt.same t1).keep b1 kp4
        refine k _ (.tuple ((ds.take v ++ [e]) ++ ds.drop (v + 1))) A8 ((k2.trans (Keep.same t1)).trans (kp4.trans (Keep.same s48))) ((b8 _ _ b3).mono (by omega)) (.tup e8 ((((tt4.tk v).app (.cons h4 .nil)).app (tt4.dp (v + 1))).same s48)) (fin e ?_ ?_)
        · omega
        · omega
      | _ => exact (Bool.false_ne_true q).elim
theorem ok_bent0 (T : Tx K mg) (XF : ExG K C cd0) {f f_law_take : Addr} {fd fd_law_take : FuncData} (F : Fun K "_law_bent" "_law_bent" s_law_bent f fd)
    (D_law_take : DAt K mg "_law_take" s_law_take P_law_take f_law_take fd_law_take) (D_law_bent : DAt K mg "_law_bent" s_law_bent P_law_bent f fd) : FnOk P w K mg base CX0 5 f fd P_law_bent (spBentX 3) := by
  have none : FnOk P w K mg base CX0 1 f fd P_law_bent (fun _ _ _ _ => False) := ⟨fun _ _ _ _ h => h.elim, fun _ _ _ _ _ _ _ _ _ _ _ _ _ h => h.elim⟩
  have a0 : FnOk P w K mg base CX0 2 f fd P_law_bent (spBentX 0) := ok_bentS T XF (Nat.le_refl _) (fun z => absurd rfl z) F D_law_take D_law_bent none
  have a1 : FnOk P w K mg base CX0 3 f fd P_law_bent (spBentX 1) := ok_bentS T XF (by decide) (fun _ => rfl) F D_law_take D_law_bent a0
  have a2 : FnOk P w K mg base CX0 4 f fd P_law_bent (spBentX 2) := ok_bentS T XF (by decide) (fun _ => rfl) F D_law_take D_law_bent a1
  exact ok_bentS T XF (by decide) (fun _ => rfl) F D_law_take D_law_bent a2
end
end K01

namespace K01
open PySem PySem.Spec PyProof.Rows L2 J M
local macro_rules | `(tactic| walk_at "hp") => `(tactic| first | assumption | exact upd_same | (rw [upd_ne (by assumption)]; walk_at "hp") | (rw [upd_ne (Ne.symm (by assumption))]; walk_at "hp"))
local macro_rules | `(tactic| walk_at "s") => `(tactic| first
  | ((with_reducible refine' r_var ?h ?k); (case h => exact rfl))
  | (with_reducible refine r_c ?_)
  | (with_reducible refine r_op ?_)
  | (with_reducible refine r_un ?_)
  | (with_reducible refine r_seq ?_)
  | (with_reducible refine r_next ?_)
  | (with_reducible refine r_sets ?_)
  | (with_reducible refine r_gname ?_)
  | (with_reducible refine r_ifS ?_)
  | (with_reducible refine r_gsub ?_)
  | (with_reducible refine r_test ?_)
  | (with_reducible refine r_tb ?_)
  | (with_reducible refine r_not ?_)
  | (with_reducible refine r_and ?_)
  | (with_reducible refine r_or ?_)
  | (with_reducible refine r_andV ?_)
  | (with_reducible refine r_orV ?_)
  | (with_reducible refine r_notV ?_)
  | (with_reducible refine r_ifE ?_)
  | (with_reducible refine r_chain ?_)
  | (with_reducible refine r_cb ?_)
  | (with_reducible refine r_cons ?_)
  | (with_reducible refine r_nil ?_)
  | (with_reducible refine r_call ?_)
  | (with_reducible refine r_lst ?_)
  | (with_reducible refine r_tup ?_)
  | (with_reducible refine r_slice ?_)
  | (with_reducible refine r_nop ?_)
  | (with_reducible refine r_part ?_)
  | (with_reducible refine r_bm ?_)
  | (with_reducible refine r_m1 ?_)
  | (with_reducible refine r_m0 ?_)
  | (with_reducible refine r_is ?_)
  | (with_reducible refine r_maxD ?_)
  | (with_reducible refine r_orT ?_)
  | (with_reducible refine r_truN ?_)
  | (with_reducible refine r_intI ?_)
  | (with_reducible refine r_intB ?_)
  | (with_reducible refine r_max2 ?_)
  | (with_reducible refine r_min2 ?_)
  | (with_reducible refine r_yes ?_)
  | (with_reducible refine r_bl ?_)
  | (with_reducible refine iteT ?_)
  | (with_reducible refine iteF ?_)
  | (with_reducible refine r_iteNT ?_)
  | (with_reducible refine r_iteNF ?_)
  | (with_reducible refine r_minL ?_)
  | (with_reducible refine r_gcons ?_)
  | (with_reducible refine r_gnil ?_)
  | (with_reducible refine r_par ?_)
  | (with_reducible refine r_par3 ?_)
  | (with_reducible refine r_is2 ?_)
  | (with_reducible refine r_is3 ?_)
  | (with_reducible refine r_dget ?_)
  | (with_reducible refine r_callS ?_)
  | (with_reducible refine r_rz ?_)
  | (with_reducible refine r_rev ?_)
  | (with_reducible refine r_isI ?_)
  | (with_reducible refine r_isStr ?_)
  | (with_reducible refine r_ret ?_)
  | (with_reducible refine r_drop ?_)
  | (with_reducible refine r_rI0 ?_)
  | (with_reducible refine r_addI ?_)
  | ((with_reducible show rI (fun _ j => 0 < j) _ (.int _) (.int _) _ _); refine r_rI (by first | omega | decide) ?_)
  | ((with_reducible show rI CDiv _ (.int _) (.int _) _ _); refine r_rI (by constructor <;> omega) ?_)
  | ((with_reducible show rI CPow _ (.int _) (.int _) _ _); refine r_rI (by refine ⟨by decide, by decide, ?_⟩; omega) ?_)
  | ((with_reducible show rMul (.int _) (.int _) _ _); refine r_mulI (cmulW (by omega) (by omega)) ?_)
  | (with_reducible refine r_cmpI ?_)
  | (with_reducible refine r_cmpS ?_)
  | (with_reducible refine r_eqI ?_)
  | (with_reducible refine r_neI ?_)
  | (with_reducible refine r_eqS ?_)
  | (with_reducible refine r_neS ?_)
  | (with_reducible refine r_inSF ?_)
  | (with_reducible refine r_inST ?_)
  | (with_reducible refine r_isiStr ?_)
  | ((with_reducible show rIx _ (.ref _) (.int _) _ _); refine' r_ixL (SqL.of ?h) ?e ?_; (case h => walk_at "hp"); (case e => rfl))
  | ((with_reducible show rSetL (.ref _) (.int _) _ _ _); refine' r_setL ?h ?e ?_; (case h => walk_at "hp"); (case e => rfl)))
local macro_rules | `(tactic| walk_at "g") => `(tactic| repeat walk_at "s")


local macro_rules | `(tactic| walk_at "x") => `(tactic| first | omega | decide +kernel | (simp only [List.length_cons, List.length_nil]; omega))
local macro_rules | `(tactic| walk_at "T") => `(tactic| repeat (first
  | walk_at "s"
  | ((with_reducible show rIx _ (.ref _) (.int _) _ _); refine' r_ixTu (SqT.of ?h) ?e ?_; (case h => first | assumption | walk_at "hp"); (case e => rfl))
  | (with_reducible refine r_lenSet ?_)
  | (with_reducible refine r_asg2 ?_)
  | (with_reducible refine iteDT (by walk_at "x") ?_)
  | (with_reducible refine iteDF (by walk_at "x") ?_)
  | (with_reducible refine iteNT (by walk_at "x") ?_)
  | (with_reducible refine iteNF (by walk_at "x") ?_)))
section
variable {P : Program} {w : World} {K : PySem.W.Frag} {mg : Str → Option Value} {base : Heap} {C : Addr} {cd0 : ClassData}
theorem ok_right (T : Tx K mg) (XF : ExG K C cd0) {f f_is_name f_is_letter f_is_word f_are_signs f_is_kind f_are_unlike f_is_whole f_are_bounds f_are_choices f_law_is_name f_law_is_word f_law_is_kind f_law_is_whole : Addr} {fd fd_is_name fd_is_letter fd_is_word fd_are_signs fd_is_kind fd_are_unlike fd_is_whole fd_are_bounds fd_are_choices fd_law_is_name fd_law_is_word fd_law_is_kind fd_law_is_whole : FuncData} (F : Fun K "_law_right" "_law_right" s_law_right f fd)
    (D_is_name : DAt K mg "is_name" s_is_name P_is_name f_is_name fd_is_name)
    (D_is_letter : DAt K mg "is_letter" s_is_letter P_is_letter f_is_letter fd_is_letter)
    (D_is_word : DAt K mg "is_word" s_is_word P_is_word f_is_word fd_is_word)
    (D_are_signs : DAt K mg "are_signs" s_are_signs P_are_signs f_are_signs fd_are_signs)
    (D_is_kind : DAt K mg "is_kind" s_is_kind P_is_kind f_is_kind fd_is_kind)
    (D_are_unlike : DAt K mg "are_unlike" s_are_unlike P_are_unlike f_are_unlike fd_are_unlike)
    (D_is_whole : DAt K mg "is_whole" s_is_whole P_is_whole f_is_whole fd_is_whole)
    (D_are_bounds : DAt K mg "_are_bounds" s_are_bounds P_are_bounds f_are_bounds fd_are_bounds)
    (D_are_choices : DAt K mg "_are_choices" s_are_choices P_are_choices f_are_choices fd_are_choices)
    (D_law_is_name : DAt K mg "_law_is_name" s_law_is_name P_law_is_name f_law_is_name fd_law_is_name)
    (D_law_is_word : DAt K mg "_law_is_word" s_law_is_word P_law_is_word f_law_is_word fd_law_is_word)
    (D_law_is_kind : DAt K mg "_law_is_kind" s_law_is_kind P_law_is_kind f_law_is_kind fd_law_is_kind)
    (D_law_is_whole : DAt K mg "_law_is_whole" s_law_is_whole P_law_is_whole f_law_is_whole fd_law_is_whole) : FnG P w K mg base CX0 4 f fd P_law_right (spRightX C) := by
  have G_is_name : FnOk P w K mg base CX0 1 f_is_name fd_is_name P_is_name (spNameX C) := ok_is_name T XF D_is_name.fn
  have G_is_letter : FnOk P w K mg base CX0 1 f_is_letter fd_is_letter P_is_letter (spLetX C) := ok_is_letter T XF D_is_letter.fn
  have G_is_word : FnOk P w K mg base CX0 2 f_is_word fd_is_word P_is_word (spWordX C) := ok_is_word T XF D_is_word.fn D_are_signs
  have G_is_kind : FnOk P w K mg base CX0 3 f_is_kind fd_is_kind P_is_kind (spKindX C) := ok_is_kind T XF D_is_kind.fn D_is_name D_are_unlike D_is_whole D_are_bounds D_are_choices
  have G_is_whole : FnOk P w K mg base CX0 1 f_is_whole fd_is_whole P_is_whole (spWholeX C) := ok_is_whole T XF D_is_whole.fn
  have G_law_is_name : FnOk P w K mg base CX0 1 f_law_is_name fd_law_is_name P_law_is_name (spNameXL C) := ok_l_is_name T XF D_law_is_name.fn
  have G_law_is_word : FnOk P w K mg base CX0 1 f_law_is_word fd_law_is_word P_law_is_word (spWordXL C) := ok_l_is_word T XF D_law_is_word.fn
  have G_law_is_kind : FnOk P w K mg base CX0 2 f_law_is_kind fd_law_is_kind P_law_is_kind (spKindX C) := ok_l_is_kind T XF D_law_is_kind.fn D_law_is_whole D_law_is_name
  have G_law_is_whole : FnOk P w K mg base CX0 1 f_law_is_whole fd_law_is_whole P_law_is_whole (spWholeX C) := ok_l_whole T XF D_law_is_whole.fn
  refine fun_g F sc_law_right (fun vs H Q E h => ?_) (fun cdv A outer s H vs Q E hg hr h => ?_)
  · obtain ⟨b, x, o, lo, hi, rfl, _⟩ := h
    rfl
  · obtain ⟨b, x, o, lo, hi, rfl, hx, ho, k⟩ := h
    refine ⟨_, (pss_cons (ps_set (i := 3) sc_law_right.nd rfl (Or.inl rfl) (pe_callB (call_reprY XF.toExF hg hr.units : CallR _ _ (rReprY K C cd0)) (by rfl) T.z_repr (by decide +kernel) (pa_cons (pv 0) pa_nil))) (pss_cons (ps_set (i := 4) sc_law_right.nd rfl (Or.inl rfl) (pe_lst (pa_cons (pe_call G_law_is_name (hr.mono (by decide)) rfl D_law_is_name.gl D_law_is_name.fn.kp D_law_is_name.bd .nil pass0 (pa_cons (pv 0) pa_nil)) (pa_cons (pe_and (pe_call G_law_is_name (hr.mono (by decide)) rfl D_law_is_name.gl D_law_is_name.fn.kp D_law_is_name.bd .nil pass0 (pa_cons (pv 0) pa_nil)) (pe_one (pe_cmpR ((op_eqA hr.units) : OpR _ _ (rEqA K)) (pe_callB (call_lenA : CallR _ _ (rLen K)) (by rfl) T.z_len (by decide +kernel) (pa_cons (pv 0) pa_nil)) pe_int (nomark _)))) (pa_cons (pe_call G_law_is_word (hr.mono (by decide)) rfl D_law_is_word.gl D_law_is_word.fn.kp D_law_is_word.bd .nil pass0 (pa_cons (pv 0) pa_nil)) (pa_cons (pe_call G_law_is_kind (hr.mono (by decide)) rfl D_law_is_kind.gl D_law_is_kind.fn.kp D_law_is_kind.bd .nil pass0 (pa_cons (pv 0) pa_nil)) pa_nil)))))) (pss_cons (ps_expr (asBM (K := K) rfl (pe_bm PySem.F.plainAttrs_list PySem.F.slot_list_append PySem.F.type_list_append mt_append (pv 4) (pa_cons (pe_call G_law_is_whole (hr.mono (by decide)) rfl D_law_is_whole.gl D_law_is_whole.fn.kp D_law_is_whole.bd .nil pass0 (pa_cons (pv 0) (pa_cons (pv 1) (pa_cons (pv 2) pa_nil)))) pa_nil)))) (pss_cons (ps_for (PassesOwn.never) rfl (pi_range1 rfl T.z_range (pa_cons pe_int pa_nil)) (pg_name (i := 5) sc_law_right.nd rfl (Or.inl rfl)) (pss_cons (ps_set (i := 6) sc_law_right.nd rfl (Or.inl rfl) (pe_lst (pa_cons (pe_call G_is_name (hr.mono (by decide)) rfl D_is_name.gl D_is_name.fn.kp D_is_name.bd .nil pass0 (pa_cons (pv 0) pa_nil)) (pa_cons (pe_call G_is_letter (hr.mono (by decide)) rfl D_is_letter.gl D_is_letter.fn.kp D_is_letter.bd .nil pass0 (pa_cons (pv 0) pa_nil)) (pa_cons (pe_call G_is_word (hr.mono (by decide)) rfl D_is_word.gl D_is_word.fn.kp D_is_word.bd .nil pass0 (pa_cons (pv 0) pa_nil)) (pa_cons (pe_call G_is_kind (hr.mono (by decide)) rfl D_is_kind.gl D_is_kind.fn.kp D_is_kind.bd .nil pass0 (pa_cons (pv 0) pa_nil)) (pa_cons (pe_call G_is_whole (hr.mono (by decide)) rfl D_is_whole.gl D_is_whole.fn.kp D_is_whole.bd .nil pass0 (pa_cons (pv 0) (pa_cons (pv 1) (pa_cons (pv 2) pa_nil)))) pa_nil))))))) (pss_one (ps_if (pt_cmpR ((op_neA hr.units) : OpR _ _ (rNeA K)) (pe_callB (call_reprY XF.toExF hg hr.units : CallR _ _ (rReprY K C cd0)) (by rfl) T.z_repr (by decide +kernel) (pa_cons (pv 6) pa_nil)) (pe_callB (call_reprY XF.toExF hg hr.units : CallR _ _ (rReprY K C cd0)) (by rfl) T.z_repr (by decide +kernel) (pa_cons (pv 4) pa_nil)) (nomark _)) (pss_one (ps_ret pe_bl)) pss_nil)))) (pss_one (ps_ret (pe_and (pe_cmpR ((op_eqA hr.units) : OpR _ _ (rEqA K)) (pe_callB (call_reprY XF.toExF hg hr.units : CallR _ _ (rReprY K C cd0)) (by rfl) T.z_repr (by decide +kernel) (pa_cons (pv 0) pa_nil)) (pv 3) (nomark _)) (pe_one (pe_cmpR ((op_eqA hr.units) : OpR _ _ (rEqA K)) (pe_callB (call_reprY XF.toExF hg hr.units : CallR _ _ (rReprY K C cd0)) (by rfl) T.z_repr (by decide +kernel) (pa_cons (pe_call G_is_whole (hr.mono (by decide)) rfl D_is_whole.gl D_is_whole.fn.kp D_is_whole.bd .nil pass0 (pa_cons (pv 0) (pa_cons (pv 2) (pa_cons (pv 1) pa_nil)))) pa_nil)) (pe_callB (call_reprY XF.toExF hg hr.units : CallR _ _ (rReprY K C cd0)) (by rfl) T.z_repr (by decide +kernel) (pa_cons (pe_call G_law_is_whole (hr.mono (by decide)) rfl D_law_is_whole.gl D_law_is_whole.fn.kp D_law_is_whole.bd .nil pass0 (pa_cons (pv 0) (pa_cons (pv 2) (pa_cons (pv 1) pa_nil)))) pa_nil)) (nomark _)))))))))), ?_⟩
    obtain ⟨Z, hZ⟩ := hx.repr (K := K) (cd := cd0) ho
    walk_at "T"
    refine hZ H (Same.refl H) _ ?_
    refine r_gname ?_
    refine r_seqJ (fun σ' H' => ∃ p, σ' = [some x, some (.int lo), some (.int hi), some (.str Z), some (.ref p), none, none] ∧ Same H H' ∧ H p = none ∧ H' p = some (.lst ([oB nmD o, oB letD o, oB wdD o, oB kdD o].map V.bl))) (fun N hN => ?_) ?_
    · walk_at "T"
      refine ⟨b, x, o, rfl, hx, fun H1 s1 => ?_⟩
      walk_at "T"
      refine ⟨b, x, o, rfl, hx.same s1, fun H2 s2 => ?_⟩
      walk_at "T"
      have ln := let_nm (o := o)
      cases q : oB nmD o with
      | true =>
        obtain ⟨z, rfl, rfl, hz, c126⟩ : ∃ z : Str, x = .str z ∧ o = some (.str z) ∧ z.length ≤ 1000 ∧ ∀ c ∈ cd z, c ≤ 126 := by
          refine isS_str hx ?_
          cases w : oB isSD o with
          | true => rfl
          | false => rw [(noS w).1] at q; exact (Bool.false_ne_true q).elim
        walk_at "T"
        refine r_len (Nat.le_trans hz (by decide)) ?_
        walk_at "T"
        refine ⟨b, _, _, rfl, hx.same (s1.trans s2), fun H3 s3 => ?_⟩
        walk_at "T"
        refine ⟨b, _, _, rfl, hx.same ((s1.trans s2).trans s3), fun H4 s4 => ?_⟩
        walk_at "T"
        refine ⟨show 4 ≤ sizeLine by decide, fun p hp => ?_⟩
        have s14 := ((s1.trans s2).trans s3).trans s4
        refine hN _ _ ⟨p, rfl, s14.at (s14.none hp) _, s14.none hp, ?_⟩
        rw [upd_same, ln, q, Bool.true_and]
        show some (HO.lst [V.bl true, V.bl (decide ((z.length : Int) = 1)), _, _]) = some (HO.lst [V.bl true, V.bl (decide ((cd z).length = 1)), _, _])
        rw [show decide ((z.length : Int) = 1) = decide ((cd z).length = 1) from decide_eq_decide.mpr (by rw [len_cd]; omega)]
      | false =>
        walk_at "T"
        refine ⟨b, _, _, rfl, hx.same (s1.trans s2), fun H3 s3 => ?_⟩
        walk_at "T"
        refine ⟨b, _, _, rfl, hx.same ((s1.trans s2).trans s3), fun H4 s4 => ?_⟩
        walk_at "T"
        refine ⟨show 4 ≤ sizeLine by decide, fun p hp => ?_⟩
        have s14 := ((s1.trans s2).trans s3).trans s4
        refine hN _ _ ⟨p, rfl, s14.at (s14.none hp) _, s14.none hp, ?_⟩
        rw [upd_same, ln, q, Bool.false_and]
        rfl
    rintro σ' H1 ⟨p, rfl, s1, h0, hp⟩
    walk_at "T"
    refine r_tyL hp ?_
    walk_at "T"
    refine ⟨b, x, o, lo, hi, rfl, hx.same s1, ?_⟩
    walk_at "T"
    refine r_app hp (show 4 < sizeLine by decide) ?_
    have s2 : Same H (upd H1 p (.lst (([oB nmD o, oB letD o, oB wdD o, oB kdD o].map V.bl) ++ [V.bl (oB (whD lo hi) o)]))) := s1.at h0 _
    have e2 : upd H1 p (.lst (([oB nmD o, oB letD o, oB wdD o, oB kdD o].map V.bl) ++ [V.bl (oB (whD lo hi) o)])) p = some (.lst ([oB nmD o, oB letD o, oB wdD o, oB kdD o, oB (whD lo hi) o].map V.bl)) := upd_same
    generalize upd H1 p (.lst (([oB nmD o, oB letD o, oB wdD o, oB kdD o].map V.bl) ++ [V.bl (oB (whD lo hi) o)])) = A1 at s2 e2 ⊢
    walk_at "T"
    refine r_midJ (fun σ' H' => ∃ u v, σ' = [some x, some (.int lo), some (.int hi), some (.str Z), some (.ref p), u, v] ∧ Same H H') (fun N hN => ?_) ?_
    · refine r_for (r_irng1 ?_)
      walk_at "T"
      refine ⟨2, rfl, by decide, by decide, ?_⟩
      refine loop_rng (q := 2) (fun i σ' H' => ∃ u v, σ' = [some x, some (.int lo), some (.int hi), some (.str Z), some (.ref p), u, v] ∧ Same H H' ∧ H' p = some (.lst ([oB nmD o, oB letD o, oB wdD o, oB kdD o, oB (whD lo hi) o].map V.bl))) ⟨_, _, rfl, s2, e2⟩ (fun i σ2 A2 hi2 w => ?_) fun σ2 A2 w => ?_
      rotate_left
      · obtain ⟨u, v, rfl, s, _⟩ := w
        exact hN _ _ ⟨u, v, rfl, s⟩
      obtain ⟨u, v, rfl, s3, e3⟩ := w
      walk_at "T"
      refine ⟨b, x, o, rfl, hx.same s3, ?_⟩
      walk_at "T"
      refine ⟨b, x, o, rfl, hx.same s3, ?_⟩
      walk_at "T"
      refine ⟨b, x, o, rfl, hx.same s3, ?_⟩
      walk_at "T"
      refine ⟨b, x, o, rfl, hx.same s3, fun A3 s4 => ?_⟩
      walk_at "T"
      refine ⟨b, x, o, lo, hi, rfl, hx.same (s3.trans s4), ?_⟩
      walk_at "T"
      refine ⟨show 5 ≤ sizeLine by decide, fun p5 hp5 => ?_⟩
      have t5 := (Same.refl A3).at hp5 (.lst [V.bl (oB nmD o), V.bl (oB letD o), V.bl (oB wdD o), V.bl (oB kdD o), V.bl (oB (whD lo hi) o)])
      have e5 : upd A3 p5 (.lst [V.bl (oB nmD o), V.bl (oB letD o), V.bl (oB wdD o), V.bl (oB kdD o), V.bl (oB (whD lo hi) o)]) p5 = some (.lst ([oB nmD o, oB letD o, oB wdD o, oB kdD o, oB (whD lo hi) o].map V.bl)) := upd_same
      generalize upd A3 p5 (.lst [V.bl (oB nmD o), V.bl (oB letD o), V.bl (oB wdD o), V.bl (oB kdD o), V.bl (oB (whD lo hi) o)]) = A4 at t5 e5 ⊢
      have e4 := t5 _ _ (s4 _ _ e3)
      walk_at "T"
      refine r_reprL e5 (show 5 ≤ 20 by decide) ?_
      walk_at "T"
      refine r_reprL e4 (show 5 ≤ 20 by decide) ?_
      refine r_neSame ?_
      walk_at "T"
      exact ⟨_, _, rfl, (s3.trans s4).trans t5, e4⟩
    rintro σ' H2 ⟨u, v, rfl, s⟩
    walk_at "T"
    refine hZ H2 s _ ?_
    walk_at "T"
    refine iteDT rfl ?_
    walk_at "T"
    refine ⟨b, x, o, hi, lo, rfl, hx.same s, ?_⟩
    walk_at "T"
    refine r_reprB ?_
    walk_at "T"
    refine ⟨b, x, o, hi, lo, rfl, hx.same s, ?_⟩
    walk_at "T"
    refine r_reprB ?_
    refine r_eqS ?_
    rw [decide_eq_true rfl]
    exact k H2 s
end
end K01

namespace K01
open PySem PySem.Spec PyProof.Rows L2 J M
local macro_rules | `(tactic| walk_at "hp") => `(tactic| first | assumption | exact upd_same | (rw [upd_ne (by assumption)]; walk_at "hp") | (rw [upd_ne (Ne.symm (by assumption))]; walk_at "hp"))
local macro_rules | `(tactic| walk_at "s") => `(tactic| first
  | ((with_reducible refine' r_var ?h ?k); (case h => exact rfl))
  | (with_reducible refine r_c ?_)
  | (with_reducible refine r_op ?_)
  | (with_reducible refine r_un ?_)
  | (with_reducible refine r_seq ?_)
  | (with_reducible refine r_next ?_)
  | (with_reducible refine r_sets ?_)
  | (with_reducible refine r_gname ?_)
  | (with_reducible refine r_ifS ?_)
  | (with_reducible refine r_gsub ?_)
  | (with_reducible refine r_test ?_)
  | (with_reducible refine r_tb ?_)
  | (with_reducible refine r_not ?_)
  | (with_reducible refine r_and ?_)
  | (with_reducible refine r_or ?_)
  | (with_reducible refine r_andV ?_)
  | (with_reducible refine r_orV ?_)
  | (with_reducible refine r_notV ?_)
  | (with_reducible refine r_ifE ?_)
  | (with_reducible refine r_chain ?_)
  | (with_reducible refine r_cb ?_)
  | (with_reducible refine r_cons ?_)
  | (with_reducible refine r_nil ?_)
  | (with_reducible refine r_call ?_)
  | (with_reducible refine r_lst ?_)
  | (with_reducible refine r_tup ?_)
  | (with_reducible refine r_slice ?_)
  | (with_reducible refine r_nop ?_)
  | (with_reducible refine r_part ?_)
  | (with_reducible refine r_bm ?_)
  | (with_reducible refine r_m1 ?_)
  | (with_reducible refine r_m0 ?_)
  | (with_reducible refine r_is ?_)
  | (with_reducible refine r_maxD ?_)
  | (with_reducible refine r_orT ?_)
  | (with_reducible refine r_truN ?_)
  | (with_reducible refine r_intI ?_)
  | (with_reducible refine r_intB ?_)
  | (with_reducible refine r_max2 ?_)
  | (with_reducible refine r_min2 ?_)
  | (with_reducible refine r_yes ?_)
  | (with_reducible refine r_bl ?_)
  | (with_reducible refine iteT ?_)
  | (with_reducible refine iteF ?_)
  | (with_reducible refine r_iteNT ?_)
  | (with_reducible refine r_iteNF ?_)
  | (with_reducible refine r_minL ?_)
  | (with_reducible refine r_gcons ?_)
  | (with_reducible refine r_gnil ?_)
  | (with_reducible refine r_par ?_)
  | (with_reducible refine r_par3 ?_)
  | (with_reducible refine r_is2 ?_)
  | (with_reducible refine r_is3 ?_)
  | (with_reducible refine r_dget ?_)
  | (with_reducible refine r_callS ?_)
  | (with_reducible refine r_rz ?_)
  | (with_reducible refine r_rev ?_)
  | (with_reducible refine r_isI ?_)
  | (with_reducible refine r_isStr ?_)
  | (with_reducible refine r_ret ?_)
  | (with_reducible refine r_drop ?_)
  | (with_reducible refine r_rI0 ?_)
  | (with_reducible refine r_addI ?_)
  | ((with_reducible show rI (fun _ j => 0 < j) _ (.int _) (.int _) _ _); refine r_rI (by first | omega | decide) ?_)
  | ((with_reducible show rI CDiv _ (.int _) (.int _) _ _); refine r_rI (by constructor <;> omega) ?_)
  | ((with_reducible show rI CPow _ (.int _) (.int _) _ _); refine r_rI (by refine ⟨by decide, by decide, ?_⟩; omega) ?_)
  | ((with_reducible show rMul (.int _) (.int _) _ _); refine r_mulI (cmulW (by omega) (by omega)) ?_)
  | (with_reducible refine r_cmpI ?_)
  | (with_reducible refine r_cmpS ?_)
  | (with_reducible refine r_eqI ?_)
  | (with_reducible refine r_neI ?_)
  | (with_reducible refine r_eqS ?_)
  | (with_reducible refine r_neS ?_)
  | (with_reducible refine r_inSF ?_)
  | (with_reducible refine r_inST ?_)
  | (with_reducible refine r_isiStr ?_)
  | ((with_reducible show rIx _ (.ref _) (.int _) _ _); refine' r_ixL (SqL.of ?h) ?e ?_; (case h => walk_at "hp"); (case e => rfl))
  | ((with_reducible show rSetL (.ref _) (.int _) _ _ _); refine' r_setL ?h ?e ?_; (case h => walk_at "hp"); (case e => rfl)))
local macro_rules | `(tactic| walk_at "g") => `(tactic| repeat walk_at "s")


local macro_rules | `(tactic| walk_at "x") => `(tactic| first | omega | decide +kernel | (simp only [List.length_cons, List.length_nil]; omega))
local macro_rules | `(tactic| walk_at "T") => `(tactic| repeat (first
  | walk_at "s"
  | ((with_reducible show rIx _ (.ref _) (.int _) _ _); refine' r_ixTu (SqT.of ?h) ?e ?_; (case h => first | assumption | walk_at "hp"); (case e => rfl))
  | (with_reducible refine r_lenSet ?_)
  | (with_reducible refine r_asg2 ?_)
  | (with_reducible refine iteDT (by walk_at "x") ?_)
  | (with_reducible refine iteDF (by walk_at "x") ?_)
  | (with_reducible refine iteNT (by walk_at "x") ?_)
  | (with_reducible refine iteNF (by walk_at "x") ?_)))
abbrev s_init : Stmt := inClass (topS 2) 0
theorem sc_init : FnScope ["self", "found"] ["self", "found"] (defScope s_init) := ⟨rfl, rfl, rfl, by decide +kernel, rfl, by decide +kernel, by decide +kernel⟩
section
variable {P : Program} {w : World} {K : PySem.W.Frag} {mg : Str → Option Value} {base : Heap} {C : Addr} {cd0 : ClassData}
theorem ok_init {f : Addr} {fd : FuncData} (F : Fun K "__init__" "NoKind.__init__" s_init f fd) : FnOk P w K mg base CX0 1 f fd ["self", "found"] (spInit K "found") := by
  refine F.ok sc_init (fun vs H Q E h => ?_) (fun cdv A outer s H vs Q E hr h => ?_)
  · obtain ⟨a, C, v, rfl, _⟩ := h
    rfl
  · obtain ⟨a, C, v, rfl, hT, hf, ha, k⟩ := h
    refine ⟨_, pss_one (asOst (K := K) rfl (ps_ost (pv 0) (pv 1))), ?_⟩
    refine r_ost ?_
    walk_at "T"
    exact ⟨a, C, rfl, hT, hf, .inl ⟨ha, fun dx hd ne => k dx hd ne⟩⟩
theorem ok_init1 {f : Addr} {fd : FuncData} (F : Fun K "__init__" "NoKind.__init__" s_init f fd) : FnOk P w K mg base CX0 1 f fd ["self", "found"] (spInit1 K "found") := by
  refine F.ok sc_init (fun vs H Q E h => ?_) (fun cdv A outer s H vs Q E hr h => ?_)
  · obtain ⟨a, C, t1, v, rfl, _⟩ := h
    rfl
  · obtain ⟨a, C, t1, v, rfl, hT, hf, ha, k⟩ := h
    refine ⟨_, pss_one (ps_ost1 (pv 0) (pv 1)), ?_⟩
    show tVar 1 _ _ _
    walk_at "T"
    exact ⟨a, C, t1, rfl, hT, hf, ha, fun dx hd ne => k dx hd ne⟩
theorem ok_law (T : Tx K mg) (XF : ExG K C cd0) (V_NoKind : OV P w K mg base "NoKind" "found" C) {f f_is_whole f_is_name f_is_letter f_is_word f_are_signs f_is_kind f_are_bounds f_are_choices f_are_unlike f_law_cell f_law_box f_law_take f_law_name f_law_names f_law_kind f_law_word f_law_is_whole f_law_is_name f_law_is_word f_law_is_kind f_law_bent f_law_right : Addr} {fd fd_is_whole fd_is_name fd_is_letter fd_is_word fd_are_signs fd_is_kind fd_are_bounds fd_are_choices fd_are_unlike fd_law_cell fd_law_box fd_law_take fd_law_name fd_law_names fd_law_kind fd_law_word fd_law_is_whole fd_law_is_name fd_law_is_word fd_law_is_kind fd_law_bent fd_law_right : FuncData} (F : Fun K "law" "law" s_law f fd)
    (D_is_whole : DAt K mg "is_whole" s_is_whole P_is_whole f_is_whole fd_is_whole)
    (D_is_name : DAt K mg "is_name" s_is_name P_is_name f_is_name fd_is_name)
    (D_is_letter : DAt K mg "is_letter" s_is_letter P_is_letter f_is_letter fd_is_letter)
    (D_is_word : DAt K mg "is_word" s_is_word P_is_word f_is_word fd_is_word)
    (D_are_signs : DAt K mg "are_signs" s_are_signs P_are_signs f_are_signs fd_are_signs)
    (D_is_kind : DAt K mg "is_kind" s_is_kind P_is_kind f_is_kind fd_is_kind)
    (D_are_bounds : DAt K mg "_are_bounds" s_are_bounds P_are_bounds f_are_bounds fd_are_bounds)
    (D_are_choices : DAt K mg "_are_choices" s_are_choices P_are_choices f_are_choices fd_are_choices)
    (D_are_unlike : DAt K mg "are_unlike" s_are_unlike P_are_unlike f_are_unlike fd_are_unlike)
    (D_law_cell : DAt K mg "_law_cell" s_law_cell P_law_cell f_law_cell fd_law_cell)
    (D_law_box : DAt K mg "_law_box" s_law_box P_law_box f_law_box fd_law_box)
    (D_law_take : DAt K mg "_law_take" s_law_take P_law_take f_law_take fd_law_take)
    (D_law_name : DAt K mg "_law_name" s_law_name P_law_name f_law_name fd_law_name)
    (D_law_names : DAt K mg "_law_names" s_law_names P_law_names f_law_names fd_law_names)
    (D_law_kind : DAt K mg "_law_kind" s_law_kind P_law_kind f_law_kind fd_law_kind)
    (D_law_word : DAt K mg "_law_word" s_law_word P_law_word f_law_word fd_law_word)
    (D_law_is_whole : DAt K mg "_law_is_whole" s_law_is_whole P_law_is_whole f_law_is_whole fd_law_is_whole)
    (D_law_is_name : DAt K mg "_law_is_name" s_law_is_name P_law_is_name f_law_is_name fd_law_is_name)
    (D_law_is_word : DAt K mg "_law_is_word" s_law_is_word P_law_is_word f_law_is_word fd_law_is_word)
    (D_law_is_kind : DAt K mg "_law_is_kind" s_law_is_kind P_law_is_kind f_law_is_kind fd_law_is_kind)
    (D_law_bent : DAt K mg "_law_bent" s_law_bent P_law_bent f_law_bent fd_law_bent)
    (D_law_right : DAt K mg "_law_right" s_law_right P_law_right f_law_right fd_law_right) : FnG P w K mg base CX0 6 f fd P_law (spLaw K) := by
  have G_law_cell : FnOk P w K mg base CX0 1 f_law_cell fd_law_cell P_law_cell (spCell K) := ok_cell T D_law_cell.fn
  have G_law_box : FnOk P w K mg base CX0 1 f_law_box fd_law_box P_law_box spBox := ok_box T D_law_box.fn
  have G_law_take : FnOk P w K mg base CX0 1 f_law_take fd_law_take P_law_take spTake := ok_take D_law_take.fn
  have G_law_name : FnOk P w K mg base CX0 2 f_law_name fd_law_name P_law_name spName := ok_name T D_law_name.fn D_law_take
  have G_law_word : FnOk P w K mg base CX0 2 f_law_word fd_law_word P_law_word spWordK := ok_word T D_law_word.fn D_law_take
  have G_law_names : FnOk P w K mg base CX0 3 f_law_names fd_law_names P_law_names spNames := ok_names T D_law_names.fn D_law_take D_law_name
  have G_law_kind : FnOk P w K mg base CX0 4 f_law_kind fd_law_kind P_law_kind spKind := ok_kind T D_law_kind.fn D_law_take D_law_name D_law_names
  have G_law_bent : FnOk P w K mg base CX0 5 f_law_bent fd_law_bent P_law_bent (spBentX 3) := ok_bent0 T XF D_law_bent.fn D_law_take D_law_bent
  have G_law_right : FnG P w K mg base CX0 4 f_law_right fd_law_right P_law_right (spRightX C) := ok_right T XF D_law_right.fn D_is_name D_is_letter D_is_word D_are_signs D_is_kind D_are_unlike D_is_whole D_are_bounds D_are_choices D_law_is_name D_law_is_word D_law_is_kind D_law_is_whole
  refine fun_g F sc_law (fun vs H Q E h => ?_) (fun cdv A outer s H vs Q E hg hr h => ?_)
  · obtain ⟨a, ns, rfl, _⟩ := h
    rfl
  · obtain ⟨a, ns, rfl, ha, hn, k⟩ := h
    refine ⟨_, (pss_cons (ps_for (PassesOwn.never) rfl (pi_range1 rfl T.z_range (pa_cons (pe_callB (call_maxA rfl) (by rfl) T.z_max (by decide +kernel) (pa_cons pe_int (pa_cons (pe_callB (call_minA rfl) (by rfl) T.z_min (by decide +kernel) (pa_cons pe_int (pa_cons (pe_callB (call_lenA : CallR _ _ (rLen K)) (by rfl) T.z_len (by decide +kernel) (pa_cons (pv 0) pa_nil)) pa_nil))) pa_nil))) pa_nil)) (pg_name (i := 1) sc_law.nd rfl (Or.inl rfl)) (pss_cons (ps_set (i := 2) sc_law.nd rfl (Or.inl rfl) (pe_call G_law_box (hr.mono (by decide)) rfl D_law_box.gl D_law_box.fn.kp D_law_box.bd .nil pass0 (pa_cons (pe_call G_law_cell (hr.mono (by decide)) rfl D_law_cell.gl D_law_cell.fn.kp D_law_cell.bd .nil pass0 (pa_cons (pv 0) (pa_cons (pv 1) pa_nil))) pa_nil))) (pss_cons (ps_par (i := 3) (j := 4) rfl sc_law.nd rfl rfl (by decide) rfl rfl (pa_cons (pe_op L2.op_sub (pe_call G_law_take (hr.mono (by decide)) rfl D_law_take.gl D_law_take.fn.kp D_law_take.bd .nil pass0 (pa_cons (pv 2) (pa_cons pe_int pa_nil))) pe_int) (pa_cons (pe_ix (ix_seq : IxR _ (rIx K)) (pe_lst (pa_cons (pe_op L2.op_sub (pe_call G_law_take (hr.mono (by decide)) rfl D_law_take.gl D_law_take.fn.kp D_law_take.bd .nil pass0 (pa_cons (pv 2) (pa_cons pe_int pa_nil))) pe_int) (pa_cons (pe_op L2.op_pow pe_int pe_int) pa_nil))) (pe_call G_law_take (hr.mono (by decide)) rfl D_law_take.gl D_law_take.fn.kp D_law_take.bd .nil pass0 (pa_cons (pv 2) (pa_cons pe_int pa_nil))) (fun _ _ => rfl)) pa_nil)) rfl) (pss_cons (ps_set (i := 5) sc_law.nd rfl (Or.inl rfl) (pe_lst (pa_cons (pe_call G_law_kind (hr.mono (by decide)) rfl D_law_kind.gl D_law_kind.fn.kp D_law_kind.bd .nil pass0 (pa_cons (pv 2) pa_nil)) (pa_cons (pe_call G_law_name (hr.mono (by decide)) rfl D_law_name.gl D_law_name.fn.kp D_law_name.bd .nil pass0 (pa_cons (pv 2) pa_nil)) (pa_cons (pe_call G_law_word (hr.mono (by decide)) rfl D_law_word.gl D_law_word.fn.kp D_law_word.bd .nil pass0 (pa_cons (pv 2) (pa_cons pe_int pa_nil))) (pa_cons (pe_call G_law_names (hr.mono (by decide)) rfl D_law_names.gl D_law_names.fn.kp D_law_names.bd .nil pass0 (pa_cons (pv 2) (pa_cons pe_int pa_nil))) (pa_cons (pe_op oMul pe_str pe_int) (pa_cons (pe_op oMul pe_str pe_int) (pa_cons (pv 3) (pa_cons (pv 4) pa_nil)))))))))) (pss_cons (ps_set (i := 5) sc_law.nd rfl (Or.inl rfl) (pe_op (oAdd : OpR _ _ (J.rAdd K)) (pv 5) (pe_lst (pa_cons (pe_op L2.op_sub (pv 3) pe_int) (pa_cons (pe_op (oAdd : OpR _ _ (J.rAdd K)) (pv 4) pe_int) (pa_cons pe_bl (pa_cons pe_bl (pa_cons pe_non (pa_cons (pe_tup pa_nil) (pa_cons pe_dnewK (pa_cons (pe_lst (pa_cons (pe_call G_law_kind (hr.mono (by decide)) rfl D_law_kind.gl D_law_kind.fn.kp D_law_kind.bd .nil pass0 (pa_cons (pv 2) pa_nil)) pa_nil)) (pa_cons (pe_mkV1 (K := K) rfl V_NoKind (hr.mono (by decide)) rfl (pa_cons pe_int pa_nil)) pa_nil)))))))))))) (pss_cons (ps_set (i := 5) sc_law.nd rfl (Or.inl rfl) (pe_op (oAdd : OpR _ _ (J.rAdd K)) (pv 5) (pe_lst (pa_cons (pe_tup (pa_cons pe_str (pa_cons pe_str pa_nil))) (pa_cons pe_str pa_nil))))) (pss_one (ps_for (PassesOwn.never) rfl (asList (K := K) rfl (pi_list (pv 5))) (pg_name (i := 6) sc_law.nd rfl (Or.inl rfl)) (pss_cons (ps_if (pt_not (pt_val (pe_callG G_law_right hg (hr.mono (by decide)) rfl D_law_right.gl D_law_right.fn.kp D_law_right.bd .nil pass0 (pa_cons (pv 6) (pa_cons (pv 3) (pa_cons (pv 4) pa_nil)))))) (pss_one (ps_ret pe_bl)) pss_nil) (pss_one (ps_if (pt_val (pe_callB (call_isiTX XF.toExF : CallR _ _ (rIsiTX K C)) (by rfl) T.z_isinstance (by decide +kernel) (pa_cons (pv 6) (pa_cons (pe_tup (pa_cons (pe_bltn (v := .ty "str") (u := .type "str") rfl T.z_str (by decide +kernel) rfl) (pa_cons (pe_bltn (v := .ty "tuple") (u := .type "tuple") rfl T.z_tuple (by decide +kernel) rfl) pa_nil))) pa_nil)))) (pss_cons (ps_set (i := 7) sc_law.nd rfl (Or.inl rfl) (pe_call G_law_bent (hr.mono (by decide)) rfl D_law_bent.gl D_law_bent.fn.kp D_law_bent.bd .nil pass0 (pa_cons (pv 2) (pa_cons (pv 6) pa_nil)))) (pss_one (ps_if (PW.pt (pw_or (pt_not (pt_val (pe_callG G_law_right hg (hr.mono (by decide)) rfl D_law_right.gl D_law_right.fn.kp D_law_right.bd .nil pass0 (pa_cons (pv 7) (pa_cons (pv 3) (pa_cons (pv 4) pa_nil)))))) (pw_or1 (pt_not (pt_val (pe_callG G_law_right hg (hr.mono (by decide)) rfl D_law_right.gl D_law_right.fn.kp D_law_right.bd .nil pass0 (pa_cons (pe_call G_law_bent (hr.mono (by decide)) rfl D_law_bent.gl D_law_bent.fn.kp D_law_bent.bd .nil pass0 (pa_cons (pv 2) (pa_cons (pv 7) pa_nil))) (pa_cons (pv 3) (pa_cons (pv 4) pa_nil))))))))) (pss_one (ps_ret pe_bl)) pss_nil))) pss_nil))))))))))) (pss_one (ps_ret pe_bl))), ?_⟩
    refine r_seqJ (fun σ' H' => True) (fun N hN => ?_) ?_
    rotate_left
    · rintro σ' H' _
      walk_at "T"
      exact k _
    have hN : ∀ σ' H', N σ' H' := fun σ' H' => hN σ' H' trivial
    refine r_for (r_irng1 ?_)
    walk_at "T"
    refine r_lenL ha ?_
    walk_at "T"
    refine ⟨_, rfl, by split <;> (try split) <;> omega, by split <;> (try split) <;> omega, ?_⟩
    obtain ⟨q, hq, ql⟩ : ∃ q : Nat, (if (if ((ns.map V.int).length : Int) < 12 then ((ns.map V.int).length : Int) else 12) > 3 then (if ((ns.map V.int).length : Int) < 12 then ((ns.map V.int).length : Int) else 12) else 3).toNat = q ∧ q ≤ 12 := ⟨_, rfl, by split <;> (try split) <;> omega⟩
    rw [hq]
    refine loop_rng (fun j σ H' => ∃ x1 x2 x3 x4 x5 x6 x7 : Option V, σ = [some (.ref a), x1, x2, x3, x4, x5, x6, x7] ∧ Same H H') ⟨_, _, _, _, _, _, _, rfl, Same.refl _⟩ (fun j σ1 H1 hj w => ?_) fun σ1 H1 w => hN _ _
    obtain ⟨x1, x2, x3, x4, x5, x6, x7, rfl, s1⟩ := w
    walk_at "T"
    refine ⟨a, ns, j, rfl, s1.seqL ha, by omega, fun c => ?_⟩
    walk_at "T"
    refine ⟨c, rfl, fun b H2 hb s2 bx => ?_⟩
    walk_at "T"
    refine ⟨b, _, 0, rfl, bx, by omega, by decide, by decide, fun t A1 t0 t9 kp1 b1 => ?_⟩
    walk_at "T"
    refine ⟨b, _, _, rfl, b1, by omega, by decide, by decide, fun u A2 u0 u9 kp2 b2 => ?_⟩
    walk_at "T"
    refine ⟨show 2 ≤ sizeLine by decide, fun p0 hp0 => ?_⟩
    have b2' := b2.new (o := .lst [V.int (u - 10), V.int (10 ^ 29)]) hp0
    have n0 : p0 ≠ b := b2.ne hp0
    have s20 := (Same.refl A2).at hp0 (.lst [V.int (u - 10), V.int (10 ^ 29)])
    walk_at "T"
    refine ⟨b, _, _, rfl, b2', by omega, by decide, by decide, fun v A3 v0 v9 kp3 b3 => ?_⟩
    have hi_ : ∃ hi : Int, atI [V.int (u - 10), V.int (10 ^ 29)] v = some (V.int hi) ∧ hi.natAbs ≤ 10 ^ 29 := by
      rcases (show v = 0 ∨ v = 1 by omega) with rfl | rfl
      · exact ⟨_, atI_nat (j := 0) rfl, by omega⟩
      · exact ⟨_, atI_nat (j := 1) rfl, by decide⟩
    obtain ⟨hi, hat, hib⟩ := hi_
    refine r_ixL (SqL.of (kp3 p0 _ upd_same n0)) hat ?_
    have kA : Keep b H2 A3 := ((kp1.trans kp2).trans (Keep.same s20)).trans kp3
    clear kp1 kp2 kp3 s20 b1 b2 b2' hp0 n0 hat bx
    walk_at "T"
    refine ⟨b, _, rfl, b3, by omega, fun kd pk A4 ok ka kp4 b4 => ?_⟩
    walk_at "T"
    refine ⟨b, _, rfl, b4, by omega, fun nl A5 hnl kp5 b5 => ?_⟩
    walk_at "T"
    refine ⟨b, _, 40, rfl, by decide, b5, by omega, fun wl A6 wl1 wl2 kp6 b6 => ?_⟩
    walk_at "T"
    refine ⟨b, _, 8, rfl, b6, by omega, by decide, by decide, fun nms pn A7 nms1 nms2 nms3 kp7 b7 hpn => ?_⟩
    have npn : pn ≠ b := fun e => by
      obtain ⟨x, y, z, g, _⟩ := b7
      rw [e, g] at hpn
      injection hpn with hpn
      injection hpn with hpn
      have := congrArg List.length hpn
      rw [List.length_map, nms1] at this
      exact absurd this (show ¬ 3 = 8 by decide)
    walk_at "T"
    refine r_mulS (mul_ok (n := 40) (show (Str.ofString "~").length ≤ 1000 by decide +kernel) (by decide)) ?_
    walk_at "T"
    refine r_mulS (mul_ok (n := 41) (show (Str.ofString "~").length ≤ 1000 by decide +kernel) (by decide)) ?_
    have z40 : (Txt.mul (Str.ofString "~") ((40 : Nat) : Int)).length ≤ 41 ∧ ∀ c ∈ cd (Txt.mul (Str.ofString "~") ((40 : Nat) : Int)), c ≤ 126 := by decide +kernel
    have z41 : (Txt.mul (Str.ofString "~") ((41 : Nat) : Int)).length ≤ 41 ∧ ∀ c ∈ cd (Txt.mul (Str.ofString "~") ((41 : Nat) : Int)), c ≤ 126 := by decide +kernel
    rw [show ((40 : Nat) : Int) = (40 : Int) from rfl] at z40
    rw [show ((41 : Nat) : Int) = (41 : Int) from rfl] at z41
    generalize Txt.mul (Str.ofString "~") (40 : Int) = Z40 at z40 ⊢
    generalize Txt.mul (Str.ofString "~") (41 : Int) = Z41 at z41 ⊢
    walk_at "T"
    refine ⟨show 8 ≤ sizeLine by decide, fun q1 hq1 => ?_⟩
    have t1 : Same A7 (upd A7 q1 (.lst [V.ref pk, V.str (S nl), V.str (S wl), V.ref pn, V.str Z40, V.str Z41, V.int (t - 10), V.int hi])) := (Same.refl A7).at hq1 _
    have e1 : upd A7 q1 (.lst [V.ref pk, V.str (S nl), V.str (S wl), V.ref pn, V.str Z40, V.str Z41, V.int (t - 10), V.int hi]) q1 = some (.lst [V.ref pk, V.str (S nl), V.str (S wl), V.ref pn, V.str Z40, V.str Z41, V.int (t - 10), V.int hi]) := upd_same
    have c1 := b7.new (o := .lst [V.ref pk, V.str (S nl), V.str (S wl), V.ref pn, V.str Z40, V.str Z41, V.int (t - 10), V.int hi]) hq1
    have n1 : q1 ≠ b := b7.ne hq1
    generalize upd A7 q1 (.lst [V.ref pk, V.str (S nl), V.str (S wl), V.ref pn, V.str Z40, V.str Z41, V.int (t - 10), V.int hi]) = B1 at t1 e1 c1 ⊢
    walk_at "T"
    refine ⟨show 0 ≤ sizeLine by decide, fun q2 hq2 => ?_⟩
    have t2 : Same B1 (upd B1 q2 (.tup [])) := (Same.refl B1).at hq2 _
    have e2 : upd B1 q2 (.tup []) q2 = some (.tup []) := upd_same
    have c2 := c1.new (o := .tup []) hq2
    have n2 : q2 ≠ b := c1.ne hq2
    generalize upd B1 q2 (.tup []) = B2 at t2 e2 c2 ⊢
    walk_at "T"
    intro q3 hq3
    have t3 : Same B2 (upd B2 q3 (.dK [])) := (Same.refl B2).at hq3 _
    have e3 : upd B2 q3 (.dK []) q3 = some (.dK []) := upd_same
    have c3 := c2.new (o := .dK []) hq3
    have n3 : q3 ≠ b := c2.ne hq3
    generalize upd B2 q3 (.dK []) = B3 at t3 e3 c3 ⊢
    walk_at "T"
    refine ⟨b, _, rfl, c3, by omega, fun kd2 pk2 A8 ok2 ka2 kp8 b8 => ?_⟩
    walk_at "T"
    refine ⟨show 1 ≤ sizeLine by decide, fun q4 hq4 => ?_⟩
    have t4 : Same A8 (upd A8 q4 (.lst [V.ref pk2])) := (Same.refl A8).at hq4 _
    have e4 : upd A8 q4 (.lst [V.ref pk2]) q4 = some (.lst [V.ref pk2]) := upd_same
    have c4 := b8.new (o := .lst [V.ref pk2]) hq4
    have n4 : q4 ≠ b := b8.ne hq4
    generalize upd A8 q4 (.lst [V.ref pk2]) = B4 at t4 e4 c4 ⊢
    walk_at "T"
    refine r_mkV ?_
    walk_at "T"
    refine mk_one V_NoKind.T V_NoKind.nf fun qe B5 ev t5 => ?_
    have c5 : Bx B5 b _ := c4.same t5
    walk_at "T"
    refine ⟨show 9 ≤ sizeLine by decide, fun q5 hq5 => ?_⟩
    have t6 : Same B5 (upd B5 q5 (.lst [V.int (t - 10 - 1), V.int (hi + 1), V.bl true, V.bl false, V.non, V.ref q2, V.ref q3, V.ref q4, V.ref qe])) := (Same.refl B5).at hq5 _
    have e6 : upd B5 q5 (.lst [V.int (t - 10 - 1), V.int (hi + 1), V.bl true, V.bl false, V.non, V.ref q2, V.ref q3, V.ref q4, V.ref qe]) q5 = some (.lst [V.int (t - 10 - 1), V.int (hi + 1), V.bl true, V.bl false, V.non, V.ref q2, V.ref q3, V.ref q4, V.ref qe]) := upd_same
    have c6 := c5.new (o := .lst [V.int (t - 10 - 1), V.int (hi + 1), V.bl true, V.bl false, V.non, V.ref q2, V.ref q3, V.ref q4, V.ref qe]) hq5
    have n6 : q5 ≠ b := c5.ne hq5
    generalize upd B5 q5 (.lst [V.int (t - 10 - 1), V.int (hi + 1), V.bl true, V.bl false, V.non, V.ref q2, V.ref q3, V.ref q4, V.ref qe]) = B6 at t6 e6 c6 ⊢
    have f1 : B6 q1 = some (.lst [V.ref pk, V.str (S nl), V.str (S wl), V.ref pn, V.str Z40, V.str Z41, V.int (t - 10), V.int hi]) := t6 _ _ (t5 _ _ (t4 _ _ (kp8 _ _ (t3 _ _ (t2 _ _ e1)) n1)))
    refine r_cat f1 e6 (show 8 + 9 ≤ 16777216 by decide) fun q7 hq7 => ?_
    have t7 : Same B6 (upd B6 q7 (.lst ([V.ref pk, V.str (S nl), V.str (S wl), V.ref pn, V.str Z40, V.str Z41, V.int (t - 10), V.int hi] ++ [V.int (t - 10 - 1), V.int (hi + 1), V.bl true, V.bl false, V.non, V.ref q2, V.ref q3, V.ref q4, V.ref qe]))) := (Same.refl B6).at hq7 _
    have e7 : upd B6 q7 (.lst ([V.ref pk, V.str (S nl), V.str (S wl), V.ref pn, V.str Z40, V.str Z41, V.int (t - 10), V.int hi] ++ [V.int (t - 10 - 1), V.int (hi + 1), V.bl true, V.bl false, V.non, V.ref q2, V.ref q3, V.ref q4, V.ref qe])) q7 = some (.lst ([V.ref pk, V.str (S nl), V.str (S wl), V.ref pn, V.str Z40, V.str Z41, V.int (t - 10), V.int hi] ++ [V.int (t - 10 - 1), V.int (hi + 1), V.bl true, V.bl false, V.non, V.ref q2, V.ref q3, V.ref q4, V.ref qe])) := upd_same
    have c7 := c6.new (o := .lst ([V.ref pk, V.str (S nl), V.str (S wl), V.ref pn, V.str Z40, V.str Z41, V.int (t - 10), V.int hi] ++ [V.int (t - 10 - 1), V.int (hi + 1), V.bl true, V.bl false, V.non, V.ref q2, V.ref q3, V.ref q4, V.ref qe])) hq7
    have n7 : q7 ≠ b := c6.ne hq7
    generalize upd B6 q7 (.lst ([V.ref pk, V.str (S nl), V.str (S wl), V.ref pn, V.str Z40, V.str Z41, V.int (t - 10), V.int hi] ++ [V.int (t - 10 - 1), V.int (hi + 1), V.bl true, V.bl false, V.non, V.ref q2, V.ref q3, V.ref q4, V.ref qe])) = B7 at t7 e7 c7 ⊢
    walk_at "T"
    refine ⟨show 2 ≤ sizeLine by decide, fun q8 hq8 => ?_⟩
    have t8 : Same B7 (upd B7 q8 (.tup [V.str "name", V.str "name"])) := (Same.refl B7).at hq8 _
    have e8 : upd B7 q8 (.tup [V.str "name", V.str "name"]) q8 = some (.tup [V.str "name", V.str "name"]) := upd_same
    have c8 := c7.new (o := .tup [V.str "name", V.str "name"]) hq8
    have n8 : q8 ≠ b := c7.ne hq8
    generalize upd B7 q8 (.tup [V.str "name", V.str "name"]) = B8 at t8 e8 c8 ⊢
    walk_at "T"
    refine ⟨show 2 ≤ sizeLine by decide, fun q9 hq9 => ?_⟩
    have t9 : Same B8 (upd B8 q9 (.lst [V.ref q8, V.str "abcdefgh"])) := (Same.refl B8).at hq9 _
    have e9 : upd B8 q9 (.lst [V.ref q8, V.str "abcdefgh"]) q9 = some (.lst [V.ref q8, V.str "abcdefgh"]) := upd_same
    have c9 := c8.new (o := .lst [V.ref q8, V.str "abcdefgh"]) hq9
    have n9 : q9 ≠ b := c8.ne hq9
    generalize upd B8 q9 (.lst [V.ref q8, V.str "abcdefgh"]) = B9 at t9 e9 c9 ⊢
    refine r_cat (t9 _ _ (t8 _ _ e7)) e9 (show 17 + 2 ≤ 16777216 by decide) fun q10 hq10 => ?_
    have t10 : Same B9 (upd B9 q10 (.lst (([V.ref pk, V.str (S nl), V.str (S wl), V.ref pn, V.str Z40, V.str Z41, V.int (t - 10), V.int hi] ++ [V.int (t - 10 - 1), V.int (hi + 1), V.bl true, V.bl false, V.non, V.ref q2, V.ref q3, V.ref q4, V.ref qe]) ++ [V.ref q8, V.str "abcdefgh"]))) := (Same.refl B9).at hq10 _
    have e10 : upd B9 q10 (.lst (([V.ref pk, V.str (S nl), V.str (S wl), V.ref pn, V.str Z40, V.str Z41, V.int (t - 10), V.int hi] ++ [V.int (t - 10 - 1), V.int (hi + 1), V.bl true, V.bl false, V.non, V.ref q2, V.ref q3, V.ref q4, V.ref qe]) ++ [V.ref q8, V.str "abcdefgh"])) q10 = some (.lst (([V.ref pk, V.str (S nl), V.str (S wl), V.ref pn, V.str Z40, V.str Z41, V.int (t - 10), V.int hi] ++ [V.int (t - 10 - 1), V.int (hi + 1), V.bl true, V.bl false, V.non, V.ref q2, V.ref q3, V.ref q4, V.ref qe]) ++ [V.ref q8, V.str "abcdefgh"])) := upd_same
    have c10 := c9.new (o := .lst (([V.ref pk, V.str (S nl), V.str (S wl), V.ref pn, V.str Z40, V.str Z41, V.int (t - 10), V.int hi] ++ [V.int (t - 10 - 1), V.int (hi + 1), V.bl true, V.bl false, V.non, V.ref q2, V.ref q3, V.ref q4, V.ref qe]) ++ [V.ref q8, V.str "abcdefgh"])) hq10
    have n10 : q10 ≠ b := c9.ne hq10
    generalize upd B9 q10 (.lst (([V.ref pk, V.str (S nl), V.str (S wl), V.ref pn, V.str Z40, V.str Z41, V.int (t - 10), V.int hi] ++ [V.int (t - 10 - 1), V.int (hi + 1), V.bl true, V.bl false, V.non, V.ref q2, V.ref q3, V.ref q4, V.ref qe]) ++ [V.ref q8, V.str "abcdefgh"])) = B10 at t10 e10 c10 ⊢
    have m8 : Keep b A8 B10 := Keep.same ((((((t4.trans t5).trans t6).trans t7).trans t8).trans t9).trans t10)
    have m7 : Keep b A7 B10 := ((Keep.same ((t1.trans t2).trans t3)).trans kp8).trans m8
    have m4 : Keep b A4 B10 := ((kp5.trans kp6).trans kp7).trans m7
    have m2 : Keep b H2 B10 := (kA.trans kp4).trans m4
    obtain ⟨dk, d1, d2, d3⟩ := dd_kind (b := b) (ka.keep m4 b4) ok
    obtain ⟨dk2, g1, g2, g3⟩ := dd_kind (b := b) (ka2.keep m8 b8) ok2
    obtain ⟨w1, w2, w3⟩ := dd_w (b := b) (H := B10) (l := nl) (by have := hnl.2.1; omega) fun c hc => by have := hnl.2.2 c hc; omega
    obtain ⟨v1, v2, v3⟩ := dd_w (b := b) (H := B10) (l := wl) (by omega) fun c hc => (wl2 c hc).2
    obtain ⟨u1, u2, u3⟩ := dd_nms (b := b) (H := B10) nms2
    have sw : ∀ (z : Str), (z.length ≤ 41 ∧ ∀ c ∈ cd z, c ≤ 126) → Dd b B10 (.str z) (.str z) ∧ wt (.str z) ≤ 1000 ∧ (PyData.str z).depth ≤ 2 := fun z h => ⟨.str z (by omega) h.2, by rw [wt_str]; omega, Nat.zero_le _⟩
    have si : ∀ i : Int, i.natAbs ≤ 10 ^ 60 → Dd b B10 (.int i) (.int i) ∧ wt (.int i) ≤ 1000 ∧ (PyData.int i).depth ≤ 2 := fun i h => ⟨.int i h, by rw [wt]; decide, Nat.zero_le _⟩
    have all : ∃ es : List (V × Option PyData), es.map Prod.fst = ([V.ref pk, V.str (S nl), V.str (S wl), V.ref pn, V.str Z40, V.str Z41, V.int (t - 10), V.int hi] ++ [V.int (t - 10 - 1), V.int (hi + 1), V.bl true, V.bl false, V.non, V.ref q2, V.ref q3, V.ref q4, V.ref qe]) ++ [V.ref q8, V.str "abcdefgh"] ∧ TnAll b C B10 es := by
      obtain ⟨x1, x2, x3⟩ := sw Z40 z40
      obtain ⟨y1, y2, y3⟩ := sw Z41 z41
      obtain ⟨a1, a2, a3⟩ := si (t - 10) (by omega)
      obtain ⟨b1, b2, b3⟩ := si hi (by omega)
      obtain ⟨a4, a5, a6⟩ := si (t - 10 - 1) (by omega)
      obtain ⟨b4, b5, b6⟩ := si (hi + 1) (by omega)
      obtain ⟨r1, r2, r3⟩ := sw "name" (by decide +kernel)
      obtain ⟨r4, r5, r6⟩ := sw "abcdefgh" (by decide +kernel)
      refine ⟨[(V.ref pk, some (.tuple dk)), (V.str (S nl), some (.str (S nl))), (V.str (S wl), some (.str (S wl))), (V.ref pn, some (.list (nms.map dW))), (V.str Z40, some (.str Z40)), (V.str Z41, some (.str Z41)), (V.int (t - 10), some (.int (t - 10))), (V.int hi, some (.int hi)),
        (V.int (t - 10 - 1), some (.int (t - 10 - 1))), (V.int (hi + 1), some (.int (hi + 1))), (V.bl true, some (.bool true)), (V.bl false, some (.bool false)), (V.non, some .none), (V.ref q2, some (.tuple [])), (V.ref q3, some (.dict [])), (V.ref q4, some (.list [.tuple dk2])), (V.ref qe, none),
        (V.ref q8, some (.tuple [.str "name", .str "name"])), (V.str "abcdefgh", some (.str "abcdefgh"))], rfl, ?_⟩
      refine .cons d1 (by omega) d3 (.cons w1 (by omega) (by omega) (.cons v1 (by omega) (by omega) (.consL (.lst (m7 _ _ hpn npn) npn u1) (by rw [wt_lst]; omega) (Nat.le_trans (dep_lst.mpr u3) (by decide)) (.cons x1 x2 x3 (.cons y1 y2 y3 (.cons a1 a2 a3 (.cons b1 b2 b3 (.cons a4 a5 a6 (.cons b4 b5 b6
        (.cons (.bl true) (by rw [wt]; decide) (Nat.zero_le _) (.cons (.bl false) (by rw [wt]; decide) (Nat.zero_le _) (.cons .non (by rw [wt]; decide) (Nat.zero_le _) ?_))))))))))))
      have k3 : Keep b B3 B10 := kp8.trans m8
      refine .cons (.tup (k3 _ _ (t3 _ _ e2) n2) .nil) (by decide +kernel) (by show 1 ≤ 2; decide) (.cons (.dct (k3 _ _ e3 n3)) (by rw [wt]; decide) (by show 1 ≤ 2; decide) (.consL (.lst (t10 _ _ (t9 _ _ (t8 _ _ (t7 _ _ (t6 _ _ (t5 _ _ e4)))))) n4 (.cons g1 .nil)) (by rw [wt_lst, wtAll_one]; omega)
        (dep_lst.mpr fun d hd => by rw [List.mem_singleton.mp hd]; exact g3) (.consE (ev.same ((((t6.trans t7).trans t8).trans t9).trans t10)) (.cons (.tup (t10 _ _ (t9 _ _ e8)) (.cons r1 (.cons r1 .nil))) (by decide +kernel) (by show 1 ≤ 2; decide) (.cons r4 r5 r6 .nil)))))
    obtain ⟨es, he, all⟩ := all
    rw [← he] at e10
    have el : es.length = 19 := by
      have := congrArg List.length he
      rw [List.length_map] at this
      exact this
    clear he
    have hw := c10
    clear d1 g1 w1 v1 u1 sw si m4 m7 m8 kA kp4 kp5 kp6 kp7 kp8 t1 t2 t3 t4 t5 t6 t7 t8 t9 t10 e1 e2 e3 e4 e6 e7 e8 e9 ev ka ka2 hpn f1
    walk_at "T"
    refine r_for (r_ilist ?_)
    walk_at "T"
    refine r_isRL (SqL.of e10) ?_
    refine loop_lst (xs := es.map Prod.fst) (fun i σ' H' => ∃ y6 y7 : Option V, σ' = [some (.ref a), some (.int (j : Nat)), some (.ref b), some (.int (t - 10)), some (.int hi), some (.ref q10), y6, y7] ∧ Bx H' b (1000 + 50 * i) ∧ Keep b B10 H') (fun i σ' H' w => ?_) ⟨_, _, rfl, hw.mono (by omega), Keep.refl b _⟩ (fun i x σ2 D1 hx w => ?_) fun σ2 D1 w => ?_
    · obtain ⟨y6, y7, _, _, kp⟩ := w
      exact kp _ _ e10 n10
    rotate_left
    · obtain ⟨y6, y7, rfl, _, kp⟩ := w
      exact ⟨_, _, _, _, _, _, _, rfl, s1.trans (s2.keep hb (m2.trans kp))⟩
    obtain ⟨y6, y7, rfl, bx, kp⟩ := w
    have il : i < 19 := by
      have := (List.getElem?_eq_some_iff.mp hx).1
      rw [List.length_map] at this
      omega
    rw [List.getElem?_map] at hx
    cases hi' : es[i]? with
    | none => rw [hi'] at hx; cases hx
    | some e =>
      rw [hi'] at hx
      cases hx
      obtain ⟨x, o⟩ := e
      obtain ⟨tx, fx⟩ := all _ (List.mem_of_getElem? hi')
      replace tx : Tn b C D1 x o := tx.keep hw kp
      have fx : Fm o := fx
      show gName 6 x _ _ _
      walk_at "T"
      refine ⟨b, x, o, t - 10, hi, rfl, tx, fx.fit, fun D2 r2 => ?_⟩
      walk_at "T"
      refine ⟨show 2 ≤ sizeLine by decide, fun p hp => ?_⟩
      have r3 := (Same.refl D2).at hp (.tup [V.ty "str", V.ty "tuple"])
      have e3 : upd D2 p (.tup [V.ty "str", V.ty "tuple"]) p = some (.tup [V.ty "str", V.ty "tuple"]) := upd_same
      generalize upd D2 p (.tup [V.ty "str", V.ty "tuple"]) = D3 at r3 e3 ⊢
      have tx3 := tx.same (r2.trans r3)
      have bx3 := bx.same (r2.trans r3)
      refine tx3.isST XF e3 ?_
      cases qs : (oB isSD o || oB isTD o) with
      | false =>
        refine ⟨_, rfl, iteF ?_⟩
        exact ⟨_, _, rfl, bx3.mono (by omega), kp.trans (Keep.same (r2.trans r3))⟩
      | true =>
        cases tx3 with
        | err _ => exact (Bool.false_ne_true qs).elim
        | @dat _ d dx =>
          obtain ⟨f1, f2, f3⟩ := fx d rfl
          have f3 := f3 qs
          refine ⟨_, rfl, iteT ?_⟩
          walk_at "T"
          refine ⟨b, _, x, d, rfl, bx3, by omega, dx, by omega, by omega, fun y e D4 kp4 bx4 dy bo => ?_⟩
          obtain ⟨o1, o2⟩ := bo
          walk_at "T"
          refine ⟨b, y, some e, t - 10, hi, rfl, .dat dy, fun z hz => by cases hz; exact ⟨by omega, by omega⟩, fun D5 r5 => ?_⟩
          walk_at "T"
          refine ⟨b, _, y, e, rfl, bx4.same r5, by omega, dy.same r5, by omega, by omega, fun y2 e2 D6 kp6 bx6 dy2 bo2 => ?_⟩
          obtain ⟨o3, o4⟩ := bo2
          walk_at "T"
          refine ⟨b, y2, some e2, t - 10, hi, rfl, .dat dy2, fun z hz => by cases hz; exact ⟨by omega, by omega⟩, fun D7 r7 => ?_⟩
          walk_at "T"
          exact ⟨_, _, rfl, (bx6.same r7).mono (by omega), ((((kp.trans (Keep.same (r2.trans r3))).trans kp4).trans (Keep.same r5)).trans kp6).trans (Keep.same r7)⟩
end
end K01

namespace K01
open PySem PySem.Spec PyProof.Rows L2 J M
theorem all_mk {l : PySem.W.OpenLaw} {w : World} {K : PySem.W.Frag} {h : Heap} {mg : Str → Option Value} {fa : Addr} (X : K.In h) (G : h.Ns mainGlobals mg) (hfa : mg "law" = some (.ref fa))
    {f_is_whole : Addr} {od_is_whole an_is_whole : Option Addr} {sl_is_whole : Array (Option Value)} {oc_is_whole kV_is_whole dc_is_whole pm_is_whole cd_is_whole ct_is_whole : Value}
    (a_is_whole : PySem.W.nsIn K mainGlobals "is_whole" = some (some (.ref f_is_whole))) (l_is_whole : K.lookup f_is_whole = some ⟨oc_is_whole, od_is_whole, .func (PySem.W.fnOf "is_whole" "is_whole" (defArgs s_is_whole) (defBody s_is_whole) (defScope s_is_whole) .none kV_is_whole dc_is_whole pm_is_whole an_is_whole cd_is_whole ct_is_whole), sl_is_whole⟩) (c_is_whole : PySem.W.codeIn K cd_is_whole "is_whole" = true) (k_is_whole : PySem.W.keepIn K (.ref f_is_whole) = true)
    {f_is_name : Addr} {od_is_name an_is_name : Option Addr} {sl_is_name : Array (Option Value)} {oc_is_name kV_is_name dc_is_name pm_is_name cd_is_name ct_is_name : Value}
    (a_is_name : PySem.W.nsIn K mainGlobals "is_name" = some (some (.ref f_is_name))) (l_is_name : K.lookup f_is_name = some ⟨oc_is_name, od_is_name, .func (PySem.W.fnOf "is_name" "is_name" (defArgs s_is_name) (defBody s_is_name) (defScope s_is_name) .none kV_is_name dc_is_name pm_is_name an_is_name cd_is_name ct_is_name), sl_is_name⟩) (c_is_name : PySem.W.codeIn K cd_is_name "is_name" = true) (k_is_name : PySem.W.keepIn K (.ref f_is_name) = true)
    {f_is_letter : Addr} {od_is_letter an_is_letter : Option Addr} {sl_is_letter : Array (Option Value)} {oc_is_letter kV_is_letter dc_is_letter pm_is_letter cd_is_letter ct_is_letter : Value}
    (a_is_letter : PySem.W.nsIn K mainGlobals "is_letter" = some (some (.ref f_is_letter))) (l_is_letter : K.lookup f_is_letter = some ⟨oc_is_letter, od_is_letter, .func (PySem.W.fnOf "is_letter" "is_letter" (defArgs s_is_letter) (defBody s_is_letter) (defScope s_is_letter) .none kV_is_letter dc_is_letter pm_is_letter an_is_letter cd_is_letter ct_is_letter), sl_is_letter⟩) (c_is_letter : PySem.W.codeIn K cd_is_letter "is_letter" = true) (k_is_letter : PySem.W.keepIn K (.ref f_is_letter) = true)
    {f_is_word : Addr} {od_is_word an_is_word : Option Addr} {sl_is_word : Array (Option Value)} {oc_is_word kV_is_word dc_is_word pm_is_word cd_is_word ct_is_word : Value}
    (a_is_word : PySem.W.nsIn K mainGlobals "is_word" = some (some (.ref f_is_word))) (l_is_word : K.lookup f_is_word = some ⟨oc_is_word, od_is_word, .func (PySem.W.fnOf "is_word" "is_word" (defArgs s_is_word) (defBody s_is_word) (defScope s_is_word) .none kV_is_word dc_is_word pm_is_word an_is_word cd_is_word ct_is_word), sl_is_word⟩) (c_is_word : PySem.W.codeIn K cd_is_word "is_word" = true) (k_is_word : PySem.W.keepIn K (.ref f_is_word) = true)
    {f_are_signs : Addr} {od_are_signs an_are_signs : Option Addr} {sl_are_signs : Array (Option Value)} {oc_are_signs kV_are_signs dc_are_signs pm_are_signs cd_are_signs ct_are_signs : Value}
    (a_are_signs : PySem.W.nsIn K mainGlobals "are_signs" = some (some (.ref f_are_signs))) (l_are_signs : K.lookup f_are_signs = some ⟨oc_are_signs, od_are_signs, .func (PySem.W.fnOf "are_signs" "are_signs" (defArgs s_are_signs) (defBody s_are_signs) (defScope s_are_signs) .none kV_are_signs dc_are_signs pm_are_signs an_are_signs cd_are_signs ct_are_signs), sl_are_signs⟩) (c_are_signs : PySem.W.codeIn K cd_are_signs "are_signs" = true) (k_are_signs : PySem.W.keepIn K (.ref f_are_signs) = true)
    {f_is_kind : Addr} {od_is_kind an_is_kind : Option Addr} {sl_is_kind : Array (Option Value)} {oc_is_kind kV_is_kind dc_is_kind pm_is_kind cd_is_kind ct_is_kind : Value}
    (a_is_kind : PySem.W.nsIn K mainGlobals "is_kind" = some (some (.ref f_is_kind))) (l_is_kind : K.lookup f_is_kind = some ⟨oc_is_kind, od_is_kind, .func (PySem.W.fnOf "is_kind" "is_kind" (defArgs s_is_kind) (defBody s_is_kind) (defScope s_is_kind) .none kV_is_kind dc_is_kind pm_is_kind an_is_kind cd_is_kind ct_is_kind), sl_is_kind⟩) (c_is_kind : PySem.W.codeIn K cd_is_kind "is_kind" = true) (k_is_kind : PySem.W.keepIn K (.ref f_is_kind) = true)
    {f_are_bounds : Addr} {od_are_bounds an_are_bounds : Option Addr} {sl_are_bounds : Array (Option Value)} {oc_are_bounds kV_are_bounds dc_are_bounds pm_are_bounds cd_are_bounds ct_are_bounds : Value}
    (a_are_bounds : PySem.W.nsIn K mainGlobals "_are_bounds" = some (some (.ref f_are_bounds))) (l_are_bounds : K.lookup f_are_bounds = some ⟨oc_are_bounds, od_are_bounds, .func (PySem.W.fnOf "_are_bounds" "_are_bounds" (defArgs s_are_bounds) (defBody s_are_bounds) (defScope s_are_bounds) .none kV_are_bounds dc_are_bounds pm_are_bounds an_are_bounds cd_are_bounds ct_are_bounds), sl_are_bounds⟩) (c_are_bounds : PySem.W.codeIn K cd_are_bounds "_are_bounds" = true) (k_are_bounds : PySem.W.keepIn K (.ref f_are_bounds) = true)
    {f_are_choices : Addr} {od_are_choices an_are_choices : Option Addr} {sl_are_choices : Array (Option Value)} {oc_are_choices kV_are_choices dc_are_choices pm_are_choices cd_are_choices ct_are_choices : Value}
    (a_are_choices : PySem.W.nsIn K mainGlobals "_are_choices" = some (some (.ref f_are_choices))) (l_are_choices : K.lookup f_are_choices = some ⟨oc_are_choices, od_are_choices, .func (PySem.W.fnOf "_are_choices" "_are_choices" (defArgs s_are_choices) (defBody s_are_choices) (defScope s_are_choices) .none kV_are_choices dc_are_choices pm_are_choices an_are_choices cd_are_choices ct_are_choices), sl_are_choices⟩) (c_are_choices : PySem.W.codeIn K cd_are_choices "_are_choices" = true) (k_are_choices : PySem.W.keepIn K (.ref f_are_choices) = true)
    {f_are_unlike : Addr} {od_are_unlike an_are_unlike : Option Addr} {sl_are_unlike : Array (Option Value)} {oc_are_unlike kV_are_unlike dc_are_unlike pm_are_unlike cd_are_unlike ct_are_unlike : Value}
    (a_are_unlike : PySem.W.nsIn K mainGlobals "are_unlike" = some (some (.ref f_are_unlike))) (l_are_unlike : K.lookup f_are_unlike = some ⟨oc_are_unlike, od_are_unlike, .func (PySem.W.fnOf "are_unlike" "are_unlike" (defArgs s_are_unlike) (defBody s_are_unlike) (defScope s_are_unlike) .none kV_are_unlike dc_are_unlike pm_are_unlike an_are_unlike cd_are_unlike ct_are_unlike), sl_are_unlike⟩) (c_are_unlike : PySem.W.codeIn K cd_are_unlike "are_unlike" = true) (k_are_unlike : PySem.W.keepIn K (.ref f_are_unlike) = true)
    {f_law_cell : Addr} {od_law_cell an_law_cell : Option Addr} {sl_law_cell : Array (Option Value)} {oc_law_cell kV_law_cell dc_law_cell pm_law_cell cd_law_cell ct_law_cell : Value}
    (a_law_cell : PySem.W.nsIn K mainGlobals "_law_cell" = some (some (.ref f_law_cell))) (l_law_cell : K.lookup f_law_cell = some ⟨oc_law_cell, od_law_cell, .func (PySem.W.fnOf "_law_cell" "_law_cell" (defArgs s_law_cell) (defBody s_law_cell) (defScope s_law_cell) .none kV_law_cell dc_law_cell pm_law_cell an_law_cell cd_law_cell ct_law_cell), sl_law_cell⟩) (c_law_cell : PySem.W.codeIn K cd_law_cell "_law_cell" = true) (k_law_cell : PySem.W.keepIn K (.ref f_law_cell) = true)
    {f_law_box : Addr} {od_law_box an_law_box : Option Addr} {sl_law_box : Array (Option Value)} {oc_law_box kV_law_box dc_law_box pm_law_box cd_law_box ct_law_box : Value}
    (a_law_box : PySem.W.nsIn K mainGlobals "_law_box" = some (some (.ref f_law_box))) (l_law_box : K.lookup f_law_box = some ⟨oc_law_box, od_law_box, .func (PySem.W.fnOf "_law_box" "_law_box" (defArgs s_law_box) (defBody s_law_box) (defScope s_law_box) .none kV_law_box dc_law_box pm_law_box an_law_box cd_law_box ct_law_box), sl_law_box⟩) (c_law_box : PySem.W.codeIn K cd_law_box "_law_box" = true) (k_law_box : PySem.W.keepIn K (.ref f_law_box) = true)
    {f_law_take : Addr} {od_law_take an_law_take : Option Addr} {sl_law_take : Array (Option Value)} {oc_law_take kV_law_take dc_law_take pm_law_take cd_law_take ct_law_take : Value}
    (a_law_take : PySem.W.nsIn K mainGlobals "_law_take" = some (some (.ref f_law_take))) (l_law_take : K.lookup f_law_take = some ⟨oc_law_take, od_law_take, .func (PySem.W.fnOf "_law_take" "_law_take" (defArgs s_law_take) (defBody s_law_take) (defScope s_law_take) .none kV_law_take dc_law_take pm_law_take an_law_take cd_law_take ct_law_take), sl_law_take⟩) (c_law_take : PySem.W.codeIn K cd_law_take "_law_take" = true) (k_law_take : PySem.W.keepIn K (.ref f_law_take) = true)
    {f_law_name : Addr} {od_law_name an_law_name : Option Addr} {sl_law_name : Array (Option Value)} {oc_law_name kV_law_name dc_law_name pm_law_name cd_law_name ct_law_name : Value}
    (a_law_name : PySem.W.nsIn K mainGlobals "_law_name" = some (some (.ref f_law_name))) (l_law_name : K.lookup f_law_name = some ⟨oc_law_name, od_law_name, .func (PySem.W.fnOf "_law_name" "_law_name" (defArgs s_law_name) (defBody s_law_name) (defScope s_law_name) .none kV_law_name dc_law_name pm_law_name an_law_name cd_law_name ct_law_name), sl_law_name⟩) (c_law_name : PySem.W.codeIn K cd_law_name "_law_name" = true) (k_law_name : PySem.W.keepIn K (.ref f_law_name) = true)
    {f_law_names : Addr} {od_law_names an_law_names : Option Addr} {sl_law_names : Array (Option Value)} {oc_law_names kV_law_names dc_law_names pm_law_names cd_law_names ct_law_names : Value}
    (a_law_names : PySem.W.nsIn K mainGlobals "_law_names" = some (some (.ref f_law_names))) (l_law_names : K.lookup f_law_names = some ⟨oc_law_names, od_law_names, .func (PySem.W.fnOf "_law_names" "_law_names" (defArgs s_law_names) (defBody s_law_names) (defScope s_law_names) .none kV_law_names dc_law_names pm_law_names an_law_names cd_law_names ct_law_names), sl_law_names⟩) (c_law_names : PySem.W.codeIn K cd_law_names "_law_names" = true) (k_law_names : PySem.W.keepIn K (.ref f_law_names) = true)
    {f_law_kind : Addr} {od_law_kind an_law_kind : Option Addr} {sl_law_kind : Array (Option Value)} {oc_law_kind kV_law_kind dc_law_kind pm_law_kind cd_law_kind ct_law_kind : Value}
    (a_law_kind : PySem.W.nsIn K mainGlobals "_law_kind" = some (some (.ref f_law_kind))) (l_law_kind : K.lookup f_law_kind = some ⟨oc_law_kind, od_law_kind, .func (PySem.W.fnOf "_law_kind" "_law_kind" (defArgs s_law_kind) (defBody s_law_kind) (defScope s_law_kind) .none kV_law_kind dc_law_kind pm_law_kind an_law_kind cd_law_kind ct_law_kind), sl_law_kind⟩) (c_law_kind : PySem.W.codeIn K cd_law_kind "_law_kind" = true) (k_law_kind : PySem.W.keepIn K (.ref f_law_kind) = true)
    {f_law_word : Addr} {od_law_word an_law_word : Option Addr} {sl_law_word : Array (Option Value)} {oc_law_word kV_law_word dc_law_word pm_law_word cd_law_word ct_law_word : Value}
    (a_law_word : PySem.W.nsIn K mainGlobals "_law_word" = some (some (.ref f_law_word))) (l_law_word : K.lookup f_law_word = some ⟨oc_law_word, od_law_word, .func (PySem.W.fnOf "_law_word" "_law_word" (defArgs s_law_word) (defBody s_law_word) (defScope s_law_word) .none kV_law_word dc_law_word pm_law_word an_law_word cd_law_word ct_law_word), sl_law_word⟩) (c_law_word : PySem.W.codeIn K cd_law_word "_law_word" = true) (k_law_word : PySem.W.keepIn K (.ref f_law_word) = true)
    {f_law_is_whole : Addr} {od_law_is_whole an_law_is_whole : Option Addr} {sl_law_is_whole : Array (Option Value)} {oc_law_is_whole kV_law_is_whole dc_law_is_whole pm_law_is_whole cd_law_is_whole ct_law_is_whole : Value}
    (a_law_is_whole : PySem.W.nsIn K mainGlobals "_law_is_whole" = some (some (.ref f_law_is_whole))) (l_law_is_whole : K.lookup f_law_is_whole = some ⟨oc_law_is_whole, od_law_is_whole, .func (PySem.W.fnOf "_law_is_whole" "_law_is_whole" (defArgs s_law_is_whole) (defBody s_law_is_whole) (defScope s_law_is_whole) .none kV_law_is_whole dc_law_is_whole pm_law_is_whole an_law_is_whole cd_law_is_whole ct_law_is_whole), sl_law_is_whole⟩) (c_law_is_whole : PySem.W.codeIn K cd_law_is_whole "_law_is_whole" = true) (k_law_is_whole : PySem.W.keepIn K (.ref f_law_is_whole) = true)
    {f_law_is_name : Addr} {od_law_is_name an_law_is_name : Option Addr} {sl_law_is_name : Array (Option Value)} {oc_law_is_name kV_law_is_name dc_law_is_name pm_law_is_name cd_law_is_name ct_law_is_name : Value}
    (a_law_is_name : PySem.W.nsIn K mainGlobals "_law_is_name" = some (some (.ref f_law_is_name))) (l_law_is_name : K.lookup f_law_is_name = some ⟨oc_law_is_name, od_law_is_name, .func (PySem.W.fnOf "_law_is_name" "_law_is_name" (defArgs s_law_is_name) (defBody s_law_is_name) (defScope s_law_is_name) .none kV_law_is_name dc_law_is_name pm_law_is_name an_law_is_name cd_law_is_name ct_law_is_name), sl_law_is_name⟩) (c_law_is_name : PySem.W.codeIn K cd_law_is_name "_law_is_name" = true) (k_law_is_name : PySem.W.keepIn K (.ref f_law_is_name) = true)
    {f_law_is_word : Addr} {od_law_is_word an_law_is_word : Option Addr} {sl_law_is_word : Array (Option Value)} {oc_law_is_word kV_law_is_word dc_law_is_word pm_law_is_word cd_law_is_word ct_law_is_word : Value}
    (a_law_is_word : PySem.W.nsIn K mainGlobals "_law_is_word" = some (some (.ref f_law_is_word))) (l_law_is_word : K.lookup f_law_is_word = some ⟨oc_law_is_word, od_law_is_word, .func (PySem.W.fnOf "_law_is_word" "_law_is_word" (defArgs s_law_is_word) (defBody s_law_is_word) (defScope s_law_is_word) .none kV_law_is_word dc_law_is_word pm_law_is_word an_law_is_word cd_law_is_word ct_law_is_word), sl_law_is_word⟩) (c_law_is_word : PySem.W.codeIn K cd_law_is_word "_law_is_word" = true) (k_law_is_word : PySem.W.keepIn K (.ref f_law_is_word) = true)
    {f_law_is_kind : Addr} {od_law_is_kind an_law_is_kind : Option Addr} {sl_law_is_kind : Array (Option Value)} {oc_law_is_kind kV_law_is_kind dc_law_is_kind pm_law_is_kind cd_law_is_kind ct_law_is_kind : Value}
    (a_law_is_kind : PySem.W.nsIn K mainGlobals "_law_is_kind" = some (some (.ref f_law_is_kind))) (l_law_is_kind : K.lookup f_law_is_kind = some ⟨oc_law_is_kind, od_law_is_kind, .func (PySem.W.fnOf "_law_is_kind" "_law_is_kind" (defArgs s_law_is_kind) (defBody s_law_is_kind) (defScope s_law_is_kind) .none kV_law_is_kind dc_law_is_kind pm_law_is_kind an_law_is_kind cd_law_is_kind ct_law_is_kind), sl_law_is_kind⟩) (c_law_is_kind : PySem.W.codeIn K cd_law_is_kind "_law_is_kind" = true) (k_law_is_kind : PySem.W.keepIn K (.ref f_law_is_kind) = true)
    {f_law_bent : Addr} {od_law_bent an_law_bent : Option Addr} {sl_law_bent : Array (Option Value)} {oc_law_bent kV_law_bent dc_law_bent pm_law_bent cd_law_bent ct_law_bent : Value}
    (a_law_bent : PySem.W.nsIn K mainGlobals "_law_bent" = some (some (.ref f_law_bent))) (l_law_bent : K.lookup f_law_bent = some ⟨oc_law_bent, od_law_bent, .func (PySem.W.fnOf "_law_bent" "_law_bent" (defArgs s_law_bent) (defBody s_law_bent) (defScope s_law_bent) .none kV_law_bent dc_law_bent pm_law_bent an_law_bent cd_law_bent ct_law_bent), sl_law_bent⟩) (c_law_bent : PySem.W.codeIn K cd_law_bent "_law_bent" = true) (k_law_bent : PySem.W.keepIn K (.ref f_law_bent) = true)
    {f_law_right : Addr} {od_law_right an_law_right : Option Addr} {sl_law_right : Array (Option Value)} {oc_law_right kV_law_right dc_law_right pm_law_right cd_law_right ct_law_right : Value}
    (a_law_right : PySem.W.nsIn K mainGlobals "_law_right" = some (some (.ref f_law_right))) (l_law_right : K.lookup f_law_right = some ⟨oc_law_right, od_law_right, .func (PySem.W.fnOf "_law_right" "_law_right" (defArgs s_law_right) (defBody s_law_right) (defScope s_law_right) .none kV_law_right dc_law_right pm_law_right an_law_right cd_law_right ct_law_right), sl_law_right⟩) (c_law_right : PySem.W.codeIn K cd_law_right "_law_right" = true) (k_law_right : PySem.W.keepIn K (.ref f_law_right) = true)
    {f_law : Addr} {od_law an_law : Option Addr} {sl_law : Array (Option Value)} {oc_law kV_law dc_law pm_law cd_law ct_law : Value}
    (a_law : PySem.W.nsIn K mainGlobals "law" = some (some (.ref f_law))) (l_law : K.lookup f_law = some ⟨oc_law, od_law, .func (PySem.W.fnOf "law" "law" (defArgs s_law) (defBody s_law) (defScope s_law) .none kV_law dc_law pm_law an_law cd_law ct_law), sl_law⟩) (c_law : PySem.W.codeIn K cd_law "law" = true) (k_law : PySem.W.keepIn K (.ref f_law) = true)
    {C_NoKind f_init : Addr} {nm_NoKind q_NoKind : Str} {N_NoKind : Addr} {bs_NoKind bm_NoKind : List Value} {sn_NoKind : List Str} {sub_NoKind : List Value} {ab_NoKind : Bool} {col_NoKind : Option Bool} {dd_NoKind : Option Addr} {m0_NoKind m1_NoKind m2_NoKind m3_NoKind m5_NoKind : Option Value}
    {od_init an_init : Option Addr} {sl_init : Array (Option Value)} {oc_init kV_init dc_init pm_init cd_init ct_init : Value}
    (aC_NoKind : PySem.W.nsIn K mainGlobals "NoKind" = some (some (.ref C_NoKind)))
    (xL_NoKind : K.lookup C_NoKind = some (excClassObj nm_NoKind q_NoKind C_NoKind N_NoKind bs_NoKind bm_NoKind true sn_NoKind sub_NoKind ab_NoKind col_NoKind dd_NoKind m0_NoKind m1_NoKind m2_NoKind m3_NoKind m5_NoKind "ValueError.__new__")) (vb_NoKind : PySem.HandSPX.refsVE bm_NoKind = true)
    (sa_NoKind : PySem.W.findIn K (.ref C_NoKind) "__setattr__" = some (some (.builtin "object.__setattr__"))) (ga_NoKind : PySem.W.findIn K (.ref C_NoKind) "__getattribute__" = some (some (.builtin "BaseException.__getattribute__"))) (gg_NoKind : PySem.W.findIn K (.ref C_NoKind) "__getattr__" = some none) (nb_NoKind : PySem.W.findIn K (.ref C_NoKind) "found" = some none)
    (a1_NoKind : PySem.W.findIn K (.ref C_NoKind) "__init__" = some (some (.ref f_init))) (t1_NoKind : PySem.W.typeIn K (.ref f_init) = some (.type "function"))
    (l1_NoKind : K.lookup f_init = some ⟨oc_init, od_init, .func (PySem.W.fnOf "__init__" "NoKind.__init__" (defArgs s_init) (defBody s_init) (defScope s_init) .none kV_init dc_init pm_init an_init cd_init ct_init), sl_init⟩) (c1_NoKind : PySem.W.codeIn K cd_init "NoKind.__init__" = true) (k1_NoKind : PySem.W.keepIn K (.ref f_init) = true)
    (kC_NoKind : PySem.W.keepIn K (.ref C_NoKind) = true) (eC_NoKind : PySem.W.subIn K (.ref C_NoKind) (.type "BaseException") = some true) (tC_NoKind : PySem.W.typeIn K (.ref C_NoKind) = some (.type "type")) (hC_NoKind : PySem.W.hasDictIn K C_NoKind = true) (iC_NoKind : PySem.W.isClsIn K C_NoKind = true) (sC_NoKind : PySem.W.subIn K (.ref C_NoKind) (.ref C_NoKind) = some true)
    (cl_NoKind : PySem.W.findIn K (.ref C_NoKind) "__class__" = some (some (.builtin "object.__class__"))) (hn_NoKind : PySem.W.specialIn K (.builtin "object.__class__") "__get__" = some (some (.builtin "getset_descriptor.__get__"))) (tk_NoKind : PySem.W.takesIn K (.builtin "object.__class__") = some true) (mo_NoKind : PySem.W.mroIn K C_NoKind (.type "object") = some true)
    (rp_NoKind : PySem.W.findIn K (.ref C_NoKind) "__repr__" = some (some (.builtin "BaseException.__repr__"))) (sz_NoKind : (PySem.nmS nm_NoKind).length ≤ 1000) (ni_NoKind : PySem.W.kitOne K (.ref C_NoKind) (.type "int") = some false) (ns_NoKind : PySem.W.kitOne K (.ref C_NoKind) (.type "str") = some false) (nbb_NoKind : PySem.W.kitOne K (.ref C_NoKind) (.type "bool") = some false)
    (nt_NoKind : PySem.W.kitOne K (.ref C_NoKind) (.type "tuple") = some false) (na_NoKind : PySem.W.kitAny K (.ref C_NoKind) [.type "str", .type "tuple"] = some false)
    {t_MOST_LETTERS : Tok} (m_MOST_LETTERS : PySem.W.nsIn K mainGlobals "MOST_LETTERS" = some (some (.int 8 t_MOST_LETTERS)))
    {t_MOST_SIGNS : Tok} (m_MOST_SIGNS : PySem.W.nsIn K mainGlobals "MOST_SIGNS" = some (some (.int 40 t_MOST_SIGNS)))
    {t_MOST_NUMBER : Tok} (m_MOST_NUMBER : PySem.W.nsIn K mainGlobals "MOST_NUMBER" = some (some (.int 999999 t_MOST_NUMBER)))
    {t_MOST_NAMES : Tok} (m_MOST_NAMES : PySem.W.nsIn K mainGlobals "MOST_NAMES" = some (some (.int 8 t_MOST_NAMES)))
    {t_MOST_TEXT : Tok} (m_MOST_TEXT : PySem.W.nsIn K mainGlobals "MOST_TEXT" = some (some (.int 20 t_MOST_TEXT)))
    (z_len : PySem.W.nsIn K mainGlobals "len" = some none)
    (z_isinstance : PySem.W.nsIn K mainGlobals "isinstance" = some none)
    (z_str : PySem.W.nsIn K mainGlobals "str" = some none)
    (z_int : PySem.W.nsIn K mainGlobals "int" = some none)
    (z_bool : PySem.W.nsIn K mainGlobals "bool" = some none)
    (z_min : PySem.W.nsIn K mainGlobals "min" = some none)
    (z_max : PySem.W.nsIn K mainGlobals "max" = some none)
    (z_range : PySem.W.nsIn K mainGlobals "range" = some none)
    (z_repr : PySem.W.nsIn K mainGlobals "repr" = some none)
    (z_list : PySem.W.nsIn K mainGlobals "list" = some none)
    (z_tuple : PySem.W.nsIn K mainGlobals "tuple" = some none)
    (z_set : PySem.W.nsIn K mainGlobals "set" = some none)
    (z_all : PySem.W.nsIn K mainGlobals "all" = some none)
    (z_ord : PySem.W.nsIn K mainGlobals "ord" = some none)
    : ∃ fd : FuncData, (∀ (s : Shared) (v : Value), BindsTo s fd ⟨[v], []⟩ [("_law_script", v)]) ∧ ∀ base : Heap, K.In base → base.Ns mainGlobals mg → FnG l.prog w K mg base CX0 6 fa fd ["_law_script"] (spLaw K) := by
  have e := hfa.symm.trans (PySem.W.mg_of X G a_law)
  cases e
  have T : Tx K mg := { z_len := PySem.W.mg_none_of X G z_len, z_isinstance := PySem.W.mg_none_of X G z_isinstance, z_str := PySem.W.mg_none_of X G z_str, z_int := PySem.W.mg_none_of X G z_int, z_bool := PySem.W.mg_none_of X G z_bool, z_min := PySem.W.mg_none_of X G z_min, z_max := PySem.W.mg_none_of X G z_max, z_range := PySem.W.mg_none_of X G z_range, z_repr := PySem.W.mg_none_of X G z_repr, z_list := PySem.W.mg_none_of X G z_list, z_tuple := PySem.W.mg_none_of X G z_tuple, z_set := PySem.W.mg_none_of X G z_set, z_all := PySem.W.mg_none_of X G z_all, z_ord := PySem.W.mg_none_of X G z_ord, c_MOST_LETTERS := ⟨_, PySem.W.mg_of X G m_MOST_LETTERS⟩, c_MOST_SIGNS := ⟨_, PySem.W.mg_of X G m_MOST_SIGNS⟩, c_MOST_NUMBER := ⟨_, PySem.W.mg_of X G m_MOST_NUMBER⟩, c_MOST_NAMES := ⟨_, PySem.W.mg_of X G m_MOST_NAMES⟩, c_MOST_TEXT := ⟨_, PySem.W.mg_of X G m_MOST_TEXT⟩ }
  have F_is_whole := fun_mk (st := s_is_whole) l_is_whole c_is_whole k_is_whole
  have F_is_name := fun_mk (st := s_is_name) l_is_name c_is_name k_is_name
  have F_is_letter := fun_mk (st := s_is_letter) l_is_letter c_is_letter k_is_letter
  have F_is_word := fun_mk (st := s_is_word) l_is_word c_is_word k_is_word
  have F_are_signs := fun_mk (st := s_are_signs) l_are_signs c_are_signs k_are_signs
  have F_is_kind := fun_mk (st := s_is_kind) l_is_kind c_is_kind k_is_kind
  have F_are_bounds := fun_mk (st := s_are_bounds) l_are_bounds c_are_bounds k_are_bounds
  have F_are_choices := fun_mk (st := s_are_choices) l_are_choices c_are_choices k_are_choices
  have F_are_unlike := fun_mk (st := s_are_unlike) l_are_unlike c_are_unlike k_are_unlike
  have F_law_cell := fun_mk (st := s_law_cell) l_law_cell c_law_cell k_law_cell
  have F_law_box := fun_mk (st := s_law_box) l_law_box c_law_box k_law_box
  have F_law_take := fun_mk (st := s_law_take) l_law_take c_law_take k_law_take
  have F_law_name := fun_mk (st := s_law_name) l_law_name c_law_name k_law_name
  have F_law_names := fun_mk (st := s_law_names) l_law_names c_law_names k_law_names
  have F_law_kind := fun_mk (st := s_law_kind) l_law_kind c_law_kind k_law_kind
  have F_law_word := fun_mk (st := s_law_word) l_law_word c_law_word k_law_word
  have F_law_is_whole := fun_mk (st := s_law_is_whole) l_law_is_whole c_law_is_whole k_law_is_whole
  have F_law_is_name := fun_mk (st := s_law_is_name) l_law_is_name c_law_is_name k_law_is_name
  have F_law_is_word := fun_mk (st := s_law_is_word) l_law_is_word c_law_is_word k_law_is_word
  have F_law_is_kind := fun_mk (st := s_law_is_kind) l_law_is_kind c_law_is_kind k_law_is_kind
  have F_law_bent := fun_mk (st := s_law_bent) l_law_bent c_law_bent k_law_bent
  have F_law_right := fun_mk (st := s_law_right) l_law_right c_law_right k_law_right
  have F_law := fun_mk (st := s_law) l_law c_law k_law
  have D_is_whole : DAt K mg "is_whole" s_is_whole P_is_whole f_is_whole _ := ⟨F_is_whole, PySem.W.mg_of X G a_is_whole, F_is_whole.binds (ps := P_is_whole) fun _ _ _ _ _ _ us hl => match us, hl with | [_, _, _], _ => rfl⟩
  have D_is_name : DAt K mg "is_name" s_is_name P_is_name f_is_name _ := ⟨F_is_name, PySem.W.mg_of X G a_is_name, F_is_name.binds (ps := P_is_name) fun _ _ _ _ _ _ us hl => match us, hl with | [_], _ => rfl⟩
  have D_is_letter : DAt K mg "is_letter" s_is_letter P_is_letter f_is_letter _ := ⟨F_is_letter, PySem.W.mg_of X G a_is_letter, F_is_letter.binds (ps := P_is_letter) fun _ _ _ _ _ _ us hl => match us, hl with | [_], _ => rfl⟩
  have D_is_word : DAt K mg "is_word" s_is_word P_is_word f_is_word _ := ⟨F_is_word, PySem.W.mg_of X G a_is_word, F_is_word.binds (ps := P_is_word) fun _ _ _ _ _ _ us hl => match us, hl with | [_], _ => rfl⟩
  have D_are_signs : DAt K mg "are_signs" s_are_signs P_are_signs f_are_signs _ := ⟨F_are_signs, PySem.W.mg_of X G a_are_signs, F_are_signs.binds (ps := P_are_signs) fun _ _ _ _ _ _ us hl => match us, hl with | [_], _ => rfl⟩
  have D_is_kind : DAt K mg "is_kind" s_is_kind P_is_kind f_is_kind _ := ⟨F_is_kind, PySem.W.mg_of X G a_is_kind, F_is_kind.binds (ps := P_is_kind) fun _ _ _ _ _ _ us hl => match us, hl with | [_], _ => rfl⟩
  have D_are_bounds : DAt K mg "_are_bounds" s_are_bounds P_are_bounds f_are_bounds _ := ⟨F_are_bounds, PySem.W.mg_of X G a_are_bounds, F_are_bounds.binds (ps := P_are_bounds) fun _ _ _ _ _ _ us hl => match us, hl with | [_], _ => rfl⟩
  have D_are_choices : DAt K mg "_are_choices" s_are_choices P_are_choices f_are_choices _ := ⟨F_are_choices, PySem.W.mg_of X G a_are_choices, F_are_choices.binds (ps := P_are_choices) fun _ _ _ _ _ _ us hl => match us, hl with | [_], _ => rfl⟩
  have D_are_unlike : DAt K mg "are_unlike" s_are_unlike P_are_unlike f_are_unlike _ := ⟨F_are_unlike, PySem.W.mg_of X G a_are_unlike, F_are_unlike.binds (ps := P_are_unlike) fun _ _ _ _ _ _ us hl => match us, hl with | [_], _ => rfl⟩
  have D_law_cell : DAt K mg "_law_cell" s_law_cell P_law_cell f_law_cell _ := ⟨F_law_cell, PySem.W.mg_of X G a_law_cell, F_law_cell.binds (ps := P_law_cell) fun _ _ _ _ _ _ us hl => match us, hl with | [_, _], _ => rfl⟩
  have D_law_box : DAt K mg "_law_box" s_law_box P_law_box f_law_box _ := ⟨F_law_box, PySem.W.mg_of X G a_law_box, F_law_box.binds (ps := P_law_box) fun _ _ _ _ _ _ us hl => match us, hl with | [_], _ => rfl⟩
  have D_law_take : DAt K mg "_law_take" s_law_take P_law_take f_law_take _ := ⟨F_law_take, PySem.W.mg_of X G a_law_take, F_law_take.binds (ps := P_law_take) fun _ _ _ _ _ _ us hl => match us, hl with | [_, _], _ => rfl⟩
  have D_law_name : DAt K mg "_law_name" s_law_name P_law_name f_law_name _ := ⟨F_law_name, PySem.W.mg_of X G a_law_name, F_law_name.binds (ps := P_law_name) fun _ _ _ _ _ _ us hl => match us, hl with | [_], _ => rfl⟩
  have D_law_names : DAt K mg "_law_names" s_law_names P_law_names f_law_names _ := ⟨F_law_names, PySem.W.mg_of X G a_law_names, F_law_names.binds (ps := P_law_names) fun _ _ _ _ _ _ us hl => match us, hl with | [_, _], _ => rfl⟩
  have D_law_kind : DAt K mg "_law_kind" s_law_kind P_law_kind f_law_kind _ := ⟨F_law_kind, PySem.W.mg_of X G a_law_kind, F_law_kind.binds (ps := P_law_kind) fun _ _ _ _ _ _ us hl => match us, hl with | [_], _ => rfl⟩
  have D_law_word : DAt K mg "_law_word" s_law_word P_law_word f_law_word _ := ⟨F_law_word, PySem.W.mg_of X G a_law_word, F_law_word.binds (ps := P_law_word) fun _ _ _ _ _ _ us hl => match us, hl with | [_, _], _ => rfl⟩
  have D_law_is_whole : DAt K mg "_law_is_whole" s_law_is_whole P_law_is_whole f_law_is_whole _ := ⟨F_law_is_whole, PySem.W.mg_of X G a_law_is_whole, F_law_is_whole.binds (ps := P_law_is_whole) fun _ _ _ _ _ _ us hl => match us, hl with | [_, _, _], _ => rfl⟩
  have D_law_is_name : DAt K mg "_law_is_name" s_law_is_name P_law_is_name f_law_is_name _ := ⟨F_law_is_name, PySem.W.mg_of X G a_law_is_name, F_law_is_name.binds (ps := P_law_is_name) fun _ _ _ _ _ _ us hl => match us, hl with | [_], _ => rfl⟩
  have D_law_is_word : DAt K mg "_law_is_word" s_law_is_word P_law_is_word f_law_is_word _ := ⟨F_law_is_word, PySem.W.mg_of X G a_law_is_word, F_law_is_word.binds (ps := P_law_is_word) fun _ _ _ _ _ _ us hl => match us, hl with | [_], _ => rfl⟩
  have D_law_is_kind : DAt K mg "_law_is_kind" s_law_is_kind P_law_is_kind f_law_is_kind _ := ⟨F_law_is_kind, PySem.W.mg_of X G a_law_is_kind, F_law_is_kind.binds (ps := P_law_is_kind) fun _ _ _ _ _ _ us hl => match us, hl with | [_], _ => rfl⟩
  have D_law_bent : DAt K mg "_law_bent" s_law_bent P_law_bent f_law_bent _ := ⟨F_law_bent, PySem.W.mg_of X G a_law_bent, F_law_bent.binds (ps := P_law_bent) fun _ _ _ _ _ _ us hl => match us, hl with | [_, _], _ => rfl⟩
  have D_law_right : DAt K mg "_law_right" s_law_right P_law_right f_law_right _ := ⟨F_law_right, PySem.W.mg_of X G a_law_right, F_law_right.binds (ps := P_law_right) fun _ _ _ _ _ _ us hl => match us, hl with | [_, _, _], _ => rfl⟩
  have F_init := fun_mk (st := s_init) l1_NoKind c1_NoKind k1_NoKind
  have O_NoKind : ∀ base : Heap, OE l.prog w K mg base "NoKind" "found" C_NoKind := fun base => { T := { cls := ⟨nm_NoKind, q_NoKind, N_NoKind, bs_NoKind, _, sn_NoKind, sub_NoKind, ab_NoKind, col_NoKind, dd_NoKind, m0_NoKind, m1_NoKind, m2_NoKind, m3_NoKind, m5_NoKind, xL_NoKind, vb_NoKind⟩, sa := sa_NoKind, exC := eC_NoKind, tyC := tC_NoKind, kC := kC_NoKind }, nf := nb_NoKind, gl := PySem.W.mg_of X G aC_NoKind, ini := ⟨f_init, _, a1_NoKind, t1_NoKind, ok_init F_init, F_init.binds (ps := ["self", "found"]) fun _ _ _ _ _ _ us hl => match us, hl with | [_, _], _ => rfl⟩ }
  have XF_NoKind : XfC K C_NoKind := ⟨ga_NoKind, gg_NoKind, eC_NoKind, hC_NoKind⟩
  have EX_NoKind : PySem.W.exmOne K (.ref C_NoKind) (.ref C_NoKind) = some true := exm_same eC_NoKind iC_NoKind tC_NoKind sC_NoKind
  have V_NoKind : ∀ base : Heap, OV l.prog w K mg base "NoKind" "found" C_NoKind := fun base => { T := (O_NoKind base).T, nf := nb_NoKind, gl := PySem.W.mg_of X G aC_NoKind, ini := ⟨f_init, _, a1_NoKind, t1_NoKind, ok_init1 F_init, F_init.binds (ps := ["self", "found"]) fun _ _ _ _ _ _ us hl => match us, hl with | [_, _], _ => rfl⟩ }
  have XV_NoKind : ExF K C_NoKind { name := nm_NoKind, bases := bs_NoKind, mro := .ref C_NoKind :: bm_NoKind, ns := N_NoKind, qualname := q_NoKind, hasDict := true, slotNames := sn_NoKind, subclasses := sub_NoKind, abstract := ab_NoKind, collection := col_NoKind, hasDel := false } := { T := (O_NoKind h).T, ga := ga_NoKind, gt := gg_NoKind, cl := cl_NoKind, hn := hn_NoKind, tk := tk_NoKind, mo := mo_NoKind, rp := rp_NoKind, cdE := by unfold PySem.W.clsIn; rw [xL_NoKind] <;> rfl, nm := sz_NoKind, ni := ni_NoKind, ns := ns_NoKind, nb := nbb_NoKind }
  have XG_NoKind : ExG K C_NoKind _ := { toExF := XV_NoKind, nt := nt_NoKind, na := na_NoKind }
  exact ⟨PySem.W.fnOf "law" "law" (defArgs s_law) (defBody s_law) (defScope s_law) .none kV_law dc_law pm_law an_law cd_law ct_law, fun s v => .of_eq rfl, fun base _ _ => ok_law T XG_NoKind (V_NoKind base) F_law D_is_whole D_is_name D_is_letter D_is_word D_are_signs D_is_kind D_are_bounds D_are_choices D_are_unlike D_law_cell D_law_box D_law_take D_law_name D_law_names D_law_kind D_law_word D_law_is_whole D_law_is_name D_law_is_word D_law_is_kind D_law_bent D_law_right⟩
theorem walk {l : PySem.W.OpenLaw} {q : Program} {loose : List Str} {XP : (Str → Option Value) → Heap → Prop} {YP : World → Heap → Prop} {d : DefRec} {K : Params → PySem.W.Frag} (hn : l.most = some 63) (hdf : d.params.defaults = []) (hY : ∀ (w : World) (h : Heap), YP w h → (K w.params).In h)
    (F : ∀ (w : World) (mg : Str → Option Value) (fa : Addr) (h : Heap), (K w.params).In h → h.Ns mainGlobals mg → mg d.name = some (.ref fa) →  -- own
      ∃ fd : FuncData, (∀ (s : Shared) (u : Value), BindsTo s fd ⟨[u], []⟩ [("_law_script", u)]) ∧ ∀ base : Heap, (K w.params).In base → base.Ns mainGlobals mg → FnG l.prog w (K w.params) mg base CX0 6 fa fd ["_law_script"] (spLaw (K w.params))) :
    PySem.W.WalkO q loose XP YP l.row.toRowW d [] (fun f vs => PySem.call f vs) :=  -- own
  walk_ofG (n := 63) (k := 6) (x := "_law_script") (sp := fun w => spLaw (K w.params)) hn (by decide) hdf ⟨rfl, by decide, by decide⟩ hY F (fun _ _ a ns hl _ hS => ⟨a, ns, rfl, hS, hl, fun _ => rfl⟩)
end K01
open PySem PySem.W PyProof.Rows  -- own
set_option maxRecDepth 100000 in  -- own
set_option maxHeartbeats 0 in
theorem PySem.Challenge.cw_callwords_k01_things_of_all_sorts_holds : PySem.Challenge.rw_callwords_k01_things_of_all_sorts.Holds := by
  w_on; o_law; k_head; (case hw => w_witness2)  -- own
  k_fill
  refine K01.walk (l := PySem.Challenge.rw_callwords_k01_things_of_all_sorts) rfl rfl (fun w h Y => PySem.W.kIn_of Y) ?F
  case F =>
    intro w mg fa h KX G hmg
    refine' K01.all_mk KX G hmg ?a_is_whole ?l_is_whole ?c_is_whole ?k_is_whole ?a_is_name ?l_is_name ?c_is_name ?k_is_name ?a_is_letter ?l_is_letter ?c_is_letter ?k_is_letter ?a_is_word ?l_is_word ?c_is_word ?k_is_word ?a_are_signs ?l_are_signs ?c_are_signs ?k_are_signs ?a_is_kind ?l_is_kind ?c_is_kind ?k_is_kind ?a_are_bounds ?l_are_bounds ?c_are_bounds ?k_are_bounds ?a_are_choices ?l_are_choices ?c_are_choices ?k_are_choices ?a_are_unlike ?l_are_unlike ?c_are_unlike ?k_are_unlike ?a_law_cell ?l_law_cell ?c_law_cell ?k_law_cell ?a_law_box ?l_law_box ?c_law_box ?k_law_box ?a_law_take ?l_law_take ?c_law_take ?k_law_take ?a_law_name ?l_law_name ?c_law_name ?k_law_name ?a_law_names ?l_law_names ?c_law_names ?k_law_names ?a_law_kind ?l_law_kind ?c_law_kind ?k_law_kind ?a_law_word ?l_law_word ?c_law_word ?k_law_word ?a_law_is_whole ?l_law_is_whole ?c_law_is_whole ?k_law_is_whole ?a_law_is_name ?l_law_is_name ?c_law_is_name ?k_law_is_name ?a_law_is_word ?l_law_is_word ?c_law_is_word ?k_law_is_word ?a_law_is_kind ?l_law_is_kind ?c_law_is_kind ?k_law_is_kind ?a_law_bent ?l_law_bent ?c_law_bent ?k_law_bent ?a_law_right ?l_law_right ?c_law_right ?k_law_right ?a_law ?l_law ?c_law ?k_law ?aC_NoKind ?xL_NoKind ?vb_NoKind ?sa_NoKind ?ga_NoKind ?gg_NoKind ?nb_NoKind ?a1_NoKind ?t1_NoKind ?l1_NoKind ?c1_NoKind ?k1_NoKind ?kC_NoKind ?eC_NoKind ?tC_NoKind ?hC_NoKind ?iC_NoKind ?sC_NoKind ?cl_NoKind ?hn_NoKind ?tk_NoKind ?mo_NoKind ?rp_NoKind ?sz_NoKind ?ni_NoKind ?ns_NoKind ?nbb_NoKind ?nt_NoKind ?na_NoKind ?m_MOST_LETTERS ?m_MOST_SIGNS ?m_MOST_NUMBER ?m_MOST_NAMES ?m_MOST_TEXT ?z_len ?z_isinstance ?z_str ?z_int ?z_bool ?z_min ?z_max ?z_range ?z_repr ?z_list ?z_tuple ?z_set ?z_all ?z_ord
    (case a_is_whole => k_is)
    (case l_is_whole => k_is)
    (case c_is_whole => k_is)
    (case k_is_whole => k_is)
    (case a_is_name => k_is)
    (case l_is_name => k_is)
    (case c_is_name => k_is)
    (case k_is_name => k_is)
    (case a_is_letter => k_is)
    (case l_is_letter => k_is)
    (case c_is_letter => k_is)
    (case k_is_letter => k_is)
    (case a_is_word => k_is)
    (case l_is_word => k_is)
    (case c_is_word => k_is)
    (case k_is_word => k_is)
    (case a_are_signs => k_is)
    (case l_are_signs => k_is)
    (case c_are_signs => k_is)
    (case k_are_signs => k_is)
    (case a_is_kind => k_is)
    (case l_is_kind => k_is)
    (case c_is_kind => k_is)
    (case k_is_kind => k_is)
    (case a_are_bounds => k_is)
    (case l_are_bounds => k_is)
    (case c_are_bounds => k_is)
    (case k_are_bounds => k_is)
    (case a_are_choices => k_is)
    (case l_are_choices => k_is)
    (case c_are_choices => k_is)
    (case k_are_choices => k_is)
    (case a_are_unlike => k_is)
    (case l_are_unlike => k_is)
    (case c_are_unlike => k_is)
    (case k_are_unlike => k_is)
    (case a_law_cell => k_is)
    (case l_law_cell => k_is)
    (case c_law_cell => k_is)
    (case k_law_cell => k_is)
    (case a_law_box => k_is)
    (case l_law_box => k_is)
    (case c_law_box => k_is)
    (case k_law_box => k_is)
    (case a_law_take => k_is)
    (case l_law_take => k_is)
    (case c_law_take => k_is)
    (case k_law_take => k_is)
    (case a_law_name => k_is)
    (case l_law_name => k_is)
    (case c_law_name => k_is)
    (case k_law_name => k_is)
    (case a_law_names => k_is)
    (case l_law_names => k_is)
    (case c_law_names => k_is)
    (case k_law_names => k_is)
    (case a_law_kind => k_is)
    (case l_law_kind => k_is)
    (case c_law_kind => k_is)
    (case k_law_kind => k_is)
    (case a_law_word => k_is)
    (case l_law_word => k_is)
    (case c_law_word => k_is)
    (case k_law_word => k_is)
    (case a_law_is_whole => k_is)
    (case l_law_is_whole => k_is)
    (case c_law_is_whole => k_is)
    (case k_law_is_whole => k_is)
    (case a_law_is_name => k_is)
    (case l_law_is_name => k_is)
    (case c_law_is_name => k_is)
    (case k_law_is_name => k_is)
    (case a_law_is_word => k_is)
    (case l_law_is_word => k_is)
    (case c_law_is_word => k_is)
    (case k_law_is_word => k_is)
    (case a_law_is_kind => k_is)
    (case l_law_is_kind => k_is)
    (case c_law_is_kind => k_is)
    (case k_law_is_kind => k_is)
    (case a_law_bent => k_is)
    (case l_law_bent => k_is)
    (case c_law_bent => k_is)
    (case k_law_bent => k_is)
    (case a_law_right => k_is)
    (case l_law_right => k_is)
    (case c_law_right => k_is)
    (case k_law_right => k_is)
    (case a_law => k_is)
    (case l_law => k_is)
    (case c_law => k_is)
    (case k_law => k_is)
    (case aC_NoKind => k_is)
    (case xL_NoKind => k_is)
    (case vb_NoKind => first | rfl | exact ⟨[_], rfl⟩)
    (case sa_NoKind => k_is)
    (case ga_NoKind => k_is)
    (case gg_NoKind => k_is)
    (case nb_NoKind => k_is)
    (case a1_NoKind => k_is)
    (case t1_NoKind => k_is)
    (case l1_NoKind => k_is)
    (case c1_NoKind => k_is)
    (case k1_NoKind => k_is)
    (case kC_NoKind => k_is)
    (case eC_NoKind => k_is)
    (case tC_NoKind => k_is)
    (case hC_NoKind => k_is)
    (case iC_NoKind => k_is)
    (case sC_NoKind => first | rfl | k_is)
    (case cl_NoKind => k_is)
    (case hn_NoKind => k_is)
    (case tk_NoKind => k_is)
    (case mo_NoKind => k_is)
    (case rp_NoKind => k_is)
    (case sz_NoKind => decide +kernel)
    (case ni_NoKind => first | rfl | k_is | decide +kernel)
    (case ns_NoKind => first | rfl | k_is | decide +kernel)
    (case nbb_NoKind => first | rfl | k_is | decide +kernel)
    (case nt_NoKind => first | rfl | k_is | decide +kernel)
    (case na_NoKind => first | rfl | k_is | decide +kernel)
    (case m_MOST_LETTERS => k_is)
    (case m_MOST_SIGNS => k_is)
    (case m_MOST_NUMBER => k_is)
    (case m_MOST_NAMES => k_is)
    (case m_MOST_TEXT => k_is)
    (case z_len => k_is)
    (case z_isinstance => k_is)
    (case z_str => k_is)
    (case z_int => k_is)
    (case z_bool => k_is)
    (case z_min => k_is)
    (case z_max => k_is)
    (case z_range => k_is)
    (case z_repr => k_is)
    (case z_list => k_is)
    (case z_tuple => k_is)
    (case z_set => k_is)
    (case z_all => k_is)
    (case z_ord => k_is)

