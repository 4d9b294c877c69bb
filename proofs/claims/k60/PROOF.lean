import PyProof.Rows.All
import Wide.All
import OpenK.AllK
import Wide.FinOn
import HandS.ForMost
import HandS.ForExc
import HandS.IsInst
import HandS.Flow
import HandS.StrMore
import HandS.TryMany
import HandS.ExcInit
import HandS.Wide
import HandS.WideBits
import HandS.TupAny
import HandS.Style
import HandS.Small
import HandS.Replace
import HandS.Deep
import PyProof.Draws
import PyProof.ReprRoads
import PyProof.StrBlock2
import KE.DataMinKey
import PyProof.WalkInts
import HandS.ReplaceLit
import HandS.ReplaceList
import HandS.ExcField
import HandS.ExcOwn
import HandS.WordsExc
import KE.KRevSl
import PyProof.SliceStr2
import HandS.Ends
import KE.KExcInit
import PyProof.ExcBaseAll.LookupError
import PyProof.ReprLen
import PyProof.StrLawsRepr
import KE.KWords
import KE.DatumOrd
import HandS.Strs
import HandS.Zip
import PyProof.WalksMore
import PyProof.TupleIter
import KE.IntTextText
import KE.KIntText
import KE.IntTextLaws
import HandS.Defaults
import HandS.RaiseMore
import KE.KExcStr
import KE.KExcIs
import PyProof.ExcRepr
import HandS.ExcValue
import HandS.MapObj
import HandS.MapJoin
import HandS.RevTup
import HandS.Rev
import HandS.Lambda
import HandS.Nested
import PySem.Challenge.RW_callwords_k60_tables_of_kinds
import KE.KStateDown
import HandS.Head0
import HandS.Head1
import HandS.Head2
import HandS.HeadEnd
import HandS.HeadHook1
import HandS.HeadHook2
import Wide.Once
import HandS.DictComp
import HandS.TupMul
import HandS.SortInts
import HandS.SetFor
import HandS.TupLen
import PyProof.AssignAttr
import HandS.Text
import KE.KDictCopyH
import HandS.More
import HandS.Conv
import PyProof.ListCopy
import HandS.DictTup
import KE.KSortTupAny
import PyProof.RulesRaise
import PyProof.FactsTree
import PyProof.ExcClass
import HandS.WordsDict
import HandS.Codes
import PyProof.FactsAll.dict_1
import PyProof.FactsAll.subtypes
import HandS.MakeKw
import HandS.Head3
import HandS.HeadHook4
import HandS.NestedK
import HandS.EndBits
import HandS.MakeKwOnly
set_option Elab.async false
set_option linter.all false
set_option maxRecDepth 100000
set_option maxHeartbeats 4000000
/-! own rules over the layer -/
namespace J
open PySem PySem.Spec PyProof.Rows L2  -- own
/-! ### texts as lists of codes -/
/-- the text of these codes -/
def S (l : List Nat) : Str := ⟨l.toArray⟩
theorem S_cps (l : List Nat) : (S l).cps.toList = l := by simp [S]
theorem S_of (x : Str) : S x.cps.toList = x := by cases x; simp [S]
theorem S_len (l : List Nat) : (S l).length = l.length := by simp [S, Str.length]
theorem S_inj {l m : List Nat} : S l = S m ↔ l = m := ⟨fun h => by have := congrArg (fun z : Str => z.cps.toList) h; simpa [S_cps] using this, fun h => by rw [h]⟩
section
variable {X : Cx}
/-- either of two readings of an operation -/
theorem orR {f : Value → Value → Sem Value} {r q : R2} (a : OpR X f r) (b : OpR X f q) : OpR X f (fun x y H Q => r x y H Q ∨ q x y H Q) :=
  fun pins s σ H x y v u Q I rx ry h => h.elim (fun z => a pins s σ H x y v u Q I rx ry z) fun z => b pins s σ H x y v u Q I rx ry z
def rMulS : R2 := fun x y H Q => ∃ (z : Str) (n : Int), x = .str z ∧ y = .int n ∧ MulOk z n ∧ Q (.str (Txt.mul z n)) H
theorem op_mulS : OpR X (binaryOp .Mult) rMulS := fun pins s σ H x y v u Q I rx ry h => by
  obtain ⟨z, n, ex, ey, ok, q⟩ := h
  subst ex ey
  obtain ⟨t, rfl⟩ := rx
  obtain ⟨t', rfl⟩ := ry
  exact SB.mul ok fun _ _ => ⟨.str _, H, I.tok _, ⟨_, rfl⟩, q⟩
/-- a + b: ints, texts, lists, tuples -/
def rAddI : R2 := fun x y H Q => ∃ i j : Int, x = .int i ∧ y = .int j ∧ Q (.int (i + j)) H
def rAddS : R2 := fun x y H Q => ∃ a b : Str, x = .str a ∧ y = .str b ∧ a.length + b.length ≤ sizeLine ∧ Q (.str (a ++ b)) H
def rAdd (K : PySem.W.Frag) : R2 := fun x y H Q => rAddI x y H Q ∨ rAddS x y H Q ∨ rCat x y H Q ∨ rCatA K x y H Q
theorem oAdd : OpR X (binaryOp .Add) (rAdd X.K) :=
  orR (fun pins s σ H x y v u Q I rx ry h => L2.op_add pins s σ H x y v u Q I rx ry h) (orR (fun pins s σ H x y v u Q I rx ry h => L2.op_add_str pins s σ H x y v u Q I rx ry h) (orR L2.op_cat L2.op_catA))
/-- a * b: ints, a text, a list by an int -/
def rMul : R2 := fun x y H Q => rI CMulW (fun i j => .int (i * j)) x y H Q ∨ rMulS x y H Q ∨ rRep x y H Q
theorem oMul : OpR X (binaryOp .Mult) rMul := orR L2.op_mulW (orR op_mulS L2.op_rep)
/-- == and != -/
def rEqA (K : PySem.W.Frag) : R2 := fun x y H Q => rEq x y H Q ∨ rEqD K x y H Q
def rNeA (K : PySem.W.Frag) : R2 := fun x y H Q => rNe x y H Q ∨ rNeD K x y H Q
theorem op_eqA (hu : X.A.units + 64 < cLine) : OpR X (compareOp .Eq) (rEqA X.K) := orR L2.op_eq (L2.op_eqD hu)
theorem op_neA (hu : X.A.units + 64 < cLine) : OpR X (compareOp .NotEq) (rNeA X.K) := orR L2.op_ne (L2.op_neD hu)
/-- in, not in: a sign in a text, a flat thing in a list or tuple -/
def rInS (neg : Bool) : R2 := fun x y H Q => ∃ (c : Nat) (z : Str), x = .str ⟨#[c]⟩ ∧ y = .str z ∧ Q (.bl (if neg = true then !decide (c ∈ z.cps.toList) else decide (c ∈ z.cps.toList))) H
def rInA (K : PySem.W.Frag) (neg : Bool) : R2 := fun x y H Q => rInS neg x y H Q ∨ rIn K neg x y H Q
theorem op_inA : OpR X (compareOp .In) (rInA X.K false) :=
  orR (fun pins s σ H x y v u Q I rx ry h => by obtain ⟨c, z, a, b, q⟩ := h; exact L2.op_in_sign pins s σ H x y v u Q I rx ry ⟨c, z, a, b, by simpa using q⟩) L2.op_in_seq
theorem op_notInA : OpR X (compareOp .NotIn) (rInA X.K true) :=
  orR (fun pins s σ H x y v u Q I rx ry h => by obtain ⟨c, z, a, b, q⟩ := h; exact L2.op_notIn_sign pins s σ H x y v u Q I rx ry ⟨c, z, a, b, by simpa using q⟩) L2.op_notIn_seq
/-- slices -/
def rSl (K : PySem.W.Frag) : V → Option Int → Option Int → Hp → VK → Prop := fun x lo hi H Q => rSlL K x lo hi H Q ∨ rSlS x lo hi H Q
theorem sl_any : SlR X (rSl X.K) := L2.sl_list.or L2.sl_str
/-- repr of data, where no repr is running -/
def rRepr (K : PySem.W.Frag) : List V → Hp → VK → Prop := fun xs H Q => ∃ (x : V) (d : PyData), xs = [x] ∧ Dp K H x d ∧ d.showable = true ∧ d.depth ≤ 60 ∧ d.hasDict = false ∧ d.shown.length ≤ sizeLine ∧ Q (.str d.shown) H
theorem call_repr (hg : X.A.guards = some []) (hu : X.A.units + 64 < cLine) : CallR X (.builtin "repr") (rRepr X.K) := fun pins s σ H xs us Q I r h => by
  obtain ⟨x, d, ex, hd, hs, hdp, hnd, hz, q⟩ := h
  subst ex
  obtain ⟨u, rfl, ru⟩ := vals1 r  -- own
  have hsm : ∀ as : List Addr, d.hasDict = true → sysModules ∉ as := fun as z => by rw [hnd] at z; cases z
  have far : ∀ {a : Addr} {as : List Addr}, Reads s.heap (.ref a) d as → wpAny (model X.prog X.w) X.A (call (.builtin "repr") [.ref a]) (EP X pins σ Q) X.xe s := fun {a as} rd =>
    repr_of_reads' rd hs (hsm as) hg (by omega) (fun _ _ e => e) (fun h' t tk hk => ⟨.str _, H, I.kept hk, ⟨_, rfl⟩, q⟩) hz
  obtain ⟨as, rd⟩ := Dp.reads I d x u hd ru
  cases hd with
  | non => cases (show u = Value.none from ru); exact PySem.P.repr_of_none ⟨.str _, H, I.tok _, ⟨_, rfl⟩, q⟩
  | bl b =>
    cases (show u = Value.bool b from ru)
    exact PySem.P.repr_of_bool ⟨.str _, H, I.tok _, ⟨_, rfl⟩, q⟩
  | int i =>
    obtain ⟨t, e⟩ := (show ∃ t, u = Value.int i t from ru)
    subst e
    exact PySem.P.repr_of_int (by simpa [PyData.showable] using hs) ⟨.str _, H, I.tok _, ⟨_, rfl⟩, q⟩
  | str z =>
    obtain ⟨t, e⟩ := (show ∃ t, u = Value.str z t from ru)
    subst e
    exact PySem.P.repr_of_str ⟨.str _, H, I.tok _, ⟨_, rfl⟩, q⟩ hz
  | lst a b =>
    cases (show u = Value.ref _ from ru)
    exact far rd
  | tup a b =>
    cases (show u = Value.ref _ from ru)
    exact far rd
end
end J
/-! loops: one form for all that is walked; enumerate(text) -/
namespace J
open PySem PySem.Spec PyProof.Rows L2  -- own
/-- the loop's question -/
def LoopQ (J : It) (g : TG) (tb : TS) (D : Ends) (σ : L2.St) (H : Hp) : Prop :=
  ∃ W : Nat → Nat → L2.St → Hp → Prop, (∃ m, W 0 m σ H) ∧
    ∀ i m σ H, W i m σ H → (J.stop i H ∧ D.nx σ H) ∨
      (J.go i H ∧ ∃ N : L2.St → Hp → Prop, (∀ σ' H', N σ' H' → ∃ m', m' < m ∧ W (i + 1) m' σ' H') ∧
        ∀ x H', J.yld i H x H' → g x σ H' fun σ2 H2 => tb { D with nx := N, ct := N, bk := D.nx } σ2 H2)
/-- by an invariant over the turn: n turns -/
theorem loop_of {J : It} {g : TG} {tb : TS} {D : Ends} {σ : L2.St} {H : Hp} (n : Nat) (I : Nat → L2.St → Hp → Prop) (start : I 0 σ H)
    (go : ∀ i σ H, i < n → I i σ H → J.go i H) (stop : ∀ σ H, I n σ H → J.stop n H)
    (turn : ∀ i σ H x H', i < n → I i σ H → J.yld i H x H' → g x σ H' fun σ2 H2 => tb { D with nx := I (i + 1), ct := I (i + 1), bk := D.nx } σ2 H2)
    (fin : ∀ σ H, I n σ H → D.nx σ H) : LoopQ J g tb D σ H := by
  refine ⟨fun i m σ H => m = n - i ∧ i ≤ n ∧ I i σ H, ⟨n, by omega, Nat.zero_le _, start⟩, fun i m σ H w => ?_⟩
  obtain ⟨hm, hi, w⟩ := w
  subst hm
  rcases Nat.lt_or_ge i n with lt | ge
  · exact .inr ⟨go i σ H lt w, I (i + 1), fun σ' H' w' => ⟨n - (i + 1), by omega, rfl, lt, w'⟩, fun x H' y => turn i σ H x H' lt w y⟩
  · obtain rfl : i = n := by omega
    exact .inl ⟨stop σ H w, fin σ H w⟩
/-- the comprehension's question -/
def CompQ (J : It) (g : TG) (tt : TT) (te : TE) (vs : List Nat) (σ : L2.St) (H1 : Hp) (D : Addr) (Z : Hp → Prop) : Prop :=
  ∃ W : Nat → Nat → Hp → Prop, (∃ m, W 0 m (upd H1 D (.lst []))) ∧
    ∀ i m H, W i m H → (J.stop i H ∧ Z H) ∨
      (J.go i H ∧ ∃ Nx : Hp → Prop, (∀ H', Nx H' → ∃ m', m' < m ∧ W (i + 1) m' H') ∧
        ∀ x H', J.yld i H x H' → g x (wipe σ vs) H' fun σ2 H2 => wipe σ2 vs = wipe σ vs ∧ tt σ2 H2 fun b H3 =>
          if b = true then te σ2 H3 fun y H4 => ∃ acc, H4 D = some (.lst acc) ∧ acc.length < sizeLine ∧ Nx (upd H4 D (.lst (acc ++ [y]))) else Nx H3)  -- own
theorem comp_of {J : It} {g : TG} {tt : TT} {te : TE} {vs : List Nat} {σ : L2.St} {H1 : Hp} {D : Addr} {Z : Hp → Prop} (n : Nat) (I : Nat → Hp → Prop) (start : I 0 (upd H1 D (.lst [])))
    (go : ∀ i H, i < n → I i H → J.go i H) (stop : ∀ H, I n H → J.stop n H)
    (turn : ∀ i H x H', i < n → I i H → J.yld i H x H' → g x (wipe σ vs) H' fun σ2 H2 => wipe σ2 vs = wipe σ vs ∧ tt σ2 H2 fun b H3 =>
      if b = true then te σ2 H3 fun y H4 => ∃ acc, H4 D = some (.lst acc) ∧ acc.length < sizeLine ∧ I (i + 1) (upd H4 D (.lst (acc ++ [y]))) else I (i + 1) H3)
    (fin : ∀ H, I n H → Z H) : CompQ J g tt te vs σ H1 D Z := by
  refine ⟨fun i m H => m = n - i ∧ i ≤ n ∧ I i H, ⟨n, by omega, Nat.zero_le _, start⟩, fun i m H w => ?_⟩
  obtain ⟨hm, hi, w⟩ := w
  subst hm
  rcases Nat.lt_or_ge i n with lt | ge
  · exact .inr ⟨go i H lt w, I (i + 1), fun H' w' => ⟨n - (i + 1), by omega, rfl, lt, w'⟩, fun x H' y => turn i H x H' lt w y⟩
  · obtain rfl : i = n := by omega
    exact .inl ⟨stop H w, fin H w⟩
/-! ### enumerate(text) -/
end J
/-! the reading, step by step; heaps; the law's box -/
namespace J
open PySem PySem.Spec PyProof.Rows L2  -- own
section
variable {X : Cx}
/-! ### comparisons of ints or of texts -/
def rCmp (f : Int → Int → Bool) (g : List Nat → List Nat → Bool) : R2 := fun x y H Q => (∃ i j : Int, x = .int i ∧ y = .int j ∧ Q (.bl (f i j)) H) ∨ (∃ a b : Str, x = .str a ∧ y = .str b ∧ Q (.bl (g a.cps.toList b.cps.toList)) H)
theorem op_ltA : OpR X (compareOp .Lt) (rCmp (fun i j => decide (i < j)) fun a b => decide (a < b)) := orR (fun pins s σ H x y v u Q I rx ry h => L2.op_lt pins s σ H x y v u Q I rx ry h) (fun pins s σ H x y v u Q I rx ry h => L2.op_lt_str pins s σ H x y v u Q I rx ry h)
theorem op_leA : OpR X (compareOp .LtE) (rCmp (fun i j => decide (i ≤ j)) fun a b => !decide (b < a)) := orR (fun pins s σ H x y v u Q I rx ry h => L2.op_le pins s σ H x y v u Q I rx ry h) (fun pins s σ H x y v u Q I rx ry h => L2.op_le_str pins s σ H x y v u Q I rx ry h)
theorem op_gtA : OpR X (compareOp .Gt) (rCmp (fun i j => decide (j < i)) fun a b => decide (b < a)) := orR (fun pins s σ H x y v u Q I rx ry h => L2.op_gt pins s σ H x y v u Q I rx ry h) (fun pins s σ H x y v u Q I rx ry h => L2.op_gt_str pins s σ H x y v u Q I rx ry h)
end
/-! ### steps of the reading: a goal's head tells the one that fits -/
section
variable {σ : L2.St} {H : Hp} {Q : VK} {D : Ends} {K : PySem.W.Frag}
theorem r_var {i : Nat} {v : V} (h : σ[i]? = some (some v)) (k : Q v H) : tVar i σ H Q := ⟨v, h, k⟩
theorem r_c {v : V} (k : Q v H) : tC v σ H Q := k
theorem r_op {r : R2} {ta tb : TE} (k : ta σ H fun x H1 => tb σ H1 fun y H2 => r x y H2 Q) : tOp r ta tb σ H Q := k
theorem r_un {r : V → Hp → VK → Prop} {ta : TE} (k : ta σ H fun x H1 => r x H1 Q) : tUn r ta σ H Q := k
theorem r_cb {r : List V → Hp → VK → Prop} {t : TA} (k : t σ H fun vs H1 => r vs H1 Q) : tCB r t σ H Q := k
theorem r_nil {Q : List V → Hp → Prop} (k : Q [] H) : tNil σ H Q := k
theorem r_cons {ta : TE} {tr : TA} {Q : List V → Hp → Prop} (k : ta σ H fun x H1 => tr σ H1 fun xs H2 => Q (x :: xs) H2) : tCons ta tr σ H Q := k
theorem r_tb {t : TE} {Q : Bool → Hp → Prop} (k : t σ H fun x H1 => ∃ c, x = .bl c ∧ Q c H1) : tB t σ H Q := k
theorem r_test {t : TE} {Q : Bool → Hp → Prop} (k : t σ H fun x H1 => ∃ c, x = .bl c ∧ Q c H1) : tTest t σ H Q := k
theorem r_bl {b : Bool} {Q : Bool → Prop} (k : Q b) : ∃ c, V.bl b = .bl c ∧ Q c := ⟨b, rfl, k⟩
theorem r_not {t : TT} {Q : Bool → Hp → Prop} (k : t σ H fun c H1 => Q (!c) H1) : tNot t σ H Q := k
theorem r_and {t u : TT} {Q : Bool → Hp → Prop} (k : t σ H fun c H1 => if c = true then u σ H1 Q else Q false H1) : tAnd t u σ H Q := k
theorem r_or {t u : TT} {Q : Bool → Hp → Prop} (k : t σ H fun c H1 => if c = true then Q true H1 else u σ H1 Q) : tOr t u σ H Q := k
theorem r_ifE {t : TT} {a b : TE} (k : t σ H fun c H1 => if c = true then a σ H1 Q else b σ H1 Q) : tIf t a b σ H Q := k
theorem r_call {sp : Sp} {dvs : List V} {E : XK} {t : TA} (k : t σ H fun vs H1 => sp (vs ++ dvs) H1 Q E) : tCall sp dvs E t σ H Q := k
theorem r_lst {t : TA} (k : t σ H fun xs H1 => xs.length ≤ sizeLine ∧ ∀ p, H1 p = none → Q (.ref p) (upd H1 p (.lst xs))) : tLst t σ H Q := k
theorem r_tup {t : TA} (k : t σ H fun xs H1 => xs.length ≤ sizeLine ∧ ∀ p, H1 p = none → Q (.ref p) (upd H1 p (.tup xs))) : tTup t σ H Q := k
-- values
theorem r_addI {i j : Int} (k : Q (.int (i + j)) H) : rAdd K (.int i) (.int j) H Q := .inl ⟨i, j, rfl, rfl, k⟩
theorem r_addS {a b : Str} (h : a.length + b.length ≤ sizeLine) (k : Q (.str (a ++ b)) H) : rAdd K (.str a) (.str b) H Q := .inr (.inl ⟨a, b, rfl, rfl, h, k⟩)
theorem r_rI {C : Int → Int → Prop} {g : Int → Int → V} {i j : Int} (h : C i j) (k : Q (g i j) H) : rI C g (.int i) (.int j) H Q := ⟨i, j, rfl, rfl, h, k⟩
theorem r_mulI {i j : Int} (h : CMulW i j) (k : Q (.int (i * j)) H) : rMul (.int i) (.int j) H Q := .inl ⟨i, j, rfl, rfl, h, k⟩
theorem r_mulS {z : Str} {n : Int} (h : MulOk z n) (k : Q (.str (Txt.mul z n)) H) : rMul (.str z) (.int n) H Q := .inr (.inl ⟨z, n, rfl, rfl, h, k⟩)
theorem r_cmpI {f : Int → Int → Bool} {g : List Nat → List Nat → Bool} {i j : Int} (k : Q (.bl (f i j)) H) : rCmp f g (.int i) (.int j) H Q := .inl ⟨i, j, rfl, rfl, k⟩
theorem r_cmpS {f : Int → Int → Bool} {g : List Nat → List Nat → Bool} {a b : Str} (k : Q (.bl (g a.cps.toList b.cps.toList)) H) : rCmp f g (.str a) (.str b) H Q := .inr ⟨a, b, rfl, rfl, k⟩
theorem dec_int {i j : Int} : decide (V.int i = V.int j) = decide (i = j) := by by_cases h : i = j <;> simp [h]
theorem dec_str {i j : Str} : decide (V.str i = V.str j) = decide (i = j) := by by_cases h : i = j <;> simp [h]
theorem r_eqI {i j : Int} (k : Q (.bl (decide (i = j))) H) : rEqA K (.int i) (.int j) H Q := .inl ⟨rfl, by rw [dec_int]; exact k⟩
theorem r_neI {i j : Int} (k : Q (.bl (!decide (i = j))) H) : rNeA K (.int i) (.int j) H Q := .inl ⟨rfl, by rw [dec_int]; exact k⟩
theorem r_eqS {i j : Str} (k : Q (.bl (decide (i = j))) H) : rEqA K (.str i) (.str j) H Q := .inl ⟨rfl, by rw [dec_str]; exact k⟩
theorem r_neS {i j : Str} (k : Q (.bl (!decide (i = j))) H) : rNeA K (.str i) (.str j) H Q := .inl ⟨rfl, by rw [dec_str]; exact k⟩
theorem r_inSF {c : Nat} {z : Str} (k : Q (.bl (decide (c ∈ z.cps.toList))) H) : rInA K false (.str ⟨#[c]⟩) (.str z) H Q := .inl ⟨c, z, rfl, rfl, k⟩
theorem r_inST {c : Nat} {z : Str} (k : Q (.bl (!decide (c ∈ z.cps.toList))) H) : rInA K true (.str ⟨#[c]⟩) (.str z) H Q := .inl ⟨c, z, rfl, rfl, k⟩
theorem log2_small {n : Nat} (h : n < 2 ^ 200) : n.log2 < 300000 := by
  by_cases h0 : n = 0
  · subst h0; decide
  · exact Nat.lt_of_lt_of_le ((Nat.log2_lt h0).mpr h) (by decide)
theorem cmulW {i j : Int} (hi : i.natAbs < 2 ^ 200) (hj : j.natAbs < 2 ^ 200) : CMulW i j := by
  have := log2_small hi
  have := log2_small hj
  show _ + _ < _
  omega
-- items
theorem r_ixL {p : Addr} {xs : List V} {i : Int} {v : V} (h : SqL K H p xs) (e : atI xs i = some v) (k : Q v H) : rIx K (.ref p) (.int i) H Q := .inl ⟨p, xs, i, v, rfl, rfl, h, e, k⟩
theorem r_ixS {z : Str} {i : Int} {c : Nat} (h : z.length ≤ sizeLine) (e : atI z.cps.toList i = some c) (k : Q (.str ⟨#[c]⟩) H) : rIx K (.str z) (.int i) H Q := .inr (.inr ⟨z, i, c, rfl, rfl, h, e, k⟩)
-- statements
theorem r_seq {t u : TS} {n : L2.St → Hp → Prop} {rt : VK} {bk ct : L2.St → Hp → Prop} (k : t { nx := u ⟨n, rt, bk, ct⟩, rt := rt, bk := bk, ct := ct } σ H) : tSeq t u ⟨n, rt, bk, ct⟩ σ H := k
theorem r_next {n : L2.St → Hp → Prop} {rt : VK} {bk ct : L2.St → Hp → Prop} (k : n σ H) : tNext ⟨n, rt, bk, ct⟩ σ H := k
theorem r_ret {te : TE} {n : L2.St → Hp → Prop} {rt : VK} {bk ct : L2.St → Hp → Prop} (k : te σ H rt) : tRet te ⟨n, rt, bk, ct⟩ σ H := k
theorem r_drop {te : TE} {n : L2.St → Hp → Prop} {rt : VK} {bk ct : L2.St → Hp → Prop} (k : te σ H fun _ H1 => n σ H1) : tDrop te ⟨n, rt, bk, ct⟩ σ H := k
theorem r_rI0 {g : Int → Int → V} {i j : Int} (k : Q (g i j) H) : rI0 g (.int i) (.int j) H Q := ⟨i, j, rfl, rfl, k⟩
theorem r_setL {p : Addr} {xs : List V} {i : Int} {j : Nat} {v : V} {Q : Hp → Prop} (h : H p = some (.lst xs)) (e : ixN xs.length i = some j) (k : Q (upd H p (.lst (xs.set j v)))) : rSetL (.ref p) (.int i) v H Q := ⟨p, xs, i, j, rfl, rfl, h, e, k⟩
theorem r_sets {te : TE} {g : TG} {n : L2.St → Hp → Prop} {rt : VK} {bk ct : L2.St → Hp → Prop} (k : te σ H fun x H1 => g x σ H1 n) : tAsg te g ⟨n, rt, bk, ct⟩ σ H := k
theorem r_gname {i : Nat} {v : V} {Q : L2.St → Hp → Prop} (k : Q (σ.set i (some v)) H) : gName i v σ H Q := k
theorem r_ifS {c : TT} {t u : TS} (k : c σ H fun b H1 => if b = true then t D σ H1 else u D σ H1) : tIfS c t u D σ H := k
theorem r_gsub {to ti : TE} {t : TSet} {v : V} {Q : L2.St → Hp → Prop} (k : to σ H fun o H1 => ti σ H1 fun i H2 => t o i v H2 fun H3 => Q σ H3) : gSub to ti t v σ H Q := k
end
/-! ### tests -/
theorem r_ite {b : Bool} {A B : Prop} (h1 : b = true → A) (h2 : b = false → B) : if b = true then A else B := by cases b <;> simp_all
theorem r_iteD {p : Prop} {inst : Decidable p} {A B : Prop} (h1 : p → A) (h2 : ¬ p → B) : if decide p = true then A else B := by by_cases h : p <;> simp_all
theorem r_iteN {p : Prop} {inst : Decidable p} {A B : Prop} (h1 : ¬ p → A) (h2 : p → B) : if (!decide p) = true then A else B := by by_cases h : p <;> simp_all
/-! ### heaps: all but what stands at b is as it was -/
def Keep (b : Addr) (H H' : Hp) : Prop := ∀ p o, H p = some o → p ≠ b → H' p = some o
theorem Keep.refl (b : Addr) (H : Hp) : Keep b H H := fun _ _ h _ => h
theorem Keep.trans {b : Addr} {H H1 H2 : Hp} (x : Keep b H H1) (y : Keep b H1 H2) : Keep b H H2 := fun p o h n => y p o (x p o h n) n
theorem Keep.upd (b : Addr) (H : Hp) (o : HO) : Keep b H (upd H b o) := fun p u h n => by rw [upd_ne n]; exact h
theorem Keep.new {b p : Addr} {H : Hp} (o : HO) (h : H p = none) : Keep b H (L2.upd H p o) := fun q u hq _ => by rw [upd_ne (ne_of_none hq h)]; exact hq
theorem Keep.same {b : Addr} {H H' : Hp} (h : Same H H') : Keep b H H' := fun p o q _ => h p o q
theorem Keep.seq {K : PySem.W.Frag} {b a : Addr} {xs : List V} {H H' : Hp} (x : Keep b H H') (n : a ≠ b) (h : SqL K H a xs) : SqL K H' a xs := by
  rcases h with (h | ⟨o, h⟩) | h  -- own
  · exact .inl (.inl (x _ _ h n))
  · exact .inl (.inr ⟨o, x _ _ h n⟩)
  · exact .inr h
theorem Keep.free {b a : Addr} {H H' : Hp} (x : Keep b H H') (n : a ≠ b) (h : H' a = none) : H a = none := by
  cases q : H a with
  | none => rfl
  | some o => rw [x a o q n] at h; cases h
theorem new_ne {H : Hp} {p q : Addr} {o : HO} (h : H p = none) (h' : H q = some o) : p ≠ q := fun e => by rw [e, h'] at h; cases h
/-! ### the law's box: three ints, at most n draws -/
def Bx (H : Hp) (b : Addr) (n : Nat) : Prop := ∃ x y z : Int, H b = some (.lst [.int x, .int y, .int z]) ∧ 0 ≤ x ∧ 0 ≤ y ∧ y < 2147483629 ∧ 0 ≤ z ∧ z ≤ n
theorem Bx.mono {H : Hp} {b : Addr} {n m : Nat} (h : Bx H b n) (l : n ≤ m) : Bx H b m := by
  obtain ⟨x, y, z, e, a1, a2, a3, a4, a5⟩ := h
  exact ⟨x, y, z, e, a1, a2, a3, a4, by omega⟩
theorem Bx.new {H : Hp} {b p : Addr} {n : Nat} {o : HO} (h : Bx H b n) (f : H p = none) : Bx (upd H p o) b n := by
  obtain ⟨x, y, z, e, r⟩ := h
  exact ⟨x, y, z, by rw [upd_ne (new_ne f e).symm]; exact e, r⟩
/-- a draw: below m -/
def spTake : Sp := fun vs H Q _ => ∃ (b : Addr) (m : Int) (n : Nat), vs = [.ref b, .int m] ∧ Bx H b n ∧ n ≤ 1000000000 ∧ 1 ≤ m ∧ m < 1000000000 ∧
  ∀ (k : Int) (H' : Hp), 0 ≤ k → k < m → Keep b H H' → Bx H' b (n + 1) → Q (.int k) H'
end J
/-! the cutting of lines, as plain functions over codes -/
namespace M
/-- words whole, the begun one, the open quote (0: none), where it was opened, a stroke ahead -/
structure Sc where
  ws : List (List Nat)
  bg : Option (List Nat)
  qt : Nat
  op : Nat
  tk : Bool
  deriving DecidableEq
def sc0 : Sc := ⟨[], none, 0, 0, false⟩
/-- the program's turn -/
def stP (s : Sc) (i c : Nat) : Except Nat Sc :=
  if c = 10 ∧ (s.tk = true ∨ s.qt ≠ 0) then .error i
  else if s.tk = true then (if ((s.bg.getD []) ++ [c]).length > 40 then .error i else .ok { s with bg := some ((s.bg.getD []) ++ [c]), tk := false })
  else if c = 92 ∧ s.qt ≠ 39 then .ok { s with tk := true }
  else if c = s.qt then .ok { s with qt := 0 }
  else if s.qt = 0 ∧ (c = 39 ∨ c = 34) then .ok { s with bg := some (s.bg.getD []), qt := c, op := i }
  else if s.qt = 0 ∧ (c = 32 ∨ c = 10) then .ok { s with ws := (match s.bg with | some b => s.ws ++ [b] | none => s.ws), bg := none }
  else if ((s.bg.getD []) ++ [c]).length > 40 then .error i else .ok { s with bg := some ((s.bg.getD []) ++ [c]) }
def scan (st : Sc → Nat → Nat → Except Nat Sc) : Nat → Sc → List Nat → Except Nat Sc
  | _, s, [] => .ok s
  | i, s, c :: l => match st s i c with
    | .ok t => scan st (i + 1) t l
    | .error e => .error e
theorem scan_app (st : Sc → Nat → Nat → Except Nat Sc) : ∀ (l m : List Nat) (i : Nat) (s : Sc), scan st i s (l ++ m) = match scan st i s l with | .ok t => scan st (i + l.length) t m | .error e => .error e
  | [], m, i, s => by simp [scan]
  | d :: l, m, i, s => by
    simp only [List.cons_append, scan]
    cases h : st s i d with
    | error e => rfl
    | ok t =>
      have ih := scan_app st l m (i + 1) t
      have e : i + 1 + l.length = i + (d :: l).length := by simp only [List.length_cons]; omega
      rw [e] at ih
      exact ih
/-- the state in which the law is where the program is -/
def lw (s : Sc) : Sc := if s.tk = true then { s with bg := some (s.bg.getD []) } else s
/-- the quote is none, or one of the two -/
def Gd (s : Sc) : Prop := (s.qt = 0 ∨ s.qt = 39 ∨ s.qt = 34) ∧ (s.tk = true → s.qt ≠ 39)
end M
/-! quoting, and that what is quoted is cut to the same -/
namespace M
def N1 : List Nat := [32, 39, 34, 92]
def N2 : List Nat := [34, 92]
def esc (need : List Nat) : List Nat → List Nat
  | [] => []
  | c :: l => (if c ∈ need then [92, c] else [c]) ++ esc need l
def ways (l : List Nat) : List (List Nat) := (if l = [] then [] else [esc N1 l]) ++ ((if 39 ∈ l then [] else [39 :: l ++ [39]]) ++ [34 :: esc N2 l ++ [34]])
/-- the first of the shortest -/
def FM (xs : List (List Nat)) (v : List Nat) : Prop := ∃ i : Nat, xs[i]? = some v ∧ ∀ j w, xs[j]? = some w → v.length ≤ w.length ∧ (j < i → v.length < w.length)
theorem FM.uniq {xs : List (List Nat)} {v w : List Nat} (a : FM xs v) (b : FM xs w) : v = w := by
  obtain ⟨i, hi, a⟩ := a
  obtain ⟨j, hj, b⟩ := b
  rcases Nat.lt_trichotomy i j with h | h | h
  · have := (a j w hj).1; have := (b i v hi).2 h; omega
  · subst h; rw [hi] at hj; exact Option.some.inj hj
  · have := (b i v hi).1; have := (a j w hj).2 h; omega
theorem FM.cons {x v : List Nat} {xs : List (List Nat)} (h : xs[0]? = some x) (a : FM (x :: xs) v) : FM xs v := by
  obtain ⟨i, hi, a⟩ := a
  cases i with
  | zero =>
    have e : x = v := by simpa using hi
    subst e
    exact ⟨0, h, fun j w hj => ⟨(a (j + 1) w (by simpa using hj)).1, fun q => absurd q (Nat.not_lt_zero _)⟩⟩
  | succ i => exact ⟨i, by simpa using hi, fun j w hj => ⟨(a (j + 1) w (by simpa using hj)).1, fun q => (a (j + 1) w (by simpa using hj)).2 (by omega)⟩⟩
theorem esc_len (need : List Nat) : ∀ l : List Nat, (esc need l).length ≤ 2 * l.length
  | [] => Nat.le_refl _
  | c :: l => by
    have := esc_len need l
    unfold esc
    split <;> simp only [List.length_append, List.length_cons, List.length_nil] <;> omega
theorem esc_mem {need : List Nat} : ∀ {l : List Nat} {c : Nat}, c ∈ esc need l → c = 92 ∨ c ∈ l
  | [], c, h => by simp [esc] at h
  | d :: l, c, h => by
    unfold esc at h
    rcases List.mem_append.mp h with h | h  -- own
    · split at h
      · rcases List.mem_cons.mp h with h | h
        · exact .inl h
        · exact .inr (List.mem_cons.mpr (.inl (List.mem_singleton.mp h)))
      · exact .inr (List.mem_cons.mpr (.inl (List.mem_singleton.mp h)))
    · rcases esc_mem h with h | h
      · exact .inl h
      · exact .inr (List.mem_cons_of_mem _ h)
/-- a word: at most forty signs -/
def Wd (l : List Nat) : Prop := l.length ≤ 40 ∧ ∀ c ∈ l, 32 ≤ c ∧ c ≤ 126
theorem way_len {l v : List Nat} (w : Wd l) (hv : v ∈ ways l) : v.length ≤ 82 ∧ ∀ c ∈ v, 32 ≤ c ∧ c ≤ 126 := by
  obtain ⟨wl, wc⟩ := w
  have g1 := esc_len N1 l
  have g2 := esc_len N2 l
  have hm : ∀ need, ∀ c ∈ esc need l, 32 ≤ c ∧ c ≤ 126 := fun need c hc => by
    rcases esc_mem hc with h | h
    · omega
    · exact wc c h
  unfold ways at hv
  rcases List.mem_append.mp hv with h | h
  · split at h
    · cases h
    · rw [List.mem_singleton.mp h]; exact ⟨by omega, hm _⟩
  · rcases List.mem_append.mp h with h | h  -- own
    · split at h
      · cases h
      · rw [List.mem_singleton.mp h]
        refine ⟨by simp only [List.length_append, List.length_cons, List.length_nil]; omega, fun c hc => ?_⟩
        simp only [List.cons_append, List.mem_cons, List.mem_append, List.not_mem_nil, or_false] at hc
        rcases hc with h | h | h
        · omega
        · exact wc c h
        · omega
    · rw [List.mem_singleton.mp h]
      refine ⟨by simp only [List.length_append, List.length_cons, List.length_nil]; omega, fun c hc => ?_⟩
      simp only [List.cons_append, List.mem_cons, List.mem_append, List.not_mem_nil, or_false] at hc
      rcases hc with h | h | h
      · omega
      · exact hm _ c h
      · omega
inductive Ways : List (List Nat) → List (List Nat) → Prop
  | nil : Ways [] []
  | cons {l v : List Nat} {ls vs : List (List Nat)} (w : Wd l) (h : v ∈ ways l) (r : Ways ls vs) : Ways (l :: ls) (v :: vs)
end M
/-! the promises of the defs that cut and quote lines -/
namespace J
open PySem PySem.Spec PyProof.Rows L2 M
abbrev cd (z : Str) : List Nat := z.cps.toList
theorem cd_S (l : List Nat) : cd (S l) = l := S_cps l
theorem cd_app (a b : Str) : cd (a ++ b) = cd a ++ cd b := by show (a.cps ++ b.cps).toList = _; simp
theorem cd_one (c : Nat) : cd ⟨#[c]⟩ = [c] := rfl
theorem len_cd (z : Str) : z.length = (cd z).length := by simp [Str.length]
theorem str_eq {a b : Str} : a = b ↔ cd a = cd b := ⟨fun h => by rw [h], fun h => by rw [← S_of a, ← S_of b]; exact congrArg S h⟩
/-- a text of signs -/
def sg (l : List Nat) : Bool := l.all fun c => decide (32 ≤ c ∧ c ≤ 126)
theorem sg_iff {l : List Nat} : sg l = true ↔ ∀ c ∈ l, 32 ≤ c ∧ c ≤ 126 := by simp [sg]
def wV (l : List Nat) : V := .str (S l)
def obV : Option (List Nat) → V
  | none => .non
  | some l => .str (S l)
/-- all words of a state -/
def fin (t : Sc) : List (List Nat) := t.ws ++ t.bg.toList
/-- each of a list's first shortest ways -/
inductive FMs : List (List Nat) → List (List Nat) → Prop
  | nil : FMs [] []
  | cons {l v : List Nat} {ls vs : List (List Nat)} (h : FM (ways l) v) (r : FMs ls vs) : FMs (l :: ls) (v :: vs)
theorem FM.mem {xs : List (List Nat)} {v : List Nat} (h : FM xs v) : v ∈ xs := let ⟨_, hi, _⟩ := h; List.mem_of_getElem? hi
theorem FMs.ways : ∀ {ls vs : List (List Nat)}, FMs ls vs → (∀ l ∈ ls, Wd l) → Ways ls vs
  | _, _, .nil, _ => .nil
  | _, _, .cons h r, w => .cons (w _ (List.mem_cons_self ..)) (FM.mem h) (r.ways fun l hl => w l (List.mem_cons_of_mem _ hl))
theorem FMs.snoc : ∀ {ls vs : List (List Nat)} {l v : List Nat}, FMs ls vs → FM (M.ways l) v → FMs (ls ++ [l]) (vs ++ [v])
  | _, _, _, _, .nil, h => .cons h .nil  -- own
  | _, _, _, _, .cons h' r, h => .cons h' (r.snoc h)
theorem FMs.len : ∀ {ls vs : List (List Nat)}, FMs ls vs → ls.length = vs.length
  | _, _, .nil => rfl
  | _, _, .cons _ r => by simp [r.len]  -- own
-- the law's
def spBox : Sp := fun vs H Q _ => ∃ c : Int, vs = [.int c] ∧ ∀ (p : Addr) (H' : Hp), H p = none → Same H H' → Bx H' p 0 → Q (.ref p) H'
end J
/-! min(texts, key=len); replace where there is nothing to replace; more steps of the reading -/
namespace J
open PySem PySem.Spec PyProof.Rows L2 M
open Sem (wp)
theorem argBest_first (f : Nat → Int) : ∀ k : Nat, argBest (fun i j => decide (f i < f j)) k ≤ k ∧ ∀ j, j ≤ k → f (argBest (fun i j => decide (f i < f j)) k) ≤ f j ∧ (j < argBest (fun i j => decide (f i < f j)) k → f (argBest (fun i j => decide (f i < f j)) k) < f j)
  | 0 => ⟨Nat.le_refl _, fun j hj => by
      obtain rfl : j = 0 := by omega
      exact ⟨Int.le_refl _, fun h => absurd h (Nat.lt_irrefl _)⟩⟩
  | k + 1 => by
    obtain ⟨h1, h2⟩ := argBest_first f k
    unfold argBest
    by_cases c : f (k + 1) < f (argBest (fun i j => decide (f i < f j)) k)
    · rw [if_pos (decide_eq_true c)]  -- own
      refine ⟨Nat.le_refl _, fun j hj => ?_⟩  -- own
      rcases Nat.lt_or_ge k j with q | q
      · obtain rfl : j = k + 1 := by omega
        exact ⟨Int.le_refl _, fun h => absurd h (Nat.lt_irrefl _)⟩
      · have := (h2 j q).1
        exact ⟨by omega, fun _ => by omega⟩  -- own
    · rw [if_neg (by simpa using c)]
      refine ⟨by omega, fun j hj => ?_⟩  -- own
      rcases Nat.lt_or_ge k j with q | q
      · obtain rfl : j = k + 1 := by omega
        exact ⟨by omega, fun h => by omega⟩
      · exact h2 j q
section
variable {X : Cx}
/-- min(xs, key=len) of a list of texts: the first of the shortest -/
def tMinLen (K : PySem.W.Frag) (te : TE) : TE := fun σ H Q => te σ H fun x H1 => ∃ (a : Addr) (ls : List (List Nat)), x = .ref a ∧ SqL K H1 a (ls.map wV) ∧ 0 < ls.length ∧ (∀ l ∈ ls, l.length < 1000000) ∧ ∀ v, FM ls v → Q (.str (S v)) H1
/-! ### replace where there is nothing to replace -/
end
/-! ### joined texts -/
theorem l_nil' : cd (Str.ofString "") = [] := by decide +kernel
theorem tj (a : Str) (ys : List Str) : Txt.join a ys = Str.join a ys := StrLaws.glued_eq_join ..
theorem join_nil : ∀ ls : List (List Nat), Txt.join (Str.ofString "") (ls.map S) = S ls.flatten
  | [] => by decide +kernel
  | [x] => by rw [tj]; show S x = _; simp
  | x :: y :: r => by
    have ih := join_nil (y :: r)
    rw [tj] at ih ⊢
    show S x ++ Str.ofString "" ++ Str.join (Str.ofString "") ((y :: r).map S) = _
    rw [ih, str_eq, cd_app, cd_app, cd_S, cd_S, cd_S, l_nil']
    simp
theorem sum_le : ∀ (ls : List (List Nat)) (B : Nat), (∀ l ∈ ls, l.length ≤ B) → ((ls.map S).map (·.length)).sum ≤ B * ls.length
  | [], B, _ => by simp
  | l :: ls, B, h => by
    have ih := sum_le ls B fun m hm => h m (List.mem_cons_of_mem _ hm)
    have := h l (List.mem_cons_self ..)
    simp only [List.map_cons, List.sum_cons, List.length_cons, S_len]
    rw [Nat.mul_add, Nat.mul_one]
    omega
/-! ### built-ins, their readings named -/
def rLen (K : PySem.W.Frag) : List V → Hp → VK → Prop := fun xs H Q => ∃ x n, xs = [x] ∧ LenV K x H n ∧ Q (.int (n : Nat)) H
def rIntA : List V → Hp → VK → Prop := fun xs H Q => (∃ i, xs = [V.int i] ∧ Q (V.int i) H) ∨ ∃ k, xs = [V.bl k] ∧ Q (V.int (if k = true then 1 else 0)) H
def rMax2 : List V → Hp → VK → Prop := fun xs H Q => ∃ i j, xs = [V.int i, V.int j] ∧ Q (V.int (if j > i then j else i)) H
def rMin2 : List V → Hp → VK → Prop := fun xs H Q => ∃ i j, xs = [V.int i, V.int j] ∧ Q (V.int (if j < i then j else i)) H
def rListOf (K : PySem.W.Frag) : List V → Hp → VK → Prop := fun xs H Q => ∃ p ys, xs = [.ref p] ∧ (SqL K H p ys ∨ SqT K H p ys) ∧ ∀ l, H l = none → Q (.ref l) (upd H l (.lst ys))
def rTupOf (K : PySem.W.Frag) : List V → Hp → VK → Prop := fun xs H Q => ∃ p ys, xs = [.ref p] ∧ ((SqL K H p ys ∧ ∀ l, H l = none → Q (.ref l) (upd H l (.tup ys))) ∨ (SqT K H p ys ∧ Q (.ref p) H))
def rJoin (K : PySem.W.Frag) : V → List V → Hp → VK → Prop := fun x xs H Q => ∃ a p, ∃ ys : List Str, x = .str a ∧ xs = [.ref p] ∧ (SqL K H p (ys.map V.str) ∨ SqT K H p (ys.map V.str)) ∧ (ys.map (·.length)).sum + ys.length * a.length ≤ 16777216 ∧ Q (.str (Txt.join a ys)) H
section
variable {X : Cx}
theorem call_lenA : CallR X (.builtin "len") (rLen X.K) := L2.call_len
theorem call_intA : CallR X (.type "int") rIntA := L2.call_int1
theorem call_maxA (hc : X.calm = true) : CallR X (.builtin "max") rMax2 := L2.call_max2 hc
theorem call_minA (hc : X.calm = true) : CallR X (.builtin "min") rMin2 := L2.call_min2 hc
theorem call_listA : CallR X (.type "list") (rListOf X.K) := L2.call_list_of
theorem call_tupA : CallR X (.type "tuple") (rTupOf X.K) := L2.call_tuple_of
end
/-! ### the written part by its own name -/
section
variable {X : Cx} {K : PySem.W.Frag} {e tg : Expr} {T : String} {r : V → List V → Hp → VK → Prop} {to tb : TE} {t : TA}
theorem asBM (eK : X.K = K) (h : PE X e (tBM X.K T r to t)) : PE X e (tBM K T r to t) := eK ▸ h
theorem asJoin (eK : X.K = K) (h : PE X e (tM1 (rJoin X.K) to tb)) : PE X e (tM1 (rJoin K) to tb) := eK ▸ h
theorem asOrT (eK : X.K = K) (h : PE X e (tOrT X.K to tb)) : PE X e (tOrT K to tb) := eK ▸ h
theorem asList (eK : X.K = K) (h : PI X tg e (iList X.K to)) : PI X tg e (iList K to) := eK ▸ h
end
/-! ### constants of the module -/
section
variable {X : Cx} {x : Str} {pos : Pos}
theorem pe_gI {n : Int} (h : ∃ t, X.mg x = some (.int n t)) (hg : Gl X x) (hd : (x == ("__debug__" : Str)) = false := by decide) : PE X (.Name x pos) (tC (.int n)) := let ⟨t, e⟩ := h; pe_glob hg e ⟨t, rfl⟩ hd
theorem pe_gR {a : Addr} (h : X.mg x = some (.ref a)) (hg : Gl X x) (hd : (x == ("__debug__" : Str)) = false := by decide) : PE X (.Name x pos) (tC (.ref a)) := pe_glob hg h rfl hd
end
/-- a def as the top has left it -/
structure DAt (K : PySem.W.Frag) (mg : Str → Option Value) (x : Str) (st : Stmt) (ps : List Str) (f : Addr) (fd : FuncData) : Prop where
  fn : Fun K x x st f fd
  gl : mg x = some (.ref f)
  bd : Binds K fd ps []
/-! ### heaps, again -/
theorem _root_.L2.Same.at {H H' : Hp} {p : Addr} (s : Same H H') (n : H p = none) (o : HO) : Same H (upd H' p o) := fun b u h => by rw [upd_ne (ne_of_none h n)]; exact s b u h
theorem _root_.L2.Same.new {H H' : Hp} {p : Addr} (s : Same H H') (n : H' p = none) (o : HO) : Same H (upd H' p o) := fun b u h => by rw [upd_ne (ne_of_none (s b u h) n)]; exact s b u h
theorem _root_.L2.Same.seqT {K : PySem.W.Frag} {H H' : Hp} {a : Addr} {xs : List V} (e : Same H H') (h : SqT K H a xs) : SqT K H' a xs := by
  rcases h with (h | ⟨o, h⟩) | h  -- own
  · exact .inl (.inl (e _ _ h))
  · exact .inl (.inr ⟨o, e _ _ h⟩)  -- own
  · exact .inr h
theorem take_snoc {α : Type} {l : List α} {i : Nat} {c : α} (h : l[i]? = some c) : l.take (i + 1) = l.take i ++ [c] := by rw [List.take_add_one, h]; rfl
theorem cps_at {z : Str} {i c : Nat} (h : z.cps[i]? = some c) : (cd z)[i]? = some c := by simpa using h
theorem not_dec {p : Prop} {i : Decidable p} : (!decide p) = decide (¬ p) := by by_cases h : p <;> simp [h]
theorem le_line {n : Nat} (h : n ≤ 16777216) : n ≤ sizeLine := h
theorem big : (1000000 : Nat) < sizeLine := by decide
/-! ### more steps -/
section
variable {σ : L2.St} {H : Hp} {Q : VK} {D : Ends} {K : PySem.W.Frag}
theorem r_andV {a b : TE} (k : a σ H fun x H1 => ∃ c, x = .bl c ∧ if c = true then b σ H1 Q else Q (.bl false) H1) : tAndV a b σ H Q := k
theorem r_orV {a b : TE} (k : a σ H fun x H1 => ∃ c, x = .bl c ∧ if c = true then Q (.bl true) H1 else b σ H1 Q) : tOrV a b σ H Q := k
theorem r_notV {a : TE} (k : a σ H fun x H1 => ∃ c, x = .bl c ∧ Q (.bl (!c)) H1) : tNotV a σ H Q := k
theorem r_chain {r r' : R2} {ta tb tc : TE} (k : ta σ H fun x H1 => tb σ H1 fun y H2 => r x y H2 fun z H3 => ∃ k, z = .bl k ∧ (if k = true then tc σ H3 fun w' H4 => r' y w' H4 Q else Q (.bl false) H3)) : tChain r r' ta tb tc σ H Q := k
theorem r_slice {r : V → Option Int → Option Int → Hp → VK → Prop} {te : TE} {tl th : TO} (k : te σ H fun x H1 => tl σ H1 fun l H2 => th σ H2 fun u H3 => r x l u H3 Q) : tSl r te tl th σ H Q := k
theorem r_nop {Q : Option Int → Hp → Prop} (k : Q none H) : tNoPart σ H Q := k
theorem r_part {t : TE} {Q : Option Int → Hp → Prop} (k : t σ H fun x H1 => ∃ i, x = .int i ∧ Q (some i) H1) : tPart t σ H Q := k
theorem r_isI {i : Int} {Q : Int → Prop} (k : Q i) : ∃ j, V.int i = .int j ∧ Q j := ⟨i, rfl, k⟩
theorem r_isiStr {z : Str} (k : Q (.bl true) H) : rIsi K [.str z, .ty "str"] H Q := ⟨_, _, _, _, true, rfl, .ty _, .base (.str z), kit_ty (by decide +kernel), k⟩
theorem r_len {z : Str} (h : z.length ≤ sizeLine) (k : Q (.int (z.length : Nat)) H) : rLen K [V.str z] H Q := ⟨_, _, rfl, ⟨h, rfl⟩, k⟩
theorem r_lenL {p : Addr} {xs : List V} (h : SqL K H p xs) (k : Q (.int (xs.length : Nat)) H) : rLen K [V.ref p] H Q := ⟨_, _, rfl, .inl ⟨xs, h, rfl⟩, k⟩
theorem r_lenT {p : Addr} {xs : List V} (h : SqT K H p xs) (k : Q (.int (xs.length : Nat)) H) : rLen K [V.ref p] H Q := ⟨_, _, rfl, .inr ⟨xs, h, rfl⟩, k⟩
theorem r_bm {T : String} {r : V → List V → Hp → VK → Prop} {to : TE} {t : TA} (k : to σ H fun x H1 => tyV K T x H1 ∧ t σ H1 fun xs H2 => r x xs H2 Q) : tBM K T r to t σ H Q := k
theorem r_m1 {r : V → List V → Hp → VK → Prop} {to te : TE} (k : to σ H fun x H1 => (∃ a, x = .str a) ∧ te σ H1 fun y H2 => r x [y] H2 Q) : tM1 r to te σ H Q := k
theorem r_isStr {z : Str} {P : Prop} (k : P) : (∃ a, V.str z = .str a) ∧ P := ⟨⟨z, rfl⟩, k⟩
theorem r_lcL {te te' : TE} {g : TG} {tt : TT} {vs : List Nat} (k : te σ H fun v H1 => ∃ a, v = .ref a ∧ (∃ xs, SqL K H1 a xs) ∧ ∀ E, H1 E = none → CompQ (Itl K a) g tt te' vs σ H1 E fun H => Q (.ref E) H) : tLc (iList K te) g tt te' vs σ H Q := k
theorem r_orT {te tb : TE} (k : te σ H fun x H1 => ∃ k, TruV K x H1 k ∧ if k = true then Q x H1 else tb σ H1 Q) : tOrT K te tb σ H Q := k
theorem r_truN {A B : Prop} (h : B) : ∃ k, TruV K .non H k ∧ if k = true then A else B := ⟨false, rfl, iteF h⟩
theorem r_join {a : Str} {p : Addr} {ls : List (List Nat)} (h : SqL K H p (ls.map wV)) (B : Nat) (hB : ∀ l ∈ ls, l.length ≤ B) (hn : B * ls.length + ls.length * a.length ≤ 16777216) (k : Q (.str (Txt.join a (ls.map S))) H) : rJoin K (.str a) [.ref p] H Q := by
  have := sum_le ls B hB
  exact ⟨a, p, ls.map S, rfl, rfl, .inl (by rw [List.map_map]; exact h), by rw [List.length_map]; omega, k⟩
theorem r_app {l : Addr} {xs : List V} {y : V} (h : H l = some (.lst xs)) (hz : xs.length < sizeLine) (k : Q .non (upd H l (.lst (xs ++ [y])))) : rAppend (.ref l) [y] H Q := ⟨l, xs, y, rfl, rfl, h, hz, k⟩
theorem r_tyL {l : Addr} {xs : List V} {B : Prop} (h : H l = some (.lst xs)) (k : B) : tyV K "list" (.ref l) H ∧ B := ⟨.inl ⟨rfl, _, SqL.of h⟩, k⟩
/-- a statement ahead of others: the rest is shown once -/
theorem r_seqJ {t u : TS} {n : L2.St → Hp → Prop} {rt : VK} {bk ct : L2.St → Hp → Prop} (Mid : L2.St → Hp → Prop) (first : ∀ N : L2.St → Hp → Prop, (∀ σ' H', Mid σ' H' → N σ' H') → t ⟨N, rt, bk, ct⟩ σ H)
    (rest : ∀ σ' H', Mid σ' H' → u ⟨n, rt, bk, ct⟩ σ' H') : tSeq t u ⟨n, rt, bk, ct⟩ σ H := first _ rest
theorem r_intI {i : Int} (k : Q (.int i) H) : rIntA [.int i] H Q := .inl ⟨i, rfl, k⟩
theorem r_intB {b : Bool} (k : Q (.int (if b = true then 1 else 0)) H) : rIntA [.bl b] H Q := .inr ⟨b, rfl, k⟩
theorem r_max2 {i j : Int} (k : Q (.int (if j > i then j else i)) H) : rMax2 [.int i, .int j] H Q := ⟨i, j, rfl, k⟩
theorem r_min2 {i j : Int} (k : Q (.int (if j < i then j else i)) H) : rMin2 [.int i, .int j] H Q := ⟨i, j, rfl, k⟩
theorem r_yes {Q : Bool → Hp → Prop} (k : Q true H) : tYes σ H Q := k
end
end J
/-! a list or a tuple walked; comprehensions that leave the heap as it was -/
namespace J
open PySem PySem.Spec PyProof.Rows L2 M
/-- a walk over what stays -/
structure SeqIt (J : It) (xs : List V) (H0 : Hp) : Prop where
  go : ∀ i H, Same H0 H → i < xs.length → J.go i H
  stop : ∀ H, Same H0 H → J.stop xs.length H
  yld : ∀ i H x H', Same H0 H → J.yld i H x H' → H' = H ∧ xs[i]? = some x
theorem _root_.L2.Same.seqL {K : PySem.W.Frag} {H H' : Hp} {a : Addr} {xs : List V} (e : Same H H') (h : SqL K H a xs) : SqL K H' a xs := by
  rcases h with (h | ⟨o, h⟩) | h  -- own
  · exact .inl (.inl (e _ _ h))
  · exact .inl (.inr ⟨o, e _ _ h⟩)  -- own
  · exact .inr h
theorem seqIt_l {K : PySem.W.Frag} {a : Addr} {xs : List V} {H : Hp} (h : SqL K H a xs) : SeqIt (Itl K a) xs H where
  go := fun i H' s hi => ⟨xs, _, s.seqL h, List.getElem?_eq_getElem hi⟩
  stop := fun H' s => ⟨xs, s.seqL h, Nat.le_refl _⟩
  yld := fun i H' x H'' s y => ⟨y.1, y.2 xs (s.seqL h)⟩
theorem seqIt_t {K : PySem.W.Frag} {a : Addr} {xs : List V} {H : Hp} (h : SqT K H a xs) : SeqIt (Itt K a) xs H where
  go := fun i H' s hi => ⟨xs, _, s.seqT h, List.getElem?_eq_getElem hi⟩
  stop := fun H' s => ⟨xs, s.seqT h, Nat.le_refl _⟩
  yld := fun i H' x H'' s y => ⟨y.1, y.2 xs (s.seqT h)⟩
def sgnV (c : Nat) : V := .str ⟨#[c]⟩
theorem seqIt_s {z : Str} {H : Hp} : SeqIt (Its z) ((cd z).map sgnV) H where
  go := fun i H' s hi => by
    have : (cd z).length = z.cps.size := by simp
    rw [List.length_map, this] at hi; exact hi
  stop := fun H' s => by
    have : (cd z).length = z.cps.size := by simp
    rw [List.length_map, this]; exact Nat.le_refl _
  yld := fun i H' x H'' s y => by
    obtain ⟨rfl, c, hc, rfl⟩ := y
    exact ⟨rfl, by rw [List.getElem?_map, cps_at hc]; rfl⟩
theorem SeqIt.mono {J : It} {xs : List V} {H H1 : Hp} (a : SeqIt J xs H) (s : Same H H1) : SeqIt J xs H1 :=
  ⟨fun i H' t hi => a.go i H' (s.trans t) hi, fun H' t => a.stop H' (s.trans t), fun i H' x H'' t y => a.yld i H' x H'' (s.trans t) y⟩
/-- one y for each x, all else as it was -/
theorem comp_same {J : It} {g : TG} {te : TE} {vs : List Nat} {σ : L2.St} {H1 : Hp} {D : Addr} {Z : Hp → Prop} {xs : List V} (SI : SeqIt J xs H1) (hD : H1 D = none) (ys : List V) (hl : ys.length = xs.length) (hs : xs.length < sizeLine)
    (turn : ∀ (i : Nat) (x : V) (H : Hp) (N : V → Hp → Prop), xs[i]? = some x → Same H1 H → (∀ y H4, ys[i]? = some y → Same H H4 → N y H4) → g x (wipe σ vs) H fun σ2 H2 => wipe σ2 vs = wipe σ vs ∧ te σ2 H2 N)
    (fin : ∀ H, Same H1 H → H D = some (.lst ys) → Z H) : CompQ J g tYes te vs σ H1 D Z := by
  refine comp_of xs.length (fun i H => Same H1 H ∧ H D = some (.lst (ys.take i))) ⟨(Same.refl H1).at hD _, by rw [upd_same]; rfl⟩ (fun i H hi w => SI.go i H w.1 hi) (fun H w => SI.stop H w.1) (fun i H x H' hi w y => ?_) (fun H w => ?_)
  · obtain ⟨rfl, hx⟩ := SI.yld i H x H' w.1 y
    exact turn i x H' _ hx w.1 fun y H4 hy s => ⟨_, s _ _ w.2, Nat.lt_of_le_of_lt (by rw [List.length_take]; omega) hs, (w.1.trans s).at hD _, by rw [upd_same, take_snoc hy]⟩
  · have : ys.take xs.length = ys := List.take_of_length_le (Nat.le_of_eq hl)
    rw [this] at w
    exact fin H w.1 w.2
/-- a list or a tuple walked -/
def iSeq (K : PySem.W.Frag) (tl : TE) : TI := fun σ H R => tl σ H fun x H1 => ∃ a xs, x = .ref a ∧ ((SqL K H1 a xs ∧ R (Itl K a) H1) ∨ (SqT K H1 a xs ∧ R (Itt K a) H1))
theorem pi_seq {X : Cx} {tg l : Expr} {tl : TE} (hl : PE X l tl) : PI X tg l (iSeq X.K tl) := by
  refine ⟨fun pins s σ H R I h => ?_⟩  -- own
  refine thn (hl.run pins s σ H _ I h) fun v s1 ⟨x, H1, I1, r1, q1⟩ => ?_  -- own
  obtain ⟨a, xs, e, q⟩ := q1
  subst e
  cases r1
  have low : ∀ b, b ∈ [s1.heap.objs.size] → b = s1.heap.objs.size := fun b hb => by simpa using hb
  rcases q with ⟨hq, q⟩ | ⟨hq, q⟩  -- own
  · obtain ⟨its, rv, p, hz⟩ := I1.list hq
    refine wpAny_pyIter_list p.isList ⟨s1.heap.objs.size, [s1.heap.objs.size], _, _, H1, rfl, I1.kept (t' := s1.toks) fun b o e => Heap.get?_push_of_some _ e, turn_list a _, ⟨_, Heap.get?_push_size _ rfl, rfl, rfl⟩, fun b hb => ?_, q⟩
    rw [low b hb]
    exact I1.fpOk (Nat.le_refl _) (I1.hok.fresh (Nat.le_refl _))  -- own
  · obtain ⟨its, rv, p, hz⟩ := I1.tuple hq
    refine wpAny_pyIter_tuple (show s1.heap.IsTuple a its.toArray from p) ⟨s1.heap.objs.size, [s1.heap.objs.size], _, _, H1, rfl, I1.kept (t' := s1.toks) fun b o e => Heap.get?_push_of_some _ e, turn_tuple a _, ⟨_, Heap.get?_push_size _ rfl, rfl, rfl⟩, fun b hb => ?_, q⟩
    rw [low b hb]
    exact I1.fpOk (Nat.le_refl _) (I1.hok.fresh (Nat.le_refl _))  -- own
theorem asSeq {X : Cx} {K : PySem.W.Frag} {e tg : Expr} {to : TE} (eK : X.K = K) (h : PI X tg e (iSeq X.K to)) : PI X tg e (iSeq K to) := eK ▸ h
section
variable {σ : L2.St} {H : Hp} {Q : VK} {K : PySem.W.Frag}
/-- of a variable -/
theorem r_lcV {i : Nat} {a : Addr} {xs : List V} {te' : TE} {g : TG} {tt : TT} {vs : List Nat} (hv : σ[i]? = some (some (.ref a))) (hs : SqL K H a xs ∨ SqT K H a xs) (k : ∀ J, SeqIt J xs H → ∀ E, H E = none → CompQ J g tt te' vs σ H E fun H => Q (.ref E) H) :
    tLc (iSeq K (tVar i)) g tt te' vs σ H Q := by
  exact ⟨.ref a, hv, a, xs, rfl, hs.elim (fun h => .inl ⟨h, fun E hE => k _ (seqIt_l h) E hE⟩) fun h => .inr ⟨h, fun E hE => k _ (seqIt_t h) E hE⟩⟩
theorem r_iteNT {A B : Prop} (h : B) : if (!true) = true then A else B := h
theorem r_iteNF {A B : Prop} (h : A) : if (!false) = true then A else B := h
theorem r_minL {te : TE} (k : te σ H fun x H1 => ∃ (a : Addr) (ls : List (List Nat)), x = .ref a ∧ SqL K H1 a (ls.map wV) ∧ 0 < ls.length ∧ (∀ l ∈ ls, l.length < 1000000) ∧ ∀ v, FM ls v → Q (.str (S v)) H1) : tMinLen K te σ H Q := k
end
/-! ### the first of the shortest is there -/
theorem FM_ex {xs : List (List Nat)} (h : 0 < xs.length) : ∃ v, FM xs v := by
  obtain ⟨b1, b2⟩ := argBest_first (fun i => (((xs[i]?.getD []).length : Nat) : Int)) (xs.length - 1)
  have hb : argBest (fun i j => decide ((((xs[i]?.getD []).length : Nat) : Int) < (((xs[j]?.getD []).length : Nat) : Int))) (xs.length - 1) < xs.length := by omega
  refine ⟨_, _, List.getElem?_eq_getElem hb, fun j w hj => ?_⟩
  have lj := (List.getElem?_eq_some_iff.mp hj).1
  have := b2 j (by omega)
  simp only [List.getElem?_eq_getElem hb, hj, Option.getD_some] at this
  exact ⟨by omega, fun q => by have := this.2 q; omega⟩
theorem ways_pos (l : List Nat) : 0 < (ways l).length := by simp only [ways, List.length_append, List.length_cons]; omega
theorem FMs.ex : ∀ ls : List (List Nat), ∃ us, FMs ls us
  | [] => ⟨_, .nil⟩
  | l :: ls => let ⟨_, h⟩ := FM_ex (ways_pos l); let ⟨_, r⟩ := FMs.ex ls; ⟨_, .cons h r⟩
theorem FMs.at : ∀ {ls us : List (List Nat)}, FMs ls us → ∀ {i : Nat} {l v : List Nat}, ls[i]? = some l → FM (M.ways l) v → us[i]? = some v
  | _, _, .cons h r, 0, l, v, e, hv => by
    cases (show some _ = some l from e)
    exact congrArg some (FM.uniq h hv)
  | _, _, .cons h r, i + 1, l, v, e, hv => r.at (i := i) e hv
theorem r_len2 {K : PySem.W.Frag} {H : Hp} {Q : VK} {a : Addr} {xs : List V} (hs : SqL K H a xs ∨ SqT K H a xs) (k : Q (.int (xs.length : Nat)) H) : rLen K [V.ref a] H Q := hs.elim (fun h => r_lenL h k) fun h => r_lenT h k
end J
/-! tuple targets, two stores at once, loops over a text's signs with their numbers -/
namespace J
open PySem PySem.Spec PyProof.Rows L2 M
theorem asGTup {X : Cx} {K : PySem.W.Frag} {tg : Expr} {n : Nat} {t : TGs} (eK : X.K = K) (h : PG X tg (gTup X.K n t)) : PG X tg (gTup K n t) := eK ▸ h
section
variable {σ : L2.St} {H : Hp} {Q : L2.St → Hp → Prop} {K : PySem.W.Frag}
theorem r_gtup {a : Addr} {xs : List V} {n : Nat} {t : TGs} (h : SqT K H a xs) (hn : xs.length = n) (k : t xs σ H Q) : gTup K n t (.ref a) σ H Q := ⟨a, xs, rfl, h, hn, k⟩
theorem r_gcons {v : V} {r : List V} {t : TG} {u : TGs} (k : t v σ H fun σ' H' => u r σ' H' Q) : gCons t u (v :: r) σ H Q := ⟨v, r, rfl, k⟩
theorem r_gnil (k : Q σ H) : gNil [] σ H Q := ⟨rfl, k⟩
theorem r_par {i j : Nat} {ta : TA} {n : L2.St → Hp → Prop} {rt : VK} {bk ct : L2.St → Hp → Prop} (k : ta σ H fun vs H1 => ∃ v w, vs = [v, w] ∧ n ((σ.set i (some v)).set j (some w)) H1) : tPar i j ta ⟨n, rt, bk, ct⟩ σ H := k
theorem r_is2 {v w : V} {P : V → V → Prop} (k : P v w) : ∃ v' w', [v, w] = [v', w'] ∧ P v' w' := ⟨v, w, rfl, k⟩
theorem r_par3 {i j l : Nat} {ta : TA} {n : L2.St → Hp → Prop} {rt : VK} {bk ct : L2.St → Hp → Prop} (k : ta σ H fun vs H1 => ∃ u v w, vs = [u, v, w] ∧ n (((σ.set i (some u)).set j (some v)).set l (some w)) H1) : tPar3 i j l ta ⟨n, rt, bk, ct⟩ σ H := k
theorem r_is3 {u v w : V} {P : V → V → V → Prop} (k : P u v w) : ∃ u' v' w', [u, v, w] = [u', v', w'] ∧ P u' v' w' := ⟨u, v, w, rfl, k⟩
end
end J
/-! single signs and quotes compared -/
namespace J
open PySem PySem.Spec PyProof.Rows L2 M
def qS (q : Nat) : Str := if q = 0 then S [] else S [q]
theorem iteDT {p : Prop} {i : Decidable p} {A B : Prop} (h : p) (k : A) : if decide p = true then A else B := by rw [if_pos (decide_eq_true h)]; exact k
theorem iteDF {p : Prop} {i : Decidable p} {A B : Prop} (h : ¬ p) (k : B) : if decide p = true then A else B := by rw [if_neg (by rw [decide_eq_false h]; exact Bool.false_ne_true)]; exact k
theorem iteNT {p : Prop} {i : Decidable p} {A B : Prop} (h : ¬ p) (k : A) : if (!decide p) = true then A else B := by rw [if_pos (by rw [decide_eq_false h]; rfl)]; exact k
theorem iteNF {p : Prop} {i : Decidable p} {A B : Prop} (h : p) (k : B) : if (!decide p) = true then A else B := by rw [if_neg (by rw [decide_eq_true h]; exact Bool.false_ne_true)]; exact k
end J
/-! ranges; texts of drawn signs; the law's states -/
namespace J
open PySem PySem.Spec PyProof.Rows L2 M
theorem Keep.at {b D : Addr} {H H' : Hp} (k : Keep b H H') (n : H D = none) (o : HO) : Keep b H (L2.upd H' D o) := fun q u hq ne => by rw [upd_ne (ne_of_none hq n)]; exact k q u hq ne
theorem Bx.at {b D : Addr} {H : Hp} {n : Nat} (h : Bx H b n) (ne : D ≠ b) (o : HO) : Bx (upd H D o) b n := by
  obtain ⟨x, y, z, e, r⟩ := h
  exact ⟨x, y, z, by rw [upd_ne ne.symm]; exact e, r⟩
theorem Bx.ne {b p : Addr} {H : Hp} {n : Nat} (h : Bx H b n) (hp : H p = none) : p ≠ b := by
  obtain ⟨_, _, _, e, _⟩ := h
  exact new_ne hp e
section
variable {σ : L2.St} {H : Hp} {Q : VK} {K : PySem.W.Frag}
theorem map_sgn (l : List Nat) : l.map sgnV = (l.map fun c => [c]).map wV := by rw [List.map_map]; rfl
theorem flat_one (l : List Nat) : (l.map fun c => [c]).flatten = l := by
  induction l with
  | nil => rfl
  | cons c l ih => rw [List.map_cons, List.flatten_cons, ih]; rfl
/-- signs joined by nothing -/
theorem r_joinC {p : Addr} {l : List Nat} (h : H p = some (.lst (l.map sgnV))) (hl : l.length ≤ 1000000) (k : Q (.str (S l)) H) : rJoin K (.str (Str.ofString "")) [.ref p] H Q := by
  refine r_join (ls := l.map fun c => [c]) (SqL.of (by rw [← map_sgn]; exact h)) 1 (fun v hv => ?_) ?_ ?_
  · obtain ⟨c, _, rfl⟩ := List.mem_map.mp hv
    exact Nat.le_refl _
  · have : (Str.ofString "").length = 0 := rfl
    rw [List.length_map, this]; omega
  · rw [_root_.J.join_nil, flat_one]
    exact k
end
end J
/-! lists of words compared; comprehensions that leave out -/
namespace J
open PySem PySem.Spec PyProof.Rows L2 M
/-- what is left, each x by f -/
theorem comp_filt {J : It} {g : TG} {tt : TT} {te : TE} {vs : List Nat} {σ : L2.St} {H1 : Hp} {D : Addr} {Z : Hp → Prop} {xs : List V} (SI : SeqIt J xs H1) (hD : H1 D = none) (f : V → Option V) (hs : xs.length < sizeLine)
    (turn : ∀ (i : Nat) (x : V) (H : Hp) (N : V → Hp → Prop) (N0 : Hp → Prop), xs[i]? = some x → Same H1 H → (∀ y H4, f x = some y → Same H H4 → N y H4) → (∀ H4, f x = none → Same H H4 → N0 H4) →
      g x (wipe σ vs) H fun σ2 H2 => wipe σ2 vs = wipe σ vs ∧ tt σ2 H2 fun b H3 => if b = true then te σ2 H3 N else N0 H3)
    (fin : ∀ H, Same H1 H → H D = some (.lst (xs.filterMap f)) → Z H) : CompQ J g tt te vs σ H1 D Z := by
  refine comp_of xs.length (fun i H => Same H1 H ∧ H D = some (.lst ((xs.take i).filterMap f))) ⟨(Same.refl H1).at hD _, by rw [upd_same]; rfl⟩ (fun i H hi w => SI.go i H w.1 hi) (fun H w => SI.stop H w.1) (fun i H x H' hi w y => ?_) (fun H w => ?_)
  · obtain ⟨rfl, hx⟩ := SI.yld i H x H' w.1 y
    refine turn i x H' _ _ hx w.1 (fun y H4 hy s => ⟨_, s _ _ w.2, ?_, (w.1.trans s).at hD _, ?_⟩) fun H4 hn s => ⟨w.1.trans s, ?_⟩
    · exact Nat.lt_of_le_of_lt (Nat.le_trans (List.length_filterMap_le ..) (by rw [List.length_take]; omega)) hs
    · rw [upd_same, take_snoc hx, List.filterMap_append]; simp [hy]
    · rw [s _ _ w.2, take_snoc hx, List.filterMap_append]; simp [hn]
  · have : xs.take xs.length = xs := List.take_of_length_le (Nat.le_refl _)
    rw [this] at w
    exact fin H w.1 w.2
def dW (l : List Nat) : PyData := .str (S l)
def dWs (ls : List (List Nat)) : PyData := .list (ls.map dW)
theorem dp_all {K : PySem.W.Frag} {H : Hp} : ∀ ls : List (List Nat), DpAll K H (ls.map wV) (ls.map dW)
  | [] => .nil
  | l :: ls => .cons (.str _) (dp_all ls)
theorem dp_ws {K : PySem.W.Frag} {H : Hp} {a : Addr} {ls : List (List Nat)} (h : SqL K H a (ls.map wV)) : Dp K H (.ref a) (dWs ls) := .lst h (dp_all ls)
theorem can_w {l : List Nat} (h : ∀ c ∈ l, c ≤ 126) : PyData.canLay0 (dW l) = true := by
  show (S l).cps.all _ = true
  rw [Array.all_eq_true']
  intro x hx
  have : x ∈ l := by rw [← S_cps l]; exact Array.mem_toList_iff.mpr hx
  have := h x this
  simp; omega
theorem can_ws : ∀ {ls : List (List Nat)}, (∀ l ∈ ls, ∀ c ∈ l, c ≤ 126) → PyData.canLayAll0 (ls.map dW) = true
  | [], _ => rfl
  | l :: ls, h => by
    show (PyData.canLay0 (dW l) && PyData.canLayAll0 (ls.map dW)) = true
    rw [can_w (h l (List.mem_cons_self ..)), can_ws fun m hm => h m (List.mem_cons_of_mem _ hm)]; rfl
theorem dep_ws : ∀ ls : List (List Nat), PyData.depthAll (ls.map dW) = 0
  | [] => rfl
  | l :: ls => by
    show max 0 (PyData.depthAll (ls.map dW)) = 0
    rw [dep_ws ls]; rfl
end J
/-! small dicts; tests whose outcome is known; the law's state -/
namespace J
open PySem PySem.Spec PyProof.Rows L2 M
section
variable {σ : L2.St} {H : Hp} {Q : VK} {K : PySem.W.Frag} {D : Ends}
theorem r_dget {td ty : TE} (k : td σ H fun x H1 => ty σ H1 fun y H2 => ∃ a v, x = .ref a ∧ DGet H2 a y (some v) ∧ Q v H2) : tDGet td ty σ H Q := k
theorem r_cat {l m : Addr} {xs ys : List V} (h : H l = some (.lst xs)) (g : H m = some (.lst ys)) (hx : xs.length + ys.length ≤ 16777216) (k : ∀ p, H p = none → Q (.ref p) (upd H p (.lst (xs ++ ys)))) : J.rAdd K (.ref l) (.ref m) H Q := .inr (.inr (.inl ⟨l, m, xs, ys, rfl, rfl, h, g, hx, k⟩))
end
end J
/-! loops over lists; small repeated texts; lines that are cut to what was quoted -/
namespace J
open PySem PySem.Spec PyProof.Rows L2 M
theorem _root_.L2.Same.keep {b : Addr} {H0 H1 H2 : Hp} (s : Same H0 H1) (n : H0 b = none) (k : Keep b H1 H2) : Same H0 H2 := fun a o h => k a o (s a o h) (ne_of_none h n)
theorem _root_.L2.Same.none {H0 H1 : Hp} {b : Addr} (s : Same H0 H1) (n : H1 b = none) : H0 b = none := by
  cases q : H0 b with
  | none => rfl
  | some o => rw [s _ _ q] at n; cases n
section
variable {σ : L2.St} {H : Hp} {Q : VK} {K : PySem.W.Frag} {D : Ends}
theorem r_for {wi : TI} {g : TG} {tb : TS} (k : wi σ H fun J H1 => LoopQ J g tb D σ H1) : tFor wi g tb D σ H := k
theorem r_ilist {te : TE} {R : It → Hp → Prop} (k : te σ H fun x H1 => ∃ a, x = .ref a ∧ (∃ xs, SqL K H1 a xs) ∧ R (Itl K a) H1) : iList K te σ H R := k
theorem loop_seq {J : It} {g : TG} {tb : TS} {n' : L2.St → Hp → Prop} {rt : VK} {bk ct : L2.St → Hp → Prop} {xs : List V} {H0 : Hp} (SI : SeqIt J xs H0) (I : Nat → L2.St → Hp → Prop) (keep : ∀ i σ H, I i σ H → Same H0 H) (start : I 0 σ H)
    (turn : ∀ (i : Nat) (x : V) σ1 H1, xs[i]? = some x → I i σ1 H1 → g x σ1 H1 fun σ2 H2 => tb ⟨I (i + 1), rt, n', I (i + 1)⟩ σ2 H2)
    (fin : ∀ σ1 H1, I xs.length σ1 H1 → n' σ1 H1) : LoopQ J g tb ⟨n', rt, bk, ct⟩ σ H :=
  loop_of (D := ⟨n', rt, bk, ct⟩) xs.length I start (fun i σ H hi w => SI.go i H (keep i σ H w) hi) (fun σ H w => SI.stop H (keep _ σ H w)) (fun i σ1 H1 x H' hi w y => by
    obtain ⟨rfl, hx⟩ := SI.yld i H1 x H' (keep i σ1 H1 w) y
    exact turn i x σ1 H' hx w) fin
end
end J
namespace J
open PySem PySem.Spec PyProof.Rows L2 M
section
variable {σ : L2.St} {H : Hp} {Q : VK} {K : PySem.W.Frag} {D : Ends}
theorem r_slL {a : Addr} {xs : List V} {lo hi : Option Int} (h : SqL K H a xs) (k : ∀ p, H p = none → Q (.ref p) (upd H p (.lst (cutV xs lo hi)))) : rSl K (.ref a) lo hi H Q := .inl ⟨a, xs, rfl, h, k⟩
theorem r_listOf {p : Addr} {ys : List V} (h : SqL K H p ys ∨ SqT K H p ys) (k : ∀ l, H l = none → Q (.ref l) (upd H l (.lst ys))) : rListOf K [.ref p] H Q := ⟨p, ys, rfl, h, k⟩
theorem r_tupOf {p : Addr} {ys : List V} (h : SqL K H p ys) (k : ∀ l, H l = none → Q (.ref l) (upd H l (.tup ys))) : rTupOf K [.ref p] H Q := ⟨p, ys, rfl, .inl ⟨h, k⟩⟩
end
end J
namespace J
open PySem PySem.Spec PyProof.Rows L2 M
end J
/-! a try whose clauses have names; what none of them takes does not come -/
namespace J
open PySem PySem.Spec PyProof.Rows L2  -- own
/-- the ends of a suite that holds its exception in slot i -/
def unset (D : Ends) (i : Nat) : Ends := ⟨fun τ G => D.nx (τ.set i none) G, D.rt, fun τ G => D.bk (τ.set i none) G, fun τ G => D.ct (τ.set i none) G⟩
abbrev Clause := Value × Nat × (Addr → Value → Option Addr → TS)
def wN (K : PySem.W.Frag) (D : Ends) : List Clause → WX
  | [] => fun _ _ _ _ => False
  | (c, i, ts) :: r => fun cls d σ H => ∃ b, PySem.W.exmOne K cls c = some b ∧ (b = true → ∀ a, H a = none → ts a cls d (unset D i) (σ.set i (some (.ref a))) H) ∧ (b = false → wN K D r cls d σ H)
inductive HN (X : Cx) : List ExceptHandler → List Clause → Prop
  | any (rest : List ExceptHandler) : HN X rest []
  | cons {x n : Str} {c : Value} {i : Nat} {ts : Addr → Value → Option Addr → TS} {b₀ : Stmt} {bs : List Stmt} {p1 p2 : Pos} {hds : List ExceptHandler} {l : List Clause} (hi : X.N[i]? = some n) (hl : X.env.kindOf n = some .local) (hc : Names X x c)
      (su : ∀ (a : Addr) (o : Obj) (cls : Value) (d : Option Addr) (pn : List (Addr × Obj)), Zc cls d o → (∃ vs, o.data = .fields vs) → PSs (X.suite a ((a, o) :: pn)) (b₀ :: bs) (ts a cls d)) (r : HN X hds l) :
      HN X (.ExceptHandler (some (.Name x p1)) (some n) (b₀ :: bs) p2 :: hds) ((c, i, ts) :: l)
theorem ps_tryN {X : Cx} {body : List Stmt} {h₀ : ExceptHandler} {hds : List ExceptHandler} {l : List Clause} {pos : Pos} {tb : WX → TS} (hs : X.stack = X.env :: X.outer) (hf : X.env.frame = some X.env.locals) (hN : X.N.Nodup)
    (hb : ∀ (W : WX) (pn : List (Addr × Obj)) (xe : Value → Shared → Prop), Takes (X.tr pn xe) W → PassesOwn (model X.prog X.w) X.A X.env xe → PSs (X.tr pn xe) body (tb W)) (hh : HN X (h₀ :: hds) l) :
    PS X (.Try body (h₀ :: hds) [] [] pos) (fun D σ H => tb (wN X.K D l) D σ H) := by
  constructor
  intro pins s σ H D I q0
  have fs0 : X.A.frames = some (X.env :: X.outer) := I.ok.frames.trans (congrArg some hs)
  apply wpAny_Try_except
  let catch_ : Value → Shared → Prop := fun e t => wpAny (model X.prog X.w) X.A (noteFrame e X.env) (fun _ t2 => wpAny (model X.prog X.w) X.A (setFlight e none) (fun _ t3 => wpAny (model X.prog X.w) X.A (handleBy e X.env (h₀ :: hds)) (SP X pins D) X.xe t3) X.xe t2) X.xe t
  have caught : Takes (X.tr (X.pn ++ pins) catch_) (wN X.K D l) := by
    rintro u t ⟨e, B, sI, pins2, σ2, H2, cls, d, rfl, J2, nb, up, sky, ne, os, ag, w⟩
    have J := J2.ofTry I.ok
    refine Sky.land Zc.steady fs0 hf (hs ▸ sky : Sky B (X.env :: X.outer) e (Zc cls d) X.env.locals t.heap) fun h3 f3 up3 => ?_
    obtain ⟨o3, v3, e3, z3, d3⟩ := f3.there
    have away : e ∉ frs (X.env :: X.outer) := fun hm => by
      obtain ⟨_, o', g, nf⟩ := f3.2.2.1.mem hm
      cases e3.symm.trans g
      exact nf _ d3
    have away1 : e ≠ X.env.locals := fun z => away (List.mem_filterMap.mpr ⟨X.env, List.mem_cons_self, hf.trans (congrArg some z.symm)⟩)
    have away2 : e ∉ X.fs := fun hm => let ⟨g, g1, g2⟩ := List.mem_filterMap.mp hm; away (List.mem_filterMap.mpr ⟨g, List.mem_cons_of_mem _ g1, g2⟩)
    have J3 : Inv X pins σ2 H2 { t with heap := h3 } := J.landed nb f3.1 (up.trans up3) os ag
    have S3 := J3.suite e3 d3 ne away1 away2
    -- down the clauses
    suffices go : ∀ {hs' : List ExceptHandler} {l' : List Clause}, HN X hs' l' → wN X.K D l' cls d σ2 H2 → wpAny (model X.prog X.w) X.A (handleBy (.ref e) X.env hs') (SP X pins D) X.xe { t with heap := h3 } from go hh w
    intro hs' l' k
    induction k with
    | any rest => exact False.elim
    | @cons x n c i ts b₀ bs p1 p2 hds2 l2 hi hl hc su r ih =>
      rintro ⟨b, m, yes, no⟩
      refine wpAny_handleBy_cons (codeAny_handlers_test ?_) (fun z => nomatch z)
      have lk := PySem.W.exm_one (M := model X.prog X.w) J3.kIn (fun A Q E s' k' q' => wpAny_typeOf_ref (k' _ _ e3) (z3.1.symm ▸ q')) m
      have name : ∀ {Q E : Value → Shared → Prop}, Q c { t with heap := h3 } → wpAny (model X.prog X.w) (X.A.mark (some (.ref e))) (eval (.Name x p1) X.env) Q E { t with heap := h3 } := fun {Q E} q' => by
        obtain ⟨g1, g2, g3⟩ := hc
        rcases g3 with g3 | ⟨g3, g4, g5⟩
        · exact ld_glob (X := X.suite e ((e, o3) :: (X.pn ++ pins))) S3 g1 g3 q' g2
        · exact ld_blt (X := X.suite e ((e, o3) :: (X.pn ++ pins))) S3 g1 g3 g4 q' g5 g2
      refine name (lk.here ?_)
      cases b
      · exact ih (no rfl)
      · refine codeAny_handlers_suite_as (HandSPX.lands_againZ f3 fun h4 f4 up4 => ?_)
        obtain ⟨o4, v4, e4, z4, d4⟩ := f4.there
        have J4 : Inv X pins σ2 H2 { t with heap := h4 } := J.landed nb f4.1 ((up.trans up3).trans up4) os ag
        refine store_ok (X := X.suite e ((e, o4) :: (X.pn ++ pins))) (v := .ref e) (J4.suite e4 d4 ne away1 away2) hN hi (.inl hl) rfl (fun s5 S5 => ?_) (.inr hl)
        refine wpAny_mono ((su e o4 cls d (X.pn ++ pins) z4 ⟨_, d4⟩).run [] s5 _ H2 _ S5 (yes rfl e ne)) (fun f s6 r6 => ?_) (fun _ _ z => False.elim z)
        have last : ∀ {τ : L2.St} {G : Hp} {Q : Shared → Prop}, Inv (X.suite e ((e, o4) :: (X.pn ++ pins))) [] τ G s6 → (∀ s7, Inv X pins (τ.set i none) G s7 → Q s7) → wpAny (model X.prog X.w) X.A (do bindName X.env n .none; unbindBehindTheSuite X.env n p2) (fun _ s7 => Q s7) X.xe s6 := fun {τ G Q} S6 hq => gone_ok (Q := fun _ s7 => Q s7) (S6.unsuite I.ok) hN hi hl hq
        cases f with
        | ret u => exact let ⟨_, _, _, S6, rv, q6⟩ := r6; last S6 fun s7 J7 => ⟨_, _, _, J7, rv, q6⟩
        | next => exact let ⟨_, _, S6, q6⟩ := r6; last S6 fun s7 J7 => ⟨_, _, J7, q6⟩
        | brk => exact let ⟨_, _, S6, q6⟩ := r6; last S6 fun s7 J7 => ⟨_, _, J7, q6⟩
        | cont => exact let ⟨_, _, S6, q6⟩ := r6; last S6 fun s7 J7 => ⟨_, _, J7, q6⟩
  refine wpAny_mono ((hb (wN X.K D l) (X.pn ++ pins) catch_ caught PassesOwn.looking).run [] s σ H D (I.toTry _) q0) (fun f s1 r1 => ?_) (fun _ _ z => z)
  cases f with
  | ret u => exact let ⟨_, _, _, J1, rv, q1⟩ := r1; ⟨_, _, _, J1.ofTry I.ok, rv, q1⟩
  | next => exact let ⟨_, _, J1, q1⟩ := r1; wpAny_execs_nil ⟨_, _, J1.ofTry I.ok, q1⟩
  | brk => exact let ⟨_, _, J1, q1⟩ := r1; ⟨_, _, J1.ofTry I.ok, q1⟩
  | cont => exact let ⟨_, _, J1, q1⟩ := r1; ⟨_, _, J1.ofTry I.ok, q1⟩
end J
/-! replace within a chain of and: the len ahead of it gives out a token -/
namespace J
open PySem PySem.Spec PyProof.Rows L2 CwR
end J
/-! own errors with one field; lines with line feeds, cut or refused -/
namespace J
open PySem PySem.Spec PyProof.Rows L2 M
/-- raise C(x) -/
def tRz (C : Addr) (sp : Sp) (ta : TA) (W : WX) : TS := fun _ σ H => tMkO C sp [] ta σ H fun cls d H' => W cls d σ H'
theorem ps_rz {X : Cx} {W : WX} {e : Expr} {C : Addr} {sp : Sp} {ta : TA} {pos : Pos} (hc : X.calm = true) (tk : Takes X W) (he : PMk X e (tMkO C sp [] ta)) : PS X (.Raise (some e) none pos) (tRz C sp ta W) := ps_raise hc tk he
/-- an __init__ that keeps its one argument as f -/
def spInit (K : PySem.W.Frag) (f : Str) : Sp := fun vs H Q _ => ∃ (a C : Addr) (v : V), vs = [.ref a, v] ∧ OexC K C ∧ PySem.W.findIn K (.ref C) f = some none ∧ H a = some (exo a C none) ∧ ∀ dx, H dx = none → dx ≠ a → Q .non (upd (upd H dx (exd dx [(f, v)])) a (exo a C (some dx)))
/-- an error of the class at C, its field f being v, may be raised from H -/
def Err (C : Addr) (f : Str) (v : V) (H : Hp) (E : XK) : Prop := ∀ (d : Addr) (H' : Hp), H d = none → Same H H' → H' d = some (.xd [(f, v)]) → E (.ref C) (some d) H'
theorem Err.at {C : Addr} {f : Str} {v : V} {H H1 : Hp} {E : XK} (e : Err C f v H E) (s : Same H H1) : Err C f v H1 E := fun d H' n t h => e d H' (by
  cases q : H d with
  | none => rfl
  | some o => rw [s _ _ q] at n; cases n) (s.trans t) h
def RzQ (C : Addr) (sp : Sp) (W : WX) (σ : L2.St) (vs : List V) (H1 : Hp) : Prop := vs.length ≤ 1000 ∧ ∀ a, H1 a = none → sp (.ref a :: (vs ++ [])) (upd H1 a (exo a C none))
  (fun v H2 => v = .non ∧ ∃ (d : Addr) (fs : List (Str × V)), H2 a = some (exo a C (some d)) ∧ H2 d = some (exd d fs) ∧ H1 d = none ∧ W (.ref C) (some d) σ (upd (del H2 a) d (.xd fs))) (fun _ _ _ => False)
theorem r_rz {σ : L2.St} {H : Hp} {D : Ends} {C : Addr} {sp : Sp} {W : WX} {ta : TA} (k : ta σ H fun vs H1 => RzQ C sp W σ vs H1) : tRz C sp ta W D σ H := k
theorem rz_one {K : PySem.W.Frag} {σ : L2.St} {H1 : Hp} {C : Addr} {f : Str} {W : WX} {v : V} (T : OexC K C) (hf : PySem.W.findIn K (.ref C) f = some none) (er : Err C f v H1 (fun cls d H' => W cls d σ H')) : RzQ C (spInit K f) W σ [v] H1 := by
  refine ⟨show 1 ≤ 1000 by decide, fun a ha => ⟨a, C, v, rfl, T, hf, upd_same, fun dx hd ne => ⟨rfl, dx, [(f, v)], upd_same, by rw [upd_ne ne, upd_same], ?_, ?_⟩⟩⟩
  · rwa [upd_ne ne] at hd
  · rw [upd_ne ne] at hd
    refine er dx _ hd (fun b o hb => ?_) upd_same
    have b1 := ne_of_none hb hd
    have b2 := ne_of_none hb ha
    rw [upd_ne b1, del_ne b2, upd_ne b2, upd_ne b1, upd_ne b2]
    exact hb
theorem asOst {X : Cx} {K : PySem.W.Frag} {st : Stmt} {f : Str} {to te : TE} (eK : X.K = K) (h : PS X st (tOst X.K f to te)) : PS X st (tOst K f to te) := eK ▸ h
theorem r_ost {K : PySem.W.Frag} {σ : L2.St} {H : Hp} {f : Str} {to te : TE} {n : L2.St → Hp → Prop} {rt : VK} {bk ct : L2.St → Hp → Prop} (k : te σ H fun y H1 => to σ H1 fun x H2 => ∃ a C : Addr, x = .ref a ∧ OexC K C ∧ PySem.W.findIn K (.ref C) f = some none ∧
  ((H2 a = some (exo a C none) ∧ ∀ dx, H2 dx = none → dx ≠ a → n σ (upd (upd H2 dx (exd dx [(f, y)])) a (exo a C (some dx)))) ∨
    ∃ (dx : Addr) (fs : List (Str × V)), H2 a = some (exo a C (some dx)) ∧ H2 dx = some (exd dx fs) ∧ fs.length ≤ 900 ∧ n σ (upd H2 dx (exd dx ((f, y) :: fs))))) : tOst K f to te ⟨n, rt, bk, ct⟩ σ H := k
theorem r_callS {σ : L2.St} {H : Hp} {Q : VK} {sp : Sp} {E : L2.St → XK} {t : TA} (k : t σ H fun vs H1 => sp vs H1 Q (E σ)) : tCallS sp E t σ H Q := k
/-! ### lines with line feeds -/
/-- signs and line feeds, at most 2,000 -/
def Lf (l : List Nat) : Prop := l.length ≤ 2000 ∧ ∀ c ∈ l, c = 10 ∨ 32 ≤ c ∧ c ≤ 126
/-- the words, or the first sign that is wrong -/
def cutR (st : Sc → Nat → Nat → Except Nat Sc) (l : List Nat) : Except Nat (List (List Nat)) := match M.scan st 0 sc0 l with
  | .error e => .error e
  | .ok t => if t.tk = true then .error (l.length - 1) else if t.qt ≠ 0 then .error t.op else .ok (fin t)
end J
namespace J
open PySem PySem.Spec PyProof.Rows L2 M
/-- what the written part says of an own error x with one field f -/
structure OE (P : Program) (w : World) (K : PySem.W.Frag) (mg : Str → Option Value) (base : Heap) (x f : Str) (C : Addr) : Prop where
  T : OexC K C
  nf : PySem.W.findIn K (.ref C) f = some none
  gl : mg x = some (.ref C)
  ini : ∃ (fI : Addr) (fdI : FuncData), PySem.W.findIn K (.ref C) "__init__" = some (some (.ref fI)) ∧ PySem.W.typeIn K (.ref fI) = some (.type "function") ∧ FnOk P w K mg base CX0 1 fI fdI ["self", f] (spInit K f) ∧ Binds K fdI ["self", f] []
theorem ps_rzK {X : Cx} {K : PySem.W.Frag} {W : WX} {e : Expr} {C : Addr} {x f : Str} {ta : TA} {p pos pos2 : Pos} (eK : X.K = K) (hc : X.calm = true) (tk : Takes X W) (O : OE X.prog X.w X.K X.mg X.base x f C) (hr : Room 2 X.A) (hg : Gl X x) (ha : PA X [e] ta)
    (hdb : (x == ("__debug__" : Str)) = false := by decide) (he : starEach (e :: []) X.env = (false, eval e X.env) :: starEach [] X.env := by rfl) (hpl : (backTo pos (starEach [] X.env)).any (·.1) = false := by rfl) :
    PS X (.Raise (some (.Call (.Name x p) [e] [] pos)) none pos2) (tRz C (spInit K f) ta W) := by
  subst eK
  obtain ⟨fI, fdI, i1, i2, i3, i4⟩ := O.ini
  exact ps_rz hc tk (pmk_oex O.T i1 i2 i3 hr i4 .nil pass0 hg O.gl ha hdb he hpl)
end J
/-! data that stays; lists of words compared; doors of the lines -/
namespace J
open PySem PySem.Spec PyProof.Rows L2 M
mutual
theorem dp_mono {K : PySem.W.Frag} {H H' : Hp} (s : Same H H') : ∀ {v : V} {d : PyData}, Dp K H v d → Dp K H' v d
  | _, _, .non => .non
  | _, _, .bl b => .bl b
  | _, _, .int i => .int i
  | _, _, .str x => .str x
  | _, _, .lst h a => .lst (s.seqL h) (dpa_mono s a)
  | _, _, .tup h a => .tup (s.seqT h) (dpa_mono s a)
theorem dpa_mono {K : PySem.W.Frag} {H H' : Hp} (s : Same H H') : ∀ {vs : List V} {ds : List PyData}, DpAll K H vs ds → DpAll K H' vs ds
  | _, _, .nil => .nil
  | _, _, .cons h r => .cons (dp_mono s h) (dpa_mono s r)
end
end J
namespace J
open PySem PySem.Spec PyProof.Rows L2 M
/-- neither a list nor a tuple -/
def NoSeq (H : Hp) (x : V) : Prop := x = .non ∨ (∃ y, x = .str y) ∨ ∃ a kvs, x = .ref a ∧ H a = some (.dK kvs)
theorem NoSeq.mono {H H' : Hp} {x : V} (s : Same H H') (h : NoSeq H x) : NoSeq H' x := by
  rcases h with h | h | ⟨a, kvs, e, h⟩
  · exact .inl h
  · exact .inr (.inl h)
  · exact .inr (.inr ⟨a, kvs, e, s _ _ h⟩)
end J
/-! lines written part by part in drawn ways -/
namespace M
/-- the signs of l, some with a stroke ahead, all of need -/
inductive Strk (need : List Nat) : List Nat → List Nat → Prop
  | nil : Strk need [] []
  | bare {c : Nat} {l o : List Nat} (h : c ∉ need) (r : Strk need l o) : Strk need (c :: l) (c :: o)
  | str {c : Nat} {l o : List Nat} (r : Strk need l o) : Strk need (c :: l) (92 :: c :: o)
theorem Strk.len {need : List Nat} : ∀ {l o : List Nat}, Strk need l o → o.length ≤ 2 * l.length
  | _, _, .nil => Nat.le_refl _
  | _, _, .bare h r => by have := r.len; simp only [List.length_cons]; omega
  | _, _, .str r => by have := r.len; simp only [List.length_cons]; omega
theorem Strk.mem {need : List Nat} : ∀ {l o : List Nat}, Strk need l o → ∀ c ∈ o, c = 92 ∨ c ∈ l
  | _, _, .nil, c, h => (List.not_mem_nil h).elim
  | _, _, .bare _ r, c, h => by
    rcases List.mem_cons.mp h with q | q  -- own
    · exact .inr (by rw [q]; exact List.mem_cons_self ..)
    · exact (r.mem c q).imp id (List.mem_cons_of_mem _)
  | _, _, .str r, c, h => by
    rcases List.mem_cons.mp h with q | q  -- own
    · exact .inl q
    rcases List.mem_cons.mp q with q | q
    · exact .inr (by rw [q]; exact List.mem_cons_self ..)
    · exact (r.mem c q).imp id (List.mem_cons_of_mem _)
/-- one part of a word, in one of three ways -/
inductive Pc : List Nat → List Nat → Prop
  | sq {p : List Nat} (h : 39 ∉ p) : Pc p (39 :: p ++ [39])
  | dq {p o : List Nat} (h : Strk N2 p o) : Pc p (34 :: o ++ [34])
  | ba {p o : List Nat} (h : Strk N1 p o) : Pc p o
theorem Pc.len {p q : List Nat} (h : Pc p q) : q.length ≤ 2 * p.length + 2 := by
  cases h with
  | sq _ => simp only [List.length_append, List.length_cons, List.length_nil]; omega
  | dq r => have := r.len; simp only [List.length_append, List.length_cons, List.length_nil]; omega
  | ba r => have := r.len; omega
theorem Pc.mem {p q : List Nat} (h : Pc p q) (hp : ∀ c ∈ p, 32 ≤ c ∧ c ≤ 126) : ∀ c ∈ q, 32 ≤ c ∧ c ≤ 126 := by
  have k : ∀ {need o}, Strk need p o → ∀ c ∈ o, 32 ≤ c ∧ c ≤ 126 := fun r c hc => by
    rcases r.mem c hc with q | q
    · omega
    · exact hp c q
  intro c hc
  cases h with
  | sq _ =>
    rcases List.mem_append.mp hc with q | q
    · rcases List.mem_cons.mp q with q | q  -- own
      · omega
      · exact hp c q
    · have := List.mem_singleton.mp q; omega
  | dq r =>
    rcases List.mem_append.mp hc with q | q
    · rcases List.mem_cons.mp q with q | q  -- own
      · omega
      · exact k r c q
    · have := List.mem_singleton.mp q; omega
  | ba r => exact k r c hc
/-- parts, one behind the other -/
inductive Wrt : List Nat → List Nat → Prop
  | nil : Wrt [] []
  | snoc {l o p q : List Nat} (h : Wrt l o) (n : p ≠ []) (k : Pc p q) : Wrt (l ++ p) (o ++ q)
theorem Wrt.len : ∀ {l o : List Nat}, Wrt l o → o.length ≤ 4 * l.length
  | _, _, .nil => Nat.le_refl _
  | _, _, .snoc (p := p) h n k => by
    have := h.len
    have := k.len
    have : 0 < p.length := List.length_pos_iff.mpr n
    simp only [List.length_append]; omega
theorem Wrt.mem : ∀ {l o : List Nat}, Wrt l o → (∀ c ∈ l, 32 ≤ c ∧ c ≤ 126) → ∀ c ∈ o, 32 ≤ c ∧ c ≤ 126
  | _, _, .nil, _, c, h => (List.not_mem_nil h).elim
  | _, _, .snoc h n k, hp, c, hc => by
    rcases List.mem_append.mp hc with q | q
    · exact h.mem (fun d hd => hp d (List.mem_append_left _ hd)) c q
    · exact k.mem (fun d hd => hp d (List.mem_append_right _ hd)) c q
/-- a word as it is written -/
def WrO (l o : List Nat) : Prop := (l = [] ∧ o ∈ [[39, 39], [34, 34], [39, 39, 34, 34], [34, 34, 34, 34]]) ∨ (l ≠ [] ∧ Wrt l o)
theorem WrO.len {l o : List Nat} (h : WrO l o) (hl : l.length ≤ 40) : o.length ≤ 160 := by
  rcases h with ⟨_, h⟩ | ⟨_, h⟩
  · simp only [List.mem_cons, List.not_mem_nil, or_false] at h
    rcases h with h | h | h | h <;> subst h <;> decide
  · have := h.len; omega
theorem WrO.mem {l o : List Nat} (h : WrO l o) (hp : ∀ c ∈ l, 32 ≤ c ∧ c ≤ 126) : ∀ c ∈ o, 32 ≤ c ∧ c ≤ 126 := by
  rcases h with ⟨_, h⟩ | ⟨_, h⟩
  · simp only [List.mem_cons, List.not_mem_nil, or_false] at h
    rcases h with h | h | h | h <;> subst h <;> decide
  · exact h.mem hp
/-- a gap -/
def Gp (g : List Nat) : Prop := ∀ c ∈ g, c = 32 ∨ c = 10
theorem scan_gap : ∀ (g : List Nat), Gp g → ∀ (i : Nat) (ws : List (List Nat)) (b : Option (List Nat)) (op : Nat), scan stP i ⟨ws, b, 0, op, false⟩ g = .ok (if g = [] then ⟨ws, b, 0, op, false⟩ else ⟨ws ++ b.toList, none, 0, op, false⟩)
  | [], _, i, ws, b, op => by simp [scan]
  | c :: g, h, i, ws, b, op => by
    have hc := h c (List.mem_cons_self ..)  -- own
    have e1 : stP ⟨ws, b, 0, op, false⟩ i c = .ok ⟨ws ++ b.toList, none, 0, op, false⟩ := by
      rcases hc with q | q <;> subst q <;> cases b <;> simp [stP]
    have ih := scan_gap g (fun d hd => h d (List.mem_cons_of_mem _ hd)) (i + 1) (ws ++ b.toList) none op
    simp only [scan, e1]
    rw [ih]
    by_cases q : g = [] <;> simp [q]
end M
namespace M
/-- so far: these words, the last one begun, nothing open -/
def SoFar (ls : List (List Nat)) (f : List Nat) : Prop := ∃ o, scan stP 0 sc0 f = .ok ⟨ls.dropLast, ls.getLast?, 0, o, false⟩
theorem last_split : ∀ ls : List (List Nat), ls.dropLast ++ ls.getLast?.toList = ls
  | [] => rfl
  | [x] => rfl
  | x :: y :: r => by rw [List.dropLast_cons₂, List.getLast?_cons_cons, List.cons_append, last_split (y :: r)]
/-- the line's end: it is cut to the words -/
theorem SoFar.done {ls : List (List Nat)} {f g : List Nat} (h : SoFar ls f) (hg : Gp g) : ∃ t, scan stP 0 sc0 (f ++ g) = .ok t ∧ t.tk = false ∧ t.qt = 0 ∧ t.ws ++ t.bg.toList = ls := by
  obtain ⟨o, e⟩ := h
  rw [scan_app, e]
  simp only
  rw [scan_gap g hg]
  by_cases q : g = []
  · rw [if_pos q]; exact ⟨_, rfl, rfl, rfl, last_split ls⟩
  · rw [if_neg q]; exact ⟨_, rfl, rfl, rfl, by rw [last_split]; simp⟩
end M
/-! the law's drawn lines -/
namespace J
open PySem PySem.Spec PyProof.Rows L2 M
/-- a line of these words -/
def LineOf (ls : List (List Nat)) (f : List Nat) : Prop := f.length ≤ 4 + 170 * ls.length ∧ (∀ c ∈ f, c = 10 ∨ 32 ≤ c ∧ c ≤ 126) ∧ ∃ t, M.scan stP 0 sc0 f = .ok t ∧ t.tk = false ∧ t.qt = 0 ∧ fin t = ls
end J
namespace J
open PySem PySem.Spec PyProof.Rows L2 M
section
variable {σ : L2.St} {H : Hp} {Q : VK} {K : PySem.W.Frag} {D : Ends}
theorem r_slS {z : Str} {lo hi : Option Int} (h : z.length ≤ 16777216) (k : Q (.str (cutS z lo hi)) H) : rSl K (.str z) lo hi H Q := .inr ⟨z, rfl, h, k⟩
theorem r_while {c : TT} {tb : TS} {n : L2.St → Hp → Prop} {rt : VK} {bk ct : L2.St → Hp → Prop} (I : Nat → L2.St → Hp → Prop) (m0 : Nat) (start : I m0 σ H)
    (turn : ∀ m σ1 H1, I m σ1 H1 → c σ1 H1 fun b H2 => if b = true then (∃ N : L2.St → Hp → Prop, (∀ σ' H', N σ' H' → ∃ m', m' < m ∧ I m' σ' H') ∧ tb ⟨N, rt, n, N⟩ σ1 H2) else n σ1 H2) : tWhile c tb ⟨n, rt, bk, ct⟩ σ H := ⟨I, ⟨m0, start⟩, turn⟩
theorem cutS_take (z : Str) (k : Nat) : cutS z none (some (k : Int)) = S ((cd z).take k) := by
  rw [str_eq, cd_S]
  unfold cutS
  rw [HT.sIx_nat, HT.sIx_none]
  show ((cd z).drop 0).take (min k z.length - 0) = _
  rw [List.drop_zero, Nat.sub_zero, len_cd, ← List.take_take, List.take_length]
theorem cutS_drop (z : Str) (k : Nat) : cutS z (some (k : Int)) none = S ((cd z).drop k) := by
  rw [str_eq, cd_S]
  unfold cutS
  rw [HT.sIx_nat, HT.sIx_none]
  show ((cd z).drop (min k z.length)).take (z.length - min k z.length) = _
  rw [len_cd]
  by_cases h : k ≤ (cd z).length
  · rw [Nat.min_eq_left h]
    exact List.take_of_length_le (by rw [List.length_drop]; omega)  -- own
  · rw [Nat.min_eq_right (by omega), List.drop_eq_nil_of_le (show (cd z).length ≤ (cd z).length from Nat.le_refl _), List.drop_eq_nil_of_le (by omega)]
    simp
end
end J
namespace J
open PySem PySem.Spec PyProof.Rows L2 M
/-- for i, x in enumerate(list): an invariant over the number walked -/
theorem r_forEnumL {K : PySem.W.Frag} {σ : L2.St} {H : Hp} {i : Nat} {a : Addr} {xs : List V} {g : TG} {tb : TS} {n : L2.St → Hp → Prop} {rt : VK} {bk ct : L2.St → Hp → Prop} (hv : σ[i]? = some (some (.ref a))) (I : Nat → L2.St → Hp → Prop) (list : ∀ j σ1 H1, I j σ1 H1 → SqL K H1 a xs) (start : I 0 σ H)
    (turn : ∀ (j : Nat) σ1 H1 (T : Addr) (x : V), xs[j]? = some x → I j σ1 H1 → H1 T = none → g (.ref T) σ1 (upd H1 T (.tup [.int (j : Nat), x])) fun σ2 H2 => tb ⟨I (j + 1), rt, n, I (j + 1)⟩ σ2 H2)
    (fin : ∀ σ1 H1, I xs.length σ1 H1 → n σ1 H1) : tFor (iEnum K (tCons (tVar i) tNil)) g tb ⟨n, rt, bk, ct⟩ σ H := by
  refine ⟨.ref a, hv, a, xs, rfl, list _ _ _ start, ?_⟩
  exact loop_of (D := ⟨n, rt, bk, ct⟩) xs.length I start (fun j σ1 H1 hj w => ⟨xs, _, list _ _ _ w, List.getElem?_eq_getElem hj⟩) (fun σ1 H1 w => ⟨xs, list _ _ _ w, Nat.le_refl _⟩) (fun j σ1 H1 x H' hj w y => by
    obtain ⟨T, c, rfl, hT, rfl, hc⟩ := y
    exact turn j σ1 H1 T c (hc xs (list _ _ _ w)) w hT) fin
theorem asEnum {X : Cx} {K : PySem.W.Frag} {tg e : Expr} {ta : TA} (eK : X.K = K) (h : PI X tg e (iEnum X.K ta)) : PI X tg e (iEnum K ta) := eK ▸ h
end J
namespace J
open PySem PySem.Spec PyProof.Rows L2 M
theorem r_lcRG {σ : L2.St} {H : Hp} {Q : VK} {ta : TA} {te' : TE} {g : TG} {tt : TT} {vs : List Nat} (k : ta σ H fun ws H1 => ∃ j : Int, ws = [.int j] ∧ -(2 ^ 62) ≤ j ∧ j < 2 ^ 62 ∧ ∀ E, H1 E = none → CompQ (Itr 0 j.toNat) g tt te' vs σ H1 E fun H => Q (.ref E) H) : tLc (iRng1 ta) g tt te' vs σ H Q := k
end J
namespace J
open PySem PySem.Spec PyProof.Rows L2 M
end J
/-! what the doors tell -/
namespace J
open PySem PySem.Spec PyProof.Rows L2 M
def Few (l : List Nat) : Prop := ∀ ws, cutR stP l = .ok ws → ws.length ≤ 40
theorem r_xf {a C dd : Addr} {cls : Value} {d : Option Addr} {f : Str} {i : Nat} {v : V} {σ : L2.St} {H : Hp} {Q : VK} (hv : σ[i]? = some (some (.ref a))) (hc : cls = .ref C) (hd : d = some dd) (h : H dd = some (.xd [(f, v)])) (k : Q v H) : tXf a cls d C f (tVar i) σ H Q :=
  ⟨_, hv, rfl, hc, dd, _, v, hd, h, by simp [List.lookup], k⟩
end J
/-! a text the other way about -/
namespace J
open PySem PySem.Spec PyProof.Rows L2 M
def tRevS (te : TE) : TE := fun σ H Q => te σ H fun x H1 => ∃ z : Str, x = .str z ∧ z.length ≤ sizeLine ∧ Q (.str (S (cd z).reverse)) H1
end J
namespace J
open PySem PySem.Spec PyProof.Rows L2 M
theorem r_rev {te : TE} {σ : L2.St} {H : Hp} {Q : VK} (k : te σ H fun x H1 => ∃ z : Str, x = .str z ∧ z.length ≤ sizeLine ∧ Q (.str (S (cd z).reverse)) H1) : tRevS te σ H Q := k
end J
/-! what is told compared; dicts of pairs; lists of pairs -/
namespace J
open PySem PySem.Spec PyProof.Rows L2 M
def rDictP (K : PySem.W.Frag) : List V → Hp → VK → Prop := fun xs H Q => ∃ (a : Addr) (ps : List Addr) (kvs : List (Key × V)), xs = [.ref a] ∧ SqL K H a (ps.map V.ref) ∧ Paired (fun p kv => SqT K H p [kV kv.1, kv.2]) ps kvs ∧ ∀ p, H p = none → Q (.ref p) (upd H p (.dK (mergeK [] kvs)))
theorem call_dictA {X : Cx} (hc : X.calm = true) : CallR X (.type "dict") (rDictP X.K) := L2.call_dictP hc
end J
/-! the doors asked of lines that can be cut, or can't -/
namespace J
open PySem PySem.Spec PyProof.Rows L2 M
/-- a line that is cut to these words -/
def Cu (ws : List (List Nat)) (f : List Nat) : Prop := Lf f ∧ cutR stP f = .ok ws ∧ ws.length ≤ 40
theorem Cu.of {ls : List (List Nat)} {f : List Nat} (h : LineOf ls f) (hl : ls.length ≤ 10) : Cu ls f := by
  obtain ⟨h1, h2, t, h3, h4, h5, h6⟩ := h
  refine ⟨⟨by omega, h2⟩, ?_, by omega⟩
  unfold cutR
  rw [h3]
  simp only [h4, h5, h6]
  rfl
theorem Cu.few {ws : List (List Nat)} {f : List Nat} (h : Cu ws f) : Few f := fun us e => by
  rw [h.2.1] at e; cases e; exact h.2.2
/-- a line that can't be cut: its first wrong sign -/
def Bd (e : Nat) (f : List Nat) : Prop := Lf f ∧ cutR stP f = .error e
theorem Bd.few {e : Nat} {f : List Nat} (h : Bd e f) : Few f := fun us q => by rw [h.2] at q; cases q
/-- what is no list of these words, and can be asked about -/
def Odd (K : PySem.W.Frag) (ws : List (List Nat)) (H : Hp) (x : V) : Prop := NoSeq H x ∨ ∃ (a : Addr) (xs : List V) (ds : List PyData), x = .ref a ∧ (H a = some (.lst xs) ∨ H a = some (.tup xs)) ∧ DpAll K H xs ds ∧ SeqAt.shaped (.list ds) = true ∧ PyData.eqv (.list ds) (dWs ws) = false
theorem Odd.mono {K : PySem.W.Frag} {ws : List (List Nat)} {H H' : Hp} {x : V} (s : Same H H') (h : Odd K ws H x) : Odd K ws H' x := by
  rcases h with h | ⟨a, xs, ds, e, h1, h2, h3⟩
  · exact .inl (h.mono s)
  · exact .inr ⟨a, xs, ds, e, h1.imp (s _ _) (s _ _), dpa_mono s h2, h3⟩
end J
/-! things that are no list of the words -/
namespace J
open PySem PySem.Spec PyProof.Rows L2 M
end J
namespace J
open PySem PySem.Spec PyProof.Rows L2  -- own
end J
/-! promises of defs that are called where no repr is running: so their bodies may ask for the repr of lists -/
namespace J
open PySem PySem.Spec PyProof.Rows L2  -- own
/-- as FnOk, of calls with no repr around -/
structure FnG (P : Program) (w : World) (K : PySem.W.Frag) (mg : Str → Option Value) (base : Heap) (CX : CXT) (k : Nat) (f : Addr) (fd : FuncData) (ps : List Str) (sp : Sp) : Prop where
  long : ∀ vs H Q E, sp vs H Q E → vs.length = ps.length
  goes : ∀ (A : Around), A.guards = some [] → Room k A → ∀ (outer : List Env) (s : Shared) (H : Hp), Env0 P w K mg base A outer s H → ∀ (args : Args) (us : List Value) (vs : List V) (Q : VK) (E : XK),
    BindsTo s fd args (ps.zip us) → Vals vs us → sp vs H Q E → codeAny (model P w) A (.call (.ref f) args) (CR CX outer P w H s Q E) s
theorem FnG.of {P : Program} {w : World} {K : PySem.W.Frag} {mg : Str → Option Value} {base : Heap} {CX : CXT} {k : Nat} {f : Addr} {fd : FuncData} {ps : List Str} {sp : Sp} (F : FnOk P w K mg base CX k f fd ps sp) : FnG P w K mg base CX k f fd ps sp :=
  ⟨F.len, fun A _ hr outer s H e0 args us vs Q E b r h => F.run A outer s H args us vs Q E hr e0 b r h⟩
section
variable {P : Program} {w : World} {K : PySem.W.Frag} {mg : Str → Option Value} {base : Heap}  -- own
/-- a def's promise from its body's, where no repr is running -/
theorem fun_g {x qual : Str} {st : Stmt} {f : Addr} {fd : FuncData} {N ps : List Str} {k : Nat} {sp : Sp} (F : Fun K x qual st f fd) (S : FnScope N ps (defScope st)) (long : ∀ vs H Q E, sp vs H Q E → vs.length = ps.length)
    (body : ∀ (cdv : Value) (A : Around) (outer : List Env) (s : Shared) (H : Hp) (vs : List V) (Q : VK) (E : XK), A.guards = some [] → Room k (A.deeper (envOfC qual (defScope st) s.heap.objs.size f cdv)) → sp vs H Q E →
      ∃ t, PSs (cxOf CX0 P w K mg base N qual (defScope st) f cdv A outer s H E).nox (defBody st) t ∧ t { nx := fun _ H' => Q .non H', rt := Q } (start N vs) H) : FnG P w K mg base CX0 (k + 1) f fd ps sp := by
  obtain ⟨oc, od, kV, doc, pm, an, cdv, ct, osl, e, lk, hcd⟩ := F.ex
  subst e
  refine ⟨long, fun A hg hr outer s H e0 args us vs Q E b r h => ?_⟩
  have hl : vs.length = ps.length := long _ _ _ _ h
  have stay := fun (a : Addr) (o : Obj) (q : base.get? a = some o) => (e0.bs a o q).1
  have kin : K.In s.heap := e0.mod.kin.keeps stay
  have free := e0.mod.nolimit.keeps stay
  refine codeAny_call_function hr.depth (kin _ _ lk) rfl S.co S.gen rfl (PySem.W.codeRec_of kin hcd) (b _ _ _ _ ?_)
  have known : ∀ y ∈ ps.zip us, (defScope st).names.lookup y.1 = some .local ∨ ((defScope st).names.lookup y.1 = some .cell ∧ ((cellsFrom (s.heap.objs.size + 1) (defScope st).names []).lookup y.1).isSome = true) := by
    rintro ⟨n, v⟩ hy
    exact (S.par n (List.of_mem_zip hy).1).imp id fun q => ⟨q, PySem.W.cellsFrom_some _ _ _ (.inl q)⟩
  refine wpAny_newFunctionEnv_cells S.kind known fun env he s1 xx => ?_
  subst he
  refine ⟨free.keeps xx.toInCall.keep, codeAny_func ?_⟩
  obtain ⟨t, pt, q⟩ := body cdv A outer s H vs Q E hg (hr.deeper _) h
  have I1 : Inv (cxOf CX0 P w K mg base N qual (defScope st) f cdv A outer s H E) [] (start N vs) H s1 := inv_start S hr.hd e0 hl r xx
  refine wpAny_mono (pt.nox.run [] s1 (start N vs) H _ I1 q) (fun fl s2 hs => ?_) fun _ _ z => z
  cases fl with
  | brk => exact hs.elim fun _ z => z.elim fun _ z => z.2.elim
  | cont => exact hs.elim fun _ z => z.elim fun _ z => z.2.elim
  | next => obtain ⟨_, H2, J2, q2⟩ := hs; exact ⟨.non, H2, J2.os, J2.bare, J2.base, J2.hok, rfl, q2⟩
  | ret u => obtain ⟨v, _, H2, J2, rv, q2⟩ := hs; exact ⟨v, H2, J2.os, J2.bare, J2.base, J2.hok, rv, q2⟩
end
section
variable {X : Cx} {CX : CXT} {k : Nat} {f : Addr} {fd : FuncData} {ps : List Str} {sp : Sp} {dvs : List V} {ds : List Value} {E : XK} {x : Str} {p pos : Pos} {e : Expr} {es : List Expr} {t : TA}
/-- f(..) of such a def, from a body of the same sort -/
theorem pe_callG (F : FnG X.prog X.w X.K X.mg X.base CX k f fd ps sp) (hG : X.A.guards = some []) (hr : Room k X.A) (hg : Gl X x) (hm : X.mg x = some (.ref f)) (hk : PySem.W.keepIn X.K (.ref f) = true) (hb : Binds X.K fd ps ds) (hd : Vals dvs ds) (hx : Passes CX X E)
    (ha : PA X (e :: es) t) (hdb : (x == ("__debug__" : Str)) = false := by decide) (he : starEach (e :: es) X.env = (false, eval e X.env) :: starEach es X.env := by rfl) (hpl : (backTo pos (starEach es X.env)).any (·.1) = false := by rfl) :  -- own
    PE X (.Call (.Name x p) (e :: es) [] pos) (tCall sp dvs E t) := ⟨fun pins s σ H Q I h => by
  refine wpAny_Call_Name_kw (ld_glob I hg hm ?_ hdb)  -- own
  refine PySem.W.callWith_K (h₀ := X.base) I.ok.mod.kin hk (thn (ha.run pos pins s σ H _ I h) fun us s1 z => ?_) he hpl
  obtain ⟨vs, H1, I1, r, q⟩ := z
  have r2 := r.append hd
  have n2 : (us ++ ds).length = ps.length := r2.length ▸ F.long _ _ _ _ q
  refine ⟨I1.kIn, wpAny_call (codeAny_mono (F.goes X.A hG hr X.stack s1 H1 I1.env0 ⟨us, []⟩ (us ++ ds) (vs ++ dvs) Q E (hb s1 us I1.kIn n2) r2 q) fun r s2 hq => ?_)⟩
  cases r with
  | error e => exact hx pins σ H1 s1 e s2 I1 hq
  | ok fl => cases fl with
    | ret u => exact I1.after hq
    | _ => exact hq.elim⟩
end
end J
/-! the end of a law whose own def asks for the repr of lists -/
namespace J
open PySem PySem.Spec PyProof.Rows L2  -- own
/-- what a law's call comes to -/
abbrev Fine (s s' : Shared) (r : Result) : Prop := r = .ok (.ret (.bool true)) ∧ OldK s.heap s'.heap ∧ s'.os = s.os ∧ AllBare s'.gens
end J
/-! own errors over LookupError: the library's rules for those over ValueError, with the base left open -/
namespace PySem
namespace JX
open PySem.W PySem.Calls PyProof.Rows PySem.HandSPX Builtin Builtin.ObjectAttr
/-- own classes, then a base's mro -/
def Over (tail : List Value) (l : List Value) : Prop := ∃ cs : List Addr, l = cs.map Value.ref ++ tail
theorem Over.more {tail : List Value} {l : List Value} (o : Over tail l) (c : Addr) : Over tail (.ref c :: l) := by
  obtain ⟨cs, rfl⟩ := o
  exact ⟨c :: cs, rfl⟩
end JX
end PySem
namespace J
open PySem PySem.Spec PyProof.Rows L2  -- own
end J
/-! own errors over LookupError, raised and taken; what is told of a line, and its repr -/
namespace J
open PySem PySem.Spec PyProof.Rows L2 M
/-! ### what is told of a line -/
/-- at p: what is told; its words, where there are any, stand at a place that was free in H0 -/
def Told (H0 H : Hp) (p : Addr) (r : Except Nat (List (List Nat))) : Prop :=
  (∃ e, r = .error e ∧ H p = some (.lst [.str "sign", .int (e : Nat)])) ∨
  (∃ ws wd, r = .ok ws ∧ ws.length ≤ 40 ∧ H p = some (.lst [.str "told", .ref wd]) ∧ H wd = some (.lst (ws.map wV)) ∧ H0 wd = none ∧ wd ≠ p) ∨
  (∃ ws, r = .ok ws ∧ 40 < ws.length ∧ H p = some (.lst [.str "many", .int (ws.length : Nat)]))
def toldD : Except Nat (List (List Nat)) → PyData
  | .error e => .list [.str "sign", .int (e : Nat)]
  | .ok ws => if ws.length ≤ 40 then .list [.str "told", dWs ws] else .list [.str "many", .int (ws.length : Nat)]
theorem Told.dp {K : PySem.W.Frag} {H0 H : Hp} {p : Addr} {r : Except Nat (List (List Nat))} (h : Told H0 H p r) : Dp K H (.ref p) (toldD r) := by
  rcases h with ⟨e, rfl, h⟩ | ⟨ws, wd, rfl, q, h1, h2, _⟩ | ⟨ws, rfl, q, h⟩
  · exact .lst (SqL.of h) (.cons (.str _) (.cons (.int _) .nil))
  · simp only [toldD, if_pos q]
    exact .lst (SqL.of h1) (.cons (.str _) (.cons (dp_ws (SqL.of h2)) .nil))
  · simp only [toldD, if_neg (Nat.not_le_of_lt q)]
    exact .lst (SqL.of h) (.cons (.str _) (.cons (.int _) .nil))
theorem Told.mono {H0 H H' : Hp} {p : Addr} {r : Except Nat (List (List Nat))} (s : Same H H') (h : Told H0 H p r) : Told H0 H' p r := by
  rcases h with ⟨e, er, h⟩ | ⟨ws, wd, er, q, h1, h2, h3⟩ | ⟨ws, er, q, h⟩
  · exact .inl ⟨e, er, s _ _ h⟩
  · exact .inr (.inl ⟨ws, wd, er, q, s _ _ h1, s _ _ h2, h3⟩)
  · exact .inr (.inr ⟨ws, er, q, s _ _ h⟩)
end J
/-! what is told of a line is small -/
namespace J
open PySem PySem.Spec PyProof.Rows L2 M
def Mid (i : Nat) (s : Sc) : Prop := s.op ≤ i ∧ s.ws.length ≤ i ∧ (∀ w ∈ s.ws, w.length ≤ 40) ∧ (s.bg.getD []).length ≤ 40
end J
/-! whole lines of up to forty words; texts some times over -/
namespace J
open PySem PySem.Spec PyProof.Rows L2 M
theorem foldl_cat (l : Array Nat) : ∀ (k : Nat) (acc : Array Nat), ((List.replicate k l).foldl (· ++ ·) acc).toList = acc.toList ++ (List.replicate k l.toList).flatten
  | 0, acc => by simp
  | k + 1, acc => by
    rw [List.replicate_succ, List.foldl_cons, foldl_cat l k, List.replicate_succ, List.flatten_cons]
    simp
theorem mul_cd (z : Str) (n : Nat) : cd (Txt.mul z (n : Int)) = (List.replicate n (cd z)).flatten := by
  unfold Txt.mul
  by_cases h1 : (n : Int) < 1
  · rw [if_pos h1, show n = 0 by omega]; rfl
  · rw [if_neg h1]
    by_cases h2 : n = 1
    · subst h2; simp
    · by_cases h3 : z.length = 0
      · rw [if_pos (by rw [h3]; simp)]
        have e : cd z = [] := by rw [len_cd] at h3; exact List.eq_nil_of_length_eq_zero h3
        rw [e]
        simp
      · rw [if_neg (by simp; omega)]
        show ((List.replicate ((n : Nat) : Int).toNat z.cps).foldl (· ++ ·) #[]).toList = _
        rw [foldl_cat, Int.toNat_natCast]; simp
theorem mul_ok {z : Str} {n : Nat} (hz : z.length ≤ 1000) (hn : n ≤ 1000) : MulOk z (n : Int) := by
  refine ⟨by simp; omega, fun h1 _ => ?_, fun h1 _ => ?_⟩
  · have : (1000 : Int) ≤ (2 ^ 63 - 1) / (n : Int) := Int.le_ediv_of_mul_le (by omega) (by omega)
    omega
  · have : z.length * ((n : Nat) : Int).toNat ≤ 1000 * 1000 := Nat.mul_le_mul hz (by omega)
    unfold Builtin.Str.tooLong
    refine decide_eq_false (Nat.not_lt.mpr (Nat.le_trans this (by decide)))
end J
namespace J
open PySem PySem.Spec PyProof.Rows L2 M
theorem Bx.same {b : Addr} {H H' : Hp} {n : Nat} (h : Bx H b n) (s : Same H H') : Bx H' b n := let ⟨x, y, z, e, r⟩ := h; ⟨x, y, z, s _ _ e, r⟩
end J
/-! what is told of a line that breaks off, and its repr -/
namespace J
open PySem PySem.Spec PyProof.Rows L2 M
def cnt (t : Sc) : Nat := t.ws.length + t.bg.toList.length
def ToldS (F : Prop) (H0 H : Hp) (p : Addr) (r : Except Nat Sc) : Prop :=
  (∃ e, r = .error e ∧ H p = some (.lst [.str "sign", .int (e : Nat)])) ∨
  (∃ t q wd, r = .ok t ∧ cnt t ≤ 40 ∧ H p = some (.lst [.str "told", .ref q]) ∧ H q = some (.tup [.ref wd, obV t.bg, .str (qS t.qt)]) ∧ H wd = some (.lst (t.ws.map wV)) ∧ (F → H0 wd = none) ∧ wd ≠ p ∧ wd ≠ q) ∨
  (∃ t, r = .ok t ∧ 40 < cnt t ∧ H p = some (.lst [.str "many", .int (cnt t : Nat)]))
def obD : Option (List Nat) → PyData
  | none => .none
  | some l => dW l
def stD3 (t : Sc) : PyData := .tuple [dWs t.ws, obD t.bg, .str (qS t.qt)]
def tlS : Except Nat Sc → PyData
  | .error e => .list [.str "sign", .int (e : Nat)]
  | .ok t => if cnt t ≤ 40 then .list [.str "told", stD3 t] else .list [.str "many", .int (cnt t : Nat)]
theorem dp_ob {K : PySem.W.Frag} {H : Hp} : ∀ b : Option (List Nat), Dp K H (obV b) (obD b)
  | none => .non
  | some l => .str _
theorem ToldS.dp {F : Prop} {K : PySem.W.Frag} {H0 H : Hp} {p : Addr} {r : Except Nat Sc} (h : ToldS F H0 H p r) : Dp K H (.ref p) (tlS r) := by
  rcases h with ⟨e, rfl, h⟩ | ⟨t, q, wd, rfl, c, h1, h2, h3, _⟩ | ⟨t, rfl, c, h⟩
  · exact .lst (SqL.of h) (.cons (.str _) (.cons (.int _) .nil))
  · simp only [tlS, if_pos c]
    exact .lst (SqL.of h1) (.cons (.str _) (.cons (.tup (SqT.of h2) (.cons (dp_ws (SqL.of h3)) (.cons (dp_ob _) (.cons (.str _) .nil)))) .nil))
  · simp only [tlS, if_neg (Nat.not_le_of_lt c)]
    exact .lst (SqL.of h) (.cons (.str _) (.cons (.int _) .nil))
theorem ToldS.mono {F : Prop} {H0 H H' : Hp} {p : Addr} {r : Except Nat Sc} (s : Same H H') (h : ToldS F H0 H p r) : ToldS F H0 H' p r := by
  rcases h with ⟨e, er, h⟩ | ⟨t, q, wd, er, c, h1, h2, h3, h4⟩ | ⟨t, er, c, h⟩
  · exact .inl ⟨e, er, s _ _ h⟩
  · exact .inr (.inl ⟨t, q, wd, er, c, s _ _ h1, s _ _ h2, s _ _ h3, h4⟩)
  · exact .inr (.inr ⟨t, er, c, s _ _ h⟩)
end J
namespace J
open PySem PySem.Spec PyProof.Rows L2 M
theorem r_neD0 {K : PySem.W.Frag} {H : Hp} {Q : VK} {x y : V} {d e : PyData} (hd : Dp K H x d) (he : Dp K H y e) (sd : SeqAt.shaped d = true) (se : SeqAt.shaped e = true) (q : PyData.eqv d e = true) (k : Q (.bl false) H) : rNeA K x y H Q := .inr ⟨d, e, hd, he, sd, se, by rw [q]; exact k⟩
end J
/-! questions of a text's signs; max(ints, default=d); a line's words by its gaps -/
namespace J
open PySem PySem.Spec PyProof.Rows L2 M
/-! ### questions of a text -/
def rIs (f : Str → Bool) : V → List V → Hp → VK → Prop := fun x xs H Q => ∃ a, x = .str a ∧ xs = [] ∧ True ∧ Q (.bl (f a)) H
theorem r_m0 {σ : L2.St} {H : Hp} {Q : VK} {r : V → List V → Hp → VK → Prop} {to : TE} (k : to σ H fun x H1 => (∃ a, x = .str a) ∧ r x [] H1 Q) : tM0 r to σ H Q := k
theorem r_is {f : Str → Bool} {z : Str} {H : Hp} {Q : VK} (k : Q (.bl (f z)) H) : rIs f (.str z) [] H Q := ⟨z, rfl, rfl, trivial, k⟩
theorem mA_isascii {X : Cx} : MtR X "str.isascii" (rIs Txt.isascii) := mt_isascii
theorem mA_isprintable {X : Cx} : MtR X "str.isprintable" (rIs Txt.isprintable) := mt_isprintable
theorem mA_isalpha {X : Cx} : MtR X "str.isalpha" (rIs Txt.isalpha) := mt_isalpha
theorem mA_islower {X : Cx} : MtR X "str.islower" (rIs Txt.islower) := mt_islower
theorem mA_isdigit {X : Cx} : MtR X "str.isdigit" (rIs Txt.isdigit) := mt_isdigit
theorem all_cd {p : Nat → Bool} {z : Str} : z.cps.all p = (cd z).all p := by rw [← Array.all_toList]
theorem pr_c : ∀ c, c < 128 → Unicode.isPrintable c = decide (32 ≤ c ∧ c ≤ 126) := by decide +kernel
/-- both questions together: each is a sign -/
theorem ascii_sg (z : Str) : (Txt.isascii z && Txt.isprintable z) = sg (cd z) := by
  unfold Txt.isascii Txt.isprintable sg
  rw [all_cd, all_cd, Bool.eq_iff_iff, Bool.and_eq_true, List.all_eq_true, List.all_eq_true, List.all_eq_true]
  refine ⟨fun h c hc => ?_, fun h => ⟨fun c hc => ?_, fun c hc => ?_⟩⟩
  · rw [← pr_c c (of_decide_eq_true (h.1 c hc))]
    exact h.2 c hc
  · have := of_decide_eq_true (h c hc)
    exact decide_eq_true (by omega)  -- own
  · have := of_decide_eq_true (h c hc)
    rw [pr_c c (by omega)]
    exact h c hc
/-! ### the words of a line without quotes and strokes -/
/-! ### max(ints, default=d) -/
def tMaxD (K : PySem.W.Frag) (te td : TE) : TE := fun σ H Q => te σ H fun x H1 => td σ H1 fun y H2 => ∃ (a : Addr) (ns : List Int) (d : Int), x = .ref a ∧ y = .int d ∧ SqL K H2 a (ns.map .int) ∧ ∀ m : Int, (ns = [] → m = d) → (ns ≠ [] → m ∈ ns ∧ ∀ n ∈ ns, n ≤ m) → Q (.int m) H2
theorem r_maxD {K : PySem.W.Frag} {σ : L2.St} {H : Hp} {Q : VK} {te td : TE} (k : te σ H fun x H1 => td σ H1 fun y H2 => ∃ (a : Addr) (ns : List Int) (d : Int), x = .ref a ∧ y = .int d ∧ SqL K H2 a (ns.map .int) ∧ ∀ m : Int, (ns = [] → m = d) → (ns ≠ [] → m ∈ ns ∧ ∀ n ∈ ns, n ≤ m) → Q (.int m) H2) : tMaxD K te td σ H Q := k
end J
namespace J
open PySem PySem.Spec PyProof.Rows L2 M
end J
/-! set(texts), of any many, alike or not; len(set(texts)) -/
namespace J
open PySem PySem.Spec PyProof.Rows L2 M
/-- each once -/
def addU (l : List Str) (x : Str) : List Str := if x ∈ l then l else l ++ [x]
def uq (xs : List Str) : List Str := xs.foldl addU []
theorem uq_snoc (xs : List Str) (x : Str) : uq (xs ++ [x]) = addU (uq xs) x := by unfold uq; rw [List.foldl_append]; rfl
theorem addU_mem {l : List Str} {x y : Str} : y ∈ addU l x ↔ y ∈ l ∨ y = x := by
  unfold addU
  split
  · rename_i h
    exact ⟨.inl, fun q => q.elim id fun e => e ▸ h⟩
  · simp
theorem uq_len : ∀ (xs l : List Str), (xs.foldl addU l).length ≤ l.length + xs.length
  | [], l => Nat.le_refl _
  | x :: r, l => by
    rw [List.foldl_cons, List.length_cons]
    have := uq_len r (addU l x)
    have e : (addU l x).length ≤ l.length + 1 := by
      unfold addU
      split
      · omega
      · rw [List.length_append]; exact Nat.le_refl _
    omega
/-- as many as there are: just where all are unlike -/
theorem uq_all : ∀ (xs l : List Str), ((xs.foldl addU l).length = l.length + xs.length) ↔ (xs.Nodup ∧ ∀ x ∈ xs, x ∉ l)
  | [], l => by simp
  | x :: r, l => by
    rw [List.foldl_cons, List.length_cons, List.nodup_cons]
    have b := uq_len r (addU l x)
    by_cases h : x ∈ l
    · have e : addU l x = l := if_pos h
      rw [e] at b ⊢
      exact ⟨fun q => absurd q (by omega), fun q => absurd h (q.2 x (List.mem_cons_self ..))⟩
    · have e : addU l x = l ++ [x] := if_neg h
      have ih := uq_all r (l ++ [x])
      rw [e]
      rw [List.length_append] at ih
      have : l.length + [x].length + r.length = l.length + (r.length + 1) := by simp only [List.length_cons, List.length_nil]; omega
      rw [this] at ih
      rw [ih]
      refine ⟨fun q => ⟨⟨fun hx => q.2 x hx (List.mem_append_right _ (List.mem_singleton.mpr rfl)), q.1⟩, fun y hy => ?_⟩, fun q => ⟨q.1.2, fun y hy m => ?_⟩⟩
      · rcases List.mem_cons.mp hy with rfl | hy
        · exact h
        · exact fun m => q.2 y hy (List.mem_append_left _ m)
      · rcases List.mem_append.mp m with m | m
        · exact q.2 y (List.mem_cons_of_mem _ hy) m
        · rw [List.mem_singleton.mp m] at hy
          exact q.1.1 hy
theorem uq_eq (xs : List Str) : (uq xs).length = xs.length ↔ xs.Nodup := by
  have := uq_all xs []
  simpa [uq] using this
theorem uq_le (xs : List Str) : (uq xs).length ≤ xs.length := by
  have := uq_len xs []
  simpa [uq] using this
/-- which texts are in -/
def inU (l : List Str) : Str → Bool := fun y => decide (y ∈ l)
section
variable {prog : Program} {w : World} {A : Around} {R : Result → Shared → Prop} {it S : Addr} {fp wr : List Addr} {G : Array GenState → Array GenState → Prop} {n : Nat} {P : Nat → Value → Prop} {St : Nat → Shared → Prop}
theorem moves_set {s s' : Shared} {D : Str → Bool} {m : Nat} (q : Moved wr G s s') (hS : S ∉ wr) (h : s.heap.SetOf (strKind prog w) S D m) : s'.heap.SetOf (strKind prog w) S D m :=
  let ⟨o, es, ep, t, ho, r⟩ := h
  ⟨o, es, ep, t, q.heap S _ hS ho, r⟩
/-- what is taken in, text by text -/
theorem take_in (W : WalksS prog w A.in1 it fp wr G n P St) (hS : S ∉ fp) (xs : List Str) (hx : xs.length = n) (hv : ∀ i v, P i v → ∃ t, v = .str (xs.getD i Str.empty) t) (hn : n + 1 < scanBound) :
    ∀ (left i : Nat) (s : Shared), n - i = left → i ≤ n → St i s → s.heap.SetOf (strKind prog w) S (inU (uq (xs.take i))) (uq (xs.take i)).length →
      (∀ s', Moved (S :: wr) G s s' → s'.heap.SetOf (strKind prog w) S (inU (uq xs)) (uq xs).length → R (.ok (.ret .none)) s') → codeAny (model prog w) A (.builtin "set.update.loop" ⟨[.ref S, .ref it], []⟩) R s := by
  have out : S ∉ wr := fun h => hS (W.sub _ h)
  intro left
  induction left with
  | zero =>
    intro i s hl hi st h k
    obtain rfl : i = n := by omega
    refine codeAny_builtin F.entry_set_update_loop ?_
    rw [Around.under_plainId F.plain_set_update_loop]
    change wpAny _ A.in1 (pyNext (.ref it) >>= _) _ _ s
    refine wpAny_bind (W.done s _ _ st fun s1 m1 => ?_)
    change wpAny _ A.in1 (ret Value.none) _ _ s1
    rw [show xs.take i = xs from List.take_of_length_le (Nat.le_of_eq hx)] at h
    exact wpAny_pure (k s1 (m1.mono fun b hb => .tail _ hb) (moves_set m1 out h))
  | succ left ih =>
    intro i s hl hi st h k
    have lt : i < n := by omega
    refine codeAny_builtin F.entry_set_update_loop ?_
    rw [Around.under_plainId F.plain_set_update_loop]
    change wpAny _ A.in1 (pyNext (.ref it) >>= _) _ _ s
    refine wpAny_bind (W.item i s _ _ lt st fun v s1 p st1 m1 => ?_)
    obtain ⟨t, rfl⟩ := hv i v p
    have h1 := moves_set m1 out h
    generalize ex : xs.getD i Str.empty = x at h1 ⊢
    have es : xs.take (i + 1) = xs.take i ++ [x] := by
      have li : i < xs.length := by omega
      rw [List.take_add_one, List.getElem?_eq_getElem li, ← ex, List.getD_eq_getElem?_getD, List.getElem?_eq_getElem li]
      rfl
    have few : (uq (xs.take i)).length ≤ i := Nat.le_trans (uq_le _) (by rw [List.length_take]; omega)
    change wpAny _ A.in1 (holding [Value.str x t] (setAdd S (.str x t)) >>= _) _ _ s1
    refine wpAny_bind (wpAny_holding ?_)
    unfold setAdd
    refine wpAny_holding (wpAny_bind ((strKind prog w).pyHash (k := x) (strKind_is _ _ _ _) ?_))
    refine wpAny_setAddHashed_of (knd := strKind prog w) (s := { s1 with toks := s1.toks + 1 }) (strKind_is _ _ _ _) rfl h1 (by omega) fun h' sb h2 => ?_
    have h3 : h'.SetOf (strKind prog w) S (inU (uq (xs.take (i + 1)))) (uq (xs.take (i + 1))).length := by
      rw [es, uq_snoc]
      refine SetOf_congr h2 (fun y => ?_) ?_
      · unfold inU
        rw [← Bool.decide_or]
        exact decide_eq_decide.mpr addU_mem.symm
      · unfold inU addU
        by_cases q : x ∈ uq (xs.take i)
        · rw [if_pos (decide_eq_true q), if_pos q]
        · rw [if_neg (by rw [decide_eq_false q]; exact Bool.false_ne_true), if_neg q, List.length_append]; rfl
    have keep : ∀ b o, b ≠ S → s1.heap.get? b = some o → h'.get? b = some o := fun b o ne e => by rw [sb.2 b ne]; exact e
    refine wpAny_pure ⟨plainId_quiet F.plain_set_update_loop _, ih (i + 1) _ (by omega) lt (W.frame _ s1 _ _ st1 (Nat.le_succ _) fun b hb o e => keep b o (fun q => hS (q ▸ hb)) e) h3 fun s2 m2 q => k s2 ?_ q⟩
    exact Moved.trans W.gtrans ((m1.mono fun b hb => .tail _ hb).then_heap (Nat.le_succ _) fun b o nb e => keep b o (fun q => nb (q ▸ .head _)) e) m2
end
/-- a set as it is made -/
abbrev set0 (led : Bool) : Obj := { cls := .type "set", dict := none, data := .set #[] 0 (.fresh 0 0 led) }
/-- what is walked for its items, one behind the other, none of it changed but the iterator itself -/
structure Wk (prog : Program) (w : World) (l : Addr) (o : Obj) (items : Array Value) (itO : Obj) : Prop where
  fr : itO.isFreed = false
  it : ∀ {A : Around} {E Q : Value → Shared → Prop} {s : Shared}, s.heap.get? l = some o → Q (.ref s.heap.objs.size) { s with heap := s.heap.push itO } → wpAny (model prog w) A (pyIter (.ref l)) Q E s
  wk : ∀ {A : Around} {I : Addr} {h : Heap}, A.handled = none → l ≠ I → h.get? I = some itO → h.get? l = some o → ∃ (G : Array GenState → Array GenState → Prop) (St : Nat → Shared → Prop), (∀ a b, G a b → b = a) ∧
    WalksS prog w A I [I, l] [I] G items.size (fun i v => items[i]? = some v) St ∧ ∀ s : Shared, s.heap = h → St 0 s
theorem wk_list {prog : Program} {w : World} {l : Addr} {o : Obj} {items : Array Value} {n : Nat} (hc : o.cls = .type "list") (hd : o.data = .seq items n) : Wk prog w l o items { cls := .type "list_iterator", data := .fields #[.ref l, .int 0 0] } where
  fr := rfl
  it := fun ho q => wpAny_pyIter_list ⟨o, ho, hc, n, hd⟩ q
  wk := fun hh ne hI ho => ⟨_, _, fun _ _ e => e, (Walks.list hh _ l ne items).toS, fun s e => ⟨⟨_, by rw [e]; exact hI, rfl, rfl⟩, ⟨o, by rw [e]; exact ho, hc, n, hd⟩⟩⟩
theorem wk_tuple {prog : Program} {w : World} {l : Addr} {o : Obj} {items : Array Value} {n : Nat} (hc : o.cls = .type "tuple") (hd : o.data = .seq items n) : Wk prog w l o items { cls := .type "tuple_iterator", data := .fields #[.ref l, .int 0 0] } where
  fr := rfl
  it := fun ho q => wpAny_pyIter_tuple ⟨o, ho, hc, n, hd⟩ q
  wk := fun hh ne hI ho => ⟨_, _, fun _ _ e => e, (Walks.tuple hh _ l ne items).toS, fun s e => ⟨⟨_, by rw [e]; exact hI, rfl, rfl⟩, ⟨o, by rw [e]; exact ho, hc, n, hd⟩⟩⟩
section
variable {prog : Program} {w : World} {A : Around} {E : Value → Shared → Prop} {s : Shared}
/-- set(x), x a list or a tuple of texts -/
theorem set_texts {T : String} {l : Addr} {items : Array Value} {xs : List Str} {Q : Value → Shared → Prop} {od : Option Addr} {nl : Nat} {sl : Array (Option Value)} {itO : Obj}
    (ns : isSubtype (.type T) (.type "set") = pure false) (nf : isSubtype (.type T) (.type "frozenset") = pure false) (nd : (Value.type T == Value.type "dict") = false)
    (hh : A.handled = none) (at_l : s.heap.get? l = some { cls := .type T, dict := od, data := .seq items nl, slots := sl }) (W : Wk prog w l { cls := .type T, dict := od, data := .seq items nl, slots := sl } items itO)
    (hi : StrsAre items.toList xs) (hn : items.size + 1 < scanBound)
    (k : ∀ (h' : Heap) (tk : Nat), h'.SetOf (strKind prog w) s.heap.objs.size (inU (uq xs)) (uq xs).length → (∀ b o, s.heap.get? b = some o → h'.get? b = some o) → Q (.ref s.heap.objs.size) { s with heap := h', toks := tk }) :
    wpAny (model prog w) A (call (.type "set") [.ref l]) Q E s := by
  obtain ⟨c, tl, m0⟩ := PySem.F.called_set.mro
  have m1 := PySem.F.called_set.made
  have m2 := PySem.F.called_set.sub
  have m3 := PySem.F.called_set.notType
  have m4 := PySem.F.called_set.canCreate
  have m5 := PySem.F.typeCall_set_1 (.ref l)
  refine wpAny_call (codeAny_of_tree ?_)
  change wpAny _ _ (callAny (.type "set") _) _ _ _
  refine wpAny_pure ⟨Code.quiet_builtin _ (by decide +kernel), codeAny_builtin PySem.F.entry_type_call ?_⟩
  rw [Around.under_plain (weight_type_call_type "set" [.ref l] []) rfl]
  repeat (any_goals (first | assumption | wp_step))
  refine codeAny_mono (code_set_new_1 (.ref l) (E := E) (Q₁ := fun v s1 => ∃ led : Bool, v = .ref s.heap.objs.size ∧ s1 = { s with heap := s.heap.push (set0 led) }) fun led => ⟨led, rfl, rfl⟩) fun r s1 hr => ?_
  rcases r with e | ⟨v⟩ | _ | _ <;> first | exact hr | skip
  obtain ⟨led, rfl, rfl⟩ := hr
  have new : (s.heap.push (set0 led)).get? s.heap.objs.size = some (set0 led) := Heap.get?_push_size _ rfl
  have ty : Shared.TypeIs { s with heap := s.heap.push (set0 led) } (.ref s.heap.objs.size) "set" := ⟨_, new, rfl⟩
  have i1 := PySem.F.called_set.init.lookup
  have i2 := PySem.F.called_set.init.bind (.ref s.heap.objs.size)
  repeat (any_goals (first | assumption | wp_step))
  refine codeAny_mono (codeAny_call_builtin (R := wants (fun r s2 => r = .none ∧ ∃ h' tk, s2 = { s with heap := h', toks := tk } ∧ h'.SetOf (strKind prog w) s.heap.objs.size (inU (uq xs)) (uq xs).length ∧
    ∀ b o, s.heap.get? b = some o → h'.get? b = some o) E) PySem.F.called_set.init.plain PySem.F.entry_set_init (check_set_init_1 ty ?_)) fun r s2 hr => ?_
  rotate_left
  · rcases r with e | ⟨v⟩ | _ | _ <;> first | exact hr | skip
    obtain ⟨rfl, h', tk, rfl, h1, h2⟩ := hr
    repeat (any_goals (first | assumption | wp_step))
    exact k _ _ h1 h2
  have old : (s.heap.push (set0 led)).get? l = some { cls := .type T, dict := od, data := .seq items nl, slots := sl } := Heap.get?_push_of_some _ at_l
  have ll : l < s.heap.objs.size := Heap.lt_size at_l
  have sz : (s.heap.push (set0 led)).objs.size = s.heap.objs.size + 1 := Heap.size_push ..
  unfold Builtin.«set.__init__» noKeywords Builtin.Frozenset.updateFrom
  generalize e0 : pyIter = PI
  wp_walk
  subst e0
  refine W.it old (wpAny_bind (wpAny_runValue ?_))
  have old2 := Heap.get?_push_of_some itO old
  obtain ⟨G, St, hG, wk, st⟩ := W.wk (A := A.in1.in1.in1) (I := (s.heap.push (set0 led)).objs.size) (h := (s.heap.push (set0 led)).push itO) (by simp [hh]) (fun q => absurd (show l < s.heap.objs.size + 1 from Nat.lt_succ_of_lt ll) (by rw [q, sz]; exact Nat.lt_irrefl _)) (Heap.get?_push_size _ W.fr) old2
  refine take_in wk (fun q => by
    rcases List.mem_cons.mp q with q | q
    · rw [sz] at q; exact Nat.ne_of_lt (Nat.lt_succ_self _) q
    · exact absurd ll (by rw [← List.mem_singleton.mp q]; exact Nat.lt_irrefl _)) xs (by rw [← StrsAre.len_eq hi, Array.length_toList]) (fun i v hv => SS.strs_at hi i v (by rw [Array.getElem?_toList]; exact hv)) hn items.size 0 _ (by omega) (Nat.zero_le _) (st _ rfl)
    (SetOf_congr ((setObjOf_fresh (knd := strKind prog w) led).setOf (Heap.get?_push_of_some itO new) (by unfold scanBound; omega)) (fun _ => rfl) rfl) fun s3 m3 h3 => ?_
  obtain ⟨h', g', d', tk', os'⟩ := s3
  obtain rfl : g' = s.gens := hG _ _ m3.gens
  obtain rfl : d' = s.drawn := m3.drawn
  obtain rfl : os' = s.os := m3.os
  change wpAny _ _ _ _ _ _
  refine wpAny_pure ?_
  change wpAny _ _ (ret Value.none) _ _ _
  refine wpAny_pure ⟨rfl, h', tk', rfl, h3, fun b o e => m3.heap b o (fun q => ?_) (Heap.get?_push_of_some _ (Heap.get?_push_of_some _ e))⟩
  have lb := Heap.lt_size e
  rcases List.mem_cons.mp q with q | q
  · exact absurd lb (by rw [q]; exact Nat.lt_irrefl _)
  · have q := List.mem_singleton.mp q
    rw [sz] at q
    exact Nat.lt_irrefl _ (Nat.lt_of_succ_lt (q ▸ lb))
theorem strsAre_texts : ∀ {ys : List Str} {us : List Value}, Vals (ys.map V.str) us → StrsAre us ys
  | [], _, .nil => .nil
  | y :: ys, _, .cons r t => by
    obtain ⟨j, rfl⟩ := r
    exact .cons y j (strsAre_texts t)
/-- len(set(x)), x a list or a tuple of texts -/
def tLenSetT (K : PySem.W.Frag) (ta : TE) : TE := fun σ H Q => ta σ H fun x H1 => ∃ (l : Addr) (xs : List Str), x = .ref l ∧ (SqL K H1 l (xs.map V.str) ∨ SqT K H1 l (xs.map V.str)) ∧ xs.length ≤ 4000 ∧ Q (.int ((uq xs).length : Nat)) H1
theorem pe_lenSetT {X : Cx} {a : Expr} {ta : TE} {p p2 q pos : Pos} (hc : X.calm = true) (hg : Gl X "len") (hm : X.mg "len" = none) (hg2 : Gl X "set") (hm2 : X.mg "set" = none) (ha : PE X a ta)
    (na : starEach [a] X.env = (false, eval a X.env) :: starEach [] X.env := by rfl) : PE X (.Call (.Name "len" p) [.Call (.Name "set" p2) [a] [] q] [] pos) (tLenSetT X.K ta) := ⟨fun pins s σ H Q I h => by
  refine Call_ (ld_blt I hg hm boot_len (callWith_builtin1 (args_cons ?_ rfl) rfl rfl))
  refine Call_ (ld_blt I hg2 hm2 boot_set (callWith_type1 (args_cons (thn (ha.run pins s σ H _ I h) fun v s1 ⟨x, H1, I1, r1, l, xs, ex, hq, hl, q1⟩ => args_nil ?_) na) na rfl))
  subst ex
  cases r1
  have last : ∀ (us : List Value), us.length = xs.length → ∀ (h' : Heap) (tk : Nat), h'.SetOf (strKind X.prog X.w) s1.heap.objs.size (inU (uq xs)) (uq xs).length → (∀ b o, s1.heap.get? b = some o → h'.get? b = some o) →
      wpAny (model X.prog X.w) X.A (spliced (backTo pos (starEach [] X.env))) (fun vs s2 => wpAny (model X.prog X.w) X.A (call (.builtin "len") (Value.ref s1.heap.objs.size :: vs)) (EP X pins σ Q) X.xe s2) X.xe { s1 with heap := h', toks := tk } := fun us hu h' tk hs hk => by
    refine args_nil ?_
    obtain ⟨o, es, ep, t, ho, hex, hd, _, _, _, hf, hn⟩ := hs
    have I2 : Inv X pins σ H1 { s1 with heap := h', toks := tk } := I1.kept hk
    have := uq_le xs
    exact call_len_set ho hex hd hf (by rw [hn]; omega) ⟨.int ((uq xs).length : Nat), H1, I2.tok _, ⟨_, by rw [hn]⟩, q1⟩
  rcases hq with hq | hq
  · obtain ⟨us, r, pl, hz⟩ := I1.list hq
    obtain ⟨o, ho, hc1, n1, hd1⟩ := pl.isList
    have e1 := r.length
    rw [List.length_map] at e1
    obtain ⟨c1, od, dt, sl⟩ := o
    simp only at hc1 hd1
    subst hc1 hd1
    exact set_texts PySem.F.sub_list_set PySem.F.sub_list_frozenset (by decide) (I1.ok.hd hc) ho (wk_list rfl rfl) (by simpa using strsAre_texts r) (by rw [List.size_toArray, ← e1]; unfold scanBound; omega) (last us e1.symm)
  · obtain ⟨us, r, pl, hz⟩ := I1.tuple hq
    obtain ⟨o, ho, hc1, n1, hd1⟩ := pl
    have e1 := r.length
    rw [List.length_map] at e1
    obtain ⟨c1, od, dt, sl⟩ := o
    simp only at hc1 hd1
    subst hc1 hd1
    exact set_texts PySem.F.sub_tuple_set PySem.F.sub_tuple_frozenset (by decide) (I1.ok.hd hc) ho (wk_tuple rfl rfl) (by simpa using strsAre_texts r) (by rw [List.size_toArray, ← e1]; unfold scanBound; omega) (last us e1.symm)⟩
end
end J
/-! decimal figures, and what begins them -/
namespace M
open PySem PySem.NumText
def D (n : Nat) : List Nat := (Nat.toDigits 10 n).map Char.toNat
theorem dc_of : ∀ d : Nat, d < 10 → (Nat.digitChar d).toNat = 48 + d := by decide
theorem D_lt {n : Nat} (h : n < 10) : D n = [48 + n] := by
  unfold D
  rw [Nat.toDigits_of_lt_base h, List.map_cons, List.map_nil, dc_of n h]
theorem D_ge {n : Nat} (h : 10 ≤ n) : D n = D (n / 10) ++ [48 + n % 10] := by
  have hm : n % 10 < 10 := Nat.mod_lt n (by decide)
  have t : Nat.toDigits 10 (n / 10) ++ Nat.toDigits 10 (n % 10) = Nat.toDigits 10 (10 * (n / 10) + n % 10) := Nat.toDigits_append_toDigits (by decide) (by omega) hm
  rw [Nat.div_add_mod] at t
  show (Nat.toDigits 10 n).map Char.toNat = _
  rw [← t, List.map_append]
  show D (n / 10) ++ D (n % 10) = _
  rw [D_lt hm]
theorem D_val (n : Nat) : digitsVal (D n) = n := PySem.W.KIN.val_back n
theorem D_ne (n : Nat) : D n ≠ [] := by
  by_cases h : n < 10
  · rw [D_lt h]; exact List.cons_ne_nil _ _
  · rw [D_ge (by omega)]; simp
theorem D_digits (n : Nat) : AllDigits (D n) := by
  induction n using Nat.strongRecOn with
  | _ n ih =>
    by_cases h : n < 10
    · rw [D_lt h]
      intro c hc
      have := List.mem_singleton.mp hc
      omega
    · rw [D_ge (by omega)]
      intro c hc
      rcases List.mem_append.mp hc with q | q
      · exact ih _ (by omega) c q
      · have := List.mem_singleton.mp q
        have := Nat.mod_lt n (show 10 > 0 by decide)
        omega
theorem D_head {n : Nat} (h : 1 ≤ n) : ∃ c r, D n = c :: r ∧ 49 ≤ c := by
  induction n using Nat.strongRecOn with
  | _ n ih =>
    by_cases q : n < 10
    · exact ⟨48 + n, [], D_lt q, by omega⟩
    · obtain ⟨c, r, e, hc⟩ := ih (n / 10) (by omega) (by omega)
      exact ⟨c, r ++ [48 + n % 10], by rw [D_ge (by omega), e, List.cons_append], hc⟩
theorem D_zero : D 0 = [48] := D_lt (by decide)
def Canon (l : List Nat) : Prop := l ≠ [] ∧ AllDigits l ∧ (l = [48] ∨ l.head? ≠ some 48)
theorem D_canon (n : Nat) : Canon (D n) := by
  refine ⟨D_ne n, D_digits n, ?_⟩
  by_cases h : n = 0
  · subst h; exact .inl D_zero
  · obtain ⟨c, r, e, hc⟩ := D_head (show 1 ≤ n by omega)
    exact .inr (by rw [e]; simp; omega)
theorem back_chars : ∀ {l : List Nat}, AllDigits l → (l.map Char.ofNat).map Char.toNat = l
  | [], _ => rfl
  | c :: l, h => by
    rw [List.map_cons, List.map_cons, back_chars h.tail]
    have hc := h c (List.mem_cons_self ..)
    have k : ∀ c : Nat, c < 58 → (Char.ofNat c).toNat = c := by decide
    rw [k c (by omega)]
theorem canon_D {l : List Nat} (h : Canon l) : l = D (digitsVal l) := by
  obtain ⟨h1, h2, h3⟩ := h
  have e := toDigits_digitsVal (l.length - 1) l (by have := List.length_pos_iff.mpr h1; omega) h2 (by
    rcases h3 with q | q
    · exact .inl (by rw [q]; rfl)
    · cases l with
      | nil => exact absurd rfl h1
      | cons c r =>
        have hc := h2 c (List.mem_cons_self ..)
        exact .inr ⟨c, r, rfl, by
          have : c ≠ 48 := fun e => q (by rw [e]; rfl)
          omega⟩)
  show l = (Nat.toDigits 10 (digitsVal l)).map Char.toNat
  rw [e, back_chars h2]
def dec (m : Int) : List Nat := if m < 0 then 45 :: D m.natAbs else D m.natAbs
theorem dec_nat (n : Nat) : dec (n : Nat) = D n := by
  unfold dec
  rw [if_neg (by omega), Int.natAbs_natCast]
theorem dec_neg {n : Nat} (h : 1 ≤ n) : dec (-(n : Nat)) = 45 :: D n := by
  unfold dec
  rw [if_pos (by omega), Int.natAbs_neg, Int.natAbs_natCast]
/-- the number that a text plainly writes -/
noncomputable def numV (l : List Nat) : Option Int :=
  open Classical in
  if l.head? = some 45 then (if Canon l.tail ∧ l.tail ≠ [48] then some (-(digitsVal l.tail : Nat)) else none) else if Canon l then some (digitsVal l : Nat) else none
theorem numV_some {l : List Nat} {n : Int} : numV l = some n ↔ l = dec n := by
  unfold numV
  constructor
  · intro h
    split at h
    · rename_i h0
      split at h
      · rename_i h1
        obtain ⟨h1, h2⟩ := h1
        cases h
        have e := canon_D h1
        have v : 1 ≤ digitsVal l.tail := by
          by_cases z : digitsVal l.tail = 0
          · exact absurd (by rw [e, z, D_zero]) h2
          · omega
        rw [dec_neg v, ← e]
        cases l with
        | nil => cases h0
        | cons c r =>
          cases h0
          rfl
      · cases h
    · split at h
      · rename_i h1
        cases h
        rw [dec_nat]
        exact canon_D h1
      · cases h
  · intro h
    by_cases q : n < 0
    · obtain ⟨k, rfl, hk⟩ : ∃ k : Nat, n = -(k : Nat) ∧ 1 ≤ k := ⟨n.natAbs, by omega, by omega⟩
      rw [dec_neg hk] at h
      subst h
      rw [if_pos (show (45 :: D k).head? = some 45 from rfl), List.tail_cons, if_pos ⟨D_canon k, fun e => by
        have := congrArg digitsVal e
        rw [D_val] at this
        have : k = 0 := this
        omega⟩, D_val]
    · obtain ⟨k, rfl⟩ : ∃ k : Nat, n = (k : Nat) := ⟨n.natAbs, by omega⟩
      rw [dec_nat] at h
      subst h
      have hd : (D k).head? ≠ some 45 := by
        cases e : D k with
        | nil => exact absurd e (D_ne k)
        | cons c r =>
          have := D_digits k c (by rw [e]; exact List.mem_cons_self ..)
          simp; omega
      rw [if_neg hd, if_pos (D_canon k), D_val]
end M
/-! kinds of worths; what begins their words; figures read and written -/
namespace J
open PySem PySem.Spec PyProof.Rows L2 M
/-! ### names -/
def Nm (l : List Nat) : Prop := 1 ≤ l.length ∧ l.length ≤ 8 ∧ ∀ c ∈ l, 97 ≤ c ∧ c ≤ 122
def isNm (l : List Nat) : Bool := decide (1 ≤ l.length) && (decide (l.length ≤ 8) && l.all fun c => decide (97 ≤ c ∧ c ≤ 122))
theorem isNm_iff {l : List Nat} : isNm l = true ↔ Nm l := by simp [isNm, Nm]
theorem al_c : ∀ c, c < 128 → Unicode.isAlpha c = decide ((65 ≤ c ∧ c ≤ 90) ∨ (97 ≤ c ∧ c ≤ 122)) := by decide +kernel
theorem up_c : ∀ c, c < 128 → (Unicode.isUpper c || Unicode.isTitle c) = decide (65 ≤ c ∧ c ≤ 90) := by decide +kernel
theorem lo_c : ∀ c, c < 128 → Unicode.isLower c = decide (97 ≤ c ∧ c ≤ 122) := by decide +kernel
theorem any_cd {p : Nat → Bool} {z : Str} : z.cps.any p = (cd z).any p := by rw [← Array.any_toList]
theorem small_letters (z : Str) (h : 1 ≤ (cd z).length) : (Txt.isascii z && (Txt.isalpha z && Txt.islower z)) = (cd z).all fun c => decide (97 ≤ c ∧ c ≤ 122) := by
  unfold Txt.isascii Txt.isalpha Txt.islower
  rw [all_cd, all_cd, any_cd, any_cd, len_cd, Bool.eq_iff_iff, Bool.and_eq_true, Bool.and_eq_true, Bool.and_eq_true, Bool.and_eq_true, List.all_eq_true, List.all_eq_true, List.all_eq_true, List.any_eq_true]
  constructor
  · rintro ⟨h1, ⟨_, h2⟩, _, h3⟩ c hc
    have a := of_decide_eq_true (h1 c hc)
    have b := h2 c hc
    rw [al_c c a] at b
    have b := of_decide_eq_true b
    have u : ¬ (65 ≤ c ∧ c ≤ 90) := fun q => by
      have : (cd z).any (fun c => Unicode.isUpper c || Unicode.isTitle c) = true := List.any_eq_true.mpr ⟨c, hc, by rw [up_c c a]; exact decide_eq_true q⟩
      rw [this] at h3
      cases h3
    exact decide_eq_true (by omega)
  · intro h1
    have lt : ∀ c ∈ cd z, 97 ≤ c ∧ c ≤ 122 := fun c hc => of_decide_eq_true (h1 c hc)
    refine ⟨fun c hc => decide_eq_true (by have := lt c hc; omega), ⟨decide_eq_true (by omega), fun c hc => ?_⟩, ?_, ?_⟩
    · have := lt c hc
      rw [al_c c (by omega)]
      exact decide_eq_true (.inr this)
    · obtain ⟨c, r, e⟩ : ∃ c r, cd z = c :: r := by
        cases q : cd z with
        | nil => rw [q] at h; exact absurd h (by decide)
        | cons c r => exact ⟨c, r, rfl⟩
      have hc : c ∈ cd z := by rw [e]; exact List.mem_cons_self ..
      have := lt c hc
      exact ⟨c, hc, by rw [lo_c c (by omega)]; exact decide_eq_true this⟩
    · rw [Bool.not_eq_true', List.any_eq_false]
      intro c hc
      have := lt c hc
      rw [up_c c (by omega)]
      simp; omega
/-! ### kinds -/
inductive Kd where
  | num (lo hi : Int)
  | one (ns : List (List Nat))
  | nam
  | txt (n : Int)
  | own (nm : List Nat)
def KdAt (H : Hp) (a : Addr) : Kd → Prop
  | .num lo hi => H a = some (.tup [.str "number", .int lo, .int hi])
  | .one ns => ∃ b, H a = some (.tup [.str "one", .ref b]) ∧ H b = some (.tup (ns.map wV))
  | .nam => H a = some (.tup [.str "name"])
  | .txt n => H a = some (.tup [.str "text", .int n])
  | .own nm => H a = some (.tup [.str "own", .str (S nm)])
def Kd.Ok : Kd → Prop
  | .num lo hi => -999999 ≤ lo ∧ lo ≤ hi ∧ hi ≤ 999999
  | .one ns => 1 ≤ ns.length ∧ ns.length ≤ 8 ∧ (∀ n ∈ ns, Nm n) ∧ ns.Nodup
  | .nam => True
  | .txt n => 1 ≤ n ∧ n ≤ 20
  | .own nm => Nm nm
def OwOk (ws : List (List Nat)) : Prop := ws.length ≤ 8 ∧ (∀ w ∈ ws, 1 ≤ w.length ∧ w.length ≤ 20 ∧ ∀ c ∈ w, 32 ≤ c ∧ c ≤ 126) ∧ ws.Nodup
def Sg (l : List Nat) : Prop := ∀ c ∈ l, 32 ≤ c ∧ c ≤ 126
noncomputable def dB (p : Prop) : Bool := @decide p (Classical.propDecidable p)
theorem dB_iff {p : Prop} : dB p = true ↔ p := @decide_eq_true_iff p (Classical.propDecidable p)
theorem dB_t {p : Prop} (h : p) : dB p = true := dB_iff.mpr h
theorem dB_f {p : Prop} (h : ¬ p) : dB p = false := by
  cases e : dB p with
  | false => rfl
  | true => exact absurd (dB_iff.mp e) h
theorem dB_dec {p q : Prop} {i : Decidable q} (h : p ↔ q) : dB p = decide q := by
  rw [Bool.eq_iff_iff, dB_iff, decide_eq_true_iff]
  exact h
theorem KdAt.same {H H' : Hp} (s : Same H H') {a : Addr} : ∀ {k : Kd}, KdAt H a k → KdAt H' a k
  | .num .., h => s _ _ h
  | .one _, ⟨b, h1, h2⟩ => ⟨b, s _ _ h1, s _ _ h2⟩
  | .nam, h => s _ _ h
  | .txt _, h => s _ _ h
  | .own _, h => s _ _ h
theorem Keep.tup {b : Addr} {n : Nat} {H H' : Hp} (kp : Keep b H H') (hb : Bx H b n) {a : Addr} {xs : List V} (h : H a = some (.tup xs)) : H' a = some (.tup xs) := kp _ _ h fun e => by
  obtain ⟨x, y, z, q, _⟩ := hb
  rw [e, q] at h
  cases h
theorem KdAt.keep {b : Addr} {n : Nat} {H H' : Hp} (kp : Keep b H H') (hb : Bx H b n) {a : Addr} : ∀ {k : Kd}, KdAt H a k → KdAt H' a k
  | .num .., h => kp.tup hb h
  | .one _, ⟨c, h1, h2⟩ => ⟨c, kp.tup hb h1, kp.tup hb h2⟩
  | .nam, h => kp.tup hb h
  | .txt _, h => kp.tup hb h
  | .own _, h => kp.tup hb h
/-- own words: a list, or a tuple -/
def OwAt (K : PySem.W.Frag) (H : Hp) (b : Addr) (ws : List (List Nat)) : Prop := SqL K H b (ws.map wV) ∨ SqT K H b (ws.map wV)
theorem OwAt.same {K : PySem.W.Frag} {H H' : Hp} (s : Same H H') {b : Addr} {ws : List (List Nat)} (h : OwAt K H b ws) : OwAt K H' b ws := h.imp s.seqL s.seqT
/-! ### figures -/
theorem cd_toString (i : Int) : cd (PySem.Str.ofString (toString i)) = dec i := by
  by_cases h : i < 0
  · obtain ⟨n, rfl, hn⟩ : ∃ n : Nat, i = -(n : Int) ∧ 1 ≤ n := ⟨i.natAbs, by omega, by omega⟩
    rw [dec_neg hn]
    obtain ⟨m, rfl⟩ : ∃ m, n = m + 1 := ⟨n - 1, by omega⟩
    show (PySem.Str.ofString ("-" ++ toString (((m + 1 : Nat)) : Int))).cps.toList = _
    rw [signs_ofString, String.toList_append, List.map_append, ← signs_ofString (toString (((m + 1 : Nat)) : Int)), PySem.W.KIN.signs_num]
    rfl
  · obtain ⟨n, rfl⟩ : ∃ n : Nat, i = (n : Int) := ⟨i.natAbs, by omega⟩
    rw [dec_nat]
    exact PySem.W.KIN.signs_num n
theorem int_dec {z : Str} {n : Int} (h : cd z = dec n) (hl : z.length ≤ 4300) : PySem.intText? z = some n := by
  by_cases q : n < 0
  · obtain ⟨k, rfl, hk⟩ : ∃ k : Nat, n = -(k : Int) ∧ 1 ≤ k := ⟨n.natAbs, by omega, by omega⟩
    rw [dec_neg hk] at h
    have := PySem.intText_neg h (D_digits k) (D_ne k) hl
    rw [this, D_val]
  · obtain ⟨k, rfl⟩ : ∃ k : Nat, n = (k : Int) := ⟨n.natAbs, by omega⟩
    rw [dec_nat] at h
    have e : z.cps.toList = D k := h
    rw [PySem.intText_digits (x := z) (by rw [e]; exact D_digits k) (by rw [e]; exact D_ne k) hl, e, D_val]
theorem int_digits {z : Str} (h : PySem.NumText.AllDigits (cd z)) (h0 : cd z ≠ []) (hl : z.length ≤ 4300) : PySem.intText? z = some ((PySem.NumText.digitsVal (cd z) : Nat) : Int) := PySem.intText_digits h h0 hl
/-! ### rules by their own names -/
def rIntS : List V → Hp → VK → Prop := fun xs H Q => ∃ a n, xs = [V.str a] ∧ PySem.intText? a = some n ∧ a.length ≤ 640 ∧ Q (.int n) H
def rStrI : List V → Hp → VK → Prop := fun xs H Q => ∃ i, xs = [V.int i] ∧ i.natAbs.log2 < 1920 ∧ Q (.str (toString i)) H
section
variable {X : Cx}
theorem call_intS : CallR X (.type "int") rIntS := L2.call_int_str
theorem call_strI : CallR X (.type "str") rStrI := L2.call_str_int
theorem asLenSet {K : PySem.W.Frag} {e : Expr} {ta : TE} (eK : X.K = K) (h : PE X e (tLenSetT X.K ta)) : PE X e (tLenSetT K ta) := eK ▸ h
end
section
variable {σ : L2.St} {H : Hp} {Q : VK} {K : PySem.W.Frag} {D : Ends}
theorem r_intS {z : Str} {n : Int} (h : PySem.intText? z = some n) (hl : z.length ≤ 640) (k : Q (.int n) H) : rIntS [.str z] H Q := ⟨z, n, rfl, h, hl, k⟩
theorem r_strI {i : Int} (h : i.natAbs < 2 ^ 200) (k : Q (.str (toString i)) H) : rStrI [.int i] H Q := ⟨i, rfl, by
  by_cases h0 : i.natAbs = 0
  · rw [h0]; decide
  · exact Nat.lt_of_lt_of_le ((Nat.log2_lt h0).mpr h) (by decide), k⟩
theorem r_lenSet {ta : TE} (k : ta σ H fun x H1 => ∃ (l : Addr) (xs : List Str), x = .ref l ∧ (SqL K H1 l (xs.map V.str) ∨ SqT K H1 l (xs.map V.str)) ∧ xs.length ≤ 4000 ∧ Q (.int ((uq xs).length : Nat)) H1) : tLenSetT K ta σ H Q := k
theorem r_asg2 {te : TE} {g1 g2 : TG} (k : te σ H fun x H1 => g1 x σ H1 fun σ1 H2 => g2 x σ1 H2 D.nx) : tAsg2 te g1 g2 D σ H := k
theorem r_isiB {x : V} {t c : String} {b : Bool} (hx : TyX K H x (.type t)) (hk : kitB t c = some b) (k : Q (.bl b) H) : rIsi K [x, .ty c] H Q := ⟨x, _, _, _, b, rfl, .ty _, hx, kit_ty hk, k⟩
theorem r_isiLT2 {a p : Addr} {xs : List V} (hs : SqL K H a xs ∨ SqT K H a xs) (hp : H p = some (.tup [V.ty "list", V.ty "tuple"])) (k : Q (.bl true) H) : rIsiT K [.ref a, .ref p] H Q := by
  rcases hs with ((h | ⟨o, h⟩) | h) | ((h | ⟨o, h⟩) | h)
  · exact ⟨_, p, _, _, _, true, rfl, hp, .cons (.ty _) (.cons (.ty _) .nil), .base (.lst h), rfl, k⟩
  · exact ⟨_, p, _, _, _, true, rfl, hp, .cons (.ty _) (.cons (.ty _) .nil), .base (.frz h), rfl, k⟩
  · obtain ⟨o, _, _, e, c, r⟩ := h
    exact ⟨_, p, _, _, _, true, rfl, hp, .cons (.ty _) (.cons (.ty _) .nil), .kList e c, rfl, k⟩
  · exact ⟨_, p, _, _, _, true, rfl, hp, .cons (.ty _) (.cons (.ty _) .nil), .base (.tup h), rfl, k⟩
  · exact ⟨_, p, _, _, _, true, rfl, hp, .cons (.ty _) (.cons (.ty _) .nil), .fTuple h, rfl, k⟩
  · obtain ⟨o, _, _, e, c, r⟩ := h
    exact ⟨_, p, _, _, _, true, rfl, hp, .cons (.ty _) (.cons (.ty _) .nil), .kTuple e c, rfl, k⟩
theorem r_slT {a : Addr} {xs : List V} {lo hi : Option Int} (h : SqT K H a xs) (n : ¬ (HT.sIx xs.length 0 lo = 0 ∧ HT.sIx xs.length xs.length hi = xs.length)) (k : ∀ p, H p = none → Q (.ref p) (upd H p (.tup (cutV xs lo hi)))) : rSlT K (.ref a) lo hi H Q := ⟨a, xs, rfl, h, n, k⟩
theorem r_ixTu {a : Addr} {xs : List V} {i : Int} {v : V} (h : SqT K H a xs) (e : atI xs i = some v) (k : Q v H) : rIx K (.ref a) (.int i) H Q := .inr (.inl ⟨a, xs, i, v, rfl, rfl, h, e, k⟩)
end
/-! ### the promises -/
def spSignsK : Sp := fun vs H Q _ => ∃ z : Str, vs = [.str z] ∧ z.length ≤ 1000000 ∧ Q (.bl (sg (cd z))) H
def spUnlike (K : PySem.W.Frag) : Sp := fun vs H Q _ => ∃ (a : Addr) (ls : List (List Nat)), vs = [.ref a] ∧ OwAt K H a ls ∧ ls.length ≤ 100 ∧ Q (.bl (decide ls.Nodup)) H
def spChoices : Sp := fun vs H Q _ => ∃ (b : Addr) (ns : List (List Nat)), vs = [.ref b] ∧ H b = some (.tup (ns.map wV)) ∧ 1 ≤ ns.length ∧ ns.length ≤ 8 ∧ (∀ n ∈ ns, Nm n) ∧ ns.Nodup ∧ ∀ H', Same H H' → Q (.bl true) H'
def spBounds : Sp := fun vs H Q _ => ∃ (b : Addr) (lo hi : Int), vs = [.ref b] ∧ H b = some (.tup [.int lo, .int hi]) ∧ -999999 ≤ lo ∧ lo ≤ hi ∧ hi ≤ 999999 ∧ Q (.bl true) H
def spIsKind : Sp := fun vs H Q _ => ∃ (a : Addr) (k : Kd), vs = [.ref a] ∧ KdAt H a k ∧ k.Ok ∧ ∀ H', Same H H' → Q (.bl true) H'
def spAreOwn (K : PySem.W.Frag) : Sp := fun vs H Q _ => ∃ (b : Addr) (ws : List (List Nat)), vs = [.ref b] ∧ OwAt K H b ws ∧ OwOk ws ∧ ∀ H', Same H H' → Q (.bl true) H'
def spLook (K : PySem.W.Frag) : Sp := fun vs H Q _ => ∃ (a b : Addr) (k : Kd) (ws : List (List Nat)), vs = [.ref a, .ref b] ∧ KdAt H a k ∧ k.Ok ∧ OwAt K H b ws ∧ OwOk ws ∧ ∀ H', Same H H' → Q .non H'
def spFigures : Sp := fun vs H Q _ => ∃ z : Str, vs = [.str z] ∧ z.length ≤ 1000000 ∧ Q (.bl (dB (Canon (cd z)))) H
def optV : Option Int → V
  | none => .non
  | some n => .int n
/-- a text, or what is none -/
inductive Thg (K : PySem.W.Frag) (H : Hp) : V → Option Str → Prop where
  | str (z : Str) (h : z.length ≤ 50) : Thg K H (.str z) (some z)
  | non : Thg K H .non none
  | int (i : Int) : Thg K H (.int i) none
  | bl (b : Bool) : Thg K H (.bl b) none
  | lst {a : Addr} {xs : List V} (h : H a = some (.lst xs)) : Thg K H (.ref a) none
  | tup {a : Addr} {xs : List V} (h : H a = some (.tup xs)) : Thg K H (.ref a) none
theorem Thg.same {K : PySem.W.Frag} {H H' : Hp} {x : V} {o : Option Str} (t : Thg K H x o) (s : Same H H') : Thg K H' x o := by
  cases t with
  | str z h => exact .str z h
  | non => exact .non
  | int i => exact .int i
  | bl b => exact .bl b
  | lst h => exact .lst (s _ _ h)
  | tup h => exact .tup (s _ _ h)
end J
/-! texts that begin with others; figures -/
namespace J
open PySem PySem.Spec PyProof.Rows L2 M
theorem starts_iff {a b : Str} : Txt.startswith a b = true ↔ cd b <+: cd a := by
  unfold Txt.startswith
  rw [Bool.and_eq_true, decide_eq_true_iff, PySem.StrLaws.subAt_eq, beq_iff_eq, List.drop_zero, Nat.zero_add, len_cd b, len_cd a, List.prefix_iff_eq_take]
  exact ⟨fun h => h.2.symm, fun h => ⟨by
    have := congrArg List.length h
    rw [List.length_take] at this
    omega, h.symm⟩⟩
theorem starts_dec {a b : Str} : Txt.startswith a b = decide (cd b <+: cd a) := by
  rw [Bool.eq_iff_iff, decide_eq_true_iff]
  exact starts_iff
theorem dg_c : ∀ c, c < 128 → Unicode.isDigit c = decide (48 ≤ c ∧ c ≤ 57) := by decide +kernel
theorem fig_iff (z : Str) : (Txt.isascii z && Txt.isdigit z) = true ↔ cd z ≠ [] ∧ PySem.NumText.AllDigits (cd z) := by
  unfold Txt.isascii Txt.isdigit
  rw [all_cd, all_cd, len_cd, Bool.and_eq_true, Bool.and_eq_true, List.all_eq_true, List.all_eq_true, decide_eq_true_iff]
  constructor
  · rintro ⟨h1, h2, h3⟩
    refine ⟨fun e => by rw [e] at h2; exact absurd h2 (by decide), fun c hc => ?_⟩
    have a := of_decide_eq_true (h1 c hc)
    have b := h3 c hc
    rw [dg_c c a] at b
    exact of_decide_eq_true b
  · rintro ⟨h1, h2⟩
    have lt : ∀ c ∈ cd z, 48 ≤ c ∧ c ≤ 57 := h2
    refine ⟨fun c hc => decide_eq_true (by have := lt c hc; omega), ?_, fun c hc => ?_⟩
    · exact List.length_pos_iff.mpr h1
    · have := lt c hc
      rw [dg_c c (by omega)]
      exact decide_eq_true this
theorem l_min : cd (Str.ofString "-") = [45] := by decide +kernel
theorem l_zero : cd (Str.ofString "0") = [48] := by decide +kernel
theorem head_min {l : List Nat} : [45] <+: l ↔ l.head? = some 45 := by
  cases l with
  | nil => simp
  | cons c r => simp [List.cons_prefix_cons, eq_comm]
theorem numV_neg {l : List Nat} (h : l.head? = some 45) : (Canon l.tail ∧ l.tail ≠ [48] → numV l = some (-((PySem.NumText.digitsVal l.tail : Nat) : Int))) ∧ (¬ (Canon l.tail ∧ l.tail ≠ [48]) → numV l = none) := by
  unfold numV
  rw [if_pos h]
  exact ⟨fun q => if_pos q, fun q => if_neg q⟩
theorem numV_pos {l : List Nat} (h : l.head? ≠ some 45) : (Canon l → numV l = some ((PySem.NumText.digitsVal l : Nat) : Int)) ∧ (¬ Canon l → numV l = none) := by
  unfold numV
  rw [if_neg h]
  exact ⟨fun q => if_pos q, fun q => if_neg q⟩
theorem one_digit {c : Nat} (h : 48 ≤ c ∧ c ≤ 57) : PySem.intText? ⟨#[c]⟩ = some ((c : Int) - 48) := by
  have e := int_digits (z := ⟨#[c]⟩) (fun d hd => by
    have := List.mem_singleton.mp (show d ∈ [c] from hd)
    rw [this]; exact h) (by simp) (by show (1 : Nat) ≤ 4300; decide)
  rw [e]
  show some (((0 * 10 + (c - 48) : Nat) : Int)) = _
  congr 1
  omega
theorem val_snoc {l : List Nat} {c : Nat} (h : 48 ≤ c) : ((PySem.NumText.digitsVal (l ++ [c]) : Nat) : Int) = (PySem.NumText.digitsVal l : Nat) * 10 + ((c : Int) - 48) := by
  rw [PySem.NumText.digitsVal_snoc]
  omega
theorem fold_lt : ∀ (l : List Nat) (a : Nat), PySem.NumText.AllDigits l → l.foldl (fun acc c => acc * 10 + (c - 48)) a < (a + 1) * 10 ^ l.length
  | [], a, _ => by simp
  | c :: r, a, h => by
    have hc := h c (List.mem_cons_self ..)
    have ih := fold_lt r (a * 10 + (c - 48)) fun d hd => h d (List.mem_cons_of_mem _ hd)
    rw [List.foldl_cons, List.length_cons, Nat.pow_succ']
    refine Nat.lt_of_lt_of_le ih ?_
    rw [← Nat.mul_assoc]
    exact Nat.mul_le_mul_right _ (by omega)
theorem val_lt {l : List Nat} (h : PySem.NumText.AllDigits l) : PySem.NumText.digitsVal l < 10 ^ l.length := by
  have := fold_lt l 0 h
  rw [Nat.zero_add, Nat.one_mul] at this
  exact this
theorem pow50 {m n : Nat} (h : n < 10 ^ m) (hm : m ≤ 50) : n < 2 ^ 199 := by
  have : 10 ^ m ≤ 10 ^ 50 := Nat.pow_le_pow_right (by decide) hm
  have : (10 : Nat) ^ 50 < 2 ^ 199 := by decide
  omega
section
variable {σ : L2.St} {H : Hp} {Q : VK} {K : PySem.W.Frag} {D : Ends}
theorem r_lcQ {te te' : TE} {g : TG} {tt : TT} {vs : List Nat} (k : te σ H fun x H1 => ∃ a xs, x = .ref a ∧ ((SqL K H1 a xs ∧ ∀ E, H1 E = none → CompQ (Itl K a) g tt te' vs σ H1 E fun H => Q (.ref E) H) ∨ (SqT K H1 a xs ∧ ∀ E, H1 E = none → CompQ (Itt K a) g tt te' vs σ H1 E fun H => Q (.ref E) H))) :
    tLc (iSeq K te) g tt te' vs σ H Q := k
theorem r_istr {te : TE} {R : It → Hp → Prop} (k : te σ H fun x H1 => ∃ z, x = .str z ∧ R (Its z) H1) : iStr te σ H R := k
end
end J
/-! the law's drawn names and kinds -/
namespace J
open PySem PySem.Spec PyProof.Rows L2 M
theorem comp_draw {q n : Nat} {b : Addr} {g : TG} {te : TE} {vs : List Nat} {σ : L2.St} {H1 : Hp} {D : Addr} {Z : Hp → Prop} (hD : H1 D = none) (hb : Bx H1 b n) (hs : q < sizeLine) (P : Nat → Prop)
    (turn : ∀ (i : Nat) (H : Hp) (N : V → Hp → Prop), i < q → Keep b H1 H → Bx H b (n + i) → (∀ c H4, P c → Keep b H H4 → Bx H4 b (n + i + 1) → N (.str ⟨#[c]⟩) H4) → g (.int (i : Nat)) (wipe σ vs) H fun σ2 H2 => wipe σ2 vs = wipe σ vs ∧ te σ2 H2 N)
    (fin : ∀ (cs : List Nat) (H : Hp), cs.length = q → (∀ c ∈ cs, P c) → Keep b H1 H → Bx H b (n + q) → H D = some (.lst (cs.map sgnV)) → Z H) : CompQ (Itr 0 q) g tYes te vs σ H1 D Z := by
  have Db : D ≠ b := by
    obtain ⟨_, _, _, e, _⟩ := hb
    exact new_ne hD e
  refine comp_of q (fun i H => ∃ cs : List Nat, cs.length = i ∧ (∀ c ∈ cs, P c) ∧ H D = some (.lst (cs.map sgnV)) ∧ Keep b H1 H ∧ Bx H b (n + i)) ⟨[], rfl, fun _ h => (List.not_mem_nil h).elim, upd_same, Keep.new _ hD, hb.new hD⟩ (fun i H hi w => hi) (fun H w => Nat.le_refl _) ?_ ?_
  · rintro i H x H' hi ⟨cs, hl, hc, hd, kp1, hb1⟩ ⟨rfl, rfl⟩
    have e : (0 + (i : Nat) : Int) = (i : Nat) := by omega
    rw [e]
    refine turn i H' _ hi kp1 hb1 fun c H4 pc kp2 hb2 => ⟨_, kp2 D _ hd Db, by rw [List.length_map]; omega, cs ++ [c], by rw [List.length_append, hl]; rfl, fun d hm => ?_, by rw [upd_same, List.map_append]; rfl, (kp1.trans kp2).at hD _, hb2.at Db _⟩
    rcases List.mem_append.mp hm with h | h
    · exact hc d h
    · rw [List.mem_singleton.mp h]; exact pc
  · rintro H' ⟨cs, hl, hc, hd, kp1, hb1⟩
    exact fin cs H' hl hc kp1 hb1 hd
theorem let_at : ∀ j, j < 26 → (cd (Str.ofString "abcdefghijklmnopqrstuvwxyz"))[j]? = some (97 + j) := by decide +kernel
theorem let_len : (Str.ofString "abcdefghijklmnopqrstuvwxyz").length = 26 := by decide +kernel
def spCell (K : PySem.W.Frag) : Sp := fun vs H Q _ => ∃ (a : Addr) (ns : List Int) (k : Nat), vs = [.ref a, .int (k : Nat)] ∧ SqL K H a (ns.map V.int) ∧ k ≤ 1000 ∧ ∀ c : Int, Q (.int c) H
end J
/-! the law's own look at what begins a worth's word -/
namespace J
open PySem PySem.Spec PyProof.Rows L2 M
section
variable {H : Hp} {Q : VK} {K : PySem.W.Frag}
theorem dp_ints : ∀ ks : List Int, DpAll K H (ks.map V.int) (ks.map PyData.int)
  | [] => .nil
  | i :: ks => .cons (.int _) (dp_ints ks)
theorem can_ints : ∀ ks : List Int, PyData.canLayAll0 (ks.map PyData.int) = true
  | [] => rfl
  | i :: ks => by
    show (true && PyData.canLayAll0 (ks.map PyData.int)) = true
    rw [can_ints ks]; rfl
theorem dep_ints : ∀ ks : List Int, PyData.depthAll (ks.map PyData.int) = 0
  | [] => rfl
  | i :: ks => by
    show max 0 (PyData.depthAll (ks.map PyData.int)) = 0
    rw [dep_ints ks]; rfl
theorem sh_ints (ks : List Int) : SeqAt.shaped (.list (ks.map PyData.int)) = true := by
  show (PyData.canLayAll0 (ks.map PyData.int) && decide (PyData.depthAll (ks.map PyData.int) + 1 ≤ 64)) = true
  rw [can_ints, dep_ints]; rfl
end
/-! ### what begins a word is a word -/
theorem r_lcR2 {σ : L2.St} {H : Hp} {Q : VK} {ta : TA} {te' : TE} {g : TG} {tt : TT} {vs : List Nat} (k : ta σ H fun ws H1 => ∃ i j : Int, ws = [.int i, .int j] ∧ (-(2 ^ 62) ≤ i ∧ i < 2 ^ 62 ∧ -(2 ^ 62) ≤ j ∧ j < 2 ^ 62) ∧ ∀ E, H1 E = none → CompQ (Itr i (j - i).toNat) g tt te' vs σ H1 E fun H => Q (.ref E) H) : tLc (iRng2 ta) g tt te' vs σ H Q := k
theorem r_seqZ {K : PySem.W.Frag} {σ : L2.St} {H : Hp} {te' : TE} {g : TG} {tt : TT} {vs : List Nat} {Z : Addr → Hp → Prop} {a : Addr} {xs : List V} (hs : SqL K H a xs ∨ SqT K H a xs) (k : ∀ J, SeqIt J xs H → ∀ E, H E = none → CompQ J g tt te' vs σ H E (Z E)) :
    ∃ b ys, V.ref a = .ref b ∧ ((SqL K H b ys ∧ ∀ E, H E = none → CompQ (Itl K b) g tt te' vs σ H E (Z E)) ∨ (SqT K H b ys ∧ ∀ E, H E = none → CompQ (Itt K b) g tt te' vs σ H E (Z E))) :=
  ⟨a, xs, rfl, hs.elim (fun h => .inl ⟨h, k _ (seqIt_l h)⟩) fun h => .inr ⟨h, k _ (seqIt_t h)⟩⟩
end J
/-! loops over lists and ranges where the box changes; the law's begun texts -/
namespace J
open PySem PySem.Spec PyProof.Rows L2 M
section
variable {K : PySem.W.Frag} {σ : L2.St} {H : Hp} {Q : VK} {g : TG} {tb : TS} {n' : L2.St → Hp → Prop} {rt : VK} {bk ct : L2.St → Hp → Prop}
theorem loop_lst {a : Addr} {xs : List V} (I : Nat → L2.St → Hp → Prop) (at_ : ∀ i σ H, I i σ H → H a = some (.lst xs)) (start : I 0 σ H)
    (turn : ∀ (i : Nat) (x : V) σ1 H1, xs[i]? = some x → I i σ1 H1 → g x σ1 H1 fun σ2 H2 => tb ⟨I (i + 1), rt, n', I (i + 1)⟩ σ2 H2)
    (fin : ∀ σ1 H1, I xs.length σ1 H1 → n' σ1 H1) : LoopQ (Itl K a) g tb ⟨n', rt, bk, ct⟩ σ H :=
  loop_of (D := ⟨n', rt, bk, ct⟩) xs.length I start (fun i σ H hi w => ⟨xs, _, SqL.of (at_ i σ H w), List.getElem?_eq_getElem hi⟩) (fun σ H w => ⟨xs, SqL.of (at_ _ σ H w), Nat.le_refl _⟩) (fun i σ1 H1 x H' hi w y => by
    obtain ⟨rfl, hx⟩ := y
    exact turn i x σ1 H' (hx xs (SqL.of (at_ i σ1 H' w))) w) fin
theorem loop_rng {q : Nat} (I : Nat → L2.St → Hp → Prop) (start : I 0 σ H)
    (turn : ∀ (j : Nat) σ1 H1, j < q → I j σ1 H1 → g (.int (j : Nat)) σ1 H1 fun σ2 H2 => tb ⟨I (j + 1), rt, n', I (j + 1)⟩ σ2 H2)
    (fin : ∀ σ1 H1, I q σ1 H1 → n' σ1 H1) : LoopQ (Itr 0 q) g tb ⟨n', rt, bk, ct⟩ σ H :=
  loop_of (D := ⟨n', rt, bk, ct⟩) q I start (fun j _ _ hj _ => hj) (fun _ _ _ => Nat.le_refl _) (fun j σ1 H1 x H' hj w y => by
    obtain ⟨rfl, rfl⟩ := y
    have e : (0 + (j : Nat) : Int) = (j : Nat) := by omega
    rw [e]
    exact turn j σ1 H' hj w) fin
theorem r_irng1 {ta : TA} {R : It → Hp → Prop} (k : ta σ H fun vs H1 => ∃ j : Int, vs = [.int j] ∧ -(2 ^ 62) ≤ j ∧ j < 2 ^ 62 ∧ R (Itr 0 j.toNat) H1) : iRng1 ta σ H R := k
end
/-- the law's words -/
def Wz (ws : List (List Nat)) : Prop := ∀ w ∈ ws, w.length ≤ 20 ∧ ∀ c ∈ w, c ≤ 126
theorem Wz.nm {ws : List (List Nat)} (h : ∀ n ∈ ws, Nm n) : Wz ws := fun w hw => ⟨by have := (h w hw).2.1; omega, fun c hc => by have := (h w hw).2.2 c hc; omega⟩
end J
/-! a def with a keyword-only list, left out or told; the repr of a truth -/
namespace J
open PySem PySem.Spec PyProof.Rows L2 M
theorem r_callN {σ : L2.St} {H : Hp} {Q : VK} {n m : Nat} {sp : Sp} {gV : List V → List V → List V} {E : XK} {t tk : TA} (k : t σ H fun vs H1 => tk σ H1 fun zs H2 => vs.length = n ∧ zs.length = m ∧ sp (gV vs zs) H2 Q E) : tCallN n m sp gV E t tk σ H Q := k
theorem r_neB {K : PySem.W.Frag} {H : Hp} {Q : VK} {b : Bool} (k : Q (.bl false) H) : rNeA K (.bl b) (.bl b) H Q := .inl ⟨rfl, by rw [decide_eq_true rfl]; exact k⟩
end J
/-! things of some sorts: what they are, and whether one is a worth -/
namespace J
open PySem PySem.Spec PyProof.Rows L2 M
/-- what does not come to pass -/
theorem ps_false {X : Cx} {st : Stmt} : PS X st (fun _ _ _ => False) := ⟨fun pins s σ H D I h => h.elim⟩
/-! ### x in a list or a tuple, of data -/
def rInX (K : PySem.W.Frag) : R2 := fun x y H Q => ∃ d ds, Dp K H x d ∧ (Dp K H y (.list ds) ∨ Dp K H y (.tuple ds)) ∧ SeqAt.shaped d = true ∧ SeqAt.shaped (.list ds) = true ∧ Q (.bl (ds.any fun z => PyData.eqv z d)) H
theorem op_inX {X : Cx} (hu : X.A.units + 65 < cLine) : OpR X (compareOp .In) (rInX X.K) := by
  intro pins s σ H x y v u Q I rx ry h
  obtain ⟨d, ds, hd, he, sd, se, q⟩ := h
  obtain ⟨as, r1⟩ := Dp.reads I d x v hd rx
  rcases he with he | he
  · obtain ⟨bs, r2⟩ := Dp.reads I (.list ds) y u he ry
    exact SeqAt.in_list_reads r2 r1 (SeqAt.canLay_of_shaped se) (SeqAt.canLay_of_shaped sd) (room_in_shaped sd hu) ⟨.bl _, H, I, rfl, q⟩
  · obtain ⟨bs, r2⟩ := Dp.reads I (.tuple ds) y u he ry
    exact SeqAt.in_tuple_reads r2 r1 (SeqAt.canLay_of_shaped se) (SeqAt.canLay_of_shaped sd) (room_in_shaped sd hu) ⟨.bl _, H, I, rfl, q⟩
theorem room_65 {k : Nat} {A : Around} (r : Room k A) : A.units + 65 < cLine := by have := r.un; omega
/-! ### things -/
inductive Tg (K : PySem.W.Frag) (H : Hp) : V → PyData → Prop where
  | str (z : Str) (h : z.length ≤ 50) (c : ∀ c ∈ cd z, c ≤ 126) : Tg K H (.str z) (.str z)
  | non : Tg K H .non .none
  | int (i : Int) (h : i.natAbs ≤ 10 ^ 60) : Tg K H (.int i) (.int i)
  | bl (b : Bool) : Tg K H (.bl b) (.bool b)
  | lst {a : Addr} (h : H a = some (.lst [.int 1])) : Tg K H (.ref a) (.list [.int 1])
  | tup {a : Addr} {zs : List (List Nat)} (h : H a = some (.tup (zs.map wV))) (hl : zs.length ≤ 8) (hz : ∀ l ∈ zs, l.length ≤ 8 ∧ ∀ c ∈ l, c ≤ 126) : Tg K H (.ref a) (.tuple (zs.map dW))
theorem Tg.same {K : PySem.W.Frag} {H H' : Hp} {x : V} {d : PyData} (t : Tg K H x d) (s : Same H H') : Tg K H' x d := by
  cases t with
  | str z h c => exact .str z h c
  | non => exact .non
  | int i h => exact .int i h
  | bl b => exact .bl b
  | lst h => exact .lst (s _ _ h)
  | tup h hl hz => exact .tup (s _ _ h) hl hz
theorem Tg.dp {K : PySem.W.Frag} {H : Hp} {x : V} {d : PyData} (t : Tg K H x d) : Dp K H x d := by
  cases t with
  | str z h c => exact .str z
  | non => exact .non
  | int i h => exact .int i
  | bl b => exact .bl b
  | lst h => exact .lst (SqL.of h) (.cons (.int 1) .nil)
  | tup h hl hz => exact .tup (SqT.of h) (dp_all _)
theorem Tg.sh {K : PySem.W.Frag} {H : Hp} {x : V} {d : PyData} (t : Tg K H x d) : SeqAt.shaped d = true := by
  cases t with
  | str z h c =>
    have := can_w c
    rw [show dW (cd z) = .str z from congrArg PyData.str (S_of z)] at this
    show (PyData.canLay0 (.str z) && decide (0 ≤ 64)) = true
    rw [this]; rfl
  | non => rfl
  | int i h => rfl
  | bl b => rfl
  | lst h => rfl
  | @tup _ zs h hl hz =>
    show (PyData.canLayAll0 (zs.map dW) && decide (PyData.depthAll (zs.map dW) + 1 ≤ 64)) = true
    rw [can_ws fun l hl => (hz l hl).2, dep_ws]; rfl
def tyD : PyData → String
  | .str _ => "str"
  | .none => "NoneType"
  | .int _ => "int"
  | .bool _ => "bool"
  | .list _ => "list"
  | .tuple _ => "tuple"
  | _ => ""
theorem Tg.ty {K : PySem.W.Frag} {H : Hp} {x : V} {d : PyData} (t : Tg K H x d) : TyX K H x (.type (tyD d)) := by
  cases t with
  | str z h c => exact .base (.str z)
  | non => exact .base .non
  | int i h => exact .base (.int i)
  | bl b => exact .base (.bl b)
  | lst h => exact .base (.lst h)
  | tup h hl hz => exact .base (.tup h)
def isSD : PyData → Bool
  | .str _ => true
  | _ => false
def isID : PyData → Bool
  | .int _ => true
  | .bool _ => true
  | _ => false
def isBD : PyData → Bool
  | .bool _ => true
  | _ => false
theorem Tg.isS {K : PySem.W.Frag} {H : Hp} {Q : VK} {x : V} {d : PyData} (t : Tg K H x d) (k : Q (.bl (isSD d)) H) : rIsi K [x, .ty "str"] H Q :=
  r_isiB t.ty (by cases t <;> first | exact (show kitB "str" "str" = some true by decide +kernel) | exact (show kitB "NoneType" "str" = some false by decide +kernel) | exact (show kitB "int" "str" = some false by decide +kernel) | exact (show kitB "bool" "str" = some false by decide +kernel) | exact (show kitB "list" "str" = some false by decide +kernel) | exact (show kitB "tuple" "str" = some false by decide +kernel)) k
theorem Tg.isI {K : PySem.W.Frag} {H : Hp} {Q : VK} {x : V} {d : PyData} (t : Tg K H x d) (k : Q (.bl (isID d)) H) : rIsi K [x, .ty "int"] H Q :=
  r_isiB t.ty (by cases t <;> first | exact (show kitB "str" "int" = some false by decide +kernel) | exact (show kitB "NoneType" "int" = some false by decide +kernel) | exact (show kitB "int" "int" = some true by decide +kernel) | exact (show kitB "bool" "int" = some true by decide +kernel) | exact (show kitB "list" "int" = some false by decide +kernel) | exact (show kitB "tuple" "int" = some false by decide +kernel)) k
theorem Tg.isB {K : PySem.W.Frag} {H : Hp} {Q : VK} {x : V} {d : PyData} (t : Tg K H x d) (k : Q (.bl (isBD d)) H) : rIsi K [x, .ty "bool"] H Q :=
  r_isiB t.ty (by cases t <;> first | exact (show kitB "str" "bool" = some false by decide +kernel) | exact (show kitB "NoneType" "bool" = some false by decide +kernel) | exact (show kitB "int" "bool" = some false by decide +kernel) | exact (show kitB "bool" "bool" = some true by decide +kernel) | exact (show kitB "list" "bool" = some false by decide +kernel) | exact (show kitB "tuple" "bool" = some false by decide +kernel)) k
/-- a worth of a kind -/
def Fit (ws : List (List Nat)) (d : PyData) : Kd → Prop
  | .num lo hi => ∃ i, d = .int i ∧ lo ≤ i ∧ i ≤ hi
  | .one ns => ∃ n ∈ ns, d = dW n
  | .nam => ∃ z, d = .str z ∧ Nm (cd z)
  | .txt n => ∃ z, d = .str z ∧ (z.length : Int) ≤ n ∧ Sg (cd z)
  | .own _ => ∃ w ∈ ws, d = dW w
noncomputable def fitB (k : Kd) (ws : List (List Nat)) (d : PyData) : Bool := dB (Fit ws d k)
theorem any_fit {K : PySem.W.Frag} {H : Hp} {x : V} {d : PyData} (t : Tg K H x d) (ns : List (List Nat)) : ((ns.map dW).any fun z => PyData.eqv z d) = dB (∃ n ∈ ns, d = dW n) := by
  have one : ∀ n : List Nat, PyData.eqv (dW n) d = true ↔ d = dW n := fun n => by
    cases t with
    | str z h c =>
      show decide (S n = z) = true ↔ PyData.str z = PyData.str (S n)
      rw [decide_eq_true_iff]
      constructor
      · intro e; rw [e]
      · intro e; injection e with e; exact e.symm
    | non => exact ⟨fun e => (Bool.false_ne_true e).elim, fun e => PyData.noConfusion e⟩
    | int i h => exact ⟨fun e => (Bool.false_ne_true e).elim, fun e => PyData.noConfusion e⟩
    | bl b => exact ⟨fun e => (Bool.false_ne_true e).elim, fun e => PyData.noConfusion e⟩
    | lst h => exact ⟨fun e => (Bool.false_ne_true e).elim, fun e => PyData.noConfusion e⟩
    | tup h hl hz => exact ⟨fun e => (Bool.false_ne_true e).elim, fun e => PyData.noConfusion e⟩
  rw [Bool.eq_iff_iff, dB_iff, List.any_eq_true]
  constructor
  · rintro ⟨y, hy, e⟩
    obtain ⟨n, hn, rfl⟩ := List.mem_map.mp hy
    exact ⟨n, hn, (one n).mp e⟩
  · rintro ⟨n, hn, e⟩
    exact ⟨_, List.mem_map_of_mem hn, (one n).mpr e⟩
def datV : PyData → V
  | .int i => .int i
  | .str z => .str z
  | _ => .non
end J
/-! promises of the doors to worths and words; keyword calls that may break off -/
namespace J
open PySem PySem.Spec PyProof.Rows L2 M
def whD (lo hi : Int) : PyData → Bool
  | .int i => decide (lo ≤ i) && decide (i ≤ hi)
  | _ => false
theorem whD_t {lo hi i : Int} (h1 : lo ≤ i) (h2 : i ≤ hi) : whD lo hi (.int i) = true := by show (decide _ && decide _) = true; rw [decide_eq_true h1, decide_eq_true h2]; rfl
def nmD : PyData → Bool
  | .str z => isNm (cd z)
  | _ => false
theorem nmD_t {l : List Nat} (h : Nm l) : nmD (.str (S l)) = true := by show isNm (cd (S l)) = true; rw [cd_S]; exact isNm_iff.mpr h
def wdD : PyData → Bool
  | .str z => decide (z.length ≤ 40) && sg (cd z)
  | _ => false
theorem wdD_t {l : List Nat} (h1 : l.length ≤ 40) (h2 : ∀ c ∈ l, 32 ≤ c ∧ c ≤ 126) : wdD (.str (S l)) = true := by show (decide _ && sg (cd (S l))) = true; rw [S_len, cd_S, sg_iff.mpr h2, decide_eq_true h1]; rfl
noncomputable def numD : PyData → V
  | .str z => optV (numV (cd z))
  | _ => .non
theorem tg_w {K : PySem.W.Frag} {H : Hp} {l : List Nat} (h1 : l.length ≤ 50) (h2 : ∀ c ∈ l, c ≤ 126) : Tg K H (.str (S l)) (.str (S l)) := .str (S l) (by rw [S_len]; exact h1) (by rw [cd_S]; exact h2)
theorem tg_nm {K : PySem.W.Frag} {H : Hp} {l : List Nat} (h : Nm l) : Tg K H (.str (S l)) (.str (S l)) := tg_w (by have := h.2.1; omega) fun c hc => by have := h.2.2 c hc; omega
def spWholeT (K : PySem.W.Frag) : Sp := fun vs H Q _ => ∃ (x : V) (d : PyData) (lo hi : Int), vs = [x, .int lo, .int hi] ∧ Tg K H x d ∧ Q (.bl (whD lo hi d)) H
def spNameT (K : PySem.W.Frag) : Sp := fun vs H Q _ => ∃ (x : V) (d : PyData), vs = [x] ∧ Tg K H x d ∧ Q (.bl (nmD d)) H
def spWordT (K : PySem.W.Frag) : Sp := fun vs H Q _ => ∃ (x : V) (d : PyData), vs = [x] ∧ Tg K H x d ∧ Q (.bl (wdD d)) H
noncomputable def spNumInT (K : PySem.W.Frag) : Sp := fun vs H Q _ => ∃ (x : V) (d : PyData), vs = [x] ∧ Tg K H x d ∧ Q (numD d) H
/-- what a kind, a thing and own words are handed in for -/
def AtT (K : PySem.W.Frag) (H : Hp) (a b : Addr) (k : Kd) (ws : List (List Nat)) (x : V) (d : PyData) : Prop := KdAt H a k ∧ k.Ok ∧ OwAt K H b ws ∧ OwOk ws ∧ Tg K H x d
theorem AtT.same {K : PySem.W.Frag} {H H' : Hp} {a b : Addr} {k : Kd} {ws : List (List Nat)} {x : V} {d : PyData} (h : AtT K H a b k ws x d) (s : Same H H') : AtT K H' a b k ws x d := ⟨h.1.same s, h.2.1, h.2.2.1.same s, h.2.2.2.1, h.2.2.2.2.same s⟩
def spFitsT (K : PySem.W.Frag) : Sp := fun vs H Q _ => ∃ (a b : Addr) (k : Kd) (ws : List (List Nat)) (x : V) (d : PyData), vs = [.ref a, x, .ref b] ∧ AtT K H a b k ws x d ∧ Q (.bl (fitB k ws d)) H
noncomputable def worthV (k : Kd) (ws : List (List Nat)) (d : PyData) : V :=
  match k with
  | .num lo hi => match numD d with
    | .int n => if lo ≤ n ∧ n ≤ hi then .int n else .non
    | _ => .non
  | k => if fitB k ws d = true then datV d else .non
def spWorthOf (K : PySem.W.Frag) : Sp := fun vs H Q _ => ∃ (a b : Addr) (k : Kd) (ws : List (List Nat)) (x : V) (d : PyData), vs = [.ref a, x, .ref b] ∧ AtT K H a b k ws x d ∧ ∀ H', Same H H' → Q (worthV k ws d) H'
def knownW (ws : List (List Nat)) : Kd → List (List Nat)
  | .one ns => ns
  | .own _ => ws
  | _ => []
def spWordsOf (K : PySem.W.Frag) : Sp := fun vs H Q _ => ∃ (a b : Addr) (k : Kd) (ws : List (List Nat)), vs = [.ref a, .ref b] ∧ KdAt H a k ∧ OwAt K H b ws ∧ ∀ (p : Addr), H p = none → Q (.ref p) (upd H p (.lst ((knownW ws k).map wV)))
end J
/-! the law's own looks at worths, words and what is known -/
namespace J
open PySem PySem.Spec PyProof.Rows L2 M
/-- things, each with what it is -/
def Sm : PyData → Prop
  | .int i => i.natAbs ≤ 10 ^ 30
  | _ => True
def TgAll (K : PySem.W.Frag) (H : Hp) (es : List (V × PyData)) : Prop := ∀ e ∈ es, Tg K H e.1 e.2 ∧ Sm e.2
theorem TgAll.same {K : PySem.W.Frag} {H H' : Hp} {es : List (V × PyData)} (t : TgAll K H es) (s : Same H H') : TgAll K H' es := fun e he => ⟨(t e he).1.same s, (t e he).2⟩
end J
/-! things and lists of words may be asked for their repr -/
namespace J
open PySem PySem.Spec PyProof.Rows L2 M
theorem log60 {i : Int} (h : i.natAbs ≤ 10 ^ 60) : i.natAbs.log2 < 200 := by
  by_cases h0 : i.natAbs = 0
  · rw [h0]; decide
  · exact (Nat.log2_lt h0).mpr (Nat.lt_of_le_of_lt h (by decide))
theorem show_i60 {i : Int} (h : i.natAbs ≤ 10 ^ 60) : (PyData.shown (.int i)).length ≤ 201 := by
  show (Str.ofString (toString i)).length ≤ 201
  have := int_text_length_le (a := i) (k := 200) (by decide) (log60 h)
  have e : (Str.ofString (toString i)).length = (toString i).length := PySem.ofString_length _
  omega
end J
/-! lists of things, one by one; pieces of texts and texts some times over are things -/
namespace J
open PySem PySem.Spec PyProof.Rows L2 M
theorem TgAll.nil {K : PySem.W.Frag} {H : Hp} : TgAll K H [] := fun _ h => (List.not_mem_nil h).elim
theorem TgAll.cons {K : PySem.W.Frag} {H : Hp} {x : V} {d : PyData} {es : List (V × PyData)} (t : Tg K H x d) (r : TgAll K H es) (sm : Sm d := by first | exact True.intro | (show Int.natAbs _ ≤ _; omega)) : TgAll K H ((x, d) :: es) := fun e he => by
  rcases List.mem_cons.mp he with rfl | h
  · exact ⟨t, sm⟩
  · exact r e h
theorem TgAll.ws {K : PySem.W.Frag} {H : Hp} {ws : List (List Nat)} (h : ∀ w ∈ ws, w.length ≤ 50 ∧ ∀ c ∈ w, c ≤ 126) : TgAll K H (ws.map fun w => (wV w, dW w)) := fun e he => by
  obtain ⟨w, hw, rfl⟩ := List.mem_map.mp he
  exact ⟨tg_w (h w hw).1 (h w hw).2, True.intro⟩
theorem Tg.keep {K : PySem.W.Frag} {H H' : Hp} {b : Addr} {n : Nat} {x : V} {d : PyData} (t : Tg K H x d) (kp : Keep b H H') (hb : Bx H b n) : Tg K H' x d := by
  cases t with
  | str z h c => exact .str z h c
  | non => exact .non
  | int i h => exact .int i h
  | bl b => exact .bl b
  | lst h => exact .lst (kp _ _ h fun e => by
      obtain ⟨x, y, z, q, _⟩ := hb
      rw [e, q] at h
      injection h with h
      injection h with h
      cases h)
  | tup h hl hz => exact .tup (kp.tup hb h) hl hz
theorem TgAll.keep {K : PySem.W.Frag} {H H' : Hp} {b : Addr} {n : Nat} {es : List (V × PyData)} (t : TgAll K H es) (kp : Keep b H H') (hb : Bx H b n) : TgAll K H' es := fun e he => ⟨(t e he).1.keep kp hb, (t e he).2⟩
end J
/-! what is written behind a line that broke off -/
namespace M
/-- a quote within a single-quoted part: closed, stroked, opened anew -/
def q1 : List Nat → List Nat
  | [] => []
  | c :: l => (if c = 39 then [39, 92, 39, 39] else [c]) ++ q1 l
def rq (q : Nat) (l : List Nat) : List Nat := if q = 39 then q1 l ++ [39] else if q = 34 then esc N2 l ++ [34] else esc N1 l
theorem q1_len : ∀ l : List Nat, (q1 l).length ≤ 4 * l.length
  | [] => Nat.le_refl _
  | c :: l => by
    have := q1_len l
    unfold q1
    split <;> simp only [List.length_append, List.length_cons, List.length_nil] <;> omega
theorem q1_mem : ∀ {l : List Nat} {c : Nat}, c ∈ q1 l → c = 39 ∨ c = 92 ∨ c ∈ l
  | [], c, h => by simp [q1] at h
  | d :: l, c, h => by
    unfold q1 at h
    rcases List.mem_append.mp h with h | h
    · split at h
      · simp only [List.mem_cons, List.not_mem_nil, or_false] at h
        omega
      · exact .inr (.inr (List.mem_cons.mpr (.inl (List.mem_singleton.mp h))))
    · rcases q1_mem h with h | h | h
      · exact .inl h
      · exact .inr (.inl h)
      · exact .inr (.inr (List.mem_cons_of_mem _ h))
theorem rq_len (q : Nat) (l : List Nat) : (rq q l).length ≤ 4 * l.length + 1 := by
  have a := q1_len l
  have b := esc_len N2 l
  have c := esc_len N1 l
  unfold rq
  split
  · rw [List.length_append, List.length_singleton]; omega
  · split
    · rw [List.length_append, List.length_singleton]; omega
    · omega
theorem rq_mem {q : Nat} {l : List Nat} (h : ∀ c ∈ l, 32 ≤ c ∧ c ≤ 126) : ∀ c ∈ rq q l, 32 ≤ c ∧ c ≤ 126 := by
  have e : ∀ need, ∀ c ∈ esc need l, 32 ≤ c ∧ c ≤ 126 := fun need c hc => by
    rcases esc_mem hc with r | r
    · omega
    · exact h c r
  intro c hc
  unfold rq at hc
  split at hc
  · rcases List.mem_append.mp hc with r | r
    · rcases q1_mem r with r | r | r
      · omega
      · omega
      · exact h c r
    · have := List.mem_singleton.mp r; omega
  · split at hc
    · rcases List.mem_append.mp hc with r | r
      · exact e _ c r
      · have := List.mem_singleton.mp r; omega
    · exact e _ c hc
/-- what is so of every state that is come to -/
structure Inv (s : Sc) : Prop where
  ws : ∀ l ∈ s.ws, Wd l
  bg : ∀ b, s.bg = some b → Wd b
  no : s.bg = none → s.qt = 0
  gd : Gd s
/-- what is to be written behind the state t for the word w -/
def Tld (t : Sc) (w v : List Nat) : Prop := match t.bg with
  | none => ∃ u, FM (ways w) u ∧ v = u ++ [32]
  | some b => v = rq t.qt (w.drop b.length) ++ [32]
theorem FM.in_ {xs : List (List Nat)} {v : List Nat} (h : FM xs v) : v ∈ xs := let ⟨_, hi, _⟩ := h; List.mem_of_getElem? hi
theorem Tld.ok {t : Sc} {w v : List Nat} (h : Tld t w v) (hw : Wd w) : v.length ≤ 170 ∧ ∀ c ∈ v, 32 ≤ c ∧ c ≤ 126 := by
  unfold Tld at h
  split at h
  · obtain ⟨u, hu, rfl⟩ := h
    obtain ⟨a, b⟩ := way_len hw hu.in_
    refine ⟨by rw [List.length_append, List.length_singleton]; omega, fun c hc => ?_⟩
    rcases List.mem_append.mp hc with q | q
    · exact b c q
    · have := List.mem_singleton.mp q; omega
  · rename_i b _
    subst h
    have a := rq_len t.qt (w.drop b.length)
    have l : (w.drop b.length).length ≤ 40 := by rw [List.length_drop]; have := hw.1; omega
    refine ⟨by rw [List.length_append, List.length_singleton]; omega, fun c hc => ?_⟩
    rcases List.mem_append.mp hc with q | q
    · exact rq_mem (fun d hd => hw.2 d (List.mem_of_mem_drop hd)) c q
    · have := List.mem_singleton.mp q; omega
end M
/-! a test against a written text gives out a token; what is written behind a broken line -/
namespace J
open PySem PySem.Spec PyProof.Rows L2 M CwR
/-- a state at a: whole words (a list or a tuple), the begun one, the open quote -/
def StA (H : Hp) (a : Addr) (t : Sc) : Prop := ∃ w : Addr, H a = some (.tup [.ref w, obV t.bg, .str (qS t.qt)]) ∧ (H w = some (.lst (t.ws.map wV)) ∨ H w = some (.tup (t.ws.map wV)))
theorem StA.keep {H H' : Hp} {a : Addr} {t : Sc} (h : StA H a t) (s : Same H H') : StA H' a t :=
  let ⟨w, h1, h2⟩ := h; ⟨w, s _ _ h1, h2.imp (s _ _) (s _ _)⟩
end J
/-! an own error as a value: made, asked for its class, asked for its repr -/
namespace PySem
open Sem (wp)
open Builtin Builtin.Str Builtin.BaseException Builtin.Exceptions
open PySem.W (Looks Frag findIn subIn looks_findIn looks_subIn clsIn)
section
variable {prog : Program} {w : World} {M : Model} {A : Around} {E : Value → Shared → Prop} {s : Shared} {K : Frag} {C e t0 : Addr}
def nmS (nm : Str) : Str := Str.ofString (((nm.toString).cutAt '.').getLastD "")
end
end PySem
/-! an own error as a value, what it was made of known -/
namespace J
open PySem PySem.Spec PyProof.Rows L2 M
/-- at e: an error of the class at C, made of what the tuple at t1 holds, its dict (none as yet | at d) -/
def exo1 (e C t1 : Addr) (d : Option Addr) : HO := .ext fun h => h.get? e = some ({ cls := .ref C, dict := d, data := .fields #[.ref t1, .none, .none, .none, .bool false, .none] } : Obj)
end J
/-! isinstance and repr of things, own errors among them -/
namespace J
open PySem PySem.Spec PyProof.Rows L2 M
/-- what the written part says of a class whose errors are values -/
structure ExF (K : PySem.W.Frag) (C : Addr) (cd : ClassData) : Prop where
  T : OexC K C
  ga : PySem.W.findIn K (.ref C) "__getattribute__" = some (some (.builtin "BaseException.__getattribute__"))
  gt : PySem.W.findIn K (.ref C) "__getattr__" = some none
  cl : PySem.W.findIn K (.ref C) "__class__" = some (some (.builtin "object.__class__"))
  hn : PySem.W.specialIn K (.builtin "object.__class__") "__get__" = some (some (.builtin "getset_descriptor.__get__"))
  tk : PySem.W.takesIn K (.builtin "object.__class__") = some true
  mo : PySem.W.mroIn K C (.type "object") = some true
  rp : PySem.W.findIn K (.ref C) "__repr__" = some (some (.builtin "BaseException.__repr__"))
  cdE : PySem.W.clsIn K C = some cd
  nm : (PySem.nmS cd.name).length ≤ 1000
  ni : PySem.W.kitOne K (.ref C) (.type "int") = some false
  ns : PySem.W.kitOne K (.ref C) (.type "str") = some false
  nb : PySem.W.kitOne K (.ref C) (.type "bool") = some false
/-- at a: an error of the class at C, made of i -/
def EvA (H : Hp) (C a : Addr) (i : Int) : Prop := ∃ (t1 dx : Addr) (fs : List (Str × V)), H a = some (exo1 a C t1 (some dx)) ∧ H dx = some (exd dx fs) ∧ H t1 = some (.tup [.int i])
theorem EvA.same {H H' : Hp} {C a : Addr} {i : Int} (e : EvA H C a i) (s : Same H H') : EvA H' C a i := by
  obtain ⟨t1, dx, fs, h1, h2, h3⟩ := e
  exact ⟨t1, dx, fs, s _ _ h1, s _ _ h2, s _ _ h3⟩
def rIsiE (K : PySem.W.Frag) (C : Addr) : List V → Hp → VK → Prop := fun xs H Q => ∃ (a : Addr) (i : Int) (n : String) (b : Bool), xs = [.ref a, .ty n] ∧ EvA H C a i ∧ PySem.W.kitOne K (.ref C) (.type n) = some b ∧ Q (.bl b) H
def rIsiX (K : PySem.W.Frag) (C : Addr) : List V → Hp → VK → Prop := fun xs H Q => rIsi K xs H Q ∨ rIsiE K C xs H Q
end J
/-! sep.join(reversed(xs)) -/
namespace J
open PySem PySem.Spec PyProof.Rows L2 M
end J
/-! plain numbers in lots; what is no number; own errors made of a number -/
namespace J
open PySem PySem.Spec PyProof.Rows L2 M
/-! ### figures in lots -/
end J
/-! what is handed in for a number; own errors made on the spot; promises -/
namespace J
open PySem PySem.Spec PyProof.Rows L2 M
inductive Od (C : Addr) (H : Hp) : V → Option Int → Prop where
  | int (i : Int) (h : i.natAbs ≤ 10 ^ 60) : Od C H (.int i) (some i)
  | non : Od C H .non none
  | bl (b : Bool) : Od C H (.bl b) none
  | str (z : Str) (h : z.length ≤ 100) (c : ∀ c ∈ cd z, c ≤ 126) : Od C H (.str z) none
  | lst {a : Addr} (h : H a = some (.lst [.int 7])) : Od C H (.ref a) none
  | tup {a : Addr} (h : H a = some (.tup [.int 7])) : Od C H (.ref a) none
  | dct {a : Addr} (h : H a = some (.dK [])) : Od C H (.ref a) none
  | err {a : Addr} (h : EvA H C a 7) : Od C H (.ref a) none
theorem Od.same {C : Addr} {H H' : Hp} {x : V} {o : Option Int} (t : Od C H x o) (s : Same H H') : Od C H' x o := by
  cases t with
  | int i h => exact .int i h
  | non => exact .non
  | bl b => exact .bl b
  | str z h c => exact .str z h c
  | lst h => exact .lst (s _ _ h)
  | tup h => exact .tup (s _ _ h)
  | dct h => exact .dct (s _ _ h)
  | err h => exact .err (h.same s)
/-! ### promises -/
end J
/-! a lambda that outlives its maker: its captured cell is tracked; it is called by whoever has it -/
namespace J
open PySem PySem.Spec PyProof.Rows L2 M LamX NdefX
/-- a cell whose frame has gone: it holds v -/
def CelO (c : Addr) (v : V) : HO := .ext fun h => ∃ u, RelV v u ∧ h.IsCell c (some u)
/-- the lambda with the body e at f -/
def LamO (f : Addr) (F : NF) (e : Expr) : HO := .ext fun h => ∃ pm ctv, h.get? f = some (PySem.W.kla_obj F.name F.qual F.params e F.scope F.cl pm F.c ctv)
/-- all but what stands at c -/
def wo (H : Hp) (c : Addr) : Hp := fun a => if a = c then none else H a
theorem wo_ne {H : Hp} {c a : Addr} (h : a ≠ c) : wo H c a = H a := if_neg h
theorem wo_at {H : Hp} {c : Addr} : wo H c c = none := if_pos rfl
theorem wo_none {H : Hp} {c a : Addr} (h : H a = none) : wo H c a = none := by
  unfold wo
  split
  · rfl
  · exact h
section
variable {P : Program} {w : World} {K : PySem.W.Frag} {mg : Str → Option Value} {base : Heap} {A : Around} {outer : List Env} {s : Shared} {H : Hp} {c : Addr} {v : V}
theorem celO_ne {o : HO} (h : H c = some (CelO c v)) (n : ∀ φ, o ≠ .ext φ) {b : Addr} (e : H b = some o) : b ≠ c := fun q => by
  subst q
  rw [h] at e
  exact n _ (Option.some.inj e).symm
theorem wo_hok {h : Heap} (hc : H c = some (CelO c v)) (x : HOk P w H h) : HOk P w (wo H c) h := fun a o e => by
  have ne : a ≠ c := fun q => by subst q; rw [wo_at] at e; cases e
  rw [wo_ne ne] at e
  exact (x a o e).stay (fun b u _ q => q) (fun b q => (wo_ne (celO_ne hc (o := .own a) (fun _ z => by cases z) q)).trans q) fun b xs q => (wo_ne (celO_ne hc (o := .tup xs) (fun _ z => by cases z) q)).trans q
theorem wo_env (hc : H c = some (CelO c v)) (e : Env0 P w K mg base A outer s H) : Env0 P w K mg base A outer s (wo H c) :=
  ⟨e.frames, e.mod, fun b o q => ⟨(e.bs b o q).1, wo_none (e.bs b o q).2⟩, e.bsz, e.funs, fun b hb => wo_none (e.frf b hb), wo_hok hc e.hok, e.bare⟩
theorem cel_at {h : Heap} (x : HOk P w H h) (hc : H c = some (CelO c v)) : ∃ u, RelV v u ∧ h.IsCell c (some u) := by
  obtain ⟨z, _, _⟩ := x c _ hc
  exact z
theorem lam_at {h : Heap} {f : Addr} {F : NF} {e : Expr} (x : HOk P w H h) (hf : H f = some (LamO f F e)) : ∃ pm ctv, h.get? f = some (PySem.W.kla_obj F.name F.qual F.params e F.scope F.cl pm F.c ctv) := by
  obtain ⟨z, _, _⟩ := x f _ hf
  exact z
/-- a lambda without parameters runs: its one captured name holds v -/
theorem run_lam {CX : CXT} {F : NF} {f : Addr} {e : Expr} {N : List Str} {y : Str} {k : Nat} {t : TE} {Q : VK} {E : XK} (S : NScope N [] [y] F.scope) (hr : Room (k + 1) A) (e0 : Env0 P w K mg base A outer s H) (hcl : F.cl = [(y, c)]) (hc : H c = some (CelO c v)) (hf : H f = some (LamO f F e)) (hq : H F.c = some (CodeO F.c F.qual))
    (hbind : ∀ pm ctv, bindArgs (PySem.W.kla_fn F.name F.qual F.params e F.scope F.cl pm (.ref F.c) ctv) ⟨[], []⟩ = pure [])
    (hbody : Room k (A.deeper (envF F f s.heap.objs.size)) → PE (ncx CX P w K mg base N F f A outer s (wo H c) E) e t)
    (ht : t (startF N [] [some v]) (wo H c) fun x H' => ∃ p o, x = .ref p ∧ wo H c p = none ∧ H' = upd (wo H c) p o ∧ (p ≠ c → Q (.ref p) (upd H p o)))
    (hE : ∀ e s', CX outer (wo H c) s E e s' → CX outer H s E e s') :
    codeAny (model P w) A (.call (.ref f) ⟨[], []⟩) (CR CX outer P w H s Q E) s := by
  obtain ⟨pm, ctv, ho⟩ := lam_at e0.hok hf
  obtain ⟨⟨oc, vs, tk, h1, h2, h3⟩, _, _⟩ := e0.hok F.c _ hq
  have e1 := wo_env hc e0
  obtain ⟨u, ru, cu⟩ := cel_at e0.hok hc
  have lim : s.heap.NoLimit := e0.mod.nolimit.keeps fun b o q => (e0.bs b o q).1
  have C : CellsAt F.cl [y] [some v] s.heap (wo H c) := by
    rw [hcl]
    refine ⟨rfl, fun z a q => ?_, fun z z' a q q' => ?_, fun i z q => ?_⟩
    · have := PySem.mem_of_lookup q
      rw [List.mem_singleton] at this
      cases this
      exact ⟨wo_at, _, cu⟩
    · have m := PySem.mem_of_lookup q
      have m' := PySem.mem_of_lookup q'
      rw [List.mem_singleton] at m m'
      cases m
      cases m'
      rfl
    · cases i with
      | zero =>
        cases q
        refine ⟨c, by simp [List.lookup], fun v' e' => ?_⟩
        cases e'
        exact ⟨u, ru, cu⟩
      | succ i => cases q
  refine PySem.W.kla_callFunE hr.depth ho rfl S.co S.gen rfl ⟨F.c, oc, vs, tk, rfl, h1, h2, h3⟩ ?_
  rw [hbind]
  refine wpAny_pure (wpAny_newFunctionEnv S.nocell (fun y hy => absurd hy (by simp)) (fun h₁ hns hsb => ⟨lim.fresh _ hsb, ?_⟩) S.kind)
  show codeAny _ _ (.expr e (envF F f s.heap.objs.size)) _ _
  have kp : ∀ b o, s.heap.get? b = some o → h₁.get? b = some o := fun b o e => hsb.extBut b o (Nat.ne_of_lt (Heap.lt_size e)) (Heap.get?_push_of_some _ e)
  have J : Inv (ncx CX P w K mg base N F f A outer s (wo H c) E) [] (startF N [] [some v]) (wo H c) { s with heap := h₁, toks := s.toks + ([] : List (Str × Value)).length } := inv_startN S hr.hd e1 rfl .nil C hns kp
  refine PySem.W.kla_codeExpr (wpAny_mono ((hbody (hr.deeper _)).run [] _ _ _ _ J ht) (fun x' s' hq' => ?_) fun e' s' hq' => ?_)
  · obtain ⟨x, H', J', rx, p, o, rfl, np, rfl, q⟩ := hq'
    obtain ⟨oc', hoc'⟩ : ∃ oc', s.heap.get? c = some oc' := let ⟨o, ho, _⟩ := cu; ⟨o, ho⟩
    have nc : upd (wo H c) p o c = none := J'.base.free c oc' hoc' wo_at (by intro z; cases z)
    have pc : p ≠ c := fun q => by rw [q, upd_same] at nc; cases nc
    have hp : H p = none := by rw [wo_ne pc] at np; exact np
    have cf : c ∉ frs outer := fun z => by
      have := e0.frf c z
      rw [hc] at this
      cases this
    have keepC : s'.heap.get? c = some oc' := J'.base.keep c oc' hoc' wo_at cf (by intro z; cases z)
    have at_ : ∀ b, b ≠ c → upd (wo H c) p o b = upd H p o b := fun b n => by
      by_cases z : b = p
      · rw [z, upd_same, upd_same]
      · rw [upd_ne z, upd_ne z, wo_ne n]
    have nb : ∀ b, H b = none → b ≠ c := fun b n z => by rw [z, hc] at n; cases n
    refine ⟨.ref p, upd H p o, J'.os, J'.bare, ⟨fun b ob q1 q2 => J'.base.keep b ob q1 (wo_none q2), fun b ob q1 q2 => J'.base.slot b ob q1 (wo_none q2), fun b ob q1 q2 q3 => ?_, J'.base.there, fun b xs q1 => ?_, fun b ob u q1 => ?_, fun b ps q1 => ?_⟩, fun a oa q1 => ?_, rx, q pc⟩
    · have := J'.base.free b ob q1 (wo_none q2) q3
      rwa [at_ b (nb b q2)] at this
    · rw [upd_ne (fun z => by rw [z, hp] at q1; cases q1)]; exact q1
    · rw [upd_ne (fun z => by rw [z, hp] at q1; cases q1)]; exact q1
    · exact ⟨#[], by rw [upd_ne (fun z => by rw [z, hp] at q1; cases q1)]; simpa using q1⟩
    · by_cases z : a = c
      · subst z
        rw [upd_ne (Ne.symm pc), hc] at q1
        cases q1
        obtain ⟨o1, ho1, hd1⟩ := cu
        cases hoc'.symm.trans ho1
        exact ⟨⟨u, ru, _, keepC, hd1⟩, ⟨_, keepC⟩, fun h1 h2 ⟨u', r', o', e', d'⟩ st => ⟨u', r', o', st _ e', d'⟩⟩
      · have q2 := q1
        rw [← at_ a z] at q2
        refine (J'.hok a oa q2).stay (fun b u _ q => q) (fun b q3 => ?_) fun b xs q3 => ?_
        · by_cases zb : b = c
          · rw [zb, nc] at q3; cases q3
          · rwa [at_ b zb] at q3
        · by_cases zb : b = c
          · rw [zb, nc] at q3; cases q3
          · rwa [at_ b zb] at q3
  · refine wpAny_mono hq' (fun _ s'' z => hE _ _ z) fun e'' s'' z => hE _ _ z
end
end J
namespace J
open PySem PySem.Spec PyProof.Rows L2 M LamX NdefX
/-- a lambda's words, as written -/
structure LamW where
  qual : Str
  params : Arguments
  scope : Scope
  e : Expr
  y : Str
def LamW.nf (W : LamW) (c c' : Addr) : NF := ⟨"<lambda>", W.qual, W.params, [], W.scope, [(W.y, c)], c'⟩
/-- the lambda W at f, what it captured is v -/
def TellsAt (W : LamW) (H : Hp) (f : Addr) (v : V) : Prop := ∃ c c', H f = some (LamO f (W.nf c c') W.e) ∧ H c = some (CelO c v) ∧ H c' = some (CodeO c' W.qual)
def tAsk (W : LamW) (i : Nat) (N : List Str) (t : TE) : TE := fun σ H Q => ∃ f c c' v, σ[i]? = some (some (.ref f)) ∧ H f = some (LamO f (W.nf c c') W.e) ∧ H c = some (CelO c v) ∧ H c' = some (CodeO c' W.qual) ∧
  t (startF N [] [some v]) (wo H c) fun x H' => ∃ p o, x = .ref p ∧ wo H c p = none ∧ H' = upd (wo H c) p o ∧ (p ≠ c → Q (.ref p) (upd H p o))
section
variable {X : Cx} {W : LamW} {N : List Str} {i k : Nat} {x : Str} {t : TE} {p pos : Pos}
theorem pe_ask (hN : X.N[i]? = some x) (hv : Vis X.env.scope x) (hr : Room (k + 1) X.A) (S : NScope N [] [W.y] W.scope) (hbind : ∀ (cl : List (Str × Addr)) (pm cv ctv : Value), bindArgs (PySem.W.kla_fn "<lambda>" W.qual W.params W.e W.scope cl pm cv ctv) ⟨[], []⟩ = pure [])
    (hbody : ∀ (A : Around) (outer : List Env) (s : Shared) (H : Hp) (f c c' : Addr), Room k (A.deeper (envF (W.nf c c') f s.heap.objs.size)) → PE (ncx CX0 X.prog X.w X.K X.mg X.base N (W.nf c c') f A outer s H E0) W.e t)
    (hd : (x == ("__debug__" : Str)) = false := by decide) (hcd : (x == ("__classdict__" : Str)) = false := by decide) : PE X (.Call (.Name x p) [] [] pos) (tAsk W i N t) := by
  refine ⟨fun pins s σ H Q I h => ?_⟩
  obtain ⟨f, c, c', v, hs, hf, hc, hq, ht⟩ := h
  refine wpAny_Call_Name_kw (thn ((pe_var (pos := p) hN hv hd hcd).run pins s σ H (fun v H1 => v = .ref f ∧ H1 = H) I ⟨.ref f, hs, rfl, rfl⟩) fun u s1 ⟨v1, H1, I1, r1, q1⟩ => ?_)
  obtain ⟨ev, eH⟩ := q1
  subst ev
  rw [eH] at I1
  obtain rfl : u = Value.ref f := r1
  have fnAt : PySem.W.FnAt f s1.heap := by
    obtain ⟨pm, ctv, ho⟩ := lam_at I1.hok hf
    exact ⟨_, _, _, _, ho⟩
  refine PySem.W.callWith_F0 (first := []) fnAt ?_
  show wpAny _ _ (call (.ref f) []) _ _ _
  refine wpAny_call (codeAny_mono (run_lam (CX := CX0) (E := E0) (F := W.nf c c') (y := W.y) S hr I1.env0 rfl hc hf hq (fun pm ctv => hbind _ pm _ ctv) (fun hr' => hbody X.A X.stack s1 (wo H c) f c c' hr') ht fun _ _ z => z) fun r s' hq' => ?_)
  cases r with
  | error e => exact (show False from hq').elim
  | ok fl =>
    cases fl with
    | ret u => exact I1.after hq'
    | next => exact False.elim hq'
    | brk => exact False.elim hq'
    | cont => exact False.elim hq'
end
/-- a list asked for: list(what was captured) -/
theorem r_askL {K : PySem.W.Frag} {W : LamW} {i : Nat} {y : Str} {σ : L2.St} {H : Hp} {Q : VK} {f l : Addr} {xs : List V} (hs : σ[i]? = some (some (.ref f))) (T : TellsAt W H f (.ref l)) (hl : H l = some (.lst xs)) (k : ∀ p, H p = none → Q (.ref p) (upd H p (.lst xs))) :
    tAsk W i [y] (tCB (rListOf K) (tCons (tVar 0) tNil)) σ H Q := by
  obtain ⟨c, c', h1, h2, h3⟩ := T
  refine ⟨f, c, c', _, hs, h1, h2, h3, ?_⟩
  have ne : l ≠ c := celO_ne h2 (fun _ z => by cases z) hl
  refine ⟨.ref l, rfl, ⟨l, xs, rfl, .inl (SqL.of (by rw [wo_ne ne]; exact hl)), fun p hp => ⟨p, _, rfl, hp, rfl, fun pc => k p (by rw [wo_ne pc] at hp; exact hp)⟩⟩⟩
end J
/-! the making of a lambda that is told -/
namespace J
open PySem PySem.Spec PyProof.Rows L2 M LamX NdefX
section
variable {X : Cx} {pins : List (Addr × Obj)} {σ : L2.St} {H : Hp} {s : Shared}
theorem inv_lam {F : NF} {e : Expr} {t' : Nat} {pm ctv : Value} (I : Inv X pins σ H s) :
    Inv X pins σ (upd H s.heap.objs.size (LamO s.heap.objs.size F e)) { s with heap := s.heap.push (PySem.W.kla_obj F.name F.qual F.params e F.scope F.cl pm F.c ctv), toks := t' } := by
  refine I.laid (a := s.heap.objs.size) (fun b u e => Heap.get?_push_of_some _ e) (Nat.le_refl _) ?_
  have z : (s.heap.push (PySem.W.kla_obj F.name F.qual F.params e F.scope F.cl pm F.c ctv)).get? s.heap.objs.size = some (PySem.W.kla_obj F.name F.qual F.params e F.scope F.cl pm F.c ctv) := Heap.get?_push_size _ rfl
  exact ⟨⟨pm, ctv, z⟩, ⟨_, z⟩, fun h1 h2 ⟨p, t, z⟩ st => ⟨p, t, st _ z⟩⟩
/-- a lambda is made: its code object is new, or found in the table at P -/
theorem lam_make3 {c P : Addr} {q : Str} {params : Arguments} {body : Expr} {scope : Scope} {pos : Pos} {E : Value → Shared → Prop} {Q : Value → Shared → Prop} (I : Inv X pins σ H s) (TB : TabB X.base X.mg c P) (hcode : X.env.code = .ref c) (hq : X.env.qual ++ "<lambda>" = q)
    (hT : TabS H P q) (hdef : defaultsOf params X.env = ([], [])) (hfree : ∀ y ∈ scope.names, y.2 = .free → ∃ c, X.env.cells.lookup y.1 = some c)
    (h : ∀ (f c' : Addr) (H1 : Hp) (s' : Shared), Inv X pins σ H1 s' → (∀ b o, H b = some o → b ≠ P → H1 b = some o) → TabS H1 P q → s.heap.objs.size ≤ f → H f = none → f ≠ P →
      H1 f = some (LamO f ⟨"<lambda>", q, params, [], scope, cloFrom X.env.cells scope.names [], c'⟩ body) → H1 c' = some (CodeO c' q) → Q (.ref f) s') :
    wpAny (model X.prog X.w) X.A (eval (.Lambda params body scope pos) X.env) Q E s := by
  obtain ⟨ps, hP, ht, ha⟩ := id hT
  refine PySem.W.kla_eval hdef ?_
  rw [hq]
  have bP : s.heap.BuiltinsAt X.mg P := TB.bm.keeps I.bk
  have hP' : s.heap.get? P = some { cls := .none, data := .fields ps } := I.hok P _ hP
  have gone : ∀ f, s.heap.objs.size ≤ f → H f = none ∧ f ≠ P := fun f hf => ⟨I.hok.fresh hf, fun z => by
    rw [z] at hf
    exact Nat.lt_irrefl _ (Nat.lt_of_lt_of_le (Heap.lt_size hP') hf)⟩
  cases hc : codeAmong pos ps.toList with
  | none =>
    refine PySem.W.kla_makeFunction (mg := X.mg) (c := c) (P := P) (ps := ps) (closure_ok hfree) I.ok.glob (I.mod.glob.keeps I.bk) hcode (TB.code.keeps I.bk) hP' ht hc TB.gP bP fun c' ctv h' tk hx hge hlt hrec htb => ?_
    obtain ⟨c2, oc, vs, t, e2, hoc, hd, hv⟩ := hrec
    cases e2
    have nC : H c' = none := I.hok.fresh hge
    have I1 := inv_table (q := q) (t' := tk) (more := #[rawInt pos.line, rawInt pos.col, .ref c']) (h' := h') I hP (fun b o hb e => hx b o hb e) htb hge ⟨oc, vs, t, hoc, hd, hv⟩
    have le : s.heap.objs.size ≤ h'.objs.size := Nat.le_trans hge (Nat.le_of_lt hlt)
    have nF := I1.hok.fresh (Nat.le_refl _)
    have I2 := inv_lam (F := ⟨"<lambda>", q, params, [], scope, cloFrom X.env.cells scope.names [], c'⟩) (e := body) (t' := tk) (pm := (X.mg "__name__").getD .none) (ctv := ctv) I1
    have fc : h'.objs.size ≠ c' := Nat.ne_of_gt hlt
    have keep : ∀ b o, H b = some o → b ≠ P → upd (upd (upd H P (.tbl (ps ++ #[rawInt pos.line, rawInt pos.col, .ref c']))) c' (CodeO c' q)) h'.objs.size (LamO h'.objs.size ⟨"<lambda>", q, params, [], scope, cloFrom X.env.cells scope.names [], c'⟩ body) b = some o := fun b o e n => by
      have e1 : upd (upd H P (.tbl (ps ++ #[rawInt pos.line, rawInt pos.col, .ref c']))) c' (CodeO c' q) b = some o := by rw [upd_ne (ne_of_none e nC), upd_ne n]; exact e
      exact (upd_ne (ne_of_none e1 nF)).trans e1
    have eL : (ps ++ #[rawInt pos.line, rawInt pos.col, .ref c']).toList = ps.toList ++ [rawInt pos.line, rawInt pos.col, .ref c'] := by simp
    have atC : upd (upd (upd H P (.tbl (ps ++ #[rawInt pos.line, rawInt pos.col, .ref c']))) c' (CodeO c' q)) h'.objs.size (LamO h'.objs.size ⟨"<lambda>", q, params, [], scope, cloFrom X.env.cells scope.names [], c'⟩ body) c' = some (CodeO c' q) := (upd_ne (Ne.symm fc)).trans upd_same
    refine h h'.objs.size c' _ _ I2 keep ⟨ps ++ #[rawInt pos.line, rawInt pos.col, .ref c'], ?_, ?_, fun p' cv hcv => ?_⟩ le (gone _ le).1 (gone _ le).2 upd_same atC
    · rw [upd_ne (Ne.symm (gone _ le).2), upd_ne (ne_of_none hP nC), upd_same]
    · rw [eL]; exact PySem.TriplesOk_snoc _ _ _ _ ht
    · rw [eL] at hcv
      rcases among_app _ ht hcv with z | z
      · obtain ⟨c0, e1, e2⟩ := ha p' cv z
        exact ⟨c0, e1, keep _ _ e2 fun w => codeO_ne ps (by rw [w, hP] at e2; exact (Option.some.inj e2).symm)⟩
      · exact ⟨c', z, atC⟩
  | some cv =>
    obtain ⟨c', e, hco⟩ := ha pos cv hc
    subst e
    refine PySem.W.kla_makeFunctionHit (mg := X.mg) (c := c) (P := P) (ps := ps) (closure_ok hfree) I.ok.glob (I.mod.glob.keeps I.bk) hcode (TB.code.keeps I.bk) hP' ht hc bP fun ctv h' tk hx hsz => ?_
    have I1 : Inv X pins σ H { s with heap := h', toks := tk } := I.kept hx
    have nF : H h'.objs.size = none := I1.hok.fresh (Nat.le_refl _)
    have I2 := inv_lam (F := ⟨"<lambda>", q, params, [], scope, cloFrom X.env.cells scope.names [], c'⟩) (e := body) (t' := tk) (pm := (X.mg "__name__").getD .none) (ctv := ctv) I1
    have keep : ∀ b o, H b = some o → upd H h'.objs.size (LamO h'.objs.size ⟨"<lambda>", q, params, [], scope, cloFrom X.env.cells scope.names [], c'⟩ body) b = some o := fun b o e => (upd_ne (ne_of_none e nF)).trans e
    exact h h'.objs.size c' _ _ I2 (fun b o e _ => keep b o e) (hT.ext keep) hsz (gone _ hsz).1 (gone _ hsz).2 upd_same (keep _ _ hco)
end
end J
namespace J
open PySem PySem.Spec PyProof.Rows L2 M LamX NdefX
/-- what is told: a lambda that keeps v; the table at Pt grows -/
def spTell (Pt : Addr) (W : LamW) : Sp := fun vs H Q _ => ∃ v, vs = [v] ∧ TabS H Pt W.qual ∧ ∀ f H', Keep Pt H H' → TabS H' Pt W.qual → H f = none → TellsAt W H' f v → Q (.ref f) H'
/-- a cell is tracked once nobody writes it any more -/
theorem hok_cel {P : Program} {w : World} {H : Hp} {h : Heap} {c : Addr} {v : V} {u : Value} (x : HOk P w H h) (n : H c = none) (r : RelV v u) (e : h.IsCell c (some u)) : HOk P w (upd H c (CelO c v)) h := fun a o q => by
  by_cases z : a = c
  · subst z
    rw [upd_same] at q
    cases q
    obtain ⟨oc, ho, hd⟩ := e
    exact ⟨⟨u, r, oc, ho, hd⟩, ⟨_, ho⟩, fun h1 h2 ⟨u', r', o', e', d'⟩ st => ⟨u', r', o', st _ e', d'⟩⟩
  · rw [upd_ne z] at q
    refine (x a o q).stay (fun b u _ q => q) (fun b q3 => ?_) fun b xs q3 => ?_
    · rw [upd_ne (ne_of_none q3 n)]; exact q3
    · rw [upd_ne (ne_of_none q3 n)]; exact q3
theorem fn_tell {P : Program} {w : World} {K : PySem.W.Frag} {mg : Str → Option Value} {base : Heap} {k : Nat} {f cd Pt : Addr} {x qual y : Str} {st : Stmt} {W : LamW} {lpos rpos : Pos} {kV doc pm ct oc : Value} {an od : Option Addr} {osl : Array (Option Value)}
    (lk : K.lookup f = some ⟨oc, od, .func (PySem.W.fnOf x qual (defArgs st) (defBody st) (defScope st) .none kV doc pm an (.ref cd) ct), osl⟩) (hcd : PySem.W.codeIn K (.ref cd) qual = true) (TB : TabB base mg cd Pt) (S : FnScope [y] [y] (defScope st))
    (hbd : defBody st = [.Return (some (.Lambda W.params W.e W.scope lpos)) rpos]) (hy : W.y = y) (hq : ∀ n, (envOfC qual (defScope st) n f (.ref cd)).qual ++ "<lambda>" = W.qual)
    (hdef : ∀ n, defaultsOf W.params (envOfC qual (defScope st) n f (.ref cd)) = ([], [])) (hfr : ∀ n, ∀ z ∈ W.scope.names, z.2 = .free → ∃ c, (cellsFrom n (defScope st).names []).lookup z.1 = some c)
    (hcl : ∀ n, cloFrom (cellsFrom n (defScope st).names []) W.scope.names [] = [(y, n)]) (hk : (defScope st).names.lookup y = some .cell) (hlook : ∀ n, (cellsFrom n (defScope st).names []).lookup y = some n) :
    FnOk P w K mg base CX0 (k + 1) f (PySem.W.fnOf x qual (defArgs st) (defBody st) (defScope st) .none kV doc pm an (.ref cd) ct) [y] (spTell Pt W) := by
  refine ⟨fun vs H Q E h => ?_, fun A outer s H args us vs Q E hr e0 hb r hsp => ?_⟩
  · obtain ⟨v, rfl, _⟩ := h
    rfl
  obtain ⟨v, rfl, hT, hsp⟩ := hsp
  have KX : K.In s.heap := e0.mod.kin.keeps fun b o e => (e0.bs b o e).1
  have lim : s.heap.NoLimit := e0.mod.nolimit.keeps fun b o e => (e0.bs b o e).1
  have hkind : ∀ z ∈ [y].zip us, (defScope st).names.lookup z.1 = some .local ∨ ((defScope st).names.lookup z.1 = some .cell ∧ ((cellsFrom (s.heap.objs.size + 1) (defScope st).names []).lookup z.1).isSome = true) := fun ⟨n, u⟩ hz => by
    have : n = y := List.mem_singleton.mp (List.of_mem_zip hz).1
    subst this
    exact .inr ⟨hk, by rw [hlook]; rfl⟩
  refine codeAny_call_function hr.depth (KX _ _ lk) rfl S.co S.gen rfl (PySem.W.codeRec_of KX hcd) (hb _ _ _ _ ?_)
  refine wpAny_newFunctionEnv_cells S.kind hkind fun env he s1 xx => ?_
  subst he
  refine ⟨lim.keeps xx.toInCall.keep, codeAny_func ?_⟩
  have I : Inv (cxOf CX0 P w K mg base [y] qual (defScope st) f (.ref cd) A outer s H E) [] (L2.start [y] [v]) H s1 := inv_start S hr.hd e0 rfl r xx
  rw [hbd]
  refine wpAny_execs_cons (wpAny_Return_some (lam_make3 I TB rfl (hq _) hT (hdef _) (hfr _) fun fa c' H1 s' I1 keep T1 le nf nfP hL hC => ?_))
  obtain ⟨m, hn, hl⟩ := I1.loc
  obtain ⟨u, ru, lu⟩ := hl 0 y v rfl rfl (.inr (.inl hk))
  have cellAt : s'.heap.IsCell (s.heap.objs.size + 1) (some u) := by
    rcases lu with ⟨z, _⟩ | ⟨_, c2, e2, z⟩
    · have z' : (defScope st).names.lookup y = some .local := z
      rw [hk] at z'
      cases z'
    · have e3 : (cellsFrom (s.heap.objs.size + 1) (defScope st).names []).lookup y = some c2 := e2
      rw [hlook] at e3
      cases e3
      exact z
  have nc : H1 (s.heap.objs.size + 1) = none := I1.freeC y _ (hlook _)
  have ncH : ∀ b o, s.heap.get? b = some o → b ≠ s.heap.objs.size + 1 := fun b o e z => by
    have := Heap.lt_size e
    rw [z] at this
    exact Nat.lt_irrefl _ (Nat.lt_trans (Nat.lt_succ_self _) this)
  have up : ∀ b o, H1 b = some o → upd H1 (s.heap.objs.size + 1) (CelO (s.heap.objs.size + 1) v) b = some o := fun b o e => (upd_ne (ne_of_none e nc)).trans e
  refine ⟨.ref fa, upd H1 (s.heap.objs.size + 1) (CelO (s.heap.objs.size + 1) v), I1.os, I1.bare, ⟨I1.base.keep, I1.base.slot, fun b o e1 e2 e3 => ?_, I1.base.there, fun b xs e => up b _ (I1.base.tups b xs e), fun b o u e => up b _ (I1.base.frzs b o u e), fun b ps e => ?_⟩, hok_cel I1.hok nc ru cellAt, rfl, ?_⟩
  · rw [upd_ne (ncH b o e1)]
    exact I1.base.free b o e1 e2 e3
  · obtain ⟨more, z⟩ := I1.base.tbls b ps e
    exact ⟨more, up b _ z⟩
  · refine hsp fa _ (fun b o e n => up b o (keep b o e n)) (T1.ext up) nf ⟨s.heap.objs.size + 1, c', ?_, upd_same, up c' _ hC⟩
    have := up fa _ hL
    rw [show cloFrom (cxOf CX0 P w K mg base [y] qual (defScope st) f (.ref cd) A outer s H E).env.cells W.scope.names [] = [(y, s.heap.objs.size + 1)] from hcl _] at this
    unfold LamW.nf
    rw [hy]
    exact this
end J
namespace K60
open PySem PySem.Spec PyProof.Rows L2 J M
def topS (i : Nat) : Stmt := PySem.Challenge.pw_callwords_k60_tables_of_kinds.main.body.getD i (.Pass ⟨0, 0, 0, 0⟩)
abbrev s_is_whole : Stmt := topS 22
abbrev N_is_whole : List Str := ["thing", "low", "high"]
abbrev P_is_whole : List Str := ["thing", "low", "high"]
theorem sc_is_whole : FnScope N_is_whole P_is_whole (defScope s_is_whole) := ⟨rfl, rfl, rfl, by decide +kernel, rfl, by decide +kernel, by decide +kernel⟩
abbrev s_is_name : Stmt := topS 23
abbrev N_is_name : List Str := ["thing"]
abbrev P_is_name : List Str := ["thing"]
theorem sc_is_name : FnScope N_is_name P_is_name (defScope s_is_name) := ⟨rfl, rfl, rfl, by decide +kernel, rfl, by decide +kernel, by decide +kernel⟩
abbrev s_is_word : Stmt := topS 25
abbrev N_is_word : List Str := ["thing"]
abbrev P_is_word : List Str := ["thing"]
theorem sc_is_word : FnScope N_is_word P_is_word (defScope s_is_word) := ⟨rfl, rfl, rfl, by decide +kernel, rfl, by decide +kernel, by decide +kernel⟩
abbrev s_are_signs : Stmt := topS 26
abbrev N_are_signs : List Str := ["text"]
abbrev P_are_signs : List Str := ["text"]
theorem sc_are_signs : FnScope N_are_signs P_are_signs (defScope s_are_signs) := ⟨rfl, rfl, rfl, by decide +kernel, rfl, by decide +kernel, by decide +kernel⟩
abbrev s_is_kind : Stmt := topS 27
abbrev N_is_kind : List Str := ["thing", "head", "many"]
abbrev P_is_kind : List Str := ["thing"]
theorem sc_is_kind : FnScope N_is_kind P_is_kind (defScope s_is_kind) := ⟨rfl, rfl, rfl, by decide +kernel, rfl, by decide +kernel, by decide +kernel⟩
abbrev s_are_bounds : Stmt := topS 28
abbrev N_are_bounds : List Str := ["things"]
abbrev P_are_bounds : List Str := ["things"]
theorem sc_are_bounds : FnScope N_are_bounds P_are_bounds (defScope s_are_bounds) := ⟨rfl, rfl, rfl, by decide +kernel, rfl, by decide +kernel, by decide +kernel⟩
abbrev s_are_choices : Stmt := topS 29
abbrev N_are_choices : List Str := ["thing", "name"]
abbrev P_are_choices : List Str := ["thing"]
theorem sc_are_choices : FnScope N_are_choices P_are_choices (defScope s_are_choices) := ⟨rfl, rfl, rfl, by decide +kernel, rfl, by decide +kernel, by decide +kernel⟩
abbrev s_are_unlike : Stmt := topS 30
abbrev N_are_unlike : List Str := ["texts"]
abbrev P_are_unlike : List Str := ["texts"]
theorem sc_are_unlike : FnScope N_are_unlike P_are_unlike (defScope s_are_unlike) := ⟨rfl, rfl, rfl, by decide +kernel, rfl, by decide +kernel, by decide +kernel⟩
abbrev s_are_own_words : Stmt := topS 31
abbrev N_are_own_words : List Str := ["thing", "word"]
abbrev P_are_own_words : List Str := ["thing"]
theorem sc_are_own_words : FnScope N_are_own_words P_are_own_words (defScope s_are_own_words) := ⟨rfl, rfl, rfl, by decide +kernel, rfl, by decide +kernel, by decide +kernel⟩
abbrev s_number_in : Stmt := topS 32
abbrev N_number_in : List Str := ["thing", "below", "figures", "number", "figure"]
abbrev P_number_in : List Str := ["thing"]
theorem sc_number_in : FnScope N_number_in P_number_in (defScope s_number_in) := ⟨rfl, rfl, rfl, by decide +kernel, rfl, by decide +kernel, by decide +kernel⟩
abbrev s_are_figures : Stmt := topS 33
abbrev N_are_figures : List Str := ["text"]
abbrev P_are_figures : List Str := ["text"]
theorem sc_are_figures : FnScope N_are_figures P_are_figures (defScope s_are_figures) := ⟨rfl, rfl, rfl, by decide +kernel, rfl, by decide +kernel, by decide +kernel⟩
abbrev s_look_at_kinds : Stmt := topS 34
abbrev N_look_at_kinds : List Str := ["kind", "own"]
abbrev P_look_at_kinds : List Str := ["kind", "own"]
theorem sc_look_at_kinds : FnScope N_look_at_kinds P_look_at_kinds (defScope s_look_at_kinds) := ⟨rfl, rfl, rfl, by decide +kernel, rfl, by decide +kernel, by decide +kernel⟩
abbrev s_fits : Stmt := topS 36
abbrev N_fits : List Str := ["kind", "thing", "own"]
abbrev P_fits : List Str := ["kind", "thing", "own"]
theorem sc_fits : FnScope N_fits P_fits (defScope s_fits) := ⟨rfl, rfl, rfl, by decide +kernel, rfl, by decide +kernel, by decide +kernel⟩
abbrev s_worth_of : Stmt := topS 37
abbrev N_worth_of : List Str := ["kind", "word", "own", "worth"]
abbrev P_worth_of : List Str := ["kind", "word", "own"]
theorem sc_worth_of : FnScope N_worth_of P_worth_of (defScope s_worth_of) := ⟨rfl, rfl, rfl, by decide +kernel, rfl, by decide +kernel, by decide +kernel⟩
abbrev s_words_of : Stmt := topS 38
abbrev N_words_of : List Str := ["kind", "own"]
abbrev P_words_of : List Str := ["kind", "own"]
theorem sc_words_of : FnScope N_words_of P_words_of (defScope s_words_of) := ⟨rfl, rfl, rfl, by decide +kernel, rfl, by decide +kernel, by decide +kernel⟩
abbrev s_table_of : Stmt := topS 93
abbrev N_table_of : List Str := ["grammar", "kind"]
abbrev P_table_of : List Str := ["grammar", "kind"]
theorem sc_table_of : FnScope N_table_of P_table_of (defScope s_table_of) := ⟨rfl, rfl, rfl, by decide +kernel, rfl, by decide +kernel, by decide +kernel⟩
abbrev s_table_with : Stmt := topS 94
abbrev N_table_with : List Str := ["kind", "own"]
abbrev P_table_with : List Str := ["kind", "own"]
theorem sc_table_with : FnScope N_table_with P_table_with (defScope s_table_with) := ⟨rfl, rfl, rfl, by decide +kernel, rfl, by decide +kernel, by decide +kernel⟩
abbrev s_law_cell : Stmt := topS 96
abbrev N_law_cell : List Str := ["_law_script", "_law_k"]
abbrev P_law_cell : List Str := ["_law_script", "_law_k"]
theorem sc_law_cell : FnScope N_law_cell P_law_cell (defScope s_law_cell) := ⟨rfl, rfl, rfl, by decide +kernel, rfl, by decide +kernel, by decide +kernel⟩
abbrev s_law_box : Stmt := topS 97
abbrev N_law_box : List Str := ["_law_cell_here"]
abbrev P_law_box : List Str := ["_law_cell_here"]
theorem sc_law_box : FnScope N_law_box P_law_box (defScope s_law_box) := ⟨rfl, rfl, rfl, by decide +kernel, rfl, by decide +kernel, by decide +kernel⟩
abbrev s_law_take : Stmt := topS 98
abbrev N_law_take : List Str := ["_law_box_here", "_law_wide", "_law_digit", "_law_number"]
abbrev P_law_take : List Str := ["_law_box_here", "_law_wide"]
theorem sc_law_take : FnScope N_law_take P_law_take (defScope s_law_take) := ⟨rfl, rfl, rfl, by decide +kernel, rfl, by decide +kernel, by decide +kernel⟩
abbrev s_law_names : Stmt := topS 99
abbrev N_law_names : List Str := ["_law_box_here", "_law_many", "_law_size", "_law_letters", "_law_k", "_law_stem", "_law_first", "_law_way", "_law_found", "_law_sign", "_law_some", "_law_name", "_law_other"]
abbrev P_law_names : List Str := ["_law_box_here", "_law_many", "_law_size"]
theorem sc_law_names : FnScope N_law_names P_law_names (defScope s_law_names) := ⟨rfl, rfl, rfl, by decide +kernel, rfl, by decide +kernel, by decide +kernel⟩
abbrev s_law_teller : Stmt := topS 100
abbrev N_law_teller : List Str := ["_law_words"]
abbrev P_law_teller : List Str := ["_law_words"]
theorem sc_law_teller : FnScope N_law_teller P_law_teller (defScope s_law_teller) := ⟨rfl, rfl, rfl, by decide +kernel, rfl, by decide +kernel, by decide +kernel⟩
abbrev s_law_kinds : Stmt := topS 101
abbrev N_law_kinds : List Str := ["_law_box_here", "_law_low", "_law_more", "_law_names_here", "_law_some", "_law_many"]
abbrev P_law_kinds : List Str := ["_law_box_here"]
theorem sc_law_kinds : FnScope N_law_kinds P_law_kinds (defScope s_law_kinds) := ⟨rfl, rfl, rfl, by decide +kernel, rfl, by decide +kernel, by decide +kernel⟩
abbrev s_law_tables : Stmt := topS 102
abbrev N_law_tables : List Str := ["_law_box_here", "_law_names_here", "_law_words"]
abbrev P_law_tables : List Str := ["_law_box_here", "_law_names_here"]
theorem sc_law_tables : FnScope N_law_tables P_law_tables (defScope s_law_tables) := ⟨rfl, rfl, rfl, by decide +kernel, rfl, by decide +kernel, by decide +kernel⟩
abbrev s_law_due : Stmt := topS 103
abbrev N_law_due : List Str := ["_law_kind", "_law_heap"]
abbrev P_law_due : List Str := ["_law_kind", "_law_heap"]
theorem sc_law_due : FnScope N_law_due P_law_due (defScope s_law_due) := ⟨rfl, rfl, rfl, by decide +kernel, rfl, by decide +kernel, by decide +kernel⟩
abbrev s_law_tried : Stmt := topS 104
abbrev N_law_tried : List Str := ["_law_kinds_here", "_law_heap", "_law_names_here", "_law_found", "_law_kind", "_law_many", "_law_number"]
abbrev P_law_tried : List Str := ["_law_kinds_here", "_law_heap", "_law_names_here"]
theorem sc_law_tried : FnScope N_law_tried P_law_tried (defScope s_law_tried) := ⟨rfl, rfl, rfl, by decide +kernel, rfl, by decide +kernel, by decide +kernel⟩
abbrev s_law_worths : Stmt := topS 105
abbrev N_law_worths : List Str := ["_law_kind", "_law_heap", "_law_words", "_law_some", "_law_word"]
abbrev P_law_worths : List Str := ["_law_kind", "_law_heap", "_law_words"]
theorem sc_law_worths : FnScope N_law_worths P_law_worths (defScope s_law_worths) := ⟨rfl, rfl, rfl, by decide +kernel, rfl, by decide +kernel, by decide +kernel⟩
abbrev s_law_refused : Stmt := topS 106
abbrev N_law_refused : List Str := ["_law_grammar", "_law_thing", "e"]
abbrev P_law_refused : List Str := ["_law_grammar", "_law_thing"]
theorem sc_law_refused : FnScope N_law_refused P_law_refused (defScope s_law_refused) := ⟨rfl, rfl, rfl, by decide +kernel, rfl, by decide +kernel, by decide +kernel⟩
abbrev s_law : Stmt := topS 107
abbrev N_law : List Str := ["_law_script", "_law_k", "_law_box_here", "_law_kinds_here", "_law_names_here", "_law_told", "_law_places", "_law_tool", "_law_words", "_law_rows", "_law_one", "_law_other", "_law_odd", "_law_thing", "_law_bad", "_law_kind", "_law_row", "_law_name"]
abbrev P_law : List Str := ["_law_script"]
theorem sc_law : FnScope N_law P_law (defScope s_law) := ⟨rfl, rfl, rfl, by decide +kernel, rfl, by decide +kernel, by decide +kernel⟩
local macro_rules | `(tactic| walk_at "hp") => `(tactic| first | assumption | exact upd_same | (rw [upd_ne (by assumption)]; walk_at "hp") | (rw [upd_ne (Ne.symm (by assumption))]; walk_at "hp"))
local macro_rules | `(tactic| walk_at "s") => `(tactic| first
  | ((with_reducible refine' r_var ?h ?k); (case h => exact rfl))
  | (with_reducible refine r_c ?_)
  | (with_reducible refine r_op ?_)
  | (with_reducible refine r_un ?_)
  | (with_reducible refine r_seq ?_)
  | (with_reducible refine r_next ?_)
  | (with_reducible refine r_sets ?_)
  | (with_reducible refine r_gname ?_)
  | (with_reducible refine r_ifS ?_)
  | (with_reducible refine r_gsub ?_)
  | (with_reducible refine r_test ?_)
  | (with_reducible refine r_tb ?_)
  | (with_reducible refine r_not ?_)
  | (with_reducible refine r_and ?_)
  | (with_reducible refine r_or ?_)
  | (with_reducible refine r_andV ?_)
  | (with_reducible refine r_orV ?_)
  | (with_reducible refine r_notV ?_)
  | (with_reducible refine r_ifE ?_)
  | (with_reducible refine r_chain ?_)
  | (with_reducible refine r_cb ?_)
  | (with_reducible refine r_cons ?_)
  | (with_reducible refine r_nil ?_)
  | (with_reducible refine r_call ?_)
  | (with_reducible refine r_lst ?_)
  | (with_reducible refine r_tup ?_)
  | (with_reducible refine r_slice ?_)
  | (with_reducible refine r_nop ?_)
  | (with_reducible refine r_part ?_)
  | (with_reducible refine r_bm ?_)
  | (with_reducible refine r_m1 ?_)
  | (with_reducible refine r_m0 ?_)
  | (with_reducible refine r_is ?_)
  | (with_reducible refine r_maxD ?_)
  | (with_reducible refine r_orT ?_)
  | (with_reducible refine r_truN ?_)
  | (with_reducible refine r_intI ?_)
  | (with_reducible refine r_intB ?_)
  | (with_reducible refine r_max2 ?_)
  | (with_reducible refine r_min2 ?_)
  | (with_reducible refine r_yes ?_)
  | (with_reducible refine r_bl ?_)
  | (with_reducible refine iteT ?_)
  | (with_reducible refine iteF ?_)
  | (with_reducible refine r_iteNT ?_)
  | (with_reducible refine r_iteNF ?_)
  | (with_reducible refine r_minL ?_)
  | (with_reducible refine r_gcons ?_)
  | (with_reducible refine r_gnil ?_)
  | (with_reducible refine r_par ?_)
  | (with_reducible refine r_par3 ?_)
  | (with_reducible refine r_is2 ?_)
  | (with_reducible refine r_is3 ?_)
  | (with_reducible refine r_dget ?_)
  | (with_reducible refine r_callS ?_)
  | (with_reducible refine r_rz ?_)
  | (with_reducible refine r_rev ?_)
  | (with_reducible refine r_isI ?_)
  | (with_reducible refine r_isStr ?_)
  | (with_reducible refine r_ret ?_)
  | (with_reducible refine r_drop ?_)
  | (with_reducible refine r_rI0 ?_)
  | (with_reducible refine r_addI ?_)
  | ((with_reducible show rI (fun _ j => 0 < j) _ (.int _) (.int _) _ _); refine r_rI (by first | omega | decide) ?_)
  | ((with_reducible show rI CDiv _ (.int _) (.int _) _ _); refine r_rI (by constructor <;> omega) ?_)
  | ((with_reducible show rI CPow _ (.int _) (.int _) _ _); refine r_rI (by refine ⟨by decide, by decide, ?_⟩; omega) ?_)
  | ((with_reducible show rMul (.int _) (.int _) _ _); refine r_mulI (cmulW (by omega) (by omega)) ?_)
  | (with_reducible refine r_cmpI ?_)
  | (with_reducible refine r_cmpS ?_)
  | (with_reducible refine r_eqI ?_)
  | (with_reducible refine r_neI ?_)
  | (with_reducible refine r_eqS ?_)
  | (with_reducible refine r_neS ?_)
  | (with_reducible refine r_inSF ?_)
  | (with_reducible refine r_inST ?_)
  | (with_reducible refine r_isiStr ?_)
  | ((with_reducible show rIx _ (.ref _) (.int _) _ _); refine' r_ixL (SqL.of ?h) ?e ?_; (case h => walk_at "hp"); (case e => rfl))
  | ((with_reducible show rSetL (.ref _) (.int _) _ _ _); refine' r_setL ?h ?e ?_; (case h => walk_at "hp"); (case e => rfl)))
local macro_rules | `(tactic| walk_at "g") => `(tactic| repeat walk_at "s")
local macro_rules | `(tactic| walk_at "x") => `(tactic| first | omega | decide +kernel | (simp only [List.length_cons, List.length_nil]; omega))
local macro_rules | `(tactic| walk_at "T") => `(tactic| repeat (first
  | walk_at "s"
  | ((with_reducible show rIx _ (.ref _) (.int _) _ _); refine' r_ixTu (SqT.of ?h) ?e ?_; (case h => first | assumption | walk_at "hp"); (case e => rfl))
  | (with_reducible refine r_lenSet ?_)
  | (with_reducible refine r_asg2 ?_)
  | (with_reducible refine iteDT (by walk_at "x") ?_)
  | (with_reducible refine iteDF (by walk_at "x") ?_)
  | (with_reducible refine iteNT (by walk_at "x") ?_)
  | (with_reducible refine iteNF (by walk_at "x") ?_)))
structure Tx (K : PySem.W.Frag) (mg : Str → Option Value) : Prop where
  z_len : mg "len" = none
  z_set : mg "set" = none
  z_all : mg "all" = none
  z_any : mg "any" = none
  z_isinstance : mg "isinstance" = none
  z_str : mg "str" = none
  z_list : mg "list" = none
  z_tuple : mg "tuple" = none
  z_int : mg "int" = none
  z_bool : mg "bool" = none
  z_min : mg "min" = none
  z_max : mg "max" = none
  z_range : mg "range" = none
  z_repr : mg "repr" = none
  z_sorted : mg "sorted" = none
  z_dict : mg "dict" = none
  z_enumerate : mg "enumerate" = none
  z_reversed : mg "reversed" = none
  z_sum : mg "sum" = none
  c_MOST_LETTERS : ∃ t, mg "MOST_LETTERS" = some (.int 8 t)
  c_MOST_SIGNS : ∃ t, mg "MOST_SIGNS" = some (.int 40 t)
  c_MOST_NUMBER : ∃ t, mg "MOST_NUMBER" = some (.int 999999 t)
  c_MOST_NAMES : ∃ t, mg "MOST_NAMES" = some (.int 8 t)
  c_MOST_TEXT : ∃ t, mg "MOST_TEXT" = some (.int 20 t)
  c_MOST_OWN : ∃ t, mg "MOST_OWN" = some (.int 8 t)
  c_MOST_OWN_SIGNS : ∃ t, mg "MOST_OWN_SIGNS" = some (.int 20 t)
  c_MOST_COUNT : ∃ t, mg "MOST_COUNT" = some (.int 9 t)
  c_MOST_MANY : ∃ t, mg "MOST_MANY" = some (.int 6 t)
  c_LOT_FIGURES : ∃ t, mg "LOT_FIGURES" = some (.int 18 t)
  c_NAME : ∃ t, mg "NAME" = some (.int 0 t)
  c_OPTIONS : ∃ t, mg "OPTIONS" = some (.int 1 t)
  c_PLACES : ∃ t, mg "PLACES" = some (.int 2 t)
  c_GROUPS : ∃ t, mg "GROUPS" = some (.int 3 t)
  c_COMMANDS : ∃ t, mg "COMMANDS" = some (.int 4 t)
  c_SHORT : ∃ t, mg "SHORT" = some (.int 1 t)
  c_COMMAND_PARTS : ∃ t, mg "COMMAND_PARTS" = some (.int 5 t)
  c_OPTION_PARTS : ∃ t, mg "OPTION_PARTS" = some (.int 7 t)
  c_PLACE_PARTS : ∃ t, mg "PLACE_PARTS" = some (.int 3 t)
  c_GROUP_PARTS : ∃ t, mg "GROUP_PARTS" = some (.int 2 t)
  c_LAST_RANK : ∃ t, mg "LAST_RANK" = some (.int 2 t)
  c_LEAST_OPTION_LETTERS : ∃ t, mg "LEAST_OPTION_LETTERS" = some (.int 2 t)
  c_LEAST_GROUPED : ∃ t, mg "LEAST_GROUPED" = some (.int 2 t)
  c_MOST_OPTIONS : ∃ t, mg "MOST_OPTIONS" = some (.int 6 t)
  c_MOST_PLACES : ∃ t, mg "MOST_PLACES" = some (.int 4 t)
  c_MOST_GROUPS : ∃ t, mg "MOST_GROUPS" = some (.int 4 t)
  c_MOST_BENEATH : ∃ t, mg "MOST_BENEATH" = some (.int 6 t)
  c_MOST_LEVELS : ∃ t, mg "MOST_LEVELS" = some (.int 2 t)
  c_MOST_COMMANDS : ∃ t, mg "MOST_COMMANDS" = some (.int 12 t)
  c_FORMS : ∃ a, mg "FORMS" = some (.ref a) ∧ ∀ H, SqT K H a [.str "flag", .str "count", .str "one", .str "many"]
  c_WITH_KIND : ∃ a, mg "WITH_KIND" = some (.ref a) ∧ ∀ H, SqT K H a [.str "one", .str "many"]
  c_GROUPINGS : ∃ a, mg "GROUPINGS" = some (.ref a) ∧ ∀ H, SqT K H a [.str "just", .str "most", .str "with", .str "needs"]
  c_WITH_WORDS : ∃ a, mg "WITH_WORDS" = some (.ref a) ∧ ∀ H, SqT K H a [.str "one", .str "own"]
/-- a def under another name of the module -/
structure DAl (K : PySem.W.Frag) (mg : Str → Option Value) (g x : Str) (st : Stmt) (ps : List Str) (f : Addr) (fd : FuncData) : Prop where
  fn : Fun K x x st f fd
  gl : mg g = some (.ref f)
  bd : Binds K fd ps []
section
variable {P : Program} {w : World} {K : PySem.W.Frag} {mg : Str → Option Value} {base : Heap}
theorem ok_is_whole (T : Tx K mg) {f : Addr} {fd : FuncData} (F : Fun K "is_whole" "is_whole" s_is_whole f fd) : FnOk P w K mg base CX0 1 f fd P_is_whole (spWholeT K) := by
  refine F.ok sc_is_whole (fun vs H Q E h => ?_) (fun cdv A outer s H vs Q E hr h => ?_)
  · obtain ⟨x, d, lo, hi, rfl, _⟩ := h
    rfl
  · obtain ⟨x, d, lo, hi, rfl, hx, k⟩ := h
    refine ⟨_, (pss_one (ps_ret (pe_and (pe_callB (L2.call_isi : CallR _ _ (rIsi K)) (by rfl) T.z_isinstance (by decide +kernel) (pa_cons (pv 0) (pa_cons (pe_bltn (v := .ty "int") (u := .type "int") rfl T.z_int (by decide +kernel) rfl) pa_nil))) (pe_and (pe_not (pe_callB (L2.call_isi : CallR _ _ (rIsi K)) (by rfl) T.z_isinstance (by decide +kernel) (pa_cons (pv 0) (pa_cons (pe_bltn (v := .ty "bool") (u := .type "bool") rfl T.z_bool (by decide +kernel) rfl) pa_nil)))) (pe_one (pe_chain op_leA op_leA (pv 1) (pv 0) (pv 2))))))), ?_⟩
    walk_at "T"
    refine hx.isI ?_
    cases hx with
    | int i h =>
      refine ⟨_, rfl, iteT ?_⟩
      walk_at "T"
      refine (Tg.int i h).isB ?_
      refine ⟨_, rfl, ?_⟩
      refine ⟨_, rfl, iteT ?_⟩
      walk_at "T"
      refine r_iteD (fun c => ?_) fun c => ?_
      · have : whD lo hi (.int i) = decide (i ≤ hi) := by show (decide _ && decide _) = _; rw [decide_eq_true c, Bool.true_and]
        rw [this] at k
        walk_at "T"
        exact k
      · have : whD lo hi (.int i) = false := by show (decide _ && decide _) = _; rw [decide_eq_false c, Bool.false_and]
        rw [this] at k
        exact k
    | bl b =>
      refine ⟨_, rfl, iteT ?_⟩
      walk_at "T"
      refine (Tg.bl b).isB ?_
      refine ⟨_, rfl, ?_⟩
      refine ⟨_, rfl, iteF ?_⟩
      exact k
    | str z h c => exact ⟨_, rfl, iteF k⟩
    | non => exact ⟨_, rfl, iteF k⟩
    | lst h => exact ⟨_, rfl, iteF k⟩
    | tup h hl hz => exact ⟨_, rfl, iteF k⟩
theorem ok_is_name (T : Tx K mg) {f : Addr} {fd : FuncData} (F : Fun K "is_name" "is_name" s_is_name f fd) : FnOk P w K mg base CX0 1 f fd P_is_name (spNameT K) := by
  refine F.ok sc_is_name (fun vs H Q E h => ?_) (fun cdv A outer s H vs Q E hr h => ?_)
  · obtain ⟨x, d, rfl, _⟩ := h
    rfl
  · obtain ⟨x, d, rfl, hx, k⟩ := h
    refine ⟨_, (pss_cons (ps_if (PW.pt (pw_or (pt_not (pt_val (pe_callB (L2.call_isi : CallR _ _ (rIsi K)) (by rfl) T.z_isinstance (by decide +kernel) (pa_cons (pv 0) (pa_cons (pe_bltn (v := .ty "str") (u := .type "str") rfl T.z_str (by decide +kernel) rfl) pa_nil))))) (pw_or1 (pt_not (pt_chain op_leA op_leA pe_int (pe_callB (call_lenA : CallR _ _ (J.rLen K)) (by rfl) T.z_len (by decide +kernel) (pa_cons (pv 0) pa_nil)) (pe_gI T.c_MOST_LETTERS rfl)))))) (pss_one (ps_ret pe_bl)) pss_nil) (pss_one (ps_ret (pe_and (pe_m0 PySem.F.slot_str_isascii PySem.F.type_str_isascii mA_isascii (pv 0)) (pe_and (pe_m0 PySem.F.slot_str_isalpha PySem.F.type_str_isalpha mA_isalpha (pv 0)) (pe_one (pe_m0 PySem.F.slot_str_islower PySem.F.type_str_islower mA_islower (pv 0)))))))), ?_⟩
    walk_at "T"
    refine hx.isS ?_
    cases hx with
    | non =>
      rw [show isSD PyData.none = false from rfl]
      walk_at "T"
      exact k
    | int i h =>
      rw [show isSD (PyData.int i) = false from rfl]
      walk_at "T"
      exact k
    | bl b =>
      rw [show isSD (PyData.bool b) = false from rfl]
      walk_at "T"
      exact k
    | lst h =>
      rw [show isSD (PyData.list [PyData.int 1]) = false from rfl]
      walk_at "T"
      exact k
    | @tup _ zs h hl hz =>
      rw [show isSD (PyData.tuple (zs.map dW)) = false from rfl]
      walk_at "T"
      exact k
    | str z hz c126 =>
    have hz' : z.length ≤ sizeLine := Nat.le_trans hz (by decide)
    have k : Q (.bl (isNm (cd z))) H := k
    unfold isNm at k
    have e := len_cd z
    rw [show isSD (PyData.str z) = true from rfl]
    walk_at "T"
    refine r_len hz' ?_
    walk_at "T"
    refine r_iteD (fun c => ?_) fun c => ?_
    · walk_at "T"
      rw [decide_eq_true (show 1 ≤ (cd z).length by omega), Bool.true_and] at k
      refine r_iteN (fun c2 => ?_) fun c2 => ?_
      · walk_at "T"
        rw [decide_eq_false (show ¬ (cd z).length ≤ 8 by omega), Bool.false_and] at k
        exact k
      · walk_at "T"
        rw [decide_eq_true (show (cd z).length ≤ 8 by omega), Bool.true_and, ← small_letters z (by omega)] at k
        refine r_ite (fun e1 => ?_) fun e1 => ?_
        · rw [e1, Bool.true_and] at k
          walk_at "T"
          refine r_ite (fun e2 => ?_) fun e2 => ?_
          · rw [e2, Bool.true_and] at k
            walk_at "T"
            exact k
          · rw [e2, Bool.false_and] at k
            exact k
        · rw [e1, Bool.false_and] at k
          exact k
    · walk_at "T"
      rw [decide_eq_false (show ¬ 1 ≤ (cd z).length by omega), Bool.false_and] at k
      exact k
theorem ok_are_signs (T : Tx K mg) {f : Addr} {fd : FuncData} (F : Fun K "are_signs" "are_signs" s_are_signs f fd) : FnOk P w K mg base CX0 1 f fd P_are_signs spSignsK := by
  refine F.ok sc_are_signs (fun vs H Q E h => ?_) (fun cdv A outer s H vs Q E hr h => ?_)
  · obtain ⟨z, rfl, _⟩ := h
    rfl
  · obtain ⟨z, rfl, hz, k⟩ := h
    refine ⟨_, (pss_one (ps_ret (pe_and (pe_m0 PySem.F.slot_str_isascii PySem.F.type_str_isascii mA_isascii (pv 0)) (pe_one (pe_m0 PySem.F.slot_str_isprintable PySem.F.type_str_isprintable mA_isprintable (pv 0)))))), ?_⟩
    rw [← ascii_sg] at k
    walk_at "T"
    refine r_ite (fun e => ?_) fun e => ?_
    · rw [e] at k
      walk_at "T"
      exact k
    · rw [e] at k
      exact k
theorem ok_is_word (T : Tx K mg) {f f_are_signs : Addr} {fd fd_are_signs : FuncData} (F : Fun K "is_word" "is_word" s_is_word f fd) (D_are_signs : DAt K mg "are_signs" s_are_signs P_are_signs f_are_signs fd_are_signs) : FnOk P w K mg base CX0 2 f fd P_is_word (spWordT K) := by
  have G_are_signs : FnOk P w K mg base CX0 1 f_are_signs fd_are_signs P_are_signs spSignsK := ok_are_signs T D_are_signs.fn
  refine F.ok sc_is_word (fun vs H Q E h => ?_) (fun cdv A outer s H vs Q E hr h => ?_)
  · obtain ⟨x, d, rfl, _⟩ := h
    rfl
  · obtain ⟨x, d, rfl, hx, k⟩ := h
    refine ⟨_, (pss_one (ps_ret (pe_and (pe_callB (L2.call_isi : CallR _ _ (rIsi K)) (by rfl) T.z_isinstance (by decide +kernel) (pa_cons (pv 0) (pa_cons (pe_bltn (v := .ty "str") (u := .type "str") rfl T.z_str (by decide +kernel) rfl) pa_nil))) (pe_and (pe_cmpR op_leA (pe_callB (call_lenA : CallR _ _ (J.rLen K)) (by rfl) T.z_len (by decide +kernel) (pa_cons (pv 0) pa_nil)) (pe_gI T.c_MOST_SIGNS rfl) (nomark _)) (pe_one (pe_call G_are_signs (hr.mono (by decide)) rfl D_are_signs.gl D_are_signs.fn.kp D_are_signs.bd .nil pass0 (pa_cons (pv 0) pa_nil))))))), ?_⟩
    walk_at "T"
    refine hx.isS ?_
    cases hx with
    | str z hz c126 =>
      refine ⟨_, rfl, iteT ?_⟩
      walk_at "T"
      refine r_len (Nat.le_trans hz (by decide)) ?_
      walk_at "T"
      have k : Q (.bl (decide (z.length ≤ 40) && sg (cd z))) H := k
      refine r_iteD (fun c => ?_) fun c => ?_
      · walk_at "T"
        refine ⟨z, rfl, by omega, ?_⟩
        rwa [decide_eq_true (show z.length ≤ 40 by omega), Bool.true_and] at k
      · rwa [decide_eq_false (show ¬ z.length ≤ 40 by omega), Bool.false_and] at k
    | int i h => exact ⟨_, rfl, iteF k⟩
    | bl b => exact ⟨_, rfl, iteF k⟩
    | non => exact ⟨_, rfl, iteF k⟩
    | lst h => exact ⟨_, rfl, iteF k⟩
    | tup h hl hz => exact ⟨_, rfl, iteF k⟩
theorem ok_are_unlike (T : Tx K mg) {f : Addr} {fd : FuncData} (F : Fun K "are_unlike" "are_unlike" s_are_unlike f fd) : FnOk P w K mg base CX0 1 f fd P_are_unlike (spUnlike K) := by
  refine F.ok sc_are_unlike (fun vs H Q E h => ?_) (fun cdv A outer s H vs Q E hr h => ?_)
  · obtain ⟨a, ls, rfl, _⟩ := h
    rfl
  · obtain ⟨a, ls, rfl, ha, hl, k⟩ := h
    refine ⟨_, (pss_one (ps_ret (pe_cmpR ((op_eqA hr.units) : OpR _ _ (rEqA K)) (asLenSet (K := K) rfl (pe_lenSetT rfl rfl T.z_len rfl T.z_set (pv 0))) (pe_callB (call_lenA : CallR _ _ (J.rLen K)) (by rfl) T.z_len (by decide +kernel) (pa_cons (pv 0) pa_nil)) (nomark _)))), ?_⟩
    have e : ls.map wV = (ls.map S).map V.str := by rw [List.map_map]; rfl
    walk_at "T"
    refine ⟨a, ls.map S, rfl, by rw [← e]; exact ha, by rw [List.length_map]; omega, ?_⟩
    walk_at "T"
    refine r_len2 ha ?_
    walk_at "T"
    have q : (uq (ls.map S)).length = (ls.map S).length ↔ ls.Nodup := (uq_eq _).trans ⟨fun h => (List.pairwise_map.mp h).imp fun n e => n (congrArg S e), fun h => List.pairwise_map.mpr (h.imp fun {a b} n e => n (by rw [← cd_S a, ← cd_S b, e]))⟩
    rw [List.length_map] at q
    rw [List.length_map, show (decide (((uq (ls.map S)).length : Nat) = ((ls.length : Nat) : Int))) = decide ls.Nodup from decide_eq_decide.mpr (by rw [← q]; omega)]
    exact k
end
end K60
namespace K60
open PySem PySem.Spec PyProof.Rows L2 J M
local macro_rules | `(tactic| walk_at "hp") => `(tactic| first | assumption | exact upd_same | (rw [upd_ne (by assumption)]; walk_at "hp") | (rw [upd_ne (Ne.symm (by assumption))]; walk_at "hp"))
local macro_rules | `(tactic| walk_at "s") => `(tactic| first
  | ((with_reducible refine' r_var ?h ?k); (case h => exact rfl))
  | (with_reducible refine r_c ?_)
  | (with_reducible refine r_op ?_)
  | (with_reducible refine r_un ?_)
  | (with_reducible refine r_seq ?_)
  | (with_reducible refine r_next ?_)
  | (with_reducible refine r_sets ?_)
  | (with_reducible refine r_gname ?_)
  | (with_reducible refine r_ifS ?_)
  | (with_reducible refine r_gsub ?_)
  | (with_reducible refine r_test ?_)
  | (with_reducible refine r_tb ?_)
  | (with_reducible refine r_not ?_)
  | (with_reducible refine r_and ?_)
  | (with_reducible refine r_or ?_)
  | (with_reducible refine r_andV ?_)
  | (with_reducible refine r_orV ?_)
  | (with_reducible refine r_notV ?_)
  | (with_reducible refine r_ifE ?_)
  | (with_reducible refine r_chain ?_)
  | (with_reducible refine r_cb ?_)
  | (with_reducible refine r_cons ?_)
  | (with_reducible refine r_nil ?_)
  | (with_reducible refine r_call ?_)
  | (with_reducible refine r_lst ?_)
  | (with_reducible refine r_tup ?_)
  | (with_reducible refine r_slice ?_)
  | (with_reducible refine r_nop ?_)
  | (with_reducible refine r_part ?_)
  | (with_reducible refine r_bm ?_)
  | (with_reducible refine r_m1 ?_)
  | (with_reducible refine r_m0 ?_)
  | (with_reducible refine r_is ?_)
  | (with_reducible refine r_maxD ?_)
  | (with_reducible refine r_orT ?_)
  | (with_reducible refine r_truN ?_)
  | (with_reducible refine r_intI ?_)
  | (with_reducible refine r_intB ?_)
  | (with_reducible refine r_max2 ?_)
  | (with_reducible refine r_min2 ?_)
  | (with_reducible refine r_yes ?_)
  | (with_reducible refine r_bl ?_)
  | (with_reducible refine iteT ?_)
  | (with_reducible refine iteF ?_)
  | (with_reducible refine r_iteNT ?_)
  | (with_reducible refine r_iteNF ?_)
  | (with_reducible refine r_minL ?_)
  | (with_reducible refine r_gcons ?_)
  | (with_reducible refine r_gnil ?_)
  | (with_reducible refine r_par ?_)
  | (with_reducible refine r_par3 ?_)
  | (with_reducible refine r_is2 ?_)
  | (with_reducible refine r_is3 ?_)
  | (with_reducible refine r_dget ?_)
  | (with_reducible refine r_callS ?_)
  | (with_reducible refine r_rz ?_)
  | (with_reducible refine r_rev ?_)
  | (with_reducible refine r_isI ?_)
  | (with_reducible refine r_isStr ?_)
  | (with_reducible refine r_ret ?_)
  | (with_reducible refine r_drop ?_)
  | (with_reducible refine r_rI0 ?_)
  | (with_reducible refine r_addI ?_)
  | ((with_reducible show rI (fun _ j => 0 < j) _ (.int _) (.int _) _ _); refine r_rI (by first | omega | decide) ?_)
  | ((with_reducible show rI CDiv _ (.int _) (.int _) _ _); refine r_rI (by constructor <;> omega) ?_)
  | ((with_reducible show rI CPow _ (.int _) (.int _) _ _); refine r_rI (by refine ⟨by decide, by decide, ?_⟩; omega) ?_)
  | ((with_reducible show rMul (.int _) (.int _) _ _); refine r_mulI (cmulW (by omega) (by omega)) ?_)
  | (with_reducible refine r_cmpI ?_)
  | (with_reducible refine r_cmpS ?_)
  | (with_reducible refine r_eqI ?_)
  | (with_reducible refine r_neI ?_)
  | (with_reducible refine r_eqS ?_)
  | (with_reducible refine r_neS ?_)
  | (with_reducible refine r_inSF ?_)
  | (with_reducible refine r_inST ?_)
  | (with_reducible refine r_isiStr ?_)
  | ((with_reducible show rIx _ (.ref _) (.int _) _ _); refine' r_ixL (SqL.of ?h) ?e ?_; (case h => walk_at "hp"); (case e => rfl))
  | ((with_reducible show rSetL (.ref _) (.int _) _ _ _); refine' r_setL ?h ?e ?_; (case h => walk_at "hp"); (case e => rfl)))
local macro_rules | `(tactic| walk_at "g") => `(tactic| repeat walk_at "s")
local macro_rules | `(tactic| walk_at "x") => `(tactic| first | omega | decide +kernel | (simp only [List.length_cons, List.length_nil]; omega))
local macro_rules | `(tactic| walk_at "T") => `(tactic| repeat (first
  | walk_at "s"
  | ((with_reducible show rIx _ (.ref _) (.int _) _ _); refine' r_ixTu (SqT.of ?h) ?e ?_; (case h => first | assumption | walk_at "hp"); (case e => rfl))
  | (with_reducible refine r_lenSet ?_)
  | (with_reducible refine r_asg2 ?_)
  | (with_reducible refine iteDT (by walk_at "x") ?_)
  | (with_reducible refine iteDF (by walk_at "x") ?_)
  | (with_reducible refine iteNT (by walk_at "x") ?_)
  | (with_reducible refine iteNF (by walk_at "x") ?_)))
section
variable {P : Program} {w : World} {K : PySem.W.Frag} {mg : Str → Option Value} {base : Heap}
theorem ok_take {f : Addr} {fd : FuncData} (F : Fun K "_law_take" "_law_take" s_law_take f fd) : FnOk P w K mg base CX0 1 f fd P_law_take spTake := by
  refine F.ok sc_law_take (fun vs H Q E h => ?_) (fun cdv A outer s H vs Q E hr h => ?_)
  · obtain ⟨b, m, n, rfl, _⟩ := h
    rfl
  · obtain ⟨b, m, n, rfl, ⟨x, y, z, hb, x0, y0, y1, z0, z1⟩, hn, m0, m1, k⟩ := h
    refine ⟨_, (pss_cons (ps_if (pt_cmpR op_gtA (pe_ix (ix_seq : IxR _ (rIx K)) (pv 0) pe_int (fun _ _ => rfl)) pe_int (nomark _)) (pss_cons (ps_set (i := 2) sc_law_take.nd rfl (Or.inl rfl) (pe_op L2.op_mod (pe_ix (ix_seq : IxR _ (rIx K)) (pv 0) pe_int (fun _ _ => rfl)) (pv 1))) (pss_cons (ps_asg (pe_op L2.op_fdiv (pe_ix (ix_seq : IxR _ (rIx K)) (pv 0) pe_int (fun _ _ => rfl)) (pv 1)) (pg_sub (pv 0) pe_int set_list)) (pss_one (ps_ret (pv 2))))) pss_nil) (pss_cons (ps_asg (pe_op (oAdd : OpR _ _ (J.rAdd K)) (pe_ix (ix_seq : IxR _ (rIx K)) (pv 0) pe_int (fun _ _ => rfl)) pe_int) (pg_sub (pv 0) pe_int set_list)) (pss_cons (ps_set (i := 3) sc_law_take.nd rfl (Or.inl rfl) (pe_op L2.op_mod (pe_op L2.op_pow (pe_op (oAdd : OpR _ _ (J.rAdd K)) (pe_op (oAdd : OpR _ _ (J.rAdd K)) (pe_ix (ix_seq : IxR _ (rIx K)) (pv 0) pe_int (fun _ _ => rfl)) (pe_op oMul pe_int (pe_ix (ix_seq : IxR _ (rIx K)) (pv 0) pe_int (fun _ _ => rfl)))) pe_int) pe_int) pe_int)) (pss_cons (ps_set (i := 3) sc_law_take.nd rfl (Or.inl rfl) (pe_op L2.op_mod (pe_op L2.op_pow (pe_op (oAdd : OpR _ _ (J.rAdd K)) (pv 3) (pe_op oMul pe_int (pe_ix (ix_seq : IxR _ (rIx K)) (pv 0) pe_int (fun _ _ => rfl)))) pe_int) pe_int)) (pss_one (ps_ret (pe_op L2.op_mod (pe_op L2.op_fdiv (pv 3) pe_int) (pv 1)))))))), ?_⟩
    walk_at "g"
    refine r_iteD (fun c => ?_) fun c => ?_
    · walk_at "g"
      exact k _ _ (Int.emod_nonneg _ (by omega)) (Int.emod_lt_of_pos _ (by omega)) (Keep.upd _ _ _) ⟨x / m, y, z, upd_same, Int.ediv_nonneg x0 (by omega), y0, y1, z0, by omega⟩
    · walk_at "g"
      have u0 := Int.emod_nonneg ((y + 8291 * (z + 1) + 229) ^ Int.toNat 5) (b := 2147483647) (by decide)
      have u1 := Int.emod_lt_of_pos ((y + 8291 * (z + 1) + 229) ^ Int.toNat 5) (b := 2147483647) (by decide)
      generalize (y + 8291 * (z + 1) + 229) ^ Int.toNat 5 % 2147483647 = u at u0 u1 ⊢
      walk_at "g"
      exact k _ _ (Int.emod_nonneg _ (by omega)) (Int.emod_lt_of_pos _ (by omega)) (Keep.upd _ _ _) ⟨x, y, z + 1, upd_same, x0, y0, y1, by omega, by omega⟩
theorem ok_box (T : Tx K mg) {f : Addr} {fd : FuncData} (F : Fun K "_law_box" "_law_box" s_law_box f fd) : FnOk P w K mg base CX0 1 f fd P_law_box spBox := by
  refine F.ok sc_law_box (fun vs H Q E h => ?_) (fun cdv A outer s H vs Q E hr h => ?_)
  · obtain ⟨c, rfl, _⟩ := h
    rfl
  · obtain ⟨c, rfl, k⟩ := h
    refine ⟨_, (pss_one (ps_ret (pe_lst (pa_cons (pe_callB (call_maxA rfl) (by rfl) T.z_max (by decide +kernel) (pa_cons pe_int (pa_cons (pe_op L2.op_sub (pv 0) (pe_op L2.op_pow pe_int pe_int)) pa_nil))) (pa_cons (pe_op L2.op_mod (pv 0) pe_int) (pa_cons pe_int pa_nil)))))), ?_⟩
    walk_at "g"
    refine ⟨show 3 ≤ sizeLine by decide, fun p hp => k p _ hp ((Same.refl H).at hp _) ⟨_, _, _, upd_same, ?_, Int.emod_nonneg _ (by decide), Int.emod_lt_of_pos _ (by decide), Int.le_refl _, Int.le_refl _⟩⟩
    split <;> omega
theorem ok_cell (T : Tx K mg) {f : Addr} {fd : FuncData} (F : Fun K "_law_cell" "_law_cell" s_law_cell f fd) : FnOk P w K mg base CX0 1 f fd P_law_cell (_root_.J.spCell K) := by
  refine F.ok sc_law_cell (fun vs H Q E h => ?_) (fun cdv A outer s H vs Q E hr h => ?_)
  · obtain ⟨a, ns, i, rfl, _⟩ := h
    rfl
  · obtain ⟨a, ns, i, rfl, ha, hi, k⟩ := h
    refine ⟨_, (pss_cons (ps_if (pt_cmpR op_ltA (pv 1) (pe_callB (call_lenA : CallR _ _ (J.rLen K)) (by rfl) T.z_len (by decide +kernel) (pa_cons (pv 0) pa_nil)) (nomark _)) (pss_one (ps_ret (pe_ix (ix_seq : IxR _ (rIx K)) (pv 0) (pv 1) (fun _ _ => rfl)))) pss_nil) (pss_one (ps_ret (pe_op (oAdd : OpR _ _ (J.rAdd K)) (pe_op oMul pe_int (pv 1)) pe_int)))), ?_⟩
    walk_at "g"
    refine r_lenL ha ?_
    walk_at "g"
    rw [List.length_map]
    refine r_iteD (fun c => ?_) fun c => ?_
    · walk_at "g"
      have li : i < ns.length := by omega
      refine r_ixL ha (v := .int ns[i]) ?_ (k _)
      rw [atI_nat]
      rw [List.getElem?_map, List.getElem?_eq_getElem li]; rfl
    · walk_at "g"
      exact k _
end
end K60
/-! a law's end by looks at the written part: any looks, told by a Bool each -/
namespace J
open PySem PySem.Spec PyProof.Rows L2 M
abbrev Fx : Type := PySem.W.Frag → Bool
def obsX (fx : List Fx) (fn : List He.DefD) (K : PySem.W.Frag) : He.AlD := ((fx.all fun f => f K) && fn.all fun d => d.ok K, fn.map fun d => He.fnW K d.at_)
def SaysX (fx : List Fx) (fn : List He.DefD) (K : PySem.W.Frag) : Prop := obsX fx fn K = He.valD fn
section
variable {fx : List Fx} {fn : List He.DefD} {K : PySem.W.Frag}
theorem SaysX.fact (c : SaysX fx fn K) (i : Nat) {f : Fx} (h : fx[i]? = some f := by rfl) : f K = true :=
  List.all_eq_true.mp (Bool.and_eq_true_iff.mp (congrArg Prod.fst c)).1 f (List.mem_of_getElem? h)
theorem SaysX.dfn (c : SaysX fx fn K) (i : Nat) {d : He.DefD} (h : fn[i]? = some d := by rfl) : ∃ fd, FunD K d.name d.qual d.params d.body d.scope (d.dvs K) (d.kws K) (He.fAd K d.at_) fd := by
  have o := List.all_eq_true.mp (Bool.and_eq_true_iff.mp (congrArg Prod.fst c)).2 d (List.mem_of_getElem? h)
  have e : (fn.map fun d => He.fnW K d.at_)[i]? = (fn.map He.DefD.val)[i]? := congrArg (fun l => l[i]?) (congrArg Prod.snd c)
  rw [List.getElem?_map, List.getElem?_map, h] at e
  exact He.DefD.funD (Option.some.inj e) o
end
/-- a def of the top, without defaults -/
def defX (x : Str) (st : Stmt) : He.DefD := ⟨(x, none), x, x, defArgs st, defBody st, defScope st, [], []⟩
/-- a method of the class x -/
def defM (x m q : Str) (st : Stmt) : He.DefD := ⟨(x, some m), m, q, defArgs st, defBody st, defScope st, [], []⟩
theorem fun_of {K : PySem.W.Frag} {x q : Str} {st : Stmt} {f : Addr} {fd : FuncData} (F : FunD K x q (defArgs st) (defBody st) (defScope st) [] [] f fd) : Fun K x q st f fd := by
  obtain ⟨⟨oc, od, dV, kV, doc, pm, an, cdv, ct, osl, e, l, c, dv, _⟩, kp⟩ := F
  rcases dv with ⟨_, rfl⟩ | ⟨ne, _⟩
  · exact ⟨⟨oc, od, kV, doc, pm, an, cdv, ct, osl, e, l, c⟩, kp⟩
  · exact absurd rfl ne
/-- what stands at a module's name -/
def gloX (x : Str) : Fx := fun K => (He.Fa.glo x).ok K
def freeX (x : Str) : Fx := fun K => (He.Fa.free x).ok K
def intX (x : Str) (i : Int) : Fx := fun K => (He.Fa.int x i).ok K
def tupX (x : Str) (vs : List He.Dv) : Fx := fun K => (He.Fa.glo x).ok K && He.tupB K x vs
theorem tupX_ok {K : PySem.W.Frag} {h : Heap} {mg : Str → Option Value} {x : Str} {vs : List He.Dv} (X : K.In h) (G : h.Ns mainGlobals mg) (c : tupX x vs K = true) : ∃ a, mg x = some (.ref a) ∧ ∀ H, SqT K H a (vs.map (He.Dv.v K)) := by
  obtain ⟨c1, c2⟩ := Bool.and_eq_true_iff.mp c
  exact ⟨_, He.glo_ok X G c1, fun H => He.tupB_ok c2 H⟩
/-! ### own error classes -/
def excB (K : PySem.W.Frag) (C : Addr) (tl : List Value → Bool) (new : String) : Bool := match K.lookup C with
  | some ⟨.type "type", _, .cls cd, sl⟩ => (match cd.mro, sl.toList with
    | .ref D :: bm, [_, _, _, _, some (.builtin n), _] => D == C && (n == new && (!cd.hasDel && (cd.hasDict && tl bm)))
    | _, _ => false)
  | _ => false
theorem excB_ok {K : PySem.W.Frag} {C : Addr} {tl : List Value → Bool} {new : String} (h : excB K C tl new = true) :
    ∃ nm q N bs bm sn sub ab col dd k0 k1 k2 k3 k5, K.lookup C = some (excClassObj nm q C N bs bm true sn sub ab col dd k0 k1 k2 k3 k5 new) ∧ tl bm = true := by
  unfold excB at h
  split at h
  · rename_i dd cd sl ho
    split at h
    · rename_i D bm k0 k1 k2 k3 n k5 hm hs
      simp only [Bool.and_eq_true, beq_iff_eq, Bool.not_eq_true'] at h
      obtain ⟨rfl, rfl, hdel, hdi, ht⟩ := h
      obtain ⟨nm, bs, mro, ns, qn, hd, sn, sub, ab, col, del⟩ := cd
      dsimp only at hm hdel hdi
      subst hm hdel hdi
      obtain ⟨l⟩ := sl
      simp only at hs
      subst hs
      exact ⟨nm, qn, ns, bs, bm, sn, sub, ab, col, dd, k0, k1, k2, k3, k5, ho, ht⟩
    · cases h
  · cases h
def eqB (a : Option (Option Value)) (b : Option (Option Value)) : Bool := decide (a = b)
/-- an own error class x, its one field fld, its base's tail and maker -/
def errX (tl : List Value → Bool) (new : String) (x fld : Str) : Fx := fun K =>
  (He.Fa.glo x).ok K && (excB K (He.ga K x) tl new && (eqB (PySem.W.findIn K (.ref (He.ga K x)) "__setattr__") (some (some (.builtin "object.__setattr__"))) &&
  (decide (PySem.W.subIn K (.ref (He.ga K x)) (.type "BaseException") = some true) && (decide (PySem.W.typeIn K (.ref (He.ga K x)) = some (.type "type")) && (PySem.W.keepIn K (.ref (He.ga K x)) &&
  (eqB (PySem.W.findIn K (.ref (He.ga K x)) fld) (some none) && (eqB (PySem.W.findIn K (.ref (He.ga K x)) "__init__") (some (some (.ref (He.ma K (He.ga K x) "__init__")))) && (decide (PySem.W.typeIn K (.ref (He.ma K (He.ga K x) "__init__")) = some (.type "function")) &&
  (eqB (PySem.W.findIn K (.ref (He.ga K x)) "__getattribute__") (some (some (.builtin "BaseException.__getattribute__"))) && (eqB (PySem.W.findIn K (.ref (He.ga K x)) "__getattr__") (some none) && PySem.W.hasDictIn K (He.ga K x)))))))))))
structure ErrF (K : PySem.W.Frag) (h : Heap) (mg : Str → Option Value) (tl : List Value → Bool) (new : String) (x fld : Str) : Prop where
  gl : mg x = some (.ref (He.ga K x))
  cls : ∃ nm q N bs bm sn sub ab col dd k0 k1 k2 k3 k5, K.lookup (He.ga K x) = some (excClassObj nm q (He.ga K x) N bs bm true sn sub ab col dd k0 k1 k2 k3 k5 new) ∧ tl bm = true
  sa : PySem.W.findIn K (.ref (He.ga K x)) "__setattr__" = some (some (.builtin "object.__setattr__"))  -- own
  ex : PySem.W.subIn K (.ref (He.ga K x)) (.type "BaseException") = some true
  ty : PySem.W.typeIn K (.ref (He.ga K x)) = some (.type "type")
  kp : PySem.W.keepIn K (.ref (He.ga K x)) = true
  nf : PySem.W.findIn K (.ref (He.ga K x)) fld = some none
  ini : PySem.W.findIn K (.ref (He.ga K x)) "__init__" = some (some (.ref (He.ma K (He.ga K x) "__init__")))
  ti : PySem.W.typeIn K (.ref (He.ma K (He.ga K x) "__init__")) = some (.type "function")
  xf : XfC K (He.ga K x)
theorem errX_ok {K : PySem.W.Frag} {h : Heap} {mg : Str → Option Value} {tl : List Value → Bool} {new : String} {x fld : Str} (X : K.In h) (G : h.Ns mainGlobals mg) (c : errX tl new x fld K = true) : ErrF K h mg tl new x fld := by
  unfold errX eqB at c
  simp only [Bool.and_eq_true, decide_eq_true_eq] at c
  obtain ⟨c1, c2, c3, c4, c5, c6, c7, c8, c9, c10, c11, c12⟩ := c
  exact ⟨He.glo_ok X G c1, excB_ok c2, c3, c4, c5, c6, c7, c8, c9, ⟨c10, c11, c4, c12⟩⟩
abbrev veX : Str → Str → Fx := errX PySem.HandSPX.refsVE "ValueError.__new__"
section
variable {P : Program} {w : World} {K : PySem.W.Frag} {mg : Str → Option Value} {base h : Heap} {x fld : Str}
theorem ErrF.oe (E : ErrF K h mg PySem.HandSPX.refsVE "ValueError.__new__" x fld) {fd : FuncData} (F : FnOk P w K mg base CX0 1 (He.ma K (He.ga K x) "__init__") fd ["self", fld] (spInit K fld)) (b : Binds K fd ["self", fld] []) : OE P w K mg base x fld (He.ga K x) :=
  { T := { cls := E.cls, sa := E.sa, exC := E.ex, tyC := E.ty, kC := E.kp }, nf := E.nf, gl := E.gl, ini := ⟨_, fd, E.ini, E.ti, F, b⟩ }
end
end J
namespace J
open PySem PySem.Spec PyProof.Rows L2 M
end J
namespace J
open PySem PySem.Spec PyProof.Rows L2 M
theorem SaysX.fn_ {fx : List Fx} {fn : List He.DefD} {K : PySem.W.Frag} (c : SaysX fx fn K) (i : Nat) {x : Str} {st : Stmt} (h : fn[i]? = some (defX x st) := by rfl) : ∃ fd, Fun K x x st (He.ga K x) fd :=
  let ⟨fd, F⟩ := c.dfn i h; ⟨fd, fun_of (show FunD K x x (defArgs st) (defBody st) (defScope st) [] [] (He.ga K x) fd from F)⟩
theorem SaysX.mth {fx : List Fx} {fn : List He.DefD} {K : PySem.W.Frag} (c : SaysX fx fn K) (i : Nat) {x m q : Str} {st : Stmt} (h : fn[i]? = some (defM x m q st) := by rfl) : ∃ fd, Fun K m q st (He.ma K (He.ga K x) m) fd :=
  let ⟨fd, F⟩ := c.dfn i h; ⟨fd, fun_of (show FunD K m q (defArgs st) (defBody st) (defScope st) [] [] (He.ma K (He.ga K x) m) fd from F)⟩
end J
/-! enumerate(tuple) -/
namespace PySem
open Sem (wp)
open AutoSeq1 (wpAny_loadPart')
section
variable {prog : Program} {w : World} {A : Around} {E : Value → Shared → Prop} {s : Shared}
theorem Draws.tup (hh : A.handled = none) (it l : Addr) (hne : l ≠ it) (items : Array Value) :
    Draws prog w A it [it, l] items.size (fun i v => items[i]? = some v) (fun i h => h.IsTupleIter it l i ∧ h.IsTuple l items) where
  live := fun _ _ st => let ⟨o, ho, _⟩ := st.1; ⟨o, ho⟩  -- own
  frame := fun _ _ _ st hk => ⟨st.1.at fun o e => hk it (by simp) o e, st.2.at fun o e => hk l (by simp) o e⟩  -- own
  item := fun i s Q E hi st hQ => RZ.nextOf_tuple_item st.1 st.2 (x := items[i]) (by simp [hi]) fun h' hit' hs' => hQ _ h' s.toks (by simp [hi]) ⟨hit', st.2.extBut hs'.extBut hne⟩ hs'
  done := fun s Q E st hE => RZ.nextOf_tuple_end hh st.1 st.2 (by simp) hE
end
end PySem
namespace J
open PySem PySem.Spec PyProof.Rows L2 M
/-! ### readings -/
theorem pe_false {X : Cx} {e : Expr} : PE X e (fun _ _ _ => False) := ⟨fun _ _ _ _ _ _ h => h.elim⟩
theorem pt_false {X : Cx} {e : Expr} : PT X e (fun _ _ _ => False) := ⟨fun _ _ _ _ _ _ h => h.elim⟩
theorem asFld {X : Cx} {K : PySem.W.Frag} {e : Expr} {ta : TE} {f : Str} (eK : X.K = K) (h : PE X e (tFld X.K ta f)) : PE X e (tFld K ta f) := eK ▸ h
theorem asSFld {X : Cx} {K : PySem.W.Frag} {st : Stmt} {ta tv : TE} {f : Str} (eK : X.K = K) (h : PS X st (sFld X.K ta tv f)) : PS X st (sFld K ta tv f) := eK ▸ h
theorem asRevA {X : Cx} {K : PySem.W.Frag} {te : TE} {tg e : Expr} (eK : X.K = K) (h : PI X tg e (RT.iRevA X.K te)) : PI X tg e (RT.iRevA K te) := eK ▸ h
section
variable {K : PySem.W.Frag} {σ : L2.St} {H : Hp} {Q : VK} {ta tv te : TE} {f : Str} {D : Ends}
theorem r_fld (k : ta σ H fun x H1 => ∃ a C dx fs v, x = .ref a ∧ H1 a = some (.ins C dx fs) ∧ Cls K C ∧ NoAttr K C f ∧ fs.lookup f = some v ∧ Q v H1) : tFld K ta f σ H Q := k
theorem r_sfld (k : tv σ H fun y H1 => ta σ H1 fun x H2 => ∃ a C dx fs, x = .ref a ∧ H2 a = some (.ins C dx fs) ∧ Cls K C ∧ NoAttr K C f ∧ fs.length < 1000 ∧ D.nx σ (upd H2 a (.ins C dx (putF f y fs)))) : sFld K ta tv f D σ H := k
theorem r_irevA {R : It → Hp → Prop} (k : te σ H fun v H1 => ∃ (a : Addr) (xs : List V), v = .ref a ∧ ((SqL K H1 a xs ∧ R (Itv K a xs.length) H1) ∨ (SqT K H1 a xs ∧ R (RT.ItvT K a xs.length) H1))) : RT.iRevA K te σ H R := k
end
/-! ### a dict made of a walk -/
def DcQ (J : It) (g : TG) (tt : TT) (tk tv : TE) (vs : List Nat) (σ : L2.St) (H1 : Hp) (D : Addr) (Z : Hp → Prop) : Prop :=
  ∃ W : Nat → Nat → Hp → Prop, (∃ m, W 0 m (upd H1 D (.dK []))) ∧ ∀ i m H, W i m H →
    (J.stop i H ∧ Z H) ∨ (J.go i H ∧ ∃ Nx : Hp → Prop, (∀ H', Nx H' → ∃ m', m' < m ∧ W (i + 1) m' H') ∧ ∀ x H', J.yld i H x H' → g x (wipe σ vs) H' fun σ2 H2 => wipe σ2 vs = wipe σ vs ∧ tt σ2 H2 fun b H3 =>
      if b = true then tk σ2 H3 fun y H4 => tv σ2 H4 fun z H5 => ∃ kvs k, y = kV k ∧ H5 D = some (.dK kvs) ∧ kvs.length < sizeLine ∧ Nx (upd H5 D (.dK (putK kvs k z))) else Nx H3)
theorem r_dc {wi : TI} {g : TG} {tt : TT} {tk tv : TE} {vs : List Nat} {σ : L2.St} {H : Hp} {Q : VK} (k : wi σ H fun J H1 => ∀ D, H1 D = none → DcQ J g tt tk tv vs σ H1 D fun H => Q (.ref D) H) : tDc wi g tt tk tv vs σ H Q := k
theorem dc_of {J : It} {g : TG} {tt : TT} {tk tv : TE} {vs : List Nat} {σ : L2.St} {H1 : Hp} {D : Addr} {Z : Hp → Prop} (n : Nat) (I : Nat → Hp → Prop) (start : I 0 (upd H1 D (.dK [])))
    (go : ∀ i H, i < n → I i H → J.go i H) (stop : ∀ H, I n H → J.stop n H)
    (turn : ∀ i H x H', i < n → I i H → J.yld i H x H' → g x (wipe σ vs) H' fun σ2 H2 => wipe σ2 vs = wipe σ vs ∧ tt σ2 H2 fun b H3 =>
      if b = true then tk σ2 H3 fun y H4 => tv σ2 H4 fun z H5 => ∃ kvs k, y = kV k ∧ H5 D = some (.dK kvs) ∧ kvs.length < sizeLine ∧ I (i + 1) (upd H5 D (.dK (putK kvs k z))) else I (i + 1) H3)
    (fin : ∀ H, I n H → Z H) : DcQ J g tt tk tv vs σ H1 D Z := by
  refine ⟨fun i m H => m = n - i ∧ i ≤ n ∧ I i H, ⟨n, by omega, Nat.zero_le _, start⟩, fun i m H w => ?_⟩
  obtain ⟨hm, hi, w⟩ := w
  subst hm
  rcases Nat.lt_or_ge i n with lt | ge
  · exact .inr ⟨go i H lt w, I (i + 1), fun H' w' => ⟨n - (i + 1), by omega, rfl, lt, w'⟩, fun x H' y => turn i H x H' lt w y⟩
  · obtain rfl : i = n := by omega
    exact .inl ⟨stop H w, fin H w⟩
/-! ### walks that stay -/
theorem seqIt_keys {d : Addr} {o : Obj} {kvs : List (Key × V)} {H : Hp} (h : H d = some (.frz o (.dK kvs))) : SeqIt (Itk d o kvs) (kvs.map fun kv => kV kv.1) H where
  go := fun i H' s lt => ⟨s _ _ h, by rw [List.length_map] at lt; exact lt⟩
  stop := fun H' s => ⟨s _ _ h, by rw [List.length_map]; exact Nat.le_refl _⟩
  yld := fun i H' x H'' s y => by
    obtain ⟨rfl, k, v, e, rfl⟩ := y
    exact ⟨rfl, by rw [List.getElem?_map, e]; rfl⟩
section
variable {K : PySem.W.Frag} {σ : L2.St} {H : Hp} {g : TG} {tb : TS} {n' : L2.St → Hp → Prop} {rt : VK} {bk ct : L2.St → Hp → Prop}
theorem loop_revT {a : Addr} {xs : List V} (I : Nat → L2.St → Hp → Prop) (at_ : ∀ i σ H, I i σ H → SqT K H a xs) (start : I 0 σ H)
    (turn : ∀ (i : Nat) (x : V) σ1 H1, xs.reverse[i]? = some x → I i σ1 H1 → g x σ1 H1 fun σ2 H2 => tb ⟨I (i + 1), rt, n', I (i + 1)⟩ σ2 H2)
    (fin : ∀ σ1 H1, I xs.length σ1 H1 → n' σ1 H1) : LoopQ (RT.ItvT K a xs.length) g tb ⟨n', rt, bk, ct⟩ σ H :=
  loop_of (D := ⟨n', rt, bk, ct⟩) xs.length I start (fun i σ H hi w => ⟨hi, xs, _, at_ i σ H w, List.getElem?_eq_getElem (by omega)⟩) (fun σ H w => Nat.le_refl _) (fun i σ1 H1 x H' hi w y => by
    obtain ⟨rfl, hx⟩ := y
    exact turn i x σ1 H' (by rw [List.getElem?_reverse hi]; exact hx xs (at_ i σ1 H' w)) w) fin
/-- a loop over a dict's keys that are tuples -/
theorem loop_keysT {d : Addr} {o : Obj} {kvs : List (List Key × V)} (I : Nat → L2.St → Hp → Prop) (at_ : ∀ i σ H, I i σ H → H d = some (.frz o (.dT kvs))) (start : I 0 σ H)
    (turn : ∀ (i : Nat) (k : List Key) (v : V) (q : Addr) σ1 H1, kvs[i]? = some (k, v) → H1 q = some (.tup (k.map kV)) → I i σ1 H1 → g (.ref q) σ1 H1 fun σ2 H2 => tb ⟨I (i + 1), rt, n', I (i + 1)⟩ σ2 H2)
    (fin : ∀ σ1 H1, I kvs.length σ1 H1 → n' σ1 H1) : LoopQ (Itkt d o kvs) g tb ⟨n', rt, bk, ct⟩ σ H :=
  loop_of (D := ⟨n', rt, bk, ct⟩) kvs.length I start (fun i σ H hi w => ⟨at_ i σ H w, hi⟩) (fun σ H w => ⟨at_ _ σ H w, Nat.le_refl _⟩) (fun i σ1 H1 x H' hi w y => by
    obtain ⟨rfl, k, v, q, e, rfl, hq⟩ := y
    exact turn i k v q σ1 H' e hq w) fin
end
end J
/-! small commands: options without kinds, no places, no groups; promises of what looks at their form -/
namespace J
open PySem PySem.Spec PyProof.Rows L2 M
/-- tuples stay -/
def TupK (H H' : Hp) : Prop := ∀ p xs, H p = some (.tup xs) → H' p = some (.tup xs)
theorem TupK.of {H H' : Hp} (s : Same H H') : TupK H H' := fun p xs h => s p _ h
theorem TupK.refl (H : Hp) : TupK H H := fun _ _ h => h
theorem TupK.trans {H H1 H2 : Hp} (a : TupK H H1) (b : TupK H1 H2) : TupK H H2 := fun p xs h => b p xs (a p xs h)
theorem TupK.upd {H : Hp} {d : Addr} {o : HO} (n : ∀ xs, H d ≠ some (.tup xs)) : TupK H (upd H d o) := fun p xs h => by
  rw [upd_ne fun e => by subst e; exact n xs h]
  exact h
/-- an option: its name, whether it is a flag -/
abbrev Op : Type := List Nat × Bool
def fmS (b : Bool) : Str := if b = true then "flag" else "count"
def opV (o : Op) : List V := [.str (S o.1), .non, .str (fmS o.2), .non, .int 0, .bl false, .non]
inductive OptsAt (H : Hp) : List V → List Op → Prop where
  | nil : OptsAt H [] []
  | cons {a : Addr} {o : Op} {xs : List V} {os : List Op} (h : H a = some (.tup (opV o))) (t : OptsAt H xs os) : OptsAt H (.ref a :: xs) (o :: os)
theorem OptsAt.keep {H H' : Hp} (s : TupK H H') : ∀ {xs : List V} {os : List Op}, OptsAt H xs os → OptsAt H' xs os
  | _, _, .nil => .nil
  | _, _, .cons h t => .cons (s _ _ h) (t.keep s)
theorem OptsAt.len {H : Hp} : ∀ {xs : List V} {os : List Op}, OptsAt H xs os → xs.length = os.length
  | _, _, .nil => rfl
  | _, _, .cons _ t => by rw [List.length_cons, List.length_cons, t.len]
theorem OptsAt.get {H : Hp} : ∀ {xs : List V} {os : List Op} {i : Nat} {x : V}, OptsAt H xs os → xs[i]? = some x → ∃ (a : Addr) (o : Op), x = .ref a ∧ os[i]? = some o ∧ H a = some (.tup (opV o))
  | _, _, _, _, .nil, e => by cases e
  | _, _, 0, _, .cons h _, e => by cases e; exact ⟨_, _, rfl, rfl, h⟩
  | _, _, i + 1, _, .cons _ t, e => t.get (i := i) e
theorem OptsAt.take {H : Hp} (n : Nat) : ∀ {xs : List V} {os : List Op}, OptsAt H xs os → OptsAt H (xs.take n) (os.take n) := by
  induction n with
  | zero => intro xs os _; exact .nil
  | succ n ih =>
    intro xs os h
    cases h with
    | nil => exact .nil
    | cons h t => exact .cons h (ih t)
/-- a command: its name, its options, the commands beneath -/
structure CmdAt (H : Hp) (a : Addr) (nm : Str) (os : List Op) (cs : List V) : Prop where
  ex : ∃ (oa pa ga ca : Addr) (xs : List V), H a = some (.tup [.str nm, .ref oa, .ref pa, .ref ga, .ref ca]) ∧ H oa = some (.tup xs) ∧ OptsAt H xs os ∧ H pa = some (.tup []) ∧ H ga = some (.tup []) ∧ H ca = some (.tup cs)
theorem CmdAt.keep {H H' : Hp} (s : TupK H H') {a : Addr} {nm : Str} {os : List Op} {cs : List V} (h : CmdAt H a nm os cs) : CmdAt H' a nm os cs := by
  obtain ⟨oa, pa, ga, ca, xs, h1, h2, h3, h4, h5, h6⟩ := h.ex
  exact ⟨oa, pa, ga, ca, xs, s _ _ h1, s _ _ h2, h3.keep s, s _ _ h4, s _ _ h5, s _ _ h6⟩
/-- names of options: two to eight letters, none twice, six at most -/
def OpsOk (os : List Op) : Prop := os.length ≤ 6 ∧ (∀ o ∈ os, Nm o.1 ∧ 2 ≤ o.1.length) ∧ (os.map Prod.fst).Nodup
theorem OpsOk.take {os : List Op} (h : OpsOk os) (n : Nat) : OpsOk (os.take n) :=
  ⟨Nat.le_trans (List.length_take_le' ..) h.1, fun o ho => h.2.1 o (List.mem_of_mem_take ho), by
    rw [List.map_take]
    exact h.2.2.sublist (List.take_sublist ..)⟩
/-! ### promises -/
def spNamed : Sp := fun vs H Q _ => ∃ (a : Addr) (z : Str) (xs : List V), vs = [.ref a] ∧ H a = some (.tup (.str z :: xs)) ∧ Nm (cd z) ∧ Q (.bl true) H
def spTupTo : Sp := fun vs H Q _ => ∃ (a : Addr) (xs : List V) (n : Int), vs = [.ref a, .int n] ∧ H a = some (.tup xs) ∧ (xs.length : Int) ≤ n ∧ Q (.bl true) H
/-- the names beneath, each at its command -/
def Subs (H : Hp) (cs : List V) (us : List (List Nat)) (os : List Op) : Prop := cs.length = us.length ∧ ∀ (i : Nat) (x : V), cs[i]? = some x → ∃ (c : Addr) (u : List Nat), x = V.ref c ∧ us[i]? = some u ∧ Nm u ∧ CmdAt H c (S u) os []
theorem Subs.keep {H H' : Hp} (s : TupK H H') {cs : List V} {us : List (List Nat)} {os : List Op} (h : Subs H cs us os) : Subs H' cs us os :=
  ⟨h.1, fun i x e => by
    obtain ⟨c, u, e1, e2, e3, e4⟩ := h.2 i x e
    exact ⟨c, u, e1, e2, e3, e4.keep s⟩⟩
theorem inV_str {z : Str} {ws : List Str} : inV (.str z) (ws.map V.str) = decide (z ∈ ws) := by
  unfold inV
  induction ws with
  | nil => rfl
  | cons x r ih =>
    rw [List.map_cons, List.any_cons, ih, Bool.eq_iff_iff, Bool.or_eq_true, decide_eq_true_iff, decide_eq_true_iff, List.mem_cons]
    show decide (x = z) = true ∨ _ ↔ _
    rw [decide_eq_true_iff]
    exact ⟨fun h => h.imp Eq.symm id, fun h => h.imp Eq.symm id⟩
theorem flat_strs : ∀ ws : List Str, (ws.map V.str).all flatV = true
  | [] => rfl
  | _ :: r => by rw [List.map_cons, List.all_cons, flat_strs r]; rfl
/-- a text among texts -/
theorem r_inTx {K : PySem.W.Frag} {H : Hp} {Q : VK} {a : Addr} {z : Str} {ws : List Str} (h : SqL K H a (ws.map V.str) ∨ SqT K H a (ws.map V.str)) (k : Q (.bl (decide (z ∈ ws))) H) : rInA K false (.str z) (.ref a) H Q :=
  .inr ⟨a, _, rfl, h, rfl, flat_strs ws, by rw [inV_str]; exact k⟩
theorem r_ninTx {K : PySem.W.Frag} {H : Hp} {Q : VK} {a : Addr} {z : Str} {ws : List Str} (h : SqL K H a (ws.map V.str) ∨ SqT K H a (ws.map V.str)) (k : Q (.bl (!decide (z ∈ ws))) H) : rInA K true (.str z) (.ref a) H Q :=
  .inr ⟨a, _, rfl, h, rfl, flat_strs ws, by rw [inV_str]; exact k⟩
end J
/-! paths that are asked of, empty comprehensions, tables -/
namespace J
open PySem PySem.Spec PyProof.Rows L2 M
theorem comp_nil {J : It} {g : TG} {tt : TT} {te : TE} {vs : List Nat} {σ : L2.St} {H1 : Hp} {D : Addr} {Z : Hp → Prop} (SI : SeqIt J [] H1) (hD : H1 D = none)
    (fin : ∀ H, Same H1 H → H D = some (.lst []) → Z H) : CompQ J g tt te vs σ H1 D Z :=
  comp_filt SI hD (fun _ => none) (by decide) (fun i x H N N0 hx => by cases hx) fun H s h => fin H s h
theorem unlock_same {H H' : Hp} {d : Addr} {u o : HO} (h : H d = some u) (s : Same (upd H d o) H') : Same H (upd H' d u) := fun p v e => by
  by_cases hp : p = d
  · subst hp; rw [upd_same, ← h, e]
  · rw [upd_ne hp]
    exact s p v (by rw [upd_ne hp]; exact e)
theorem r_lockE {t : TE} {σ : L2.St} {H : Hp} {Q : VK} {d : Addr} {u : HO} (h : H d = some u) (m : Mut (some u)) (k : ∀ od, t σ (upd H d (.frz od u)) fun v H' => H' d = some (.frz od u) ∧ Q v (upd H' d u)) : tLockE t σ H Q := ⟨d, u, h, m, k⟩
theorem r_lockS {t : TS} {D : Ends} {σ : L2.St} {H : Hp} {d : Addr} {u : HO} (h : H d = some u) (m : Mut (some u))
    (k : ∀ od, t ⟨fun σ' H' => H' d = some (.frz od u) ∧ D.nx σ' (upd H' d u), fun v H' => H' d = some (.frz od u) ∧ D.rt v (upd H' d u), fun σ' H' => H' d = some (.frz od u) ∧ D.bk σ' (upd H' d u), fun σ' H' => H' d = some (.frz od u) ∧ D.ct σ' (upd H' d u)⟩ σ (upd H d (.frz od u))) : tLock t D σ H := ⟨d, u, h, m, k⟩
theorem r_lcKy {te te' : TE} {g : TG} {tt : TT} {vs : List Nat} {σ : L2.St} {H : Hp} {Q : VK} (k : te σ H fun x H1 => ∃ d o, x = .ref d ∧ ((∃ kvs, H1 d = some (.frz o (.dK kvs)) ∧ ∀ E, H1 E = none → CompQ (Itk d o kvs) g tt te' vs σ H1 E fun H => Q (.ref E) H) ∨ ∃ kvs, H1 d = some (.frz o (.dT kvs)) ∧ ∀ E, H1 E = none → CompQ (Itkt d o kvs) g tt te' vs σ H1 E fun H => Q (.ref E) H)) :
    tLc (iKeys te) g tt te' vs σ H Q := k
theorem r_keyZ {te' : TE} {g : TG} {tt : TT} {vs : List Nat} {σ : L2.St} {H : Hp} {Z : Addr → Hp → Prop} {d : Addr} {o : Obj} {kvs : List (Key × V)} (h : H d = some (.frz o (.dK kvs))) (k : ∀ J, SeqIt J (kvs.map fun kv => kV kv.1) H → ∀ E, H E = none → CompQ J g tt te' vs σ H E (Z E)) :
    ∃ b o, V.ref d = .ref b ∧ ((∃ kvs, H b = some (.frz o (.dK kvs)) ∧ ∀ E, H E = none → CompQ (Itk b o kvs) g tt te' vs σ H E (Z E)) ∨ ∃ kvs, H b = some (.frz o (.dT kvs)) ∧ ∀ E, H E = none → CompQ (Itkt b o kvs) g tt te' vs σ H E (Z E)) :=
  ⟨d, o, rfl, .inl ⟨kvs, h, k _ (seqIt_keys h)⟩⟩
theorem Same.non {H H' : Hp} (s : Same H H') {p : Addr} (h : H' p = none) : H p = none := by
  cases e : H p with
  | none => rfl
  | some v => exact nomatch h.symm.trans (s _ _ e)
/-- one y for each x, all kept by the test -/
theorem comp_keep {J : It} {g : TG} {tt : TT} {te : TE} {vs : List Nat} {σ : L2.St} {H1 : Hp} {D : Addr} {Z : Hp → Prop} {xs : List V} (SI : SeqIt J xs H1) (hD : H1 D = none) (ys : List V) (hl : ys.length = xs.length) (hs : xs.length < sizeLine)
    (turn : ∀ (i : Nat) (x : V) (H : Hp) (N : V → Hp → Prop) (N0 : Hp → Prop), xs[i]? = some x → Same H1 H → (∀ y H4, ys[i]? = some y → Same H H4 → N y H4) → g x (wipe σ vs) H fun σ2 H2 => wipe σ2 vs = wipe σ vs ∧ tt σ2 H2 fun b H3 => if b = true then te σ2 H3 N else N0 H3)
    (fin : ∀ H, Same H1 H → H D = some (.lst ys) → Z H) : CompQ J g tt te vs σ H1 D Z := by
  refine comp_of xs.length (fun i H => Same H1 H ∧ H D = some (.lst (ys.take i))) ⟨(Same.refl H1).at hD _, by rw [upd_same]; rfl⟩ (fun i H hi w => SI.go i H w.1 hi) (fun H w => SI.stop H w.1) (fun i H x H' hi w y => ?_) (fun H w => ?_)
  · obtain ⟨rfl, hx⟩ := SI.yld i H x H' w.1 y
    exact turn i x H' _ _ hx w.1 fun y H4 hy s => ⟨_, s _ _ w.2, Nat.lt_of_le_of_lt (by rw [List.length_take]; omega) hs, (w.1.trans s).at hD _, by rw [upd_same, take_snoc hy]⟩
  · have : ys.take xs.length = ys := List.take_of_length_le (Nat.le_of_eq hl)
    rw [this] at w
    exact fin H w.1 w.2
theorem r_isq {K : PySem.W.Frag} {σ : L2.St} {H : Hp} {te : TE} {R : It → Hp → Prop} (k : te σ H fun x H1 => ∃ a xs, x = .ref a ∧ ((SqL K H1 a xs ∧ R (Itl K a) H1) ∨ (SqT K H1 a xs ∧ R (Itt K a) H1))) : iSeq K te σ H R := k
/-- tuples one behind the other -/
theorem r_catT2 {K : PySem.W.Frag} {H : Hp} {Q : VK} {a b : Addr} {xs ys : List V} (ha : H a = some (.tup xs)) (hb : H b = some (.tup ys)) (l : xs.length + ys.length ≤ 1000)
    (k : ∀ c H', Same H H' → H' c = some (.tup (xs ++ ys)) → Q (.ref c) H') : J.rAdd K (.ref a) (.ref b) H Q :=
  .inr (.inr (.inr ⟨a, b, xs, ys, rfl, rfl, SqT.of ha, SqT.of hb, Nat.le_trans l (by decide), fun e => k b H (Same.refl H) (by rw [hb, e]; rfl), fun _ e => k a H (Same.refl H) (by rw [ha, e, List.append_nil]), fun _ _ p hp => k p _ ((Same.refl H).at hp _) upd_same⟩))
end J
/-! commands by their paths, as they are met -/
namespace J
open PySem PySem.Spec PyProof.Rows L2 M
theorem asBM0 {X : Cx} {K : PySem.W.Frag} {e : Expr} {T : String} {r : V → List V → Hp → VK → Prop} {to : TE} (eK : X.K = K) (h : PE X e (tBM0 X.K T r to)) : PE X e (tBM0 K T r to) := eK ▸ h
theorem r_bm0 {K : PySem.W.Frag} {σ : L2.St} {H : Hp} {Q : VK} {T : String} {r : V → List V → Hp → VK → Prop} {to : TE} (k : to σ H fun x H1 => tyV K T x H1 ∧ r x [] H1 Q) : tBM0 K T r to σ H Q := k
/-- a path and what stands there -/
abbrev PE2 : Type := List Str × V
/-- pairs of a path and a command, each a tuple -/
inductive Pts (H : Hp) : List V → List PE2 → Prop where
  | nil : Pts H [] []
  | cons {q p : Addr} {e : PE2} {zs : List V} {L : List PE2} (h : H q = some (.tup [.ref p, e.2])) (hp : H p = some (.tup (e.1.map V.str))) (t : Pts H zs L) : Pts H (.ref q :: zs) (e :: L)
theorem Pts.keep {H H' : Hp} (s : TupK H H') : ∀ {zs : List V} {L : List PE2}, Pts H zs L → Pts H' zs L
  | _, _, .nil => .nil
  | _, _, .cons h hp t => .cons (s _ _ h) (s _ _ hp) (t.keep s)
def keyE (e : PE2) : List Key × V := (e.1.map Sum.inr, e.2)
/-- all commands: the root's, then those beneath -/
def allC (r : V) (us : List (List Nat)) (cs : List V) : List PE2 := ([], r) :: List.zipWith (fun u x => ([S u], x)) us cs
def spDeep : Sp := fun vs H Q _ => ∃ (d : Addr) (kvs : List (List Key × V)), vs = [.ref d] ∧ H d = some (.dT kvs) ∧ (∀ e ∈ kvs, e.1.length ≤ 2) ∧ ∀ H', Same H H' → Q .non H'
theorem valV_of {κ : Type} [DecidableEq κ] {kvs : List (κ × V)} {k : κ} (h : ∀ e ∈ kvs, e.1 ≠ k) : valV kvs k = none := by
  unfold valV
  rw [List.find?_eq_none.mpr fun e he => by simpa using h e he]
  rfl
theorem r_iky {σ : L2.St} {H : Hp} {td : TE} {R : It → Hp → Prop} (k : td σ H fun x H1 => ∃ d o, x = .ref d ∧ ((∃ kvs, H1 d = some (.frz o (.dK kvs)) ∧ R (Itk d o kvs) H1) ∨ ∃ kvs, H1 d = some (.frz o (.dT kvs)) ∧ R (Itkt d o kvs) H1)) : iKeys td σ H R := k
theorem r_sdput {td ty tv : TE} {n : L2.St → Hp → Prop} {rt : VK} {bk ct : L2.St → Hp → Prop} {σ : L2.St} {H : Hp} (k : tv σ H fun v H1 => td σ H1 fun x H2 => ty σ H2 fun y H3 => ∃ a H4, x = .ref a ∧ DPut H3 a y v H4 ∧ n σ H4) : sDPut td ty tv ⟨n, rt, bk, ct⟩ σ H := k
theorem Pts.len {H : Hp} : ∀ {zs : List V} {L : List PE2}, Pts H zs L → zs.length = L.length
  | _, _, .nil => rfl
  | _, _, .cons _ _ t => by rw [List.length_cons, List.length_cons, t.len]
end J
/-! a grammar is made -/
namespace J
open PySem PySem.Spec PyProof.Rows L2 M
/-- what the class of grammars is asked for -/
structure GrC (K : PySem.W.Frag) (C : Addr) : Prop where
  cls : Cls K C
  own : NoAttr K C "_own"
  root : NoAttr K C "_root"
  commands : NoAttr K C "_commands"
  words : NoAttr K C "_words"
  nodes : NoAttr K C "_nodes"
/-- a grammar's own parts -/
def grF (t r dc dw : Addr) (n : V) : List (Str × V) := [("_own", .ref t), ("_root", .ref r), ("_commands", .ref dc), ("_words", .ref dw), ("_nodes", n)]
/-- all stays but what stands at g -/
def KeepB (g : Addr) (H H' : Hp) : Prop := ∀ p o, p ≠ g → H p = some o → H' p = some o
theorem KeepB.of {g : Addr} {H H' : Hp} (s : Same H H') : KeepB g H H' := fun p o _ h => s p o h
theorem KeepB.trans {g : Addr} {H H1 H2 : Hp} (a : KeepB g H H1) (b : KeepB g H1 H2) : KeepB g H H2 := fun p o n h => b p o n (a p o n h)
theorem KeepB.upd {g : Addr} {H : Hp} (o : HO) : KeepB g H (upd H g o) := fun p v n h => by rw [upd_ne n]; exact h
theorem KeepB.tup {g : Addr} {H H' : Hp} {C dx : Addr} {fs : List (Str × V)} (k : KeepB g H H') (h : H g = some (.ins C dx fs)) : TupK H H' := fun p xs e => k p _ (fun q => by subst q; rw [h] at e; cases e) e
theorem KeepB.non {g : Addr} {H H' : Hp} {v : HO} (k : KeepB g H H') (hg : H' g = some v) {p : Addr} (h : H' p = none) : H p = none := by
  cases e : H p with
  | none => rfl
  | some o => exact nomatch h.symm.trans (k p o (fun q => by subst q; exact nomatch h.symm.trans hg) e)
theorem r_sfl {K : PySem.W.Frag} {σ : L2.St} {H : Hp} {ta tv : TE} {f : Str} {n : L2.St → Hp → Prop} {rt : VK} {bk ct : L2.St → Hp → Prop}
    (k : tv σ H fun y H1 => ta σ H1 fun x H2 => ∃ a C dx fs, x = .ref a ∧ H2 a = some (.ins C dx fs) ∧ Cls K C ∧ NoAttr K C f ∧ fs.length < 1000 ∧ n σ (upd H2 a (.ins C dx (putF f y fs)))) : sFld K ta tv f ⟨n, rt, bk, ct⟩ σ H := k
end J
/-! a field as one of several targets; what a node is made of -/
namespace J
open PySem PySem.Spec PyProof.Rows L2 M
theorem loop_none {K : PySem.W.Frag} {a : Addr} {g : TG} {tb : TS} {n' : L2.St → Hp → Prop} {rt : VK} {bk ct : L2.St → Hp → Prop} {σ : L2.St} {H : Hp} (h : SqT K H a []) (k : n' σ H) : LoopQ (Itt K a) g tb ⟨n', rt, bk, ct⟩ σ H :=
  loop_seq (seqIt_t h) (fun _ σ' H' => σ' = σ ∧ H' = H) (fun _ _ _ ⟨_, e⟩ => by subst e; exact Same.refl _) ⟨rfl, rfl⟩ (fun i x _ _ hx => by cases hx) fun σ1 H1 ⟨e1, e2⟩ => by subst e1 e2; exact k
end J
/-! a grammar of places alone, its table a dict of lambdas -/
namespace J
open PySem PySem.Spec PyProof.Rows L2 M
/-- a place: its name, its own kind's name -/
abbrev Plc : Type := List Nat × List Nat
def PlAt (H : Hp) (p : Addr) (e : Plc) : Prop := ∃ k, H p = some (.tup [.str (S e.1), .ref k, .str "maybe"]) ∧ KdAt H k (.own e.2)
theorem PlAt.keep {H H' : Hp} (s : TupK H H') {p : Addr} {e : Plc} (h : PlAt H p e) : PlAt H' p e := let ⟨k, a, b⟩ := h; ⟨k, s _ _ a, s _ _ b⟩
inductive PlsAt (H : Hp) : List V → List Plc → Prop where
  | nil : PlsAt H [] []
  | cons {a : Addr} {e : Plc} {xs : List V} {es : List Plc} (h : PlAt H a e) (t : PlsAt H xs es) : PlsAt H (.ref a :: xs) (e :: es)
theorem PlsAt.keep {H H' : Hp} (s : TupK H H') : ∀ {xs : List V} {es : List Plc}, PlsAt H xs es → PlsAt H' xs es
  | _, _, .nil => .nil
  | _, _, .cons h t => .cons (h.keep s) (t.keep s)
theorem PlsAt.len {H : Hp} : ∀ {xs : List V} {es : List Plc}, PlsAt H xs es → xs.length = es.length
  | _, _, .nil => rfl
  | _, _, .cons _ t => by rw [List.length_cons, List.length_cons, t.len]
theorem PlsAt.get {H : Hp} : ∀ {xs : List V} {es : List Plc} {i : Nat} {x : V}, PlsAt H xs es → xs[i]? = some x → ∃ (a : Addr) (e : Plc), x = .ref a ∧ es[i]? = some e ∧ PlAt H a e
  | _, _, _, _, .nil, e => by cases e
  | _, _, 0, _, .cons h _, e => by cases e; exact ⟨_, _, rfl, rfl, h⟩
  | _, _, i + 1, _, .cons _ t, e => t.get (i := i) e
structure RootAt (H : Hp) (r : Addr) (es : List Plc) : Prop where
  ex : ∃ (oa pa ga ca : Addr) (xs : List V), H r = some (.tup [.str "tool", .ref oa, .ref pa, .ref ga, .ref ca]) ∧ H oa = some (.tup []) ∧ H pa = some (.tup xs) ∧ PlsAt H xs es ∧ H ga = some (.tup []) ∧ H ca = some (.tup [])
theorem RootAt.keep {H H' : Hp} (s : TupK H H') {r : Addr} {es : List Plc} (h : RootAt H r es) : RootAt H' r es := by
  obtain ⟨oa, pa, ga, ca, xs, h1, h2, h3, h4, h5, h6⟩ := h.ex
  exact ⟨oa, pa, ga, ca, xs, s _ _ h1, s _ _ h2, s _ _ h3, h4.keep s, s _ _ h5, s _ _ h6⟩
def PlsOk (es : List Plc) : Prop := es.length ≤ 4 ∧ (∀ e ∈ es, Nm e.1 ∧ Nm e.2) ∧ (es.map Prod.fst).Nodup ∧ (es.map Prod.snd).Nodup
/-! ### the ranks, a dict of the module -/
structure RkD (K : PySem.W.Frag) (w : World) (d : Addr) (ks : List Str) : Prop where
  ex : ∃ (es : Array DictEntry) (n : Nat), K.lookup d = some ⟨.type "dict", none, .dict es n, #[]⟩ ∧ es.size = ks.length ∧ ∀ (i : Nat) (hi : i < es.size), ∃ (x : Str) (t : Tok), ks[i]? = some x ∧ es[i].key = .str x t
  low : (d == sysModules) = false
  few : ks.length ≤ 100
def rListKD (d : Addr) (ks : List Str) : List V → Hp → VK → Prop := fun vs H Q => vs = [.ref d] ∧ ∀ p, H p = none → Q (.ref p) (upd H p (.lst (ks.map V.str)))
theorem call_listKD {X : Cx} {d : Addr} {ks : List Str} (D : RkD X.K X.w d ks) (hc : X.calm = true) : CallR X (.type "list") (rListKD d ks) := by
  intro pins s σ H vs us Q I r h
  obtain ⟨rfl, q⟩ := h
  obtain ⟨u, rfl, rx⟩ := vals1 r
  cases rx
  obtain ⟨es, n, hl, hz, hk⟩ := D.ex
  have raw : s.heap.DictRaw d es n := ⟨_, I.kIn d _ hl, ⟨rfl, rfl, rfl⟩, rfl⟩
  have few : es.size ≤ sizeLine := by rw [hz]; exact Nat.le_trans D.few (by decide)
  refine PySem.W.kdl_call (KdlSrc.rawDict D.low) (I.ok.hd hc) raw few fun h' tk acc c' kp at_ items => ?_
  have len : acc.size = ks.length := items.1.trans hz
  have rv : Vals (ks.map V.str) acc.toList := L2.vals_of_at (by rw [List.length_map, ← len]; simp) fun j x u e1 e2 => by
    rw [List.getElem?_map] at e1
    obtain ⟨z, ez, rfl⟩ := Option.map_eq_some_iff.mp e1
    obtain ⟨hi, rfl⟩ := items.2 j u (by simpa using e2)
    obtain ⟨x', t, ex, ek⟩ := hk j hi
    rw [ez] at ex
    cases ex
    exact ⟨t, ek⟩
  exact ⟨.ref s.heap.objs.size, _, I.laid (t' := tk) kp (Nat.le_refl _) (show ObjOk X.prog X.w _ h' _ (.lst (ks.map V.str)) from ⟨by rw [List.length_map]; exact Nat.le_trans D.few (by decide), acc.toList, c', rv, by simpa using at_⟩), rfl, q _ (I.hok.fresh (Nat.le_refl _))⟩
end J
/-! what a grammar of places promises -/
namespace J
open PySem PySem.Spec PyProof.Rows L2 M LamX NdefX
theorem r_neInts {K : PySem.W.Frag} {H : Hp} {Q : VK} {a b : Addr} {ks : List Int} (ha : SqL K H a (ks.map V.int)) (hb : SqL K H b (ks.map V.int)) (k : Q (.bl false) H) : rNeA K (.ref a) (.ref b) H Q := by
  refine .inr ⟨.list (ks.map PyData.int), .list (ks.map PyData.int), .lst ha (dp_ints ks), .lst hb (dp_ints ks), sh_ints ks, sh_ints ks, ?_⟩
  rw [SeqAt.eqv_refl _ (SeqAt.canLay_of_shaped (sh_ints ks))]
  exact k
theorem perm_ones {n : Nat} {ns : List Int} (p : ns.Perm (List.replicate n 1)) : ns = List.replicate n 1 := by
  refine List.eq_replicate_iff.mpr ⟨by rw [p.length_eq, List.length_replicate], fun b h => ?_⟩
  exact (List.mem_replicate.mp (p.mem_iff.mp h)).2
/-! ### words that are told by lambdas -/
abbrev TWs : Type := List Nat × List (List Nat)
inductive TellsL (W : LamW) (H : Hp) : List (Key × V) → List TWs → Prop where
  | nil : TellsL W H [] []
  | cons {f l : Addr} {e : TWs} {kvs : List (Key × V)} {ts : List TWs} (h : TellsAt W H f (.ref l)) (hl : H l = some (.lst (e.2.map wV))) (t : TellsL W H kvs ts) : TellsL W H ((.inr (S e.1), .ref f) :: kvs) (e :: ts)
inductive WordsL (H : Hp) : List (Key × V) → List TWs → Prop where
  | nil : WordsL H [] []
  | cons {p : Addr} {e : TWs} {kvs : List (Key × V)} {ts : List TWs} (h : H p = some (.tup (e.2.map wV))) (t : WordsL H kvs ts) : WordsL H ((.inr (S e.1), .ref p) :: kvs) (e :: ts)
/-- lists, tuples, cells, lambdas stay -/
def KeepL (H H' : Hp) : Prop := ∀ p o, H p = some o → (∃ xs, o = .lst xs) ∨ (∃ xs, o = .tup xs) ∨ (∃ φ, o = .ext φ) → H' p = some o
theorem KeepL.of {H H' : Hp} (s : Same H H') : KeepL H H' := fun p o h _ => s p o h
theorem KeepL.trans {H H1 H2 : Hp} (a : KeepL H H1) (b : KeepL H1 H2) : KeepL H H2 := fun p o h k => b p o (a p o h k) k
theorem KeepL.upd {H : Hp} {d : Addr} {kvs : List (Key × V)} {o : HO} (h : H d = some (.dK kvs)) : KeepL H (upd H d o) := fun p u e k => by
  rw [upd_ne fun z => by
    subst z
    rw [h] at e
    cases e
    rcases k with ⟨_, z⟩ | ⟨_, z⟩ | ⟨_, z⟩ <;> cases z]
  exact e
theorem KeepL.ofB {H H' : Hp} {d : Addr} {kvs : List (Key × V)} (k : KeepB d H H') (h : H d = some (.dK kvs)) : KeepL H H' := fun p u e z => k p u (fun q => by
    subst q
    rw [h] at e
    cases e
    rcases z with ⟨_, z⟩ | ⟨_, z⟩ | ⟨_, z⟩ <;> cases z) e
theorem Same.atB {H H1 H2 : Hp} {w : Addr} (s : Same H H1) (n : H w = none) (k : KeepB w H1 H2) : Same H H2 := fun p o e => k p o (fun q => by subst q; rw [n] at e; cases e) (s p o e)
theorem KeepL.ofI {H H' : Hp} {g C dx : Addr} {fs : List (Str × V)} (k : KeepB g H H') (h : H g = some (.ins C dx fs)) : KeepL H H' := fun p u e z => k p u (fun q => by
    subst q
    rw [h] at e
    cases e
    rcases z with ⟨_, z⟩ | ⟨_, z⟩ | ⟨_, z⟩ <;> cases z) e
theorem KeepL.tup {H H' : Hp} (k : KeepL H H') : TupK H H' := fun p xs h => k p _ h (.inr (.inl ⟨_, rfl⟩))
theorem TellsAt.keep {W : LamW} {H H' : Hp} {f : Addr} {v : V} (h : TellsAt W H f v) (k : KeepL H H') : TellsAt W H' f v :=
  let ⟨c, c', h1, h2, h3⟩ := h
  ⟨c, c', k _ _ h1 (.inr (.inr ⟨_, rfl⟩)), k _ _ h2 (.inr (.inr ⟨_, rfl⟩)), k _ _ h3 (.inr (.inr ⟨_, rfl⟩))⟩
theorem TellsL.keep {W : LamW} {H H' : Hp} (k : KeepL H H') : ∀ {kvs : List (Key × V)} {ts : List TWs}, TellsL W H kvs ts → TellsL W H' kvs ts
  | _, _, .nil => .nil
  | _, _, .cons h hl t => .cons (h.keep k) (k _ _ hl (.inl ⟨_, rfl⟩)) (t.keep k)
theorem WordsL.keep {H H' : Hp} (k : TupK H H') : ∀ {kvs : List (Key × V)} {ts : List TWs}, WordsL H kvs ts → WordsL H' kvs ts
  | _, _, .nil => .nil
  | _, _, .cons h t => .cons (k _ _ h) (t.keep k)
theorem TellsL.keys {W : LamW} {H : Hp} : ∀ {kvs : List (Key × V)} {ts : List TWs}, TellsL W H kvs ts → kvs.map Prod.fst = ts.map fun e => (Sum.inr (S e.1) : Key)
  | _, _, .nil => rfl
  | _, _, .cons _ _ t => by rw [List.map_cons, List.map_cons, t.keys]
theorem WordsL.keys {H : Hp} : ∀ {kvs : List (Key × V)} {ts : List TWs}, WordsL H kvs ts → kvs.map Prod.fst = ts.map fun e => (Sum.inr (S e.1) : Key)
  | _, _, .nil => rfl
  | _, _, .cons _ t => by rw [List.map_cons, List.map_cons, t.keys]
theorem WordsL.snoc {H : Hp} {p : Addr} {e : TWs} (hp : H p = some (.tup (e.2.map wV))) : ∀ {kvs : List (Key × V)} {ts : List TWs}, WordsL H kvs ts → WordsL H (kvs ++ [(.inr (S e.1), .ref p)]) (ts ++ [e])
  | _, _, .nil => .cons hp .nil
  | _, _, .cons h t => .cons h (t.snoc hp)
theorem valV_cons_ne {k k' : Key} {v : V} {kvs : List (Key × V)} (h : k' ≠ k) : valV ((k', v) :: kvs) k = valV kvs k := by
  unfold valV
  rw [List.find?_cons_of_neg (by simpa using h)]
theorem valV_cons_eq {k : Key} {v : V} {kvs : List (Key × V)} : valV ((k, v) :: kvs) k = some v := by
  unfold valV
  rw [List.find?_cons_of_pos (by simp)]
  rfl
/-- what is told of the i-th name -/
theorem TellsL.val {W : LamW} {H : Hp} : ∀ {kvs : List (Key × V)} {ts : List TWs} {e : TWs}, TellsL W H kvs ts → (ts.map Prod.fst).Nodup → e ∈ ts → ∃ f l, valV kvs (.inr (S e.1)) = some (.ref f) ∧ TellsAt W H f (.ref l) ∧ H l = some (.lst (e.2.map wV))
  | _, _, _, .nil, _, h => (List.not_mem_nil h).elim
  | _, _, e, .cons (f := f) (l := l) (e := e') (ts := ts) h hl t, n, m => by
    rw [List.map_cons, List.nodup_cons] at n
    rcases List.mem_cons.mp m with rfl | m
    · exact ⟨f, l, valV_cons_eq, h, hl⟩
    · obtain ⟨f', l', a, b, c⟩ := t.val n.2 m
      refine ⟨f', l', ?_, b, c⟩
      rw [valV_cons_ne fun z => n.1 (by rw [S_inj.mp (Sum.inr.inj z)]; exact List.mem_map_of_mem m)]
      exact a
theorem WordsL.val {H : Hp} : ∀ {kvs : List (Key × V)} {ts : List TWs} {e : TWs}, WordsL H kvs ts → (ts.map Prod.fst).Nodup → e ∈ ts → ∃ p, valV kvs (.inr (S e.1)) = some (.ref p) ∧ H p = some (.tup (e.2.map wV))
  | _, _, _, .nil, _, h => (List.not_mem_nil h).elim
  | _, _, e, .cons (p := p) (e := e') (ts := ts) h t, n, m => by
    rw [List.map_cons, List.nodup_cons] at n
    rcases List.mem_cons.mp m with rfl | m
    · exact ⟨p, valV_cons_eq, h⟩
    · obtain ⟨p', a, c⟩ := t.val n.2 m
      refine ⟨p', ?_, c⟩
      rw [valV_cons_ne fun z => n.1 (by rw [S_inj.mp (Sum.inr.inj z)]; exact List.mem_map_of_mem m)]
      exact a
theorem WordsL.none {H : Hp} {nm : List Nat} : ∀ {kvs : List (Key × V)} {ts : List TWs}, WordsL H kvs ts → nm ∉ ts.map Prod.fst → valV kvs (.inr (S nm)) = none
  | _, _, .nil, _ => rfl
  | _, _, .cons (e := e') _ t, n => by
    rw [List.map_cons, List.mem_cons, not_or] at n
    rw [valV_cons_ne fun z => n.1 (S_inj.mp (Sum.inr.inj z)).symm]
    exact t.none n.2
theorem PlsAt.kinds {H : Hp} : ∀ {xs : List V} {es : List Plc}, PlsAt H xs es → ∃ ks : List Addr, ks.length = es.length ∧ ∀ (i : Nat) (x : V), xs[i]? = some x → ∃ (p k : Addr) (e : Plc), x = .ref p ∧ es[i]? = some e ∧ ks[i]? = some k ∧ H p = some (.tup [.str (S e.1), .ref k, .str "maybe"]) ∧ KdAt H k (.own e.2)
  | _, _, .nil => ⟨[], rfl, fun i x e => by cases e⟩
  | _, _, .cons (a := a) (e := e) ⟨k, h1, h2⟩ t => by
    obtain ⟨ks, hl, hk⟩ := t.kinds
    refine ⟨k :: ks, by rw [List.length_cons, List.length_cons, hl], fun i x ex => ?_⟩
    cases i with
    | zero => cases ex; exact ⟨a, k, e, rfl, rfl, rfl, h1, h2⟩
    | succ i => exact hk i x ex
theorem PlsAt.kind {H : Hp} {xs : List V} {es : List Plc} (h : PlsAt H xs es) {ks : List Addr} (hl : ks.length = es.length) (hk : ∀ (i : Nat) (x : V), xs[i]? = some x → ∃ (p k : Addr) (e : Plc), x = .ref p ∧ es[i]? = some e ∧ ks[i]? = some k ∧ H p = some (.tup [.str (S e.1), .ref k, .str "maybe"]) ∧ KdAt H k (.own e.2))
    {i : Nat} {k : Addr} (e : ks[i]? = some k) : ∃ e, es[i]? = some e ∧ KdAt H k (.own e.2) := by
  obtain ⟨li, _⟩ := List.getElem?_eq_some_iff.mp e
  have lx : i < xs.length := by rw [h.len, ← hl]; exact li
  obtain ⟨p, k', e', _, e1, e2, _, e3⟩ := hk i xs[i] (List.getElem?_eq_getElem lx)
  rw [e] at e2
  cases e2
  exact ⟨e', e1, e3⟩
theorem WordsL.len {H : Hp} {kvs : List (Key × V)} {ts : List TWs} (h : WordsL H kvs ts) : kvs.length = ts.length := by
  have := congrArg List.length h.keys
  rwa [List.length_map, List.length_map] at this
theorem TellsL.len {W : LamW} {H : Hp} {kvs : List (Key × V)} {ts : List TWs} (h : TellsL W H kvs ts) : kvs.length = ts.length := by
  have := congrArg List.length h.keys
  rwa [List.length_map, List.length_map] at this
theorem snoc_take {α : Type} {xs : List α} {i : Nat} {x : α} (h : xs[i]? = some x) : xs.take (i + 1) = xs.take i ++ [x] := by
  rw [List.take_add_one, h]; rfl
theorem notin_take {α : Type} {xs : List α} {i : Nat} {x : α} (n : xs.Nodup) (h : xs[i]? = some x) : x ∉ xs.take i := fun m => by
  obtain ⟨j, hj⟩ := List.mem_iff_getElem?.mp m
  have lj : j < i := by
    obtain ⟨l, _⟩ := List.getElem?_eq_some_iff.mp hj
    rw [List.length_take] at l
    omega
  rw [List.getElem?_take, if_pos lj] at hj
  have := (List.getElem?_inj (by exact (List.getElem?_eq_some_iff.mp hj).1) n).mp (hj.trans h.symm)
  omega
theorem r_din6 {ty td : TE} {σ : L2.St} {H : Hp} {Q : VK} (k : ty σ H fun y H1 => td σ H1 fun x H2 => ∃ a ov, x = .ref a ∧ DGet H2 a y ov ∧ Q (.bl ov.isSome) H2) : tDIn ty td σ H Q := k
theorem r_dnotin {ty td : TE} {σ : L2.St} {H : Hp} {Q : VK} (k : ty σ H fun y H1 => td σ H1 fun x H2 => ∃ a ov, x = .ref a ∧ DGet H2 a y ov ∧ Q (.bl (!ov.isSome)) H2) : tDNotIn ty td σ H Q := k
theorem valV_nth {kvs : List (Key × V)} {i : Nat} {k : Key} {v : V} (n : (kvs.map Prod.fst).Nodup) (h : kvs[i]? = some (k, v)) : valV kvs k = some v := by
  induction kvs generalizing i with
  | nil => cases h
  | cons e r ih =>
    rw [List.map_cons, List.nodup_cons] at n
    cases i with
    | zero =>
      have h : some e = some (k, v) := h
      cases h
      exact valV_cons_eq
    | succ i =>
      have h : r[i]? = some (k, v) := h
      have m : k ∈ r.map Prod.fst := List.mem_map_of_mem (List.mem_of_getElem? h)
      obtain ⟨k', v'⟩ := e
      rw [valV_cons_ne fun z => n.1 (by rw [show (k', v').1 = k from z]; exact m)]
      exact ih n.2 h
theorem putK_take {kvs : List (Key × V)} {i : Nat} {k : Key} {v : V} (n : (kvs.map Prod.fst).Nodup) (h : kvs[i]? = some (k, v)) : putK (kvs.take i) k v = kvs.take (i + 1) := by
  rw [putK_new, snoc_take h]
  refine valV_of fun e he z => ?_
  have := notin_take n (i := i) (x := k) (by rw [List.getElem?_map, h]; rfl)
  rw [← List.map_take] at this
  exact this (z ▸ List.mem_map_of_mem he)
theorem TellsL.nodup {W : LamW} {H : Hp} {kvs : List (Key × V)} {ts : List TWs} (t : TellsL W H kvs ts) (n : (ts.map Prod.fst).Nodup) : (kvs.map Prod.fst).Nodup := by
  rw [t.keys, show (ts.map fun e => (Sum.inr (S e.1) : Key)) = (ts.map Prod.fst).map fun a => (Sum.inr (S a) : Key) by rw [List.map_map]; rfl]
  exact List.Pairwise.map _ (fun a b (h : a ≠ b) z => h (S_inj.mp (Sum.inr.inj z))) n
theorem lookup_of {ts : List TWs} {tw : TWs} {nm : List Nat} (n : (ts.map Prod.fst).Nodup) (m : tw ∈ ts) (e : tw.1 = nm) : ts.lookup nm = some tw.2 := by
  subst e
  induction ts with
  | nil => exact (List.not_mem_nil m).elim
  | cons x r ih =>
    obtain ⟨a, b⟩ := x
    rw [List.map_cons, List.nodup_cons] at n
    rw [List.lookup_cons]
    rcases List.mem_cons.mp m with rfl | m
    · simp
    · rw [show (tw.1 == a) = false from beq_eq_false_iff_ne.mpr fun z => n.1 (show a ∈ r.map Prod.fst from z ▸ List.mem_map_of_mem m)]
      exact ih n.2 m
/-! ### promises -/
def spPlForm : Sp := fun vs H Q _ => ∃ (a : Addr) (e : Plc), vs = [.ref a] ∧ PlAt H a e ∧ Nm e.1 ∧ Nm e.2 ∧ ∀ H', Same H H' → Q (.bl true) H'
def spOrder1 : Sp := fun vs H Q _ => ∃ (a : Addr) (n : Nat), vs = [.ref a] ∧ H a = some (.lst (List.replicate n (.str "maybe"))) ∧ n ≤ 4 ∧ ∀ H', Same H H' → Q (.bl true) H'
def spPlaces1 : Sp := fun vs H Q _ => ∃ (a : Addr) (xs : List V) (es : List Plc), vs = [.ref a] ∧ H a = some (.tup xs) ∧ PlsAt H xs es ∧ PlsOk es ∧ ∀ H', Same H H' → Q (.bl true) H'
def spRoot : Sp := fun vs H Q _ => ∃ (a : Addr) (es : List Plc), vs = [.ref a] ∧ RootAt H a es ∧ PlsOk es ∧ ∀ H', Same H H' → Q (.bl true) H'
def ownV : Kd → V
  | .own nm => .str (S nm)
  | _ => .non
def spOwnName : Sp := fun vs H Q _ => ∃ (a : Addr) (k : Kd), vs = [.ref a] ∧ KdAt H a k ∧ Q (ownV k) H
def spTableK : Sp := fun vs H Q _ => ∃ (a : Addr) (kvs : List (Key × V)), vs = [.ref a] ∧ H a = some (.dK kvs) ∧ kvs.length ≤ 60 ∧ (∀ e ∈ kvs, ∃ nm, e.1 = .inr (S nm) ∧ Nm nm) ∧ ∀ H', Same H H' → Q (.bl true) H'
def spAsked (W : LamW) : Sp := fun vs H Q _ => ∃ (t f l : Addr) (nm : List Nat) (kvs : List (Key × V)) (ws : List (List Nat)), vs = [.ref t, .str (S nm)] ∧ H t = some (.dK kvs) ∧ valV kvs (.inr (S nm)) = some (.ref f) ∧ TellsAt W H f (.ref l) ∧ H l = some (.lst (ws.map wV)) ∧
  ∀ H' p, Same H H' → H p = none → H' p = some (.tup (ws.map wV)) → Q (.ref p) H'
def spOwnNamesP : Sp := fun vs H Q _ => ∃ (a : Addr) (es : List Plc), vs = [.ref a] ∧ RootAt H a es ∧ es.length ≤ 4 ∧ ∀ H' p, Same H H' → H p = none → H' p = some (.lst (es.map fun e => .str (S e.2))) → Q (.ref p) H'
def spTwiceP : Sp := fun vs H Q _ => ∃ (p : V) (a : Addr) (es : List Plc), vs = [p, .ref a] ∧ RootAt H a es ∧ PlsOk es ∧ ∀ H', Same H H' → Q .non H'
def spNoGroupsP : Sp := fun vs H Q _ => ∃ (p : V) (a : Addr) (es : List Plc), vs = [p, .ref a] ∧ RootAt H a es ∧ Q .non H
/-- a table, what it tells, of the places' kinds -/
structure TabP (W : LamW) (H : Hp) (t : Addr) (es : List Plc) (ts : List TWs) : Prop where
  ex : ∃ kvs, H t = some (.dK kvs) ∧ TellsL W H kvs ts
  al : ts.map Prod.fst = es.map Prod.snd
def spLookP (W : LamW) : Sp := fun vs H Q _ => ∃ (p : V) (a t w : Addr) (es : List Plc) (ts : List TWs), vs = [p, .ref a, .ref t, .ref w] ∧ RootAt H a es ∧ PlsOk es ∧ TabP W H t es ts ∧ H w = some (.dK []) ∧ t ≠ w ∧
  ∀ H' qs, KeepB w H H' → H' w = some (.dK qs) → WordsL H' qs ts → Q .non H'
def spFittedP (W : LamW) : Sp := fun vs H Q _ => ∃ (r t : Addr) (es : List Plc) (ts : List TWs), vs = [.ref r, .ref t] ∧ RootAt H r es ∧ PlsOk es ∧ TabP W H t es ts ∧
  ∀ H' q dc dw qs, Same H H' → H dc = none → H dw = none → dc ≠ dw → H' dc = some (.dT [([], .ref r)]) → H' dw = some (.dK qs) → WordsL H' qs ts → H' q = some (.tup [.ref dc, .ref dw]) → Q (.ref q) H'
/-- a grammar's root and what its words are -/
structure GrW (C : Addr) (H : Hp) (g r : Addr) (ts : List TWs) : Prop where
  ex : ∃ (dx t dc dw : Addr) (qs : List (Key × V)), H g = some (.ins C dx (grF t r dc dw .non)) ∧ H dw = some (.dK qs) ∧ WordsL H qs ts
def spGramP (W : LamW) (C : Addr) : Sp := fun vs H Q _ => ∃ (g r t dx : Addr) (es : List Plc) (ts : List TWs), vs = [.ref g, .ref r, .ref t] ∧ H g = some (.ins C dx []) ∧ RootAt H r es ∧ PlsOk es ∧ TabP W H t es ts ∧
  ∀ H', KeepB g H H' → GrW C H' g r ts → Q .non H'
def ownWs (ts : List TWs) : Kd → List (List Nat)
  | .own nm => (ts.lookup nm).getD []
  | _ => []
def spOwnWordsP (C : Addr) : Sp := fun vs H Q _ => ∃ (g r a : Addr) (ts : List TWs) (k : Kd), vs = [.ref g, .ref a] ∧ GrW C H g r ts ∧ (ts.map Prod.fst).Nodup ∧ KdAt H a k ∧ k.Ok ∧ (∀ nm, k = .own nm → nm ∈ ts.map Prod.fst) ∧
  ∀ H' p, Same H H' → H p = none → H' p = some (.lst ((ownWs ts k).map wV)) → Q (.ref p) H'
/-- the words, sorted -/
def SortOf (ws : List (List Nat)) (ys : List Str) : Prop := ys.Perm (ws.map S) ∧ sortedS ys = true
/-- a table at p: the kind itself, or its words sorted -/
def TbAt (H : Hp) (p a : Addr) (ws : List (List Nat)) : Kd → Prop
  | .one ns => ∃ q ys, H p = some (.tup [.str "words", .ref q]) ∧ H q = some (.tup (ys.map V.str)) ∧ SortOf ns ys
  | .own _ => ∃ q ys, H p = some (.tup [.str "words", .ref q]) ∧ H q = some (.tup (ys.map V.str)) ∧ SortOf ws ys
  | _ => p = a
def spTabWith (K : PySem.W.Frag) : Sp := fun vs H Q _ => ∃ (a b : Addr) (k : Kd) (ws : List (List Nat)), vs = [.ref a, .ref b] ∧ KdAt H a k ∧ OwAt K H b ws ∧ ws.length ≤ 8 ∧ k.Ok ∧ ∀ H' p, Same H H' → TbAt H' p a ws k → Q (.ref p) H'
end J
/-! things that are no kinds, no grammars -/
namespace J
open PySem PySem.Spec PyProof.Rows L2 M
theorem fn_or {P : Program} {w : World} {K : PySem.W.Frag} {mg : Str → Option Value} {base : Heap} {CX : CXT} {k : Nat} {f : Addr} {fd : FuncData} {ps : List Str} {sp1 sp2 : Sp} (F1 : FnOk P w K mg base CX k f fd ps sp1) (F2 : FnOk P w K mg base CX k f fd ps sp2) :
    FnOk P w K mg base CX k f fd ps fun vs H Q E => sp1 vs H Q E ∨ sp2 vs H Q E :=
  ⟨fun vs H Q E h => h.elim (F1.len vs H Q E) (F2.len vs H Q E), fun A outer s H args us vs Q E hr e0 hb r h => h.elim (F1.run A outer s H args us vs Q E hr e0 hb r) (F2.run A outer s H args us vs Q E hr e0 hb r)⟩
inductive OddK (H : Hp) : V → Prop where
  | non : OddK H .non
  | int (i : Int) : OddK H (.int i)
  | str (z : Str) : OddK H (.str z)
  | lst {a : Addr} {xs : List V} (h : H a = some (.lst xs)) : OddK H (.ref a)
  | txt {a : Addr} {n : Int} (h : H a = some (.tup [.str "text", .int n])) (l : n.natAbs ≤ 1000) (o : n < 1 ∨ 20 < n) : OddK H (.ref a)
  | one {a c : Addr} (h : H a = some (.tup [.str "one", .ref c])) (hc : H c = some (.tup [])) : OddK H (.ref a)
  | nam {a : Addr} (h : H a = some (.tup [.str "name", .int 1])) : OddK H (.ref a)
  | num {a : Addr} (h : H a = some (.tup [.str "number", .int 2, .int 1])) : OddK H (.ref a)
theorem OddK.same {H H' : Hp} {x : V} (h : OddK H x) (s : Same H H') : OddK H' x := by
  cases h with
  | non => exact .non
  | int i => exact .int i
  | str z => exact .str z
  | lst h => exact .lst (s _ _ h)
  | txt h l o => exact .txt (s _ _ h) l o
  | one h hc => exact .one (s _ _ h) (s _ _ hc)
  | nam h => exact .nam (s _ _ h)
  | num h => exact .num (s _ _ h)
def spBounds0 : Sp := fun vs H Q _ => ∃ b : Addr, vs = [.ref b] ∧ H b = some (.tup [.int 2, .int 1]) ∧ Q (.bl false) H
def spChoices0 : Sp := fun vs H Q _ => ∃ b : Addr, vs = [.ref b] ∧ H b = some (.tup []) ∧ Q (.bl false) H
def spKind0 : Sp := fun vs H Q _ => ∃ x : V, vs = [x] ∧ OddK H x ∧ ∀ H', Same H H' → Q (.bl false) H'
structure GIs6 (K : PySem.W.Frag) (CG : Addr) : Prop where
  ins : C8.InsC K CG
  non : PySem.W.kitOne K (.type "NoneType") (.ref CG) = some false
  int : PySem.W.kitOne K (.type "int") (.ref CG) = some false
  str : PySem.W.kitOne K (.type "str") (.ref CG) = some false
  tup : PySem.W.kitOne K (.type "tuple") (.ref CG) = some false
/-- what is no grammar -/
inductive NotGr6 (H : Hp) : V → Prop where
  | non : NotGr6 H .non
  | int (i : Int) : NotGr6 H (.int i)
  | str (z : Str) : NotGr6 H (.str z)
  | tup {a : Addr} {xs : List V} (h : H a = some (.tup xs)) : NotGr6 H (.ref a)
theorem NotGr6.same {H H' : Hp} {y : V} (h : NotGr6 H y) (s : Same H H') : NotGr6 H' y := by
  cases h with
  | non => exact .non
  | int i => exact .int i
  | str z => exact .str z
  | tup h => exact .tup (s _ _ h)
theorem NotGr6.no {K : PySem.W.Frag} {CG : Addr} (G : GIs6 K CG) {H : Hp} {y : V} (h : NotGr6 H y) : ∃ t, TyX K H y t ∧ PySem.W.kitOne K t (.ref CG) = some false := by
  cases h with
  | non => exact ⟨_, .base .non, G.non⟩
  | int i => exact ⟨_, .base (.int i), G.int⟩
  | str z => exact ⟨_, .base (.str z), G.str⟩
  | tup h => exact ⟨_, .base (.tup h), G.tup⟩
theorem GrW.same {C : Addr} {H H' : Hp} {g r : Addr} {ts : List TWs} (h : GrW C H g r ts) (s : Same H H') : GrW C H' g r ts :=
  let ⟨dx, t, dc, dw, qs, a, b, c⟩ := h.ex
  ⟨⟨dx, t, dc, dw, qs, s _ _ a, s _ _ b, c.keep (TupK.of s)⟩⟩
/-- the table of a kind: told, or refused -/
def spTabOf (CG CK CX : Addr) : Sp := fun vs H Q E => ∃ (y x : V), vs = [y, x] ∧ ((NotGr6 H y ∧ Err CX "found" y H E) ∨ ∃ (g r : Addr) (ts : List TWs), y = .ref g ∧ GrW CG H g r ts ∧ (ts.map Prod.fst).Nodup ∧
  ((OddK H x ∧ Err CK "found" x H E) ∨ ∃ (a : Addr) (k : Kd), x = .ref a ∧ KdAt H a k ∧ k.Ok ∧ (∀ nm, k = .own nm → nm ∈ ts.map Prod.fst) ∧ (∀ e ∈ ts, e.2.length ≤ 8) ∧ ∀ H' p, Same H H' → TbAt H' p a (ownWs ts k) k → Q (.ref p) H'))
end J
/-! what a table's refusal says -/
namespace J
open PySem PySem.Spec PyProof.Rows L2 M
structure TQ60 (K : PySem.W.Frag) (CK CX : Addr) : Prop where
  xx : PySem.W.exmOne K (.ref CX) (.ref CX) = some true
  kx : PySem.W.exmOne K (.ref CK) (.ref CX) = some false
  kk : PySem.W.exmOne K (.ref CK) (.ref CK) = some true
  fx : XfC K CX
  fk : XfC K CK
def spRefsd (CG : Addr) : Sp := fun vs H Q _ => ∃ (y x : V), vs = [y, x] ∧ OddK H x ∧ ((NotGr6 H y ∧ ∀ H' p, Same H H' → H p = none → H' p = some (.lst [.str "grammar", y]) → Q (.ref p) H') ∨
  ∃ (g r : Addr) (ts : List TWs), y = .ref g ∧ GrW CG H g r ts ∧ (ts.map Prod.fst).Nodup ∧ ∀ H' p, Same H H' → H p = none → H' p = some (.lst [.str "kind", x]) → Q (.ref p) H')
end J
/-! words told by a law: a dict of lists -/
namespace J
open PySem PySem.Spec PyProof.Rows L2 M
theorem asRevL {X : Cx} {K : PySem.W.Frag} {e : Expr} {te : TE} (eK : X.K = K) (h : PE X e (tRevL X.K te)) : PE X e (tRevL K te) := eK ▸ h
/-- a dict of lists -/
inductive ListsL (H : Hp) : List (Key × V) → List TWs → Prop where
  | nil : ListsL H [] []
  | cons {l : Addr} {e : TWs} {kvs : List (Key × V)} {ts : List TWs} (h : H l = some (.lst (e.2.map wV))) (t : ListsL H kvs ts) : ListsL H ((.inr (S e.1), .ref l) :: kvs) (e :: ts)
theorem ListsL.val {H : Hp} : ∀ {kvs : List (Key × V)} {ts : List TWs} {e : TWs}, ListsL H kvs ts → (ts.map Prod.fst).Nodup → e ∈ ts → ∃ p, valV kvs (.inr (S e.1)) = some (.ref p) ∧ H p = some (.lst (e.2.map wV))
  | _, _, _, .nil, _, h => (List.not_mem_nil h).elim
  | _, _, e, .cons (l := p) (e := e') (ts := ts) h t, n, m => by
    rw [List.map_cons, List.nodup_cons] at n
    rcases List.mem_cons.mp m with rfl | m
    · exact ⟨p, valV_cons_eq, h⟩
    · obtain ⟨p', a, c⟩ := t.val n.2 m
      refine ⟨p', ?_, c⟩
      rw [valV_cons_ne fun z => n.1 (by rw [S_inj.mp (Sum.inr.inj z)]; exact List.mem_map_of_mem m)]
      exact a
theorem ListsL.keep {H H' : Hp} (k : ∀ (p : Addr) (xs : List (List Nat)), H p = some (.lst (xs.map wV)) → H' p = some (.lst (xs.map wV))) : ∀ {kvs : List (Key × V)} {ts : List TWs}, ListsL H kvs ts → ListsL H' kvs ts
  | _, _, .nil => .nil
  | _, _, .cons h t => .cons (k _ _ h) (t.keep k)
theorem ListsL.same {H H' : Hp} (s : Same H H') {kvs : List (Key × V)} {ts : List TWs} (h : ListsL H kvs ts) : ListsL H' kvs ts := h.keep fun p xs e => s p _ e
def nmW : List Nat := [119]
def nmO : List Nat := [111]
def nmE : List Nat := [101]
def nmAB : List Nat := [97, 32, 98]
/-- the words that a law tells of the names ns -/
def TsOf (ns : List (List Nat)) (ts : List TWs) : Prop := ∃ (ws : List (List Nat)) (i : Int), (ws = ns.reverse ∨ ws = ((ns ++ [nmAB]).drop (ns.length + 1 - 8)).reverse) ∧ -4 ≤ i ∧ i ≤ 4 ∧ ts = [(nmW, ws), (nmO, [dec i, [45]]), (nmE, [])]
theorem TsOf.nd {ns : List (List Nat)} {ts : List TWs} (h : TsOf ns ts) : (ts.map Prod.fst).Nodup := by
  obtain ⟨ws, i, _, _, _, rfl⟩ := h
  show [nmW, nmO, nmE].Nodup
  decide
def spTables : Sp := fun vs H Q _ => ∃ (b nt : Addr) (ns : List (List Nat)) (n : Nat), vs = [.ref b, .ref nt] ∧ Bx H b n ∧ n ≤ 500000000 ∧ H nt = some (.tup (ns.map wV)) ∧ 1 ≤ ns.length ∧ ns.length ≤ 8 ∧
  ∀ H' d kvs ts, Keep b H H' → Bx H' b (n + 2) → H d = none → H' d = some (.dK kvs) → ListsL H' kvs ts → TsOf ns ts → Q (.ref d) H'
def spDue60 : Sp := fun vs H Q _ => ∃ (a d : Addr) (k : Kd) (kvs : List (Key × V)) (ts : List TWs), vs = [.ref a, .ref d] ∧ KdAt H a k ∧ k.Ok ∧ H d = some (.dK kvs) ∧ ListsL H kvs ts ∧ (ts.map Prod.fst).Nodup ∧ (∀ nm, k = .own nm → nm ∈ ts.map Prod.fst) ∧ (∀ e ∈ ts, e.2.length ≤ 8) ∧
  ∀ H' p, Same H H' → TbAt H' p a (ownWs ts k) k → Q (.ref p) H'
end J
/-! a tuple of texts, sorted -/
namespace J
open PySem PySem.Spec PyProof.Rows L2 M
section
variable {prog : Program} {w : World} {A : Around} {E : Value → Shared → Prop} {s : Shared}
/-- the items of a tuple are gathered into a new list -/
theorem gather_tup {l : Addr} {vs : List Value} {Q : List Value → Shared → Prop} (hl : s.heap.IsTuple l vs.toArray) (hz : vs.length ≤ sizeLine)
    (hQ : Q vs { s with heap := (s.heap.push (seqObj "list" #[] 0)).update s.heap.objs.size (Obj.mapSeq (· ++ vs.toArray)) }) : wpAny (model prog w) A (collect (.ref l)) Q E s := by
  obtain ⟨o, ho, hc, n, hd⟩ := hl
  have hS : (s.heap.push (seqObj "list" #[] 0)).get? s.heap.objs.size = some (seqObj "list" #[] 0) := Heap.get?_push_size _ rfl
  unfold collect
  refine wpAny_bind (wpAny_runValue (codeAny_builtin F.entry_proto_collect ?_))
  rw [Around.under_plainId F.plain_proto_collect _]
  show wpAny _ A.in1 (newList [] >>= fun a => again (.builtin "list.__iadd__" ⟨[a, .ref l], []⟩)) _ _ s
  refine wpAny_bind (wpAny_newObj_type ?_)
  refine wpAny_pure ⟨plainId_quiet F.plain_list_iadd _, codeAny_builtin F.entry_list_iadd ?_⟩
  rw [Around.under_plainId F.plain_list_iadd _]
  show wpAny _ A.in1 (Builtin.List.listExtendWith (.ref s.heap.objs.size) (.ref l) (.ref s.heap.objs.size)) _ _ _
  have end_ : wpAny (model prog w) A (load s.heap.objs.size >>= fun o => match o.data with
      | .seq xs _ => pure xs.toList
      | _ => unsupported "internal:collect") Q E { s with heap := (s.heap.push (seqObj "list" #[] 0)).update s.heap.objs.size (Obj.mapSeq (· ++ vs.toArray)) } := by
    refine wpAny_bind (wpAny_load (Heap.get?_update_self _ hS rfl) ?_)
    exact wpAny_pure (by simpa using hQ)
  refine wpAny_mono (wpAny_extend_seq (s := { s with heap := s.heap.push (seqObj "list" #[] 0) }) (R := fun r s' => r = .ok (.ret (.ref s.heap.objs.size)) ∧ s' = { s with heap := (s.heap.push (seqObj "list" #[] 0)).update s.heap.objs.size (Obj.mapSeq (· ++ vs.toArray)) })
    s.heap.objs.size l (.ref s.heap.objs.size) 0 (.inr rfl) hS (Heap.get?_push_of_some _ ho) hc hd ⟨rfl, rfl⟩ (by simpa using hz)) (fun fin s' h => ?_) fun e s' h => nomatch h.1
  cases fin with
  | done f =>
    obtain ⟨e1, rfl⟩ := h
    cases e1
    exact end_
  | again c' =>
    refine ⟨h.1, codeAny_mono h.2 fun r s'' q => ?_⟩
    obtain ⟨rfl, rfl⟩ := q
    exact end_
/-- the texts of a tuple, sorted -/
theorem sorted_tup {l : Addr} {vs : List Value} {ss : List Str} {Q : Value → Shared → Prop} (hl : s.heap.IsTuple l vs.toArray) (hS : StrsAre vs ss) (h64 : vs.length < 64)
    (h : ∀ (out : Array Value) (ss' : List Str), StrsAre out.toList ss' → ss'.Perm ss → sortedS ss' = true → Q (.ref (s.heap.objs.size + 1)) { s with heap := sortedAll s.heap vs out }) :
    wpAny (model prog w) A (call (.builtin "sorted") [.ref l]) Q E s := by
  have hz : vs.length ≤ sizeLine := by rw [sizeLine_eq]; omega
  have z1 : ((s.heap.push (seqObj "list" #[] 0)).update s.heap.objs.size (Obj.mapSeq (· ++ vs.toArray))).objs.size = s.heap.objs.size + 1 := by rw [Heap.size_update, size_push']
  have at1 := Heap.get?_push_size ((s.heap.push (seqObj "list" #[] 0)).update s.heap.objs.size (Obj.mapSeq (· ++ vs.toArray))) (o := seqObj "list" vs.toArray 0) rfl
  refine Calls.call_function_entry kind_sorted plain_sorted entry_sorted (args_sorted1 _) ?_
  unfold Builtin.«sorted»
  refine wpAny_bind (m := checkCount "sorted" 1 1 _) (wpAny_pure (wpAny_bind (gather_tup hl hz (wpAny_bind (wpAny_newList ?_ hz)))))
  rw [z1] at at1 ⊢
  refine wpAny_bind (wpAny_holding (wpAny_call_entry slot_list_sort ⟨_, at1, rfl⟩ entry_list_sort (list_sort_treeK strKind_oneLt at1 hS.keysOf (fun v₁ v₂ rest e => keyKind_strs (by rw [← e]; exact hS)) h64 fun st' hp hs => ?_) (args_list_sort _)))
  obtain ⟨ss', h1, h2, h3⟩ := sorted_out_str hS hp hs
  exact ⟨_, rfl, wpAny_pure ⟨_, rfl, h _ ss' h1 h2 h3⟩⟩
end
def rSortedST (K : PySem.W.Frag) : List V → Hp → VK → Prop := fun vs H Q => ∃ (a : Addr) (xs : List Str), vs = [V.ref a] ∧ SqT K H a (xs.map V.str) ∧ xs.length < 64 ∧
  ∀ (ys : List Str) (p : Addr), ys.Perm xs → sortedS ys = true → H p = none → Q (.ref p) (upd H p (.lst (ys.map V.str)))
theorem cr_sortedST {X : Cx} : CallR X (.builtin "sorted") (rSortedST X.K) := fun pins s σ H vs us Q I r ⟨a, xs, e, hs, h64, q⟩ => by
  subst e
  obtain ⟨its, rv, hl, _⟩ := I.tuple hs
  have n0 := rv.length
  rw [List.length_map] at n0
  rw [Vals.ref1 r]
  refine sorted_tup hl rv.strs (by rw [← n0]; exact h64) fun out ys h1 h2 h3 => ?_
  obtain ⟨ep, at_⟩ := sortedAll_at s.heap its out
  have n1 : (ys.map V.str).length ≤ sizeLine := by rw [List.length_map, h2.length_eq]; exact small64 h64
  exact ⟨.ref (s.heap.objs.size + 1), _, I.laid (t' := s.toks) (fun _ _ => sortedAll_old) (Nat.le_succ _) (show ObjOk X.prog X.w _ _ _ (.lst (ys.map V.str)) from ⟨n1, out.toList, ep, vals_of_strs h1, at_⟩), rfl, q ys _ h2 h3 (I.hok.fresh (Nat.le_succ _))⟩
theorem cutV_last8 {ns : List (List Nat)} : cutV ((ns ++ [nmAB]).map wV) (some (-8)) none = ((ns ++ [nmAB]).drop (ns.length + 1 - 8)).map wV := by
  unfold cutV
  rw [List.map_append, List.length_append, List.length_map, List.map_drop, List.map_append]
  have h1 : HT.sIx (ns.length + 1) 0 (some (-8)) = ns.length + 1 - 8 := by
    show (if (-8 : Int) < 0 then ((-8 : Int) + ((ns.length + 1 : Nat) : Int)).toNat else min (-8 : Int).toNat (ns.length + 1)) = _
    rw [if_pos (by decide)]
    omega
  have h2 : HT.sIx (ns.length + 1) (ns.length + 1) none = ns.length + 1 := rfl
  show List.take (HT.sIx (ns.length + 1) (ns.length + 1) none - HT.sIx (ns.length + 1) 0 (some (-8))) (List.drop (HT.sIx (ns.length + 1) 0 (some (-8))) _) = _
  rw [h1, h2, List.take_of_length_le]
  rw [List.length_drop, List.length_append, List.length_map]
  exact Nat.le_refl _
theorem r_pair {tk tv : TE} {r : List (TE × TE)} {σ : L2.St} {H : Hp} {R : List (V × V) → Hp → Prop} (k : tk σ H fun a H1 => tv σ H1 fun v H2 => tPairs r σ H2 fun ps H3 => R ((a, v) :: ps) H3) : tPairs ((tk, tv) :: r) σ H R := k
theorem r_pair0 {σ : L2.St} {H : Hp} {R : List (V × V) → Hp → Prop} (k : R [] H) : tPairs [] σ H R := k
end J
/-! beginnings and whose they are -/
namespace J
open PySem PySem.Spec PyProof.Rows L2 M
end J
/-! zip of an empty tuple and a list; a tuple no times, once -/
namespace J
open PySem PySem.Spec PyProof.Rows L2 M
/-! ### a tuple of one, some times over -/
end J
/-! items of a dict, as they stand and sorted -/
namespace J
open PySem PySem.W PySem.Spec PyProof.Rows PyProof.V L2 M
/-! ### sorted(d.items()), keys and what they lead to texts -/
end J
/-! own errors over KeyError -/
namespace PySem
end PySem
namespace J
open PySem PySem.Spec PyProof.Rows L2  -- own
end J
/-! nodes and what they are made of -/
namespace J
open PySem PySem.Spec PyProof.Rows L2 M
/-! ### a call of what an expression tells -/
/-! ### beginnings -/
/-- t reads as n -/
def Due (ns : List (List Nat)) (t n : List Nat) : Prop := n ∈ ns ∧ t ≠ [] ∧ t <+: n ∧ (t = n ∨ (t ∉ ns ∧ ∀ m ∈ ns, t <+: m → m = n))
abbrev Bg : Type := List Nat × List Nat
/-- in order, just what reads -/
structure IsBegs (ns : List (List Nat)) (D : List Bg) : Prop where
  up : (D.map Prod.fst).Pairwise (· < ·)
  iff : ∀ t n, (t, n) ∈ D ↔ Due ns t n
def begE (p : Bg) : Key × V := (Sum.inr (S p.1), V.str (S p.2))
/-! ### a node -/
/-- a node's fields -/
def nodeF (p oa ga pa b no nu le ow po fi kf : Addr) (kt : V) : List (Str × V) := [("way", .ref p), ("options", .ref oa), ("groups", .ref ga), ("place_parts", .ref pa), ("beneath", .ref b), ("nothing", .ref no), ("numbers", .ref nu), ("letters", .ref le), ("owns", .ref ow), ("place_owns", .ref po),
  ("fitting", .ref fi), ("needed", .int 0), ("leads_free", .bl true), ("leads_bare", .bl true), ("goes", .bl true), ("goes_bare", .bl true), ("known_fits", .ref kf), ("known_sets", .non), ("known_texts", kt), ("known_shortest", .non), ("known_rows", .non), ("known_form", .non)]
/-- the number of each option -/
def numK (os : List Op) : List (Key × V) := os.zipIdx.map fun p => (Sum.inr (S p.1.1), V.int (p.2 : Nat))
end J
/-! readings for a node's making -/
namespace J
open PySem PySem.Spec PyProof.Rows L2 M
section
variable {K : PySem.W.Frag} {σ : L2.St} {H : Hp} {Q : VK}
theorem KeepB.nd {g : Addr} {H H' : Hp} {C dx : Addr} {fs : List (Str × V)} (k : KeepB g H H') (h : H g = some (.ins C dx fs)) {p : Addr} {o : HO} (e : H p = some o) (no : ∀ C dx fs, o ≠ .ins C dx fs) : H' p = some o :=
  k p o (fun q => by subst q; rw [h] at e; exact no _ _ _ (Option.some.inj e).symm) e
end
/-- the goal of a method's call -/
theorem r_meth {C : Addr} {m : Str} {sp : Sp} {E : XK} {ta : TE} {t : TA} {σ : L2.St} {H : Hp} {Q : VK} (k : ta σ H fun x H1 => ∃ a dx fs, x = .ref a ∧ H1 a = some (.ins C dx fs) ∧ fs.lookup m = none ∧ t σ H1 fun vs H2 => sp (x :: (vs ++ [])) H2 Q E) : tMeth C m sp [] E ta t σ H Q := k
/-- a method, where it stands -/
structure MAt (K : PySem.W.Frag) (C : Addr) (m qual : Str) (st : Stmt) (ps : List Str) (f : Addr) (fd : FuncData) : Prop where
  fn : Fun K m qual st f fd
  me : Meth K C m f
  bd : Binds K fd ps []
end J
/-! beginnings: what is told, and that it is what is due -/
namespace J
open PySem PySem.Spec PyProof.Rows L2 M
theorem Due.fn {ns : List (List Nat)} {t n n' : List Nat} (h : Due ns t n) (h' : Due ns t n') : n = n' := by
  obtain ⟨a, _, c, e⟩ := h
  obtain ⟨a', _, c', e'⟩ := h'
  rcases e with e | ⟨e, u⟩
  · rcases e' with e' | ⟨e', _⟩
    · rw [← e, ← e']
    · exact (e' (e ▸ a)).elim
  · exact (u n' a' c').symm
/-! ### the owners of texts -/
/-- keys are texts, none twice -/
def Txk (kvs : List (Key × V)) : Prop := ∃ zs : List (List Nat), kvs.map Prod.fst = zs.map (fun z => (Sum.inr (S z) : Key)) ∧ zs.Nodup
theorem Txk.put {kvs : List (Key × V)} (h : Txk kvs) (t : List Nat) (v : V) : Txk (putK kvs (.inr (S t)) v) := by
  obtain ⟨zs, e, nd⟩ := h
  cases hv : valV kvs (.inr (S t)) with
  | none =>
    rw [putK_new v hv, Txk]
    refine ⟨zs ++ [t], by rw [List.map_append, List.map_append, e]; rfl, ?_⟩
    rw [List.nodup_append]
    refine ⟨nd, List.nodup_cons.mpr ⟨List.not_mem_nil, List.nodup_nil⟩, fun a ha b hb => ?_⟩
    obtain rfl := List.mem_singleton.mp hb
    rintro rfl
    have m : (Sum.inr (S a) : Key) ∈ kvs.map Prod.fst := by rw [e]; exact List.mem_map.mpr ⟨a, ha, rfl⟩
    obtain ⟨kv, m1, m2⟩ := List.mem_map.mp m
    unfold valV at hv
    rw [Option.map_eq_none_iff, List.find?_eq_none] at hv
    exact hv kv m1 (by simp [m2])
  | some x =>
    refine ⟨zs, ?_, nd⟩
    unfold putK
    rw [if_pos (by rw [valV_any, hv]; rfl), List.map_map, ← e]
    refine List.map_congr_left fun kv hkv => ?_
    show (if kv.1 = Sum.inr (S t) then (kv.1, v) else kv).1 = kv.1
    split <;> rfl
theorem Txk.mem {kvs : List (Key × V)} {zs : List (List Nat)} (e : kvs.map Prod.fst = zs.map (fun z => (Sum.inr (S z) : Key))) (t : List Nat) : t ∈ zs ↔ (valV kvs (.inr (S t))).isSome = true := by
  rw [← valV_any]
  constructor
  · intro h
    have m : (Sum.inr (S t) : Key) ∈ kvs.map Prod.fst := by rw [e]; exact List.mem_map.mpr ⟨t, h, rfl⟩
    obtain ⟨kv, m1, m2⟩ := List.mem_map.mp m
    exact List.any_eq_true.mpr ⟨kv, m1, by simp [m2]⟩
  · intro h
    obtain ⟨kv, m1, m2⟩ := List.any_eq_true.mp h
    have m : kv.1 ∈ kvs.map Prod.fst := List.mem_map_of_mem m1
    rw [of_decide_eq_true m2, e] at m
    obtain ⟨z, hz, ez⟩ := List.mem_map.mp m
    rw [← S_inj.mp (Sum.inr.inj ez)]
    exact hz
/-! ### sorted texts -/
/-! ### walking -/
theorem begE_put {D : List Bg} {p : Bg} (h : ∀ q ∈ D, q.1 ≠ p.1) : putK (D.map begE) (.inr (S p.1)) (.str (S p.2)) = (D ++ [p]).map begE := by
  rw [putK_new, List.map_append]
  · rfl
  · refine valV_of fun e he => ?_
    obtain ⟨q, hq, rfl⟩ := List.mem_map.mp he
    exact fun e1 => h q hq (S_inj.mp (Sum.inr.inj e1))
end J
/-! nodes as they stand -/
namespace J
open PySem PySem.Spec PyProof.Rows L2 M
abbrev Kid : Type := List Nat × Addr
def kidE (k : Kid) : Key × V := (Sum.inr (S k.1), V.ref k.2)
/-- a text leads to what its name leads to -/
def leadE (tbl : List (Key × V)) (p : Bg) : Key × V := (Sum.inr (S p.1), (valV tbl (.inr (S p.2))).getD .non)
def flagN (os : List Op) : List (List Nat) := (os.filter fun o => o.2).map Prod.fst
/-- what a node knows of its texts -/
def TxAt (H : Hp) (F : List Addr) (kt : V) (os : List Op) (kids : List Kid) : Prop := kt = .non ∨ ∃ (t d1 d2 d3 : Addr) (D1 D2 D3 : List Bg), kt = .ref t ∧ H t = some (.tup [.ref d1, .ref d2, .ref d3]) ∧ IsBegs (os.map Prod.fst) D1 ∧ H d1 = some (.dK (D1.map (leadE (numK os)))) ∧ d1 ∈ F ∧
  IsBegs (flagN os) D2 ∧ H d2 = some (.dK (D2.map (leadE (numK os)))) ∧ d2 ∈ F ∧ IsBegs (kids.map Prod.fst) D3 ∧ H d3 = some (.dK (D3.map (leadE (kids.map kidE)))) ∧ d3 ∈ F
/-- what stands at the places of F stays -/
def KeepF (F : List Addr) (H H' : Hp) : Prop := ∀ q ∈ F, ∀ o, H q = some o → H' q = some o
theorem TxAt.keep {H H' : Hp} {F F' : List Addr} {kt : V} {os : List Op} {kids : List Kid} (h : TxAt H F kt os kids) (k : KeepF F H H') (t : TupK H H') (sub : ∀ q ∈ F, q ∈ F') : TxAt H' F' kt os kids := by
  rcases h with h | ⟨a, d1, d2, d3, D1, D2, D3, e, h0, b1, h1, f1, b2, h2, f2, b3, h3, f3⟩
  · exact .inl h
  · exact .inr ⟨a, d1, d2, d3, D1, D2, D3, e, t _ _ h0, b1, k _ f1 _ h1, sub _ f1, b2, k _ f2 _ h2, sub _ f2, b3, k _ f3 _ h3, sub _ f3⟩
structure NodeAt (C : Addr) (H : Hp) (F : List Addr) (n : Addr) (ps : List Str) (os : List Op) (kids : List Kid) : Prop where
  ex : ∃ (dx p oa ga pa b no nu le ow po fi kf : Addr) (kt : V) (xs : List V), H n = some (.ins C dx (nodeF p oa ga pa b no nu le ow po fi kf kt)) ∧ n ∈ F ∧ H p = some (.tup (ps.map V.str)) ∧ H oa = some (.tup xs) ∧ OptsAt H xs os ∧ H b = some (.dK (kids.map kidE)) ∧ b ∈ F ∧ H nu = some (.dK (numK os)) ∧ nu ∈ F ∧ TxAt H F kt os kids
theorem NodeAt.keep {C : Addr} {H H' : Hp} {F F' : List Addr} {n : Addr} {ps : List Str} {os : List Op} {kids : List Kid} (h : NodeAt C H F n ps os kids) (k : KeepF F H H') (t : TupK H H') (sub : ∀ q ∈ F, q ∈ F') : NodeAt C H' F' n ps os kids := by
  obtain ⟨dx, p, oa, ga, pa, b, no, nu, le, ow, po, fi, kf, kt, xs, h1, f1, h2, h3, h4, h5, f5, h6, f6, h7⟩ := h.ex
  exact ⟨dx, p, oa, ga, pa, b, no, nu, le, ow, po, fi, kf, kt, xs, k _ f1 _ h1, sub _ f1, t _ _ h2, t _ _ h3, h4.keep t, k _ f5 _ h5, sub _ f5, k _ f6 _ h6, sub _ f6, h7.keep k t sub⟩
structure NodesAt (C : Addr) (H : Hp) (F : List Addr) (N : Addr) (us : List (List Nat)) (os os' : List Op) : Prop where
  ex : ∃ (kvs : List (List Key × V)) (rn : Addr) (ks : List Kid), H N = some (.dT kvs) ∧ N ∈ F ∧ ks.map Prod.fst = us ∧ valV kvs [] = some (.ref rn) ∧ (∀ k ∈ ks, valV kvs [.inr (S k.1)] = some (.ref k.2) ∧ NodeAt C H F k.2 [S k.1] os' []) ∧ NodeAt C H F rn [] os ks
theorem NodesAt.keep {C : Addr} {H H' : Hp} {F F' : List Addr} {N : Addr} {us : List (List Nat)} {os os' : List Op} (h : NodesAt C H F N us os os') (k : KeepF F H H') (t : TupK H H') (sub : ∀ q ∈ F, q ∈ F') : NodesAt C H' F' N us os os' := by
  obtain ⟨kvs, rn, ks, h1, f1, h2, h3, h4, h5⟩ := h.ex
  exact ⟨kvs, rn, ks, k _ f1 _ h1, sub _ f1, h2, h3, fun x hx => ⟨(h4 x hx).1, (h4 x hx).2.keep k t sub⟩, h5.keep k t sub⟩
end J
/-! a name set to a dict made of a walk -/
namespace J
open PySem PySem.Spec PyProof.Rows L2 M
end J
/-! looking up what stands once -/
namespace J
open PySem PySem.Spec PyProof.Rows L2 M
end J
/-! a node's texts -/
namespace J
open PySem PySem.Spec PyProof.Rows L2 M
theorem KeepB.of_nd {g : Addr} {H H' : Hp} {C dx : Addr} {fs : List (Str × V)} (k : KeepB g H H') (h : H g = some (.ins C dx fs)) {p : Addr} {kvs : List (Key × V)} (e : H p = some (.dK kvs)) : H' p = some (.dK kvs) := k.nd h e (fun _ _ _ z => nomatch z)
theorem TxAt.keepB {H H' : Hp} {F F' : List Addr} {kt : V} {os : List Op} {kids : List Kid} {g C dx : Addr} {fs : List (Str × V)} (h : TxAt H F kt os kids) (k : KeepB g H H') (hg : H g = some (.ins C dx fs)) (sub : ∀ q ∈ F, q ∈ F') : TxAt H' F' kt os kids := by
  rcases h with h | ⟨a, d1, d2, d3, D1, D2, D3, e, h0, b1, h1, f1, b2, h2, f2, b3, h3, f3⟩
  · exact .inl h
  · exact .inr ⟨a, d1, d2, d3, D1, D2, D3, e, k.tup hg _ _ h0, b1, k.of_nd hg h1, sub _ f1, b2, k.of_nd hg h2, sub _ f2, b3, k.of_nd hg h3, sub _ f3⟩
theorem NodeAt.keepB {C : Addr} {H H' : Hp} {F F' : List Addr} {n : Addr} {ps : List Str} {os : List Op} {kids : List Kid} {g C' dx' : Addr} {fs : List (Str × V)} (h : NodeAt C H F n ps os kids) (k : KeepB g H H') (hg : H g = some (.ins C' dx' fs)) (ne : n ≠ g) (sub : ∀ q ∈ F, q ∈ F') : NodeAt C H' F' n ps os kids := by
  obtain ⟨dx, p, oa, ga, pa, b, no, nu, le, ow, po, fi, kf, kt, xs, h1, f1, h2, h3, h4, h5, f5, h6, f6, h7⟩ := h.ex
  exact ⟨dx, p, oa, ga, pa, b, no, nu, le, ow, po, fi, kf, kt, xs, k _ _ ne h1, sub _ f1, k.tup hg _ _ h2, k.tup hg _ _ h3, h4.keep (k.tup hg), k.of_nd hg h5, sub _ f5, k.of_nd hg h6, sub _ f6, h7.keepB k hg sub⟩
theorem str_inj {a b : List Str} (h : a.map V.str = b.map V.str) : a = b := by
  induction a generalizing b with
  | nil => cases b with
    | nil => rfl
    | cons _ _ => cases h
  | cons x r ih => cases b with
    | nil => cases h
    | cons y t =>
      rw [List.map_cons, List.map_cons, List.cons.injEq] at h
      rw [V.str.inj h.1, ih h.2]
theorem NodeAt.path {C : Addr} {H : Hp} {F F' : List Addr} {n : Addr} {ps ps' : List Str} {os os' : List Op} {kids kids' : List Kid} (h : NodeAt C H F n ps os kids) (h' : NodeAt C H F' n ps' os' kids') : ps = ps' := by
  obtain ⟨dx, p, oa, ga, pa, b, no, nu, le, ow, po, fi, kf, kt, xs, h1, f1, h2, _⟩ := h.ex
  obtain ⟨dx', p', oa', ga', pa', b', no', nu', le', ow', po', fi', kf', kt', xs', h1', f1', h2', _⟩ := h'.ex
  have e := h1.symm.trans h1'
  have e := HO.ins.inj (Option.some.inj e)
  have e := e.2.2
  unfold nodeF at e
  have e := (List.cons.inj e).1
  have ep : p = p' := V.ref.inj (Prod.mk.inj e).2
  subst ep
  have e2 := h2.symm.trans h2'
  exact str_inj (HO.tup.inj (Option.some.inj e2))
theorem NodeAt.ins {C : Addr} {H : Hp} {F : List Addr} {n : Addr} {ps : List Str} {os : List Op} {kids : List Kid} (h : NodeAt C H F n ps os kids) : ∃ dx fs, H n = some (.ins C dx fs) := by
  obtain ⟨dx, p, oa, ga, pa, b, no, nu, le, ow, po, fi, kf, kt, xs, h1, _⟩ := h.ex
  exact ⟨_, _, h1⟩
/-- one of the nodes has changed -/
theorem NodesAt.root {C : Addr} {H H' : Hp} {F F' : List Addr} {N rn : Addr} {us : List (List Nat)} {os os' : List Op} {kvs : List (List Key × V)} {ks : List Kid} (h1 : H N = some (.dT kvs)) (f1 : N ∈ F) (h2 : ks.map Prod.fst = us) (h3 : valV kvs [] = some (.ref rn)) (h4 : ∀ k ∈ ks, valV kvs [.inr (S k.1)] = some (.ref k.2) ∧ NodeAt C H F k.2 [S k.1] os' [])
    (h5 : NodeAt C H F rn [] os ks) (k : KeepB rn H H') (sub : ∀ q ∈ F, q ∈ F') (new : NodeAt C H' F' rn [] os ks) : NodesAt C H' F' N us os os' := by
  obtain ⟨dx, fs, hi⟩ := h5.ins
  refine ⟨kvs, rn, ks, k.nd hi h1 (fun _ _ _ z => nomatch z), sub _ f1, h2, h3, fun x hx => ⟨(h4 x hx).1, (h4 x hx).2.keepB k hi (fun e => ?_) sub⟩, new⟩
  have a := (h4 x hx).2
  rw [e] at a
  exact nomatch a.path h5
theorem NodesAt.kid {C : Addr} {H H' : Hp} {F F' : List Addr} {N rn : Addr} {us : List (List Nat)} {os os' : List Op} {kvs : List (List Key × V)} {ks : List Kid} (h1 : H N = some (.dT kvs)) (f1 : N ∈ F) (h2 : ks.map Prod.fst = us) (hu : us.Nodup) (h3 : valV kvs [] = some (.ref rn)) (h4 : ∀ k ∈ ks, valV kvs [.inr (S k.1)] = some (.ref k.2) ∧ NodeAt C H F k.2 [S k.1] os' [])
    (h5 : NodeAt C H F rn [] os ks) {x : Kid} (hx : x ∈ ks) (k : KeepB x.2 H H') (sub : ∀ q ∈ F, q ∈ F') (new : NodeAt C H' F' x.2 [S x.1] os' []) : NodesAt C H' F' N us os os' := by
  obtain ⟨dx, fs, hi⟩ := (h4 x hx).2.ins
  refine ⟨kvs, rn, ks, k.nd hi h1 (fun _ _ _ z => nomatch z), sub _ f1, h2, h3, fun y hy => ⟨(h4 y hy).1, ?_⟩, h5.keepB k hi (fun e => ?_) sub⟩
  · by_cases e : y.2 = x.2
    · have a := (h4 y hy).2
      rw [e] at a
      have e1 := (List.cons.inj (a.path (h4 x hx).2)).1
      rw [e, e1]
      exact new
    · exact (h4 y hy).2.keepB k hi e sub
  · have a := (h4 x hx).2
    rw [← e] at a
    exact nomatch a.path h5
theorem IsBegs.nd {ns : List (List Nat)} {D : List Bg} (h : IsBegs ns D) : (D.map Prod.fst).Nodup := by
  refine List.Pairwise.imp (fun {a b} lt => ?_) h.up
  rintro rfl
  exact List.lt_irrefl _ lt
end J
/-! grammars as they stand -/
namespace J
open PySem PySem.Spec PyProof.Rows L2 M
/-- all but F stays, and all tuples -/
def OutF (F : List Addr) (H H' : Hp) : Prop := (∀ q o, q ∉ F → H q = some o → H' q = some o) ∧ TupK H H'
/-- what has come to F was free -/
def NewF (F F' : List Addr) (H : Hp) : Prop := (∀ z ∈ F, z ∈ F') ∧ ∀ z ∈ F', z ∈ F ∨ H z = none
theorem NewF.refl (F : List Addr) (H : Hp) : NewF F F H := ⟨fun _ h => h, fun _ h => .inl h⟩
theorem OutF.same {F : List Addr} {H H' : Hp} (s : Same H H') : OutF F H H' := ⟨fun q o _ h => s q o h, TupK.of s⟩
theorem NewF.trans {F F1 F2 : List Addr} {H H1 : Hp} (a : NewF F F1 H) (o : OutF F H H1) (b : NewF F1 F2 H1) : NewF F F2 H := ⟨fun z h => b.1 z (a.1 z h), fun z h => by
  rcases b.2 z h with h1 | h1
  · exact a.2 z h1
  · by_cases hz : z ∈ F
    · exact .inl hz
    · right
      cases e : H z with
      | none => rfl
      | some x => exact nomatch h1.symm.trans (o.1 z x hz e)⟩
theorem OutF.trans {F F1 : List Addr} {H H1 H2 : Hp} (n : NewF F F1 H) (a : OutF F H H1) (b : OutF F1 H1 H2) : OutF F H H2 := ⟨fun q o hq h => b.1 q o (fun h1 => by
  rcases n.2 q h1 with h2 | h2
  · exact hq h2
  · exact nomatch h2.symm.trans h) (a.1 q o hq h), a.2.trans b.2⟩
theorem OutF.keepB {F : List Addr} {g C dx : Addr} {fs : List (Str × V)} {H H' : Hp} (k : KeepB g H H') (hg : H g = some (.ins C dx fs)) (f : g ∈ F) : OutF F H H' := ⟨fun q o hq h => k q o (fun e => hq (e ▸ f)) h, k.tup hg⟩
theorem OutF.non {F : List Addr} {H H' : Hp} (a : OutF F H H') {z : Addr} (h : H' z = none) (f : z ∉ F) : H z = none := by
  cases e : H z with
  | none => rfl
  | some x => exact nomatch h.symm.trans (a.1 z x f e)
/-- a grammar but for its nodes -/
structure GrP (CG : Addr) (H : Hp) (F : List Addr) (g : Addr) (us : List (List Nat)) (os os' : List Op) (n : V) : Prop where
  ex : ∃ (dx t r dc dw : Addr) (nm : Str) (cs : List V), H g = some (.ins CG dx (grF t r dc dw n)) ∧ g ∈ F ∧ H dc = some (.dT ((allC (.ref r) us cs).map keyE)) ∧ dc ∈ F ∧ CmdAt H r nm os cs ∧ OpsOk os ∧ Subs H cs us os' ∧ OpsOk os' ∧ us.Nodup ∧ cs.length ≤ 6
theorem GrP.keep {CG : Addr} {H H' : Hp} {F F' : List Addr} {g : Addr} {us : List (List Nat)} {os os' : List Op} {n : V} (h : GrP CG H F g us os os' n) (k : KeepF F H H') (t : TupK H H') (sub : ∀ q ∈ F, q ∈ F') : GrP CG H' F' g us os os' n := by
  obtain ⟨dx, a, r, dc, dw, nm, cs, h1, f1, h2, f2, h3, h4, h5, h6, h7, h8⟩ := h.ex
  exact ⟨dx, a, r, dc, dw, nm, cs, k _ f1 _ h1, sub _ f1, k _ f2 _ h2, sub _ f2, h3.keep t, h4, h5.keep t, h6, h7, h8⟩
theorem GrP.keepB {CG : Addr} {H H' : Hp} {F F' : List Addr} {g : Addr} {us : List (List Nat)} {os os' : List Op} {n : V} {x C' dx' : Addr} {fs : List (Str × V)} (h : GrP CG H F g us os os' n) (k : KeepB x H H') (hx : H x = some (.ins C' dx' fs)) (ne : g ≠ x) (sub : ∀ q ∈ F, q ∈ F') : GrP CG H' F' g us os os' n := by
  obtain ⟨dx, a, r, dc, dw, nm, cs, h1, f1, h2, f2, h3, h4, h5, h6, h7, h8⟩ := h.ex
  exact ⟨dx, a, r, dc, dw, nm, cs, k _ _ ne h1, sub _ f1, k.nd hx h2 (fun _ _ _ z => nomatch z), sub _ f2, h3.keep (k.tup hx), h4, h5.keep (k.tup hx), h6, h7, h8⟩
structure GrAt (CG CN : Addr) (H : Hp) (F : List Addr) (g : Addr) (us : List (List Nat)) (os os' : List Op) : Prop where
  ex : ∃ n : V, GrP CG H F g us os os' n ∧ (n = .non ∨ ∃ N, n = .ref N ∧ NodesAt CN H F N us os os')
theorem GrAt.keep {CG CN : Addr} {H H' : Hp} {F F' : List Addr} {g : Addr} {us : List (List Nat)} {os os' : List Op} (h : GrAt CG CN H F g us os os') (k : KeepF F H H') (t : TupK H H') (sub : ∀ q ∈ F, q ∈ F') : GrAt CG CN H' F' g us os os' := by
  obtain ⟨n, a, b⟩ := h.ex
  exact ⟨n, a.keep k t sub, b.imp id fun ⟨N, e, x⟩ => ⟨N, e, x.keep k t sub⟩⟩
theorem GrAt.same {CG CN : Addr} {H H' : Hp} {F : List Addr} {g : Addr} {us : List (List Nat)} {os os' : List Op} (h : GrAt CG CN H F g us os os') (s : Same H H') : GrAt CG CN H' F g us os os' := h.keep (fun q _ o e => s q o e) (TupK.of s) fun _ h => h
/-- n is the node of the path ns -/
structure NodeIn (CN : Addr) (H : Hp) (F : List Addr) (N : Addr) (us : List (List Nat)) (os os' : List Op) (ns : List Str) (n : Addr) (os1 : List Op) (kids : List Kid) : Prop where
  ex : ∃ (kvs : List (List Key × V)) (rn : Addr) (ks : List Kid), H N = some (.dT kvs) ∧ N ∈ F ∧ ks.map Prod.fst = us ∧ valV kvs [] = some (.ref rn) ∧ (∀ k ∈ ks, valV kvs [.inr (S k.1)] = some (.ref k.2) ∧ NodeAt CN H F k.2 [S k.1] os' []) ∧ NodeAt CN H F rn [] os ks ∧
    ((ns = [] ∧ n = rn ∧ os1 = os ∧ kids = ks) ∨ ∃ k ∈ ks, ns = [S k.1] ∧ n = k.2 ∧ os1 = os' ∧ kids = [])
theorem NodeIn.node {CN : Addr} {H : Hp} {F : List Addr} {N : Addr} {us : List (List Nat)} {os os' : List Op} {ns : List Str} {n : Addr} {os1 : List Op} {kids : List Kid} (h : NodeIn CN H F N us os os' ns n os1 kids) : NodeAt CN H F n ns os1 kids := by
  obtain ⟨kvs, rn, ks, h1, f1, h2, h3, h4, h5, ⟨rfl, rfl, rfl, rfl⟩ | ⟨k, hk, rfl, rfl, rfl, rfl⟩⟩ := h.ex
  · exact h5
  · exact (h4 k hk).2
theorem NodeIn.val {CN : Addr} {H : Hp} {F : List Addr} {N : Addr} {us : List (List Nat)} {os os' : List Op} {ns : List Str} {n : Addr} {os1 : List Op} {kids : List Kid} (h : NodeIn CN H F N us os os' ns n os1 kids) : ∃ kvs, H N = some (.dT kvs) ∧ valV kvs (ns.map Sum.inr) = some (.ref n) := by
  obtain ⟨kvs, rn, ks, h1, f1, h2, h3, h4, h5, ⟨rfl, rfl, rfl, rfl⟩ | ⟨k, hk, rfl, rfl, rfl, rfl⟩⟩ := h.ex
  · exact ⟨kvs, h1, h3⟩
  · exact ⟨kvs, h1, (h4 k hk).1⟩
/-- that node has changed -/
theorem NodeIn.step {CN : Addr} {H H' : Hp} {F F' : List Addr} {N : Addr} {us : List (List Nat)} {os os' : List Op} {ns : List Str} {n : Addr} {os1 : List Op} {kids : List Kid} (h : NodeIn CN H F N us os os' ns n os1 kids) (hu : us.Nodup) (k : KeepB n H H') (sub : ∀ q ∈ F, q ∈ F') (new : NodeAt CN H' F' n ns os1 kids) : NodesAt CN H' F' N us os os' := by
  obtain ⟨kvs, rn, ks, h1, f1, h2, h3, h4, h5, ⟨rfl, rfl, rfl, rfl⟩ | ⟨x, hx, rfl, rfl, rfl, rfl⟩⟩ := h.ex
  · exact NodesAt.root h1 f1 h2 h3 h4 h5 k sub new
  · exact NodesAt.kid h1 f1 h2 hu h3 h4 h5 hx k sub new
theorem node_ne_gr {CG CN : Addr} {H : Hp} {F F' : List Addr} {g n : Addr} {us : List (List Nat)} {os os' : List Op} {v : V} {ns : List Str} {os1 : List Op} {kids : List Kid} (a : GrP CG H F g us os os' v) (b : NodeAt CN H F' n ns os1 kids) : g ≠ n := by
  rintro rfl
  obtain ⟨dx, t, r, dc, dw, nm, cs, h1, _⟩ := a.ex
  obtain ⟨dx', p, oa, ga, pa, b', no, nu, le, ow, po, fi, kf, kt, xs, h2, _⟩ := b.ex
  have e := (HO.ins.inj (Option.some.inj (h1.symm.trans h2))).2.2
  unfold grF nodeF at e
  have e := congrArg List.length e
  exact absurd e (show ¬ (5 = 22) by decide)
/-! ### what may be asked of -/
structure GIs (K : PySem.W.Frag) (CG : Addr) : Prop where
  ins : C8.InsC K CG
  non : PySem.W.kitOne K (.type "NoneType") (.ref CG) = some false
  int : PySem.W.kitOne K (.type "int") (.ref CG) = some false
  str : PySem.W.kitOne K (.type "str") (.ref CG) = some false
  dict : PySem.W.kitOne K (.type "dict") (.ref CG) = some false
def NotG (K : PySem.W.Frag) (CG : Addr) (H : Hp) (x : V) : Prop := ∃ t, TyX K H x t ∧ PySem.W.kitOne K t (.ref CG) = some false
/-- a grammar with nodes, one of them told -/
def GrN (CG CN : Addr) (H : Hp) (F : List Addr) (g : Addr) (us : List (List Nat)) (os os' : List Op) (ns : List Str) (n : Addr) (os1 : List Op) (kids : List Kid) : Prop := ∃ N, GrP CG H F g us os os' (.ref N) ∧ NodeIn CN H F N us os os' ns n os1 kids
end J
/-! paths that are there -/
namespace J
open PySem PySem.Spec PyProof.Rows L2 M
end J
/-! what a grammar tells of its words -/
namespace J
open PySem PySem.Spec PyProof.Rows L2 M
def trimF (H : Hp) (F : List Addr) : List Addr := F.filter fun z => (H z).isSome
/-- what has come was free -/
def NewW (F F' : List Addr) (H : Hp) : Prop := ∀ z ∈ F', z ∈ F ∨ H z = none
theorem NewW.trans {F F1 F2 : List Addr} {H H1 : Hp} (a : NewW F F1 H) (o : OutF F H H1) (b : NewW F1 F2 H1) : NewW F F2 H := fun z h => by
  rcases b z h with h1 | h1
  · exact a z h1
  · by_cases hz : z ∈ F
    · exact .inl hz
    · right
      cases e : H z with
      | none => rfl
      | some x => exact nomatch h1.symm.trans (o.1 z x hz e)
theorem NewF.w {F F' : List Addr} {H : Hp} (h : NewF F F' H) : NewW F F' H := h.2
theorem GrN.at {CG CN : Addr} {H : Hp} {F : List Addr} {g : Addr} {us : List (List Nat)} {os os' : List Op} {ns : List Str} {n : Addr} {os1 : List Op} {kids : List Kid} {N : Addr} (gp : GrP CG H F g us os os' (.ref N)) (ni : NodeIn CN H F N us os os' ns n os1 kids) {H' : Hp} {F' : List Addr} (k : KeepB n H H') (sub : ∀ q ∈ F, q ∈ F') (new : NodeAt CN H' F' n ns os1 kids) : GrAt CG CN H' F' g us os os' := by
  obtain ⟨dx, fs, hn⟩ := ni.node.ins
  obtain ⟨_, _, _, _, _, _, _, _, _, _, _, _, _, _, _, hu, _⟩ := gp.ex
  exact ⟨.ref N, gp.keepB k hn (node_ne_gr gp ni.node) sub, .inr ⟨N, rfl, ni.step hu k sub new⟩⟩
end J
/-! the law's names -/
namespace J
open PySem PySem.Spec PyProof.Rows L2 M
/-- as drawn: of a size, letters, at most seven -/
def Drawn (sz : Nat) (m : List Nat) : Prop := sz ≤ m.length ∧ m.length ≤ 7 ∧ ∀ c ∈ m, 97 ≤ c ∧ c ≤ 122
/-- the j-th name: drawn so, or of eight letters, the first its number's, the second a q -/
def NameJ (sz : Nat) (j : Nat) (m : List Nat) : Prop := Drawn sz m ∨ (m.length = 8 ∧ (∀ c ∈ m, 97 ≤ c ∧ c ≤ 122) ∧ m[0]? = some (97 + j) ∧ m[1]? = some 113)
def zzN : List Nat := List.replicate 8 122
theorem NameJ.ok {sz j : Nat} {m : List Nat} (h1 : 1 ≤ sz) (h2 : sz ≤ 8) (h : NameJ sz j m) : Nm m ∧ sz ≤ m.length ∧ m ≠ zzN := by
  rcases h with ⟨a, b, c⟩ | ⟨a, b, c, d⟩
  · exact ⟨⟨by omega, by omega, c⟩, a, fun e => by rw [e] at b; exact absurd b (by decide)⟩
  · exact ⟨⟨by omega, by omega, b⟩, by omega, fun e => by rw [e] at d; exact absurd d (by decide)⟩
end J
/-! what is due, tried -/
namespace J
open PySem PySem.Spec PyProof.Rows L2 M
def PrB (H : Hp) (D : List Bg) (as : List Addr) : Prop := as.length = D.length ∧ ∀ (j : Nat) (a : Addr), as[j]? = some a → ∃ p, D[j]? = some p ∧ H a = some (.tup [.str (S p.1), .str (S p.2)])
/-- just due ones, none twice -/
def DueD (ns : List (List Nat)) (D : List Bg) : Prop := (∀ p ∈ D, Due ns p.1 p.2) ∧ (D.map Prod.fst).Nodup
def addB (D : List Bg) (p : Bg) : List Bg := if p ∈ D then D else D ++ [p]
theorem DueD.add {ns : List (List Nat)} {D : List Bg} (h : DueD ns D) {p : Bg} (hp : Due ns p.1 p.2) : DueD ns (addB D p) ∧ putK (D.map begE) (.inr (S p.1)) (.str (S p.2)) = (addB D p).map begE := by
  by_cases m : p ∈ D
  · have e : addB D p = D := if_pos m
    rw [e]
    refine ⟨h, ?_⟩
    unfold putK
    rw [if_pos (List.any_eq_true.mpr ⟨begE p, List.mem_map_of_mem m, by simp [begE]⟩)]
    refine (List.map_congr_left fun kv hkv => ?_).trans (List.map_id' _)
    obtain ⟨q, hq, rfl⟩ := List.mem_map.mp hkv
    by_cases e1 : (begE q).1 = Sum.inr (S p.1)
    · rw [if_pos e1]
      have e2 : q.1 = p.1 := S_inj.mp (Sum.inr.inj e1)
      have d := h.1 q hq
      rw [e2] at d
      have e3 := d.fn hp
      show (_, V.str (S p.2)) = begE q
      unfold begE
      rw [e3]
    · rw [if_neg e1]
  · have e : addB D p = D ++ [p] := if_neg m
    have ne : ∀ q ∈ D, q.1 ≠ p.1 := fun q hq e1 => m (by
      have d := h.1 q hq
      rw [e1] at d
      have e3 := d.fn hp
      have : q = p := by cases q; cases p; simp_all
      rw [← this]; exact hq)
    rw [e]
    refine ⟨⟨fun q hq => ?_, ?_⟩, begE_put ne⟩
    · rcases List.mem_append.mp hq with h1 | h1
      · exact h.1 q h1
      · rw [List.mem_singleton.mp h1]; exact hp
    · rw [List.map_append, List.nodup_append]
      refine ⟨h.2, List.nodup_cons.mpr ⟨List.not_mem_nil, List.nodup_nil⟩, fun a ha b hb => ?_⟩
      obtain rfl := List.mem_singleton.mp hb
      rintro rfl
      obtain ⟨q, hq, e1⟩ := List.mem_map.mp ha
      exact ne q hq e1
end J
/-! what is refused, and that it is caught -/
namespace J
open PySem PySem.Spec PyProof.Rows L2 M
inductive NotGr (H : Hp) : V → Prop where
  | non : NotGr H .non
  | int (i : Int) : NotGr H (.int i)
  | str (z : Str) : NotGr H (.str z)
  | dict {a : Addr} {kvs : List (Key × V)} (h : H a = some (.dK kvs)) : NotGr H (.ref a)
theorem NotGr.same {H H' : Hp} {y : V} (h : NotGr H y) (s : Same H H') : NotGr H' y := by
  cases h with
  | non => exact .non
  | int i => exact .int i
  | str z => exact .str z
  | dict h => exact .dict (s _ _ h)
theorem NotGr.no {K : PySem.W.Frag} {CG : Addr} (G : GIs K CG) {H : Hp} {y : V} (h : NotGr H y) : NotG K CG H y := by
  cases h with
  | non => exact ⟨_, .base .non, G.non⟩
  | int i => exact ⟨_, .base (.int i), G.int⟩
  | str z => exact ⟨_, .base (.str z), G.str⟩
  | dict h => exact ⟨_, .base (.dK h), G.dict⟩
inductive OddC (H : Hp) (us : List (List Nat)) : V → Prop where
  | non : OddC H us .non
  | str (z : Str) : OddC H us (.str z)
  | lst {a : Addr} {xs : List V} (h : H a = some (.lst xs)) : OddC H us (.ref a)
  | int {a : Addr} (h : H a = some (.tup [.int 5])) : OddC H us (.ref a)
  | zz {a : Addr} (h : H a = some (.tup [.str (S zzN)])) (no : ∀ u ∈ us, u ≠ zzN) : OddC H us (.ref a)
theorem OddC.same {H H' : Hp} {us : List (List Nat)} {x : V} (h : OddC H us x) (s : Same H H') : OddC H' us x := by
  cases h with
  | non => exact .non
  | str z => exact .str z
  | lst h => exact .lst (s _ _ h)
  | int h => exact .int (s _ _ h)
  | zz h no => exact .zz (s _ _ h) no
end J
/-! things of any depth, empty dicts among them: asked for their repr -/
namespace J
open PySem PySem.Spec PyProof.Rows L2 M
mutual
/-- x is d, all of it tracked -/
inductive Dd (b : Addr) (H : Hp) : V → PyData → Prop where
  | non : Dd b H .non .none
  | bl (v : Bool) : Dd b H (.bl v) (.bool v)
  | int (i : Int) (h : i.natAbs ≤ 10 ^ 60) : Dd b H (.int i) (.int i)
  | str (z : Str) (h : z.length ≤ 1000) (c : ∀ c ∈ cd z, c ≤ 126) : Dd b H (.str z) (.str z)
  | lst {a : Addr} {xs : List V} {ds : List PyData} (h : H a = some (.lst xs)) (n : a ≠ b) (t : DdAll b H xs ds) : Dd b H (.ref a) (.list ds)
  | tup {a : Addr} {xs : List V} {ds : List PyData} (h : H a = some (.tup xs)) (t : DdAll b H xs ds) : Dd b H (.ref a) (.tuple ds)
  | dct {a : Addr} (h : H a = some (.dK [])) : Dd b H (.ref a) (.dict [])
inductive DdAll (b : Addr) (H : Hp) : List V → List PyData → Prop where
  | nil : DdAll b H [] []
  | cons {x : V} {xs : List V} {d : PyData} {ds : List PyData} (h : Dd b H x d) (t : DdAll b H xs ds) : DdAll b H (x :: xs) (d :: ds)
end
mutual
theorem Dd.same {b : Addr} {H H' : Hp} (s : Same H H') : ∀ {x : V} {d : PyData}, Dd b H x d → Dd b H' x d
  | _, _, .non => .non
  | _, _, .bl b => .bl b
  | _, _, .int i h => .int i h
  | _, _, .str z h c => .str z h c
  | _, _, .lst h n t => .lst (s _ _ h) n (DdAll.same s t)
  | _, _, .tup h t => .tup (s _ _ h) (DdAll.same s t)
  | _, _, .dct h => .dct (s _ _ h)
theorem DdAll.same {b : Addr} {H H' : Hp} (s : Same H H') : ∀ {xs : List V} {ds : List PyData}, DdAll b H xs ds → DdAll b H' xs ds
  | _, _, .nil => .nil
  | _, _, .cons h t => .cons (Dd.same s h) (DdAll.same s t)
end
theorem box_lst {b a : Addr} {n : Nat} {H : Hp} {o : HO} (hb : Bx H b n) (h : H a = some o) (ne : ∀ xs, o ≠ .lst xs) : a ≠ b := fun e => by
  obtain ⟨x, y, z, g, _⟩ := hb
  rw [e, g] at h
  injection h with h
  exact ne _ h.symm
mutual
theorem Dd.keep {b : Addr} {n : Nat} {H H' : Hp} (hb : Bx H b n) (s : Keep b H H') : ∀ {x : V} {d : PyData}, Dd b H x d → Dd b H' x d
  | _, _, .non => .non
  | _, _, .bl v => .bl v
  | _, _, .int i h => .int i h
  | _, _, .str z h c => .str z h c
  | _, _, .lst h ne t => .lst (s _ _ h ne) ne (DdAll.keep hb s t)
  | _, _, .tup h t => .tup (s _ _ h (box_lst hb h fun _ e => nomatch e)) (DdAll.keep hb s t)
  | _, _, .dct h => .dct (s _ _ h (box_lst hb h fun _ e => nomatch e))
theorem DdAll.keep {b : Addr} {n : Nat} {H H' : Hp} (hb : Bx H b n) (s : Keep b H H') : ∀ {xs : List V} {ds : List PyData}, DdAll b H xs ds → DdAll b H' xs ds
  | _, _, .nil => .nil
  | _, _, .cons h t => .cons (Dd.keep hb s h) (DdAll.keep hb s t)
end
/-! ### by pairs -/
theorem DdAll.of {b : Addr} {H : Hp} : ∀ {es : List (V × PyData)}, (∀ e ∈ es, Dd b H e.1 e.2) → DdAll b H (es.map Prod.fst) (es.map Prod.snd)
  | [], _ => .nil
  | e :: es, h => .cons (h e (List.mem_cons_self ..)) (DdAll.of fun x hx => h x (List.mem_cons_of_mem _ hx))
/-! ### how long its repr may be -/
mutual
def wt : PyData → Nat
  | .none => 4
  | .bool _ => 5
  | .int _ => 201
  | .str z => 10 * z.length + 2
  | .list xs => wtAll xs + 3
  | .tuple xs => wtAll xs + 3
  | .dict _ => 2
def wtAll : List PyData → Nat
  | [] => 0
  | x :: xs => wt x + 2 + wtAll xs
end
mutual
theorem Dd.short {b : Addr} {H : Hp} : ∀ {x : V} {d : PyData}, Dd b H x d → d.shown.length ≤ wt d ∧ d.showable = true
  | _, _, .non => ⟨by rw [wt]; decide +kernel, rfl⟩
  | _, _, .bl v => ⟨by cases v <;> (rw [wt]; decide +kernel), rfl⟩
  | _, _, .int i h => ⟨show_i60 h, decide_eq_true (Nat.lt_trans (log60 h) (by decide))⟩
  | _, _, .str z h c => by
    refine ⟨?_, rfl⟩
    have := PySem.StrLaws.reprText_len z (fun y q => by have := c y q; exact Nat.lt_of_le_of_lt this (by decide))
    exact this
  | _, _, .lst (ds := ds) h _ t => by
    obtain ⟨a, b, c⟩ := DdAll.short t
    refine ⟨?_, c⟩
    have := listText_len_le (PyData.shownAll ds)
    rw [wt]
    show (listText (PyData.shownAll ds)).length ≤ _
    omega
  | _, _, .tup (ds := ds) h t => by
    obtain ⟨a, b, c⟩ := DdAll.short t
    refine ⟨?_, c⟩
    have := tupleText_len_le (PyData.shownAll ds)
    rw [wt]
    show (tupleText (PyData.shownAll ds)).length ≤ _
    omega
  | _, _, .dct h => ⟨by rw [wt]; decide +kernel, rfl⟩
theorem DdAll.short {b : Addr} {H : Hp} : ∀ {xs : List V} {ds : List PyData}, DdAll b H xs ds → ((PyData.shownAll ds).map (·.length)).sum + 2 * ds.length ≤ wtAll ds ∧ (PyData.shownAll ds).length = ds.length ∧ PyData.showableAll ds = true
  | _, _, .nil => ⟨Nat.le_refl _, rfl, rfl⟩
  | _, _, .cons (d := d) (ds := ds) h t => by
    obtain ⟨a, b, c⟩ := DdAll.short t
    obtain ⟨e, f⟩ := Dd.short h
    refine ⟨?_, by rw [PyData.shownAll, List.length_cons, b, List.length_cons], ?_⟩
    · rw [PyData.shownAll, List.map_cons, List.sum_cons, List.length_cons, wtAll]; omega
    · show (PyData.showable d && PyData.showableAll ds) = true
      rw [f, c]; rfl
end
theorem wt_big {d : PyData} (h : wt d ≤ 1000000) : wt d ≤ sizeLine := Nat.le_trans h (by decide)
/-! ### repr -/
section
variable {X : Cx} {pins : List (Addr × Obj)} {σ : L2.St} {H : Hp} {s : Shared}
/-- what can be asked for its repr where d layers stand around -/
abbrev Rp (X : Cx) (h : Heap) (u : Value) (d : PyData) : Prop := ∃ as bs, Reads h u d as ∧ ReadAtMost h d.depth bs ∧ ReprK X.prog X.w bs h d.depth u d.shown
abbrev RpAll (X : Cx) (h : Heap) (us : List Value) (ds : List PyData) : Prop := ∃ as bs, ReadsAll h us ds as ∧ ReadAtMost h (PyData.depthAll ds) bs ∧ ReprAllK X.prog X.w bs h (PyData.depthAll ds) us (PyData.shownAll ds)
theorem Rp.leaf {h : Heap} {u : Value} {d : PyData} (r : Reads h u d []) (q : ReprIs X.prog X.w u d.shown) : Rp X h u d := ⟨[], [], r, fun _ z => (List.not_mem_nil z).elim, .of_is q _ _ _⟩
theorem RpAll.cons {h : Heap} {u : Value} {us : List Value} {d : PyData} {ds : List PyData} (a : Rp X h u d) (b : RpAll X h us ds) : RpAll X h (u :: us) (d :: ds) := by
  obtain ⟨as, bs, r, m, k⟩ := a
  obtain ⟨cs, es, r', m', k'⟩ := b
  have l : d.depth ≤ PyData.depthAll (d :: ds) := Nat.le_max_left _ _
  have l' : PyData.depthAll ds ≤ PyData.depthAll (d :: ds) := Nat.le_max_right _ _
  exact ⟨as ++ cs, bs ++ es, .cons r r', (m.mono l).append (m'.mono l'), .cons ((k.more fun b hb => List.mem_append_left _ hb).level_le l) (k'.more_le (fun b hb => List.mem_append_right _ hb) l')⟩
theorem Rp.lst {h : Heap} {a : Addr} {us : List Value} {n : Nat} {ds : List PyData} (g : h.get? a = some { cls := .type "list", data := .seq us.toArray n }) (b : RpAll X h us ds) : Rp X h (.ref a) (.list ds) := by
  obtain ⟨as, bs, r, m, k⟩ := b
  have rd : Reads h (.ref a) (.list ds) (a :: as) := .list g rfl rfl (by rw [List.toList_toArray]; exact r)
  refine ⟨_, a :: bs, rd, ReadAtMost.cons rd (Nat.le_succ _) m, ?_⟩
  cases us with
  | nil =>
    cases r
    exact ReprK.listEmpty g rfl rfl
  | cons u us => exact ReprK.list g rfl rfl (not_mem_of_deeper rd (Nat.lt_succ_self _) m) (by rw [k.length_eq, List.size_toArray]) fun i y e => k.item i y (by simpa using e)
theorem Rp.tup {h : Heap} {a : Addr} {us : List Value} {ds : List PyData} (g : IsTup h a us.toArray) (b : RpAll X h us ds) : Rp X h (.ref a) (.tuple ds) := by
  obtain ⟨as, bs, r, m, k⟩ := b
  obtain ⟨o, g1, g2, n, g3⟩ := g
  have rd : Reads h (.ref a) (.tuple ds) as := .tuple g1 g2 g3 (by rw [List.toList_toArray]; exact r)
  exact ⟨_, a :: bs, rd, ReadAtMost.cons rd (Nat.le_succ _) m, ReprK.tuple g1 g2 g3 (not_mem_of_deeper rd (Nat.lt_succ_self _) m) (by rw [List.toList_toArray]; exact k)⟩
theorem empty_dict (I : Inv X pins σ H s) {a : Addr} (ha : H a = some (.dK [])) : (a == sysModules) = false ∧ ∃ o es n, s.heap.get? a = some o ∧ o.cls = .type "dict" ∧ o.data = .dict es n ∧ es.toList = [] := by
  obtain ⟨_, hsm, vs, r0, o, es, ep, g1, g2, g3, g4⟩ := (show ObjOk X.prog X.w H s.heap a (.dK []) from I.hok a _ ha)
  cases r0
  refine ⟨hsm, o, es, ep, g1, g2.1, g3, ?_⟩
  cases h : es.toList with
  | nil => rfl
  | cons y r =>
    have g5 := g4.2.1
    rw [h] at g5
    cases g5
theorem Rp.dct (I : Inv X pins σ H s) {a : Addr} (ha : H a = some (.dK [])) : Rp X s.heap (.ref a) (.dict []) := by
  obtain ⟨hsm, o, es, n, g1, g2, g3, e0⟩ := empty_dict I ha
  have rd : Reads s.heap (.ref a) (.dict []) [a] := Reads.dict (as := []) (bs := []) g1 g2 g3 (by rw [e0]; exact .nil) (by rw [e0]; exact .nil)
  exact ⟨_, _, rd, (ReprK.of_reads (prog := X.prog) (w := X.w) rd rfl (fun _ h => by
    rw [List.mem_singleton] at h
    rw [h] at hsm
    simp at hsm) (by decide +kernel)).choose_spec⟩
mutual
theorem Dd.rp {b : Addr} (I : Inv X pins σ H s) : ∀ {x : V} {d : PyData}, Dd b H x d → d.shown.length ≤ sizeLine → ∀ {u : Value}, RelV x u → Rp X s.heap u d
  | _, _, .non, _, u, r => by
    cases (show u = Value.none from r)
    exact .leaf .none ReprIs.none
  | _, _, .bl b, _, u, r => by
    cases (show u = Value.bool b from r)
    exact .leaf (.bool b) (ReprIs.bool b)
  | _, _, .int i h, _, u, r => by
    obtain ⟨t, e⟩ := (show ∃ t, u = Value.int i t from r)
    subst e
    exact .leaf (.int i t) (ReprIs.int t (Nat.lt_trans (log60 h) (by decide)))
  | _, _, .str z h c, q, u, r => by
    obtain ⟨t, e⟩ := (show ∃ t, u = Value.str z t from r)
    subst e
    exact .leaf (.str z t) (ReprIs.str z t q)
  | _, _, .lst (a := a) (xs := xs) (ds := ds) h _ t, q, u, r => by
    cases (show u = Value.ref a from r)
    obtain ⟨_, us, n, rv, g⟩ := (show ObjOk X.prog X.w H s.heap a (.lst xs) from I.hok a _ h)
    exact .lst g (DdAll.rp I t (fun z hz => Nat.le_trans (listText_mem_le hz) q) rv)
  | _, _, .tup (a := a) (xs := xs) (ds := ds) h t, q, u, r => by
    cases (show u = Value.ref a from r)
    obtain ⟨_, us, rv, g⟩ := (show ObjOk X.prog X.w H s.heap a (.tup xs) from I.hok a _ h)
    exact .tup g (DdAll.rp I t (fun z hz => Nat.le_trans (tupleText_mem_le hz) q) rv)
  | _, _, .dct (a := a) h, _, u, r => by
    cases (show u = Value.ref a from r)
    exact .dct I h
theorem DdAll.rp {b : Addr} (I : Inv X pins σ H s) : ∀ {xs : List V} {ds : List PyData}, DdAll b H xs ds → (∀ z ∈ PyData.shownAll ds, z.length ≤ sizeLine) → ∀ {us : List Value}, Vals xs us → RpAll X s.heap us ds
  | _, _, .nil, _, _, .nil => ⟨[], [], .nil, fun _ z => (List.not_mem_nil z).elim, .nil⟩
  | _, _, .cons (d := d) (ds := ds) h t, q, _, .cons r rs => .cons (Dd.rp I h (q _ (by rw [PyData.shownAll]; exact List.mem_cons_self ..)) r) (DdAll.rp I t (fun z hz => q z (by rw [PyData.shownAll]; exact List.mem_cons_of_mem _ hz)) rs)
end
def rReprD : List V → Hp → VK → Prop := fun xs H Q => ∃ (b : Addr) (x : V) (d : PyData), xs = [x] ∧ Dd b H x d ∧ wt d ≤ 1000000 ∧ d.depth ≤ 60 ∧ Q (.str d.shown) H
theorem call_reprD (hg : X.A.guards = some []) (hu : X.A.units + 64 < cLine) : CallR X (.builtin "repr") rReprD := by
  intro pins s σ H xs us Q I r h
  obtain ⟨b, x, d, ex, hd, hw, hdp, q⟩ := h
  have hz : d.shown.length ≤ sizeLine := Nat.le_trans hd.short.1 (wt_big hw)
  have hs := hd.short.2
  have fin : ∀ (h' : Heap) (u : Tok) (tk : Nat), (∀ b o, s.heap.get? b = some o → h'.get? b = some o) → EP X pins σ Q (.str d.shown u) { s with heap := h', toks := tk } := fun h' u tk hk => ⟨.str _, H, I.kept hk, ⟨_, rfl⟩, q⟩
  have easy : Dp X.K H x d → d.hasDict = false → wpAny (model X.prog X.w) X.A (call (.builtin "repr") us) (EP X pins σ Q) X.xe s := fun z n => J.call_repr hg hu pins s σ H xs us Q I r ⟨x, d, ex, z, hs, hdp, n, hz, q⟩
  subst ex
  obtain ⟨u, rfl, ru⟩ := vals1 r
  cases hd with
  | non => exact easy .non rfl
  | bl v => exact easy (.bl v) rfl
  | int i h => exact easy (.int i) rfl
  | str z h c => exact easy (.str z) rfl
  | @lst a xs ds h _ t =>
    cases (show u = Value.ref a from ru)
    obtain ⟨_, us, n, rv, g⟩ := (show ObjOk X.prog X.w H s.heap a (.lst xs) from I.hok a _ h)
    have hz' : (listText (PyData.shownAll ds)).length ≤ sizeLine := hz
    have hdp : PyData.depthAll ds + 1 ≤ 60 := hdp
    obtain ⟨as, bs, rd, m, k⟩ := DdAll.rp I t (fun z hz => Nat.le_trans (listText_mem_le hz) hz') rv
    have ra : Reads s.heap (.ref a) (.list ds) (a :: as) := .list g rfl rfl (by rw [List.toList_toArray]; exact rd)
    refine call_repr_slot (by omega) ⟨_, g, rfl⟩ F.slot_list_repr.toG ?_
    cases us with
    | nil =>
      cases rd
      exact call_list_repr_empty ⟨_, g, rfl⟩ g rfl ⟨_, _, rfl, fin s.heap _ _ fun _ _ e => e⟩
    | cons y us => exact call_list_reprK g rfl rfl (not_mem_of_deeper ra (Nat.lt_succ_self _) m) (by rw [k.length_eq, List.size_toArray]) (fun i y e => k.item i y (by simpa using e)) hg (fun b _ => Clear.nil b) (by show X.A.units + 1 + (PyData.depthAll ds + 1) < cLine; omega) (fun _ _ e => e) (fun h' u tk hk => ⟨_, _, rfl, fin h' u tk hk⟩) hz'
  | @tup a xs ds h t =>
    cases (show u = Value.ref a from ru)
    obtain ⟨_, us, rv, o, g1, g2, n, g3⟩ := (show ObjOk X.prog X.w H s.heap a (.tup xs) from I.hok a _ h)
    have hz' : (tupleText (PyData.shownAll ds)).length ≤ sizeLine := hz
    have hdp : PyData.depthAll ds + 1 ≤ 60 := hdp
    obtain ⟨as, bs, rd, m, k⟩ := DdAll.rp I t (fun z hz => Nat.le_trans (tupleText_mem_le hz) hz') rv
    have ra : Reads s.heap (.ref a) (.tuple ds) as := .tuple g1 g2 g3 (by rw [List.toList_toArray]; exact rd)
    refine call_repr_slot (by omega) ⟨_, g1, g2⟩ F.slot_tuple_repr ?_
    exact call_tuple_reprK g1 g2 g3 (not_mem_of_deeper ra (Nat.lt_succ_self _) m) (by rw [List.toList_toArray]; exact k) hg (fun b _ => Clear.nil b) (by show X.A.units + 1 + (PyData.depthAll ds + 1) < cLine; omega) (fun _ _ e => e) (fun h' u tk hk => ⟨_, _, rfl, fin h' u tk hk⟩) hz'
  | @dct a h =>
    cases (show u = Value.ref a from ru)
    obtain ⟨hsm, o, es, n, g1, g2, g3, e0⟩ := empty_dict I h
    have rd : Reads s.heap (.ref a) (.dict []) [a] := Reads.dict (as := []) (bs := []) g1 g2 g3 (by rw [e0]; exact .nil) (by rw [e0]; exact .nil)
    exact repr_of_reads' rd rfl (fun _ h => by
      rw [List.mem_singleton] at h
      rw [h] at hsm
      simp at hsm) hg (by show X.A.units + (1 + 1) < cLine; omega) (fun _ _ e => e) fin (by decide +kernel)
end
end J
/-! the law's own turns: what stands while box and grammar change -/
namespace J
open PySem PySem.Spec PyProof.Rows L2 M
/-- nothing is raised -/
def NoX : L2.St → XK := fun _ _ _ _ => False
theorem noX_at {X : Cx} (σ : L2.St) : PassesAt (L2.CX X.prog X.w) X σ (NoX σ) := fun _ _ _ _ _ _ ⟨_, _, _, _, _, h⟩ => by
  obtain ⟨_, _, _, _, _, _, _, q⟩ := h
  exact q.elim
/-- since H0: the box at b, a grammar's own F, and what else stands -/
structure Stand (H0 H : Hp) (b : Addr) (n : Nat) (F : List Addr) (L : List (Addr × HO)) : Prop where
  same : Same H0 H
  b0 : H0 b = none
  bx : Bx H b n
  F0 : ∀ z ∈ F, H0 z = none
  dom : ∀ z ∈ F, H z ≠ none
  bF : b ∉ F
  kp : ∀ e ∈ L, H e.1 = some e.2 ∧ e.1 ∉ F ∧ e.1 ≠ b ∧ H0 e.1 = none
  nd : (L.map Prod.fst).Nodup
variable {H0 H H' : Hp} {b : Addr} {n m : Nat} {F F' : List Addr} {L : List (Addr × HO)}
theorem Stand.at (st : Stand H0 H b n F L) {a : Addr} {o : HO} (i : Nat) (h : L[i]? = some (a, o)) : H a = some o := (st.kp _ (List.mem_of_getElem? h)).1
theorem Stand.step (st : Stand H0 H b n F L) (s : Same H H') : Stand H0 H' b n F L := by
  obtain ⟨x, y, z, hb, r⟩ := st.bx
  exact ⟨st.same.trans s, st.b0, ⟨x, y, z, s _ _ hb, r⟩, st.F0, fun z hz => by
    cases e : H z with
    | none => exact absurd e (st.dom z hz)
    | some o => rw [s _ _ e]; exact fun q => (nomatch q), st.bF, fun e he => by
    obtain ⟨h1, h2⟩ := st.kp e he
    exact ⟨s _ _ h1, h2⟩, st.nd⟩
theorem Stand.draw (st : Stand H0 H b n F L) (k : Keep b H H') (bx : Bx H' b m) : Stand H0 H' b m F L :=
  ⟨fun p o h => k p o (st.same p o h) (fun e => by subst e; exact nomatch st.b0.symm.trans h), st.b0, bx, st.F0, fun z hz => by
    cases e : H z with
    | none => exact absurd e (st.dom z hz)
    | some o => rw [k _ _ e (fun q => by subst q; exact st.bF hz)]; exact fun q => (nomatch q), st.bF, fun e he => by
    obtain ⟨h1, h2, h3, h4⟩ := st.kp e he
    exact ⟨k _ _ h1 h3, h2, h3, h4⟩, st.nd⟩
theorem Stand.free (st : Stand H0 H b n F L) {a : Addr} (ha : H a = none) : H0 a = none := by
  cases e : H0 a with
  | none => rfl
  | some o => exact nomatch ha.symm.trans (st.same _ _ e)
theorem Stand.put (st : Stand H0 H b n F L) {a : Addr} {o : HO} (s : Same H H') (ha : H a = none) (h' : H' a = some o) : Stand H0 H' b n F ((a, o) :: L) := by
  have s1 := st.step s
  refine ⟨s1.same, s1.b0, s1.bx, s1.F0, s1.dom, s1.bF, fun e he => ?_, ?_⟩
  · rcases List.mem_cons.mp he with rfl | he
    · exact ⟨h', fun q => st.dom _ q ha, fun q => by
        obtain ⟨x, y, z, hb, _⟩ := st.bx
        have q : a = b := q
        subst q
        exact (nomatch ha.symm.trans hb), st.free ha⟩
    · exact s1.kp e he
  · rw [List.map_cons, List.nodup_cons]
    exact ⟨fun q => by
      obtain ⟨e, he, ea⟩ := List.mem_map.mp q
      have h1 := (st.kp e he).1
      rw [ea] at h1
      exact (nomatch ha.symm.trans h1), st.nd⟩
theorem Stand.new (st : Stand H0 H b n F L) {a : Addr} (ha : H a = none) (o : HO) : Stand H0 (upd H a o) b n F ((a, o) :: L) := st.put ((Same.refl H).at ha o) ha upd_same
theorem Stand.add (st : Stand H0 H b n F L) {a : Addr} {o : HO} (k : Keep b H H') (bx : Bx H' b m) (ha : H a = none) (h' : H' a = some o) : Stand H0 H' b m F ((a, o) :: L) := by
  have s1 := st.draw k bx
  refine ⟨s1.same, s1.b0, s1.bx, s1.F0, s1.dom, s1.bF, fun e he => ?_, ?_⟩
  · rcases List.mem_cons.mp he with rfl | he
    · exact ⟨h', fun q => st.dom _ q ha, fun q => by
        obtain ⟨x, y, z, hb, _⟩ := st.bx
        have q : a = b := q
        subst q
        exact (nomatch ha.symm.trans hb), st.free ha⟩
    · exact s1.kp e he
  · rw [List.map_cons, List.nodup_cons]
    exact ⟨fun q => by
      obtain ⟨e, he, ea⟩ := List.mem_map.mp q
      have h1 := (st.kp e he).1
      rw [ea] at h1
      exact (nomatch ha.symm.trans h1), st.nd⟩
theorem Stand.drop (st : Stand H0 H b n F L) {e : Addr × HO} {L' : List (Addr × HO)} (h : L = e :: L') : Stand H0 H b n F L' := by
  subst h
  exact ⟨st.same, st.b0, st.bx, st.F0, st.dom, st.bF, fun e he => st.kp e (List.mem_cons_of_mem _ he), (List.nodup_cons.mp st.nd).2⟩
theorem Stand.box (st : Stand H0 H b n F L) (l : n ≤ m) : Stand H0 H b m F L := ⟨st.same, st.b0, st.bx.mono l, st.F0, st.dom, st.bF, st.kp, st.nd⟩
/-- what was put there is put anew -/
theorem Stand.set (st : Stand H0 H b n F L) {a : Addr} {o o' : HO} (i : Nat) (h : L[i]? = some (a, o)) : Stand H0 (upd H a o') b n F (L.set i (a, o')) := by
  have ha := st.kp _ (List.mem_of_getElem? h)
  refine ⟨fun p q e => by rw [upd_ne (fun z => by subst z; exact nomatch ha.2.2.2.symm.trans e)]; exact st.same _ _ e, st.b0, ?_, st.F0, fun z hz => ?_, st.bF, fun e he => ?_, ?_⟩
  · obtain ⟨x, y, z, hb, r⟩ := st.bx
    exact ⟨x, y, z, by rw [upd_ne (fun q => ha.2.2.1 q.symm)]; exact hb, r⟩
  · rw [upd_ne (fun q => by subst q; exact ha.2.1 hz)]
    exact st.dom z hz
  · obtain ⟨j, hj⟩ := List.mem_iff_getElem?.mp he
    by_cases q : i = j
    · subst q
      rw [List.getElem?_set_self (List.getElem?_eq_some_iff.mp h).1] at hj
      cases hj
      exact ⟨upd_same, ha.2⟩
    · rw [List.getElem?_set_ne q] at hj
      have he := st.kp e (List.mem_of_getElem? hj)
      refine ⟨?_, he.2⟩
      rw [upd_ne fun z => q ?_]
      · exact he.1
      · have e1 : (L.map Prod.fst)[i]? = some a := by rw [List.getElem?_map, h]; rfl
        have e2 : (L.map Prod.fst)[j]? = some e.1 := by rw [List.getElem?_map, hj]; rfl
        rw [z] at e2
        exact (List.getElem?_inj (List.getElem?_eq_some_iff.mp e1).1 st.nd).mp (e1.trans e2.symm)
  · have : (L.set i (a, o')).map Prod.fst = L.map Prod.fst := by
      rw [List.map_set]
      refine List.ext_getElem? fun j => ?_
      by_cases q : i = j
      · subst q
        rw [List.getElem?_set_self (by rw [List.length_map]; exact (List.getElem?_eq_some_iff.mp h).1), List.getElem?_map, h]; rfl
      · rw [List.getElem?_set_ne q]
    rw [this]; exact st.nd
theorem Stand.out (st : Stand H0 H b n F L) (o : OutF F H H') (w : NewW F F' H) : Stand H0 H' b n (trimF H' F') L := by
  have nF : ∀ {a : Addr} {x : HO}, H a = some x → a ∉ F → a ∉ trimF H' F' := fun h f q => by
    rcases w _ (List.mem_filter.mp q).1 with q | q
    · exact f q
    · exact nomatch q.symm.trans h
  refine ⟨fun p q e => ?_, st.b0, ?_, fun z hz => ?_, fun z hz => ?_, ?_, fun e he => ?_, st.nd⟩
  · exact o.1 p q (fun f => nomatch (st.F0 p f).symm.trans e) (st.same _ _ e)
  · obtain ⟨x, y, z, hb, r⟩ := st.bx
    exact ⟨x, y, z, o.1 _ _ st.bF hb, r⟩
  · rcases w z (List.mem_filter.mp hz).1 with q | q
    · exact st.F0 z q
    · exact st.free q
  · have := (List.mem_filter.mp hz).2
    intro q
    rw [q] at this
    cases this
  · obtain ⟨x, y, z, hb, _⟩ := st.bx
    exact nF hb st.bF
  · obtain ⟨h1, h2, h3⟩ := st.kp e he
    exact ⟨o.1 _ _ h2 h1, nF h1 h2, h3⟩
/-! the grammar keeps -/
theorem OptsAt.snoc {H : Hp} {a : Addr} {o : Op} (h : H a = some (.tup (opV o))) : ∀ {xs : List V} {os : List Op}, OptsAt H xs os → OptsAt H (xs ++ [.ref a]) (os ++ [o])
  | _, _, .nil => .cons h .nil
  | _, _, .cons g t => .cons g (OptsAt.snoc h t)
/-- one y for each x, of which R is told -/
theorem comp_rel {J : It} {g : TG} {te : TE} {vs : List Nat} {σ : L2.St} {H1 : Hp} {D : Addr} {Z : Hp → Prop} {xs : List V} (SI : SeqIt J xs H1) (hD : H1 D = none) (hs : xs.length < sizeLine) (R : Nat → V → Hp → Prop)
    (mono : ∀ i y H H', R i y H → (∃ zs, H D = some (.lst zs)) → (∀ p o, p ≠ D → H p = some o → H' p = some o) → R i y H')
    (turn : ∀ (i : Nat) (x : V) (H : Hp) (N : V → Hp → Prop), xs[i]? = some x → Same H1 H → (∃ zs, H D = some (.lst zs)) → (∀ y H4, Same H H4 → R i y H4 → N y H4) → g x (wipe σ vs) H fun σ2 H2 => wipe σ2 vs = wipe σ vs ∧ te σ2 H2 N)
    (fin : ∀ H ys, Same H1 H → H D = some (.lst ys) → ys.length = xs.length → (∀ i y, ys[i]? = some y → R i y H) → Z H) : CompQ J g tYes te vs σ H1 D Z := by
  refine comp_of xs.length (fun i H => Same H1 H ∧ ∃ ys, H D = some (.lst ys) ∧ ys.length = i ∧ ∀ k y, ys[k]? = some y → R k y H) ⟨(Same.refl H1).at hD _, [], upd_same, rfl, fun k y h => by cases h⟩ (fun i H hi w => SI.go i H w.1 hi) (fun H w => SI.stop H w.1) (fun i H x H' hi w y => ?_) (fun H w => ?_)
  · obtain ⟨rfl, hx⟩ := SI.yld i H x H' w.1 y
    obtain ⟨s1, ys, e, l, r⟩ := w
    refine turn i x H' _ hx s1 ⟨_, e⟩ fun y H4 s ry => ⟨ys, s _ _ e, by rw [l]; exact Nat.lt_trans hi hs, (s1.trans s).at hD _, ys ++ [y], upd_same, by rw [List.length_append, l]; rfl, fun k z hz => ?_⟩
    have kp : ∀ p o, p ≠ D → H4 p = some o → (upd H4 D (.lst (ys ++ [y]))) p = some o := fun p o n h => by rw [upd_ne n]; exact h
    have e4 : ∃ zs, H4 D = some (.lst zs) := ⟨_, s _ _ e⟩
    by_cases q : k < ys.length
    · rw [List.getElem?_append_left q] at hz
      exact mono k z H4 _ (mono k z H' _ (r k z hz) ⟨_, e⟩ fun p o _ h => s p o h) e4 kp
    · rw [List.getElem?_append_right (by omega)] at hz
      have k0 : k - ys.length = 0 := by
        have := (List.getElem?_eq_some_iff.mp hz).1
        simp at this
        omega
      rw [k0] at hz
      cases hz
      obtain rfl : k = i := by omega
      exact mono _ _ H4 _ ry e4 kp
  · obtain ⟨s1, ys, e, l, r⟩ := w
    exact fin H ys s1 e l r
theorem CmdAt.keepD {H H' : Hp} {D a : Addr} {nm : Str} {os : List Op} {cs : List V} (h : CmdAt H a nm os cs) (e : ∃ zs, H D = some (.lst zs)) (k : ∀ p o, p ≠ D → H p = some o → H' p = some o) : CmdAt H' a nm os cs :=
  h.keep fun p xs hp => k p _ (fun q => by subst q; obtain ⟨zs, e⟩ := e; rw [hp] at e; cases e) hp
/-! ### texts of told pairs -/
/-- a list of told pairs -/
def RB (cl : Addr) (Ds : List (List Bg)) (i : Nat) (y : V) (H : Hp) : Prop := ∃ l as D, y = V.ref l ∧ l ≠ cl ∧ Ds[i]? = some D ∧ H l = some (.lst (as.map V.ref)) ∧ PrB H D as
theorem RB.mono {cl : Addr} {Ds : List (List Bg)} (i : Nat) (y : V) (H H' : Hp) (r : RB cl Ds i y H) (e : ∃ zs, H cl = some (.lst zs)) (k : ∀ p o, p ≠ cl → H p = some o → H' p = some o) : RB cl Ds i y H' := by
  obtain ⟨l, as, D, e1, e2, e3, e4, e5, e6⟩ := r
  refine ⟨l, as, D, e1, e2, e3, k _ _ e2 e4, e5, fun j a hj => ?_⟩
  obtain ⟨p, ep, ha⟩ := e6 j a hj
  exact ⟨p, ep, k _ _ (fun q => by subst q; obtain ⟨zs, e⟩ := e; rw [ha] at e; cases e) ha⟩
theorem RB.same {cl : Addr} {Ds : List (List Bg)} {i : Nat} {y : V} {H H' : Hp} (r : RB cl Ds i y H) (s : Same H H') : RB cl Ds i y H' := by
  obtain ⟨l, as, D, e1, e2, e3, e4, e5, e6⟩ := r
  refine ⟨l, as, D, e1, e2, e3, s _ _ e4, e5, fun j a hj => ?_⟩
  obtain ⟨p, ep, ha⟩ := e6 j a hj
  exact ⟨p, ep, s _ _ ha⟩
theorem depth_all {n : Nat} : ∀ {ds : List PyData}, (∀ d ∈ ds, d.depth ≤ n) → PyData.depthAll ds ≤ n
  | [], _ => Nat.zero_le _
  | d :: ds, h => Nat.max_le.mpr ⟨h d (List.mem_cons_self ..), depth_all fun e he => h e (List.mem_cons_of_mem _ he)⟩
theorem lay_all : ∀ {ds : List PyData}, (∀ d ∈ ds, PyData.canLay0 d = true) → PyData.canLayAll0 ds = true
  | [], _ => rfl
  | d :: ds, h => by
    show (PyData.canLay0 d && PyData.canLayAll0 ds) = true
    rw [h d (List.mem_cons_self ..), lay_all fun e he => h e (List.mem_cons_of_mem _ he)]; rfl
theorem lay_S {m : List Nat} (h : ∀ c ∈ m, c ≤ 126) : PyData.canLay0 (.str (S m)) = true := can_w h
theorem PrB.same {H H' : Hp} {D : List Bg} {as : List Addr} (h : PrB H D as) (s : Same H H') : PrB H' D as := ⟨h.1, fun j a hj => by
  obtain ⟨p, e, q⟩ := h.2 j a hj
  exact ⟨p, e, s _ _ q⟩⟩
/-- what is shown shortly -/
def Shy (g : Addr) (H : Hp) (y : V) (d : PyData) : Prop := Dd g H y d ∧ wt d ≤ 500 ∧ d.depth ≤ 3
theorem Shy.same {g : Addr} {H H' : Hp} {y : V} {d : PyData} (h : Shy g H y d) (s : Same H H') : Shy g H' y d := ⟨h.1.same s, h.2⟩
end J
/-! up to eight unlike names -/
namespace J
open PySem PySem.Spec PyProof.Rows L2 M
/-- a sign of the row that begins at fi -/
def sgOf (fi : Int) (k : Nat) : Nat := 97 + ((fi + 7 * (k : Int)) % 26).toNat
/-- the j-th name as it is drawn in the first way -/
def Fst (st : List Nat) (fi : Int) (j : Nat) : List Nat := if j < 6 then st.take (1 + j) else if j = 6 then st ++ [sgOf fi 6] else st.take 1 ++ [sgOf fi 7]
/-- the names as they are drawn -/
def DrawnW (st : List Nat) (fi wy : Int) (j : Nat) (m : List Nat) : Prop := (wy = 0 ∧ m = Fst st fi j) ∨ (wy ≠ 0 ∧ 1 ≤ m.length ∧ m.length ≤ 7 ∧ ∀ c ∈ m, 97 ≤ c ∧ c ≤ 122)
/-- what stands in the j-th one's place -/
def OtherJ (st : List Nat) (j : Nat) (o : List Nat) : Prop := ∃ c : Nat, 97 ≤ c ∧ c ≤ 122 ∧ o = [97 + j, 113, c] ++ st.take 5
structure StemOk (st : List Nat) (fi : Int) : Prop where
  len : st.length = 7
  abc : ∀ c ∈ st, 97 ≤ c ∧ c ≤ 122
  f0 : 0 ≤ fi
  f1 : fi < 26
theorem fst_nm {st : List Nat} {fi : Int} {j : Nat} (h : StemOk st fi) (hj : j < 8) : Nm (Fst st fi j) := by
  have sg : ∀ k, 97 ≤ sgOf fi k ∧ sgOf fi k ≤ 122 := fun k => by
    have a := Int.emod_nonneg (fi + 7 * (k : Int)) (show (26 : Int) ≠ 0 by decide)
    have b := Int.emod_lt_of_pos (fi + 7 * (k : Int)) (show (0 : Int) < 26 by decide)
    unfold sgOf
    omega
  have tk : ∀ q, ∀ c ∈ st.take q, 97 ≤ c ∧ c ≤ 122 := fun q c hc => h.abc c (List.mem_of_mem_take hc)
  have hl := h.len
  unfold Fst
  split
  · exact ⟨by rw [List.length_take]; omega, by rw [List.length_take]; omega, tk _⟩
  · split
    · refine ⟨by rw [List.length_append]; simp, by rw [List.length_append, hl]; simp, fun c hc => ?_⟩
      rcases List.mem_append.mp hc with z | z
      · exact h.abc c z
      · rw [List.mem_singleton.mp z]; exact sg 6
    · refine ⟨by rw [List.length_append]; simp, by rw [List.length_append, List.length_take]; simp; omega, fun c hc => ?_⟩
      rcases List.mem_append.mp hc with z | z
      · exact tk _ c z
      · rw [List.mem_singleton.mp z]; exact sg 7
theorem other_nm {st o : List Nat} {fi : Int} {j : Nat} (h : StemOk st fi) (hj : j < 8) (ho : OtherJ st j o) : Nm o := by
  obtain ⟨c, c1, c2, rfl⟩ := ho
  have hl := h.len
  refine ⟨by rw [List.length_append, List.length_take, hl]; simp, by rw [List.length_append, List.length_take, hl]; simp, fun d hd => ?_⟩
  rcases List.mem_append.mp hd with z | z
  · rcases List.mem_cons.mp z with rfl | z
    · omega
    · rcases List.mem_cons.mp z with rfl | z
      · omega
      · rw [List.mem_singleton.mp z]; omega
  · exact h.abc d (List.mem_of_mem_take z)
/-- a name that stands already is replaced by one that doesn't -/
theorem other_fresh {st : List Nat} {fi wy : Int} {ss : List (List Nat)} (h : StemOk st fi) (hj : ss.length < 8) (hs : ∀ (i : Nat) (m : List Nat), ss[i]? = some m → DrawnW st fi wy i m ∨ OtherJ st i m)
    {x o : List Nat} (hx : DrawnW st fi wy ss.length x) (xs : x ∈ ss) (ho : OtherJ st ss.length o) : o ∉ ss := fun hm => by
  obtain ⟨i, hi⟩ := List.mem_iff_getElem?.mp hm
  have li := (List.getElem?_eq_some_iff.mp hi).1
  have hl := h.len
  match st, hl, h with
  | [s0, s1, s2, s3, s4, s5, s6], _, h =>
  obtain ⟨c, c1, c2, rfl⟩ := ho
  rcases hs i _ hi with (⟨w0, e⟩ | ⟨_, _, l7, _⟩) | ⟨c', _, _, e⟩
  · have e8 := congrArg List.length e
    unfold Fst at e e8
    split at e
    · rw [if_pos (by assumption)] at e8
      simp at e8
      omega
    · rw [if_neg (by assumption)] at e8
      split at e
      · rename_i i6
        subst i6
        have j7 : ss.length = 7 := by omega
        rw [j7] at e hx
        have e : [97 + 7, 113, c, s0, s1, s2, s3, s4] = [s0, s1, s2, s3, s4, s5, s6, sgOf fi 6] := e
        simp only [List.cons.injEq] at e
        obtain ⟨a0, a1, a2, a3, a4, a5, a6, a7, _⟩ := e
        rcases hx with ⟨_, ex⟩ | ⟨nz, _⟩
        · have ex : x = [s0, sgOf fi 7] := ex
          obtain ⟨k, hk⟩ := List.mem_iff_getElem?.mp xs
          have lk := (List.getElem?_eq_some_iff.mp hk).1
          rcases hs k _ hk with (⟨_, e2⟩ | ⟨nz, _⟩) | ⟨c', _, _, e2⟩
          · rw [ex] at e2
            have l2 := congrArg List.length e2
            unfold Fst at e2 l2
            split at e2
            · rw [if_pos (by assumption)] at l2
              simp at l2
              have k1 : k = 1 := by omega
              subst k1
              have e2 : [s0, sgOf fi 7] = [s0, s1] := e2
              simp only [List.cons.injEq] at e2
              have g7 := e2.2.1
              unfold sgOf at g7 a7
              have f0 := h.f0
              have f1 := h.f1
              omega
            · rw [if_neg (by assumption)] at l2
              split at e2
              · rw [if_pos (by assumption)] at l2
                simp at l2
              · omega
          · exact nz w0
          · rw [ex] at e2
            have := congrArg List.length e2
            simp at this
        · exact nz w0
      · omega
  · simp at l7
  · simp only [List.cons_append, List.cons.injEq] at e
    omega
/-- up to eight unlike names -/
def NamesOk (m : Nat) (ns : List (List Nat)) : Prop := ns.length = m ∧ ns.Nodup ∧ ∀ n ∈ ns, Nm n
def spNames60 : Sp := fun vs H Q _ => ∃ (b : Addr) (m n : Nat), vs = [.ref b, .int (m : Nat), .int 1] ∧ 1 ≤ m ∧ m ≤ 8 ∧ Bx H b n ∧ n ≤ 500000000 ∧
  ∀ H' p ns, Keep b H H' → Bx H' b (n + 17) → H p = none → H' p = some (.lst (ns.map wV)) → NamesOk m ns → Q (.ref p) H'
theorem drawnW_nm {st : List Nat} {fi wy : Int} {j : Nat} {m : List Nat} (h : StemOk st fi) (hj : j < 8) (d : DrawnW st fi wy j m) : Nm m := by
  rcases d with ⟨_, rfl⟩ | ⟨_, a, b, c⟩
  · exact fst_nm h hj
  · exact ⟨a, by omega, c⟩
end J
namespace K60
open PySem PySem.Spec PyProof.Rows L2 J M
local macro_rules | `(tactic| walk_at "hp") => `(tactic| first | assumption | exact upd_same | (rw [upd_ne (by assumption)]; walk_at "hp") | (rw [upd_ne (Ne.symm (by assumption))]; walk_at "hp"))
local macro_rules | `(tactic| walk_at "s") => `(tactic| first
  | ((with_reducible refine' r_var ?h ?k); (case h => exact rfl))
  | (with_reducible refine r_c ?_)
  | (with_reducible refine r_op ?_)
  | (with_reducible refine r_un ?_)
  | (with_reducible refine r_seq ?_)
  | (with_reducible refine r_next ?_)
  | (with_reducible refine r_sets ?_)
  | (with_reducible refine r_gname ?_)
  | (with_reducible refine r_ifS ?_)
  | (with_reducible refine r_gsub ?_)
  | (with_reducible refine r_test ?_)
  | (with_reducible refine r_tb ?_)
  | (with_reducible refine r_not ?_)
  | (with_reducible refine r_and ?_)
  | (with_reducible refine r_or ?_)
  | (with_reducible refine r_andV ?_)
  | (with_reducible refine r_orV ?_)
  | (with_reducible refine r_notV ?_)
  | (with_reducible refine r_ifE ?_)
  | (with_reducible refine r_chain ?_)
  | (with_reducible refine r_cb ?_)
  | (with_reducible refine r_cons ?_)
  | (with_reducible refine r_nil ?_)
  | (with_reducible refine r_call ?_)
  | (with_reducible refine r_lst ?_)
  | (with_reducible refine r_tup ?_)
  | (with_reducible refine r_slice ?_)
  | (with_reducible refine r_nop ?_)
  | (with_reducible refine r_part ?_)
  | (with_reducible refine r_bm ?_)
  | (with_reducible refine r_m1 ?_)
  | (with_reducible refine r_m0 ?_)
  | (with_reducible refine r_is ?_)
  | (with_reducible refine r_maxD ?_)
  | (with_reducible refine r_orT ?_)
  | (with_reducible refine r_truN ?_)
  | (with_reducible refine r_intI ?_)
  | (with_reducible refine r_intB ?_)
  | (with_reducible refine r_max2 ?_)
  | (with_reducible refine r_min2 ?_)
  | (with_reducible refine r_yes ?_)
  | (with_reducible refine r_bl ?_)
  | (with_reducible refine iteT ?_)
  | (with_reducible refine iteF ?_)
  | (with_reducible refine r_iteNT ?_)
  | (with_reducible refine r_iteNF ?_)
  | (with_reducible refine r_minL ?_)
  | (with_reducible refine r_gcons ?_)
  | (with_reducible refine r_gnil ?_)
  | (with_reducible refine r_par ?_)
  | (with_reducible refine r_par3 ?_)
  | (with_reducible refine r_is2 ?_)
  | (with_reducible refine r_is3 ?_)
  | (with_reducible refine r_dget ?_)
  | (with_reducible refine r_callS ?_)
  | (with_reducible refine r_rz ?_)
  | (with_reducible refine r_rev ?_)
  | (with_reducible refine r_isI ?_)
  | (with_reducible refine r_isStr ?_)
  | (with_reducible refine r_ret ?_)
  | (with_reducible refine r_drop ?_)
  | (with_reducible refine r_rI0 ?_)
  | (with_reducible refine r_addI ?_)
  | ((with_reducible show rI (fun _ j => 0 < j) _ (.int _) (.int _) _ _); refine r_rI (by first | omega | decide) ?_)
  | ((with_reducible show rI CDiv _ (.int _) (.int _) _ _); refine r_rI (by constructor <;> omega) ?_)
  | ((with_reducible show rI CPow _ (.int _) (.int _) _ _); refine r_rI (by refine ⟨by decide, by decide, ?_⟩; omega) ?_)
  | ((with_reducible show rMul (.int _) (.int _) _ _); refine r_mulI (cmulW (by omega) (by omega)) ?_)
  | (with_reducible refine r_cmpI ?_)
  | (with_reducible refine r_cmpS ?_)
  | (with_reducible refine r_eqI ?_)
  | (with_reducible refine r_neI ?_)
  | (with_reducible refine r_eqS ?_)
  | (with_reducible refine r_neS ?_)
  | (with_reducible refine r_inSF ?_)
  | (with_reducible refine r_inST ?_)
  | (with_reducible refine r_isiStr ?_)
  | ((with_reducible show rIx _ (.ref _) (.int _) _ _); refine' r_ixL (SqL.of ?h) ?e ?_; (case h => walk_at "hp"); (case e => rfl))
  | ((with_reducible show rSetL (.ref _) (.int _) _ _ _); refine' r_setL ?h ?e ?_; (case h => walk_at "hp"); (case e => rfl)))
local macro_rules | `(tactic| walk_at "g") => `(tactic| repeat walk_at "s")
local macro_rules | `(tactic| walk_at "x") => `(tactic| first | omega | decide +kernel | (simp only [List.length_cons, List.length_nil]; omega))
local macro_rules | `(tactic| walk_at "T") => `(tactic| repeat (first
  | walk_at "s"
  | ((with_reducible show rIx _ (.ref _) (.int _) _ _); refine' r_ixTu (SqT.of ?h) ?e ?_; (case h => first | assumption | walk_at "hp"); (case e => rfl))
  | (with_reducible refine r_lenSet ?_)
  | (with_reducible refine r_asg2 ?_)
  | (with_reducible refine iteDT (by walk_at "x") ?_)
  | (with_reducible refine iteDF (by walk_at "x") ?_)
  | (with_reducible refine iteNT (by walk_at "x") ?_)
  | (with_reducible refine iteNF (by walk_at "x") ?_)))
section
variable {P : Program} {w : World} {K : PySem.W.Frag} {mg : Str → Option Value} {base : Heap}
theorem ok_names (T : Tx K mg) {f f_law_take : Addr} {fd fd_law_take : FuncData} (F : Fun K "_law_names" "_law_names" s_law_names f fd)
    (D_law_take : DAt K mg "_law_take" s_law_take P_law_take f_law_take fd_law_take) : FnOk P w K mg base CX0 2 f fd P_law_names spNames60 := by
  have G_law_take : FnOk P w K mg base CX0 1 f_law_take fd_law_take P_law_take spTake := ok_take D_law_take.fn
  refine F.ok sc_law_names (fun vs H Q E h => ?_) (fun cdv A outer s H vs Q E hr h => ?_)
  · obtain ⟨b, mm, n, rfl, _⟩ := h
    rfl
  · obtain ⟨b, mm, n, rfl, mm1, mm8, hb, hn, k⟩ := h
    refine ⟨_, (pss_cons (ps_set (i := 3) sc_law_names.nd rfl (Or.inr rfl) pe_str) (pss_cons (ps_set (i := 5) sc_law_names.nd rfl (Or.inl rfl) (asJoin (K := K) rfl (pe_join pe_str (pe_lc (own := [("_law_k", 4)]) (g := (gName 4)) rfl sc_law_names.nd (pi_range1 rfl T.z_range (pa_cons pe_int pa_nil)) (blkOk_by (N := N_law_names) (sc := defScope s_law_names) (by decide +kernel)) (fun _ _ _ _ _ => (pg_name (i := 4) sc_law_names.nd rfl (Or.inl rfl))) (fun _ _ _ _ _ => pts_nil) (fun _ _ _ _ _ => (pe_ix (ix_seq : IxR _ (rIx K)) (pv 3) (pe_call G_law_take (hr.mono (by decide)) rfl D_law_take.gl D_law_take.fn.kp D_law_take.bd .nil pass0 (pa_cons (pv 0) (pa_cons pe_int pa_nil))) (fun _ _ => rfl))))))) (pss_cons (ps_par (i := 6) (j := 7) rfl sc_law_names.nd rfl rfl (by decide) rfl rfl (pa_cons (pe_call G_law_take (hr.mono (by decide)) rfl D_law_take.gl D_law_take.fn.kp D_law_take.bd .nil pass0 (pa_cons (pv 0) (pa_cons pe_int pa_nil))) (pa_cons (pe_call G_law_take (hr.mono (by decide)) rfl D_law_take.gl D_law_take.fn.kp D_law_take.bd .nil pass0 (pa_cons (pv 0) (pa_cons pe_int pa_nil))) pa_nil)) rfl) (pss_cons (ps_set (i := 8) sc_law_names.nd rfl (Or.inl rfl) (pe_lst pa_nil)) (pss_cons (ps_for (PassesOwn.never) rfl (pi_range1 rfl T.z_range (pa_cons (pv 1) pa_nil)) (pg_name (i := 4) sc_law_names.nd rfl (Or.inl rfl)) (pss_cons (ps_set (i := 9) sc_law_names.nd rfl (Or.inl rfl) (pe_ix (ix_seq : IxR _ (rIx K)) (pv 3) (pe_op L2.op_mod (pe_op (oAdd : OpR _ _ (J.rAdd K)) (pv 6) (pe_op oMul pe_int (pv 4))) pe_int) (fun _ _ => rfl))) (pss_one (ps_if (pt_cmpR ((op_eqA hr.units) : OpR _ _ (rEqA K)) (pv 7) pe_int (nomark _)) (pss_one (ps_expr (asBM (K := K) rfl (pe_bm PySem.F.plainAttrs_list PySem.F.slot_list_append PySem.F.type_list_append mt_append (pv 8) (pa_cons (pe_op (oAdd : OpR _ _ (J.rAdd K)) (pe_slice (sl_any : SlR _ (rSl K)) (pv 5) po_none (po_some (pe_op (oAdd : OpR _ _ (J.rAdd K)) (pv 2) (pe_op L2.op_mod (pv 4) (pe_op L2.op_sub pe_int (pv 2)))))) (pe_op oMul (pv 9) (pe_callTy call_intA (by rfl) T.z_int (by decide +kernel) (pa_cons (pe_cmpR op_gtA (pv 4) pe_int (nomark _)) pa_nil)))) pa_nil))))) (pss_one (ps_if (pt_cmpR ((op_eqA hr.units) : OpR _ _ (rEqA K)) (pv 7) pe_int (nomark _)) (pss_one (ps_expr (asBM (K := K) rfl (pe_bm PySem.F.plainAttrs_list PySem.F.slot_list_append PySem.F.type_list_append mt_append (pv 8) (pa_cons (pe_op (oAdd : OpR _ _ (J.rAdd K)) (pe_op oMul (pv 9) (pe_op L2.op_sub (pv 2) pe_int)) (pe_slice (sl_any : SlR _ (rSl K)) (pv 5) po_none (po_some (pe_op (oAdd : OpR _ _ (J.rAdd K)) pe_int (pe_op L2.op_mod (pv 4) pe_int))))) pa_nil))))) (pss_one (ps_expr (asBM (K := K) rfl (pe_bm PySem.F.plainAttrs_list PySem.F.slot_list_append PySem.F.type_list_append mt_append (pv 8) (pa_cons (pe_op (oAdd : OpR _ _ (J.rAdd K)) (pe_slice (sl_any : SlR _ (rSl K)) (pv 5) po_none (po_some (pe_op (oAdd : OpR _ _ (J.rAdd K)) (pe_op L2.op_sub (pv 2) pe_int) (pe_call G_law_take (hr.mono (by decide)) rfl D_law_take.gl D_law_take.fn.kp D_law_take.bd .nil pass0 (pa_cons (pv 0) (pa_cons pe_int pa_nil)))))) (pv 9)) pa_nil))))))))))) (pss_cons (ps_set (i := 10) sc_law_names.nd rfl (Or.inl rfl) (pe_lst pa_nil)) (pss_cons (ps_for (PassesOwn.never) rfl (asEnum (K := K) rfl (pi_enum rfl T.z_enumerate (pa_cons (pv 8) pa_nil))) (asGTup (K := K) rfl (pg_tup rfl (pgs_cons (pg_name (i := 4) sc_law_names.nd rfl (Or.inl rfl)) (pgs_cons (pg_name (i := 11) sc_law_names.nd rfl (Or.inl rfl)) pgs_nil)))) (pss_cons (ps_set (i := 12) sc_law_names.nd rfl (Or.inl rfl) (pe_op (oAdd : OpR _ _ (J.rAdd K)) (pe_op (oAdd : OpR _ _ (J.rAdd K)) (pe_op (oAdd : OpR _ _ (J.rAdd K)) (pe_ix (ix_seq : IxR _ (rIx K)) (pv 3) (pv 4) (fun _ _ => rfl)) pe_str) (pe_ix (ix_seq : IxR _ (rIx K)) (pv 3) (pe_op L2.op_mod (pe_op (oAdd : OpR _ _ (J.rAdd K)) (pv 6) (pv 4)) pe_int) (fun _ _ => rfl))) (pv 5))) (pss_one (ps_expr (asBM (K := K) rfl (pe_bm PySem.F.plainAttrs_list PySem.F.slot_list_append PySem.F.type_list_append mt_append (pv 10) (pa_cons (pe_ifExp (pt_cmpR (op_notInA : OpR _ _ (rInA K true)) (pv 11) (pv 10) (by rfl)) (pv 11) (pe_slice (sl_any : SlR _ (rSl K)) (pv 12) po_none (po_some pe_int))) pa_nil))))))) (pss_one (ps_ret (pv 10)))))))))), ?_⟩
    walk_at "T"
    refine r_lcRG ?_
    walk_at "T"
    refine ⟨7, rfl, by decide, by decide, fun D hD => ?_⟩
    refine comp_draw hD hb (show 7 < sizeLine by decide) (fun c => 97 ≤ c ∧ c ≤ 122) (fun j H2 N hj kp2 hb2 hN => ?_) fun st H1 hst hsc kp1 hb1 hd => ?_
    · walk_at "T"
      refine ⟨rfl, ?_⟩
      walk_at "T"
      refine ⟨b, _, n + j, rfl, hb2, by omega, by omega, by omega, fun u H3 u0 u1 kp3 hb3 => ?_⟩
      obtain ⟨v, rfl, hv⟩ : ∃ v : Nat, u = v ∧ v < 26 := ⟨u.toNat, by omega, by omega⟩
      refine r_ixS (by rw [let_len]; decide) (c := 97 + v) (by rw [atI_nat]; exact let_at v hv) ?_
      exact hN _ _ ⟨by omega, by omega⟩ kp3 hb3
    · refine r_joinC hd (by omega) ?_
      have hst : st.length = 7 := hst
      have lets : ∀ q, ∀ c ∈ st.take q, 97 ≤ c ∧ c ≤ 122 := fun q c hc => hsc c (List.mem_of_mem_take hc)
      walk_at "T"
      refine ⟨b, _, _, rfl, hb1, by omega, by omega, by omega, fun fi H2 f0 f1 kp2 hb2 => ?_⟩
      walk_at "T"
      refine ⟨b, _, _, rfl, hb2, by omega, by omega, by omega, fun wy H3 w0 w1 kp3 hb3 => ?_⟩
      have kp03 := (kp1.trans kp2).trans kp3
      walk_at "T"
      refine ⟨show 0 ≤ sizeLine by decide, fun fa hfa => ?_⟩
      have kp4 := kp03.at (kp03.free (hb3.ne hfa) hfa) (.lst [])
      have hb4 := hb3.at (hb3.ne hfa) (.lst [])
      have e4 : upd H3 fa (.lst []) fa = some (.lst []) := upd_same
      have fab : fa ≠ b := hb3.ne hfa
      have hfa0 : H fa = none := kp03.free fab hfa
      generalize upd H3 fa (.lst []) = H4 at kp4 hb4 e4 ⊢
      walk_at "T"
      refine r_for ?_
      refine r_irng1 ?_
      walk_at "T"
      refine ⟨mm, rfl, by omega, by omega, ?_⟩
      refine loop_rng (q := mm) (fun i σ' H' => ∃ (o4 o9 o10 o11 o12 : Option V) (fs : List (List Nat)), σ' = [some (.ref b), some (.int (mm : Nat)), some (.int 1), some (.str "abcdefghijklmnopqrstuvwxyz"), o4, some (.str (S st)), some (.int fi), some (.int wy), some (.ref fa), o9, o10, o11, o12] ∧ Keep b H H' ∧ Bx H' b (n + 9 + i) ∧ H' fa = some (.lst (fs.map fun m => V.str (S m))) ∧ fs.length = i ∧ ∀ (j : Nat) (m : List Nat), fs[j]? = some m → DrawnW st fi wy j m) ⟨_, _, _, _, _, [], rfl, kp4, hb4.mono (by omega), e4, rfl, fun _ _ h => nomatch h⟩ (fun i σ5 H5 hi w => ?_) fun σ5 H5 w => ?_
      · obtain ⟨o4, o9, o10, o11, o12, fs, rfl, kp5, hb5, e5, l5, d5⟩ := w
        walk_at "T"
        obtain ⟨v, hv1, hv⟩ : ∃ v : Nat, (fi + 7 * (i : Int)) % 26 = v ∧ v < 26 := ⟨((fi + 7 * (i : Int)) % 26).toNat, by omega, by omega⟩
        rw [hv1]
        refine r_ixS (by rw [let_len]; decide) (c := 97 + v) (by rw [atI_nat]; exact let_at v hv) ?_
        walk_at "T"
        have fin : ∀ (z : Str) (H6 : Hp), DrawnW st fi wy i (cd z) → Keep b H H6 → Bx H6 b (n + 9 + (i + 1)) → H6 fa = some (.lst (fs.map fun m => V.str (S m))) → Keep b H (upd H6 fa (.lst ((fs.map fun m => V.str (S m)) ++ [.str z]))) ∧ Bx (upd H6 fa (.lst ((fs.map fun m => V.str (S m)) ++ [.str z]))) b (n + 9 + (i + 1)) ∧ (upd H6 fa (.lst ((fs.map fun m => V.str (S m)) ++ [.str z]))) fa = some (.lst ((fs ++ [cd z]).map fun m => V.str (S m))) ∧ (fs ++ [cd z]).length = i + 1 ∧ ∀ (j : Nat) (m : List Nat), (fs ++ [cd z])[j]? = some m → DrawnW st fi wy j m := fun z H6 hz kp6 hb6 e6 => by
          refine ⟨kp6.at hfa0 _, hb6.at fab _, ?_, by rw [List.length_append, l5]; rfl, fun j m hm => ?_⟩
          · rw [upd_same, List.map_append]
            show some (HO.lst (_ ++ [V.str z])) = some (HO.lst (_ ++ [V.str (S (cd z))]))
            rw [show S (cd z) = z from S_of z]
          · by_cases hq : j < fs.length
            · rw [List.getElem?_append_left hq] at hm
              exact d5 j m hm
            · rw [List.getElem?_append_right (by omega)] at hm
              have : j - fs.length = 0 := by
                have := (List.getElem?_eq_some_iff.mp hm).1
                simp at this; omega
              rw [this] at hm
              cases hm
              rw [show j = i by omega]
              exact hz
        have lfs : (fs.map fun m => V.str (S m)).length < sizeLine := by
          rw [List.length_map]
          exact Nat.lt_of_le_of_lt (show _ ≤ 8 by omega) (by decide)
        have tk : ∀ q, ∀ c ∈ st.take q, 97 ≤ c ∧ c ≤ 122 := fun q c hc => hsc c (List.mem_of_mem_take hc)
        have cs : cd (⟨#[97 + v]⟩ : Str) = [97 + v] := cd_one _
        have sl : (⟨#[97 + v]⟩ : Str).length = 1 := rfl
        have sv : 97 + v = sgOf fi i := by unfold sgOf; omega
        refine r_iteD (fun c => ?_) fun c => ?_
        · walk_at "T"
          refine r_tyL e5 ?_
          walk_at "T"
          rw [show (1 : Int) + (i : Int) % (8 - 1) = ((1 + i % 7 : Nat) : Int) by omega]
          refine r_slS (by rw [S_len, hst]; decide) ?_
          rw [cutS_take, cd_S]
          walk_at "T"
          obtain ⟨e, he, hv⟩ : ∃ e : Nat, (if decide ((i : Int) > 5) = true then (1 : Int) else 0) = (e : Nat) ∧ e = if 5 < i then 1 else 0 := by
            by_cases q : 5 < i
            · exact ⟨1, by rw [decide_eq_true (by omega)]; rfl, by rw [if_pos q]⟩
            · exact ⟨0, by rw [decide_eq_false (by omega)]; rfl, by rw [if_neg q]⟩
          rw [he]
          have e1 : e ≤ 1 := by rw [hv]; split <;> omega
          refine r_mulS (mul_ok (by rw [sl]; decide) (by omega)) ?_
          have dr : DrawnW st fi wy i (cd (S (st.take (1 + i % 7)) ++ Txt.mul ⟨#[97 + v]⟩ ((e : Nat) : Int))) := by
            refine .inl ⟨c, ?_⟩
            rw [cd_app, cd_S, mul_cd, cs, sv, hv]
            unfold Fst
            by_cases i6 : i < 6
            · rw [if_pos i6, if_neg (by omega), List.replicate_zero, List.flatten_nil, List.append_nil, Nat.mod_eq_of_lt (by omega)]
            · rw [if_neg i6, if_pos (by omega)]
              by_cases q6 : i = 6
              · subst q6
                rw [if_pos rfl, List.take_of_length_le (by rw [hst]; decide)]; rfl
              · have q7 : i = 7 := by omega
                subst q7
                rw [if_neg q6]; rfl
          have drl : (S (st.take (1 + i % 7)) : Str).length + (Txt.mul (⟨#[97 + v]⟩ : Str) ((e : Nat) : Int)).length ≤ 16777216 := by
            rw [S_len, len_cd (z := Txt.mul _ _), mul_cd, cs, List.length_take]
            rcases Nat.le_one_iff_eq_zero_or_eq_one.mp e1 with rfl | rfl <;> simp <;> omega
          refine r_addS (le_line drl) ?_
          walk_at "T"
          refine r_app e5 lfs ?_
          walk_at "T"
          exact ⟨_, _, _, _, _, _, rfl, fin _ H5 dr kp5 (hb5.mono (by omega)) e5⟩
        · walk_at "T"
          refine r_iteD (fun c2 => ?_) fun c2 => ?_
          · walk_at "T"
            refine r_tyL e5 ?_
            walk_at "T"
            rw [show ((1 : Int) - 1) = ((0 : Nat) : Int) from rfl]
            refine r_mulS (mul_ok (by rw [sl]; decide) (by omega)) ?_
            walk_at "T"
            rw [show (1 : Int) + (i : Int) % 6 = ((1 + i % 6 : Nat) : Int) by omega]
            refine r_slS (by rw [S_len, hst]; decide) ?_
            rw [cutS_take, cd_S]
            have rp : cd (Txt.mul (⟨#[97 + v]⟩ : Str) ((0 : Nat) : Int)) = [] := by rw [mul_cd, cs]; rfl
            have dr : DrawnW st fi wy i (cd (Txt.mul ⟨#[97 + v]⟩ ((0 : Nat) : Int) ++ S (st.take (1 + i % 6)))) := by
              rw [cd_app, cd_S, rp, List.nil_append]
              exact .inr ⟨c, by rw [List.length_take]; omega, by rw [List.length_take]; omega, tk _⟩
            refine r_addS (le_line (show _ ≤ 16777216 by rw [S_len, len_cd, rp, List.length_nil, List.length_take]; omega)) ?_
            walk_at "T"
            refine r_app e5 lfs ?_
            walk_at "T"
            exact ⟨_, _, _, _, _, _, rfl, fin _ H5 dr kp5 (hb5.mono (by omega)) e5⟩
          · walk_at "T"
            refine r_tyL e5 ?_
            walk_at "T"
            refine ⟨b, _, _, rfl, hb5, by omega, by omega, by omega, fun u H6 u0 u1 kp6 hb6 => ?_⟩
            obtain ⟨w2, rfl, hw2⟩ : ∃ w2 : Nat, u = w2 ∧ w2 < 2 := ⟨u.toNat, by omega, by omega⟩
            have e6 := kp6 _ _ e5 fab
            walk_at "T"
            rw [show ((1 : Int) - 1 + (w2 : Int)) = ((w2 : Nat) : Int) by omega]
            refine r_slS (by rw [S_len, hst]; decide) ?_
            rw [cutS_take, cd_S]
            walk_at "T"
            have dr : DrawnW st fi wy i (cd (S (st.take w2) ++ (⟨#[97 + v]⟩ : Str))) := by
              rw [cd_app, cd_S, cs]
              refine .inr ⟨c, by rw [List.length_append]; simp, by rw [List.length_append, List.length_take]; simp; omega, fun d hd => ?_⟩
              rcases List.mem_append.mp hd with h | h
              · exact tk _ d h
              · have := List.mem_singleton.mp h; omega
            refine r_addS (le_line (show _ ≤ 16777216 by rw [S_len, sl, List.length_take]; omega)) ?_
            walk_at "T"
            refine r_app e6 lfs ?_
            walk_at "T"
            exact ⟨_, _, _, _, _, _, rfl, fin _ H6 dr (kp5.trans kp6) (hb6.mono (by omega)) e6⟩
      · obtain ⟨o4, o9, o10, o11, o12, fs, rfl, kp5, hb5, e5, l5, d5⟩ := w
        walk_at "T"
        refine ⟨show 0 ≤ sizeLine by decide, fun sa hsa => ?_⟩
        have sab : sa ≠ b := hb5.ne hsa
        have saf : sa ≠ fa := fun e => by subst e; exact nomatch hsa.symm.trans e5
        have hsa0 : H sa = none := kp5.free sab hsa
        have kp6 := kp5.at hsa0 (.lst [])
        have hb6 := hb5.at sab (.lst [])
        have e6 : upd H5 sa (.lst []) sa = some (.lst []) := upd_same
        have f6 : upd H5 sa (.lst []) fa = some (.lst (fs.map fun m => V.str (S m))) := by rw [upd_ne (Ne.symm saf)]; exact e5
        generalize upd H5 sa (.lst []) = H6 at kp6 hb6 e6 f6 ⊢
        walk_at "T"
        refine r_forEnumL (K := K) (a := fa) (xs := fs.map fun m => V.str (S m)) rfl (fun i σ' H' => ∃ (o4 o11 o12 : Option V) (ss : List (List Nat)), σ' = [some (.ref b), some (.int (mm : Nat)), some (.int 1), some (.str "abcdefghijklmnopqrstuvwxyz"), o4, some (.str (S st)), some (.int fi), some (.int wy), some (.ref fa), o9, some (.ref sa), o11, o12] ∧ Keep b H H' ∧ Bx H' b (n + 17) ∧ H' fa = some (.lst (fs.map fun m => V.str (S m))) ∧ H' sa = some (.lst (ss.map fun m => V.str (S m))) ∧ ss.length = i ∧ ss.Nodup ∧ ∀ (j : Nat) (m : List Nat), ss[j]? = some m → DrawnW st fi wy j m ∨ OtherJ st j m) (fun j σ1 H1 w => by obtain ⟨_, _, _, _, _, _, _, h, _⟩ := w; exact SqL.of h) ⟨_, _, _, [], rfl, kp6, hb6.mono (by omega), f6, e6, rfl, List.nodup_nil, fun _ _ h => nomatch h⟩ (fun j σ7 H7 T x hx w hT => ?_) fun σ7 H7 w => ?_
        · obtain ⟨o4, o11, o12, ss, rfl, kp7, hb7, f7, e7, l7, nd7, n7⟩ := w
          rw [List.getElem?_map] at hx
          obtain ⟨m, em, rfl⟩ := Option.map_eq_some_iff.mp hx
          have j6 : j < 8 := by have := (List.getElem?_eq_some_iff.mp em).1; omega
          have Tb := hb7.ne hT
          have kp8 := kp7.at (kp7.free Tb hT) (.tup [.int (j : Nat), .str (S m)])
          have hb8 := hb7.at Tb (.tup [.int (j : Nat), .str (S m)])
          have t8 : upd H7 T (.tup [.int (j : Nat), .str (S m)]) T = some (.tup [.int (j : Nat), .str (S m)]) := upd_same
          have f8 := ((Same.refl H7).at hT (.tup [.int (j : Nat), .str (S m)])) _ _ f7
          have e8 := ((Same.refl H7).at hT (.tup [.int (j : Nat), .str (S m)])) _ _ e7
          generalize upd H7 T (.tup [.int (j : Nat), .str (S m)]) = H8 at kp8 hb8 t8 f8 e8 ⊢
          refine r_gtup (SqT.of t8) rfl ?_
          walk_at "T"
          refine r_ixS (by rw [let_len]; decide) (c := 97 + j) (by rw [atI_nat]; exact let_at j (by omega)) ?_
          walk_at "T"
          refine r_addS (le_line (show 1 + 1 ≤ 16777216 by decide)) ?_
          walk_at "T"
          obtain ⟨v, hv1, hv⟩ : ∃ v : Nat, (fi + (j : Int)) % 26 = v ∧ v < 26 := ⟨((fi + (j : Int)) % 26).toNat, by omega, by omega⟩
          rw [hv1]
          refine r_ixS (by rw [let_len]; decide) (c := 97 + v) (by rw [atI_nat]; exact let_at v hv) ?_
          refine r_addS (le_line (show 2 + 1 ≤ 16777216 by decide)) ?_
          walk_at "T"
          have co : cd ((⟨#[97 + j]⟩ ++ "q" : Str) ++ (⟨#[97 + v]⟩ : Str) ++ S st) = [97 + j, 113, 97 + v] ++ st := by
            rw [cd_app, cd_app, cd_app, cd_S]; rfl
          refine r_addS (le_line (show _ ≤ 16777216 by rw [S_len, hst]; exact (show 3 + 7 ≤ 16777216 by decide))) ?_
          generalize ((⟨#[97 + j]⟩ ++ "q" : Str) ++ (⟨#[97 + v]⟩ : Str) ++ S st) = oth at co ⊢
          walk_at "T"
          refine r_tyL e8 ?_
          walk_at "T"
          have sm : (ss.map fun m => V.str (S m)) = (ss.map S).map V.str := by rw [List.map_map]; rfl
          refine r_ninTx (ws := ss.map S) (.inl (SqL.of (by rw [← sm]; exact e8))) ?_
          have lss : (ss.map fun m => V.str (S m)).length < sizeLine := by
            rw [List.length_map]
            exact Nat.lt_of_le_of_lt (show _ ≤ 8 by omega) (by decide)
          have fin : ∀ l : List Nat, l ∉ ss → DrawnW st fi wy j l ∨ OtherJ st j l → Keep b H (upd H8 sa (.lst ((ss.map fun m => V.str (S m)) ++ [.str (S l)]))) ∧ Bx (upd H8 sa (.lst ((ss.map fun m => V.str (S m)) ++ [.str (S l)]))) b (n + 17) ∧ (upd H8 sa (.lst ((ss.map fun m => V.str (S m)) ++ [.str (S l)]))) fa = some (.lst (fs.map fun m => V.str (S m))) ∧ (upd H8 sa (.lst ((ss.map fun m => V.str (S m)) ++ [.str (S l)]))) sa = some (.lst ((ss ++ [l]).map fun m => V.str (S m))) ∧ (ss ++ [l]).length = j + 1 ∧ (ss ++ [l]).Nodup ∧ ∀ (q : Nat) (m : List Nat), (ss ++ [l])[q]? = some m → DrawnW st fi wy q m ∨ OtherJ st q m := fun l hl hj => by
            refine ⟨kp8.at hsa0 _, hb8.at sab _, by rw [upd_ne (Ne.symm saf)]; exact f8, by rw [upd_same, List.map_append]; rfl, by rw [List.length_append, l7]; rfl, ?_, fun q m hm => ?_⟩
            · rw [List.nodup_append]
              exact ⟨nd7, List.nodup_cons.mpr ⟨List.not_mem_nil, List.nodup_nil⟩, fun a ha c hc => by rw [List.mem_singleton.mp hc]; exact fun e => hl (e ▸ ha)⟩
            · by_cases hq : q < ss.length
              · rw [List.getElem?_append_left hq] at hm
                exact n7 q m hm
              · rw [List.getElem?_append_right (by omega)] at hm
                have : q - ss.length = 0 := by
                  have := (List.getElem?_eq_some_iff.mp hm).1
                  simp at this; omega
                rw [this] at hm
                cases hm
                rw [show q = j by omega]
                exact hj
          have inS : S m ∈ ss.map S ↔ m ∈ ss := ⟨fun h => by obtain ⟨a, ha, e⟩ := List.mem_map.mp h; rw [← S_inj.mp e]; exact ha, fun h => List.mem_map_of_mem h⟩
          by_cases hin : m ∈ ss
          · rw [decide_eq_true (inS.mpr hin)]
            walk_at "T"
            refine r_slS (by rw [len_cd, co]; simp; omega) ?_
            rw [show (8 : Int) = ((8 : Nat) : Int) from rfl, cutS_take, co]
            have l8 : ([97 + j, 113, 97 + v] ++ st).take 8 = [97 + j, 113, 97 + v] ++ st.take 5 := rfl
            rw [l8]
            walk_at "T"
            refine r_app e8 lss ?_
            walk_at "T"
            have ot : OtherJ st j ([97 + j, 113, 97 + v] ++ st.take 5) := ⟨97 + v, by omega, by omega, rfl⟩
            refine ⟨_, _, _, _, rfl, fin _ (other_fresh (wy := wy) ⟨hst, hsc, f0, f1⟩ (by omega) n7 (x := m) (by rw [l7]; exact d5 j m em) hin (by rw [l7]; exact ot)) (.inr ot)⟩
          · rw [decide_eq_false (fun h => hin (inS.mp h))]
            walk_at "T"
            walk_at "T"
            refine r_app e8 lss ?_
            walk_at "T"
            exact ⟨_, _, _, _, rfl, fin _ hin (.inl (d5 j m em))⟩
        · obtain ⟨o4, o11, o12, ss, rfl, kp7, hb7, f7, e7, l7, nd7, n7⟩ := w
          rw [List.length_map, l5] at l7
          walk_at "T"
          refine k _ sa ss kp7 hb7 hsa0 e7 ⟨l7, nd7, fun m hm => ?_⟩
          obtain ⟨j, hj⟩ := List.mem_iff_getElem?.mp hm
          exact (n7 j m hj).elim (drawnW_nm ⟨hst, hsc, f0, f1⟩ (by have := (List.getElem?_eq_some_iff.mp hj).1; omega)) (other_nm ⟨hst, hsc, f0, f1⟩ (by have := (List.getElem?_eq_some_iff.mp hj).1; omega))
end
end K60
/-! a law's kinds -/
namespace J
open PySem PySem.Spec PyProof.Rows L2 M
/-- since H0: a box that was there, and what else stands -/
structure Std (H0 H : Hp) (b : Addr) (n : Nat) (L : List (Addr × HO)) : Prop where
  kp : Keep b H0 H
  bx : Bx H b n
  at_ : ∀ e ∈ L, H e.1 = some e.2 ∧ e.1 ≠ b
variable {H0 H H' : Hp} {b : Addr} {n m : Nat} {L : List (Addr × HO)}
theorem Std.get (st : Std H0 H b n L) {a : Addr} {o : HO} (i : Nat) (h : L[i]? = some (a, o)) : H a = some o := (st.at_ _ (List.mem_of_getElem? h)).1
theorem Std.neb (st : Std H0 H b n L) {a : Addr} {o : HO} (i : Nat) (h : L[i]? = some (a, o)) : a ≠ b := (st.at_ _ (List.mem_of_getElem? h)).2
theorem Std.free (st : Std H0 H b n L) {a : Addr} (ha : H a = none) : H0 a = none := st.kp.free (st.bx.ne ha) ha
theorem Std.draw (st : Std H0 H b n L) (k : Keep b H H') (bx : Bx H' b m) : Std H0 H' b m L :=
  ⟨st.kp.trans k, bx, fun e he => let ⟨h1, h2⟩ := st.at_ e he; ⟨k _ _ h1 h2, h2⟩⟩
theorem Std.step (st : Std H0 H b n L) (s : Same H H') : Std H0 H' b n L := st.draw (Keep.same s) (st.bx.same s)
theorem Std.new (st : Std H0 H b n L) {a : Addr} (ha : H a = none) (o : HO) : Std H0 (upd H a o) b n ((a, o) :: L) :=
  ⟨st.kp.at (st.free ha) o, st.bx.at (st.bx.ne ha) o, fun e he => by
    rcases List.mem_cons.mp he with rfl | he
    · exact ⟨upd_same, st.bx.ne ha⟩
    · obtain ⟨h1, h2⟩ := st.at_ e he
      exact ⟨(upd_ne (ne_of_none h1 ha)).trans h1, h2⟩⟩
theorem Std.add (st : Std H0 H b n L) (k : Keep b H H') (bx : Bx H' b m) {a : Addr} {o : HO} (ha : H a = none) (h' : H' a = some o) : Std H0 H' b m ((a, o) :: L) :=
  ⟨st.kp.trans k, bx, fun e he => by
    rcases List.mem_cons.mp he with rfl | he
    · exact ⟨h', st.bx.ne ha⟩
    · obtain ⟨h1, h2⟩ := st.at_ e he
      exact ⟨k _ _ h1 h2, h2⟩⟩
inductive KdsAt (H : Hp) : List V → List Kd → Prop where
  | nil : KdsAt H [] []
  | cons {a : Addr} {k : Kd} {xs : List V} {ks : List Kd} (h : KdAt H a k) (t : KdsAt H xs ks) : KdsAt H (.ref a :: xs) (k :: ks)
theorem KdsAt.same {H H' : Hp} (s : Same H H') : ∀ {xs : List V} {ks : List Kd}, KdsAt H xs ks → KdsAt H' xs ks
  | _, _, .nil => .nil
  | _, _, .cons h t => .cons (h.same s) (t.same s)
theorem KdsAt.len {H : Hp} : ∀ {xs : List V} {ks : List Kd}, KdsAt H xs ks → xs.length = ks.length
  | _, _, .nil => rfl
  | _, _, .cons _ t => by rw [List.length_cons, List.length_cons, t.len]
theorem KdsAt.get {H : Hp} : ∀ {xs : List V} {ks : List Kd} {i : Nat} {x : V}, KdsAt H xs ks → xs[i]? = some x → ∃ (a : Addr) (k : Kd), x = .ref a ∧ ks[i]? = some k ∧ KdAt H a k
  | _, _, _, _, .nil, e => by cases e
  | _, _, 0, _, .cons h _, e => by cases e; exact ⟨_, _, rfl, rfl, h⟩
  | _, _, i + 1, _, .cons _ t, e => t.get (i := i) e
def nmZZ : List Nat := [122, 122]
/-- the thirteen kinds -/
def kdsOf (lo : Int) (mo : Int) (ns : List (List Nat)) (m : Int) : List Kd :=
  [.num lo (lo + mo), .num lo (lo + mo + 1), .num (lo - 1) (lo + mo), .nam, .one ns, .one ns.reverse, .one (if ns.tail = [] then [nmZZ] else ns.tail), .own nmW, .own nmO, .txt m, .txt (m % 20 + 1), .own nmE, .num lo (lo + mo)]
structure KdsOk (lo mo : Int) (ns : List (List Nat)) (m : Int) : Prop where
  l0 : -4 ≤ lo
  l1 : lo ≤ 4
  m0 : 0 ≤ mo
  m1 : mo ≤ 2
  t0 : 1 ≤ m
  t1 : m ≤ 20
  n1 : 1 ≤ ns.length
  n8 : ns.length ≤ 8
  nm : ∀ n ∈ ns, Nm n
  nd : ns.Nodup
def spKinds60 : Sp := fun vs H Q _ => ∃ (b : Addr) (n : Nat), vs = [.ref b] ∧ Bx H b n ∧ n ≤ 400000000 ∧
  ∀ H' p l nt xs lo mo ns m, Keep b H H' → Bx H' b (n + 30) → H p = none → H l = none → H nt = none → H' p = some (.tup [.ref l, .ref nt]) → H' l = some (.lst xs) → H' nt = some (.tup (ns.map wV)) → KdsAt H' xs (kdsOf lo mo ns m) → KdsOk lo mo ns m → Q (.ref p) H'
theorem cutV_tail (xs : List V) : cutV xs (some 1) none = xs.tail := by
  unfold cutV
  cases xs with
  | nil => rfl
  | cons x r =>
    have h1 : HT.sIx (r.length + 1) 0 (some 1) = 1 := by
      show (if (1 : Int) < 0 then ((1 : Int) + ((r.length + 1 : Nat) : Int)).toNat else min (1 : Int).toNat (r.length + 1)) = 1
      rw [if_neg (by decide)]
      show min 1 (r.length + 1) = 1
      omega
    show List.take (HT.sIx (r.length + 1) (r.length + 1) none - HT.sIx (r.length + 1) 0 (some 1)) (List.drop (HT.sIx (r.length + 1) 0 (some 1)) (x :: r)) = r
    rw [h1, show HT.sIx (r.length + 1) (r.length + 1) none = r.length + 1 from rfl]
    exact List.take_of_length_le (Nat.le_refl _)
/-- all but the first, or one other -/
theorem r_tailOr {K : PySem.W.Frag} {σ : L2.St} {H : Hp} {Q : VK} {nt : Addr} {ns : List (List Nat)} (hn : H nt = some (.tup (ns.map wV))) (n1 : 1 ≤ ns.length)
    (k : ∀ z H', Same H H' → H z = none → H' z = some (.tup ((if ns.tail = [] then [nmZZ] else ns.tail).map wV)) → Q (.ref z) H') :
    rSlT K (.ref nt) (some 1) none H fun x H1 => ∃ k, TruV K x H1 k ∧ if k = true then Q x H1 else tTup (tCons (tC (.str "zz")) tNil) σ H1 Q := by
  refine r_slT (SqT.of hn) (fun h => ?_) fun p hp => ?_
  · have h1 : HT.sIx (ns.map wV).length 0 (some ((1 : Nat) : Int)) = 0 := h.1
    rw [HT.sIx_nat, List.length_map] at h1
    omega
  rw [cutV_tail, ← List.map_tail]
  have s1 := (Same.refl H).at hp (.tup (ns.tail.map wV))
  have e1 : upd H p (.tup (ns.tail.map wV)) p = some (.tup (ns.tail.map wV)) := upd_same
  generalize upd H p (.tup (ns.tail.map wV)) = H1 at s1 e1 ⊢
  by_cases c : ns.tail = []
  · refine ⟨false, .inr (.inl ⟨_, SqT.of e1, by rw [c]; rfl⟩), ?_⟩
    rw [if_neg (by decide)]
    refine ⟨show 1 ≤ sizeLine by decide, fun z hz => ?_⟩
    exact k z _ (s1.trans ((Same.refl H1).at hz _)) (Same.non s1 hz) (by rw [upd_same, if_pos c]; rfl)
  · refine ⟨true, .inr (.inl ⟨_, SqT.of e1, ?_⟩), ?_⟩
    · cases q : ns.tail with
      | nil => exact absurd q c
      | cons _ _ => rfl
    rw [if_pos rfl]
    exact k p _ s1 hp (by rw [e1, if_neg c])
end J
namespace PySem.SeqAt
open AutoSeq1 (wpAny_loadPart')
open MeetsSeq
end PySem.SeqAt
namespace J
open PySem PySem.Spec PyProof.Rows L2 M
/-! ### tuples and lists compared with what has nothing, or a name, in it -/
/-! ### what sort it is of -/
def tyN : PyData → String
  | .none => "NoneType"
  | .bool _ => "bool"
  | .int _ => "int"
  | .str _ => "str"
  | .list _ => "list"
  | .tuple _ => "tuple"
  | .dict _ => "dict"
theorem Dd.ty {K : PySem.W.Frag} {b : Addr} {H : Hp} {x : V} {d : PyData} (t : Dd b H x d) : TyX K H x (.type (tyN d)) := by
  cases t with
  | non => exact .base .non
  | bl v => exact .base (.bl v)
  | int i h => exact .base (.int i)
  | str z h c => exact .base (.str z)
  | lst h _ _ => exact .base (.lst h)
  | tup h _ => exact .base (.tup h)
  | dct h => exact .base (.dK h)
theorem kS (d : PyData) : kitB (tyN d) "str" = some (isSD d) := by cases d <;> first | exact (show kitB "NoneType" "str" = some false by decide +kernel) | exact (show kitB "bool" "str" = some false by decide +kernel) | exact (show kitB "int" "str" = some false by decide +kernel) | exact (show kitB "str" "str" = some true by decide +kernel) | exact (show kitB "list" "str" = some false by decide +kernel) | exact (show kitB "tuple" "str" = some false by decide +kernel) | exact (show kitB "dict" "str" = some false by decide +kernel)
theorem kI (d : PyData) : kitB (tyN d) "int" = some (isID d) := by cases d <;> first | exact (show kitB "NoneType" "int" = some false by decide +kernel) | exact (show kitB "bool" "int" = some true by decide +kernel) | exact (show kitB "int" "int" = some true by decide +kernel) | exact (show kitB "str" "int" = some false by decide +kernel) | exact (show kitB "list" "int" = some false by decide +kernel) | exact (show kitB "tuple" "int" = some false by decide +kernel) | exact (show kitB "dict" "int" = some false by decide +kernel)
theorem kB (d : PyData) : kitB (tyN d) "bool" = some (isBD d) := by cases d <;> first | exact (show kitB "NoneType" "bool" = some false by decide +kernel) | exact (show kitB "bool" "bool" = some true by decide +kernel) | exact (show kitB "int" "bool" = some false by decide +kernel) | exact (show kitB "str" "bool" = some false by decide +kernel) | exact (show kitB "list" "bool" = some false by decide +kernel) | exact (show kitB "tuple" "bool" = some false by decide +kernel) | exact (show kitB "dict" "bool" = some false by decide +kernel)
/-- a thing, or an own error -/
inductive Tn (b C : Addr) (H : Hp) : V → Option PyData → Prop where
  | dat {x : V} {d : PyData} (h : Dd b H x d) : Tn b C H x (some d)
  | err {a : Addr} (h : EvA H C a 1) : Tn b C H (.ref a) none
theorem Tn.same {b C : Addr} {H H' : Hp} {x : V} {o : Option PyData} (t : Tn b C H x o) (s : Same H H') : Tn b C H' x o := by
  cases t with
  | dat h => exact .dat (h.same s)
  | err h => exact .err (h.same s)
structure ExG (K : PySem.W.Frag) (C : Addr) (cd : ClassData) : Prop extends ExF K C cd where
  nt : PySem.W.kitOne K (.ref C) (.type "tuple") = some false
  na : PySem.W.kitAny K (.ref C) [.type "str", .type "tuple"] = some false
def oB (f : PyData → Bool) : Option PyData → Bool
  | some d => f d
  | none => false
section
variable {K : PySem.W.Frag} {b C : Addr} {cd : ClassData} {H : Hp} {x : V} {o : Option PyData} {Q : VK}
theorem Dd.isS {d : PyData} (t : Dd b H x d) (k : Q (.bl (isSD d)) H) : rIsiX K C [x, .ty "str"] H Q := .inl (r_isiB t.ty (kS d) k)
theorem Tn.isS (G : ExG K C cd) (t : Tn b C H x o) (k : Q (.bl (oB isSD o)) H) : rIsiX K C [x, .ty "str"] H Q := by
  cases t with
  | @dat _ d h => exact .inl (r_isiB h.ty (kS d) k)
  | err h => exact .inr ⟨_, 1, "str", false, rfl, h, G.ns, k⟩
theorem Tn.isI (G : ExG K C cd) (t : Tn b C H x o) (k : Q (.bl (oB isID o)) H) : rIsiX K C [x, .ty "int"] H Q := by
  cases t with
  | @dat _ d h => exact .inl (r_isiB h.ty (kI d) k)
  | err h => exact .inr ⟨_, 1, "int", false, rfl, h, G.ni, k⟩
theorem Tn.isB (G : ExG K C cd) (t : Tn b C H x o) (k : Q (.bl (oB isBD o)) H) : rIsiX K C [x, .ty "bool"] H Q := by
  cases t with
  | @dat _ d h => exact .inl (r_isiB h.ty (kB d) k)
  | err h => exact .inr ⟨_, 1, "bool", false, rfl, h, G.nb, k⟩
end
/-! ### isinstance(x, (str, tuple)) -/
end J
/-! kinds among things of any depth; promises of what looks at things -/
namespace J
open PySem PySem.Spec PyProof.Rows L2 M
end J
/-! a tuple the other way about -/
namespace HT
open PySem PySem.Spec PyProof.Rows
section
variable {prog : Program} {w : World} {A : Around} {E : Value → Shared → Prop} {s : Shared}
theorem rev_places (n : Nat) : Builtin.Slice.slicePlaces ((n : Int) - 1) (-1) (-1) = n := by
  unfold Builtin.Slice.slicePlaces
  rw [if_neg (by decide)]
  by_cases h : (n : Int) - 1 > -1
  · rw [if_pos h, show (-(-1) : Int) = 1 by decide, Int.ediv_one]; omega
  · rw [if_neg h]; omega
theorem rev_applied {sl : Addr} {vs : Value} {n : Nat} {Q : Int × Int × Nat → Shared → Prop} (hs : s.heap.IsSliceOf sl .none .none vs) (ps : IsPart vs (some (-1)))
    (h : Q ((n : Int) - 1, -1, n) s) : wpAny (model prog w) A (Builtin.Slice.sliceApplied (.ref sl) (pure (n : Int))) Q E s := by
  obtain ⟨o, g, _, d⟩ := id hs
  unfold Builtin.Slice.sliceApplied Builtin.Slice.sliceFields
  refine wpAny_bind (wpAny_bind (wpAny_field g d (x := .none) rfl (wpAny_bind (wpAny_field g d (x := .none) rfl (wpAny_bind (wpAny_field g d (x := vs) rfl (wpAny_pure ?_)))))))
  refine wpAny_bind (slicePart_ ps ?_)
  show wpAny _ _ (if ((-1 : Int) == 0) = true then _ else _) _ _ s
  rw [if_neg (by decide)]
  refine wpAny_bind (slicePart_none (wpAny_bind (slicePart_none (wpAny_bind (wpAny_pure ?_)))))
  show wpAny _ _ (pure ((n : Int) - 1, (-1 : Int), Builtin.Slice.slicePlaces ((n : Int) - 1) (-1) (-1))) _ _ s
  rw [rev_places]
  exact wpAny_pure h
theorem rev_pick (xs : Array Value) : ((List.range xs.size).filterMap fun (k : Nat) => xs[(((xs.size : Int) - 1) + (k : Int) * (-1)).toNat]?).toArray = xs.toList.reverse.toArray := by
  have e : (List.range xs.size).filterMap (fun (k : Nat) => xs[(((xs.size : Int) - 1) + (k : Int) * (-1)).toNat]?) = ((List.range xs.size).map fun k => xs.size - 1 - k).filterMap (xs[·]?) := by
    rw [List.filterMap_map]
    refine congrArg (fun f => (List.range xs.size).filterMap f) (funext fun k => ?_)
    show _ = xs[xs.size - 1 - k]?
    by_cases z : xs.size = 0
    · have : ∀ i : Nat, xs[i]? = none := fun i => Array.getElem?_eq_none (by omega)
      rw [this, this]
    · rw [show (((xs.size : Int) - 1) + (k : Int) * (-1)).toNat = xs.size - 1 - k by omega]
  rw [e, PySem.W.krv_range, List.filterMap_reverse, PySem.W.krv_all]
theorem getItem_tuple_rev {t sl : Addr} {items : Array Value} {vs : Value} {Q : Value → Shared → Prop} (ht : IsTup s.heap t items) (hs : s.heap.IsSliceOf sl .none .none vs) (ps : IsPart vs (some (-1)))
    (h : Q (.ref s.heap.objs.size) { s with heap := s.heap.push { cls := .type "tuple", data := .seq items.toList.reverse.toArray } })
    (hz : items.size ≤ sizeLine) : wpAny (model prog w) A (getItem (.ref t) (.ref sl)) Q E s := by
  have fits : sizeOk (.seq items.toList.reverse.toArray) := by
    show items.toList.reverse.toArray.size ≤ sizeLine
    rw [List.size_toArray, List.length_reverse, Array.length_toList]
    exact hz
  obtain ⟨o, g, c, d⟩ := id hs
  have hT : s.TypeIs (.ref sl) "slice" := ⟨o, g, c⟩
  unfold getItem
  try with_reducible refine wpAny_holding ?_
  first | refine wpAny_bind (wpAny_pure ?_) | skip
  refine wpAny_bind (wpAny_sequenceKey ht.typeIs (by decide) ?_)
  refine wpAny_bind (wpAny_callSpecial?_slot (name := Str.ofString "__getitem__") ht.typeIs PyProof.Rows.slot_tuple_getitem
    (wpAny_call_entry PyProof.Rows.slot_tuple_getitem ht.typeIs entry_tuple_getitem ?_ (args_tuple_getitem _ _)))
  show wpAny _ _ (Builtin.Tuple.tupleItemsOf (.ref t) >>= _) _ _ s
  refine wpAny_bind (tupleItemsOf_ ht ?_)
  refine wpAny_bind (wpAny_typeOf hT ?_)
  rw [if_pos (by decide)]
  refine wpAny_bind (rev_applied hs ps ?_)
  show wpAny _ _ (if (((items.size : Int) - 1) == 0 && (-1 : Int) == 1 && items.size == items.size) = true then _ else _) _ _ s
  rw [if_neg (by rw [show ((-1 : Int) == 1) = false by decide, Bool.and_false, Bool.false_and]; exact Bool.false_ne_true), rev_pick]
  first
    | exact wpAny_bind (m := Builtin.Tuple.tupleExact _) (wpAny_newObj_type (wpAny_pure ⟨_, rfl, wpAny_pure h⟩) fits)
    | exact wpAny_bind (m := Builtin.Tuple.tupleExact _) (wpAny_newObj_type (wpAny_bind (wpAny_pure (wpAny_pure ⟨_, rfl, wpAny_pure h⟩))) fits)
    | exact wpAny_bind (wpAny_bind (m := Builtin.Tuple.tupleExact _) (wpAny_newObj_type (wpAny_pure (wpAny_pure ⟨_, rfl, wpAny_pure h⟩)) fits))
    | exact wpAny_bind (wpAny_bind (m := Builtin.Tuple.tupleExact _) (wpAny_newObj_type (wpAny_pure ⟨_, rfl, wpAny_pure h⟩) fits))
end
end HT
namespace J
open PySem PySem.Spec PyProof.Rows L2 M
def tRevT (te : TE) : TE := fun σ H Q => te σ H fun x H1 => ∃ (a : Addr) (xs : List V), x = .ref a ∧ H1 a = some (.tup xs) ∧ ∀ p, H1 p = none → Q (.ref p) (upd H1 p (.tup xs.reverse))
theorem pe_revT {X : Cx} {e : Expr} {te : TE} {k : Nat} {p1 p2 p3 pos : Pos} (he : PE X e te) : PE X (.Subscript e (.Slice none none (some (.UnaryOp .USub (.Constant (.int 1) k p1) p2)) p3) pos) (tRevT te) := by
  constructor
  intro pins s σ H Q I h
  apply Subscript_
  refine thn (he.run pins s σ H _ I h) fun v s1 r => ?_
  obtain ⟨x, H1, I1, rx, a, xs, rfl, ha, q⟩ := r
  cases (show v = Value.ref a from rx)
  apply wpAny_Slice
  refine thn (po_none.run pins s1 σ H1 (fun o G => o = none ∧ G = H1) I1 ⟨rfl, rfl⟩) fun va s2 r => ?_
  obtain ⟨a', G, I2, pa, ea, rfl⟩ := r
  subst ea
  refine thn (po_none.run pins s2 σ G (fun o G' => o = none ∧ G' = G) I2 ⟨rfl, rfl⟩) fun vb s3 r => ?_
  obtain ⟨b', G', I3, pb, eb, rfl⟩ := r
  subst eb
  have minus : PO X (some (.UnaryOp .USub (.Constant (.int 1) k p1) p2)) (tPart (tUn (rU fun i => .int (-i)) (tC (.int 1)))) := po_some (pe_un un_neg pe_int)
  refine thn (minus.run pins s3 σ G' (fun o F => o = some (-1) ∧ F = G') I3 ⟨1, rfl, -1, rfl, rfl, rfl⟩) fun vc s4 r => ?_
  obtain ⟨c', F, I4, pc, ec, rfl⟩ := r
  subst ec
  cases pa
  cases pb
  have I5 : Inv X pins σ F { s4 with heap := s4.heap.push { cls := .type "slice", data := .fields #[.none, .none, vc] } } := I4.kept (t' := s4.toks) fun b ob h => Heap.get?_push_of_some _ h
  obtain ⟨hz, its, r, ht⟩ := (show ObjOk X.prog X.w F (s4.heap.push { cls := .type "slice", data := .fields #[.none, .none, vc] }) a (.tup xs) from I5.hok a _ ha)
  have hl : its.toArray.size = xs.length := by rw [List.size_toArray]; exact r.length.symm
  refine tail_any (ops := [.ref a, .ref s4.heap.objs.size]) ht.typeIs PyProof.Rows.slot_tuple_getitem.lookup ?_ (by with_unfolding_all rfl)
  refine HT.getItem_tuple_rev ht (Heap.IsSliceOf.new _ .none .none vc) pc ?_ (by rw [hl]; exact hz)
  refine ⟨.ref _, _, I5.laid (t' := s4.toks) (o := .tup xs.reverse) (fun b ob q => Heap.get?_push_of_some _ q) (Nat.le_refl _) ?_, rfl, q _ (I5.hok.fresh (Nat.le_refl _))⟩
  exact ⟨by rw [List.length_reverse]; exact hz, _, r.reverse, IsTup.new _ _⟩
end J
namespace K60
open PySem PySem.Spec PyProof.Rows L2 J M
local macro_rules | `(tactic| walk_at "hp") => `(tactic| first | assumption | exact upd_same | (rw [upd_ne (by assumption)]; walk_at "hp") | (rw [upd_ne (Ne.symm (by assumption))]; walk_at "hp"))
local macro_rules | `(tactic| walk_at "s") => `(tactic| first
  | ((with_reducible refine' r_var ?h ?k); (case h => exact rfl))
  | (with_reducible refine r_c ?_)
  | (with_reducible refine r_op ?_)
  | (with_reducible refine r_un ?_)
  | (with_reducible refine r_seq ?_)
  | (with_reducible refine r_next ?_)
  | (with_reducible refine r_sets ?_)
  | (with_reducible refine r_gname ?_)
  | (with_reducible refine r_ifS ?_)
  | (with_reducible refine r_gsub ?_)
  | (with_reducible refine r_test ?_)
  | (with_reducible refine r_tb ?_)
  | (with_reducible refine r_not ?_)
  | (with_reducible refine r_and ?_)
  | (with_reducible refine r_or ?_)
  | (with_reducible refine r_andV ?_)
  | (with_reducible refine r_orV ?_)
  | (with_reducible refine r_notV ?_)
  | (with_reducible refine r_ifE ?_)
  | (with_reducible refine r_chain ?_)
  | (with_reducible refine r_cb ?_)
  | (with_reducible refine r_cons ?_)
  | (with_reducible refine r_nil ?_)
  | (with_reducible refine r_call ?_)
  | (with_reducible refine r_lst ?_)
  | (with_reducible refine r_tup ?_)
  | (with_reducible refine r_slice ?_)
  | (with_reducible refine r_nop ?_)
  | (with_reducible refine r_part ?_)
  | (with_reducible refine r_bm ?_)
  | (with_reducible refine r_m1 ?_)
  | (with_reducible refine r_m0 ?_)
  | (with_reducible refine r_is ?_)
  | (with_reducible refine r_maxD ?_)
  | (with_reducible refine r_orT ?_)
  | (with_reducible refine r_truN ?_)
  | (with_reducible refine r_intI ?_)
  | (with_reducible refine r_intB ?_)
  | (with_reducible refine r_max2 ?_)
  | (with_reducible refine r_min2 ?_)
  | (with_reducible refine r_yes ?_)
  | (with_reducible refine r_bl ?_)
  | (with_reducible refine iteT ?_)
  | (with_reducible refine iteF ?_)
  | (with_reducible refine r_iteNT ?_)
  | (with_reducible refine r_iteNF ?_)
  | (with_reducible refine r_minL ?_)
  | (with_reducible refine r_gcons ?_)
  | (with_reducible refine r_gnil ?_)
  | (with_reducible refine r_par ?_)
  | (with_reducible refine r_par3 ?_)
  | (with_reducible refine r_is2 ?_)
  | (with_reducible refine r_is3 ?_)
  | (with_reducible refine r_dget ?_)
  | (with_reducible refine r_callS ?_)
  | (with_reducible refine r_rz ?_)
  | (with_reducible refine r_rev ?_)
  | (with_reducible refine r_isI ?_)
  | (with_reducible refine r_isStr ?_)
  | (with_reducible refine r_ret ?_)
  | (with_reducible refine r_drop ?_)
  | (with_reducible refine r_rI0 ?_)
  | (with_reducible refine r_addI ?_)
  | ((with_reducible show rI (fun _ j => 0 < j) _ (.int _) (.int _) _ _); refine r_rI (by first | omega | decide) ?_)
  | ((with_reducible show rI CDiv _ (.int _) (.int _) _ _); refine r_rI (by constructor <;> omega) ?_)
  | ((with_reducible show rI CPow _ (.int _) (.int _) _ _); refine r_rI (by refine ⟨by decide, by decide, ?_⟩; omega) ?_)
  | ((with_reducible show rMul (.int _) (.int _) _ _); refine r_mulI (cmulW (by omega) (by omega)) ?_)
  | (with_reducible refine r_cmpI ?_)
  | (with_reducible refine r_cmpS ?_)
  | (with_reducible refine r_eqI ?_)
  | (with_reducible refine r_neI ?_)
  | (with_reducible refine r_eqS ?_)
  | (with_reducible refine r_neS ?_)
  | (with_reducible refine r_inSF ?_)
  | (with_reducible refine r_inST ?_)
  | (with_reducible refine r_isiStr ?_)
  | ((with_reducible show rIx _ (.ref _) (.int _) _ _); refine' r_ixL (SqL.of ?h) ?e ?_; (case h => walk_at "hp"); (case e => rfl))
  | ((with_reducible show rSetL (.ref _) (.int _) _ _ _); refine' r_setL ?h ?e ?_; (case h => walk_at "hp"); (case e => rfl)))
local macro_rules | `(tactic| walk_at "g") => `(tactic| repeat walk_at "s")
local macro_rules | `(tactic| walk_at "x") => `(tactic| first | omega | decide +kernel | (simp only [List.length_cons, List.length_nil]; omega))
local macro_rules | `(tactic| walk_at "T") => `(tactic| repeat (first
  | walk_at "s"
  | ((with_reducible show rIx _ (.ref _) (.int _) _ _); refine' r_ixTu (SqT.of ?h) ?e ?_; (case h => first | assumption | walk_at "hp"); (case e => rfl))
  | (with_reducible refine r_lenSet ?_)
  | (with_reducible refine r_asg2 ?_)
  | (with_reducible refine iteDT (by walk_at "x") ?_)
  | (with_reducible refine iteDF (by walk_at "x") ?_)
  | (with_reducible refine iteNT (by walk_at "x") ?_)
  | (with_reducible refine iteNF (by walk_at "x") ?_)))
section
variable {P : Program} {w : World} {K : PySem.W.Frag} {mg : Str → Option Value} {base : Heap}
theorem ok_kinds (T : Tx K mg) {f f_law_take f_law_names : Addr} {fd fd_law_take fd_law_names : FuncData} (F : Fun K "_law_kinds" "_law_kinds" s_law_kinds f fd)
    (D_law_take : DAt K mg "_law_take" s_law_take P_law_take f_law_take fd_law_take)
    (D_law_names : DAt K mg "_law_names" s_law_names P_law_names f_law_names fd_law_names) : FnOk P w K mg base CX0 3 f fd P_law_kinds spKinds60 := by
  have G_law_take : FnOk P w K mg base CX0 1 f_law_take fd_law_take P_law_take spTake := ok_take D_law_take.fn
  have G_law_names : FnOk P w K mg base CX0 2 f_law_names fd_law_names P_law_names spNames60 := ok_names T D_law_names.fn D_law_take
  refine F.ok sc_law_kinds (fun vs H Q E h => ?_) (fun cdv A outer s H vs Q E hr h => ?_)
  · obtain ⟨b, n, rfl, _⟩ := h
    rfl
  · obtain ⟨b, n, rfl, hb, hn, k⟩ := h
    refine ⟨_, (pss_cons (ps_par (i := 1) (j := 2) rfl sc_law_kinds.nd rfl rfl (by decide) rfl rfl (pa_cons (pe_op L2.op_sub (pe_call G_law_take (hr.mono (by decide)) rfl D_law_take.gl D_law_take.fn.kp D_law_take.bd .nil pass0 (pa_cons (pv 0) (pa_cons pe_int pa_nil))) pe_int) (pa_cons (pe_call G_law_take (hr.mono (by decide)) rfl D_law_take.gl D_law_take.fn.kp D_law_take.bd .nil pass0 (pa_cons (pv 0) (pa_cons pe_int pa_nil))) pa_nil)) rfl) (pss_cons (ps_set (i := 3) sc_law_kinds.nd rfl (Or.inl rfl) (pe_callTy (call_tupA : CallR _ _ (rTupOf K)) (by rfl) T.z_tuple (by decide +kernel) (pa_cons (pe_call G_law_names (hr.mono (by decide)) rfl D_law_names.gl D_law_names.fn.kp D_law_names.bd .nil pass0 (pa_cons (pv 0) (pa_cons (pe_op (oAdd : OpR _ _ (J.rAdd K)) pe_int (pe_call G_law_take (hr.mono (by decide)) rfl D_law_take.gl D_law_take.fn.kp D_law_take.bd .nil pass0 (pa_cons (pv 0) (pa_cons pe_int pa_nil)))) (pa_cons pe_int pa_nil)))) pa_nil))) (pss_cons (ps_set (i := 4) sc_law_kinds.nd rfl (Or.inl rfl) (pe_lst (pa_cons (pe_tup (pa_cons pe_str (pa_cons (pv 1) (pa_cons (pe_op (oAdd : OpR _ _ (J.rAdd K)) (pv 1) (pv 2)) pa_nil)))) (pa_cons (pe_tup (pa_cons pe_str (pa_cons (pv 1) (pa_cons (pe_op (oAdd : OpR _ _ (J.rAdd K)) (pe_op (oAdd : OpR _ _ (J.rAdd K)) (pv 1) (pv 2)) pe_int) pa_nil)))) (pa_cons (pe_tup (pa_cons pe_str (pa_cons (pe_op L2.op_sub (pv 1) pe_int) (pa_cons (pe_op (oAdd : OpR _ _ (J.rAdd K)) (pv 1) (pv 2)) pa_nil)))) (pa_cons (pe_tup (pa_cons pe_str pa_nil)) pa_nil)))))) (pss_cons (ps_set (i := 4) sc_law_kinds.nd rfl (Or.inl rfl) (pe_op (oAdd : OpR _ _ (J.rAdd K)) (pv 4) (pe_lst (pa_cons (pe_tup (pa_cons pe_str (pa_cons (pv 3) pa_nil))) (pa_cons (pe_tup (pa_cons pe_str (pa_cons (pe_revT (pv 3)) pa_nil))) (pa_cons (pe_tup (pa_cons pe_str (pa_cons (asOrT (K := K) rfl (pe_orT (pe_slice (sl_tup : SlR _ (rSlT K)) (pv 3) (po_some pe_int) po_none) (pe_one (pe_tup (pa_cons pe_str pa_nil))))) pa_nil))) (pa_cons (pe_tup (pa_cons pe_str (pa_cons pe_str pa_nil))) (pa_cons (pe_tup (pa_cons pe_str (pa_cons pe_str pa_nil))) pa_nil)))))))) (pss_cons (ps_set (i := 5) sc_law_kinds.nd rfl (Or.inl rfl) (pe_op (oAdd : OpR _ _ (J.rAdd K)) pe_int (pe_call G_law_take (hr.mono (by decide)) rfl D_law_take.gl D_law_take.fn.kp D_law_take.bd .nil pass0 (pa_cons (pv 0) (pa_cons pe_int pa_nil))))) (pss_one (ps_ret (pe_tup (pa_cons (pe_op (oAdd : OpR _ _ (J.rAdd K)) (pv 4) (pe_lst (pa_cons (pe_tup (pa_cons pe_str (pa_cons (pv 5) pa_nil))) (pa_cons (pe_tup (pa_cons pe_str (pa_cons (pe_op (oAdd : OpR _ _ (J.rAdd K)) (pe_op L2.op_mod (pv 5) pe_int) pe_int) pa_nil))) (pa_cons (pe_tup (pa_cons pe_str (pa_cons pe_str pa_nil))) (pa_cons (pe_tup (pa_cons pe_str (pa_cons (pv 1) (pa_cons (pe_op (oAdd : OpR _ _ (J.rAdd K)) (pv 1) (pv 2)) pa_nil)))) pa_nil)))))) (pa_cons (pv 3) pa_nil)))))))))), ?_⟩
    rename L2.Hp => H0
    walk_at "T"
    have st0 : Std H0 H0 b n [] := ⟨Keep.refl b H0, hb, fun _ h => nomatch h⟩
    refine ⟨b, _, n, rfl, st0.bx, by omega, by omega, by omega, fun x H1 x0 x1 kp1 hb1 => ?_⟩
    have st1 := st0.draw kp1 hb1
    walk_at "T"
    refine ⟨b, _, n + 1, rfl, st1.bx, by omega, by omega, by omega, fun mo H2 mo0 mo1 kp2 hb2 => ?_⟩
    have st2 := st1.draw kp2 hb2
    walk_at "T"
    refine ⟨b, _, n + 1 + 1, rfl, st2.bx, by omega, by omega, by omega, fun y H3 y0 y1 kp3 hb3 => ?_⟩
    have st3 := st2.draw kp3 hb3
    walk_at "T"
    obtain ⟨q, hq⟩ : ∃ q : Nat, 1 + y = (q : Nat) := ⟨(1 + y).toNat, by omega⟩
    rw [hq]
    refine ⟨b, q, n + 1 + 1 + 1, rfl, by omega, by omega, st3.bx, by omega, fun H4 p4 ns kp4 hb4 hp4 e4 nok => ?_⟩
    have st4 := st3.add kp4 hb4 hp4 e4
    walk_at "T"
    refine ⟨p4, _, rfl, .inl ⟨SqL.of e4, fun nt hnt => ?_⟩⟩
    have st5 := st4.new hnt (.tup (ns.map wV))
    generalize upd H4 nt (.tup (ns.map wV)) = H5 at st5 ⊢
    walk_at "T"
    obtain ⟨lo, hlo⟩ : ∃ lo : Int, x - 4 = lo := ⟨_, rfl⟩
    rw [hlo]
    refine ⟨show 3 ≤ sizeLine by decide, fun t1 ht1 => ?_⟩
    have st6 := st5.new ht1 (.tup [.str "number", .int lo, .int (lo + mo)])
    generalize upd H5 t1 (.tup [.str "number", .int lo, .int (lo + mo)]) = H6 at st6 ⊢
    walk_at "T"
    refine ⟨show 3 ≤ sizeLine by decide, fun t2 ht2 => ?_⟩
    have st7 := st6.new ht2 (.tup [.str "number", .int lo, .int (lo + mo + 1)])
    generalize upd H6 t2 (.tup [.str "number", .int lo, .int (lo + mo + 1)]) = H7 at st7 ⊢
    walk_at "T"
    refine ⟨show 3 ≤ sizeLine by decide, fun t3 ht3 => ?_⟩
    have st8 := st7.new ht3 (.tup [.str "number", .int (lo - 1), .int (lo + mo)])
    generalize upd H7 t3 (.tup [.str "number", .int (lo - 1), .int (lo + mo)]) = H8 at st8 ⊢
    walk_at "T"
    refine ⟨show 1 ≤ sizeLine by decide, fun t4 ht4 => ?_⟩
    have st9 := st8.new ht4 (.tup [.str "name"])
    generalize upd H8 t4 (.tup [.str "name"]) = H9 at st9 ⊢
    walk_at "T"
    refine ⟨show 4 ≤ sizeLine by decide, fun l1 hl1 => ?_⟩
    have st10 := st9.new hl1 (.lst [.ref t1, .ref t2, .ref t3, .ref t4])
    generalize upd H9 l1 (.lst [.ref t1, .ref t2, .ref t3, .ref t4]) = H10 at st10 ⊢
    walk_at "T"
    refine ⟨show 2 ≤ sizeLine by decide, fun t5 ht5 => ?_⟩
    have st11 := st10.new ht5 (.tup [.str "one", .ref nt])
    generalize upd H10 t5 (.tup [.str "one", .ref nt]) = H11 at st11 ⊢
    walk_at "T"
    refine ⟨.ref nt, rfl, nt, _, rfl, st11.get 6 rfl, fun r hr => ?_⟩
    have st12 := st11.new hr (.tup (ns.map wV).reverse)
    generalize upd H11 r (.tup (ns.map wV).reverse) = H12 at st12 ⊢
    walk_at "T"
    refine ⟨show 2 ≤ sizeLine by decide, fun t6 ht6 => ?_⟩
    have st13 := st12.new ht6 (.tup [.str "one", .ref r])
    generalize upd H12 t6 (.tup [.str "one", .ref r]) = H13 at st13 ⊢
    walk_at "T"
    refine r_tailOr (nt := nt) (ns := ns) (st13.get 8 rfl) (by rw [nok.1]; omega) fun z H14 sz hz ez => ?_
    have st14 := st13.add (Keep.same sz) (st13.bx.same sz) hz ez
    walk_at "T"
    refine ⟨show 2 ≤ sizeLine by decide, fun t7 ht7 => ?_⟩
    have st15 := st14.new ht7 (.tup [.str "one", .ref z])
    generalize upd H14 t7 (.tup [.str "one", .ref z]) = H15 at st15 ⊢
    walk_at "T"
    refine ⟨show 2 ≤ sizeLine by decide, fun t8 ht8 => ?_⟩
    have st16 := st15.new ht8 (.tup [.str "own", .str "w"])
    generalize upd H15 t8 (.tup [.str "own", .str "w"]) = H16 at st16 ⊢
    walk_at "T"
    refine ⟨show 2 ≤ sizeLine by decide, fun t9 ht9 => ?_⟩
    have st17 := st16.new ht9 (.tup [.str "own", .str "o"])
    generalize upd H16 t9 (.tup [.str "own", .str "o"]) = H17 at st17 ⊢
    walk_at "T"
    refine ⟨show 5 ≤ sizeLine by decide, fun l2 hl2 => ?_⟩
    have st18 := st17.new hl2 (.lst [.ref t5, .ref t6, .ref t7, .ref t8, .ref t9])
    generalize upd H17 l2 (.lst [.ref t5, .ref t6, .ref t7, .ref t8, .ref t9]) = H18 at st18 ⊢
    walk_at "T"
    refine r_cat (st18.get 8 rfl) (st18.get 0 rfl) (show 4 + 5 ≤ 16777216 by decide) fun l3 hl3 => ?_
    have st19 := st18.new hl3 (.lst ([.ref t1, .ref t2, .ref t3, .ref t4] ++ [.ref t5, .ref t6, .ref t7, .ref t8, .ref t9]))
    generalize upd H18 l3 (.lst ([.ref t1, .ref t2, .ref t3, .ref t4] ++ [.ref t5, .ref t6, .ref t7, .ref t8, .ref t9])) = H19 at st19 ⊢
    walk_at "T"
    refine ⟨b, _, n + 1 + 1 + 1 + 17, rfl, st19.bx, by omega, by omega, by omega, fun m H20 m0 m1 kp20 hb20 => ?_⟩
    have st20 := st19.draw kp20 hb20
    walk_at "T"
    obtain ⟨mm, hmm⟩ : ∃ mm : Int, 1 + m = mm := ⟨_, rfl⟩
    rw [hmm]
    walk_at "T"
    refine ⟨show 2 ≤ sizeLine by decide, fun u1 hu1 => ?_⟩
    have st21 := st20.new hu1 (.tup [.str "text", .int mm])
    generalize upd H20 u1 (.tup [.str "text", .int mm]) = H21 at st21 ⊢
    walk_at "T"
    refine ⟨show 2 ≤ sizeLine by decide, fun u2 hu2 => ?_⟩
    have st22 := st21.new hu2 (.tup [.str "text", .int (mm % 20 + 1)])
    generalize upd H21 u2 (.tup [.str "text", .int (mm % 20 + 1)]) = H22 at st22 ⊢
    walk_at "T"
    refine ⟨show 2 ≤ sizeLine by decide, fun u3 hu3 => ?_⟩
    have st23 := st22.new hu3 (.tup [.str "own", .str "e"])
    generalize upd H22 u3 (.tup [.str "own", .str "e"]) = H23 at st23 ⊢
    walk_at "T"
    refine ⟨show 3 ≤ sizeLine by decide, fun u4 hu4 => ?_⟩
    have st24 := st23.new hu4 (.tup [.str "number", .int lo, .int (lo + mo)])
    generalize upd H23 u4 (.tup [.str "number", .int lo, .int (lo + mo)]) = H24 at st24 ⊢
    walk_at "T"
    refine ⟨show 4 ≤ sizeLine by decide, fun l4 hl4 => ?_⟩
    have st25 := st24.new hl4 (.lst [.ref u1, .ref u2, .ref u3, .ref u4])
    generalize upd H24 l4 (.lst [.ref u1, .ref u2, .ref u3, .ref u4]) = H25 at st25 ⊢
    walk_at "T"
    refine r_cat (st25.get 5 rfl) (st25.get 0 rfl) (show 9 + 4 ≤ 16777216 by decide) fun l5 hl5 => ?_
    have st26 := st25.new hl5 (.lst (([.ref t1, .ref t2, .ref t3, .ref t4] ++ [.ref t5, .ref t6, .ref t7, .ref t8, .ref t9]) ++ [.ref u1, .ref u2, .ref u3, .ref u4]))
    generalize upd H25 l5 (.lst (([.ref t1, .ref t2, .ref t3, .ref t4] ++ [.ref t5, .ref t6, .ref t7, .ref t8, .ref t9]) ++ [.ref u1, .ref u2, .ref u3, .ref u4])) = H26 at st26 ⊢
    walk_at "T"
    refine ⟨show 2 ≤ sizeLine by decide, fun pp hpp => ?_⟩
    have stp := st26.new hpp (.tup [.ref l5, .ref nt])
    refine k _ pp l5 nt _ lo mo ns mm stp.kp (stp.bx.mono (by omega)) (st26.free hpp) (st25.free hl5) (st4.free hnt) (stp.get 0 rfl) (stp.get 1 rfl) (stp.get 21 rfl) ?_ ⟨by omega, by omega, by omega, by omega, by omega, by omega, by rw [nok.1]; omega, by rw [nok.1]; omega, nok.2.2, nok.2.1⟩
    exact .cons (stp.get 20 rfl) (.cons (stp.get 19 rfl) (.cons (stp.get 18 rfl) (.cons (stp.get 17 rfl) (.cons ⟨nt, (stp.get 15 rfl), (stp.get 21 rfl)⟩ (.cons ⟨r, (stp.get 13 rfl), by rw [List.map_reverse]; exact (stp.get 14 rfl)⟩ (.cons ⟨z, (stp.get 11 rfl), (stp.get 12 rfl)⟩ (.cons (stp.get 10 rfl) (.cons (stp.get 9 rfl) (.cons (stp.get 6 rfl) (.cons (stp.get 5 rfl) (.cons (stp.get 4 rfl) (.cons (stp.get 3 rfl) .nil))))))))))))
end
end K60
/-! what reprs of plain things tell apart; sorted texts -/
namespace J
open PySem PySem.Spec PyProof.Rows M PySem.Builtin PySem.Builtin.Str
/-- plain signs: no quote, no stroke, no comma -/
def Pl (l : List Nat) : Prop := ∀ c ∈ l, c = 32 ∨ c = 45 ∨ (48 ≤ c ∧ c ≤ 57) ∨ (65 ≤ c ∧ c ≤ 90) ∨ (97 ≤ c ∧ c ≤ 122)
theorem pl_all : ∀ c : Nat, c < 127 → (c = 32 ∨ c = 45 ∨ (48 ≤ c ∧ c ≤ 57) ∨ (65 ≤ c ∧ c ≤ 90) ∨ (97 ≤ c ∧ c ≤ 122)) → reprChar 39 c = [c] := by decide +kernel
theorem repr_pl {l : List Nat} (h : Pl l) : cd (reprText (S l)) = 39 :: (l ++ [39]) := by
  have q : reprQuote (S l) = 39 := by
    unfold reprQuote
    rw [if_neg]
    intro z
    rw [Bool.and_eq_true] at z
    have z := z.1
    have : 39 ∈ l := by simpa [S] using z
    rcases h 39 this with a | a | a | a | a <;> omega
  have f : ∀ (m : List Nat) (acc : Array Nat), Pl m → (m.foldl (fun out c => out ++ (reprChar 39 c).toArray) acc).toList = acc.toList ++ m := by
    intro m
    induction m with
    | nil => intro acc _; simp
    | cons c r ih =>
      intro acc hp
      rw [List.foldl_cons, ih _ fun d hd => hp d (List.mem_cons_of_mem _ hd)]
      have hc := hp c (List.mem_cons_self ..)
      rw [pl_all c (by omega) hc]
      simp
  unfold reprText
  rw [q]
  show (Array.push (Array.foldl (fun out c => out ++ (reprChar 39 c).toArray) #[39] l.toArray) 39).toList = _
  rw [Array.toList_push, List.foldl_toArray, f l _ h]
  rfl
/-! ### joined by commas -/
def jc : List (List Nat) → List Nat
  | [] => []
  | [x] => x
  | x :: y :: r => x ++ 44 :: 32 :: jc (y :: r)
theorem cd_join : ∀ xs : List Str, cd (Str.join (Str.ofString ", ") xs) = jc (xs.map cd)
  | [] => by decide +kernel
  | [x] => rfl
  | x :: y :: r => by
    show cd (x ++ Str.ofString ", " ++ Str.join (Str.ofString ", ") (y :: r)) = _
    rw [cd_app, cd_app, cd_join (y :: r), show cd (Str.ofString ", ") = [44, 32] by decide +kernel]
    simp [jc]
theorem cut_comma : ∀ {x y r s : List Nat}, 44 ∉ x → 44 ∉ y → x ++ 44 :: r = y ++ 44 :: s → x = y ∧ r = s
  | [], [], _, _, _, _, h => ⟨rfl, by simpa using h⟩
  | [], c :: y, _, _, _, hy, h => by
    injection h with h _
    exact absurd (h ▸ List.mem_cons_self ..) hy
  | c :: x, [], _, _, hx, _, h => by
    injection h with h _
    exact absurd (h ▸ List.mem_cons_self ..) hx
  | c :: x, d :: y, _, _, hx, hy, h => by
    injection h with h1 h2
    obtain ⟨a, b⟩ := cut_comma (fun m => hx (List.mem_cons_of_mem _ m)) (fun m => hy (List.mem_cons_of_mem _ m)) h2
    exact ⟨by rw [h1, a], b⟩
theorem jc_inj : ∀ {xs ys : List (List Nat)}, (∀ x ∈ xs, 44 ∉ x ∧ x ≠ []) → (∀ y ∈ ys, 44 ∉ y ∧ y ≠ []) → jc xs = jc ys → xs = ys
  | [], [], _, _, _ => rfl
  | [], [y], _, hy, h => absurd h.symm (hy y (List.mem_cons_self ..)).2
  | [], y :: z :: r, _, _, h => by
    have h : [] = y ++ 44 :: 32 :: jc (z :: r) := h
    have := congrArg List.length h
    simp at this
  | [x], [], hx, _, h => absurd h (hx x (List.mem_cons_self ..)).2
  | x :: z :: r, [], _, _, h => by
    have h : x ++ 44 :: 32 :: jc (z :: r) = [] := h
    have := congrArg List.length h
    simp at this
  | [x], [y], _, _, h => by
    have h : x = y := h
    rw [h]
  | [x], y :: z :: r, hx, _, h => by
    have h : x = y ++ 44 :: 32 :: jc (z :: r) := h
    exact absurd (h ▸ List.mem_append_right _ (List.mem_cons_self ..)) (hx x (List.mem_cons_self ..)).1
  | x :: z :: r, [y], _, hy, h => by
    have h : x ++ 44 :: 32 :: jc (z :: r) = y := h
    exact absurd (h ▸ List.mem_append_right _ (List.mem_cons_self ..)) (hy y (List.mem_cons_self ..)).1
  | x :: z :: r, y :: w :: s, hx, hy, h => by
    have h : x ++ 44 :: 32 :: jc (z :: r) = y ++ 44 :: 32 :: jc (w :: s) := h
    obtain ⟨a, b⟩ := cut_comma (hx x (List.mem_cons_self ..)).1 (hy y (List.mem_cons_self ..)).1 h
    injection b with _ b
    rw [a, jc_inj (fun q m => hx q (List.mem_cons_of_mem _ m)) (fun q m => hy q (List.mem_cons_of_mem _ m)) b]
/-! ### leaves -/
inductive Leaf : PyData → Prop where
  | non : Leaf .none
  | int (i : Int) : Leaf (.int i)
  | str {l : List Nat} (h : Pl l) : Leaf (.str (S l))
theorem shown_int' (i : Int) : cd (PyData.int i).shown = dec i := by rw [PyData.shown_int]; exact cd_toString i
theorem shown_none' : cd (PyData.none).shown = [78, 111, 110, 101] := by decide +kernel
theorem shown_str' {l : List Nat} (h : Pl l) : cd (PyData.str (S l)).shown = 39 :: (l ++ [39]) := by rw [PyData.shown_str]; exact repr_pl h
theorem dec_sg2 (i : Int) : ∃ c r, dec i = c :: r ∧ (c = 45 ∨ (48 ≤ c ∧ c ≤ 57)) ∧ ∀ d ∈ r, 48 ≤ d ∧ d ≤ 57 := by
  have ad : ∀ n, ∃ c r, D n = c :: r ∧ (48 ≤ c ∧ c ≤ 57) ∧ ∀ d ∈ r, 48 ≤ d ∧ d ≤ 57 := fun n => by
    have h := D_digits n
    cases e : D n with
    | nil => exact absurd e (D_ne n)
    | cons c r =>
      rw [e] at h
      have k : ∀ d ∈ c :: r, 48 ≤ d ∧ d ≤ 57 := fun d hd => by have := h d hd; omega
      exact ⟨c, r, rfl, k c (List.mem_cons_self ..), fun d hd => k d (List.mem_cons_of_mem _ hd)⟩
  unfold dec
  split
  · obtain ⟨c, r, e, h1, h2⟩ := ad i.natAbs
    refine ⟨45, D i.natAbs, rfl, .inl rfl, fun d hd => ?_⟩
    rw [e] at hd
    rcases List.mem_cons.mp hd with rfl | hd
    · exact h1
    · exact h2 d hd
  · obtain ⟨c, r, e, h1, h2⟩ := ad i.natAbs
    exact ⟨c, r, e, .inr h1, h2⟩
theorem dec_inj {i j : Int} (h : dec i = dec j) : i = j := by
  have a := (numV_some (l := dec i) (n := i)).mpr rfl
  have b := (numV_some (l := dec i) (n := j)).mpr h
  rw [a] at b
  exact Option.some.inj b
theorem pl_dec (i : Int) : Pl (dec i) := fun d hd => by
  obtain ⟨c, r, e, h1, h2⟩ := dec_sg2 i
  rw [e] at hd
  rcases List.mem_cons.mp hd with rfl | hd
  · omega
  · have := h2 d hd; omega
theorem no_comma {l : List Nat} (h : Pl l) : 44 ∉ l := fun m => by rcases h 44 m with a | a | a | a | a <;> omega
theorem Leaf.ok {d : PyData} (h : Leaf d) : 44 ∉ cd d.shown ∧ cd d.shown ≠ [] := by
  cases h with
  | non => rw [shown_none']; exact ⟨by decide, by decide⟩
  | int i =>
    rw [shown_int']
    refine ⟨no_comma (pl_dec i), ?_⟩
    obtain ⟨c, r, e, _⟩ := dec_sg2 i
    rw [e]; exact fun z => nomatch z
  | str h =>
    rw [shown_str' h]
    refine ⟨fun m => ?_, fun z => nomatch z⟩
    rcases List.mem_cons.mp m with z | m
    · omega
    · rcases List.mem_append.mp m with m | m
      · exact no_comma h m
      · have := List.mem_singleton.mp m; omega
theorem Leaf.inj {d e : PyData} (h : Leaf d) (k : Leaf e) (q : cd d.shown = cd e.shown) : d = e := by
  cases h with
  | non =>
    rw [shown_none'] at q
    cases k with
    | non => rfl
    | int i =>
      rw [shown_int'] at q
      obtain ⟨c, r, e, h1, _⟩ := dec_sg2 i
      rw [e] at q
      injection q with q _
      omega
    | str k =>
      rw [shown_str' k] at q
      injection q with q _
      omega
  | int i =>
    rw [shown_int'] at q
    obtain ⟨c, r, e, h1, _⟩ := dec_sg2 i
    cases k with
    | non =>
      rw [shown_none', e] at q
      injection q with q _
      omega
    | int j =>
      rw [shown_int'] at q
      rw [dec_inj q]
    | str k =>
      rw [shown_str' k, e] at q
      injection q with q _
      omega
  | @str l h =>
    rw [shown_str' h] at q
    cases k with
    | non =>
      rw [shown_none'] at q
      injection q with q _
      omega
    | int j =>
      obtain ⟨c, r, e, h1, _⟩ := dec_sg2 j
      rw [shown_int', e] at q
      injection q with q _
      omega
    | str k =>
      rw [shown_str' k] at q
      injection q with _ q
      rw [List.append_cancel_right q]
theorem all_cdS (ds : List PyData) : (PyData.shownAll ds).map cd = ds.map fun d => cd d.shown := by
  induction ds with
  | nil => rw [PyData.shownAll_nil]; rfl
  | cons d r ih => rw [PyData.shownAll_cons, List.map_cons, List.map_cons, ih]
theorem leaves_inj : ∀ {ds es : List PyData}, (∀ d ∈ ds, Leaf d) → (∀ d ∈ es, Leaf d) → (ds.map fun d => cd d.shown) = (es.map fun d => cd d.shown) → ds = es
  | [], [], _, _, _ => rfl
  | [], _ :: _, _, _, h => by cases h
  | _ :: _, [], _, _, h => by cases h
  | d :: ds, e :: es, h, k, q => by
    rw [List.map_cons, List.map_cons] at q
    injection q with q1 q2
    rw [(h d (List.mem_cons_self ..)).inj (k e (List.mem_cons_self ..)) q1, leaves_inj (fun x m => h x (List.mem_cons_of_mem _ m)) (fun x m => k x (List.mem_cons_of_mem _ m)) q2]
theorem jc_leaves {ds es : List PyData} (h : ∀ d ∈ ds, Leaf d) (k : ∀ d ∈ es, Leaf d) (q : jc (ds.map fun d => cd d.shown) = jc (es.map fun d => cd d.shown)) : ds = es :=
  leaves_inj h k (jc_inj (fun x m => by obtain ⟨d, hd, rfl⟩ := List.mem_map.mp m; exact (h d hd).ok) (fun x m => by obtain ⟨d, hd, rfl⟩ := List.mem_map.mp m; exact (k d hd).ok) q)
theorem cd_list (ds : List PyData) : cd (PyData.list ds).shown = 91 :: (jc (ds.map fun d => cd d.shown) ++ [93]) := by
  rw [PyData.shown_list, cd_app, cd_app, cd_join, all_cdS]
  rfl
theorem cd_tup (ds : List PyData) : cd (PyData.tuple ds).shown = 40 :: (jc (ds.map fun d => cd d.shown) ++ (if ds.length = 1 then [44, 41] else [41])) := by
  rw [PyData.shown_tuple, cd_app, cd_app, cd_join, all_cdS]
  by_cases c : ds.length = 1
  · rw [if_pos c, if_pos (by rw [c]; rfl)]; rfl
  · rw [if_neg c, if_neg (by simpa using c)]; rfl
theorem list_inj {ds es : List PyData} (h : ∀ d ∈ ds, Leaf d) (k : ∀ d ∈ es, Leaf d) (q : (PyData.list ds).shown = (PyData.list es).shown) : ds = es := by
  have q := str_eq.mp q
  rw [cd_list, cd_list] at q
  injection q with _ q
  exact jc_leaves h k (List.append_cancel_right q)
theorem jc_comma : ∀ {xs : List (List Nat)}, (∀ x ∈ xs, 44 ∉ x) → xs.length ≠ 1 → ∀ {y : List Nat}, 44 ∉ y → y ≠ [] → jc xs ≠ y ++ [44]
  | [], _, _, y, _, _, e => by
    have := congrArg List.length e
    simp [jc] at this
  | [_], _, h, _, _, _, _ => absurd rfl h
  | [x, z], h, _, y, hy, _, e => by
    have e : x ++ 44 :: (32 :: z) = y ++ 44 :: [] := e
    exact nomatch (cut_comma (h x (List.mem_cons_self ..)) hy e).2
  | x :: z :: w :: r, h, _, y, hy, _, e => by
    have e : x ++ 44 :: (32 :: jc (z :: w :: r)) = y ++ 44 :: [] := e
    exact nomatch (cut_comma (h x (List.mem_cons_self ..)) hy e).2
theorem tup_inj {ds es : List PyData} (h : ∀ d ∈ ds, Leaf d) (k : ∀ d ∈ es, Leaf d) (q : cd (PyData.tuple ds).shown = cd (PyData.tuple es).shown) : ds = es := by
  rw [cd_tup, cd_tup] at q
  injection q with _ q
  have one : ∀ {ds : List PyData} (h : ∀ d ∈ ds, Leaf d), ds.length = 1 → 44 ∉ jc (ds.map fun d => cd d.shown) ∧ jc (ds.map fun d => cd d.shown) ≠ [] := fun {ds} h l => by
    match ds, l with
    | [d], _ => exact (h d (List.mem_cons_self ..)).ok
  have nc : ∀ {ds : List PyData} (h : ∀ d ∈ ds, Leaf d), ∀ x ∈ (ds.map fun d => cd d.shown), 44 ∉ x := fun h x m => by obtain ⟨d, hd, rfl⟩ := List.mem_map.mp m; exact (h d hd).ok.1
  by_cases c : ds.length = 1
  · by_cases c2 : es.length = 1
    · rw [if_pos c, if_pos c2] at q
      exact jc_leaves h k (List.append_cancel_right q)
    · rw [if_pos c, if_neg c2, show [44, 41] = [44] ++ [41] from rfl, ← List.append_assoc] at q
      have q := List.append_cancel_right q
      have o := one h c
      exact absurd q.symm (jc_comma (nc k) (by rw [List.length_map]; exact c2) o.1 o.2)
  · by_cases c2 : es.length = 1
    · rw [if_neg c, if_pos c2, show [44, 41] = [44] ++ [41] from rfl, ← List.append_assoc] at q
      have q := List.append_cancel_right q
      have o := one k c2
      exact absurd q (jc_comma (nc h) (by rw [List.length_map]; exact c) o.1 o.2)
    · rw [if_neg c, if_neg c2] at q
      exact jc_leaves h k (List.append_cancel_right q)
/-! ### tables -/
inductive Tb where
  | num (lo hi : Int)
  | nam
  | txt (n : Int)
  | wds (ys : List (List Nat))
def Tb.data : Tb → PyData
  | .num lo hi => .tuple [.str (S [110, 117, 109, 98, 101, 114]), .int lo, .int hi]
  | .nam => .tuple [.str (S [110, 97, 109, 101])]
  | .txt n => .tuple [.str (S [116, 101, 120, 116]), .int n]
  | .wds ys => .tuple [.str (S [119, 111, 114, 100, 115]), .tuple (ys.map fun y => .str (S y))]
def Tb.Ok : Tb → Prop
  | .wds ys => ∀ y ∈ ys, Pl y
  | _ => True
theorem pl_dec' {l : List Nat} (h : (l.all fun c => c == 32 || c == 45 || (decide (48 ≤ c) && decide (c ≤ 57)) || (decide (65 ≤ c) && decide (c ≤ 90)) || (decide (97 ≤ c) && decide (c ≤ 122))) = true) : Pl l := fun c hc => by
  have := List.all_eq_true.mp h c hc
  simp only [Bool.or_eq_true, Bool.and_eq_true, beq_iff_eq, decide_eq_true_eq] at this
  omega
theorem Tb.leaf {t : Tb} (h : ∀ ys, t ≠ .wds ys) : ∃ ds, t.data = .tuple ds ∧ ∀ d ∈ ds, Leaf d := by
  cases t with
  | num lo hi => exact ⟨_, rfl, fun d hd => by
      rcases List.mem_cons.mp hd with rfl | hd
      · exact .str (pl_dec' (by decide))
      · rcases List.mem_cons.mp hd with rfl | hd
        · exact .int _
        · rw [List.mem_singleton.mp hd]; exact .int _⟩
  | nam => exact ⟨_, rfl, fun d hd => by rw [List.mem_singleton.mp hd]; exact .str (pl_dec' (by decide))⟩
  | txt n => exact ⟨_, rfl, fun d hd => by
      rcases List.mem_cons.mp hd with rfl | hd
      · exact .str (pl_dec' (by decide))
      · rw [List.mem_singleton.mp hd]; exact .int _⟩
  | wds ys => exact absurd rfl (h ys)
theorem head_of {l : List Nat} (h : Pl l) (ds : List PyData) : ∃ s, cd (PyData.tuple (.str (S l) :: ds)).shown = 40 :: 39 :: (l ++ s) := by
  rw [cd_tup, List.map_cons, shown_str' h]
  cases ds with
  | nil => exact ⟨[39] ++ (if ([PyData.str (S l)] : List PyData).length = 1 then [44, 41] else [41]), by show 40 :: (39 :: (l ++ [39]) ++ _) = _; rw [List.cons_append, List.append_assoc]⟩
  | cons d r => exact ⟨39 :: 44 :: 32 :: (jc (cd d.shown :: r.map fun d => cd d.shown) ++ (if (PyData.str (S l) :: d :: r).length = 1 then [44, 41] else [41])), by
      show 40 :: ((39 :: (l ++ [39])) ++ 44 :: 32 :: jc (cd d.shown :: r.map fun d => cd d.shown) ++ _) = _
      rw [List.append_assoc, List.cons_append, List.append_assoc]
      rfl⟩
/-- how a table begins -/
theorem Tb.head (t : Tb) : ∃ r, cd t.data.shown = 40 :: 39 :: r ∧ ((∃ ys s, t = .wds ys ∧ r = 119 :: s) ∨ ((∀ ys, t ≠ .wds ys) ∧ ∃ c s, r = c :: s ∧ c ≠ 119)) := by
  cases t with
  | num lo hi =>
    obtain ⟨s, e⟩ := head_of (l := [110, 117, 109, 98, 101, 114]) (pl_dec' (by decide)) [.int lo, .int hi]
    exact ⟨_, e, .inr ⟨fun _ z => (nomatch z), 110, _, rfl, by decide⟩⟩
  | nam =>
    obtain ⟨s, e⟩ := head_of (l := [110, 97, 109, 101]) (pl_dec' (by decide)) []
    exact ⟨_, e, .inr ⟨fun _ z => (nomatch z), 110, _, rfl, by decide⟩⟩
  | txt n =>
    obtain ⟨s, e⟩ := head_of (l := [116, 101, 120, 116]) (pl_dec' (by decide)) [.int n]
    exact ⟨_, e, .inr ⟨fun _ z => (nomatch z), 116, _, rfl, by decide⟩⟩
  | wds ys =>
    obtain ⟨s, e⟩ := head_of (l := [119, 111, 114, 100, 115]) (pl_dec' (by decide)) [.tuple (ys.map fun y => .str (S y))]
    exact ⟨_, e, .inl ⟨ys, _, rfl, rfl⟩⟩
theorem map_str_inj : ∀ {a b : List (List Nat)}, (a.map fun y => PyData.str (S y)) = (b.map fun y => PyData.str (S y)) → a = b
  | [], [], _ => rfl
  | [], _ :: _, h => by cases h
  | _ :: _, [], h => by cases h
  | x :: a, y :: b, h => by
    rw [List.map_cons, List.map_cons] at h
    injection h with h1 h2
    injection h1 with h1
    rw [S_inj.mp h1, map_str_inj h2]
theorem Tb.inj {t u : Tb} (ht : t.Ok) (hu : u.Ok) (q : t.data.shown = u.data.shown) : t = u := by
  have q := str_eq.mp q
  obtain ⟨r, e1, h1⟩ := t.head
  obtain ⟨s, e2, h2⟩ := u.head
  have rs : r = s := by
    have := q
    rw [e1, e2] at this
    injection this with _ this
    injection this with _ this
  subst rs
  rcases h1 with ⟨ys, a, rfl, ea⟩ | ⟨n1, c, a, ea, nc⟩
  · rcases h2 with ⟨zs, b, rfl, eb⟩ | ⟨n2, c, b, eb, nc⟩
    · have w : ∀ (ys : List (List Nat)), cd (Tb.wds ys).data.shown = 40 :: (39 :: ([119, 111, 114, 100, 115] ++ [39])) ++ 44 :: 32 :: (cd (PyData.tuple (ys.map fun y => .str (S y))).shown ++ [41]) := fun ys => by
        show cd (PyData.tuple [_, _]).shown = _
        rw [cd_tup]
        show 40 :: (jc [cd (PyData.str (S [119, 111, 114, 100, 115])).shown, _] ++ _) = _
        rw [shown_str' (pl_dec' (by decide))]
        show 40 :: ((39 :: ([119, 111, 114, 100, 115] ++ [39])) ++ 44 :: 32 :: cd (PyData.tuple (ys.map fun y => .str (S y))).shown ++ [41]) = _
        rw [List.append_assoc]
        rfl
      rw [w, w] at q
      have q := List.append_cancel_left q
      injection q with _ q
      injection q with _ q
      have q := List.append_cancel_right q
      have lf : ∀ {ys : List (List Nat)}, (∀ y ∈ ys, Pl y) → ∀ d ∈ ys.map fun y => PyData.str (S y), Leaf d := fun h d hd => by
        obtain ⟨y, hy, rfl⟩ := List.mem_map.mp hd
        exact .str (h y hy)
      rw [map_str_inj (tup_inj (lf ht) (lf hu) q)]
    · rw [ea] at eb
      injection eb with eb _
      exact absurd eb.symm nc
  · rcases h2 with ⟨zs, b, rfl, eb⟩ | ⟨n2, c', b, eb, nc'⟩
    · rw [ea] at eb
      injection eb with eb _
      exact absurd eb nc
    · obtain ⟨ds, d1, d2⟩ := Tb.leaf n1
      obtain ⟨es, f1, f2⟩ := Tb.leaf n2
      rw [d1, f1] at q
      have e := tup_inj d2 f2 q
      subst e
      have e := d1.trans f1.symm
      cases t <;> cases u <;> first | rfl | (exact absurd rfl (n1 _)) | (exact absurd rfl (n2 _)) | (injection e with e; injection e with e _; injection e with e; exact absurd (S_inj.mp e) (by decide)) | (injection e with e; injection e with _ e; injection e with e1 e; injection e1 with e1; subst e1; first | rfl | (injection e with e _; injection e with e; subst e; rfl)) | skip
/-! ### sorted texts -/
theorem rising_pw : ∀ {ys : List Str} {p : Str}, risingS p ys = true → (p :: ys).Pairwise fun a b => cd a ≤ cd b
  | [], p, _ => List.pairwise_singleton _ _
  | y :: ys, p, h => by
    have h : (!ltCps y.cps.toList p.cps.toList && risingS y ys) = true := h
    rw [Bool.and_eq_true] at h
    obtain ⟨h1, h2⟩ := h
    have ih := rising_pw h2
    have py : cd p ≤ cd y := by
      rw [ltCps_eq] at h1
      have : ¬ (cd y < cd p) := by simpa using h1
      exact this
    refine List.pairwise_cons.mpr ⟨fun z hz => ?_, ih⟩
    rcases List.mem_cons.mp hz with rfl | hz
    · exact py
    · exact List.le_trans py ((List.pairwise_cons.mp ih).1 z hz)
theorem sorted_pw : ∀ {ys : List Str}, sortedS ys = true → ys.Pairwise fun a b => cd a ≤ cd b
  | [], _ => List.Pairwise.nil
  | _ :: _, h => rising_pw h
theorem sorted_uniq : ∀ {ys zs : List Str}, ys.Perm zs → (ys.Pairwise fun a b => cd a ≤ cd b) → (zs.Pairwise fun a b => cd a ≤ cd b) → ys = zs
  | [], zs, p, _, _ => (List.nil_perm.mp p).symm
  | y :: ys, zs, p, h, k => by
    cases zs with
    | nil => exact absurd p.length_eq (by simp)
    | cons z zs =>
      have e : y = z := by
        have m1 : y ∈ z :: zs := p.mem_iff.mp (List.mem_cons_self ..)
        have m2 : z ∈ y :: ys := p.mem_iff.mpr (List.mem_cons_self ..)
        rcases List.mem_cons.mp m1 with e | m1
        · exact e
        · rcases List.mem_cons.mp m2 with e | m2
          · exact e.symm
          · exact str_eq.mpr (List.le_antisymm ((List.pairwise_cons.mp h).1 z m2) ((List.pairwise_cons.mp k).1 y m1))
      subst e
      rw [sorted_uniq (List.perm_cons y |>.mp p) (List.pairwise_cons.mp h).2 (List.pairwise_cons.mp k).2]
end J
/-! tables are alike just where the worths of tried words are -/
namespace J
open PySem PySem.Spec PyProof.Rows L2 M
noncomputable def worthD (k : Kd) (ws : List (List Nat)) (l : List Nat) : PyData := match worthV k ws (.str (S l)) with
  | .int n => .int n
  | .str z => .str z
  | _ => .none
theorem numD_dec (n : Int) : numD (.str (S (dec n))) = .int n := by
  show optV (numV (cd (S (dec n)))) = _
  rw [cd_S, numV_some.mpr rfl]; rfl
theorem wd_in {lo hi n : Int} {ws : List (List Nat)} (h1 : lo ≤ n) (h2 : n ≤ hi) : worthD (.num lo hi) ws (dec n) = .int n := by
  have e : worthV (.num lo hi) ws (.str (S (dec n))) = .int n := by
    show (match numD (.str (S (dec n))) with | .int n => if lo ≤ n ∧ n ≤ hi then V.int n else .non | _ => .non) = _
    rw [numD_dec]
    show (if lo ≤ n ∧ n ≤ hi then V.int n else .non) = _
    rw [if_pos ⟨h1, h2⟩]
  unfold worthD
  rw [e]
theorem wd_out {lo hi n : Int} {ws : List (List Nat)} (h : ¬ (lo ≤ n ∧ n ≤ hi)) : worthD (.num lo hi) ws (dec n) = .none := by
  have e : worthV (.num lo hi) ws (.str (S (dec n))) = .non := by
    show (match numD (.str (S (dec n))) with | .int n => if lo ≤ n ∧ n ≤ hi then V.int n else .non | _ => .non) = _
    rw [numD_dec]
    show (if lo ≤ n ∧ n ≤ hi then V.int n else .non) = _
    rw [if_neg h]
  unfold worthD
  rw [e]
theorem wv_num (lo hi : Int) (ws : List (List Nat)) (l : List Nat) : worthV (.num lo hi) ws (.str (S l)) = .non ∨ ∃ n, worthV (.num lo hi) ws (.str (S l)) = .int n ∧ lo ≤ n ∧ n ≤ hi := by
  have e : worthV (.num lo hi) ws (.str (S l)) = (match optV (numV (cd (S l))) with | .int n => if lo ≤ n ∧ n ≤ hi then V.int n else .non | _ => .non) := rfl
  rw [e]
  cases numV (cd (S l)) with
  | none => exact .inl rfl
  | some n =>
    show (if lo ≤ n ∧ n ≤ hi then V.int n else .non) = _ ∨ ∃ k, (if lo ≤ n ∧ n ≤ hi then V.int n else .non) = .int k ∧ _
    by_cases c : lo ≤ n ∧ n ≤ hi
    · rw [if_pos c]; exact .inr ⟨n, rfl, c⟩
    · rw [if_neg c]; exact .inl rfl
def Kd.num? : Kd → Bool
  | .num _ _ => true
  | _ => false
theorem wv_fit {k : Kd} {ws : List (List Nat)} {l : List Nat} (nn : k.num? = false) (f : Fit ws (.str (S l)) k) : worthV k ws (.str (S l)) = .str (S l) := by
  cases k with
  | num lo hi => cases nn
  | _ => exact if_pos (dB_t f)
theorem wv_unfit {k : Kd} {ws : List (List Nat)} {l : List Nat} (nn : k.num? = false) (f : ¬ Fit ws (.str (S l)) k) : worthV k ws (.str (S l)) = .non := by
  cases k with
  | num lo hi => cases nn
  | _ => exact if_neg (by show ¬ (fitB _ _ _ = true); unfold fitB; rw [dB_f f]; exact Bool.false_ne_true)
theorem wd_fit {k : Kd} {ws : List (List Nat)} {l : List Nat} (nn : k.num? = false) (f : Fit ws (.str (S l)) k) : worthD k ws l = .str (S l) := by
  unfold worthD; rw [wv_fit nn f]
theorem wd_unfit {k : Kd} {ws : List (List Nat)} {l : List Nat} (nn : k.num? = false) (f : ¬ Fit ws (.str (S l)) k) : worthD k ws l = .none := by
  unfold worthD; rw [wv_unfit nn f]
theorem wd_noint {k : Kd} {ws : List (List Nat)} {l : List Nat} (nn : k.num? = false) (n : Int) : worthD k ws l ≠ .int n := by
  by_cases f : Fit ws (.str (S l)) k
  · rw [wd_fit nn f]; exact fun z => nomatch z
  · rw [wd_unfit nn f]; exact fun z => nomatch z
/-- what is told of a word, and what it is shown as -/
theorem wd_v (k : Kd) (ws : List (List Nat)) (l : List Nat) : (worthV k ws (.str (S l)) = .non ∧ worthD k ws l = .none) ∨ (∃ lo hi n, k = .num lo hi ∧ worthV k ws (.str (S l)) = .int n ∧ worthD k ws l = .int n ∧ lo ≤ n ∧ n ≤ hi) ∨ (worthV k ws (.str (S l)) = .str (S l) ∧ worthD k ws l = .str (S l)) := by
  have nonn : k.num? = false → (worthV k ws (.str (S l)) = .non ∧ worthD k ws l = .none) ∨ (worthV k ws (.str (S l)) = .str (S l) ∧ worthD k ws l = .str (S l)) := fun nn => by
    by_cases f : Fit ws (.str (S l)) k
    · exact .inr ⟨wv_fit nn f, wd_fit nn f⟩
    · exact .inl ⟨wv_unfit nn f, wd_unfit nn f⟩
  cases k with
  | num lo hi =>
    rcases wv_num lo hi ws l with e | ⟨n, e, h⟩
    · exact .inl ⟨e, by unfold worthD; rw [e]⟩
    · exact .inr (.inl ⟨lo, hi, n, rfl, e, by unfold worthD; rw [e], h⟩)
  | _ => exact (nonn rfl).imp id .inr
theorem fit_nam' {ws : List (List Nat)} {l : List Nat} : Fit ws (.str (S l)) .nam ↔ Nm l := ⟨fun ⟨z, e, h⟩ => by injection e with e; subst e; rwa [cd_S] at h, fun h => ⟨S l, rfl, by rw [cd_S]; exact h⟩⟩
theorem fit_txt' {n : Int} {ws : List (List Nat)} {l : List Nat} : Fit ws (.str (S l)) (.txt n) ↔ (l.length : Int) ≤ n ∧ Sg l := ⟨fun ⟨z, e, h1, h2⟩ => by injection e with e; subst e; rw [S_len] at h1; rw [cd_S] at h2; exact ⟨h1, h2⟩, fun ⟨h1, h2⟩ => ⟨S l, rfl, by rw [S_len]; exact h1, by rw [cd_S]; exact h2⟩⟩
theorem dW_iff {l : List Nat} {A : List (List Nat)} : (∃ n ∈ A, PyData.str (S l) = dW n) ↔ l ∈ A := ⟨fun ⟨n, h, e⟩ => by
  have e : PyData.str (S l) = .str (S n) := e
  injection e with e
  rw [S_inj.mp e]; exact h, fun h => ⟨l, h, rfl⟩⟩
/-- the words of a kind of words -/
def wk (ts : List TWs) : Kd → Option (List (List Nat))
  | .one ns => some ns
  | .own nm => some (ownWs ts (.own nm))
  | _ => none
theorem fit_wk {ts : List TWs} {k : Kd} {A : List (List Nat)} (h : wk ts k = some A) (l : List Nat) : Fit (ownWs ts k) (.str (S l)) k ↔ l ∈ A := by
  cases k with
  | one ns => cases h; exact dW_iff
  | own nm => cases h; exact dW_iff
  | _ => cases h
theorem wk_num {ts : List TWs} {k : Kd} {A : List (List Nat)} (h : wk ts k = some A) : k.num? = false := by
  cases k with
  | num lo hi => cases h
  | _ => rfl
structure KGood (ts : List TWs) (tr : List (List Nat)) (k : Kd) : Prop where
  num : ∀ lo hi, k = .num lo hi → lo ≤ hi ∧ ∀ n, lo ≤ n → n ≤ hi → dec n ∈ tr
  txt : ∀ n, k = .txt n → 1 ≤ n ∧ n ≤ 20
  wds : ∀ A, wk ts k = some A → A.Nodup ∧ A.length ≤ 8 ∧ [] ∉ A ∧ ∀ l ∈ A, l ∈ tr ∧ Pl l
structure TrOk (tr : List (List Nat)) : Prop where
  nil : [] ∈ tr
  big : [65] ∈ tr
  zz : nmZZ ∈ tr
  as_ : ∀ q, 1 ≤ q → q ≤ 21 → List.replicate q 97 ∈ tr
  pl : ∀ l ∈ tr, Pl l ∧ l.length ≤ 50
def sameT (ts : List TWs) (k1 k2 : Kd) : Prop := match wk ts k1, wk ts k2 with
  | some A, some B => A.Perm B
  | none, none => k1 = k2
  | _, _ => False
theorem nodup_sub : ∀ {L A : List (List Nat)}, L.Nodup → (∀ x ∈ L, x ∈ A) → L.length ≤ A.length
  | [], _, _, _ => Nat.zero_le _
  | x :: L, A, n, h => by
    rw [List.nodup_cons] at n
    have m := h x (List.mem_cons_self ..)
    have ih := nodup_sub (A := A.erase x) n.2 fun y hy => (List.mem_erase_of_ne (fun (e : y = x) => n.1 (by rw [← e]; exact hy))).mpr (h y (List.mem_cons_of_mem _ hy))
    rw [List.length_erase_of_mem m] at ih
    have := List.length_pos_of_mem m
    rw [List.length_cons]; omega
theorem perm_of {A B : List (List Nat)} (na : A.Nodup) (nb : B.Nodup) (h : ∀ x, x ∈ A ↔ x ∈ B) : A.Perm B := (List.perm_ext_iff_of_nodup na nb).mpr h
def nine : List (List Nat) := [[97], [97, 97], [97, 97, 97], [97, 97, 97, 97], [97, 97, 97, 97, 97], [97, 97, 97, 97, 97, 97], [97, 97, 97, 97, 97, 97, 97], [97, 97, 97, 97, 97, 97, 97, 97], nmZZ]
theorem sg_rep (q : Nat) : Sg (List.replicate q 97) := fun c hc => by rw [(List.mem_replicate.mp hc).2]; decide
section
variable {ts : List TWs} {tr : List (List Nat)} {k1 k2 : Kd}
/-- words against all else -/
theorem sep_words {A : List (List Nat)} (t : TrOk tr) (g1 : KGood ts tr k1) (g2 : KGood ts tr k2) (h1 : wk ts k1 = some A) (h2 : wk ts k2 = none) : ∃ l ∈ tr, worthD k1 (ownWs ts k1) l ≠ worthD k2 (ownWs ts k2) l := by
  obtain ⟨a1, a2, a3, a4⟩ := g1.wds A h1
  have n1 := wk_num h1
  cases k2 with
  | one ns => cases h2
  | own nm => cases h2
  | num lo hi =>
    obtain ⟨b1, b2⟩ := g2.num lo hi rfl
    refine ⟨dec lo, b2 lo (Int.le_refl _) b1, ?_⟩
    rw [wd_in (Int.le_refl _) b1]
    exact wd_noint n1 lo
  | nam =>
    have : ∃ l ∈ nine, l ∉ A := Classical.byContradiction fun z => by
      have := nodup_sub (L := nine) (A := A) (by decide) fun x hx => Classical.byContradiction fun q => z ⟨x, hx, q⟩
      have l9 : nine.length = 9 := rfl
      omega
    obtain ⟨l, hl, na⟩ := this
    have al : ∀ l ∈ nine, (l = nmZZ ∨ ∃ q, 1 ≤ q ∧ q ≤ 8 ∧ l = List.replicate q 97) ∧ (1 ≤ l.length ∧ l.length ≤ 8 ∧ ∀ c ∈ l, 97 ≤ c ∧ c ≤ 122) := fun l hl => by
      refine ⟨?_, ?_⟩
      · simp only [nine, List.mem_cons, List.not_mem_nil, or_false] at hl
        rcases hl with rfl | rfl | rfl | rfl | rfl | rfl | rfl | rfl | rfl
        · exact .inr ⟨1, by decide, by decide, rfl⟩
        · exact .inr ⟨2, by decide, by decide, rfl⟩
        · exact .inr ⟨3, by decide, by decide, rfl⟩
        · exact .inr ⟨4, by decide, by decide, rfl⟩
        · exact .inr ⟨5, by decide, by decide, rfl⟩
        · exact .inr ⟨6, by decide, by decide, rfl⟩
        · exact .inr ⟨7, by decide, by decide, rfl⟩
        · exact .inr ⟨8, by decide, by decide, rfl⟩
        · exact .inl rfl
      · exact (show ∀ l ∈ nine, 1 ≤ l.length ∧ l.length ≤ 8 ∧ ∀ c ∈ l, 97 ≤ c ∧ c ≤ 122 by decide) l hl
    obtain ⟨w, nm⟩ := al l hl
    refine ⟨l, ?_, ?_⟩
    · rcases w with rfl | ⟨q, q1, q8, rfl⟩
      · exact t.zz
      · exact t.as_ q q1 (by omega)
    · rw [wd_unfit n1 fun f => na ((fit_wk h1 l).mp f), wd_fit rfl (fit_nam'.mpr nm)]
      exact fun z => nomatch z
  | txt n =>
    obtain ⟨b1, b2⟩ := g2.txt n rfl
    refine ⟨[], t.nil, ?_⟩
    rw [wd_unfit n1 fun f => a3 ((fit_wk h1 []).mp f), wd_fit rfl (fit_txt'.mpr ⟨by show ((0 : Nat) : Int) ≤ n; omega, fun c hc => (List.not_mem_nil hc).elim⟩)]
    exact fun z => nomatch z
theorem sep_num {lo hi : Int} (g1 : KGood ts tr (.num lo hi)) (n2 : k2.num? = false) : ∃ l ∈ tr, worthD (.num lo hi) (ownWs ts (.num lo hi)) l ≠ worthD k2 (ownWs ts k2) l := by
  obtain ⟨b1, b2⟩ := g1.num lo hi rfl
  refine ⟨dec lo, b2 lo (Int.le_refl _) b1, ?_⟩
  rw [wd_in (Int.le_refl _) b1]
  exact fun e => wd_noint n2 lo e.symm
theorem sep_nums {lo hi lo' hi' : Int} (g1 : KGood ts tr (.num lo hi)) (g2 : KGood ts tr (.num lo' hi')) (h : lo < lo' ∨ hi' < hi) : ∃ l ∈ tr, worthD (.num lo hi) (ownWs ts (.num lo hi)) l ≠ worthD (.num lo' hi') (ownWs ts (.num lo' hi')) l := by
  obtain ⟨b1, b2⟩ := g1.num lo hi rfl
  rcases h with h | h
  · refine ⟨dec lo, b2 lo (Int.le_refl _) b1, ?_⟩
    rw [wd_in (Int.le_refl _) b1, wd_out (by omega)]
    exact fun z => nomatch z
  · refine ⟨dec hi, b2 hi b1 (Int.le_refl _), ?_⟩
    rw [wd_in b1 (Int.le_refl _), wd_out (by omega)]
    exact fun z => nomatch z
theorem sep_txts {n n' : Int} (t : TrOk tr) (g1 : KGood ts tr (.txt n)) (g2 : KGood ts tr (.txt n')) (h : n < n') : ∃ l ∈ tr, worthD (.txt n) (ownWs ts (.txt n)) l ≠ worthD (.txt n') (ownWs ts (.txt n')) l := by
  obtain ⟨b1, b2⟩ := g1.txt n rfl
  obtain ⟨c1, c2⟩ := g2.txt n' rfl
  refine ⟨List.replicate n'.toNat 97, t.as_ _ (by omega) (by omega), ?_⟩
  rw [wd_unfit rfl fun f => ?_, wd_fit rfl (fit_txt'.mpr ⟨by rw [List.length_replicate]; omega, sg_rep _⟩)]
  · exact fun z => nomatch z
  · have := (fit_txt'.mp f).1
    rw [List.length_replicate] at this
    omega
theorem sep_nt {n : Int} (t : TrOk tr) (g2 : KGood ts tr (.txt n)) : ∃ l ∈ tr, worthD .nam (ownWs ts .nam) l ≠ worthD (.txt n) (ownWs ts (.txt n)) l := by
  obtain ⟨c1, c2⟩ := g2.txt n rfl
  refine ⟨[65], t.big, ?_⟩
  rw [wd_unfit rfl fun f => ?_, wd_fit rfl (fit_txt'.mpr ⟨by show ((1 : Nat) : Int) ≤ n; omega, fun c hc => by rw [List.mem_singleton.mp hc]; decide⟩)]
  · exact fun z => nomatch z
  · have := (fit_nam'.mp f).2.2 65 (List.mem_cons_self ..)
    omega
theorem sep_all (t : TrOk tr) (g1 : KGood ts tr k1) (g2 : KGood ts tr k2) (h : ¬ sameT ts k1 k2) : ∃ l ∈ tr, worthD k1 (ownWs ts k1) l ≠ worthD k2 (ownWs ts k2) l := by
  have sw : (∃ l ∈ tr, worthD k2 (ownWs ts k2) l ≠ worthD k1 (ownWs ts k1) l) → ∃ l ∈ tr, worthD k1 (ownWs ts k1) l ≠ worthD k2 (ownWs ts k2) l := fun ⟨l, a, b⟩ => ⟨l, a, fun e => b e.symm⟩
  cases h1 : wk ts k1 with
  | some A =>
    cases h2 : wk ts k2 with
    | none => exact sep_words t g1 g2 h1 h2
    | some B =>
      unfold sameT at h
      rw [h1, h2] at h
      obtain ⟨a1, a2, a3, a4⟩ := g1.wds A h1
      obtain ⟨b1, b2, b3, b4⟩ := g2.wds B h2
      have : ∃ l, (l ∈ A ∧ l ∉ B) ∨ (l ∈ B ∧ l ∉ A) := Classical.byContradiction fun z => h (perm_of a1 b1 fun x => ⟨fun m => Classical.byContradiction fun q => z ⟨x, .inl ⟨m, q⟩⟩, fun m => Classical.byContradiction fun q => z ⟨x, .inr ⟨m, q⟩⟩⟩)
      obtain ⟨l, ⟨m, q⟩ | ⟨m, q⟩⟩ := this
      · refine ⟨l, (a4 l m).1, ?_⟩
        rw [wd_fit (wk_num h1) ((fit_wk h1 l).mpr m), wd_unfit (wk_num h2) fun f => q ((fit_wk h2 l).mp f)]
        exact fun z => nomatch z
      · refine ⟨l, (b4 l m).1, ?_⟩
        rw [wd_fit (wk_num h2) ((fit_wk h2 l).mpr m), wd_unfit (wk_num h1) fun f => q ((fit_wk h1 l).mp f)]
        exact fun z => nomatch z
  | none =>
    cases h2 : wk ts k2 with
    | some B => exact sw (sep_words t g2 g1 h2 h1)
    | none =>
      have h : k1 ≠ k2 := fun e => h (by unfold sameT; rw [h1, h2]; exact e)
      cases k1 with
      | one ns => cases h1
      | own nm => cases h1
      | num lo hi =>
        cases k2 with
        | num lo' hi' =>
          by_cases c : lo < lo' ∨ hi' < hi
          · exact sep_nums g1 g2 c
          · by_cases c' : lo' < lo ∨ hi < hi'
            · exact sw (sep_nums g2 g1 c')
            · exact absurd (by rw [show lo = lo' by omega, show hi = hi' by omega]) h
        | _ => exact sep_num g1 rfl
      | nam =>
        cases k2 with
        | num lo' hi' => exact sw (sep_num g2 rfl)
        | nam => exact absurd rfl h
        | txt n => exact sep_nt t g2
        | one ns => cases h2
        | own nm => cases h2
      | txt n =>
        cases k2 with
        | num lo' hi' => exact sw (sep_num g2 rfl)
        | nam => exact sw (sep_nt t g1)
        | txt n' =>
          by_cases c : n < n'
          · exact sep_txts t g1 g2 c
          · by_cases c' : n' < n
            · exact sw (sep_txts t g2 g1 c')
            · exact absurd (by rw [show n = n' by omega]) h
        | one ns => cases h2
        | own nm => cases h2
theorem same_all (h : sameT ts k1 k2) (l : List Nat) : worthD k1 (ownWs ts k1) l = worthD k2 (ownWs ts k2) l := by
  unfold sameT at h
  cases h1 : wk ts k1 with
  | some A =>
    cases h2 : wk ts k2 with
    | none => rw [h1, h2] at h; exact h.elim
    | some B =>
      rw [h1, h2] at h
      have h : A.Perm B := h
      by_cases m : l ∈ A
      · rw [wd_fit (wk_num h1) ((fit_wk h1 l).mpr m), wd_fit (wk_num h2) ((fit_wk h2 l).mpr (h.mem_iff.mp m))]
      · rw [wd_unfit (wk_num h1) fun f => m ((fit_wk h1 l).mp f), wd_unfit (wk_num h2) fun f => m (h.mem_iff.mpr ((fit_wk h2 l).mp f))]
  | none =>
    cases h2 : wk ts k2 with
    | some B => rw [h1, h2] at h; exact h.elim
    | none =>
      rw [h1, h2] at h
      have h : k1 = k2 := h
      rw [h]
theorem leaf_wd {k : Kd} {ws : List (List Nat)} {l : List Nat} (h : Pl l) : Leaf (worthD k ws l) := by
  rcases wd_v k ws l with ⟨_, e⟩ | ⟨_, _, n, _, _, e, _⟩ | ⟨_, e⟩ <;> rw [e]
  · exact .non
  · exact .int n
  · exact .str h
/-- the text of all worths -/
noncomputable def rowT (ts : List TWs) (tr : List (List Nat)) (k : Kd) : Str := (PyData.list (tr.map (worthD k (ownWs ts k)))).shown
theorem map_ne {α β : Type} {f g : α → β} : ∀ {L : List α}, (∃ l ∈ L, f l ≠ g l) → L.map f ≠ L.map g
  | [], ⟨_, h, _⟩, _ => (List.not_mem_nil h).elim
  | x :: L, ⟨l, h, n⟩, e => by
    rw [List.map_cons, List.map_cons] at e
    injection e with e1 e2
    rcases List.mem_cons.mp h with rfl | h
    · exact n e1
    · exact map_ne ⟨l, h, n⟩ e2
theorem row_iff (t : TrOk tr) (g1 : KGood ts tr k1) (g2 : KGood ts tr k2) : rowT ts tr k1 = rowT ts tr k2 ↔ sameT ts k1 k2 := by
  constructor
  · intro e
    refine Classical.byContradiction fun n => map_ne (sep_all t g1 g2 n) (list_inj (fun d hd => ?_) (fun d hd => ?_) e)
    · obtain ⟨l, hl, rfl⟩ := List.mem_map.mp hd
      exact leaf_wd (t.pl l hl).1
    · obtain ⟨l, hl, rfl⟩ := List.mem_map.mp hd
      exact leaf_wd (t.pl l hl).1
  · intro e
    unfold rowT
    rw [show tr.map (worthD k1 (ownWs ts k1)) = tr.map (worthD k2 (ownWs ts k2)) from List.map_congr_left fun l _ => same_all e l]
/-! ### tables -/
def plainT : Kd → Tb
  | .num lo hi => .num lo hi
  | .txt n => .txt n
  | _ => .nam
def TbFor (ts : List TWs) (k : Kd) (t : Tb) : Prop := match wk ts k with
  | some A => ∃ ys, t = .wds ys ∧ ys.Perm A ∧ ys.Pairwise fun a b => a ≤ b
  | none => t = plainT k
theorem lst_uniq {ys zs : List (List Nat)} (p : ys.Perm zs) (h : ys.Pairwise fun a b => a ≤ b) (k : zs.Pairwise fun a b => a ≤ b) : ys = zs := by
  have e := sorted_uniq (ys := ys.map S) (zs := zs.map S) (p.map S) (List.pairwise_map.mpr (h.imp fun q => by rw [cd_S, cd_S]; exact q)) (List.pairwise_map.mpr (k.imp fun q => by rw [cd_S, cd_S]; exact q))
  have := congrArg (List.map cd) e
  rw [List.map_map, List.map_map, show cd ∘ S = id from funext cd_S, List.map_id, List.map_id] at this
  exact this
theorem tb_iff {t1 t2 : Tb} (h1 : TbFor ts k1 t1) (h2 : TbFor ts k2 t2) : t1 = t2 ↔ sameT ts k1 k2 := by
  unfold TbFor at h1 h2
  unfold sameT
  cases e1 : wk ts k1 with
  | some A =>
    rw [e1] at h1
    obtain ⟨ys, rfl, p1, s1⟩ := h1
    cases e2 : wk ts k2 with
    | some B =>
      rw [e2] at h2
      obtain ⟨zs, rfl, p2, s2⟩ := h2
      constructor
      · intro e
        injection e with e
        subst e
        exact p1.symm.trans p2
      · intro p
        have p : A.Perm B := p
        rw [lst_uniq ((p1.trans p).trans p2.symm) s1 s2]
    | none =>
      rw [e2] at h2
      have h2 : t2 = plainT k2 := h2
      constructor
      · intro e
        rw [← e] at h2
        cases k2 <;> cases h2
      · intro e
        exact e.elim
  | none =>
    rw [e1] at h1
    have h1 : t1 = plainT k1 := h1
    cases e2 : wk ts k2 with
    | some B =>
      rw [e2] at h2
      obtain ⟨zs, rfl, p2, s2⟩ := h2
      constructor
      · intro e
        rw [e] at h1
        cases k1 <;> cases h1
      · intro e
        exact e.elim
    | none =>
      rw [e2] at h2
      have h2 : t2 = plainT k2 := h2
      subst h1 h2
      constructor
      · intro e
        show k1 = k2
        cases k1 <;> cases k2 <;> first | rfl | (cases e1; done) | (cases e2; done) | (injection e with a b; subst a b; rfl) | (injection e with a; subst a; rfl) | (cases e; done)
      · intro e
        have e : k1 = k2 := e
        rw [e]
theorem tb_uniq {t1 t2 : Tb} {k : Kd} (h1 : TbFor ts k t1) (h2 : TbFor ts k t2) : t1 = t2 := (tb_iff h1 h2).mpr (by
  unfold sameT
  cases e : wk ts k with
  | some A => exact List.Perm.refl _
  | none => rfl)
theorem tb_ok {t : Tb} {k : Kd} (g : KGood ts tr k) (h : TbFor ts k t) : t.Ok := by
  unfold TbFor at h
  cases e : wk ts k with
  | some A =>
    rw [e] at h
    obtain ⟨ys, rfl, p, _⟩ := h
    exact fun y hy => ((g.wds A e).2.2.2 y (p.mem_iff.mp hy)).2
  | none =>
    rw [e] at h
    have h : t = plainT k := h
    subst h
    cases k <;> trivial
/-- what two rows say is the same -/
theorem rows_agree {t1 t2 : Tb} (t : TrOk tr) (g1 : KGood ts tr k1) (g2 : KGood ts tr k2) (h1 : TbFor ts k1 t1) (h2 : TbFor ts k2 t2) : (t1.data.shown = t2.data.shown) ↔ (rowT ts tr k1 = rowT ts tr k2) := by
  rw [row_iff t g1 g2, ← tb_iff h1 h2]
  exact ⟨Tb.inj (tb_ok g1 h1) (tb_ok g2 h2), fun e => by rw [e]⟩
end
/-! ### the law's words, the law's kinds -/
def numWs : Kd → List (List Nat)
  | .num lo hi => (List.range (hi - lo + 3).toNat).map fun i : Nat => dec (lo - 1 + (i : Int))
  | _ => []
def base60 (ns : List (List Nat)) : List (List Nat) := ([[], [97], [65], nmAB, [45], nmZZ] ++ ns) ++ (List.range 21).map fun i : Nat => List.replicate (i + 1) 97
def tried (ts : List TWs) (ks : List Kd) (ns : List (List Nat)) : List (List Nat) := ((base60 ns ++ ks.flatMap numWs) ++ ownWs ts (.own nmW)) ++ ownWs ts (.own nmO)
theorem pl_nm {l : List Nat} (h : Nm l) : Pl l := fun c hc => by have := h.2.2 c hc; omega
theorem dec_short {i : Int} (h : -99 ≤ i) (h2 : i ≤ 99) : (dec i).length ≤ 3 := by
  have : ∀ n : Nat, n < 100 → (dec (n : Int)).length ≤ 3 ∧ (dec (-(n : Int))).length ≤ 3 := by decide +kernel
  by_cases c : 0 ≤ i
  · obtain ⟨n, rfl⟩ := Int.eq_ofNat_of_zero_le c
    exact (this n (by omega)).1
  · obtain ⟨n, e⟩ := Int.eq_ofNat_of_zero_le (show 0 ≤ -i by omega)
    have := (this n (by omega)).2
    rwa [show (-(n : Int)) = i by omega] at this
theorem ws_of {ns : List (List Nat)} {ts : List TWs} (h : TsOf ns ts) (hn : ∀ n ∈ ns, Nm n) (nd : ns.Nodup) (n8 : ns.length ≤ 8) : ∃ ws i, ownWs ts (.own nmW) = ws ∧ ownWs ts (.own nmO) = [dec i, [45]] ∧ ownWs ts (.own nmE) = [] ∧ -4 ≤ i ∧ i ≤ 4 ∧ ws.Nodup ∧ ws.length ≤ 8 ∧ (∀ w ∈ ws, w ≠ [] ∧ Pl w ∧ w.length ≤ 8) := by
  obtain ⟨ws, i, hw, i0, i1, rfl⟩ := h
  refine ⟨ws, i, rfl, rfl, rfl, i0, i1, ?_⟩
  have ab : nmAB ∉ ns := fun m => by
    have := (hn _ m).2.2 32 (by decide)
    omega
  have nn : ∀ n ∈ ns ++ [nmAB], n ≠ [] ∧ Pl n ∧ n.length ≤ 8 := fun n hm => by
    rcases List.mem_append.mp hm with hm | hm
    · have := hn n hm
      exact ⟨fun e => by have := this.1; rw [e] at this; simp at this, pl_nm this, this.2.1⟩
    · rw [List.mem_singleton.mp hm]
      exact ⟨by decide, pl_dec' (by decide), by decide⟩
  have nd2 : (ns ++ [nmAB]).Nodup := List.nodup_append.mpr ⟨nd, by simp, fun a ha b hb => by rw [List.mem_singleton.mp hb]; exact fun e => ab (e ▸ ha)⟩
  rcases hw with rfl | rfl
  · exact ⟨(List.reverse_perm _).nodup_iff.mpr nd, by rw [List.length_reverse]; exact n8, fun w hw => nn w (List.mem_append_left _ (List.mem_reverse.mp hw))⟩
  · refine ⟨(List.reverse_perm _).nodup_iff.mpr (nd2.sublist (List.drop_sublist ..)), by rw [List.length_reverse, List.length_drop, List.length_append]; simp; omega, fun w hw => nn w (List.mem_of_mem_drop (List.mem_reverse.mp hw))⟩
section
variable {ts : List TWs} {ns : List (List Nat)} {lo mo m : Int}
theorem tried_ok (ko : KdsOk lo mo ns m) (h : TsOf ns ts) : TrOk (tried ts (kdsOf lo mo ns m) ns) := by
  obtain ⟨ws, i, e1, e2, e3, i0, i1, w1, w2, w3⟩ := ws_of h ko.nm ko.nd ko.n8
  have inb : ∀ l ∈ base60 ns, l ∈ tried ts (kdsOf lo mo ns m) ns := fun l hl => List.mem_append_left _ (List.mem_append_left _ (List.mem_append_left _ hl))
  have six : ∀ l ∈ [[], [97], [65], nmAB, [45], nmZZ], l ∈ base60 ns := fun l hl => List.mem_append_left _ (List.mem_append_left _ hl)
  refine ⟨inb _ (six _ (by decide)), inb _ (six _ (by decide)), inb _ (six _ (by decide)), fun q q1 q2 => inb _ (List.mem_append_right _ (List.mem_map.mpr ⟨q - 1, List.mem_range.mpr (by omega), by rw [show q - 1 + 1 = q by omega]⟩)), fun l hl => ?_⟩
  have dd : ∀ j : Int, -99 ≤ j → j ≤ 99 → Pl (dec j) ∧ (dec j).length ≤ 50 := fun j a b => ⟨pl_dec j, Nat.le_trans (dec_short a b) (by decide)⟩
  rcases List.mem_append.mp hl with hl | hl
  · rcases List.mem_append.mp hl with hl | hl
    · rcases List.mem_append.mp hl with hl | hl
      · rcases List.mem_append.mp hl with hl | hl
        · rcases List.mem_append.mp hl with hl | hl
          · refine ⟨?_, (show ∀ l ∈ [[], [97], [65], nmAB, [45], nmZZ], l.length ≤ 50 by decide) l hl⟩
            refine pl_dec' ?_
            exact (show ∀ l ∈ [[], [97], [65], nmAB, [45], nmZZ], (l.all fun c => c == 32 || c == 45 || (decide (48 ≤ c) && decide (c ≤ 57)) || (decide (65 ≤ c) && decide (c ≤ 90)) || (decide (97 ≤ c) && decide (c ≤ 122))) = true by decide) l hl
          · exact ⟨pl_nm (ko.nm l hl), Nat.le_trans (ko.nm l hl).2.1 (by decide)⟩
        · obtain ⟨q, hq, rfl⟩ := List.mem_map.mp hl
          refine ⟨fun c hc => ?_, by rw [List.length_replicate]; have := List.mem_range.mp hq; omega⟩
          rw [(List.mem_replicate.mp hc).2]; omega
      · obtain ⟨k, hk, hl⟩ := List.mem_flatMap.mp hl
        have bd : ∀ a b : Int, -9 ≤ a → b ≤ 9 → l ∈ numWs (.num a b) → Pl l ∧ l.length ≤ 50 := fun a b h1 h2 hl => by
          obtain ⟨q, hq, rfl⟩ := List.mem_map.mp hl
          have := List.mem_range.mp hq
          exact dd _ (by omega) (by omega)
        have := ko.l0
        have := ko.l1
        have := ko.m0
        have := ko.m1
        simp only [kdsOf, List.mem_cons, List.not_mem_nil, or_false] at hk
        rcases hk with rfl | rfl | rfl | rfl | rfl | rfl | rfl | rfl | rfl | rfl | rfl | rfl | rfl <;> first | exact bd _ _ (by omega) (by omega) hl | exact (List.not_mem_nil hl).elim
    · rw [e1] at hl
      have := w3 l hl
      exact ⟨this.2.1, by omega⟩
  · rw [e2] at hl
    rcases List.mem_cons.mp hl with rfl | hl
    · exact dd i (by omega) (by omega)
    · rw [List.mem_singleton.mp hl]
      exact ⟨pl_dec' (by decide), by decide⟩
theorem kds_good (ko : KdsOk lo mo ns m) (h : TsOf ns ts) : ∀ k ∈ kdsOf lo mo ns m, KGood ts (tried ts (kdsOf lo mo ns m) ns) k := by
  obtain ⟨ws, i, e1, e2, e3, i0, i1, w1, w2, w3⟩ := ws_of h ko.nm ko.nd ko.n8
  have inb : ∀ l ∈ base60 ns, l ∈ tried ts (kdsOf lo mo ns m) ns := fun l hl => List.mem_append_left _ (List.mem_append_left _ (List.mem_append_left _ hl))
  have inn : ∀ l ∈ ns, l ∈ tried ts (kdsOf lo mo ns m) ns := fun l hl => inb l (List.mem_append_left _ (List.mem_append_right _ hl))
  have nume : ∀ a b : Int, a ≤ b → Kd.num a b ∈ kdsOf lo mo ns m → KGood ts (tried ts (kdsOf lo mo ns m) ns) (.num a b) := fun a b ab mem => ⟨fun lo' hi' e => by
    injection e with ea eb
    subst ea eb
    refine ⟨ab, fun n h1 h2 => List.mem_append_left _ (List.mem_append_left _ (List.mem_append_right _ (List.mem_flatMap.mpr ⟨_, mem, List.mem_map.mpr ⟨(n - a + 1).toNat, List.mem_range.mpr (by omega), ?_⟩⟩)))⟩
    rw [show a - 1 + (((n - a + 1).toNat : Nat) : Int) = n by omega], fun n e => Kd.noConfusion e, fun A e => by cases e⟩
  have one : ∀ A : List (List Nat), A.Nodup → A.length ≤ 8 → (∀ a ∈ A, a ∈ ns ∨ a = nmZZ) → KGood ts (tried ts (kdsOf lo mo ns m) ns) (.one A) := fun A a1 a2 a3 => ⟨fun _ _ e => Kd.noConfusion e, fun _ e => Kd.noConfusion e, fun B e => by
    cases e
    have z : ∀ a ∈ A, a ∈ tried ts (kdsOf lo mo ns m) ns ∧ Pl a ∧ a ≠ [] := fun a ha => by
      rcases a3 a ha with q | q
      · have := ko.nm a q
        exact ⟨inn a q, pl_nm this, fun e => by have := this.1; rw [e] at this; simp at this⟩
      · rw [q]
        exact ⟨(tried_ok ko h).zz, pl_dec' (by decide), by decide⟩
    exact ⟨a1, a2, fun m => (z [] m).2.2 rfl, fun l hl => ⟨(z l hl).1, (z l hl).2.1⟩⟩⟩
  have own : ∀ (nm : List Nat) (A : List (List Nat)), ownWs ts (.own nm) = A → A.Nodup → A.length ≤ 8 → (∀ a ∈ A, a ∈ tried ts (kdsOf lo mo ns m) ns ∧ Pl a ∧ a ≠ []) → KGood ts (tried ts (kdsOf lo mo ns m) ns) (.own nm) := fun nm A ea a1 a2 z => ⟨fun _ _ e => Kd.noConfusion e, fun _ e => Kd.noConfusion e, fun B e => by
    have e : some (ownWs ts (.own nm)) = some B := e
    rw [ea] at e
    cases e
    exact ⟨a1, a2, fun m => (z [] m).2.2 rfl, fun l hl => ⟨(z l hl).1, (z l hl).2.1⟩⟩⟩
  have txt : ∀ n : Int, 1 ≤ n → n ≤ 20 → KGood ts (tried ts (kdsOf lo mo ns m) ns) (.txt n) := fun n a b => ⟨fun _ _ e => Kd.noConfusion e, fun n' e => by injection e with e; subst e; exact ⟨a, b⟩, fun A e => by cases e⟩
  have l0 := ko.l0
  have l1 := ko.l1
  have m0 := ko.m0
  have m1 := ko.m1
  have t0 := ko.t0
  have t1 := ko.t1
  intro k hk
  have hk' := hk
  simp only [kdsOf, List.mem_cons, List.not_mem_nil, or_false] at hk
  rcases hk with rfl | rfl | rfl | rfl | rfl | rfl | rfl | rfl | rfl | rfl | rfl | rfl | rfl
  · exact nume _ _ (by omega) hk'
  · exact nume _ _ (by omega) hk'
  · exact nume _ _ (by omega) hk'
  · exact ⟨fun _ _ e => Kd.noConfusion e, fun _ e => Kd.noConfusion e, fun A e => by cases e⟩
  · exact one _ ko.nd ko.n8 fun a ha => .inl ha
  · exact one _ ((List.reverse_perm _).nodup_iff.mpr ko.nd) (by rw [List.length_reverse]; exact ko.n8) fun a ha => .inl (List.mem_reverse.mp ha)
  · by_cases c : ns.tail = []
    · rw [if_pos c]
      exact one _ (by decide) (by decide) fun a ha => .inr (List.mem_singleton.mp ha)
    · rw [if_neg c]
      exact one _ (ko.nd.sublist (List.tail_sublist _)) (by rw [List.length_tail]; have := ko.n8; omega) fun a ha => .inl (List.mem_of_mem_tail ha)
  · exact own _ _ e1 w1 w2 fun a ha => ⟨by
      refine List.mem_append_left _ (List.mem_append_right _ ?_)
      rw [e1]; exact ha, (w3 a ha).2.1, (w3 a ha).1⟩
  · have oo : ∀ a ∈ ([dec i, [45]] : List (List Nat)), Pl a ∧ a ≠ [] := fun a ha => by
      obtain ⟨c, r, e, _⟩ := dec_sg2 i
      rcases List.mem_cons.mp ha with rfl | ha
      · exact ⟨pl_dec i, by rw [e]; exact fun z => nomatch z⟩
      · rw [List.mem_singleton.mp ha]; exact ⟨pl_dec' (by decide), by decide⟩
    refine own _ _ e2 ?_ (by show 2 ≤ 8; decide) fun a ha => ⟨by
      refine List.mem_append_right _ ?_
      rw [e2]; exact ha, oo a ha⟩
    refine List.nodup_cons.mpr ⟨fun hm => ?_, by simp⟩
    have e := List.mem_singleton.mp hm
    have n45 : numV [45] = none := by
      cases q : numV [45] with
      | none => rfl
      | some n =>
        have := numV_some.mp q
        obtain ⟨c, r, ed, hc, hr⟩ := dec_sg2 n
        have sg : ∀ j : Int, dec j ≠ [45] := fun j => by
          unfold dec
          split
          · intro z
            injection z with _ z
            exact absurd z (D_ne _)
          · intro z
            have := D_digits j.natAbs 45 (by rw [z]; exact List.mem_cons_self ..)
            omega
        exact absurd this.symm (sg n)
    have := (numV_some (l := dec i) (n := i)).mpr rfl
    rw [e, n45] at this
    cases this
  · exact txt m t0 t1
  · exact txt _ (by omega) (by omega)
  · exact own _ _ e3 (by simp) (by show 0 ≤ 8; decide) fun a ha => (List.not_mem_nil ha).elim
  · exact nume _ _ (by omega) hk'
end
end J
/-! the words tried, and their worths: promises -/
namespace J
open PySem PySem.Spec PyProof.Rows L2 M
theorem comp_rngL {lo : Int} {q : Nat} {g : TG} {te : TE} {vs : List Nat} {σ : L2.St} {H1 : Hp} {D : Addr} {Z : Hp → Prop} (hD : H1 D = none) (ys : List V) (hl : ys.length = q) (hs : q < sizeLine)
    (turn : ∀ (i : Nat) (H : Hp) (N : V → Hp → Prop), i < q → Same H1 H → (∀ y H4, ys[i]? = some y → Same H H4 → N y H4) → g (.int (lo + (i : Nat))) (wipe σ vs) H fun σ2 H2 => wipe σ2 vs = wipe σ vs ∧ te σ2 H2 N)
    (fin : ∀ H, Same H1 H → H D = some (.lst ys) → Z H) : CompQ (Itr lo q) g tYes te vs σ H1 D Z := by
  refine comp_of q (fun i H => Same H1 H ∧ H D = some (.lst (ys.take i))) ⟨(Same.refl H1).at hD _, by rw [upd_same]; rfl⟩ (fun i H hi w => hi) (fun H w => Nat.le_refl _) (fun i H x H' hi w y => ?_) (fun H w => ?_)
  · obtain ⟨rfl, rfl⟩ := y
    exact turn i H' _ hi w.1 fun y H4 hy s => ⟨_, s _ _ w.2, Nat.lt_of_le_of_lt (by rw [List.length_take]; omega) hs, (w.1.trans s).at hD _, by rw [upd_same, take_snoc hy]⟩
  · have : ys.take q = ys := List.take_of_length_le (Nat.le_of_eq hl)
    rw [this] at w
    exact fin H w.1 w.2
structure KdsNum (ks : List Kd) : Prop where
  len : ks.length ≤ 13
  num : ∀ lo hi, Kd.num lo hi ∈ ks → -9 ≤ lo ∧ lo ≤ hi ∧ hi ≤ 9
def spTried60 : Sp := fun vs H Q _ => ∃ (l d nt : Addr) (xs : List V) (ks : List Kd) (kvs : List (Key × V)) (ts : List TWs) (ns : List (List Nat)), vs = [.ref l, .ref d, .ref nt] ∧ H l = some (.lst xs) ∧ KdsAt H xs ks ∧ KdsNum ks ∧ H d = some (.dK kvs) ∧ ListsL H kvs ts ∧ (ts.map Prod.fst).Nodup ∧ (∀ e ∈ ts, e.2.length ≤ 8) ∧ nmW ∈ ts.map Prod.fst ∧ nmO ∈ ts.map Prod.fst ∧ H nt = some (.tup (ns.map wV)) ∧ ns.length ≤ 8 ∧
  ∀ H' p, Same H H' → H p = none → H' p = some (.lst ((tried ts ks ns).map wV)) → Q (.ref p) H'
def spWorths60 : Sp := fun vs H Q _ => ∃ (a d l : Addr) (k : Kd) (kvs : List (Key × V)) (ts : List TWs) (tr : List (List Nat)), vs = [.ref a, .ref d, .ref l] ∧ KdAt H a k ∧ k.Ok ∧ H d = some (.dK kvs) ∧ ListsL H kvs ts ∧ (ts.map Prod.fst).Nodup ∧ (∀ nm, k = .own nm → nm ∈ ts.map Prod.fst) ∧ OwOk (ownWs ts k) ∧ H l = some (.lst (tr.map wV)) ∧ (∀ x ∈ tr, Pl x ∧ x.length ≤ 50) ∧ tr.length ≤ 400 ∧
  ∀ H', Same H H' → Q (.str (rowT ts tr k)) H'
theorem own_at {H : Hp} {kvs : List (Key × V)} {ts : List TWs} {nm : List Nat} (ll : ListsL H kvs ts) (nd : (ts.map Prod.fst).Nodup) (hm : nm ∈ ts.map Prod.fst) : ∃ l, valV kvs (.inr (S nm)) = some (.ref l) ∧ H l = some (.lst ((ownWs ts (.own nm)).map wV)) := by
  obtain ⟨tw, htw, en⟩ := List.mem_map.mp hm
  obtain ⟨l1, v1, e1⟩ := ll.val nd htw
  have lk : ownWs ts (.own nm) = tw.2 := by
    show (ts.lookup nm).getD [] = tw.2
    rw [lookup_of nd htw en]; rfl
  rw [en] at v1
  exact ⟨l1, v1, by rw [lk]; exact e1⟩
theorem own_len {ts : List TWs} {nm : List Nat} (nd : (ts.map Prod.fst).Nodup) (hm : nm ∈ ts.map Prod.fst) (l8 : ∀ e ∈ ts, e.2.length ≤ 8) : (ownWs ts (.own nm)).length ≤ 8 := by
  obtain ⟨tw, htw, en⟩ := List.mem_map.mp hm
  have lk : ownWs ts (.own nm) = tw.2 := by
    show (ts.lookup nm).getD [] = tw.2
    rw [lookup_of nd htw en]; rfl
  rw [lk]; exact l8 tw htw
theorem numWs_len {ks : List Kd} (h : KdsNum ks) : (ks.flatMap numWs).length ≤ 21 * ks.length := by
  have : ∀ ks : List Kd, (∀ k ∈ ks, (numWs k).length ≤ 21) → (ks.flatMap numWs).length ≤ 21 * ks.length := by
    intro ks
    induction ks with
    | nil => intro _; exact Nat.le_refl _
    | cons k r ih =>
      intro hk
      have a := hk k (List.mem_cons_self ..)
      have b := ih fun x hx => hk x (List.mem_cons_of_mem _ hx)
      rw [List.flatMap_cons, List.length_append, List.length_cons]; omega
  refine this ks fun k hk => ?_
  cases k with
  | num lo hi =>
    have := h.num lo hi hk
    show ((List.range (hi - lo + 3).toNat).map _).length ≤ 21
    rw [List.length_map, List.length_range]; omega
  | _ => exact Nat.zero_le _
theorem base_len (ns : List (List Nat)) : (base60 ns).length = 27 + ns.length := by
  unfold base60
  rw [List.length_append, List.length_append, List.length_map, List.length_range]
  show 6 + ns.length + 21 = _
  omega
/-- what is told of a word is what it is shown as -/
theorem dd_wd {b : Addr} {H : Hp} {k : Kd} {ws : List (List Nat)} {l : List Nat} (ok : k.Ok) (h : Pl l) (h2 : l.length ≤ 50) : Dd b H (worthV k ws (.str (S l))) (worthD k ws l) ∧ wt (worthD k ws l) ≤ 510 ∧ (worthD k ws l).depth = 0 := by
  rcases wd_v k ws l with ⟨e1, e⟩ | ⟨lo, hi, n, ek, e1, e, n1, n2⟩ | ⟨e1, e⟩ <;> rw [e1, e]
  · exact ⟨.non, by rw [wt]; decide, rfl⟩
  · subst ek
    obtain ⟨o1, o2, o3⟩ := ok
    exact ⟨.int n (Nat.le_trans (show n.natAbs ≤ 999999 by omega) (by decide)), by rw [wt]; decide, rfl⟩
  · exact ⟨.str _ (by rw [S_len]; omega) (by rw [cd_S]; exact fun c hc => by have := h c hc; omega), by rw [wt, S_len]; omega, rfl⟩
theorem wt_row {ws : List (List Nat)} {k : Kd} (ok : k.Ok) : ∀ {tr : List (List Nat)}, (∀ x ∈ tr, Pl x ∧ x.length ≤ 50) → wtAll (tr.map (worthD k ws)) ≤ 512 * tr.length ∧ PyData.depthAll (tr.map (worthD k ws)) ≤ 0
  | [], _ => ⟨Nat.le_refl _, Nat.le_refl _⟩
  | l :: r, h => by
    obtain ⟨a, b⟩ := wt_row (ws := ws) ok (tr := r) fun x hx => h x (List.mem_cons_of_mem _ hx)
    have hl := h l (List.mem_cons_self ..)
    obtain ⟨_, c, d⟩ := dd_wd (b := 0) (H := fun _ => none) (ws := ws) ok hl.1 hl.2
    refine ⟨by rw [List.map_cons, wtAll, List.length_cons]; omega, ?_⟩
    rw [List.map_cons]
    exact Nat.max_le.mpr ⟨Nat.le_of_eq d, b⟩
theorem dd_row {b : Addr} {H : Hp} {k : Kd} {ws : List (List Nat)} (ok : k.Ok) : ∀ {tr : List (List Nat)}, (∀ x ∈ tr, Pl x ∧ x.length ≤ 50) → DdAll b H (tr.map fun l => worthV k ws (.str (S l))) (tr.map (worthD k ws))
  | [], _ => .nil
  | l :: r, h => by
    have hl := h l (List.mem_cons_self ..)
    exact .cons (dd_wd ok hl.1 hl.2).1 (dd_row ok fun x hx => h x (List.mem_cons_of_mem _ hx))
/-- a def with a keyword-only argument, always told -/
structure DKwo (K : PySem.W.Frag) (mg : Str → Option Value) (x : Str) (st : Stmt) (ps : List Str) (f : Addr) (fd : FuncData) : Prop where
  fn : Fun K x x st f fd
  gl : mg x = some (.ref f)
  bK : KBn K fd ps 2 ["own"] (fun us ws => us ++ ws) (fun vs zs => vs ++ zs)
end J
namespace K60
open PySem PySem.Spec PyProof.Rows L2 J M
local macro_rules | `(tactic| walk_at "hp") => `(tactic| first | assumption | exact upd_same | (rw [upd_ne (by assumption)]; walk_at "hp") | (rw [upd_ne (Ne.symm (by assumption))]; walk_at "hp"))
local macro_rules | `(tactic| walk_at "s") => `(tactic| first
  | ((with_reducible refine' r_var ?h ?k); (case h => exact rfl))
  | (with_reducible refine r_c ?_)
  | (with_reducible refine r_op ?_)
  | (with_reducible refine r_un ?_)
  | (with_reducible refine r_seq ?_)
  | (with_reducible refine r_next ?_)
  | (with_reducible refine r_sets ?_)
  | (with_reducible refine r_gname ?_)
  | (with_reducible refine r_ifS ?_)
  | (with_reducible refine r_gsub ?_)
  | (with_reducible refine r_test ?_)
  | (with_reducible refine r_tb ?_)
  | (with_reducible refine r_not ?_)
  | (with_reducible refine r_and ?_)
  | (with_reducible refine r_or ?_)
  | (with_reducible refine r_andV ?_)
  | (with_reducible refine r_orV ?_)
  | (with_reducible refine r_notV ?_)
  | (with_reducible refine r_ifE ?_)
  | (with_reducible refine r_chain ?_)
  | (with_reducible refine r_cb ?_)
  | (with_reducible refine r_cons ?_)
  | (with_reducible refine r_nil ?_)
  | (with_reducible refine r_call ?_)
  | (with_reducible refine r_lst ?_)
  | (with_reducible refine r_tup ?_)
  | (with_reducible refine r_slice ?_)
  | (with_reducible refine r_nop ?_)
  | (with_reducible refine r_part ?_)
  | (with_reducible refine r_bm ?_)
  | (with_reducible refine r_m1 ?_)
  | (with_reducible refine r_m0 ?_)
  | (with_reducible refine r_is ?_)
  | (with_reducible refine r_maxD ?_)
  | (with_reducible refine r_orT ?_)
  | (with_reducible refine r_truN ?_)
  | (with_reducible refine r_intI ?_)
  | (with_reducible refine r_intB ?_)
  | (with_reducible refine r_max2 ?_)
  | (with_reducible refine r_min2 ?_)
  | (with_reducible refine r_yes ?_)
  | (with_reducible refine r_bl ?_)
  | (with_reducible refine iteT ?_)
  | (with_reducible refine iteF ?_)
  | (with_reducible refine r_iteNT ?_)
  | (with_reducible refine r_iteNF ?_)
  | (with_reducible refine r_minL ?_)
  | (with_reducible refine r_gcons ?_)
  | (with_reducible refine r_gnil ?_)
  | (with_reducible refine r_par ?_)
  | (with_reducible refine r_par3 ?_)
  | (with_reducible refine r_is2 ?_)
  | (with_reducible refine r_is3 ?_)
  | (with_reducible refine r_dget ?_)
  | (with_reducible refine r_callS ?_)
  | (with_reducible refine r_rz ?_)
  | (with_reducible refine r_rev ?_)
  | (with_reducible refine r_isI ?_)
  | (with_reducible refine r_isStr ?_)
  | (with_reducible refine r_ret ?_)
  | (with_reducible refine r_drop ?_)
  | (with_reducible refine r_rI0 ?_)
  | (with_reducible refine r_addI ?_)
  | ((with_reducible show rI (fun _ j => 0 < j) _ (.int _) (.int _) _ _); refine r_rI (by first | omega | decide) ?_)
  | ((with_reducible show rI CDiv _ (.int _) (.int _) _ _); refine r_rI (by constructor <;> omega) ?_)
  | ((with_reducible show rI CPow _ (.int _) (.int _) _ _); refine r_rI (by refine ⟨by decide, by decide, ?_⟩; omega) ?_)
  | ((with_reducible show rMul (.int _) (.int _) _ _); refine r_mulI (cmulW (by omega) (by omega)) ?_)
  | (with_reducible refine r_cmpI ?_)
  | (with_reducible refine r_cmpS ?_)
  | (with_reducible refine r_eqI ?_)
  | (with_reducible refine r_neI ?_)
  | (with_reducible refine r_eqS ?_)
  | (with_reducible refine r_neS ?_)
  | (with_reducible refine r_inSF ?_)
  | (with_reducible refine r_inST ?_)
  | (with_reducible refine r_isiStr ?_)
  | ((with_reducible show rIx _ (.ref _) (.int _) _ _); refine' r_ixL (SqL.of ?h) ?e ?_; (case h => walk_at "hp"); (case e => rfl))
  | ((with_reducible show rSetL (.ref _) (.int _) _ _ _); refine' r_setL ?h ?e ?_; (case h => walk_at "hp"); (case e => rfl)))
local macro_rules | `(tactic| walk_at "g") => `(tactic| repeat walk_at "s")
local macro_rules | `(tactic| walk_at "x") => `(tactic| first | omega | decide +kernel | (simp only [List.length_cons, List.length_nil]; omega))
local macro_rules | `(tactic| walk_at "T") => `(tactic| repeat (first
  | walk_at "s"
  | ((with_reducible show rIx _ (.ref _) (.int _) _ _); refine' r_ixTu (SqT.of ?h) ?e ?_; (case h => first | assumption | walk_at "hp"); (case e => rfl))
  | (with_reducible refine r_lenSet ?_)
  | (with_reducible refine r_asg2 ?_)
  | (with_reducible refine iteDT (by walk_at "x") ?_)
  | (with_reducible refine iteDF (by walk_at "x") ?_)
  | (with_reducible refine iteNT (by walk_at "x") ?_)
  | (with_reducible refine iteNF (by walk_at "x") ?_)))
section
variable {P : Program} {w : World} {K : PySem.W.Frag} {mg : Str → Option Value} {base : Heap}
theorem rep_flat (n : Nat) : (List.replicate n [97]).flatten = List.replicate n 97 := by
  induction n with
  | zero => rfl
  | succ n ih => rw [List.replicate_succ, List.flatten_cons, ih, List.replicate_succ]; rfl
theorem wV_mul (i : Nat) : V.str (Txt.mul "a" (1 + (i : Int))) = wV (List.replicate (i + 1) 97) := by
  show V.str _ = V.str (S _)
  rw [← S_of (Txt.mul "a" (1 + (i : Int))), show (1 + (i : Int)) = ((i + 1 : Nat) : Int) by omega]
  have := mul_cd "a" (i + 1)
  rw [show cd "a" = [97] from rfl, rep_flat] at this
  exact congrArg (fun z => V.str (S z)) this
theorem wV_dec (i : Int) : V.str (toString i) = wV (dec i) := by
  show V.str _ = V.str (S _)
  rw [← cd_toString, S_of]
theorem ok_tried (T : Tx K mg) {f : Addr} {fd : FuncData} (F : Fun K "_law_tried" "_law_tried" s_law_tried f fd) : FnOk P w K mg base CX0 1 f fd P_law_tried spTried60 := by
  refine F.ok sc_law_tried (fun vs H Q E h => ?_) (fun cdv A outer s H vs Q E hr h => ?_)
  · obtain ⟨l, d, nt, xs, ks, kvs, ts, ns, rfl, _⟩ := h
    rfl
  · obtain ⟨l, d, nt, xs, ks, kvs, ts, ns, rfl, hl, hks, kn, hd, ll, nd, l8, mw, mo, hnt, n8, k⟩ := h
    refine ⟨_, (pss_cons (ps_set (i := 3) sc_law_tried.nd rfl (Or.inl rfl) (pe_op (oAdd : OpR _ _ (J.rAdd K)) (pe_op (oAdd : OpR _ _ (J.rAdd K)) (pe_lst (pa_cons pe_str (pa_cons pe_str (pa_cons pe_str (pa_cons pe_str (pa_cons pe_str (pa_cons pe_str pa_nil))))))) (pe_callTy (call_listA : CallR _ _ (rListOf K)) (by rfl) T.z_list (by decide +kernel) (pa_cons (pv 2) pa_nil))) (pe_lc (own := [("_law_many", 5)]) (g := (gName 5)) rfl sc_law_tried.nd (pi_range2 rfl T.z_range (pa_cons pe_int (pa_cons pe_int pa_nil))) (blkOk_by (N := N_law_tried) (sc := defScope s_law_tried) (by decide +kernel)) (fun _ _ _ _ _ => (pg_name (i := 5) sc_law_tried.nd rfl (Or.inl rfl))) (fun _ _ _ _ _ => pts_nil) (fun _ _ _ _ _ => (pe_op oMul pe_str (pv 5)))))) (pss_cons (ps_for (PassesOwn.never) rfl (asList (K := K) rfl (pi_list (pv 0))) (pg_name (i := 4) sc_law_tried.nd rfl (Or.inl rfl)) (pss_one (ps_if (pt_cmpR ((op_eqA hr.units) : OpR _ _ (rEqA K)) (pe_ix (ix_seq : IxR _ (rIx K)) (pv 4) pe_int (fun _ _ => rfl)) pe_str (nomark _)) (pss_one (ps_set (i := 3) sc_law_tried.nd rfl (Or.inl rfl) (pe_op (oAdd : OpR _ _ (J.rAdd K)) (pv 3) (pe_lc (own := [("_law_number", 6)]) (g := (gName 6)) rfl sc_law_tried.nd (pi_range2 rfl T.z_range (pa_cons (pe_op L2.op_sub (pe_ix (ix_seq : IxR _ (rIx K)) (pv 4) pe_int (fun _ _ => rfl)) pe_int) (pa_cons (pe_op (oAdd : OpR _ _ (J.rAdd K)) (pe_ix (ix_seq : IxR _ (rIx K)) (pv 4) pe_int (fun _ _ => rfl)) pe_int) pa_nil))) (blkOk_by (N := N_law_tried) (sc := defScope s_law_tried) (by decide +kernel)) (fun _ _ _ _ _ => (pg_name (i := 6) sc_law_tried.nd rfl (Or.inl rfl))) (fun _ _ _ _ _ => pts_nil) (fun _ _ _ _ _ => (pe_callTy call_strI (by rfl) T.z_str (by decide +kernel) (pa_cons (pv 6) pa_nil))))))) pss_nil))) (pss_one (ps_ret (pe_op (oAdd : OpR _ _ (J.rAdd K)) (pe_op (oAdd : OpR _ _ (J.rAdd K)) (pv 3) (pe_dget (hu_of hr) (pv 1) pe_str (fun _ _ => rfl))) (pe_dget (hu_of hr) (pv 1) pe_str (fun _ _ => rfl))))))), ?_⟩
    walk_at "T"
    refine ⟨show 6 ≤ sizeLine by decide, fun p1 hp1 => ?_⟩
    have s1 := (Same.refl H).at hp1 (.lst [.str "", .str "a", .str "A", .str "a b", .str "-", .str "zz"])
    have e1 : upd H p1 (.lst [.str "", .str "a", .str "A", .str "a b", .str "-", .str "zz"]) p1 = some (.lst (([[], [97], [65], nmAB, [45], nmZZ] : List (List Nat)).map wV)) := upd_same
    generalize upd H p1 (.lst [.str "", .str "a", .str "A", .str "a b", .str "-", .str "zz"]) = H1 at s1 e1 ⊢
    walk_at "T"
    refine ⟨nt, _, rfl, .inr (SqT.of (s1 _ _ hnt)), fun p2 hp2 => ?_⟩
    have s2 := s1.trans ((Same.refl H1).at hp2 (.lst (ns.map wV)))
    have f1 := (Same.refl H1).at hp2 (.lst (ns.map wV)) _ _ e1
    have e2 : upd H1 p2 (.lst (ns.map wV)) p2 = some (.lst (ns.map wV)) := upd_same
    generalize upd H1 p2 (.lst (ns.map wV)) = H2 at s2 e2 f1 ⊢
    refine r_cat f1 e2 (by rw [List.length_map, List.length_map]; exact Nat.le_trans (show 6 + ns.length ≤ 14 by omega) (by decide)) fun p3 hp3 => ?_
    rw [← List.map_append]
    have s3 := s2.trans ((Same.refl H2).at hp3 (.lst (([[], [97], [65], nmAB, [45], nmZZ] ++ ns).map wV)))
    have e3 : upd H2 p3 (.lst (([[], [97], [65], nmAB, [45], nmZZ] ++ ns).map wV)) p3 = some (.lst (([[], [97], [65], nmAB, [45], nmZZ] ++ ns).map wV)) := upd_same
    generalize upd H2 p3 (.lst (([[], [97], [65], nmAB, [45], nmZZ] ++ ns).map wV)) = H3 at s3 e3 ⊢
    refine r_lcR2 ?_
    walk_at "T"
    refine ⟨1, 22, rfl, ⟨by decide, by decide, by decide, by decide⟩, fun p4 hp4 => ?_⟩
    refine comp_rngL (q := 21) hp4 (((List.range 21).map fun i : Nat => List.replicate (i + 1) 97).map wV) (by rw [List.length_map, List.length_map, List.length_range]) (by decide) (fun i G N hi sG kk => ?_) fun H4 s4 e4 => ?_
    · walk_at "T"
      refine ⟨rfl, ?_⟩
      walk_at "T"
      rw [show (1 + (i : Int)) = ((i + 1 : Nat) : Int) by omega]
      refine r_mulS (mul_ok (by decide) (by omega)) ?_
      rw [show ((i + 1 : Nat) : Int) = 1 + (i : Int) by omega, wV_mul]
      refine kk _ G ?_ (Same.refl G)
      rw [List.getElem?_map, List.getElem?_map, List.getElem?_range hi]
      rfl
    have f3 := s4 _ _ e3
    have s04 := s3.trans s4
    refine r_cat f3 e4 (by rw [List.length_map, List.length_map, List.length_append, List.length_map, List.length_range]; exact Nat.le_trans (show 6 + ns.length + 21 ≤ 35 by omega) (by decide)) fun p5 hp5 => ?_
    rw [← List.map_append]
    have s5 := s04.trans ((Same.refl H4).at hp5 (.lst ((base60 ns).map wV)))
    have e5 : upd H4 p5 (.lst ((base60 ns).map wV)) p5 = some (.lst ((base60 ns).map wV)) := upd_same
    have n5 : H p5 = none := Same.non s04 hp5
    change gName 3 (V.ref p5) _ (upd H4 p5 (.lst ((base60 ns).map wV))) _
    generalize upd H4 p5 (.lst ((base60 ns).map wV)) = H5 at s5 e5 ⊢
    walk_at "T"
    refine r_for ?_
    refine r_ilist ?_
    walk_at "T"
    refine ⟨l, rfl, ⟨_, SqL.of (s5 _ _ hl)⟩, ?_⟩
    have fm : ∀ i : Nat, (base60 ns ++ (ks.take i).flatMap numWs).length ≤ 35 + 21 * 13 := fun i => by
      have a := base_len ns
      have b := numWs_len (ks := ks.take i) ⟨by have := kn.len; rw [List.length_take]; omega, fun lo hi m => kn.num lo hi (List.mem_of_mem_take m)⟩
      have := kn.len
      rw [List.length_append]
      rw [List.length_take] at b
      omega
    refine loop_lst (fun i σ' H' => ∃ (o4 o5 o6 : Option V) (p : Addr), σ' = [some (.ref l), some (.ref d), some (.ref nt), some (.ref p), o4, o5, o6] ∧ Same H H' ∧ H p = none ∧ H' p = some (.lst ((base60 ns ++ (ks.take i).flatMap numWs).map wV))) (fun i σ' H' w => by obtain ⟨_, _, _, _, _, s, _⟩ := w; exact s _ _ hl) ⟨_, _, _, p5, rfl, s5, n5, by rw [e5, List.take_zero, List.flatMap_nil, List.append_nil]⟩ (fun i x σ6 H6 hx w => ?_) fun σ6 H6 w => ?_
    · obtain ⟨o4, o5, o6, p, rfl, s6, np, e6⟩ := w
      obtain ⟨a, kd, rfl, hk, ka⟩ := (hks.same s6).get hx
      rw [List.take_add_one, hk]
      have fm1 := fm i
      cases kd with
      | num lo hi =>
        have ka : H6 a = some (.tup [.str "number", .int lo, .int hi]) := ka
        obtain ⟨b1, b2, b3⟩ := kn.num lo hi (List.mem_of_getElem? hk)
        walk_at "T"
        refine r_lcR2 ?_
        walk_at "T"
        refine ⟨lo - 1, hi + 2, rfl, ⟨by omega, by omega, by omega, by omega⟩, fun q hq => ?_⟩
        rw [show (hi + 2 - (lo - 1)).toNat = (hi - lo + 3).toNat by omega]
        refine comp_rngL (q := (hi - lo + 3).toNat) hq ((numWs (.num lo hi)).map wV) (by rw [List.length_map]; show ((List.range _).map _).length = _; rw [List.length_map, List.length_range]) (Nat.lt_of_le_of_lt (show _ ≤ 21 by omega) (by decide)) (fun j G N hj sG kk => ?_) fun H7 s7 e7 => ?_
        · walk_at "T"
          refine ⟨rfl, ?_⟩
          walk_at "T"
          refine r_strI (Nat.lt_of_le_of_lt (show _ ≤ 100 by omega) (by decide)) ?_
          rw [wV_dec]
          refine kk _ G ?_ (Same.refl G)
          show (((List.range _).map _).map wV)[j]? = _
          rw [List.getElem?_map, List.getElem?_map, List.getElem?_range hj]
          rfl
        have e67 := s7 _ _ e6
        have nl : (numWs (.num lo hi)).length ≤ 21 := by
          show ((List.range _).map _).length ≤ 21
          rw [List.length_map, List.length_range]; omega
        refine r_cat e67 e7 (by rw [List.length_map, List.length_map]; exact Nat.le_trans (show _ ≤ 400 by omega) (by decide)) fun z hz => ?_
        rw [← List.map_append]
        have s67 := s6.trans s7
        walk_at "T"
        refine ⟨_, _, _, z, rfl, s67.trans ((Same.refl H7).at hz _), Same.non s67 hz, ?_⟩
        rw [upd_same, List.flatMap_append, List.append_assoc]
        show _ = some (HO.lst ((base60 ns ++ ((ks.take i).flatMap numWs ++ [Kd.num lo hi].flatMap numWs)).map wV))
        rw [List.flatMap_cons, List.flatMap_nil, List.append_nil]
      | nam =>
        have ka : H6 a = some (.tup [.str "name"]) := ka
        walk_at "T"
        exact ⟨_, _, _, p, rfl, s6, np, by rw [e6, List.flatMap_append]; show _ = some (HO.lst ((base60 ns ++ ((ks.take i).flatMap numWs ++ [])).map wV)); rw [List.append_nil]⟩
      | txt n =>
        have ka : H6 a = some (.tup [.str "text", .int n]) := ka
        walk_at "T"
        exact ⟨_, _, _, p, rfl, s6, np, by rw [e6, List.flatMap_append]; show _ = some (HO.lst ((base60 ns ++ ((ks.take i).flatMap numWs ++ [])).map wV)); rw [List.append_nil]⟩
      | one A =>
        obtain ⟨c, ka, hc⟩ := ka
        walk_at "T"
        exact ⟨_, _, _, p, rfl, s6, np, by rw [e6, List.flatMap_append]; show _ = some (HO.lst ((base60 ns ++ ((ks.take i).flatMap numWs ++ [])).map wV)); rw [List.append_nil]⟩
      | own nm =>
        have ka : H6 a = some (.tup [.str "own", .str (S nm)]) := ka
        walk_at "T"
        exact ⟨_, _, _, p, rfl, s6, np, by rw [e6, List.flatMap_append]; show _ = some (HO.lst ((base60 ns ++ ((ks.take i).flatMap numWs ++ [])).map wV)); rw [List.append_nil]⟩
    · obtain ⟨o4, o5, o6, p, rfl, s6, np, e6⟩ := w
      rw [hks.len, List.take_length] at e6
      have fl := fm ks.length
      rw [List.take_length] at fl
      obtain ⟨lw, vw, ew⟩ := own_at (ll.same s6) nd mw
      obtain ⟨lo, vo, eo⟩ := own_at (ll.same s6) nd mo
      have w8 := own_len nd mw l8
      have o8 := own_len nd mo l8
      have hd6 := s6 _ _ hd
      walk_at "T"
      refine ⟨d, .ref lw, rfl, by rw [← vw]; exact DGet.k (k := .inr (S nmW)) hd6, ?_⟩
      refine r_cat e6 ew (by rw [List.length_map, List.length_map]; exact Nat.le_trans (show _ ≤ 400 by omega) (by decide)) fun z hz => ?_
      rw [← List.map_append]
      have s7 := s6.trans ((Same.refl H6).at hz (.lst ((base60 ns ++ ks.flatMap numWs ++ ownWs ts (.own nmW)).map wV)))
      have sz := (Same.refl H6).at hz (.lst ((base60 ns ++ ks.flatMap numWs ++ ownWs ts (.own nmW)).map wV))
      have e7 : upd H6 z (.lst ((base60 ns ++ ks.flatMap numWs ++ ownWs ts (.own nmW)).map wV)) z = some (.lst ((base60 ns ++ ks.flatMap numWs ++ ownWs ts (.own nmW)).map wV)) := upd_same
      generalize upd H6 z (.lst ((base60 ns ++ ks.flatMap numWs ++ ownWs ts (.own nmW)).map wV)) = H7 at s7 sz e7 ⊢
      replace eo := sz _ _ eo
      have hd7 := sz _ _ hd6
      walk_at "T"
      refine ⟨d, .ref lo, rfl, by rw [← vo]; exact DGet.k (k := .inr (S nmO)) hd7, ?_⟩
      refine r_cat e7 eo (by rw [List.length_map, List.length_map, List.length_append]; exact Nat.le_trans (show _ ≤ 400 by omega) (by decide)) fun y hy => ?_
      rw [← List.map_append]
      exact k _ y (s7.trans ((Same.refl H7).at hy _)) (Same.non s7 hy) upd_same
end
end K60
namespace K60
open PySem PySem.Spec PyProof.Rows L2 J M
local macro_rules | `(tactic| walk_at "hp") => `(tactic| first | assumption | exact upd_same | (rw [upd_ne (by assumption)]; walk_at "hp") | (rw [upd_ne (Ne.symm (by assumption))]; walk_at "hp"))
local macro_rules | `(tactic| walk_at "s") => `(tactic| first
  | ((with_reducible refine' r_var ?h ?k); (case h => exact rfl))
  | (with_reducible refine r_c ?_)
  | (with_reducible refine r_op ?_)
  | (with_reducible refine r_un ?_)
  | (with_reducible refine r_seq ?_)
  | (with_reducible refine r_next ?_)
  | (with_reducible refine r_sets ?_)
  | (with_reducible refine r_gname ?_)
  | (with_reducible refine r_ifS ?_)
  | (with_reducible refine r_gsub ?_)
  | (with_reducible refine r_test ?_)
  | (with_reducible refine r_tb ?_)
  | (with_reducible refine r_not ?_)
  | (with_reducible refine r_and ?_)
  | (with_reducible refine r_or ?_)
  | (with_reducible refine r_andV ?_)
  | (with_reducible refine r_orV ?_)
  | (with_reducible refine r_notV ?_)
  | (with_reducible refine r_ifE ?_)
  | (with_reducible refine r_chain ?_)
  | (with_reducible refine r_cb ?_)
  | (with_reducible refine r_cons ?_)
  | (with_reducible refine r_nil ?_)
  | (with_reducible refine r_call ?_)
  | (with_reducible refine r_lst ?_)
  | (with_reducible refine r_tup ?_)
  | (with_reducible refine r_slice ?_)
  | (with_reducible refine r_nop ?_)
  | (with_reducible refine r_part ?_)
  | (with_reducible refine r_bm ?_)
  | (with_reducible refine r_m1 ?_)
  | (with_reducible refine r_m0 ?_)
  | (with_reducible refine r_is ?_)
  | (with_reducible refine r_maxD ?_)
  | (with_reducible refine r_orT ?_)
  | (with_reducible refine r_truN ?_)
  | (with_reducible refine r_intI ?_)
  | (with_reducible refine r_intB ?_)
  | (with_reducible refine r_max2 ?_)
  | (with_reducible refine r_min2 ?_)
  | (with_reducible refine r_yes ?_)
  | (with_reducible refine r_bl ?_)
  | (with_reducible refine iteT ?_)
  | (with_reducible refine iteF ?_)
  | (with_reducible refine r_iteNT ?_)
  | (with_reducible refine r_iteNF ?_)
  | (with_reducible refine r_minL ?_)
  | (with_reducible refine r_gcons ?_)
  | (with_reducible refine r_gnil ?_)
  | (with_reducible refine r_par ?_)
  | (with_reducible refine r_par3 ?_)
  | (with_reducible refine r_is2 ?_)
  | (with_reducible refine r_is3 ?_)
  | (with_reducible refine r_dget ?_)
  | (with_reducible refine r_callS ?_)
  | (with_reducible refine r_rz ?_)
  | (with_reducible refine r_rev ?_)
  | (with_reducible refine r_isI ?_)
  | (with_reducible refine r_isStr ?_)
  | (with_reducible refine r_ret ?_)
  | (with_reducible refine r_drop ?_)
  | (with_reducible refine r_rI0 ?_)
  | (with_reducible refine r_addI ?_)
  | ((with_reducible show rI (fun _ j => 0 < j) _ (.int _) (.int _) _ _); refine r_rI (by first | omega | decide) ?_)
  | ((with_reducible show rI CDiv _ (.int _) (.int _) _ _); refine r_rI (by constructor <;> omega) ?_)
  | ((with_reducible show rI CPow _ (.int _) (.int _) _ _); refine r_rI (by refine ⟨by decide, by decide, ?_⟩; omega) ?_)
  | ((with_reducible show rMul (.int _) (.int _) _ _); refine r_mulI (cmulW (by omega) (by omega)) ?_)
  | (with_reducible refine r_cmpI ?_)
  | (with_reducible refine r_cmpS ?_)
  | (with_reducible refine r_eqI ?_)
  | (with_reducible refine r_neI ?_)
  | (with_reducible refine r_eqS ?_)
  | (with_reducible refine r_neS ?_)
  | (with_reducible refine r_inSF ?_)
  | (with_reducible refine r_inST ?_)
  | (with_reducible refine r_isiStr ?_)
  | ((with_reducible show rIx _ (.ref _) (.int _) _ _); refine' r_ixL (SqL.of ?h) ?e ?_; (case h => walk_at "hp"); (case e => rfl))
  | ((with_reducible show rSetL (.ref _) (.int _) _ _ _); refine' r_setL ?h ?e ?_; (case h => walk_at "hp"); (case e => rfl)))
local macro_rules | `(tactic| walk_at "g") => `(tactic| repeat walk_at "s")
local macro_rules | `(tactic| walk_at "x") => `(tactic| first | omega | decide +kernel | (simp only [List.length_cons, List.length_nil]; omega))
local macro_rules | `(tactic| walk_at "T") => `(tactic| repeat (first
  | walk_at "s"
  | ((with_reducible show rIx _ (.ref _) (.int _) _ _); refine' r_ixTu (SqT.of ?h) ?e ?_; (case h => first | assumption | walk_at "hp"); (case e => rfl))
  | (with_reducible refine r_lenSet ?_)
  | (with_reducible refine r_asg2 ?_)
  | (with_reducible refine iteDT (by walk_at "x") ?_)
  | (with_reducible refine iteDF (by walk_at "x") ?_)
  | (with_reducible refine iteNT (by walk_at "x") ?_)
  | (with_reducible refine iteNF (by walk_at "x") ?_)))
section
variable {P : Program} {w : World} {K : PySem.W.Frag} {mg : Str → Option Value} {base : Heap}
theorem ok_are_bounds (T : Tx K mg) {f f_is_whole : Addr} {fd fd_is_whole : FuncData} (F : Fun K "_are_bounds" "_are_bounds" s_are_bounds f fd) (D_is_whole : DAt K mg "is_whole" s_is_whole P_is_whole f_is_whole fd_is_whole) : FnOk P w K mg base CX0 2 f fd P_are_bounds spBounds := by
  have G_is_whole : FnOk P w K mg base CX0 1 f_is_whole fd_is_whole P_is_whole (spWholeT K) := ok_is_whole T D_is_whole.fn
  refine F.ok sc_are_bounds (fun vs H Q E h => ?_) (fun cdv A outer s H vs Q E hr h => ?_)
  · obtain ⟨b, lo, hi, rfl, _⟩ := h
    rfl
  · obtain ⟨b, lo, hi, rfl, hb, l1, l2, l3, k⟩ := h
    refine ⟨_, (pss_cons (ps_if (PW.pt (pw_or (pt_cmpR ((op_neA hr.units) : OpR _ _ (rNeA K)) (pe_callB (call_lenA : CallR _ _ (J.rLen K)) (by rfl) T.z_len (by decide +kernel) (pa_cons (pv 0) pa_nil)) pe_int (nomark _)) (pw_or1 (pt_not (pt_val (pe_call G_is_whole (hr.mono (by decide)) rfl D_is_whole.gl D_is_whole.fn.kp D_is_whole.bd .nil pass0 (pa_cons (pe_ix (ix_seq : IxR _ (rIx K)) (pv 0) pe_int (fun _ _ => rfl)) (pa_cons (pe_un L2.un_neg (pe_gI T.c_MOST_NUMBER rfl)) (pa_cons (pe_gI T.c_MOST_NUMBER rfl) pa_nil))))))))) (pss_one (ps_ret pe_bl)) pss_nil) (pss_one (ps_ret (pe_call G_is_whole (hr.mono (by decide)) rfl D_is_whole.gl D_is_whole.fn.kp D_is_whole.bd .nil pass0 (pa_cons (pe_ix (ix_seq : IxR _ (rIx K)) (pv 0) pe_int (fun _ _ => rfl)) (pa_cons (pe_ix (ix_seq : IxR _ (rIx K)) (pv 0) pe_int (fun _ _ => rfl)) (pa_cons (pe_gI T.c_MOST_NUMBER rfl) pa_nil))))))), ?_⟩
    walk_at "T"
    refine r_lenT (SqT.of hb) ?_
    walk_at "T"
    refine ⟨999999, rfl, ?_⟩
    walk_at "T"
    refine ⟨.int lo, .int lo, -999999, 999999, rfl, .int lo (by omega), ?_⟩
    rw [whD_t (show (-999999 : Int) ≤ lo by omega) (show lo ≤ 999999 by omega)]
    walk_at "T"
    refine ⟨.int hi, .int hi, lo, 999999, rfl, .int hi (by omega), ?_⟩
    rw [whD_t (show lo ≤ hi by omega) (show hi ≤ 999999 by omega)]
    exact k
theorem ok_are_choices (T : Tx K mg) {f f_is_name f_are_unlike : Addr} {fd fd_is_name fd_are_unlike : FuncData} (F : Fun K "_are_choices" "_are_choices" s_are_choices f fd) (D_is_name : DAt K mg "is_name" s_is_name P_is_name f_is_name fd_is_name) (D_are_unlike : DAt K mg "are_unlike" s_are_unlike P_are_unlike f_are_unlike fd_are_unlike) : FnOk P w K mg base CX0 2 f fd P_are_choices spChoices := by
  have G_is_name : FnOk P w K mg base CX0 1 f_is_name fd_is_name P_is_name (spNameT K) := ok_is_name T D_is_name.fn
  have G_are_unlike : FnOk P w K mg base CX0 1 f_are_unlike fd_are_unlike P_are_unlike (spUnlike K) := ok_are_unlike T D_are_unlike.fn
  refine F.ok sc_are_choices (fun vs H Q E h => ?_) (fun cdv A outer s H vs Q E hr h => ?_)
  · obtain ⟨b, ns, rfl, _⟩ := h
    rfl
  · obtain ⟨b, ns, rfl, hb, l1, l2, hn, nd, k⟩ := h
    refine ⟨_, (pss_cons (ps_if (PW.pt (pw_or (pt_not (pt_val (pe_callB (L2.call_isi : CallR _ _ (rIsi K)) (by rfl) T.z_isinstance (by decide +kernel) (pa_cons (pv 0) (pa_cons (pe_bltn (v := .ty "tuple") (u := .type "tuple") rfl T.z_tuple (by decide +kernel) rfl) pa_nil))))) (pw_or1 (pt_not (pt_chain op_leA op_leA pe_int (pe_callB (call_lenA : CallR _ _ (J.rLen K)) (by rfl) T.z_len (by decide +kernel) (pa_cons (pv 0) pa_nil)) (pe_gI T.c_MOST_NAMES rfl)))))) (pss_one (ps_ret pe_bl)) pss_nil) (pss_one (ps_ret (pe_and (pe_callB ((L2.cr_all rfl) : CallR _ _ (rAll K)) (by rfl) T.z_all (by decide +kernel) (pa_cons (pe_lc (own := [("name", 1)]) (g := (gName 1)) rfl sc_are_choices.nd (asSeq (K := K) rfl (pi_seq (pv 0))) (blkOk_by (N := N_are_choices) (sc := defScope s_are_choices) (by decide +kernel)) (fun _ _ _ _ _ => (pg_name (i := 1) sc_are_choices.nd rfl (Or.inl rfl))) (fun _ _ _ _ _ => pts_nil) (fun _ _ _ _ _ => (pe_call G_is_name (hr.mono (by decide)) rfl D_is_name.gl D_is_name.fn.kp D_is_name.bd .nil pass0 (pa_cons (pv 1) pa_nil)))) pa_nil)) (pe_one (pe_call G_are_unlike (hr.mono (by decide)) rfl D_are_unlike.gl D_are_unlike.fn.kp D_are_unlike.bd .nil pass0 (pa_cons (pv 0) pa_nil))))))), ?_⟩
    have hl : ((ns.map wV).length : Int) = (ns.length : Nat) := by rw [List.length_map]
    walk_at "T"
    refine r_isiB (.base (.tup hb)) (b := true) (by decide +kernel) ?_
    walk_at "T"
    refine r_lenT (SqT.of hb) ?_
    walk_at "T"
    refine r_lcV rfl (.inr (SqT.of hb)) fun J SI D hD => ?_
    refine comp_same SI hD (ns.map fun _ => V.bl true) (by simp) (by rw [List.length_map]; exact Nat.lt_of_le_of_lt l2 (by decide)) (fun i x H' N hx sm hN => ?_) fun H' sm hD' => ?_
    · rw [List.getElem?_map] at hx
      cases hi : ns[i]? with
      | none => rw [hi] at hx; cases hx
      | some n =>
        rw [hi] at hx
        cases hx
        have nn := hn n (List.mem_of_getElem? hi)
        walk_at "T"
        refine ⟨rfl, ?_⟩
        walk_at "T"
        refine ⟨.str (S n), .str (S n), rfl, tg_nm nn, ?_⟩
        rw [nmD_t nn]
        exact hN _ _ (by rw [List.getElem?_map, hi]; rfl) (Same.refl _)
    · walk_at "T"
      refine ⟨D, ns.map fun _ => true, rfl, SqL.of (by rw [List.map_map]; exact hD'), ?_⟩
      have e : ((ns.map fun _ => true).all id) = true := by simp
      rw [e]
      walk_at "T"
      refine ⟨b, ns, rfl, .inr (SqT.of (sm _ _ hb)), by omega, ?_⟩
      rw [decide_eq_true nd]
      exact k H' sm
theorem ok_is_kind (T : Tx K mg) {f f_is_name f_are_unlike f_is_whole f_are_bounds f_are_choices : Addr} {fd fd_is_name fd_are_unlike fd_is_whole fd_are_bounds fd_are_choices : FuncData} (F : Fun K "is_kind" "is_kind" s_is_kind f fd) (D_is_name : DAt K mg "is_name" s_is_name P_is_name f_is_name fd_is_name) (D_are_unlike : DAt K mg "are_unlike" s_are_unlike P_are_unlike f_are_unlike fd_are_unlike)
    (D_is_whole : DAt K mg "is_whole" s_is_whole P_is_whole f_is_whole fd_is_whole) (D_are_bounds : DAt K mg "_are_bounds" s_are_bounds P_are_bounds f_are_bounds fd_are_bounds) (D_are_choices : DAt K mg "_are_choices" s_are_choices P_are_choices f_are_choices fd_are_choices) : FnOk P w K mg base CX0 3 f fd P_is_kind spIsKind := by
  have G_is_name : FnOk P w K mg base CX0 1 f_is_name fd_is_name P_is_name (spNameT K) := ok_is_name T D_is_name.fn
  have G_is_whole : FnOk P w K mg base CX0 1 f_is_whole fd_is_whole P_is_whole (spWholeT K) := ok_is_whole T D_is_whole.fn
  have G_are_bounds : FnOk P w K mg base CX0 2 f_are_bounds fd_are_bounds P_are_bounds spBounds := ok_are_bounds T D_are_bounds.fn D_is_whole
  have G_are_choices : FnOk P w K mg base CX0 2 f_are_choices fd_are_choices P_are_choices spChoices := ok_are_choices T D_are_choices.fn D_is_name D_are_unlike
  refine F.ok sc_is_kind (fun vs H Q E h => ?_) (fun cdv A outer s H vs Q E hr h => ?_)
  · obtain ⟨a, kd, rfl, _⟩ := h
    rfl
  · obtain ⟨a, kd, rfl, ha, ok, k⟩ := h
    refine ⟨_, (pss_cons (ps_if (PW.pt (pw_or (pt_not (pt_val (pe_callB (L2.call_isi : CallR _ _ (rIsi K)) (by rfl) T.z_isinstance (by decide +kernel) (pa_cons (pv 0) (pa_cons (pe_bltn (v := .ty "tuple") (u := .type "tuple") rfl T.z_tuple (by decide +kernel) rfl) pa_nil))))) (pw_or1 (pt_cmpR ((op_eqA hr.units) : OpR _ _ (rEqA K)) (pe_callB (call_lenA : CallR _ _ (J.rLen K)) (by rfl) T.z_len (by decide +kernel) (pa_cons (pv 0) pa_nil)) pe_int (nomark _))))) (pss_one (ps_ret pe_bl)) pss_nil) (pss_cons (ps_par (i := 1) (j := 2) rfl sc_is_kind.nd rfl rfl (by decide) rfl rfl (pa_cons (pe_ix (ix_seq : IxR _ (rIx K)) (pv 0) pe_int (fun _ _ => rfl)) (pa_cons (pe_callB (call_lenA : CallR _ _ (J.rLen K)) (by rfl) T.z_len (by decide +kernel) (pa_cons (pv 0) pa_nil)) pa_nil)) rfl) (pss_cons (ps_if (pt_cmpR ((op_eqA hr.units) : OpR _ _ (rEqA K)) (pv 2) pe_int (nomark _)) (pss_cons (ps_if (pt_cmpR ((op_eqA hr.units) : OpR _ _ (rEqA K)) (pv 1) pe_str (nomark _)) (pss_one (ps_ret (pe_call G_is_name (hr.mono (by decide)) rfl D_is_name.gl D_is_name.fn.kp D_is_name.bd .nil pass0 (pa_cons (pe_ix (ix_seq : IxR _ (rIx K)) (pv 0) pe_int (fun _ _ => rfl)) pa_nil)))) pss_nil) (pss_cons (ps_if (pt_cmpR ((op_eqA hr.units) : OpR _ _ (rEqA K)) (pv 1) pe_str (nomark _)) (pss_one (ps_ret (pe_call G_is_whole (hr.mono (by decide)) rfl D_is_whole.gl D_is_whole.fn.kp D_is_whole.bd .nil pass0 (pa_cons (pe_ix (ix_seq : IxR _ (rIx K)) (pv 0) pe_int (fun _ _ => rfl)) (pa_cons pe_int (pa_cons (pe_gI T.c_MOST_TEXT rfl) pa_nil)))))) pss_nil) (pss_one (ps_ret (pe_and (pe_cmpR ((op_eqA hr.units) : OpR _ _ (rEqA K)) (pv 1) pe_str (nomark _)) (pe_one (pe_call G_are_choices (hr.mono (by decide)) rfl D_are_choices.gl D_are_choices.fn.kp D_are_choices.bd .nil pass0 (pa_cons (pe_ix (ix_seq : IxR _ (rIx K)) (pv 0) pe_int (fun _ _ => rfl)) pa_nil)))))))) pss_nil) (pss_cons (ps_if (pt_cmpR ((op_eqA hr.units) : OpR _ _ (rEqA K)) (pv 1) pe_str (nomark _)) (pss_one (ps_ret (pe_call G_are_bounds (hr.mono (by decide)) rfl D_are_bounds.gl D_are_bounds.fn.kp D_are_bounds.bd .nil pass0 (pa_cons (pe_slice (sl_tup : SlR _ (rSlT K)) (pv 0) (po_some pe_int) po_none) pa_nil)))) pss_nil) (pss_one (ps_ret (pe_and (pe_cmpR ((op_eqA hr.units) : OpR _ _ (rEqA K)) (pv 1) pe_str (nomark _)) (pe_one (pe_cmpR ((op_eqA hr.units) : OpR _ _ (rEqA K)) (pv 2) pe_int (nomark _)))))))))), ?_⟩
    cases kd with
    | num lo hi =>
      have ha : H a = some (.tup [.str "number", .int lo, .int hi]) := ha
      obtain ⟨o1, o2, o3⟩ := ok
      walk_at "T"
      refine r_isiB (.base (.tup ha)) (b := true) (by decide +kernel) ?_
      walk_at "T"
      refine r_lenT (SqT.of ha) ?_
      walk_at "T"
      refine r_lenT (SqT.of ha) ?_
      walk_at "T"
      refine r_slT (SqT.of ha) (by show ¬ (HT.sIx 3 0 (some 1) = 0 ∧ HT.sIx 3 3 none = 3); decide) fun p hp => ?_
      walk_at "T"
      exact ⟨p, lo, hi, rfl, upd_same, o1, o2, o3, k _ ((Same.refl H).at hp _)⟩
    | one ns =>
      obtain ⟨b, ha, hb⟩ := ha
      obtain ⟨o1, o2, o3, o4⟩ := ok
      walk_at "T"
      refine r_isiB (.base (.tup ha)) (b := true) (by decide +kernel) ?_
      walk_at "T"
      refine r_lenT (SqT.of ha) ?_
      walk_at "T"
      refine r_lenT (SqT.of ha) ?_
      walk_at "T"
      exact ⟨b, ns, rfl, hb, o1, o2, o3, o4, k⟩
    | nam =>
      have ha : H a = some (.tup [.str "name"]) := ha
      walk_at "T"
      refine r_isiB (.base (.tup ha)) (b := true) (by decide +kernel) ?_
      walk_at "T"
      refine r_lenT (SqT.of ha) ?_
      walk_at "T"
      refine r_lenT (SqT.of ha) ?_
      walk_at "T"
      exact k H (Same.refl H)
    | txt n =>
      have ha : H a = some (.tup [.str "text", .int n]) := ha
      obtain ⟨o1, o2⟩ := ok
      walk_at "T"
      refine r_isiB (.base (.tup ha)) (b := true) (by decide +kernel) ?_
      walk_at "T"
      refine r_lenT (SqT.of ha) ?_
      walk_at "T"
      refine r_lenT (SqT.of ha) ?_
      walk_at "T"
      refine ⟨.int n, .int n, 1, 20, rfl, .int n (by omega), ?_⟩
      rw [whD_t o1 o2]
      exact k H (Same.refl H)
    | own nm =>
      have ha : H a = some (.tup [.str "own", .str (S nm)]) := ha
      have ok : Nm nm := ok
      walk_at "T"
      refine r_isiB (.base (.tup ha)) (b := true) (by decide +kernel) ?_
      walk_at "T"
      refine r_lenT (SqT.of ha) ?_
      walk_at "T"
      refine r_lenT (SqT.of ha) ?_
      walk_at "T"
      refine ⟨.str (S nm), .str (S nm), rfl, tg_nm ok, ?_⟩
      rw [nmD_t ok]
      exact k H (Same.refl H)
theorem ok_are_own (T : Tx K mg) {f f_is_word f_are_unlike f_are_signs : Addr} {fd fd_is_word fd_are_unlike fd_are_signs : FuncData} (F : Fun K "are_own_words" "are_own_words" s_are_own_words f fd) (D_is_word : DAt K mg "is_word" s_is_word P_is_word f_is_word fd_is_word) (D_are_unlike : DAt K mg "are_unlike" s_are_unlike P_are_unlike f_are_unlike fd_are_unlike)
    (D_are_signs : DAt K mg "are_signs" s_are_signs P_are_signs f_are_signs fd_are_signs) : FnOk P w K mg base CX0 3 f fd P_are_own_words (spAreOwn K) := by
  have G_is_word : FnOk P w K mg base CX0 2 f_is_word fd_is_word P_is_word (spWordT K) := ok_is_word T D_is_word.fn D_are_signs
  have G_are_unlike : FnOk P w K mg base CX0 1 f_are_unlike fd_are_unlike P_are_unlike (spUnlike K) := ok_are_unlike T D_are_unlike.fn
  refine F.ok sc_are_own_words (fun vs H Q E h => ?_) (fun cdv A outer s H vs Q E hr h => ?_)
  · obtain ⟨b, ws, rfl, _⟩ := h
    rfl
  · obtain ⟨b, ws, rfl, hb, ⟨l2, hw, nd⟩, k⟩ := h
    refine ⟨_, (pss_cons (ps_if (PW.pt (pw_or (pt_not (pt_val (pe_callB (L2.call_isiT : CallR _ _ (rIsiT K)) (by rfl) T.z_isinstance (by decide +kernel) (pa_cons (pv 0) (pa_cons (pe_tup (pa_cons (pe_bltn (v := .ty "list") (u := .type "list") rfl T.z_list (by decide +kernel) rfl) (pa_cons (pe_bltn (v := .ty "tuple") (u := .type "tuple") rfl T.z_tuple (by decide +kernel) rfl) pa_nil))) pa_nil))))) (pw_or1 (pt_cmpR op_gtA (pe_callB (call_lenA : CallR _ _ (J.rLen K)) (by rfl) T.z_len (by decide +kernel) (pa_cons (pv 0) pa_nil)) (pe_gI T.c_MOST_OWN rfl) (nomark _))))) (pss_one (ps_ret pe_bl)) pss_nil) (pss_one (ps_ret (pe_and (pe_callB ((L2.cr_all rfl) : CallR _ _ (rAll K)) (by rfl) T.z_all (by decide +kernel) (pa_cons (pe_lc (own := [("word", 1)]) (g := (gName 1)) rfl sc_are_own_words.nd (asSeq (K := K) rfl (pi_seq (pv 0))) (blkOk_by (N := N_are_own_words) (sc := defScope s_are_own_words) (by decide +kernel)) (fun _ _ _ _ _ => (pg_name (i := 1) sc_are_own_words.nd rfl (Or.inl rfl))) (fun _ _ _ _ _ => pts_nil) (fun _ _ _ _ _ => (pe_and (pe_call G_is_word (hr.mono (by decide)) rfl D_is_word.gl D_is_word.fn.kp D_is_word.bd .nil pass0 (pa_cons (pv 1) pa_nil)) (pe_one (pe_chain op_leA op_leA pe_int (pe_callB (call_lenA : CallR _ _ (J.rLen K)) (by rfl) T.z_len (by decide +kernel) (pa_cons (pv 1) pa_nil)) (pe_gI T.c_MOST_OWN_SIGNS rfl)))))) pa_nil)) (pe_one (pe_call G_are_unlike (hr.mono (by decide)) rfl D_are_unlike.gl D_are_unlike.fn.kp D_are_unlike.bd .nil pass0 (pa_cons (pv 0) pa_nil))))))), ?_⟩
    walk_at "T"
    refine ⟨show 2 ≤ sizeLine by decide, fun p hp => ?_⟩
    have s0 := (Same.refl H).at hp (.tup [V.ty "list", V.ty "tuple"])
    walk_at "T"
    refine r_isiLT2 (hb.same s0) upd_same ?_
    walk_at "T"
    refine r_len2 (hb.same s0) ?_
    walk_at "T"
    rw [List.length_map]
    refine r_iteD (fun c => absurd c (by omega)) fun c => ?_
    walk_at "T"
    refine r_lcV rfl (hb.same s0) fun J SI D hD => ?_
    refine comp_same SI hD (ws.map fun _ => V.bl true) (by simp) (by rw [List.length_map]; exact Nat.lt_of_le_of_lt l2 (by decide)) (fun i x H' N hx sm hN => ?_) fun H' sm hD' => ?_
    · rw [List.getElem?_map] at hx
      cases hi : ws[i]? with
      | none => rw [hi] at hx; cases hx
      | some n =>
        rw [hi] at hx
        cases hx
        obtain ⟨a1, a2, a3⟩ := hw n (List.mem_of_getElem? hi)
        walk_at "T"
        refine ⟨rfl, ?_⟩
        walk_at "T"
        refine ⟨.str (S n), .str (S n), rfl, tg_w (by omega) (fun c hc => (a3 c hc).2), ?_⟩
        rw [wdD_t (show n.length ≤ 40 by omega) a3]
        walk_at "T"
        refine r_len (z := S n) (le_line (by rw [S_len]; omega)) ?_
        rw [S_len]
        walk_at "T"
        rw [decide_eq_true (show ((n.length : Nat) : Int) ≤ 20 by omega)]
        exact hN _ _ (by rw [List.getElem?_map, hi]; rfl) (Same.refl _)
    · walk_at "T"
      refine ⟨D, ws.map fun _ => true, rfl, SqL.of (by rw [List.map_map]; exact hD'), ?_⟩
      have e : ((ws.map fun _ => true).all id) = true := by simp
      rw [e]
      walk_at "T"
      refine ⟨b, ws, rfl, (hb.same s0).same sm, by omega, ?_⟩
      rw [decide_eq_true nd]
      exact k H' (s0.trans sm)
theorem ok_look_at (T : Tx K mg) {f f_is_kind f_are_own_words f_is_name f_are_unlike f_is_whole f_are_bounds f_are_choices f_is_word f_are_signs : Addr} {fd fd_is_kind fd_are_own_words fd_is_name fd_are_unlike fd_is_whole fd_are_bounds fd_are_choices fd_is_word fd_are_signs : FuncData} (F : Fun K "_look_at" "_look_at" s_look_at_kinds f fd)
    (D_is_kind : DAt K mg "is_kind" s_is_kind P_is_kind f_is_kind fd_is_kind) (D_are_own_words : DAt K mg "are_own_words" s_are_own_words P_are_own_words f_are_own_words fd_are_own_words)
    (D_is_name : DAt K mg "is_name" s_is_name P_is_name f_is_name fd_is_name) (D_are_unlike : DAt K mg "are_unlike" s_are_unlike P_are_unlike f_are_unlike fd_are_unlike)
    (D_is_whole : DAt K mg "is_whole" s_is_whole P_is_whole f_is_whole fd_is_whole) (D_are_bounds : DAt K mg "_are_bounds" s_are_bounds P_are_bounds f_are_bounds fd_are_bounds) (D_are_choices : DAt K mg "_are_choices" s_are_choices P_are_choices f_are_choices fd_are_choices)
    (D_is_word : DAt K mg "is_word" s_is_word P_is_word f_is_word fd_is_word) (D_are_signs : DAt K mg "are_signs" s_are_signs P_are_signs f_are_signs fd_are_signs) : FnOk P w K mg base CX0 4 f fd P_look_at_kinds (spLook K) := by
  have G_is_kind : FnOk P w K mg base CX0 3 f_is_kind fd_is_kind P_is_kind spIsKind := ok_is_kind T D_is_kind.fn D_is_name D_are_unlike D_is_whole D_are_bounds D_are_choices
  have G_are_own_words : FnOk P w K mg base CX0 3 f_are_own_words fd_are_own_words P_are_own_words (spAreOwn K) := ok_are_own T D_are_own_words.fn D_is_word D_are_unlike D_are_signs
  refine F.ok sc_look_at_kinds (fun vs H Q E h => ?_) (fun cdv A outer s H vs Q E hr h => ?_)
  · obtain ⟨a, b, kd, ws, rfl, _⟩ := h
    rfl
  · obtain ⟨a, b, kd, ws, rfl, ha, ok, hb, ow, k⟩ := h
    refine ⟨_, (pss_cons (ps_if (pt_not (pt_val (pe_call G_is_kind (hr.mono (by decide)) rfl D_is_kind.gl D_is_kind.fn.kp D_is_kind.bd .nil pass0 (pa_cons (pv 0) pa_nil)))) (pss_one ps_never) pss_nil) (pss_one (ps_if (pt_not (pt_val (pe_call G_are_own_words (hr.mono (by decide)) rfl D_are_own_words.gl D_are_own_words.fn.kp D_are_own_words.bd .nil pass0 (pa_cons (pv 1) pa_nil)))) (pss_one ps_never) pss_nil))), ?_⟩
    walk_at "T"
    refine ⟨a, kd, rfl, ha, ok, fun H' s => ?_⟩
    walk_at "T"
    refine ⟨b, ws, rfl, hb.same s, ow, fun H2 s2 => ?_⟩
    walk_at "T"
    exact k _ (s.trans s2)
end
end K60
namespace K60
open PySem PySem.Spec PyProof.Rows L2 J M
local macro_rules | `(tactic| walk_at "hp") => `(tactic| first | assumption | exact upd_same | (rw [upd_ne (by assumption)]; walk_at "hp") | (rw [upd_ne (Ne.symm (by assumption))]; walk_at "hp"))
local macro_rules | `(tactic| walk_at "s") => `(tactic| first
  | ((with_reducible refine' r_var ?h ?k); (case h => exact rfl))
  | (with_reducible refine r_c ?_)
  | (with_reducible refine r_op ?_)
  | (with_reducible refine r_un ?_)
  | (with_reducible refine r_seq ?_)
  | (with_reducible refine r_next ?_)
  | (with_reducible refine r_sets ?_)
  | (with_reducible refine r_gname ?_)
  | (with_reducible refine r_ifS ?_)
  | (with_reducible refine r_gsub ?_)
  | (with_reducible refine r_test ?_)
  | (with_reducible refine r_tb ?_)
  | (with_reducible refine r_not ?_)
  | (with_reducible refine r_and ?_)
  | (with_reducible refine r_or ?_)
  | (with_reducible refine r_andV ?_)
  | (with_reducible refine r_orV ?_)
  | (with_reducible refine r_notV ?_)
  | (with_reducible refine r_ifE ?_)
  | (with_reducible refine r_chain ?_)
  | (with_reducible refine r_cb ?_)
  | (with_reducible refine r_cons ?_)
  | (with_reducible refine r_nil ?_)
  | (with_reducible refine r_call ?_)
  | (with_reducible refine r_lst ?_)
  | (with_reducible refine r_tup ?_)
  | (with_reducible refine r_slice ?_)
  | (with_reducible refine r_nop ?_)
  | (with_reducible refine r_part ?_)
  | (with_reducible refine r_bm ?_)
  | (with_reducible refine r_m1 ?_)
  | (with_reducible refine r_m0 ?_)
  | (with_reducible refine r_is ?_)
  | (with_reducible refine r_maxD ?_)
  | (with_reducible refine r_orT ?_)
  | (with_reducible refine r_truN ?_)
  | (with_reducible refine r_intI ?_)
  | (with_reducible refine r_intB ?_)
  | (with_reducible refine r_max2 ?_)
  | (with_reducible refine r_min2 ?_)
  | (with_reducible refine r_yes ?_)
  | (with_reducible refine r_bl ?_)
  | (with_reducible refine iteT ?_)
  | (with_reducible refine iteF ?_)
  | (with_reducible refine r_iteNT ?_)
  | (with_reducible refine r_iteNF ?_)
  | (with_reducible refine r_minL ?_)
  | (with_reducible refine r_gcons ?_)
  | (with_reducible refine r_gnil ?_)
  | (with_reducible refine r_par ?_)
  | (with_reducible refine r_par3 ?_)
  | (with_reducible refine r_is2 ?_)
  | (with_reducible refine r_is3 ?_)
  | (with_reducible refine r_dget ?_)
  | (with_reducible refine r_callS ?_)
  | (with_reducible refine r_rz ?_)
  | (with_reducible refine r_rev ?_)
  | (with_reducible refine r_isI ?_)
  | (with_reducible refine r_isStr ?_)
  | (with_reducible refine r_ret ?_)
  | (with_reducible refine r_drop ?_)
  | (with_reducible refine r_rI0 ?_)
  | (with_reducible refine r_addI ?_)
  | ((with_reducible show rI (fun _ j => 0 < j) _ (.int _) (.int _) _ _); refine r_rI (by first | omega | decide) ?_)
  | ((with_reducible show rI CDiv _ (.int _) (.int _) _ _); refine r_rI (by constructor <;> omega) ?_)
  | ((with_reducible show rI CPow _ (.int _) (.int _) _ _); refine r_rI (by refine ⟨by decide, by decide, ?_⟩; omega) ?_)
  | ((with_reducible show rMul (.int _) (.int _) _ _); refine r_mulI (cmulW (by omega) (by omega)) ?_)
  | (with_reducible refine r_cmpI ?_)
  | (with_reducible refine r_cmpS ?_)
  | (with_reducible refine r_eqI ?_)
  | (with_reducible refine r_neI ?_)
  | (with_reducible refine r_eqS ?_)
  | (with_reducible refine r_neS ?_)
  | (with_reducible refine r_inSF ?_)
  | (with_reducible refine r_inST ?_)
  | (with_reducible refine r_isiStr ?_)
  | ((with_reducible show rIx _ (.ref _) (.int _) _ _); refine' r_ixL (SqL.of ?h) ?e ?_; (case h => walk_at "hp"); (case e => rfl))
  | ((with_reducible show rSetL (.ref _) (.int _) _ _ _); refine' r_setL ?h ?e ?_; (case h => walk_at "hp"); (case e => rfl)))
local macro_rules | `(tactic| walk_at "g") => `(tactic| repeat walk_at "s")
local macro_rules | `(tactic| walk_at "x") => `(tactic| first | omega | decide +kernel | (simp only [List.length_cons, List.length_nil]; omega))
local macro_rules | `(tactic| walk_at "T") => `(tactic| repeat (first
  | walk_at "s"
  | ((with_reducible show rIx _ (.ref _) (.int _) _ _); refine' r_ixTu (SqT.of ?h) ?e ?_; (case h => first | assumption | walk_at "hp"); (case e => rfl))
  | (with_reducible refine r_lenSet ?_)
  | (with_reducible refine r_asg2 ?_)
  | (with_reducible refine iteDT (by walk_at "x") ?_)
  | (with_reducible refine iteDF (by walk_at "x") ?_)
  | (with_reducible refine iteNT (by walk_at "x") ?_)
  | (with_reducible refine iteNF (by walk_at "x") ?_)))
section
variable {P : Program} {w : World} {K : PySem.W.Frag} {mg : Str → Option Value} {base : Heap}
theorem ok_are_figures (T : Tx K mg) {f : Addr} {fd : FuncData} (F : Fun K "_are_figures" "_are_figures" s_are_figures f fd) : FnOk P w K mg base CX0 1 f fd P_are_figures spFigures := by
  refine F.ok sc_are_figures (fun vs H Q E h => ?_) (fun cdv A outer s H vs Q E hr h => ?_)
  · obtain ⟨z, rfl, _⟩ := h
    rfl
  · obtain ⟨z, rfl, hz, k⟩ := h
    refine ⟨_, (pss_cons (ps_if (PW.pt (pw_or (pt_not (pt_val (pe_m0 PySem.F.slot_str_isascii PySem.F.type_str_isascii mA_isascii (pv 0)))) (pw_or1 (pt_not (pt_val (pe_m0 PySem.F.slot_str_isdigit PySem.F.type_str_isdigit mA_isdigit (pv 0))))))) (pss_one (ps_ret pe_bl)) pss_nil) (pss_one (ps_ret (pe_or (pe_cmpR ((op_eqA hr.units) : OpR _ _ (rEqA K)) (pv 0) pe_str (nomark _)) (pe_one (pe_cmpR ((op_neA hr.units) : OpR _ _ (rNeA K)) (pe_ix (ix_seq : IxR _ (rIx K)) (pv 0) pe_int (fun _ _ => rfl)) pe_str (nomark _))))))), ?_⟩
    have fg := fig_iff z
    have no : ¬ (cd z ≠ [] ∧ PySem.NumText.AllDigits (cd z)) → Q (.bl false) H := fun n => by
      have : ¬ Canon (cd z) := fun q => n ⟨q.1, q.2.1⟩
      rwa [dB_f this] at k
    walk_at "T"
    cases e1 : Txt.isascii z with
    | false =>
      rw [e1, Bool.false_and] at fg
      walk_at "T"
      exact no fun q => Bool.false_ne_true (fg.mpr q)
    | true =>
      walk_at "T"
      rw [e1, Bool.true_and] at fg
      cases e2 : Txt.isdigit z with
      | false =>
        rw [e2] at fg
        walk_at "T"
        exact no fun q => Bool.false_ne_true (fg.mpr q)
      | true =>
        obtain ⟨n0, ad⟩ := fg.mp e2
        walk_at "T"
        refine r_iteD (fun c => ?_) fun c => ?_
        · have : Canon (cd z) := ⟨n0, ad, .inl (by rw [c]; exact l_zero)⟩
          rwa [dB_t this] at k
        · obtain ⟨c0, r, e⟩ : ∃ c r, cd z = c :: r := by
            cases q : cd z with
            | nil => exact absurd q n0
            | cons c r => exact ⟨c, r, rfl⟩
          walk_at "T"
          refine r_ixS (Nat.le_trans hz (by decide)) (c := c0) (by rw [show ((0 : Int)) = ((0 : Nat) : Int) from rfl, atI_nat]; show (cd z)[0]? = _; rw [e]; rfl) ?_
          walk_at "T"
          have q : (Canon (cd z)) ↔ ¬ ((⟨#[c0]⟩ : Str) = Str.ofString "0") := by
            rw [str_eq, l_zero, cd_one]
            constructor
            · rintro ⟨_, _, h⟩ e0
              rcases h with h | h
              · exact c (by rw [str_eq, l_zero]; exact h)
              · rw [e] at h
                exact h (by rw [show c0 = 48 by simpa using e0]; rfl)
            · intro h
              exact ⟨n0, ad, .inr (by rw [e]; simpa using h)⟩
          rw [not_dec]
          rwa [dB_dec q] at k
theorem ok_number_in (T : Tx K mg) {f f_are_figures : Addr} {fd fd_are_figures : FuncData} (F : Fun K "number_in" "number_in" s_number_in f fd) (D_are_figures : DAt K mg "_are_figures" s_are_figures P_are_figures f_are_figures fd_are_figures) : FnOk P w K mg base CX0 2 f fd P_number_in (spNumInT K) := by
  have G_are_figures : FnOk P w K mg base CX0 1 f_are_figures fd_are_figures P_are_figures spFigures := ok_are_figures T D_are_figures.fn
  refine F.ok sc_number_in (fun vs H Q E h => ?_) (fun cdv A outer s H vs Q E hr h => ?_)
  · obtain ⟨x, d, rfl, _⟩ := h
    rfl
  · obtain ⟨x, d, rfl, hx, k⟩ := h
    refine ⟨_, (pss_cons (ps_if (pt_not (pt_val (pe_callB (L2.call_isi : CallR _ _ (rIsi K)) (by rfl) T.z_isinstance (by decide +kernel) (pa_cons (pv 0) (pa_cons (pe_bltn (v := .ty "str") (u := .type "str") rfl T.z_str (by decide +kernel) rfl) pa_nil))))) (pss_one (ps_ret pe_non)) pss_nil) (pss_cons (ps_set (i := 1) sc_number_in.nd rfl (Or.inl rfl) (pe_m1 PySem.F.slot_str_startswith PySem.F.type_str_startswith mt_startswith (pv 0) pe_str)) (pss_cons (ps_set (i := 2) sc_number_in.nd rfl (Or.inl rfl) (pe_ifExp (pt_val (pv 1)) (pe_slice (sl_any : SlR _ (rSl K)) (pv 0) (po_some pe_int) po_none) (pv 0))) (pss_cons (ps_if (PW.pt (pw_or (pt_not (pt_val (pe_call G_are_figures (hr.mono (by decide)) rfl D_are_figures.gl D_are_figures.fn.kp D_are_figures.bd .nil pass0 (pa_cons (pv 2) pa_nil)))) (pw_or1 (PW.pt (pw_and (pt_val (pv 1)) (pw_and1 (pt_cmpR ((op_eqA hr.units) : OpR _ _ (rEqA K)) (pv 2) pe_str (nomark _)))))))) (pss_one (ps_ret pe_non)) pss_nil) (pss_cons (ps_if (pt_cmpR op_leA (pe_callB (call_lenA : CallR _ _ (J.rLen K)) (by rfl) T.z_len (by decide +kernel) (pa_cons (pv 2) pa_nil)) (pe_gI T.c_LOT_FIGURES rfl) (nomark _)) (pss_one (ps_ret (pe_callTy call_intS (by rfl) T.z_int (by decide +kernel) (pa_cons (pv 0) pa_nil)))) pss_nil) (pss_cons (ps_set (i := 3) sc_number_in.nd rfl (Or.inl rfl) pe_int) (pss_cons (ps_for (PassesOwn.never) rfl (pi_str (pv 2)) (pg_name (i := 4) sc_number_in.nd rfl (Or.inl rfl)) (pss_one (ps_set (i := 3) sc_number_in.nd rfl (Or.inl rfl) (pe_op (oAdd : OpR _ _ (J.rAdd K)) (pe_op oMul (pv 3) pe_int) (pe_callTy call_intS (by rfl) T.z_int (by decide +kernel) (pa_cons (pv 4) pa_nil)))))) (pss_one (ps_ret (pe_ifExp (pt_val (pv 1)) (pe_un L2.un_neg (pv 3)) (pv 3))))))))))), ?_⟩
    walk_at "T"
    refine hx.isS ?_
    cases hx with
    | non =>
      rw [show isSD PyData.none = false from rfl]
      walk_at "T"
      exact k
    | int i h =>
      rw [show isSD (PyData.int i) = false from rfl]
      walk_at "T"
      exact k
    | bl b =>
      rw [show isSD (PyData.bool b) = false from rfl]
      walk_at "T"
      exact k
    | lst h =>
      rw [show isSD (PyData.list [PyData.int 1]) = false from rfl]
      walk_at "T"
      exact k
    | @tup _ zs h hl hz =>
      rw [show isSD (PyData.tuple (zs.map dW)) = false from rfl]
      walk_at "T"
      exact k
    | str z hz c126 =>
    have hz' : z.length ≤ sizeLine := Nat.le_trans hz (by decide)
    have k : Q (optV (numV (cd z))) H := k
    rw [show isSD (PyData.str z) = true from rfl]
    walk_at "T"
    refine ⟨z, _, rfl, rfl, ?_⟩
    rw [starts_dec, l_min]
    refine r_gname ?_
    refine r_seqJ (fun σ' H' => ∃ (b : Bool) (fz : Str), σ' = [some (.str z), some (.bl b), some (.str fz), none, none] ∧ H' = H ∧ ((b = true ∧ (cd z).head? = some 45 ∧ cd fz = (cd z).tail) ∨ (b = false ∧ (cd z).head? ≠ some 45 ∧ fz = z))) (fun N hN => ?_) ?_
    · walk_at "T"
      refine r_iteD (fun c => ?_) fun c => ?_
      · walk_at "T"
        refine r_slS hz' ?_
        walk_at "T"
        exact hN _ _ ⟨true, _, by rw [decide_eq_true c]; rfl, rfl, .inl ⟨rfl, head_min.mp c, by rw [show (1 : Int) = ((1 : Nat) : Int) from rfl, cutS_drop, cd_S, List.drop_one]⟩⟩
      · walk_at "T"
        exact hN _ _ ⟨false, _, by rw [decide_eq_false c]; rfl, rfl, .inr ⟨rfl, fun q => c (head_min.mpr q), rfl⟩⟩
    rintro σ' H' ⟨b, fz, rfl, rfl, hb⟩
    have fl : fz.length ≤ z.length := by
      rcases hb with ⟨_, _, e⟩ | ⟨_, _, e⟩
      · rw [len_cd, len_cd, e, List.length_tail]; omega
      · rw [e]; exact Nat.le_refl _
    refine r_seqJ (fun σ' H2 => σ' = [some (.str z), some (.bl b), some (.str fz), none, none] ∧ H2 = H' ∧ M.Canon (cd fz) ∧ numV (cd z) = some (if b = true then -((PySem.NumText.digitsVal (cd fz) : Nat) : Int) else ((PySem.NumText.digitsVal (cd fz) : Nat) : Int))) (fun N hN => ?_) ?_
    · walk_at "T"
      refine ⟨fz, rfl, Nat.le_trans fl (Nat.le_trans hz (by decide)), ?_⟩
      walk_at "T"
      by_cases cn : M.Canon (cd fz)
      · rw [dB_t cn]
        walk_at "T"
        rcases hb with ⟨rfl, h1, e⟩ | ⟨rfl, h1, e⟩
        · walk_at "T"
          refine r_iteD (fun c => ?_) fun c => ?_
          · walk_at "T"
            rw [(numV_neg h1).2 fun q => q.2 (by rw [← e, c]; exact l_zero)] at k
            exact k
          · walk_at "T"
            exact hN _ _ ⟨rfl, rfl, cn, by rw [e] at cn ⊢; exact (numV_neg h1).1 ⟨cn, fun q => c (by rw [str_eq, e, q, l_zero])⟩⟩
        · walk_at "T"
          exact hN _ _ ⟨rfl, rfl, cn, by rw [e] at cn ⊢; exact (numV_pos h1).1 cn⟩
      · rw [dB_f cn]
        walk_at "T"
        have : numV (cd z) = none := by
          rcases hb with ⟨_, h1, e⟩ | ⟨_, h1, e⟩
          · exact (numV_neg h1).2 fun q => cn (by rw [e]; exact q.1)
          · exact (numV_pos h1).2 fun q => cn (by rw [e]; exact q)
        rw [this] at k
        exact k
    rintro σ' H2 ⟨rfl, rfl, cn, hn⟩
    rw [hn] at k
    have fl' : fz.length ≤ 50 := by omega
    have ad : PySem.NumText.AllDigits (cd fz) := cn.2.1
    walk_at "T"
    refine r_len (Nat.le_trans fl hz') ?_
    walk_at "T"
    refine r_iteD (fun c => ?_) fun c => ?_
    · walk_at "T"
      exact r_intS (int_dec (numV_some.mp hn) (by omega)) (by omega) k
    · walk_at "T"
      refine r_for (r_istr ?_)
      walk_at "T"
      refine ⟨fz, rfl, ?_⟩
      refine loop_seq (seqIt_s (z := fz)) (fun i σ H => ∃ o, H = H2 ∧ σ = [some (.str z), some (.bl b), some (.str fz), some (.int ((PySem.NumText.digitsVal ((cd fz).take i) : Nat) : Int)), o]) (fun i σ H ⟨o, e, _⟩ => by rw [e]; exact Same.refl _) ⟨none, rfl, rfl⟩ (fun i x σ1 H1 hx ⟨o, e, e1⟩ => ?_) fun σ1 H1 ⟨o, e, e1⟩ => ?_
      · subst e e1
        rw [List.getElem?_map] at hx
        cases hi : (cd fz)[i]? with
        | none => rw [hi] at hx; cases hx
        | some d =>
          rw [hi] at hx
          cases hx
          have dd := ad d (List.mem_of_getElem? hi)
          have li : i < (cd fz).length := (List.getElem?_eq_some_iff.mp hi).1
          have at_ : PySem.NumText.AllDigits ((cd fz).take i) := fun c hc => ad c (List.mem_of_mem_take hc)
          have small := pow50 (val_lt at_) (by rw [List.length_take, ← len_cd]; omega)
          walk_at "T"
          refine r_intS (one_digit dd) (by show (1 : Nat) ≤ 640; decide) ?_
          walk_at "T"
          exact ⟨_, rfl, by rw [take_snoc hi, val_snoc dd.1]; rfl⟩
      · subst e e1
        rw [List.length_map, List.take_length]
        cases b with
        | true =>
          walk_at "T"
          exact ⟨_, rfl, k⟩
        | false =>
          walk_at "T"
          exact k
end
end K60
namespace K60
open PySem PySem.Spec PyProof.Rows L2 J M
local macro_rules | `(tactic| walk_at "hp") => `(tactic| first | assumption | exact upd_same | (rw [upd_ne (by assumption)]; walk_at "hp") | (rw [upd_ne (Ne.symm (by assumption))]; walk_at "hp"))
local macro_rules | `(tactic| walk_at "s") => `(tactic| first
  | ((with_reducible refine' r_var ?h ?k); (case h => exact rfl))
  | (with_reducible refine r_c ?_)
  | (with_reducible refine r_op ?_)
  | (with_reducible refine r_un ?_)
  | (with_reducible refine r_seq ?_)
  | (with_reducible refine r_next ?_)
  | (with_reducible refine r_sets ?_)
  | (with_reducible refine r_gname ?_)
  | (with_reducible refine r_ifS ?_)
  | (with_reducible refine r_gsub ?_)
  | (with_reducible refine r_test ?_)
  | (with_reducible refine r_tb ?_)
  | (with_reducible refine r_not ?_)
  | (with_reducible refine r_and ?_)
  | (with_reducible refine r_or ?_)
  | (with_reducible refine r_andV ?_)
  | (with_reducible refine r_orV ?_)
  | (with_reducible refine r_notV ?_)
  | (with_reducible refine r_ifE ?_)
  | (with_reducible refine r_chain ?_)
  | (with_reducible refine r_cb ?_)
  | (with_reducible refine r_cons ?_)
  | (with_reducible refine r_nil ?_)
  | (with_reducible refine r_call ?_)
  | (with_reducible refine r_lst ?_)
  | (with_reducible refine r_tup ?_)
  | (with_reducible refine r_slice ?_)
  | (with_reducible refine r_nop ?_)
  | (with_reducible refine r_part ?_)
  | (with_reducible refine r_bm ?_)
  | (with_reducible refine r_m1 ?_)
  | (with_reducible refine r_m0 ?_)
  | (with_reducible refine r_is ?_)
  | (with_reducible refine r_maxD ?_)
  | (with_reducible refine r_orT ?_)
  | (with_reducible refine r_truN ?_)
  | (with_reducible refine r_intI ?_)
  | (with_reducible refine r_intB ?_)
  | (with_reducible refine r_max2 ?_)
  | (with_reducible refine r_min2 ?_)
  | (with_reducible refine r_yes ?_)
  | (with_reducible refine r_bl ?_)
  | (with_reducible refine iteT ?_)
  | (with_reducible refine iteF ?_)
  | (with_reducible refine r_iteNT ?_)
  | (with_reducible refine r_iteNF ?_)
  | (with_reducible refine r_minL ?_)
  | (with_reducible refine r_gcons ?_)
  | (with_reducible refine r_gnil ?_)
  | (with_reducible refine r_par ?_)
  | (with_reducible refine r_par3 ?_)
  | (with_reducible refine r_is2 ?_)
  | (with_reducible refine r_is3 ?_)
  | (with_reducible refine r_dget ?_)
  | (with_reducible refine r_callS ?_)
  | (with_reducible refine r_rz ?_)
  | (with_reducible refine r_rev ?_)
  | (with_reducible refine r_isI ?_)
  | (with_reducible refine r_isStr ?_)
  | (with_reducible refine r_ret ?_)
  | (with_reducible refine r_drop ?_)
  | (with_reducible refine r_rI0 ?_)
  | (with_reducible refine r_addI ?_)
  | ((with_reducible show rI (fun _ j => 0 < j) _ (.int _) (.int _) _ _); refine r_rI (by first | omega | decide) ?_)
  | ((with_reducible show rI CDiv _ (.int _) (.int _) _ _); refine r_rI (by constructor <;> omega) ?_)
  | ((with_reducible show rI CPow _ (.int _) (.int _) _ _); refine r_rI (by refine ⟨by decide, by decide, ?_⟩; omega) ?_)
  | ((with_reducible show rMul (.int _) (.int _) _ _); refine r_mulI (cmulW (by omega) (by omega)) ?_)
  | (with_reducible refine r_cmpI ?_)
  | (with_reducible refine r_cmpS ?_)
  | (with_reducible refine r_eqI ?_)
  | (with_reducible refine r_neI ?_)
  | (with_reducible refine r_eqS ?_)
  | (with_reducible refine r_neS ?_)
  | (with_reducible refine r_inSF ?_)
  | (with_reducible refine r_inST ?_)
  | (with_reducible refine r_isiStr ?_)
  | ((with_reducible show rIx _ (.ref _) (.int _) _ _); refine' r_ixL (SqL.of ?h) ?e ?_; (case h => walk_at "hp"); (case e => rfl))
  | ((with_reducible show rSetL (.ref _) (.int _) _ _ _); refine' r_setL ?h ?e ?_; (case h => walk_at "hp"); (case e => rfl)))
local macro_rules | `(tactic| walk_at "g") => `(tactic| repeat walk_at "s")
local macro_rules | `(tactic| walk_at "x") => `(tactic| first | omega | decide +kernel | (simp only [List.length_cons, List.length_nil]; omega))
local macro_rules | `(tactic| walk_at "T") => `(tactic| repeat (first
  | walk_at "s"
  | ((with_reducible show rIx _ (.ref _) (.int _) _ _); refine' r_ixTu (SqT.of ?h) ?e ?_; (case h => first | assumption | walk_at "hp"); (case e => rfl))
  | (with_reducible refine r_lenSet ?_)
  | (with_reducible refine r_asg2 ?_)
  | (with_reducible refine iteDT (by walk_at "x") ?_)
  | (with_reducible refine iteDF (by walk_at "x") ?_)
  | (with_reducible refine iteNT (by walk_at "x") ?_)
  | (with_reducible refine iteNF (by walk_at "x") ?_)))
section
variable {P : Program} {w : World} {K : PySem.W.Frag} {mg : Str → Option Value} {base : Heap}
theorem shw {ns : List (List Nat)} (h : ∀ l ∈ ns, ∀ c ∈ l, c ≤ 126) : SeqAt.shaped (.list (ns.map dW)) = true := by
  show (PyData.canLayAll0 (ns.map dW) && decide (PyData.depthAll (ns.map dW) + 1 ≤ 64)) = true
  rw [can_ws h, dep_ws]; rfl
theorem fit_num {lo hi : Int} {ws : List (List Nat)} {d : PyData} : fitB (.num lo hi) ws d = whD lo hi d := by
  unfold fitB
  rw [Bool.eq_iff_iff, dB_iff]
  constructor
  · rintro ⟨i, rfl, h1, h2⟩
    exact whD_t h1 h2
  · intro h
    cases d with
    | int i =>
      have h : (decide (lo ≤ i) && decide (i ≤ hi)) = true := h
      rw [Bool.and_eq_true, decide_eq_true_iff, decide_eq_true_iff] at h
      exact ⟨i, rfl, h.1, h.2⟩
    | _ => exact (Bool.false_ne_true h).elim
theorem fit_nam {ws : List (List Nat)} {d : PyData} : fitB .nam ws d = nmD d := by
  unfold fitB
  rw [Bool.eq_iff_iff, dB_iff]
  constructor
  · rintro ⟨z, rfl, h⟩
    exact isNm_iff.mpr h
  · intro h
    cases d with
    | str z => exact ⟨z, rfl, isNm_iff.mp h⟩
    | _ => exact (Bool.false_ne_true h).elim
theorem fit_txt {n : Int} {ws : List (List Nat)} {z : Str} (h : n ≤ 20) : fitB (.txt n) ws (.str z) = (wdD (.str z) && decide ((z.length : Int) ≤ n)) := by
  unfold fitB
  rw [Bool.eq_iff_iff, dB_iff, Bool.and_eq_true, decide_eq_true_iff]
  show _ ↔ (decide (z.length ≤ 40) && sg (cd z)) = true ∧ _
  rw [Bool.and_eq_true, decide_eq_true_iff, sg_iff]
  constructor
  · rintro ⟨y, e, h1, h2⟩
    injection e with e
    subst e
    exact ⟨⟨by omega, h2⟩, h1⟩
  · rintro ⟨⟨_, h2⟩, h1⟩
    exact ⟨z, rfl, h1, h2⟩
theorem fit_not {n : Int} {ws : List (List Nat)} {d : PyData} (h : ∀ z, d ≠ .str z) : fitB (.txt n) ws d = false := dB_f fun ⟨z, e, _⟩ => h z e
theorem ok_fits (T : Tx K mg) {f f_is_name f_is_whole f_is_word f_are_signs : Addr} {fd fd_is_name fd_is_whole fd_is_word fd_are_signs : FuncData} (F : Fun K "fits" "fits" s_fits f fd)
    (D_is_name : DAt K mg "is_name" s_is_name P_is_name f_is_name fd_is_name)
    (D_is_whole : DAt K mg "is_whole" s_is_whole P_is_whole f_is_whole fd_is_whole)
    (D_is_word : DAt K mg "is_word" s_is_word P_is_word f_is_word fd_is_word)
    (D_are_signs : DAt K mg "are_signs" s_are_signs P_are_signs f_are_signs fd_are_signs) : FnOk P w K mg base CX0 3 f fd P_fits (spFitsT K) := by
  have G_is_name : FnOk P w K mg base CX0 1 f_is_name fd_is_name P_is_name (spNameT K) := ok_is_name T D_is_name.fn
  have G_is_whole : FnOk P w K mg base CX0 1 f_is_whole fd_is_whole P_is_whole (spWholeT K) := ok_is_whole T D_is_whole.fn
  have G_is_word : FnOk P w K mg base CX0 2 f_is_word fd_is_word P_is_word (spWordT K) := ok_is_word T D_is_word.fn D_are_signs
  refine F.ok sc_fits (fun vs H Q E h => ?_) (fun cdv A outer s H vs Q E hr h => ?_)
  · obtain ⟨a, b, kd, ws, x, d, rfl, _⟩ := h
    rfl
  · obtain ⟨a, b, kd, ws, x, d, rfl, ⟨ha, ok, hb, ow, hx⟩, k⟩ := h
    refine ⟨_, (pss_cons (ps_if (pt_cmpR ((op_eqA hr.units) : OpR _ _ (rEqA K)) (pe_ix (ix_seq : IxR _ (rIx K)) (pv 0) pe_int (fun _ _ => rfl)) pe_str (nomark _)) (pss_one (ps_ret (pe_call G_is_whole (hr.mono (by decide)) rfl D_is_whole.gl D_is_whole.fn.kp D_is_whole.bd .nil pass0 (pa_cons (pv 1) (pa_cons (pe_ix (ix_seq : IxR _ (rIx K)) (pv 0) pe_int (fun _ _ => rfl)) (pa_cons (pe_ix (ix_seq : IxR _ (rIx K)) (pv 0) pe_int (fun _ _ => rfl)) pa_nil)))))) pss_nil) (pss_cons (ps_if (pt_cmpR ((op_eqA hr.units) : OpR _ _ (rEqA K)) (pe_ix (ix_seq : IxR _ (rIx K)) (pv 0) pe_int (fun _ _ => rfl)) pe_str (nomark _)) (pss_one (ps_ret (pe_call G_is_name (hr.mono (by decide)) rfl D_is_name.gl D_is_name.fn.kp D_is_name.bd .nil pass0 (pa_cons (pv 1) pa_nil)))) pss_nil) (pss_cons (ps_if (pt_cmpR ((op_eqA hr.units) : OpR _ _ (rEqA K)) (pe_ix (ix_seq : IxR _ (rIx K)) (pv 0) pe_int (fun _ _ => rfl)) pe_str (nomark _)) (pss_one (ps_ret (pe_and (pe_call G_is_word (hr.mono (by decide)) rfl D_is_word.gl D_is_word.fn.kp D_is_word.bd .nil pass0 (pa_cons (pv 1) pa_nil)) (pe_one (pe_cmpR op_leA (pe_callB (call_lenA : CallR _ _ (J.rLen K)) (by rfl) T.z_len (by decide +kernel) (pa_cons (pv 1) pa_nil)) (pe_ix (ix_seq : IxR _ (rIx K)) (pv 0) pe_int (fun _ _ => rfl)) (nomark _)))))) pss_nil) (pss_one (ps_ret (pe_cmpR (op_inX (room_65 hr) : OpR _ _ (rInX K)) (pv 1) (pe_ifExp (pt_cmpR ((op_eqA hr.units) : OpR _ _ (rEqA K)) (pe_ix (ix_seq : IxR _ (rIx K)) (pv 0) pe_int (fun _ _ => rfl)) pe_str (nomark _)) (pe_ix (ix_seq : IxR _ (rIx K)) (pv 0) pe_int (fun _ _ => rfl)) (pv 2)) (by rfl))))))), ?_⟩
    have inx : ∀ (c : Addr) (ns : List (List Nat)) (N : VK), OwAt K H c ns → (∀ n ∈ ns, ∀ c ∈ n, c ≤ 126) → N (.bl (dB (∃ n ∈ ns, d = dW n))) H → rInX K x (.ref c) H N :=
      fun c ns N hc hn k => ⟨d, ns.map dW, hx.dp, hc.imp (fun h => .lst h (dp_all _)) (fun h => .tup h (dp_all _)), hx.sh, shw hn, by rw [any_fit hx]; exact k⟩
    cases kd with
    | num lo hi =>
      have ha : H a = some (.tup [.str "number", .int lo, .int hi]) := ha
      walk_at "T"
      rw [fit_num] at k
      exact ⟨x, d, lo, hi, rfl, hx, k⟩
    | nam =>
      have ha : H a = some (.tup [.str "name"]) := ha
      walk_at "T"
      rw [fit_nam] at k
      exact ⟨x, d, rfl, hx, k⟩
    | txt n =>
      have ha : H a = some (.tup [.str "text", .int n]) := ha
      obtain ⟨o1, o2⟩ := ok
      walk_at "T"
      refine ⟨x, d, rfl, hx, ?_⟩
      refine ⟨_, rfl, ?_⟩
      cases hx with
      | str z hz hc =>
        rw [fit_txt o2] at k
        refine r_ite (fun e => ?_) fun e => ?_
        · rw [e, Bool.true_and] at k
          walk_at "T"
          refine r_len (Nat.le_trans hz (by decide)) ?_
          walk_at "T"
          exact k
        · rw [e, Bool.false_and] at k
          exact k
      | non => rw [fit_not fun z e => PyData.noConfusion e] at k; exact iteF k
      | int i h => rw [fit_not fun z e => PyData.noConfusion e] at k; exact iteF k
      | bl c => rw [fit_not fun z e => PyData.noConfusion e] at k; exact iteF k
      | lst h => rw [fit_not fun z e => PyData.noConfusion e] at k; exact iteF k
      | tup h hl hz => rw [fit_not fun z e => PyData.noConfusion e] at k; exact iteF k
    | one ns =>
      obtain ⟨c, ha, hc⟩ := ha
      obtain ⟨o1, o2, o3, o4⟩ := ok
      walk_at "T"
      exact inx c ns _ (.inr (SqT.of hc)) (fun n hn c hc => by have := (o3 n hn).2.2 c hc; omega) k
    | own nm =>
      have ha : H a = some (.tup [.str "own", .str (S nm)]) := ha
      walk_at "T"
      exact inx b ws _ hb (fun n hn c hc => ((ow.2.1 n hn).2.2 c hc).2) k
theorem ok_words_of (T : Tx K mg) {f : Addr} {fd : FuncData} (F : Fun K "words_of" "words_of" s_words_of f fd) : FnOk P w K mg base CX0 1 f fd P_words_of (spWordsOf K) := by
  refine F.ok sc_words_of (fun vs H Q E h => ?_) (fun cdv A outer s H vs Q E hr h => ?_)
  · obtain ⟨a, b, kd, ws, rfl, _⟩ := h
    rfl
  · obtain ⟨a, b, kd, ws, rfl, ha, hb, k⟩ := h
    refine ⟨_, (pss_cons (ps_if (pt_cmpR ((op_eqA hr.units) : OpR _ _ (rEqA K)) (pe_ix (ix_seq : IxR _ (rIx K)) (pv 0) pe_int (fun _ _ => rfl)) pe_str (nomark _)) (pss_one (ps_ret (pe_callTy (call_listA : CallR _ _ (rListOf K)) (by rfl) T.z_list (by decide +kernel) (pa_cons (pe_ix (ix_seq : IxR _ (rIx K)) (pv 0) pe_int (fun _ _ => rfl)) pa_nil)))) pss_nil) (pss_one (ps_ret (pe_ifExp (pt_cmpR ((op_eqA hr.units) : OpR _ _ (rEqA K)) (pe_ix (ix_seq : IxR _ (rIx K)) (pv 0) pe_int (fun _ _ => rfl)) pe_str (nomark _)) (pe_callTy (call_listA : CallR _ _ (rListOf K)) (by rfl) T.z_list (by decide +kernel) (pa_cons (pv 1) pa_nil)) (pe_lst pa_nil))))), ?_⟩
    cases kd with
    | num lo hi =>
      have ha : H a = some (.tup [.str "number", .int lo, .int hi]) := ha
      walk_at "T"
      exact ⟨show 0 ≤ sizeLine by decide, k⟩
    | nam =>
      have ha : H a = some (.tup [.str "name"]) := ha
      walk_at "T"
      exact ⟨show 0 ≤ sizeLine by decide, k⟩
    | txt n =>
      have ha : H a = some (.tup [.str "text", .int n]) := ha
      walk_at "T"
      exact ⟨show 0 ≤ sizeLine by decide, k⟩
    | one ns =>
      obtain ⟨c, ha, hc⟩ := ha
      walk_at "T"
      exact r_listOf (.inr (SqT.of hc)) k
    | own nm =>
      have ha : H a = some (.tup [.str "own", .str (S nm)]) := ha
      walk_at "T"
      exact r_listOf hb k
end
end K60
namespace K60
open PySem PySem.Spec PyProof.Rows L2 J M
local macro_rules | `(tactic| walk_at "hp") => `(tactic| first | assumption | exact upd_same | (rw [upd_ne (by assumption)]; walk_at "hp") | (rw [upd_ne (Ne.symm (by assumption))]; walk_at "hp"))
local macro_rules | `(tactic| walk_at "s") => `(tactic| first
  | ((with_reducible refine' r_var ?h ?k); (case h => exact rfl))
  | (with_reducible refine r_c ?_)
  | (with_reducible refine r_op ?_)
  | (with_reducible refine r_un ?_)
  | (with_reducible refine r_seq ?_)
  | (with_reducible refine r_next ?_)
  | (with_reducible refine r_sets ?_)
  | (with_reducible refine r_gname ?_)
  | (with_reducible refine r_ifS ?_)
  | (with_reducible refine r_gsub ?_)
  | (with_reducible refine r_test ?_)
  | (with_reducible refine r_tb ?_)
  | (with_reducible refine r_not ?_)
  | (with_reducible refine r_and ?_)
  | (with_reducible refine r_or ?_)
  | (with_reducible refine r_andV ?_)
  | (with_reducible refine r_orV ?_)
  | (with_reducible refine r_notV ?_)
  | (with_reducible refine r_ifE ?_)
  | (with_reducible refine r_chain ?_)
  | (with_reducible refine r_cb ?_)
  | (with_reducible refine r_cons ?_)
  | (with_reducible refine r_nil ?_)
  | (with_reducible refine r_call ?_)
  | (with_reducible refine r_lst ?_)
  | (with_reducible refine r_tup ?_)
  | (with_reducible refine r_slice ?_)
  | (with_reducible refine r_nop ?_)
  | (with_reducible refine r_part ?_)
  | (with_reducible refine r_bm ?_)
  | (with_reducible refine r_m1 ?_)
  | (with_reducible refine r_m0 ?_)
  | (with_reducible refine r_is ?_)
  | (with_reducible refine r_maxD ?_)
  | (with_reducible refine r_orT ?_)
  | (with_reducible refine r_truN ?_)
  | (with_reducible refine r_intI ?_)
  | (with_reducible refine r_intB ?_)
  | (with_reducible refine r_max2 ?_)
  | (with_reducible refine r_min2 ?_)
  | (with_reducible refine r_yes ?_)
  | (with_reducible refine r_bl ?_)
  | (with_reducible refine iteT ?_)
  | (with_reducible refine iteF ?_)
  | (with_reducible refine r_iteNT ?_)
  | (with_reducible refine r_iteNF ?_)
  | (with_reducible refine r_minL ?_)
  | (with_reducible refine r_gcons ?_)
  | (with_reducible refine r_gnil ?_)
  | (with_reducible refine r_par ?_)
  | (with_reducible refine r_par3 ?_)
  | (with_reducible refine r_is2 ?_)
  | (with_reducible refine r_is3 ?_)
  | (with_reducible refine r_dget ?_)
  | (with_reducible refine r_callS ?_)
  | (with_reducible refine r_rz ?_)
  | (with_reducible refine r_rev ?_)
  | (with_reducible refine r_isI ?_)
  | (with_reducible refine r_isStr ?_)
  | (with_reducible refine r_ret ?_)
  | (with_reducible refine r_drop ?_)
  | (with_reducible refine r_rI0 ?_)
  | (with_reducible refine r_addI ?_)
  | ((with_reducible show rI (fun _ j => 0 < j) _ (.int _) (.int _) _ _); refine r_rI (by first | omega | decide) ?_)
  | ((with_reducible show rI CDiv _ (.int _) (.int _) _ _); refine r_rI (by constructor <;> omega) ?_)
  | ((with_reducible show rI CPow _ (.int _) (.int _) _ _); refine r_rI (by refine ⟨by decide, by decide, ?_⟩; omega) ?_)
  | ((with_reducible show rMul (.int _) (.int _) _ _); refine r_mulI (cmulW (by omega) (by omega)) ?_)
  | (with_reducible refine r_cmpI ?_)
  | (with_reducible refine r_cmpS ?_)
  | (with_reducible refine r_eqI ?_)
  | (with_reducible refine r_neI ?_)
  | (with_reducible refine r_eqS ?_)
  | (with_reducible refine r_neS ?_)
  | (with_reducible refine r_inSF ?_)
  | (with_reducible refine r_inST ?_)
  | (with_reducible refine r_isiStr ?_)
  | ((with_reducible show rIx _ (.ref _) (.int _) _ _); refine' r_ixL (SqL.of ?h) ?e ?_; (case h => walk_at "hp"); (case e => rfl))
  | ((with_reducible show rSetL (.ref _) (.int _) _ _ _); refine' r_setL ?h ?e ?_; (case h => walk_at "hp"); (case e => rfl)))
local macro_rules | `(tactic| walk_at "g") => `(tactic| repeat walk_at "s")
local macro_rules | `(tactic| walk_at "x") => `(tactic| first | omega | decide +kernel | (simp only [List.length_cons, List.length_nil]; omega))
local macro_rules | `(tactic| walk_at "T") => `(tactic| repeat (first
  | walk_at "s"
  | ((with_reducible show rIx _ (.ref _) (.int _) _ _); refine' r_ixTu (SqT.of ?h) ?e ?_; (case h => first | assumption | walk_at "hp"); (case e => rfl))
  | (with_reducible refine r_lenSet ?_)
  | (with_reducible refine r_asg2 ?_)
  | (with_reducible refine iteDT (by walk_at "x") ?_)
  | (with_reducible refine iteDF (by walk_at "x") ?_)
  | (with_reducible refine iteNT (by walk_at "x") ?_)
  | (with_reducible refine iteNF (by walk_at "x") ?_)))
section
variable {P : Program} {w : World} {K : PySem.W.Frag} {mg : Str → Option Value} {base : Heap}
theorem dat_num {K : PySem.W.Frag} {H : Hp} {x : V} {d : PyData} {v : Int} (t : Tg K H x d) (h : numD d = .int v) : v.natAbs ≤ 10 ^ 60 := by
  cases t with
  | str z hz hc =>
    have h : optV (numV (cd z)) = .int v := h
    cases q : numV (cd z) with
    | none => rw [q] at h; cases h
    | some n =>
      rw [q] at h
      have h : V.int n = V.int v := h
      injection h with h
      subst h
      have ln := len_cd z
      have bound : ∀ l : List Nat, PySem.NumText.AllDigits l → l.length ≤ 50 → PySem.NumText.digitsVal l ≤ 10 ^ 60 := fun l ad hl => Nat.le_of_lt (Nat.lt_of_lt_of_le (val_lt ad) (Nat.pow_le_pow_right (by decide) (by omega)))
      by_cases c : (cd z).head? = some 45
      · by_cases e : M.Canon (cd z).tail ∧ (cd z).tail ≠ [48]
        · rw [(numV_neg c).1 e] at q
          injection q with q
          subst q
          rw [Int.natAbs_neg, Int.natAbs_natCast]
          exact bound _ e.1.2.1 (by rw [List.length_tail]; omega)
        · rw [(numV_neg c).2 e] at q
          cases q
      · by_cases e : M.Canon (cd z)
        · rw [(numV_pos c).1 e] at q
          injection q with q
          subst q
          rw [Int.natAbs_natCast]
          exact bound _ e.2.1 (by omega)
        · rw [(numV_pos c).2 e] at q
          cases q
  | non => cases h
  | int i _ => cases h
  | bl c => cases h
  | lst _ => cases h
  | tup _ _ _ => cases h
theorem numD_form (d : PyData) : numD d = .non ∨ ∃ n, numD d = .int n := by
  cases d with
  | str z =>
    show optV (numV (cd z)) = .non ∨ ∃ n, optV (numV (cd z)) = .int n
    cases numV (cd z) with
    | none => exact .inl rfl
    | some n => exact .inr ⟨n, rfl⟩
  | _ => exact .inl rfl
theorem ok_worth_of (T : Tx K mg) {f f_look_at_kinds f_is_kind f_are_own_words f_is_name f_are_unlike f_is_whole f_are_bounds f_are_choices f_is_word f_are_signs f_fits f_number_in f_are_figures : Addr} {fd fd_look_at_kinds fd_is_kind fd_are_own_words fd_is_name fd_are_unlike fd_is_whole fd_are_bounds fd_are_choices fd_is_word fd_are_signs fd_fits fd_number_in fd_are_figures : FuncData} (F : Fun K "worth_of" "worth_of" s_worth_of f fd)
    (D_look_at_kinds : DAl K mg "look_at_kinds" "_look_at" s_look_at_kinds P_look_at_kinds f_look_at_kinds fd_look_at_kinds)
    (D_is_kind : DAt K mg "is_kind" s_is_kind P_is_kind f_is_kind fd_is_kind)
    (D_are_own_words : DAt K mg "are_own_words" s_are_own_words P_are_own_words f_are_own_words fd_are_own_words)
    (D_is_name : DAt K mg "is_name" s_is_name P_is_name f_is_name fd_is_name)
    (D_are_unlike : DAt K mg "are_unlike" s_are_unlike P_are_unlike f_are_unlike fd_are_unlike)
    (D_is_whole : DAt K mg "is_whole" s_is_whole P_is_whole f_is_whole fd_is_whole)
    (D_are_bounds : DAt K mg "_are_bounds" s_are_bounds P_are_bounds f_are_bounds fd_are_bounds)
    (D_are_choices : DAt K mg "_are_choices" s_are_choices P_are_choices f_are_choices fd_are_choices)
    (D_is_word : DAt K mg "is_word" s_is_word P_is_word f_is_word fd_is_word)
    (D_are_signs : DAt K mg "are_signs" s_are_signs P_are_signs f_are_signs fd_are_signs)
    (D_fits : DAt K mg "fits" s_fits P_fits f_fits fd_fits)
    (D_number_in : DAt K mg "number_in" s_number_in P_number_in f_number_in fd_number_in)
    (D_are_figures : DAt K mg "_are_figures" s_are_figures P_are_figures f_are_figures fd_are_figures) : FnOk P w K mg base CX0 5 f fd P_worth_of (spWorthOf K) := by
  have G_look_at_kinds : FnOk P w K mg base CX0 4 f_look_at_kinds fd_look_at_kinds P_look_at_kinds (spLook K) := ok_look_at T D_look_at_kinds.fn D_is_kind D_are_own_words D_is_name D_are_unlike D_is_whole D_are_bounds D_are_choices D_is_word D_are_signs
  have G_fits : FnOk P w K mg base CX0 3 f_fits fd_fits P_fits (spFitsT K) := ok_fits T D_fits.fn D_is_name D_is_whole D_is_word D_are_signs
  have G_number_in : FnOk P w K mg base CX0 2 f_number_in fd_number_in P_number_in (spNumInT K) := ok_number_in T D_number_in.fn D_are_figures
  refine F.ok sc_worth_of (fun vs H Q E h => ?_) (fun cdv A outer s H vs Q E hr h => ?_)
  · obtain ⟨a, b, kd, ws, x, d, rfl, _⟩ := h
    rfl
  · obtain ⟨a, b, kd, ws, x, d, rfl, at_, k⟩ := h
    have ⟨ha, ok, hb, ow, hx⟩ := at_
    refine ⟨_, (pss_cons (ps_expr (pe_call G_look_at_kinds (hr.mono (by decide)) rfl D_look_at_kinds.gl D_look_at_kinds.fn.kp D_look_at_kinds.bd .nil pass0 (pa_cons (pv 0) (pa_cons (pv 2) pa_nil)))) (pss_cons (ps_set (i := 3) sc_worth_of.nd rfl (Or.inl rfl) (pe_ifExp (pt_cmpR ((op_eqA hr.units) : OpR _ _ (rEqA K)) (pe_ix (ix_seq : IxR _ (rIx K)) (pv 0) pe_int (fun _ _ => rfl)) pe_str (nomark _)) (pe_call G_number_in (hr.mono (by decide)) rfl D_number_in.gl D_number_in.fn.kp D_number_in.bd .nil pass0 (pa_cons (pv 1) pa_nil)) (pv 1))) (pss_one (ps_ret (pe_ifExp (pt_val (pe_call G_fits (hr.mono (by decide)) rfl D_fits.gl D_fits.fn.kp D_fits.bd .nil pass0 (pa_cons (pv 0) (pa_cons (pv 3) (pa_cons (pv 2) pa_nil))))) (pv 3) pe_non))))), ?_⟩
    walk_at "T"
    refine ⟨a, b, kd, ws, rfl, ha, ok, hb, ow, fun H' s => ?_⟩
    have at2 := at_.same s
    walk_at "T"
    have ha := at2.1
    have k := k H' s
    have got : ∀ kd, Fit ws d kd → (∀ lo hi, kd ≠ .num lo hi) → datV d = x := fun kd f n => by
      have st : ∀ z, d = .str z → datV d = x := fun z e => by subst e; cases hx; rfl
      cases kd with
      | num lo hi => exact absurd rfl (n lo hi)
      | one ns => obtain ⟨l, _, e⟩ := f; exact st _ e
      | nam => obtain ⟨z, e, _⟩ := f; exact st _ e
      | txt n => obtain ⟨z, e, _⟩ := f; exact st _ e
      | own nm => obtain ⟨l, _, e⟩ := f; exact st _ e
    cases kd with
    | num lo hi =>
      have ha : H' a = some (.tup [.str "number", .int lo, .int hi]) := ha
      walk_at "T"
      refine ⟨x, d, rfl, hx.same s, ?_⟩
      rcases numD_form d with q | ⟨n, q⟩
      · have k : Q .non H' := by
          have k : Q (match numD d with
            | .int n => if lo ≤ n ∧ n ≤ hi then .int n else .non
            | _ => .non) H' := k
          rw [q] at k
          exact k
        rw [q]
        walk_at "T"
        refine ⟨a, b, .num lo hi, ws, .non, .none, rfl, ⟨at2.1, at2.2.1, at2.2.2.1, at2.2.2.2.1, .non⟩, ?_⟩
        have e : fitB (.num lo hi) ws .none = false := dB_f fun ⟨i, e, h⟩ => PyData.noConfusion e
        rw [e]
        walk_at "T"
        exact k
      · have k : Q (if lo ≤ n ∧ n ≤ hi then .int n else .non) H' := by
          have k : Q (match numD d with
            | .int n => if lo ≤ n ∧ n ≤ hi then .int n else .non
            | _ => .non) H' := k
          rw [q] at k
          exact k
        rw [q]
        walk_at "T"
        refine ⟨a, b, .num lo hi, ws, .int n, .int n, rfl, ⟨at2.1, at2.2.1, at2.2.2.1, at2.2.2.2.1, .int n (dat_num hx q)⟩, ?_⟩
        have e : fitB (.num lo hi) ws (.int n) = decide (lo ≤ n ∧ n ≤ hi) := dB_dec ⟨fun ⟨i, e, h⟩ => by injection e with e; subst e; exact h, fun h => ⟨n, rfl, h⟩⟩
        rw [e]
        by_cases c : lo ≤ n ∧ n ≤ hi
        · rw [if_pos c] at k
          rw [decide_eq_true c]
          walk_at "T"
          exact k
        · rw [if_neg c] at k
          rw [decide_eq_false c]
          walk_at "T"
          exact k
    | nam =>
      have ha : H' a = some (.tup [.str "name"]) := ha
      have k1 : fitB _ ws d = true → Q (datV d) H' := fun e => by have k : Q (if fitB _ ws d = true then datV d else .non) H' := k; rw [if_pos e] at k; exact k
      have k2 : fitB _ ws d = false → Q .non H' := fun e => by have k : Q (if fitB _ ws d = true then datV d else .non) H' := k; rw [if_neg (by rw [e]; exact Bool.false_ne_true)] at k; exact k
      walk_at "T"
      refine ⟨a, b, _, ws, x, d, rfl, at2, ?_⟩
      walk_at "T"
      refine r_ite (fun e => ?_) fun e => ?_
      · walk_at "T"
        rw [← got _ (dB_iff.mp e) fun _ _ e => Kd.noConfusion e]
        exact k1 e
      · walk_at "T"
        exact k2 e
    | txt n =>
      have ha : H' a = some (.tup [.str "text", .int n]) := ha
      have k1 : fitB _ ws d = true → Q (datV d) H' := fun e => by have k : Q (if fitB _ ws d = true then datV d else .non) H' := k; rw [if_pos e] at k; exact k
      have k2 : fitB _ ws d = false → Q .non H' := fun e => by have k : Q (if fitB _ ws d = true then datV d else .non) H' := k; rw [if_neg (by rw [e]; exact Bool.false_ne_true)] at k; exact k
      walk_at "T"
      refine ⟨a, b, _, ws, x, d, rfl, at2, ?_⟩
      walk_at "T"
      refine r_ite (fun e => ?_) fun e => ?_
      · walk_at "T"
        rw [← got _ (dB_iff.mp e) fun _ _ e => Kd.noConfusion e]
        exact k1 e
      · walk_at "T"
        exact k2 e
    | one ns =>
      obtain ⟨c, ha, hc⟩ := ha
      have k1 : fitB _ ws d = true → Q (datV d) H' := fun e => by have k : Q (if fitB _ ws d = true then datV d else .non) H' := k; rw [if_pos e] at k; exact k
      have k2 : fitB _ ws d = false → Q .non H' := fun e => by have k : Q (if fitB _ ws d = true then datV d else .non) H' := k; rw [if_neg (by rw [e]; exact Bool.false_ne_true)] at k; exact k
      walk_at "T"
      refine ⟨a, b, _, ws, x, d, rfl, at2, ?_⟩
      walk_at "T"
      refine r_ite (fun e => ?_) fun e => ?_
      · walk_at "T"
        rw [← got _ (dB_iff.mp e) fun _ _ e => Kd.noConfusion e]
        exact k1 e
      · walk_at "T"
        exact k2 e
    | own nm =>
      have ha : H' a = some (.tup [.str "own", .str (S nm)]) := ha
      have k1 : fitB _ ws d = true → Q (datV d) H' := fun e => by have k : Q (if fitB _ ws d = true then datV d else .non) H' := k; rw [if_pos e] at k; exact k
      have k2 : fitB _ ws d = false → Q .non H' := fun e => by have k : Q (if fitB _ ws d = true then datV d else .non) H' := k; rw [if_neg (by rw [e]; exact Bool.false_ne_true)] at k; exact k
      walk_at "T"
      refine ⟨a, b, _, ws, x, d, rfl, at2, ?_⟩
      walk_at "T"
      refine r_ite (fun e => ?_) fun e => ?_
      · walk_at "T"
        rw [← got _ (dB_iff.mp e) fun _ _ e => Kd.noConfusion e]
        exact k1 e
      · walk_at "T"
        exact k2 e
end
end K60
namespace K60
open PySem PySem.Spec PyProof.Rows L2 J M
local macro_rules | `(tactic| walk_at "hp") => `(tactic| first | assumption | exact upd_same | (rw [upd_ne (by assumption)]; walk_at "hp") | (rw [upd_ne (Ne.symm (by assumption))]; walk_at "hp"))
local macro_rules | `(tactic| walk_at "s") => `(tactic| first
  | ((with_reducible refine' r_var ?h ?k); (case h => exact rfl))
  | (with_reducible refine r_c ?_)
  | (with_reducible refine r_op ?_)
  | (with_reducible refine r_un ?_)
  | (with_reducible refine r_seq ?_)
  | (with_reducible refine r_next ?_)
  | (with_reducible refine r_sets ?_)
  | (with_reducible refine r_gname ?_)
  | (with_reducible refine r_ifS ?_)
  | (with_reducible refine r_gsub ?_)
  | (with_reducible refine r_test ?_)
  | (with_reducible refine r_tb ?_)
  | (with_reducible refine r_not ?_)
  | (with_reducible refine r_and ?_)
  | (with_reducible refine r_or ?_)
  | (with_reducible refine r_andV ?_)
  | (with_reducible refine r_orV ?_)
  | (with_reducible refine r_notV ?_)
  | (with_reducible refine r_ifE ?_)
  | (with_reducible refine r_chain ?_)
  | (with_reducible refine r_cb ?_)
  | (with_reducible refine r_cons ?_)
  | (with_reducible refine r_nil ?_)
  | (with_reducible refine r_call ?_)
  | (with_reducible refine r_lst ?_)
  | (with_reducible refine r_tup ?_)
  | (with_reducible refine r_slice ?_)
  | (with_reducible refine r_nop ?_)
  | (with_reducible refine r_part ?_)
  | (with_reducible refine r_bm ?_)
  | (with_reducible refine r_m1 ?_)
  | (with_reducible refine r_m0 ?_)
  | (with_reducible refine r_is ?_)
  | (with_reducible refine r_maxD ?_)
  | (with_reducible refine r_orT ?_)
  | (with_reducible refine r_truN ?_)
  | (with_reducible refine r_intI ?_)
  | (with_reducible refine r_intB ?_)
  | (with_reducible refine r_max2 ?_)
  | (with_reducible refine r_min2 ?_)
  | (with_reducible refine r_yes ?_)
  | (with_reducible refine r_bl ?_)
  | (with_reducible refine iteT ?_)
  | (with_reducible refine iteF ?_)
  | (with_reducible refine r_iteNT ?_)
  | (with_reducible refine r_iteNF ?_)
  | (with_reducible refine r_minL ?_)
  | (with_reducible refine r_gcons ?_)
  | (with_reducible refine r_gnil ?_)
  | (with_reducible refine r_par ?_)
  | (with_reducible refine r_par3 ?_)
  | (with_reducible refine r_is2 ?_)
  | (with_reducible refine r_is3 ?_)
  | (with_reducible refine r_dget ?_)
  | (with_reducible refine r_callS ?_)
  | (with_reducible refine r_rz ?_)
  | (with_reducible refine r_rev ?_)
  | (with_reducible refine r_isI ?_)
  | (with_reducible refine r_isStr ?_)
  | (with_reducible refine r_ret ?_)
  | (with_reducible refine r_drop ?_)
  | (with_reducible refine r_rI0 ?_)
  | (with_reducible refine r_addI ?_)
  | ((with_reducible show rI (fun _ j => 0 < j) _ (.int _) (.int _) _ _); refine r_rI (by first | omega | decide) ?_)
  | ((with_reducible show rI CDiv _ (.int _) (.int _) _ _); refine r_rI (by constructor <;> omega) ?_)
  | ((with_reducible show rI CPow _ (.int _) (.int _) _ _); refine r_rI (by refine ⟨by decide, by decide, ?_⟩; omega) ?_)
  | ((with_reducible show rMul (.int _) (.int _) _ _); refine r_mulI (cmulW (by omega) (by omega)) ?_)
  | (with_reducible refine r_cmpI ?_)
  | (with_reducible refine r_cmpS ?_)
  | (with_reducible refine r_eqI ?_)
  | (with_reducible refine r_neI ?_)
  | (with_reducible refine r_eqS ?_)
  | (with_reducible refine r_neS ?_)
  | (with_reducible refine r_inSF ?_)
  | (with_reducible refine r_inST ?_)
  | (with_reducible refine r_isiStr ?_)
  | ((with_reducible show rIx _ (.ref _) (.int _) _ _); refine' r_ixL (SqL.of ?h) ?e ?_; (case h => walk_at "hp"); (case e => rfl))
  | ((with_reducible show rSetL (.ref _) (.int _) _ _ _); refine' r_setL ?h ?e ?_; (case h => walk_at "hp"); (case e => rfl)))
local macro_rules | `(tactic| walk_at "g") => `(tactic| repeat walk_at "s")
local macro_rules | `(tactic| walk_at "x") => `(tactic| first | omega | decide +kernel | (simp only [List.length_cons, List.length_nil]; omega))
local macro_rules | `(tactic| walk_at "T") => `(tactic| repeat (first
  | walk_at "s"
  | ((with_reducible show rIx _ (.ref _) (.int _) _ _); refine' r_ixTu (SqT.of ?h) ?e ?_; (case h => first | assumption | walk_at "hp"); (case e => rfl))
  | (with_reducible refine r_lenSet ?_)
  | (with_reducible refine r_asg2 ?_)
  | (with_reducible refine iteDT (by walk_at "x") ?_)
  | (with_reducible refine iteDF (by walk_at "x") ?_)
  | (with_reducible refine iteNT (by walk_at "x") ?_)
  | (with_reducible refine iteNF (by walk_at "x") ?_)))
section
variable {P : Program} {w : World} {K : PySem.W.Frag} {mg : Str → Option Value} {base : Heap}
theorem ok_worths (T : Tx K mg) {f_worth_of : Addr} {fd_worth_of : FuncData} (D_worth_of : DKwo K mg "worth_of" s_worth_of P_worth_of f_worth_of fd_worth_of) {f f_look_at_kinds f_is_kind f_are_own_words f_is_name f_are_unlike f_is_whole f_are_bounds f_are_choices f_is_word f_are_signs f_fits f_number_in f_are_figures : Addr} {fd fd_look_at_kinds fd_is_kind fd_are_own_words fd_is_name fd_are_unlike fd_is_whole fd_are_bounds fd_are_choices fd_is_word fd_are_signs fd_fits fd_number_in fd_are_figures : FuncData} (F : Fun K "_law_worths" "_law_worths" s_law_worths f fd)
    (D_look_at_kinds : DAl K mg "look_at_kinds" "_look_at" s_look_at_kinds P_look_at_kinds f_look_at_kinds fd_look_at_kinds)
    (D_is_kind : DAt K mg "is_kind" s_is_kind P_is_kind f_is_kind fd_is_kind)
    (D_are_own_words : DAt K mg "are_own_words" s_are_own_words P_are_own_words f_are_own_words fd_are_own_words)
    (D_is_name : DAt K mg "is_name" s_is_name P_is_name f_is_name fd_is_name)
    (D_are_unlike : DAt K mg "are_unlike" s_are_unlike P_are_unlike f_are_unlike fd_are_unlike)
    (D_is_whole : DAt K mg "is_whole" s_is_whole P_is_whole f_is_whole fd_is_whole)
    (D_are_bounds : DAt K mg "_are_bounds" s_are_bounds P_are_bounds f_are_bounds fd_are_bounds)
    (D_are_choices : DAt K mg "_are_choices" s_are_choices P_are_choices f_are_choices fd_are_choices)
    (D_is_word : DAt K mg "is_word" s_is_word P_is_word f_is_word fd_is_word)
    (D_are_signs : DAt K mg "are_signs" s_are_signs P_are_signs f_are_signs fd_are_signs)
    (D_fits : DAt K mg "fits" s_fits P_fits f_fits fd_fits)
    (D_number_in : DAt K mg "number_in" s_number_in P_number_in f_number_in fd_number_in)
    (D_are_figures : DAt K mg "_are_figures" s_are_figures P_are_figures f_are_figures fd_are_figures) : FnG P w K mg base CX0 6 f fd P_law_worths spWorths60 := by
  have G_worth_of : FnOk P w K mg base CX0 5 f_worth_of fd_worth_of P_worth_of (spWorthOf K) := ok_worth_of T D_worth_of.fn D_look_at_kinds D_is_kind D_are_own_words D_is_name D_are_unlike D_is_whole D_are_bounds D_are_choices D_is_word D_are_signs D_fits D_number_in D_are_figures
  refine fun_g F sc_law_worths (fun vs H Q E h => ?_) (fun cdv A outer s H vs Q E hg hr h => ?_)
  · obtain ⟨a, d, l, kd, kvs, ts, tr, rfl, _⟩ := h
    rfl
  · obtain ⟨a, d, l, kd, kvs, ts, tr, rfl, hk, ok, hd, ll, nd, hm, oo, hl, tp, tn, k⟩ := h
    refine ⟨_, (pss_cons (ps_set (i := 3) sc_law_worths.nd rfl (Or.inr rfl) (pe_ifExp (pt_cmpR ((op_eqA hr.units) : OpR _ _ (rEqA K)) (pe_ix (ix_seq : IxR _ (rIx K)) (pv 0) pe_int (fun _ _ => rfl)) pe_str (nomark _)) (pe_dget (hu_of hr) (pv 1) (pe_ix (ix_seq : IxR _ (rIx K)) (pv 0) pe_int (fun _ _ => rfl)) (fun _ _ => rfl)) (pe_lst pa_nil))) (pss_one (ps_ret (pe_callB (call_reprD hg hr.units) (by rfl) T.z_repr (by decide +kernel) (pa_cons (pe_lc (own := [("_law_word", 4)]) (g := (gName 4)) rfl sc_law_worths.nd (asList (K := K) rfl (pi_list (pv 2))) (blkOk_by (N := N_law_worths) (sc := defScope s_law_worths) (by decide +kernel)) (fun _ _ _ _ _ => (pg_name (i := 4) sc_law_worths.nd rfl (Or.inl rfl))) (fun _ _ _ _ _ => pts_nil) (fun _ _ _ _ _ => (pe_callN G_worth_of (hr.mono (by decide)) rfl D_worth_of.gl D_worth_of.fn.kp D_worth_of.bK pass0 (pa_cons (pv 0) (pa_cons (pv 4) pa_nil)) (pk_cons (pv 3) pk_nil)))) pa_nil))))), ?_⟩
    refine r_seqJ (fun σ' H' => ∃ o, σ' = [some (.ref a), some (.ref d), some (.ref l), some (.ref o), none] ∧ Same H H' ∧ H' o = some (.lst ((ownWs ts kd).map wV))) (fun N hN => ?_) ?_
    · have done_ : ∀ (o : Addr) (H1 : Hp), Same H H1 → H1 o = some (.lst ((ownWs ts kd).map wV)) → N [some (.ref a), some (.ref d), some (.ref l), some (.ref o), none] H1 := fun o H1 s e => hN _ _ ⟨o, rfl, s, e⟩
      cases kd with
      | own nm =>
        have h1 : H a = some (.tup [.str "own", .str (S nm)]) := hk
        obtain ⟨l1, v1, e1⟩ := own_at ll nd (hm nm rfl)
        walk_at "T"
        refine ⟨d, .ref l1, rfl, by rw [← v1]; exact DGet.k (k := .inr (S nm)) hd, ?_⟩
        walk_at "T"
        exact done_ l1 H (Same.refl H) e1
      | num lo hi =>
        have hk : H a = some (.tup [.str "number", .int lo, .int hi]) := hk
        walk_at "T"
        refine ⟨show 0 ≤ sizeLine by decide, fun p hp => ?_⟩
        exact done_ p _ ((Same.refl H).at hp _) upd_same
      | nam =>
        have hk : H a = some (.tup [.str "name"]) := hk
        walk_at "T"
        refine ⟨show 0 ≤ sizeLine by decide, fun p hp => ?_⟩
        exact done_ p _ ((Same.refl H).at hp _) upd_same
      | txt n =>
        have hk : H a = some (.tup [.str "text", .int n]) := hk
        walk_at "T"
        refine ⟨show 0 ≤ sizeLine by decide, fun p hp => ?_⟩
        exact done_ p _ ((Same.refl H).at hp _) upd_same
      | one A =>
        obtain ⟨c, h1, h2⟩ := id hk
        walk_at "T"
        refine ⟨show 0 ≤ sizeLine by decide, fun p hp => ?_⟩
        exact done_ p _ ((Same.refl H).at hp _) upd_same
    · rintro σ' H1 ⟨o, rfl, s1, e1⟩
      walk_at "T"
      refine r_lcL ?_
      walk_at "T"
      refine ⟨l, rfl, ⟨_, SqL.of (s1 _ _ hl)⟩, fun D hD => ?_⟩
      refine comp_same (seqIt_l (SqL.of (s1 _ _ hl))) hD (tr.map fun x => worthV kd (ownWs ts kd) (.str (S x))) (by rw [List.length_map, List.length_map]) (by rw [List.length_map]; exact Nat.lt_of_le_of_lt tn (by decide)) (fun i x G NN hx sG kk => ?_) fun H2 s2 e2 => ?_
      · rw [List.getElem?_map] at hx
        obtain ⟨w, ew, rfl⟩ := Option.map_eq_some_iff.mp hx
        obtain ⟨pw, lw⟩ := tp w (List.mem_of_getElem? ew)
        walk_at "T"
        refine ⟨rfl, ?_⟩
        refine r_callN ?_
        walk_at "T"
        have sg := s1.trans sG
        refine ⟨rfl, rfl, ?_⟩
        refine ⟨a, o, kd, ownWs ts kd, _, _, rfl, ⟨hk.same sg, ok, .inl (SqL.of (sG _ _ e1)), oo, tg_w lw fun c hc => by have := pw c hc; omega⟩, fun H' sH => ?_⟩
        exact kk _ H' (by rw [List.getElem?_map, ew]; rfl) sH
      · have ne : D ≠ l := fun e => by rw [e, s1 _ _ hl] at hD; cases hD
        obtain ⟨w1, w2⟩ := wt_row (ws := ownWs ts kd) ok tp
        walk_at "T"
        refine ⟨l, .ref D, _, rfl, .lst e2 ne (dd_row (ws := ownWs ts kd) ok tp), ?_, ?_, ?_⟩
        · rw [wt]; omega
        · show PyData.depthAll _ + 1 ≤ 60
          omega
        · walk_at "T"
          exact k H2 (s1.trans s2)
end
end K60
namespace K60
open PySem PySem.Spec PyProof.Rows L2 J M
local macro_rules | `(tactic| walk_at "hp") => `(tactic| first | assumption | exact upd_same | (rw [upd_ne (by assumption)]; walk_at "hp") | (rw [upd_ne (Ne.symm (by assumption))]; walk_at "hp"))
local macro_rules | `(tactic| walk_at "s") => `(tactic| first
  | ((with_reducible refine' r_var ?h ?k); (case h => exact rfl))
  | (with_reducible refine r_c ?_)
  | (with_reducible refine r_op ?_)
  | (with_reducible refine r_un ?_)
  | (with_reducible refine r_seq ?_)
  | (with_reducible refine r_next ?_)
  | (with_reducible refine r_sets ?_)
  | (with_reducible refine r_gname ?_)
  | (with_reducible refine r_ifS ?_)
  | (with_reducible refine r_gsub ?_)
  | (with_reducible refine r_test ?_)
  | (with_reducible refine r_tb ?_)
  | (with_reducible refine r_not ?_)
  | (with_reducible refine r_and ?_)
  | (with_reducible refine r_or ?_)
  | (with_reducible refine r_andV ?_)
  | (with_reducible refine r_orV ?_)
  | (with_reducible refine r_notV ?_)
  | (with_reducible refine r_ifE ?_)
  | (with_reducible refine r_chain ?_)
  | (with_reducible refine r_cb ?_)
  | (with_reducible refine r_cons ?_)
  | (with_reducible refine r_nil ?_)
  | (with_reducible refine r_call ?_)
  | (with_reducible refine r_lst ?_)
  | (with_reducible refine r_tup ?_)
  | (with_reducible refine r_slice ?_)
  | (with_reducible refine r_nop ?_)
  | (with_reducible refine r_part ?_)
  | (with_reducible refine r_bm ?_)
  | (with_reducible refine r_m1 ?_)
  | (with_reducible refine r_m0 ?_)
  | (with_reducible refine r_is ?_)
  | (with_reducible refine r_maxD ?_)
  | (with_reducible refine r_orT ?_)
  | (with_reducible refine r_truN ?_)
  | (with_reducible refine r_intI ?_)
  | (with_reducible refine r_intB ?_)
  | (with_reducible refine r_max2 ?_)
  | (with_reducible refine r_min2 ?_)
  | (with_reducible refine r_yes ?_)
  | (with_reducible refine r_bl ?_)
  | (with_reducible refine iteT ?_)
  | (with_reducible refine iteF ?_)
  | (with_reducible refine r_iteNT ?_)
  | (with_reducible refine r_iteNF ?_)
  | (with_reducible refine r_minL ?_)
  | (with_reducible refine r_gcons ?_)
  | (with_reducible refine r_gnil ?_)
  | (with_reducible refine r_par ?_)
  | (with_reducible refine r_par3 ?_)
  | (with_reducible refine r_is2 ?_)
  | (with_reducible refine r_is3 ?_)
  | (with_reducible refine r_dget ?_)
  | (with_reducible refine r_callS ?_)
  | (with_reducible refine r_rz ?_)
  | (with_reducible refine r_rev ?_)
  | (with_reducible refine r_isI ?_)
  | (with_reducible refine r_isStr ?_)
  | (with_reducible refine r_ret ?_)
  | (with_reducible refine r_drop ?_)
  | (with_reducible refine r_rI0 ?_)
  | (with_reducible refine r_addI ?_)
  | ((with_reducible show rI (fun _ j => 0 < j) _ (.int _) (.int _) _ _); refine r_rI (by first | omega | decide) ?_)
  | ((with_reducible show rI CDiv _ (.int _) (.int _) _ _); refine r_rI (by constructor <;> omega) ?_)
  | ((with_reducible show rI CPow _ (.int _) (.int _) _ _); refine r_rI (by refine ⟨by decide, by decide, ?_⟩; omega) ?_)
  | ((with_reducible show rMul (.int _) (.int _) _ _); refine r_mulI (cmulW (by omega) (by omega)) ?_)
  | (with_reducible refine r_cmpI ?_)
  | (with_reducible refine r_cmpS ?_)
  | (with_reducible refine r_eqI ?_)
  | (with_reducible refine r_neI ?_)
  | (with_reducible refine r_eqS ?_)
  | (with_reducible refine r_neS ?_)
  | (with_reducible refine r_inSF ?_)
  | (with_reducible refine r_inST ?_)
  | (with_reducible refine r_isiStr ?_)
  | ((with_reducible show rIx _ (.ref _) (.int _) _ _); refine' r_ixL (SqL.of ?h) ?e ?_; (case h => walk_at "hp"); (case e => rfl))
  | ((with_reducible show rSetL (.ref _) (.int _) _ _ _); refine' r_setL ?h ?e ?_; (case h => walk_at "hp"); (case e => rfl)))
local macro_rules | `(tactic| walk_at "g") => `(tactic| repeat walk_at "s")
local macro_rules | `(tactic| walk_at "x") => `(tactic| first | omega | decide +kernel | (simp only [List.length_cons, List.length_nil]; omega))
local macro_rules | `(tactic| walk_at "T") => `(tactic| repeat (first
  | walk_at "s"
  | ((with_reducible show rIx _ (.ref _) (.int _) _ _); refine' r_ixTu (SqT.of ?h) ?e ?_; (case h => first | assumption | walk_at "hp"); (case e => rfl))
  | (with_reducible refine r_lenSet ?_)
  | (with_reducible refine r_asg2 ?_)
  | (with_reducible refine iteDT (by walk_at "x") ?_)
  | (with_reducible refine iteDF (by walk_at "x") ?_)
  | (with_reducible refine iteNT (by walk_at "x") ?_)
  | (with_reducible refine iteNF (by walk_at "x") ?_)))
section
variable {P : Program} {w : World} {K : PySem.W.Frag} {mg : Str → Option Value} {base : Heap}
theorem ok_tables (T : Tx K mg) {f f_law_take : Addr} {fd fd_law_take : FuncData} (F : Fun K "_law_tables" "_law_tables" s_law_tables f fd)
    (D_law_take : DAt K mg "_law_take" s_law_take P_law_take f_law_take fd_law_take) : FnOk P w K mg base CX0 2 f fd P_law_tables spTables := by
  have G_law_take : FnOk P w K mg base CX0 1 f_law_take fd_law_take P_law_take spTake := ok_take D_law_take.fn
  refine F.ok sc_law_tables (fun vs H Q E h => ?_) (fun cdv A outer s H vs Q E hr h => ?_)
  · obtain ⟨b, nt, ns, n, rfl, _⟩ := h
    rfl
  · obtain ⟨b, nt, ns, n, rfl, hb, hn, hnt, l1, l8, k⟩ := h
    refine ⟨_, (pss_cons (ps_set (i := 2) sc_law_tables.nd rfl (Or.inl rfl) (pe_callTy (call_listA : CallR _ _ (rListOf K)) (by rfl) T.z_list (by decide +kernel) (pa_cons (pv 1) pa_nil))) (pss_cons (ps_if (pt_cmpR ((op_eqA hr.units) : OpR _ _ (rEqA K)) (pe_call G_law_take (hr.mono (by decide)) rfl D_law_take.gl D_law_take.fn.kp D_law_take.bd .nil pass0 (pa_cons (pv 0) (pa_cons pe_int pa_nil))) pe_int (nomark _)) (pss_one (ps_set (i := 2) sc_law_tables.nd rfl (Or.inl rfl) (pe_slice (sl_any : SlR _ (rSl K)) (pe_op (oAdd : OpR _ _ (J.rAdd K)) (pv 2) (pe_lst (pa_cons pe_str pa_nil))) (po_some (pe_un L2.un_neg pe_int)) po_none))) pss_nil) (pss_one (ps_ret (pe_disp (pps_cons pe_str (asRevL (K := K) rfl (pe_revL (pv 2))) (pps_cons pe_str (pe_lst (pa_cons (pe_callTy call_strI (by rfl) T.z_str (by decide +kernel) (pa_cons (pe_op L2.op_sub (pe_call G_law_take (hr.mono (by decide)) rfl D_law_take.gl D_law_take.fn.kp D_law_take.bd .nil pass0 (pa_cons (pv 0) (pa_cons pe_int pa_nil))) pe_int) pa_nil)) (pa_cons pe_str pa_nil))) (pps_cons pe_str (pe_lst pa_nil) pps_nil))) (by rfl) (by rfl) (fun z => by cases z) (by decide)))))), ?_⟩
    walk_at "T"
    refine ⟨nt, _, rfl, .inr (SqT.of hnt), fun lw hlw => ?_⟩
    have kp1 := (Keep.refl b H).at hlw (.lst (ns.map wV))
    have hb1 := hb.at (hb.ne hlw) (.lst (ns.map wV))
    have e1 : upd H lw (.lst (ns.map wV)) lw = some (.lst (ns.map wV)) := upd_same
    have nl : lw ≠ b := hb.ne hlw
    generalize upd H lw (.lst (ns.map wV)) = H1 at kp1 hb1 e1 ⊢
    walk_at "T"
    refine ⟨b, _, n, rfl, hb1, by omega, by omega, by omega, fun u H2 u0 u1 kp2 hb2 => ?_⟩
    have kp12 := kp1.trans kp2
    have e2 := kp2 _ _ e1 nl
    walk_at "T"
    by_cases c : u = 0
    · rw [decide_eq_true c]
      walk_at "T"
      refine ⟨show 1 ≤ sizeLine by decide, fun p hp => ?_⟩
      have pb : p ≠ b := hb2.ne hp
      have kp3 := kp12.at (kp12.free pb hp) (.lst [.str "a b"])
      have hb3 := hb2.at pb (.lst [.str "a b"])
      have e3 : upd H2 p (.lst [.str "a b"]) lw = some (.lst (ns.map wV)) := by rw [upd_ne fun z => by subst z; exact nomatch hp.symm.trans e2]; exact e2
      have p3 : upd H2 p (.lst [.str "a b"]) p = some (.lst [.str "a b"]) := upd_same
      generalize upd H2 p (.lst [.str "a b"]) = H3 at kp3 hb3 e3 p3 ⊢
      walk_at "T"
      refine r_cat e3 p3 (by rw [List.length_map]; exact Nat.le_trans (Nat.add_le_add_right l8 _) (by decide)) fun q hq => ?_
      have qb : q ≠ b := hb3.ne hq
      have kp7 := kp3.at (kp3.free qb hq) (.lst (ns.map wV ++ [.str "a b"]))
      have hb7 := hb3.at qb (.lst (ns.map wV ++ [.str "a b"]))
      have q7 : upd H3 q (.lst (ns.map wV ++ [.str "a b"])) q = some (.lst ((ns ++ [nmAB]).map wV)) := by rw [upd_same, List.map_append]; rfl
      generalize upd H3 q (.lst (ns.map wV ++ [.str "a b"])) = H7 at kp7 hb7 q7 ⊢
      walk_at "T"
      refine ⟨8, rfl, -8, rfl, ?_⟩
      walk_at "T"
      refine r_slL (SqL.of q7) fun lz hlz => ?_
      rw [cutV_last8]
      have zb : lz ≠ b := hb7.ne hlz
      have kp8 := kp7.at (kp7.free zb hlz) (.lst (((ns ++ [nmAB]).drop (ns.length + 1 - 8)).map wV))
      have hb8 := hb7.at zb (.lst (((ns ++ [nmAB]).drop (ns.length + 1 - 8)).map wV))
      have e8 : upd H7 lz (.lst (((ns ++ [nmAB]).drop (ns.length + 1 - 8)).map wV)) lz = some (.lst (((ns ++ [nmAB]).drop (ns.length + 1 - 8)).map wV)) := upd_same
      generalize upd H7 lz (.lst (((ns ++ [nmAB]).drop (ns.length + 1 - 8)).map wV)) = H8 at kp8 hb8 e8 ⊢
      walk_at "T"
      refine fun d hd => ?_
      have db : d ≠ b := hb8.ne hd
      have d0 : H d = none := kp8.free db hd
      have kp4 := kp8.at d0 (.dK [])
      have hb4 := hb8.at db (.dK [])
      have d4 : upd H8 d (.dK []) d = some (.dK []) := upd_same
      have e4 : upd H8 d (.dK []) lz = some (.lst (((ns ++ [nmAB]).drop (ns.length + 1 - 8)).map wV)) := by rw [upd_ne fun z => by subst z; exact nomatch hd.symm.trans e8]; exact e8
      generalize upd H8 d (.dK []) = H4 at kp4 hb4 d4 e4 ⊢
      refine r_pair ?_
      walk_at "T"
      refine ⟨.ref lz, rfl, lz, _, rfl, SqL.of e4, fun lv hlv => ?_⟩
      have vb : lv ≠ b := hb4.ne hlv
      have kp5 := kp4.at (kp4.free vb hlv) (.lst (((ns ++ [nmAB]).drop (ns.length + 1 - 8)).map wV).reverse)
      have hb5 := hb4.at vb (.lst (((ns ++ [nmAB]).drop (ns.length + 1 - 8)).map wV).reverse)
      have d5 : upd H4 lv (.lst (((ns ++ [nmAB]).drop (ns.length + 1 - 8)).map wV).reverse) d = some (.dK []) := by rw [upd_ne fun z => by subst z; exact nomatch hlv.symm.trans d4]; exact d4
      have e5 : upd H4 lv (.lst (((ns ++ [nmAB]).drop (ns.length + 1 - 8)).map wV).reverse) lv = some (.lst (((ns ++ [nmAB]).drop (ns.length + 1 - 8)).reverse.map wV)) := by rw [upd_same, List.map_reverse]
      generalize upd H4 lv (.lst (((ns ++ [nmAB]).drop (ns.length + 1 - 8)).map wV).reverse) = H5 at kp5 hb5 d5 e5 ⊢
      refine r_pair ?_
      walk_at "T"
      refine ⟨b, _, n + 1, rfl, hb5, by omega, by omega, by omega, fun i H6 i0 i1 kp6 hb6 => ?_⟩
      have kp06 := kp5.trans kp6
      have d6 := kp6 _ _ d5 db
      have e6 := kp6 _ _ e5 vb
      walk_at "T"
      refine ⟨i - 4, rfl, Nat.lt_of_le_of_lt (Nat.log2_le_self _) (by omega), ?_⟩
      walk_at "T"
      refine ⟨show 2 ≤ sizeLine by decide, fun lo hlo => ?_⟩
      have ob : lo ≠ b := hb6.ne hlo
      have kp7 := kp06.at (kp06.free ob hlo) (.lst [.str (toString (i - 4)), .str "-"])
      have hb7 := hb6.at ob (.lst [.str (toString (i - 4)), .str "-"])
      have d7 : upd H6 lo (.lst [.str (toString (i - 4)), .str "-"]) d = some (.dK []) := by rw [upd_ne fun z => by subst z; exact nomatch hlo.symm.trans d6]; exact d6
      have e7 : upd H6 lo (.lst [.str (toString (i - 4)), .str "-"]) lv = some (.lst (((ns ++ [nmAB]).drop (ns.length + 1 - 8)).reverse.map wV)) := by rw [upd_ne fun z => by subst z; exact nomatch hlo.symm.trans e6]; exact e6
      have o7 : upd H6 lo (.lst [.str (toString (i - 4)), .str "-"]) lo = some (.lst ([dec (i - 4), [45]].map wV)) := by
        rw [upd_same]
        show some (HO.lst [V.str _, V.str _]) = some (HO.lst [V.str (S (dec (i - 4))), V.str (S [45])])
        rw [← cd_toString, S_of]
        rfl
      generalize upd H6 lo (.lst [.str (toString (i - 4)), .str "-"]) = H7 at kp7 hb7 d7 e7 o7 ⊢
      refine r_pair ?_
      walk_at "T"
      refine ⟨show 0 ≤ sizeLine by decide, fun le hle => ?_⟩
      have eb : le ≠ b := hb7.ne hle
      have kp8 := kp7.at (kp7.free eb hle) (.lst [])
      have hb8 := hb7.at eb (.lst [])
      have d8 : upd H7 le (.lst []) d = some (.dK []) := by rw [upd_ne fun z => by subst z; exact nomatch hle.symm.trans d7]; exact d7
      have e8 : upd H7 le (.lst []) lv = some (.lst (((ns ++ [nmAB]).drop (ns.length + 1 - 8)).reverse.map wV)) := by rw [upd_ne fun z => by subst z; exact nomatch hle.symm.trans e7]; exact e7
      have o8 : upd H7 le (.lst []) lo = some (.lst ([dec (i - 4), [45]].map wV)) := by rw [upd_ne fun z => by subst z; exact nomatch hle.symm.trans o7]; exact o7
      have m8 : upd H7 le (.lst []) le = some (.lst ([].map wV)) := upd_same
      generalize upd H7 le (.lst []) = H8 at kp8 hb8 d8 e8 o8 m8 ⊢
      refine r_pair0 ?_
      refine ⟨d8, [(.inr (S nmW), .ref lv), (.inr (S nmO), .ref lo), (.inr (S nmE), .ref le)], rfl, (show 3 ≤ 15 by decide), ?_⟩
      have nn : ∀ (q : Addr) (xs : List V), H8 q = some (.lst xs) → q ≠ d := fun q xs h z => by subst z; rw [d8] at h; cases h
      refine k _ d _ [(nmW, ((ns ++ [nmAB]).drop (ns.length + 1 - 8)).reverse), (nmO, [dec (i - 4), [45]]), (nmE, [])] (kp8.at d0 _) (hb8.at db _) d0 upd_same ?_ ⟨_, i - 4, .inr rfl, by omega, by omega, rfl⟩
      exact .cons (e := (nmW, _)) ((upd_ne (nn _ _ e8)).trans e8) (.cons (e := (nmO, _)) ((upd_ne (nn _ _ o8)).trans o8) (.cons (e := (nmE, _)) ((upd_ne (nn _ _ m8)).trans m8) .nil))
    · rw [decide_eq_false c]
      walk_at "T"
      refine fun d hd => ?_
      have db : d ≠ b := hb2.ne hd
      have d0 : H d = none := kp12.free db hd
      have kp4 := kp12.at d0 (.dK [])
      have hb4 := hb2.at db (.dK [])
      have d4 : upd H2 d (.dK []) d = some (.dK []) := upd_same
      have e4 : upd H2 d (.dK []) lw = some (.lst ((ns).map wV)) := by rw [upd_ne fun z => by subst z; exact nomatch hd.symm.trans e2]; exact e2
      generalize upd H2 d (.dK []) = H4 at kp4 hb4 d4 e4 ⊢
      refine r_pair ?_
      walk_at "T"
      refine ⟨.ref lw, rfl, lw, _, rfl, SqL.of e4, fun lv hlv => ?_⟩
      have vb : lv ≠ b := hb4.ne hlv
      have kp5 := kp4.at (kp4.free vb hlv) (.lst ((ns).map wV).reverse)
      have hb5 := hb4.at vb (.lst ((ns).map wV).reverse)
      have d5 : upd H4 lv (.lst ((ns).map wV).reverse) d = some (.dK []) := by rw [upd_ne fun z => by subst z; exact nomatch hlv.symm.trans d4]; exact d4
      have e5 : upd H4 lv (.lst ((ns).map wV).reverse) lv = some (.lst ((ns).reverse.map wV)) := by rw [upd_same, List.map_reverse]
      generalize upd H4 lv (.lst ((ns).map wV).reverse) = H5 at kp5 hb5 d5 e5 ⊢
      refine r_pair ?_
      walk_at "T"
      refine ⟨b, _, n + 1, rfl, hb5, by omega, by omega, by omega, fun i H6 i0 i1 kp6 hb6 => ?_⟩
      have kp06 := kp5.trans kp6
      have d6 := kp6 _ _ d5 db
      have e6 := kp6 _ _ e5 vb
      walk_at "T"
      refine ⟨i - 4, rfl, Nat.lt_of_le_of_lt (Nat.log2_le_self _) (by omega), ?_⟩
      walk_at "T"
      refine ⟨show 2 ≤ sizeLine by decide, fun lo hlo => ?_⟩
      have ob : lo ≠ b := hb6.ne hlo
      have kp7 := kp06.at (kp06.free ob hlo) (.lst [.str (toString (i - 4)), .str "-"])
      have hb7 := hb6.at ob (.lst [.str (toString (i - 4)), .str "-"])
      have d7 : upd H6 lo (.lst [.str (toString (i - 4)), .str "-"]) d = some (.dK []) := by rw [upd_ne fun z => by subst z; exact nomatch hlo.symm.trans d6]; exact d6
      have e7 : upd H6 lo (.lst [.str (toString (i - 4)), .str "-"]) lv = some (.lst ((ns).reverse.map wV)) := by rw [upd_ne fun z => by subst z; exact nomatch hlo.symm.trans e6]; exact e6
      have o7 : upd H6 lo (.lst [.str (toString (i - 4)), .str "-"]) lo = some (.lst ([dec (i - 4), [45]].map wV)) := by
        rw [upd_same]
        show some (HO.lst [V.str _, V.str _]) = some (HO.lst [V.str (S (dec (i - 4))), V.str (S [45])])
        rw [← cd_toString, S_of]
        rfl
      generalize upd H6 lo (.lst [.str (toString (i - 4)), .str "-"]) = H7 at kp7 hb7 d7 e7 o7 ⊢
      refine r_pair ?_
      walk_at "T"
      refine ⟨show 0 ≤ sizeLine by decide, fun le hle => ?_⟩
      have eb : le ≠ b := hb7.ne hle
      have kp8 := kp7.at (kp7.free eb hle) (.lst [])
      have hb8 := hb7.at eb (.lst [])
      have d8 : upd H7 le (.lst []) d = some (.dK []) := by rw [upd_ne fun z => by subst z; exact nomatch hle.symm.trans d7]; exact d7
      have e8 : upd H7 le (.lst []) lv = some (.lst ((ns).reverse.map wV)) := by rw [upd_ne fun z => by subst z; exact nomatch hle.symm.trans e7]; exact e7
      have o8 : upd H7 le (.lst []) lo = some (.lst ([dec (i - 4), [45]].map wV)) := by rw [upd_ne fun z => by subst z; exact nomatch hle.symm.trans o7]; exact o7
      have m8 : upd H7 le (.lst []) le = some (.lst ([].map wV)) := upd_same
      generalize upd H7 le (.lst []) = H8 at kp8 hb8 d8 e8 o8 m8 ⊢
      refine r_pair0 ?_
      refine ⟨d8, [(.inr (S nmW), .ref lv), (.inr (S nmO), .ref lo), (.inr (S nmE), .ref le)], rfl, (show 3 ≤ 15 by decide), ?_⟩
      have nn : ∀ (q : Addr) (xs : List V), H8 q = some (.lst xs) → q ≠ d := fun q xs h z => by subst z; rw [d8] at h; cases h
      refine k _ d _ [(nmW, (ns).reverse), (nmO, [dec (i - 4), [45]]), (nmE, [])] (kp8.at d0 _) (hb8.at db _) d0 upd_same ?_ ⟨_, i - 4, .inl rfl, by omega, by omega, rfl⟩
      exact .cons (e := (nmW, _)) ((upd_ne (nn _ _ e8)).trans e8) (.cons (e := (nmO, _)) ((upd_ne (nn _ _ o8)).trans o8) (.cons (e := (nmE, _)) ((upd_ne (nn _ _ m8)).trans m8) .nil))
theorem ok_due (T : Tx K mg) {f : Addr} {fd : FuncData} (F : Fun K "_law_due" "_law_due" s_law_due f fd) : FnOk P w K mg base CX0 1 f fd P_law_due spDue60 := by
  refine F.ok sc_law_due (fun vs H Q E h => ?_) (fun cdv A outer s H vs Q E hr h => ?_)
  · obtain ⟨a, d, kd, kvs, ts, rfl, _⟩ := h
    rfl
  · obtain ⟨a, d, kd, kvs, ts, rfl, hk, ok, hd, ll, nd, hm, l8, k⟩ := h
    refine ⟨_, (pss_cons (ps_if (pt_cmpR ((op_eqA hr.units) : OpR _ _ (rEqA K)) (pe_ix (ix_seq : IxR _ (rIx K)) (pv 0) pe_int (fun _ _ => rfl)) pe_str (nomark _)) (pss_one (ps_ret (pe_tup (pa_cons pe_str (pa_cons (pe_callTy (call_tupA : CallR _ _ (rTupOf K)) (by rfl) T.z_tuple (by decide +kernel) (pa_cons (pe_callB (cr_sortedST : CallR _ _ (rSortedST K)) (by rfl) T.z_sorted (by decide +kernel) (pa_cons (pe_ix (ix_seq : IxR _ (rIx K)) (pv 0) pe_int (fun _ _ => rfl)) pa_nil)) pa_nil)) pa_nil))))) pss_nil) (pss_one (ps_ret (pe_ifExp (pt_cmpR ((op_eqA hr.units) : OpR _ _ (rEqA K)) (pe_ix (ix_seq : IxR _ (rIx K)) (pv 0) pe_int (fun _ _ => rfl)) pe_str (nomark _)) (pe_tup (pa_cons pe_str (pa_cons (pe_callTy (call_tupA : CallR _ _ (rTupOf K)) (by rfl) T.z_tuple (by decide +kernel) (pa_cons (pe_callB (L2.cr_sortedS : CallR _ _ (L2.rSortedS K)) (by rfl) T.z_sorted (by decide +kernel) (pa_cons (pe_dget (hu_of hr) (pv 1) (pe_ix (ix_seq : IxR _ (rIx K)) (pv 0) pe_int (fun _ _ => rfl)) (fun _ _ => rfl)) pa_nil)) pa_nil)) pa_nil))) (pv 0))))), ?_⟩
    cases kd with
    | num lo hi =>
      have hk : H a = some (.tup [.str "number", .int lo, .int hi]) := hk
      walk_at "T"
      exact k H a (Same.refl H) rfl
    | nam =>
      have hk : H a = some (.tup [.str "name"]) := hk
      walk_at "T"
      exact k H a (Same.refl H) rfl
    | txt n =>
      have hk : H a = some (.tup [.str "text", .int n]) := hk
      walk_at "T"
      exact k H a (Same.refl H) rfl
    | one ns =>
      obtain ⟨c, h1, h2⟩ := id hk
      walk_at "T"
      refine ⟨c, ns.map S, rfl, SqT.of (by rw [h2, List.map_map]; rfl), by rw [List.length_map]; exact Nat.lt_of_le_of_lt ok.2.1 (by decide), fun ys q perm srt hq => ?_⟩
      have s2 := (Same.refl H).at hq (.lst (ys.map V.str))
      have e2 : upd H q (.lst (ys.map V.str)) q = some (.lst (ys.map V.str)) := upd_same
      generalize upd H q (.lst (ys.map V.str)) = H2 at s2 e2 ⊢
      walk_at "T"
      refine ⟨q, _, rfl, .inl ⟨SqL.of e2, fun l hl => ?_⟩⟩
      have s3 := s2.trans ((Same.refl H2).at hl (.tup (ys.map V.str)))
      have e3 : upd H2 l (.tup (ys.map V.str)) l = some (.tup (ys.map V.str)) := upd_same
      generalize upd H2 l (.tup (ys.map V.str)) = H3 at s3 e3 ⊢
      walk_at "T"
      refine ⟨show 2 ≤ sizeLine by decide, fun t ht => ?_⟩
      have s4 := (Same.refl H3).at ht (.tup [.str "words", .ref l])
      exact k _ t (s3.trans s4) ⟨l, ys, upd_same, s4 _ _ e3, perm, srt⟩
    | own nm =>
      have h1 : H a = some (.tup [.str "own", .str (S nm)]) := hk
      obtain ⟨tw, htw, en⟩ := List.mem_map.mp (hm nm rfl)
      obtain ⟨l1, v1, e1⟩ := ll.val nd htw
      have lk : ownWs ts (.own nm) = tw.2 := by
        show (ts.lookup nm).getD [] = tw.2
        rw [lookup_of nd htw en]; rfl
      rw [en] at v1
      walk_at "T"
      refine ⟨d, .ref l1, rfl, by rw [← v1]; exact DGet.k (k := .inr (S nm)) hd, ?_⟩
      walk_at "T"
      refine ⟨l1, tw.2.map S, rfl, SqL.of (by rw [e1, List.map_map]; rfl), by rw [List.length_map]; exact Nat.lt_of_le_of_lt (l8 tw htw) (by decide), fun ys q perm srt hq => ?_⟩
      have s2 := (Same.refl H).at hq (.lst (ys.map V.str))
      have e2 : upd H q (.lst (ys.map V.str)) q = some (.lst (ys.map V.str)) := upd_same
      generalize upd H q (.lst (ys.map V.str)) = H2 at s2 e2 ⊢
      walk_at "T"
      refine ⟨q, _, rfl, .inl ⟨SqL.of e2, fun l hl => ?_⟩⟩
      have s3 := s2.trans ((Same.refl H2).at hl (.tup (ys.map V.str)))
      have e3 : upd H2 l (.tup (ys.map V.str)) l = some (.tup (ys.map V.str)) := upd_same
      generalize upd H2 l (.tup (ys.map V.str)) = H3 at s3 e3 ⊢
      walk_at "T"
      refine ⟨show 2 ≤ sizeLine by decide, fun t ht => ?_⟩
      have s4 := (Same.refl H3).at ht (.tup [.str "words", .ref l])
      exact k _ t (s3.trans s4) ⟨l, ys, upd_same, s4 _ _ e3, by rw [lk]; exact perm, srt⟩
end
end K60
namespace K60
open PySem PySem.Spec PyProof.Rows L2 J M
local macro_rules | `(tactic| walk_at "hp") => `(tactic| first | assumption | exact upd_same | (rw [upd_ne (by assumption)]; walk_at "hp") | (rw [upd_ne (Ne.symm (by assumption))]; walk_at "hp"))
local macro_rules | `(tactic| walk_at "s") => `(tactic| first
  | ((with_reducible refine' r_var ?h ?k); (case h => exact rfl))
  | (with_reducible refine r_c ?_)
  | (with_reducible refine r_op ?_)
  | (with_reducible refine r_un ?_)
  | (with_reducible refine r_seq ?_)
  | (with_reducible refine r_next ?_)
  | (with_reducible refine r_sets ?_)
  | (with_reducible refine r_gname ?_)
  | (with_reducible refine r_ifS ?_)
  | (with_reducible refine r_gsub ?_)
  | (with_reducible refine r_test ?_)
  | (with_reducible refine r_tb ?_)
  | (with_reducible refine r_not ?_)
  | (with_reducible refine r_and ?_)
  | (with_reducible refine r_or ?_)
  | (with_reducible refine r_andV ?_)
  | (with_reducible refine r_orV ?_)
  | (with_reducible refine r_notV ?_)
  | (with_reducible refine r_ifE ?_)
  | (with_reducible refine r_chain ?_)
  | (with_reducible refine r_cb ?_)
  | (with_reducible refine r_cons ?_)
  | (with_reducible refine r_nil ?_)
  | (with_reducible refine r_call ?_)
  | (with_reducible refine r_lst ?_)
  | (with_reducible refine r_tup ?_)
  | (with_reducible refine r_slice ?_)
  | (with_reducible refine r_nop ?_)
  | (with_reducible refine r_part ?_)
  | (with_reducible refine r_bm ?_)
  | (with_reducible refine r_m1 ?_)
  | (with_reducible refine r_m0 ?_)
  | (with_reducible refine r_is ?_)
  | (with_reducible refine r_maxD ?_)
  | (with_reducible refine r_orT ?_)
  | (with_reducible refine r_truN ?_)
  | (with_reducible refine r_intI ?_)
  | (with_reducible refine r_intB ?_)
  | (with_reducible refine r_max2 ?_)
  | (with_reducible refine r_min2 ?_)
  | (with_reducible refine r_yes ?_)
  | (with_reducible refine r_bl ?_)
  | (with_reducible refine iteT ?_)
  | (with_reducible refine iteF ?_)
  | (with_reducible refine r_iteNT ?_)
  | (with_reducible refine r_iteNF ?_)
  | (with_reducible refine r_minL ?_)
  | (with_reducible refine r_gcons ?_)
  | (with_reducible refine r_gnil ?_)
  | (with_reducible refine r_par ?_)
  | (with_reducible refine r_par3 ?_)
  | (with_reducible refine r_is2 ?_)
  | (with_reducible refine r_is3 ?_)
  | (with_reducible refine r_dget ?_)
  | (with_reducible refine r_callS ?_)
  | (with_reducible refine r_rz ?_)
  | (with_reducible refine r_rev ?_)
  | (with_reducible refine r_isI ?_)
  | (with_reducible refine r_isStr ?_)
  | (with_reducible refine r_ret ?_)
  | (with_reducible refine r_drop ?_)
  | (with_reducible refine r_rI0 ?_)
  | (with_reducible refine r_addI ?_)
  | ((with_reducible show rI (fun _ j => 0 < j) _ (.int _) (.int _) _ _); refine r_rI (by first | omega | decide) ?_)
  | ((with_reducible show rI CDiv _ (.int _) (.int _) _ _); refine r_rI (by constructor <;> omega) ?_)
  | ((with_reducible show rI CPow _ (.int _) (.int _) _ _); refine r_rI (by refine ⟨by decide, by decide, ?_⟩; omega) ?_)
  | ((with_reducible show rMul (.int _) (.int _) _ _); refine r_mulI (cmulW (by omega) (by omega)) ?_)
  | (with_reducible refine r_cmpI ?_)
  | (with_reducible refine r_cmpS ?_)
  | (with_reducible refine r_eqI ?_)
  | (with_reducible refine r_neI ?_)
  | (with_reducible refine r_eqS ?_)
  | (with_reducible refine r_neS ?_)
  | (with_reducible refine r_inSF ?_)
  | (with_reducible refine r_inST ?_)
  | (with_reducible refine r_isiStr ?_)
  | ((with_reducible show rIx _ (.ref _) (.int _) _ _); refine' r_ixL (SqL.of ?h) ?e ?_; (case h => walk_at "hp"); (case e => rfl))
  | ((with_reducible show rSetL (.ref _) (.int _) _ _ _); refine' r_setL ?h ?e ?_; (case h => walk_at "hp"); (case e => rfl)))
local macro_rules | `(tactic| walk_at "g") => `(tactic| repeat walk_at "s")
local macro_rules | `(tactic| walk_at "x") => `(tactic| first | omega | decide +kernel | (simp only [List.length_cons, List.length_nil]; omega))
local macro_rules | `(tactic| walk_at "T") => `(tactic| repeat (first
  | walk_at "s"
  | ((with_reducible show rIx _ (.ref _) (.int _) _ _); refine' r_ixTu (SqT.of ?h) ?e ?_; (case h => first | assumption | walk_at "hp"); (case e => rfl))
  | (with_reducible refine r_lenSet ?_)
  | (with_reducible refine r_asg2 ?_)
  | (with_reducible refine iteDT (by walk_at "x") ?_)
  | (with_reducible refine iteDF (by walk_at "x") ?_)
  | (with_reducible refine iteNT (by walk_at "x") ?_)
  | (with_reducible refine iteNF (by walk_at "x") ?_)))
section
variable {P : Program} {w : World} {K : PySem.W.Frag} {mg : Str → Option Value} {base : Heap}
abbrev s_begins_with_name : Stmt := topS 65
abbrev N_begins_with_name : List Str := ["thing"]
abbrev P_begins_with_name : List Str := ["thing"]
theorem sc_begins_with_name : FnScope N_begins_with_name P_begins_with_name (defScope s_begins_with_name) := ⟨rfl, rfl, rfl, by decide +kernel, rfl, by decide +kernel, by decide +kernel⟩
abbrev s_is_tuple_to : Stmt := topS 67
abbrev N_is_tuple_to : List Str := ["thing", "most"]
abbrev P_is_tuple_to : List Str := ["thing", "most"]
theorem sc_is_tuple_to : FnScope N_is_tuple_to P_is_tuple_to (defScope s_is_tuple_to) := ⟨rfl, rfl, rfl, by decide +kernel, rfl, by decide +kernel, by decide +kernel⟩
abbrev s_has_place_form : Stmt := topS 70
abbrev N_has_place_form : List Str := ["thing"]
abbrev P_has_place_form : List Str := ["thing"]
theorem sc_has_place_form : FnScope N_has_place_form P_has_place_form (defScope s_has_place_form) := ⟨rfl, rfl, rfl, by decide +kernel, rfl, by decide +kernel, by decide +kernel⟩
abbrev s_are_in_order : Stmt := topS 71
abbrev N_are_in_order : List Str := ["times", "ranks", "word"]
abbrev P_are_in_order : List Str := ["times"]
theorem sc_are_in_order : FnScope N_are_in_order P_are_in_order (defScope s_are_in_order) := ⟨rfl, rfl, rfl, by decide +kernel, rfl, by decide +kernel, by decide +kernel⟩
abbrev s_own_name : Stmt := topS 73
abbrev N_own_name : List Str := ["kind"]
abbrev P_own_name : List Str := ["kind"]
theorem sc_own_name : FnScope N_own_name P_own_name (defScope s_own_name) := ⟨rfl, rfl, rfl, by decide +kernel, rfl, by decide +kernel, by decide +kernel⟩
abbrev s_is_table : Stmt := topS 77
abbrev N_is_table : List Str := ["thing", "name"]
abbrev P_is_table : List Str := ["thing"]
theorem sc_is_table : FnScope N_is_table P_is_table (defScope s_is_table) := ⟨rfl, rfl, rfl, by decide +kernel, rfl, by decide +kernel, by decide +kernel⟩
abbrev RNK : List Str := ["one", "maybe", "rest", "some"]
/-- the ranks of places, a dict of the module -/
structure Rks (K : PySem.W.Frag) (w : World) (mg : Str → Option Value) : Prop where
  ex : ∃ d : Addr, mg "RANKS" = some (.ref d) ∧ RkD K w d RNK ∧ KDct K w d "maybe" (.int 1)
theorem ok_begins (T : Tx K mg) {f f_is_name : Addr} {fd fd_is_name : FuncData} (F : Fun K "begins_with_name" "begins_with_name" s_begins_with_name f fd)
    (D_is_name : DAt K mg "is_name" s_is_name P_is_name f_is_name fd_is_name) : FnOk P w K mg base CX0 2 f fd P_begins_with_name spNamed := by
  have G_is_name : FnOk P w K mg base CX0 1 f_is_name fd_is_name P_is_name (spNameT K) := ok_is_name T D_is_name.fn
  refine F.ok sc_begins_with_name (fun vs H Q E h => ?_) (fun cdv A outer s H vs Q E hr h => ?_)
  · obtain ⟨a, z, xs, rfl, _⟩ := h
    rfl
  · obtain ⟨a, z, xs, rfl, ha, hz, k⟩ := h
    refine ⟨_, (pss_one (ps_ret (pe_and (pe_callB (L2.call_isi : CallR _ _ (rIsi K)) (by rfl) T.z_isinstance (by decide +kernel) (pa_cons (pv 0) (pa_cons (pe_bltn (v := .ty "tuple") (u := .type "tuple") rfl T.z_tuple (by decide +kernel) rfl) pa_nil))) (pe_and (pe_cmpR op_gtA (pe_callB (call_lenA : CallR _ _ (J.rLen K)) (by rfl) T.z_len (by decide +kernel) (pa_cons (pv 0) pa_nil)) pe_int (nomark _)) (pe_one (pe_call G_is_name (hr.mono (by decide)) rfl D_is_name.gl D_is_name.fn.kp D_is_name.bd .nil pass0 (pa_cons (pe_ix (ix_seq : IxR _ (rIx K)) (pv 0) (pe_gI T.c_NAME rfl) (fun _ _ => rfl)) pa_nil))))))), ?_⟩
    walk_at "g"
    refine r_isiB (.base (.tup ha)) (show kitB "tuple" "tuple" = some true by decide +kernel) ?_
    walk_at "T"
    refine r_lenT (SqT.of ha) ?_
    walk_at "T"
    obtain ⟨t, ht⟩ := T.c_NAME
    refine r_ixTu (SqT.of ha) (atI_nat (j := 0) rfl) ?_
    refine ⟨_, _, rfl, .str z (by rw [len_cd]; have := hz.2.1; omega) (fun c hc => by have := hz.2.2 c hc; omega), ?_⟩
    rw [show nmD (.str z) = true from isNm_iff.mpr hz]
    exact k
theorem ok_tup_to (T : Tx K mg) {f : Addr} {fd : FuncData} (F : Fun K "_is_tuple_to" "_is_tuple_to" s_is_tuple_to f fd) : FnOk P w K mg base CX0 1 f fd P_is_tuple_to spTupTo := by
  refine F.ok sc_is_tuple_to (fun vs H Q E h => ?_) (fun cdv A outer s H vs Q E hr h => ?_)
  · obtain ⟨a, xs, n, rfl, _⟩ := h
    rfl
  · obtain ⟨a, xs, n, rfl, ha, hn, k⟩ := h
    refine ⟨_, (pss_one (ps_ret (pe_and (pe_callB (L2.call_isi : CallR _ _ (rIsi K)) (by rfl) T.z_isinstance (by decide +kernel) (pa_cons (pv 0) (pa_cons (pe_bltn (v := .ty "tuple") (u := .type "tuple") rfl T.z_tuple (by decide +kernel) rfl) pa_nil))) (pe_one (pe_cmpR op_leA (pe_callB (call_lenA : CallR _ _ (J.rLen K)) (by rfl) T.z_len (by decide +kernel) (pa_cons (pv 0) pa_nil)) (pv 1) (nomark _)))))), ?_⟩
    walk_at "g"
    refine r_isiB (.base (.tup ha)) (show kitB "tuple" "tuple" = some true by decide +kernel) ?_
    walk_at "T"
    refine r_lenT (SqT.of ha) ?_
    walk_at "T"
    rw [decide_eq_true hn]
    exact k
theorem ok_place (T : Tx K mg) (RK : Rks K w mg) {f f_is_name f_are_unlike f_is_whole f_are_bounds f_are_choices f_is_kind f_begins_with_name : Addr} {fd fd_is_name fd_are_unlike fd_is_whole fd_are_bounds fd_are_choices fd_is_kind fd_begins_with_name : FuncData} (F : Fun K "has_place_form" "has_place_form" s_has_place_form f fd)
    (D_is_name : DAt K mg "is_name" s_is_name P_is_name f_is_name fd_is_name)
    (D_are_unlike : DAt K mg "are_unlike" s_are_unlike P_are_unlike f_are_unlike fd_are_unlike)
    (D_is_whole : DAt K mg "is_whole" s_is_whole P_is_whole f_is_whole fd_is_whole)
    (D_are_bounds : DAt K mg "_are_bounds" s_are_bounds P_are_bounds f_are_bounds fd_are_bounds)
    (D_are_choices : DAt K mg "_are_choices" s_are_choices P_are_choices f_are_choices fd_are_choices)
    (D_is_kind : DAt K mg "is_kind" s_is_kind P_is_kind f_is_kind fd_is_kind)
    (D_begins_with_name : DAt K mg "begins_with_name" s_begins_with_name P_begins_with_name f_begins_with_name fd_begins_with_name) : FnOk P w K mg base CX0 4 f fd P_has_place_form spPlForm := by
  have G_begins_with_name : FnOk P w K mg base CX0 2 f_begins_with_name fd_begins_with_name P_begins_with_name spNamed := ok_begins T D_begins_with_name.fn D_is_name
  have G_is_kind : FnOk P w K mg base CX0 3 f_is_kind fd_is_kind P_is_kind spIsKind := ok_is_kind T D_is_kind.fn D_is_name D_are_unlike D_is_whole D_are_bounds D_are_choices
  refine F.ok sc_has_place_form (fun vs H Q E h => ?_) (fun cdv A outer s H vs Q E hr h => ?_)
  · obtain ⟨a, e, rfl, _⟩ := h
    rfl
  · obtain ⟨a, e, rfl, hp, n1, n2, k⟩ := h
    obtain ⟨kd, ha, hk⟩ := hp
    obtain ⟨qr, hq_RANKS, rd, rv⟩ := RK.ex
    refine ⟨_, (pss_cons (ps_if (PW.pt (pw_or (pt_not (pt_val (pe_call G_begins_with_name (hr.mono (by decide)) rfl D_begins_with_name.gl D_begins_with_name.fn.kp D_begins_with_name.bd .nil pass0 (pa_cons (pv 0) pa_nil)))) (pw_or1 (pt_cmpR ((op_neA hr.units) : OpR _ _ (rNeA K)) (pe_callB (call_lenA : CallR _ _ (J.rLen K)) (by rfl) T.z_len (by decide +kernel) (pa_cons (pv 0) pa_nil)) (pe_gI T.c_PLACE_PARTS rfl) (nomark _))))) (pss_one (ps_ret pe_bl)) pss_nil) (pss_one (ps_ret (pe_and (pe_call G_is_kind (hr.mono (by decide)) rfl D_is_kind.gl D_is_kind.fn.kp D_is_kind.bd .nil pass0 (pa_cons (pe_ix (ix_seq : IxR _ (rIx K)) (pv 0) pe_int (fun _ _ => rfl)) pa_nil)) (pe_one (pe_cmpR (op_inA : OpR _ _ (rInA K false)) (pe_ix (ix_seq : IxR _ (rIx K)) (pv 0) pe_int (fun _ _ => rfl)) (pe_callTy (call_listKD rd rfl : CallR _ _ (rListKD qr _)) (by rfl) T.z_list (by decide +kernel) (pa_cons (pe_gR hq_RANKS rfl) pa_nil)) (by rfl))))))), ?_⟩
    walk_at "T"
    refine ⟨a, S e.1, _, rfl, ha, by rw [cd_S]; exact n1, ?_⟩
    walk_at "T"
    refine r_lenT (SqT.of ha) ?_
    walk_at "T"
    refine ⟨kd, .own e.2, rfl, hk, n2, fun H1 s1 => ?_⟩
    walk_at "T"
    refine r_ixTu (SqT.of (s1 _ _ ha)) (atI_nat (j := 2) rfl) ?_
    walk_at "T"
    refine ⟨rfl, fun p hp => ?_⟩
    have s2 := s1.trans ((Same.refl H1).at hp (.lst (RNK.map V.str)))
    have h2 : upd H1 p (.lst (RNK.map V.str)) p = some (.lst (RNK.map V.str)) := upd_same
    generalize upd H1 p (.lst (RNK.map V.str)) = H2 at s2 h2 ⊢
    refine r_inTx (ws := RNK) (.inl (SqL.of h2)) ?_
    rw [decide_eq_true (show ("maybe" : Str) ∈ RNK by decide +kernel)]
    exact k _ s2
theorem ok_in_order (T : Tx K mg) (RK : Rks K w mg) {f : Addr} {fd : FuncData} (F : Fun K "_are_in_order" "_are_in_order" s_are_in_order f fd) : FnOk P w K mg base CX0 1 f fd P_are_in_order spOrder1 := by
  refine F.ok sc_are_in_order (fun vs H Q E h => ?_) (fun cdv A outer s H vs Q E hr h => ?_)
  · obtain ⟨a, n, rfl, _⟩ := h
    rfl
  · obtain ⟨a, n, rfl, ha, n4, k⟩ := h
    obtain ⟨qr, hq_RANKS, rd, rv⟩ := RK.ex
    refine ⟨_, (pss_cons (ps_setLc (i := 1) (own := [("word", 2)]) (g := (gName 2)) rfl sc_are_in_order.nd rfl rfl (sw_true rfl rfl rfl (by decide +kernel)) (asSeq (K := K) rfl (pi_seq (pv 0))) (blkOk_by (N := N_are_in_order) (sc := defScope s_are_in_order) (by decide +kernel)) (fun _ _ _ _ _ => (pg_name (i := 2) sc_are_in_order.nd rfl (Or.inl rfl))) (fun _ _ _ _ _ => pts_nil) (fun _ _ _ _ _ => (pe_ix (ix_kdict : IxR _ (rIxD K w)) (pe_gR hq_RANKS rfl) (pv 2) (fun _ _ => rfl)))) (pss_cons (ps_if (PW.pt (pw_or (pt_cmpR ((op_neA hr.units) : OpR _ _ (rNeA K)) (pv 1) (pe_callB (L2.cr_sortedI : CallR _ _ (L2.rSortedI K)) (by rfl) T.z_sorted (by decide +kernel) (pa_cons (pv 1) pa_nil)) (nomark _)) (pw_or1 (pt_cmpR op_gtA (asBM (K := K) rfl (pe_bm PySem.F.plainAttrs_list PySem.F.slot_list_count PySem.F.type_list_count (mt_lcount : L2.MtR _ _ (L2.rCntI K)) (pv 1) (pa_cons (pe_gI T.c_LAST_RANK rfl) pa_nil))) pe_int (nomark _))))) (pss_one (ps_ret pe_bl)) pss_nil) (pss_one (ps_ret (pe_or (pe_cmpR (op_notInA : OpR _ _ (rInA K true)) pe_str (pv 0) (by rfl)) (pe_one (pe_cmpR (op_notInA : OpR _ _ (rInA K true)) pe_str (pv 0) (by rfl)))))))), ?_⟩
    walk_at "T"
    refine r_lcQ ?_
    walk_at "T"
    refine r_seqZ (.inl (SqL.of ha)) fun J SI D hD => ?_
    refine comp_same SI hD (List.replicate n (.int 1)) (by simp) (by rw [List.length_replicate]; exact Nat.lt_of_le_of_lt n4 (by decide)) (fun i x H' N hx s N' => ?_) fun H1 s1 h1 => ?_
    · have ex : x = .str "maybe" ∧ i < n := by
        rw [List.getElem?_replicate] at hx
        split at hx
        · cases hx; exact ⟨rfl, by assumption⟩
        · cases hx
      obtain ⟨rfl, li⟩ := ex
      refine ⟨rfl, ?_⟩
      walk_at "T"
      refine ⟨qr, "maybe", .int 1, rfl, rfl, rv, ?_⟩
      exact N' _ _ (by rw [List.getElem?_replicate, if_pos li]) (Same.refl _)
    walk_at "T"
    have h1' : H1 D = some (.lst ((List.replicate n (1 : Int)).map V.int)) := by rw [h1, List.map_replicate]
    refine ⟨D, List.replicate n 1, rfl, SqL.of h1', fun ns p perm pw hp => ?_⟩
    obtain rfl := perm_ones perm
    have s2 := (Same.refl H1).at hp (.lst ((List.replicate n (1 : Int)).map V.int))
    have h2 : upd H1 p (.lst ((List.replicate n (1 : Int)).map V.int)) p = some (.lst ((List.replicate n (1 : Int)).map V.int)) := upd_same
    generalize upd H1 p (.lst ((List.replicate n (1 : Int)).map V.int)) = H2 at s2 h2 ⊢
    have s12 := s1.trans s2
    refine r_neInts (SqL.of (s2 _ _ h1')) (SqL.of h2) ?_
    walk_at "T"
    refine r_tyL (s2 _ _ h1') ?_
    walk_at "T"
    refine ⟨D, List.replicate n 1, 2, rfl, rfl, SqL.of (s2 _ _ h1'), ?_⟩
    rw [show (List.replicate n (1 : Int)).count 2 = 0 from List.count_eq_zero.mpr fun h => by have := (List.mem_replicate.mp h).2; omega]
    walk_at "T"
    have ha2 : H2 a = some (.lst ((List.replicate n ("maybe" : Str)).map V.str)) := by rw [s12 _ _ ha, List.map_replicate]
    refine r_ninTx (ws := List.replicate n "maybe") (.inl (SqL.of ha2)) ?_
    by_cases c0 : ("maybe" : Str) ∈ List.replicate n ("maybe" : Str)
    · rw [decide_eq_true c0]
      walk_at "T"
      refine r_ninTx (ws := List.replicate n "maybe") (.inl (SqL.of ha2)) ?_
      rw [decide_eq_false fun h => absurd (List.mem_replicate.mp h).2 (by decide +kernel)]
      exact k _ s12
    · rw [decide_eq_false c0]
      walk_at "T"
      exact k _ s12
theorem ok_own_name (T : Tx K mg) {f : Addr} {fd : FuncData} (F : Fun K "own_name" "own_name" s_own_name f fd) : FnOk P w K mg base CX0 1 f fd P_own_name spOwnName := by
  refine F.ok sc_own_name (fun vs H Q E h => ?_) (fun cdv A outer s H vs Q E hr h => ?_)
  · obtain ⟨a, kd, rfl, _⟩ := h
    rfl
  · obtain ⟨a, kd, rfl, hk, k⟩ := h
    refine ⟨_, (pss_one (ps_ret (pe_ifExp (PW.pt (pw_and (pt_cmpR L2.op_notN (pv 0) pe_non (nomark _)) (pw_and1 (pt_cmpR ((op_eqA hr.units) : OpR _ _ (rEqA K)) (pe_ix (ix_seq : IxR _ (rIx K)) (pv 0) pe_int (fun _ _ => rfl)) pe_str (nomark _))))) (pe_ix (ix_seq : IxR _ (rIx K)) (pv 0) pe_int (fun _ _ => rfl)) pe_non))), ?_⟩
    walk_at "T"
    refine ⟨rfl, ?_⟩
    refine ⟨true, rfl, ?_⟩
    rw [if_pos rfl]
    cases kd with
    | num lo hi =>
      have hk : H a = some (.tup [.str "number", .int lo, .int hi]) := hk
      walk_at "T"
      exact k
    | one ns =>
      obtain ⟨c, h1, _⟩ := hk
      walk_at "T"
      exact k
    | nam =>
      have hk : H a = some (.tup [.str "name"]) := hk
      walk_at "T"
      exact k
    | txt n =>
      have hk : H a = some (.tup [.str "text", .int n]) := hk
      walk_at "T"
      exact k
    | own nm =>
      have hk : H a = some (.tup [.str "own", .str (S nm)]) := hk
      walk_at "T"
      exact k
theorem ok_table (T : Tx K mg) {f f_is_name : Addr} {fd fd_is_name : FuncData} (F : Fun K "is_table" "is_table" s_is_table f fd)
    (D_is_name : DAt K mg "is_name" s_is_name P_is_name f_is_name fd_is_name) : FnOk P w K mg base CX0 2 f fd P_is_table spTableK := by
  have G_is_name : FnOk P w K mg base CX0 1 f_is_name fd_is_name P_is_name (spNameT K) := ok_is_name T D_is_name.fn
  refine F.ok sc_is_table (fun vs H Q E h => ?_) (fun cdv A outer s H vs Q E hr h => ?_)
  · obtain ⟨a, kvs, rfl, _⟩ := h
    rfl
  · obtain ⟨a, kvs, rfl, ha, l60, hn, k⟩ := h
    refine ⟨_, (pss_one (ps_ret (pe_and (pe_callB (L2.call_isi : CallR _ _ (rIsi K)) (by rfl) T.z_isinstance (by decide +kernel) (pa_cons (pv 0) (pa_cons (pe_bltn (v := .ty "dict") (u := .type "dict") rfl T.z_dict (by decide +kernel) rfl) pa_nil))) (pe_one (pe_callB ((L2.cr_all rfl) : CallR _ _ (rAll K)) (by rfl) T.z_all (by decide +kernel) (pa_cons (pe_lock (pe_lc (own := [("name", 1)]) (g := (gName 1)) rfl sc_is_table.nd (pi_keys (pv 0)) (blkOk_by (N := N_is_table) (sc := defScope s_is_table) (by decide +kernel)) (fun _ _ _ _ _ => (pg_name (i := 1) sc_is_table.nd rfl (Or.inl rfl))) (fun _ _ _ _ _ => pts_nil) (fun _ _ _ _ _ => (pe_call G_is_name (hr.mono (by decide)) rfl D_is_name.gl D_is_name.fn.kp D_is_name.bd .nil pass0 (pa_cons (pv 1) pa_nil))))) pa_nil)))))), ?_⟩
    walk_at "T"
    refine r_isiB (.base (.dK ha)) (show kitB "dict" "dict" = some true by decide +kernel) ?_
    walk_at "T"
    refine r_lockE ha trivial fun od => ?_
    refine r_lcKy ?_
    walk_at "T"
    refine r_keyZ upd_same fun J SI D hD => ?_
    refine comp_same SI hD (kvs.map fun _ => V.bl true) (by simp) (by rw [List.length_map]; exact Nat.lt_of_le_of_lt l60 (by decide)) (fun i x H' N hx s N' => ?_) fun H1 s1 h1 => ?_
    · rw [List.getElem?_map] at hx
      obtain ⟨e, he, rfl⟩ := Option.map_eq_some_iff.mp hx
      obtain ⟨nm, en, hnm⟩ := hn e (List.mem_of_getElem? he)
      refine ⟨rfl, ?_⟩
      walk_at "T"
      rw [en]
      refine ⟨_, _, rfl, .str (S nm) (by rw [S_len]; have := hnm.2.1; omega) (fun c hc => by rw [cd_S] at hc; have := hnm.2.2 c hc; omega), ?_⟩
      rw [show nmD (.str (S nm)) = true from isNm_iff.mpr (by rw [cd_S]; exact hnm)]
      exact N' _ _ (by rw [List.getElem?_map, he]; rfl) (Same.refl _)
    · refine ⟨s1 _ _ upd_same, ?_⟩
      have s2 := unlock_same ha s1
      walk_at "T"
      refine ⟨D, kvs.map fun _ => true, rfl, SqL.of (by rw [upd_ne fun e => by subst e; exact nomatch hD.symm.trans upd_same]; rw [h1, List.map_map]; rfl), ?_⟩
      rw [show (kvs.map fun _ => true).all id = true by rw [List.all_map]; exact List.all_eq_true.mpr fun _ _ => rfl]
      exact k _ s2
end
end K60
namespace K60
open PySem PySem.Spec PyProof.Rows L2 J M
local macro_rules | `(tactic| walk_at "hp") => `(tactic| first | assumption | exact upd_same | (rw [upd_ne (by assumption)]; walk_at "hp") | (rw [upd_ne (Ne.symm (by assumption))]; walk_at "hp"))
local macro_rules | `(tactic| walk_at "s") => `(tactic| first
  | ((with_reducible refine' r_var ?h ?k); (case h => exact rfl))
  | (with_reducible refine r_c ?_)
  | (with_reducible refine r_op ?_)
  | (with_reducible refine r_un ?_)
  | (with_reducible refine r_seq ?_)
  | (with_reducible refine r_next ?_)
  | (with_reducible refine r_sets ?_)
  | (with_reducible refine r_gname ?_)
  | (with_reducible refine r_ifS ?_)
  | (with_reducible refine r_gsub ?_)
  | (with_reducible refine r_test ?_)
  | (with_reducible refine r_tb ?_)
  | (with_reducible refine r_not ?_)
  | (with_reducible refine r_and ?_)
  | (with_reducible refine r_or ?_)
  | (with_reducible refine r_andV ?_)
  | (with_reducible refine r_orV ?_)
  | (with_reducible refine r_notV ?_)
  | (with_reducible refine r_ifE ?_)
  | (with_reducible refine r_chain ?_)
  | (with_reducible refine r_cb ?_)
  | (with_reducible refine r_cons ?_)
  | (with_reducible refine r_nil ?_)
  | (with_reducible refine r_call ?_)
  | (with_reducible refine r_lst ?_)
  | (with_reducible refine r_tup ?_)
  | (with_reducible refine r_slice ?_)
  | (with_reducible refine r_nop ?_)
  | (with_reducible refine r_part ?_)
  | (with_reducible refine r_bm ?_)
  | (with_reducible refine r_m1 ?_)
  | (with_reducible refine r_m0 ?_)
  | (with_reducible refine r_is ?_)
  | (with_reducible refine r_maxD ?_)
  | (with_reducible refine r_orT ?_)
  | (with_reducible refine r_truN ?_)
  | (with_reducible refine r_intI ?_)
  | (with_reducible refine r_intB ?_)
  | (with_reducible refine r_max2 ?_)
  | (with_reducible refine r_min2 ?_)
  | (with_reducible refine r_yes ?_)
  | (with_reducible refine r_bl ?_)
  | (with_reducible refine iteT ?_)
  | (with_reducible refine iteF ?_)
  | (with_reducible refine r_iteNT ?_)
  | (with_reducible refine r_iteNF ?_)
  | (with_reducible refine r_minL ?_)
  | (with_reducible refine r_gcons ?_)
  | (with_reducible refine r_gnil ?_)
  | (with_reducible refine r_par ?_)
  | (with_reducible refine r_par3 ?_)
  | (with_reducible refine r_is2 ?_)
  | (with_reducible refine r_is3 ?_)
  | (with_reducible refine r_dget ?_)
  | (with_reducible refine r_callS ?_)
  | (with_reducible refine r_rz ?_)
  | (with_reducible refine r_rev ?_)
  | (with_reducible refine r_isI ?_)
  | (with_reducible refine r_isStr ?_)
  | (with_reducible refine r_ret ?_)
  | (with_reducible refine r_drop ?_)
  | (with_reducible refine r_rI0 ?_)
  | (with_reducible refine r_addI ?_)
  | ((with_reducible show rI (fun _ j => 0 < j) _ (.int _) (.int _) _ _); refine r_rI (by first | omega | decide) ?_)
  | ((with_reducible show rI CDiv _ (.int _) (.int _) _ _); refine r_rI (by constructor <;> omega) ?_)
  | ((with_reducible show rI CPow _ (.int _) (.int _) _ _); refine r_rI (by refine ⟨by decide, by decide, ?_⟩; omega) ?_)
  | ((with_reducible show rMul (.int _) (.int _) _ _); refine r_mulI (cmulW (by omega) (by omega)) ?_)
  | (with_reducible refine r_cmpI ?_)
  | (with_reducible refine r_cmpS ?_)
  | (with_reducible refine r_eqI ?_)
  | (with_reducible refine r_neI ?_)
  | (with_reducible refine r_eqS ?_)
  | (with_reducible refine r_neS ?_)
  | (with_reducible refine r_inSF ?_)
  | (with_reducible refine r_inST ?_)
  | (with_reducible refine r_isiStr ?_)
  | ((with_reducible show rIx _ (.ref _) (.int _) _ _); refine' r_ixL (SqL.of ?h) ?e ?_; (case h => walk_at "hp"); (case e => rfl))
  | ((with_reducible show rSetL (.ref _) (.int _) _ _ _); refine' r_setL ?h ?e ?_; (case h => walk_at "hp"); (case e => rfl)))
local macro_rules | `(tactic| walk_at "g") => `(tactic| repeat walk_at "s")
local macro_rules | `(tactic| walk_at "x") => `(tactic| first | omega | decide +kernel | (simp only [List.length_cons, List.length_nil]; omega))
local macro_rules | `(tactic| walk_at "T") => `(tactic| repeat (first
  | walk_at "s"
  | ((with_reducible show rIx _ (.ref _) (.int _) _ _); refine' r_ixTu (SqT.of ?h) ?e ?_; (case h => first | assumption | walk_at "hp"); (case e => rfl))
  | (with_reducible refine r_lenSet ?_)
  | (with_reducible refine r_asg2 ?_)
  | (with_reducible refine iteDT (by walk_at "x") ?_)
  | (with_reducible refine iteDF (by walk_at "x") ?_)
  | (with_reducible refine iteNT (by walk_at "x") ?_)
  | (with_reducible refine iteNF (by walk_at "x") ?_)))
section
variable {P : Program} {w : World} {K : PySem.W.Frag} {mg : Str → Option Value} {base : Heap}
abbrev s_has_command_form : Stmt := topS 66
abbrev N_has_command_form : List Str := ["thing", "_", "options", "places", "groups", "commands", "option", "group"]
abbrev P_has_command_form : List Str := ["thing"]
theorem sc_has_command_form : FnScope N_has_command_form P_has_command_form (defScope s_has_command_form) := ⟨rfl, rfl, rfl, by decide +kernel, rfl, by decide +kernel, by decide +kernel⟩
abbrev s_are_places : Stmt := topS 69
abbrev N_are_places : List Str := ["things", "thing", "_", "times"]
abbrev P_are_places : List Str := ["things"]
theorem sc_are_places : FnScope N_are_places P_are_places (defScope s_are_places) := ⟨rfl, rfl, rfl, by decide +kernel, rfl, by decide +kernel, by decide +kernel⟩
abbrev s_asked : Stmt := topS 78
abbrev N_asked : List Str := ["table", "name", "ask"]
abbrev P_asked : List Str := ["table", "name"]
theorem sc_asked : FnScope N_asked P_asked (defScope s_asked) := ⟨rfl, rfl, rfl, by decide +kernel, rfl, by decide +kernel, by decide +kernel⟩
abbrev s_refuse_twice : Stmt := topS 83
abbrev N_refuse_twice : List Str := ["path", "command", "names", "letters", "beneath", "texts", "part", "option", "below", "at", "text"]
abbrev P_refuse_twice : List Str := ["path", "command"]
theorem sc_refuse_twice : FnScope N_refuse_twice P_refuse_twice (defScope s_refuse_twice) := ⟨rfl, rfl, rfl, by decide +kernel, rfl, by decide +kernel, by decide +kernel⟩
abbrev s_own_names : Stmt := topS 84
abbrev N_own_names : List Str := ["command", "kinds", "kind", "_"]
abbrev P_own_names : List Str := ["command"]
theorem sc_own_names : FnScope N_own_names P_own_names (defScope s_own_names) := ⟨rfl, rfl, rfl, by decide +kernel, rfl, by decide +kernel, by decide +kernel⟩
abbrev s_refuse_group : Stmt := topS 86
abbrev N_refuse_group : List Str := ["path", "command", "options", "group", "option", "name"]
abbrev P_refuse_group : List Str := ["path", "command"]
theorem sc_refuse_group : FnScope N_refuse_group P_refuse_group (defScope s_refuse_group) := ⟨rfl, rfl, rfl, by decide +kernel, rfl, by decide +kernel, by decide +kernel⟩
open LamX NdefX
/-- a told lambda gives a list of what it keeps -/
structure LamOk (P : Program) (w : World) (K : PySem.W.Frag) (mg : Str → Option Value) (base : Heap) (W : LamW) : Prop where
  S : NScope [W.y] [] [W.y] W.scope
  bind : ∀ (cl : List (Str × Addr)) (pm cv ctv : Value), bindArgs (PySem.W.kla_fn "<lambda>" W.qual W.params W.e W.scope cl pm cv ctv) ⟨[], []⟩ = pure []
  body : ∀ (A : Around) (outer : List Env) (s : Shared) (H : Hp) (f c c' : Addr), Room 1 (A.deeper (envF (W.nf c c') f s.heap.objs.size)) → PE (ncx CX0 P w K mg base [W.y] (W.nf c c') f A outer s H E0) W.e (tCB (rListOf K) (tCons (tVar 0) tNil))
theorem ok_asked (T : Tx K mg) {W : LamW} (LW : LamOk P w K mg base W) {f : Addr} {fd : FuncData} (F : Fun K "asked" "asked" s_asked f fd) : FnOk P w K mg base CX0 3 f fd P_asked (spAsked W) := by
  refine F.ok sc_asked (fun vs H Q E h => ?_) (fun cdv A outer s H vs Q E hr h => ?_)
  · obtain ⟨t, fa, l, nm, kvs, ws, rfl, _⟩ := h
    rfl
  · obtain ⟨t, fa, l, nm, kvs, ws, rfl, ht, hv, tl, hl, k⟩ := h
    refine ⟨_, (pss_cons (ps_set (i := 2) sc_asked.nd rfl (Or.inl rfl) (pe_dget (hu_of hr) (pv 0) (pv 1) (fun _ _ => rfl))) (pss_one (ps_ret (pe_callTy (call_tupA : CallR _ _ (rTupOf K)) (by rfl) T.z_tuple (by decide +kernel) (pa_cons (pe_ask (W := W) (N := [W.y]) (i := 2) (k := 1) rfl (Or.inl rfl) (hr.mono (by decide)) LW.S (fun cl pm cv ctv => LW.bind cl pm cv ctv) (fun A outer s H f c c' h => LW.body A outer s H f c c' h)) pa_nil))))), ?_⟩
    walk_at "T"
    refine ⟨t, .ref fa, rfl, by rw [← hv]; exact DGet.k (k := .inr (S nm)) ht, ?_⟩
    walk_at "T"
    refine r_askL (f := fa) rfl tl hl fun p hp => ?_
    have s1 := (Same.refl H).at hp (.lst (ws.map wV))
    have h1 : upd H p (.lst (ws.map wV)) p = some (.lst (ws.map wV)) := upd_same
    generalize upd H p (.lst (ws.map wV)) = H1 at s1 h1 ⊢
    walk_at "T"
    refine ⟨p, _, rfl, .inl ⟨SqL.of h1, fun q hq => ?_⟩⟩
    have s2 := s1.trans ((Same.refl H1).at hq (.tup (ws.map wV)))
    exact k _ q s2 (Same.non s1 hq) upd_same
theorem ok_places (T : Tx K mg) (RK : Rks K w mg) {f f_is_name f_are_unlike f_is_whole f_are_bounds f_are_choices f_is_kind f_begins_with_name f_has_place_form f_are_in_order : Addr} {fd fd_is_name fd_are_unlike fd_is_whole fd_are_bounds fd_are_choices fd_is_kind fd_begins_with_name fd_has_place_form fd_are_in_order : FuncData} (F : Fun K "_are_places" "_are_places" s_are_places f fd)
    (D_is_name : DAt K mg "is_name" s_is_name P_is_name f_is_name fd_is_name)
    (D_are_unlike : DAt K mg "are_unlike" s_are_unlike P_are_unlike f_are_unlike fd_are_unlike)
    (D_is_whole : DAt K mg "is_whole" s_is_whole P_is_whole f_is_whole fd_is_whole)
    (D_are_bounds : DAt K mg "_are_bounds" s_are_bounds P_are_bounds f_are_bounds fd_are_bounds)
    (D_are_choices : DAt K mg "_are_choices" s_are_choices P_are_choices f_are_choices fd_are_choices)
    (D_is_kind : DAt K mg "is_kind" s_is_kind P_is_kind f_is_kind fd_is_kind)
    (D_begins_with_name : DAt K mg "begins_with_name" s_begins_with_name P_begins_with_name f_begins_with_name fd_begins_with_name)
    (D_has_place_form : DAt K mg "has_place_form" s_has_place_form P_has_place_form f_has_place_form fd_has_place_form)
    (D_are_in_order : DAt K mg "_are_in_order" s_are_in_order P_are_in_order f_are_in_order fd_are_in_order) : FnOk P w K mg base CX0 5 f fd P_are_places spPlaces1 := by
  have G_has_place_form : FnOk P w K mg base CX0 4 f_has_place_form fd_has_place_form P_has_place_form spPlForm := ok_place T RK D_has_place_form.fn D_is_name D_are_unlike D_is_whole D_are_bounds D_are_choices D_is_kind D_begins_with_name
  have G_are_in_order : FnOk P w K mg base CX0 1 f_are_in_order fd_are_in_order P_are_in_order spOrder1 := ok_in_order T RK D_are_in_order.fn
  refine F.ok sc_are_places (fun vs H Q E h => ?_) (fun cdv A outer s H vs Q E hr h => ?_)
  · obtain ⟨a, xs, es, rfl, _⟩ := h
    rfl
  · obtain ⟨a, xs, es, rfl, ha, hp, ok, k⟩ := h
    have lx : xs.length ≤ 4 := by rw [hp.len]; exact ok.1
    refine ⟨_, (pss_one (ps_ret (pe_and (pe_callB ((L2.cr_all rfl) : CallR _ _ (rAll K)) (by rfl) T.z_all (by decide +kernel) (pa_cons (pe_lc (own := [("thing", 1)]) (g := (gName 1)) rfl sc_are_places.nd (asSeq (K := K) rfl (pi_seq (pv 0))) (blkOk_by (N := N_are_places) (sc := defScope s_are_places) (by decide +kernel)) (fun _ _ _ _ _ => (pg_name (i := 1) sc_are_places.nd rfl (Or.inl rfl))) (fun _ _ _ _ _ => pts_nil) (fun _ _ _ _ _ => (pe_call G_has_place_form (hr.mono (by decide)) rfl D_has_place_form.gl D_has_place_form.fn.kp D_has_place_form.bd .nil pass0 (pa_cons (pv 1) pa_nil)))) pa_nil)) (pe_one (pe_call G_are_in_order (hr.mono (by decide)) rfl D_are_in_order.gl D_are_in_order.fn.kp D_are_in_order.bd .nil pass0 (pa_cons (pe_lc (own := [("_", 2), ("times", 3)]) (g := (gTup K 3 (gCons (gName 2) (gCons (gName 2) (gCons (gName 3) gNil))))) rfl sc_are_places.nd (asSeq (K := K) rfl (pi_seq (pv 0))) (blkOk_by (N := N_are_places) (sc := defScope s_are_places) (by decide +kernel)) (fun _ _ _ _ _ => (asGTup (K := K) rfl (pg_tup rfl (pgs_cons (pg_name (i := 2) sc_are_places.nd rfl (Or.inl rfl)) (pgs_cons (pg_name (i := 2) sc_are_places.nd rfl (Or.inl rfl)) (pgs_cons (pg_name (i := 3) sc_are_places.nd rfl (Or.inl rfl)) pgs_nil)))))) (fun _ _ _ _ _ => pts_nil) (fun _ _ _ _ _ => (pv 3))) pa_nil)))))), ?_⟩
    walk_at "T"
    refine r_lcQ ?_
    walk_at "T"
    refine r_seqZ (.inr (SqT.of ha)) fun J SI D hD => ?_
    refine comp_same SI hD (es.map fun _ => V.bl true) (by rw [List.length_map, hp.len]) (Nat.lt_of_le_of_lt lx (by decide)) (fun i x H' N hx s N' => ?_) fun H1 s1 h1 => ?_
    · obtain ⟨p, e, rfl, he, hpe⟩ := hp.get hx
      have q := ok.2.1 e (List.mem_of_getElem? he)
      walk_at "T"
      refine ⟨rfl, ?_⟩
      walk_at "T"
      refine ⟨p, e, rfl, hpe.keep (TupK.of s), q.1, q.2, fun H2 s2 => ?_⟩
      exact N' _ _ (by rw [List.getElem?_map, he]; rfl) s2
    walk_at "T"
    refine ⟨D, es.map fun _ => true, rfl, SqL.of (by rw [h1, List.map_map]; rfl), ?_⟩
    rw [show (es.map fun _ => true).all id = true by rw [List.all_map]; exact List.all_eq_true.mpr fun _ _ => rfl]
    walk_at "T"
    refine r_lcQ ?_
    walk_at "T"
    refine r_seqZ (.inr (SqT.of (s1 _ _ ha))) fun J2 SI2 D2 hD2 => ?_
    refine comp_same SI2 hD2 (List.replicate es.length (.str "maybe")) (by rw [List.length_replicate, hp.len]) (Nat.lt_of_le_of_lt lx (by decide)) (fun i x H' N hx s N' => ?_) fun H2 s2 h2 => ?_
    · obtain ⟨p, e, rfl, he, hpe⟩ := hp.get hx
      obtain ⟨kd, h1, h2⟩ := hpe.keep (TupK.of (s1.trans s))
      refine r_gtup (SqT.of h1) rfl ?_
      walk_at "T"
      refine ⟨rfl, ?_⟩
      walk_at "T"
      exact N' _ _ (by rw [List.getElem?_replicate, if_pos (List.getElem?_eq_some_iff.mp he).1]) (Same.refl _)
    walk_at "T"
    refine ⟨D2, es.length, rfl, h2, ok.1, fun H3 s3 => ?_⟩
    exact k _ ((s1.trans s2).trans s3)
theorem ok_cmd_form (T : Tx K mg) (RK : Rks K w mg) {f f_is_name f_are_unlike f_is_whole f_are_bounds f_are_choices f_is_kind f_begins_with_name f_has_place_form f_are_in_order f_are_places f_is_tuple_to : Addr} {fd fd_is_name fd_are_unlike fd_is_whole fd_are_bounds fd_are_choices fd_is_kind fd_begins_with_name fd_has_place_form fd_are_in_order fd_are_places fd_is_tuple_to : FuncData} (F : Fun K "has_command_form" "has_command_form" s_has_command_form f fd)
    (D_is_name : DAt K mg "is_name" s_is_name P_is_name f_is_name fd_is_name)
    (D_are_unlike : DAt K mg "are_unlike" s_are_unlike P_are_unlike f_are_unlike fd_are_unlike)
    (D_is_whole : DAt K mg "is_whole" s_is_whole P_is_whole f_is_whole fd_is_whole)
    (D_are_bounds : DAt K mg "_are_bounds" s_are_bounds P_are_bounds f_are_bounds fd_are_bounds)
    (D_are_choices : DAt K mg "_are_choices" s_are_choices P_are_choices f_are_choices fd_are_choices)
    (D_is_kind : DAt K mg "is_kind" s_is_kind P_is_kind f_is_kind fd_is_kind)
    (D_begins_with_name : DAt K mg "begins_with_name" s_begins_with_name P_begins_with_name f_begins_with_name fd_begins_with_name)
    (D_has_place_form : DAt K mg "has_place_form" s_has_place_form P_has_place_form f_has_place_form fd_has_place_form)
    (D_are_in_order : DAt K mg "_are_in_order" s_are_in_order P_are_in_order f_are_in_order fd_are_in_order)
    (D_are_places : DAt K mg "_are_places" s_are_places P_are_places f_are_places fd_are_places)
    (D_is_tuple_to : DAt K mg "_is_tuple_to" s_is_tuple_to P_is_tuple_to f_is_tuple_to fd_is_tuple_to) : FnOk P w K mg base CX0 6 f fd P_has_command_form spRoot := by
  have G_begins_with_name : FnOk P w K mg base CX0 2 f_begins_with_name fd_begins_with_name P_begins_with_name spNamed := ok_begins T D_begins_with_name.fn D_is_name
  have G_is_tuple_to : FnOk P w K mg base CX0 1 f_is_tuple_to fd_is_tuple_to P_is_tuple_to spTupTo := ok_tup_to T D_is_tuple_to.fn
  have G_are_places : FnOk P w K mg base CX0 5 f_are_places fd_are_places P_are_places spPlaces1 := ok_places T RK D_are_places.fn D_is_name D_are_unlike D_is_whole D_are_bounds D_are_choices D_is_kind D_begins_with_name D_has_place_form D_are_in_order
  refine F.ok sc_has_command_form (fun vs H Q E h => ?_) (fun cdv A outer s H vs Q E hr h => ?_)
  · obtain ⟨a, es, rfl, _⟩ := h
    rfl
  · obtain ⟨a, es, rfl, hc, ok, k⟩ := h
    obtain ⟨oa, pa, ga, ca, xs, h1, h2, h3, h4, h5, h6⟩ := hc.ex
    refine ⟨_, (pss_cons (ps_if (PW.pt (pw_or (pt_not (pt_val (pe_call G_begins_with_name (hr.mono (by decide)) rfl D_begins_with_name.gl D_begins_with_name.fn.kp D_begins_with_name.bd .nil pass0 (pa_cons (pv 0) pa_nil)))) (pw_or1 (pt_cmpR ((op_neA hr.units) : OpR _ _ (rNeA K)) (pe_callB (call_lenA : CallR _ _ (J.rLen K)) (by rfl) T.z_len (by decide +kernel) (pa_cons (pv 0) pa_nil)) (pe_gI T.c_COMMAND_PARTS rfl) (nomark _))))) (pss_one (ps_ret pe_bl)) pss_nil) (pss_cons (ps_asg (pv 0) (asGTup (K := K) rfl (pg_tup rfl (pgs_cons (pg_name (i := 1) sc_has_command_form.nd rfl (Or.inl rfl)) (pgs_cons (pg_name (i := 2) sc_has_command_form.nd rfl (Or.inl rfl)) (pgs_cons (pg_name (i := 3) sc_has_command_form.nd rfl (Or.inl rfl)) (pgs_cons (pg_name (i := 4) sc_has_command_form.nd rfl (Or.inl rfl)) (pgs_cons (pg_name (i := 5) sc_has_command_form.nd rfl (Or.inl rfl)) pgs_nil)))))))) (pss_cons (ps_if (PW.pt (pw_or (pt_not (pt_val (pe_call G_is_tuple_to (hr.mono (by decide)) rfl D_is_tuple_to.gl D_is_tuple_to.fn.kp D_is_tuple_to.bd .nil pass0 (pa_cons (pv 2) (pa_cons (pe_gI T.c_MOST_OPTIONS rfl) pa_nil))))) (pw_or1 (pt_not (pt_val (pe_callB ((L2.cr_all rfl) : CallR _ _ (rAll K)) (by rfl) T.z_all (by decide +kernel) (pa_cons (pe_lc (own := [("option", 6)]) (g := (gName 6)) rfl sc_has_command_form.nd (asSeq (K := K) rfl (pi_seq (pv 2))) (blkOk_by (N := N_has_command_form) (sc := defScope s_has_command_form) (by decide +kernel)) (fun _ _ _ _ _ => (pg_name (i := 6) sc_has_command_form.nd rfl (Or.inl rfl))) (fun _ _ _ _ _ => pts_nil) (fun _ _ _ _ _ => pe_false)) pa_nil))))))) (pss_one (ps_ret pe_bl)) pss_nil) (pss_cons (ps_if (PW.pt (pw_or (pt_not (pt_val (pe_call G_is_tuple_to (hr.mono (by decide)) rfl D_is_tuple_to.gl D_is_tuple_to.fn.kp D_is_tuple_to.bd .nil pass0 (pa_cons (pv 3) (pa_cons (pe_gI T.c_MOST_PLACES rfl) pa_nil))))) (pw_or1 (pt_not (pt_val (pe_call G_are_places (hr.mono (by decide)) rfl D_are_places.gl D_are_places.fn.kp D_are_places.bd .nil pass0 (pa_cons (pv 3) pa_nil))))))) (pss_one (ps_ret pe_bl)) pss_nil) (pss_cons (ps_if (PW.pt (pw_or (pt_not (pt_val (pe_call G_is_tuple_to (hr.mono (by decide)) rfl D_is_tuple_to.gl D_is_tuple_to.fn.kp D_is_tuple_to.bd .nil pass0 (pa_cons (pv 4) (pa_cons (pe_gI T.c_MOST_GROUPS rfl) pa_nil))))) (pw_or1 (pt_not (pt_val (pe_callB ((L2.cr_all rfl) : CallR _ _ (rAll K)) (by rfl) T.z_all (by decide +kernel) (pa_cons (pe_lc (own := [("group", 7)]) (g := (gName 7)) rfl sc_has_command_form.nd (asSeq (K := K) rfl (pi_seq (pv 4))) (blkOk_by (N := N_has_command_form) (sc := defScope s_has_command_form) (by decide +kernel)) (fun _ _ _ _ _ => (pg_name (i := 7) sc_has_command_form.nd rfl (Or.inl rfl))) (fun _ _ _ _ _ => pts_nil) (fun _ _ _ _ _ => pe_false)) pa_nil))))))) (pss_one (ps_ret pe_bl)) pss_nil) (pss_one (ps_ret (pe_and (pe_call G_is_tuple_to (hr.mono (by decide)) rfl D_is_tuple_to.gl D_is_tuple_to.fn.kp D_is_tuple_to.bd .nil pass0 (pa_cons (pv 5) (pa_cons (pe_gI T.c_MOST_BENEATH rfl) pa_nil))) (pe_one (pe_or (pe_cmpR ((op_eqA hr.units) : OpR _ _ (rEqA K)) (pe_callB (call_lenA : CallR _ _ (J.rLen K)) (by rfl) T.z_len (by decide +kernel) (pa_cons (pv 5) pa_nil)) pe_int (nomark _)) (pe_one (pe_cmpR ((op_eqA hr.units) : OpR _ _ (rEqA K)) (pe_callB (call_lenA : CallR _ _ (J.rLen K)) (by rfl) T.z_len (by decide +kernel) (pa_cons (pv 3) pa_nil)) pe_int (nomark _))))))))))))), ?_⟩
    walk_at "T"
    refine ⟨a, "tool", _, rfl, h1, ⟨by decide +kernel, by decide +kernel, by decide +kernel⟩, ?_⟩
    walk_at "T"
    refine r_lenT (SqT.of h1) ?_
    walk_at "T"
    refine r_gtup (SqT.of h1) rfl ?_
    walk_at "T"
    refine ⟨oa, [], 6, rfl, h2, by decide, ?_⟩
    walk_at "T"
    refine r_lcQ ?_
    walk_at "T"
    refine r_seqZ (.inr (SqT.of h2)) fun J SI D hD => ?_
    refine comp_nil SI hD fun H1 s1 hl => ?_
    walk_at "T"
    refine ⟨D, ([] : List Bool), rfl, SqL.of hl, ?_⟩
    rw [show ([] : List Bool).all id = true from rfl]
    walk_at "T"
    refine ⟨pa, xs, 4, rfl, s1 _ _ h3, by rw [h4.len]; exact_mod_cast ok.1, ?_⟩
    walk_at "T"
    refine ⟨pa, xs, es, rfl, s1 _ _ h3, h4.keep (TupK.of s1), ok, fun H2 s2 => ?_⟩
    have s12 := s1.trans s2
    walk_at "T"
    refine ⟨ga, [], 4, rfl, s12 _ _ h5, by decide, ?_⟩
    walk_at "T"
    refine r_lcQ ?_
    walk_at "T"
    refine r_seqZ (.inr (SqT.of (s12 _ _ h5))) fun J3 SI3 D3 hD3 => ?_
    refine comp_nil SI3 hD3 fun H3 s3 hl3 => ?_
    have s13 := s12.trans s3
    walk_at "T"
    refine ⟨D3, ([] : List Bool), rfl, SqL.of hl3, ?_⟩
    rw [show ([] : List Bool).all id = true from rfl]
    walk_at "T"
    refine ⟨ca, [], 6, rfl, s13 _ _ h6, by decide, ?_⟩
    walk_at "T"
    refine r_lenT (SqT.of (s13 _ _ h6)) ?_
    walk_at "T"
    exact k _ s13
theorem ok_own_names (T : Tx K mg) {f : Addr} {fd : FuncData} (F : Fun K "_own_names" "_own_names" s_own_names f fd) : FnOk P w K mg base CX0 1 f fd P_own_names spOwnNamesP := by
  refine F.ok sc_own_names (fun vs H Q E h => ?_) (fun cdv A outer s H vs Q E hr h => ?_)
  · obtain ⟨a, es, rfl, _⟩ := h
    rfl
  · obtain ⟨a, es, rfl, hc, l4, k⟩ := h
    obtain ⟨oa, pa, ga, ca, xs, h1, h2, h3, h4, h5, h6⟩ := hc.ex
    have lx : xs.length ≤ 4 := by rw [h4.len]; exact l4
    refine ⟨_, (pss_cons (ps_set (i := 1) sc_own_names.nd rfl (Or.inl rfl) (pe_op (oAdd : OpR _ _ (J.rAdd K)) (pe_lc (own := [("_", 3), ("kind", 2)]) (g := (gTup K 7 (gCons (gName 3) (gCons (gName 3) (gCons (gName 3) (gCons (gName 2) (gCons (gName 3) (gCons (gName 3) (gCons (gName 3) gNil))))))))) rfl sc_own_names.nd (asSeq (K := K) rfl (pi_seq (pe_ix (ix_seq : IxR _ (rIx K)) (pv 0) (pe_gI T.c_OPTIONS rfl) (fun _ _ => rfl)))) (blkOk_by (N := N_own_names) (sc := defScope s_own_names) (by decide +kernel)) (fun _ _ _ _ _ => (asGTup (K := K) rfl (pg_tup rfl (pgs_cons (pg_name (i := 3) sc_own_names.nd rfl (Or.inl rfl)) (pgs_cons (pg_name (i := 3) sc_own_names.nd rfl (Or.inl rfl)) (pgs_cons (pg_name (i := 3) sc_own_names.nd rfl (Or.inl rfl)) (pgs_cons (pg_name (i := 2) sc_own_names.nd rfl (Or.inl rfl)) (pgs_cons (pg_name (i := 3) sc_own_names.nd rfl (Or.inl rfl)) (pgs_cons (pg_name (i := 3) sc_own_names.nd rfl (Or.inl rfl)) (pgs_cons (pg_name (i := 3) sc_own_names.nd rfl (Or.inl rfl)) pgs_nil)))))))))) (fun _ _ _ _ _ => pts_nil) (fun _ _ _ _ _ => (pv 2))) (pe_lc (own := [("_", 3), ("kind", 2)]) (g := (gTup K 3 (gCons (gName 3) (gCons (gName 2) (gCons (gName 3) gNil))))) rfl sc_own_names.nd (asSeq (K := K) rfl (pi_seq (pe_ix (ix_seq : IxR _ (rIx K)) (pv 0) (pe_gI T.c_PLACES rfl) (fun _ _ => rfl)))) (blkOk_by (N := N_own_names) (sc := defScope s_own_names) (by decide +kernel)) (fun _ _ _ _ _ => (asGTup (K := K) rfl (pg_tup rfl (pgs_cons (pg_name (i := 3) sc_own_names.nd rfl (Or.inl rfl)) (pgs_cons (pg_name (i := 2) sc_own_names.nd rfl (Or.inl rfl)) (pgs_cons (pg_name (i := 3) sc_own_names.nd rfl (Or.inl rfl)) pgs_nil)))))) (fun _ _ _ _ _ => pts_nil) (fun _ _ _ _ _ => (pv 2))))) (pss_one (ps_ret (pe_lc (own := [("kind", 2)]) (g := (gName 2)) rfl sc_own_names.nd (asSeq (K := K) rfl (pi_seq (pv 1))) (blkOk_by (N := N_own_names) (sc := defScope s_own_names) (by decide +kernel)) (fun _ _ _ _ _ => (pg_name (i := 2) sc_own_names.nd rfl (Or.inl rfl))) (fun _ _ _ _ _ => (pts_one (PW.pt (pw_and (pt_cmpR L2.op_notN (pv 2) pe_non (nomark _)) (pw_and1 (pt_cmpR ((op_eqA hr.units) : OpR _ _ (rEqA K)) (pe_ix (ix_seq : IxR _ (rIx K)) (pv 2) pe_int (fun _ _ => rfl)) pe_str (nomark _))))))) (fun _ _ _ _ _ => (pe_ix (ix_seq : IxR _ (rIx K)) (pv 2) pe_int (fun _ _ => rfl))))))), ?_⟩
    walk_at "T"
    refine r_lcQ ?_
    walk_at "T"
    refine r_seqZ (.inr (SqT.of h2)) fun J SI D hD => ?_
    refine comp_nil SI hD fun H1 s1 hl => ?_
    have h1' := s1 _ _ h1
    walk_at "T"
    refine r_lcQ ?_
    walk_at "T"
    obtain ⟨ks, kl, hk⟩ := h4.kinds
    refine r_seqZ (.inr (SqT.of (s1 _ _ h3))) fun J2 SI2 D2 hD2 => ?_
    refine comp_same SI2 hD2 (ks.map V.ref) (by rw [List.length_map, kl, h4.len]) (Nat.lt_of_le_of_lt lx (by decide)) (fun i x H' N hx s N' => ?_) fun H2 s2 hl2 => ?_
    · obtain ⟨p, kd, e, rfl, he, hkd, hp, _⟩ := hk i x hx
      refine r_gtup (SqT.of (s _ _ (s1 _ _ hp))) rfl ?_
      walk_at "T"
      refine ⟨rfl, ?_⟩
      walk_at "T"
      exact N' _ _ (by rw [List.getElem?_map, hkd]; rfl) (Same.refl _)
    walk_at "T"
    have s12 := s1.trans s2
    have lk : ks.length ≤ 4 := by rw [kl]; exact l4
    refine r_cat (s2 _ _ hl) hl2 (by rw [List.length_map]; exact Nat.le_trans (Nat.add_le_add_left lk _) (by decide)) fun p hp => ?_
    have s3 := (Same.refl H2).at hp (.lst ([] ++ ks.map V.ref))
    have h3' : upd H2 p (.lst ([] ++ ks.map V.ref)) p = some (.lst (ks.map V.ref)) := upd_same
    generalize upd H2 p (.lst ([] ++ ks.map V.ref)) = H3 at s3 h3' ⊢
    have s13 := s12.trans s3
    walk_at "T"
    refine r_lcQ ?_
    walk_at "T"
    refine r_seqZ (.inl (SqL.of h3')) fun J4 SI4 D4 hD4 => ?_
    refine comp_keep SI4 hD4 (es.map fun e => V.str (S e.2)) (by rw [List.length_map, List.length_map, kl]) (by rw [List.length_map]; exact Nat.lt_of_le_of_lt lk (by decide)) (fun i x H' N N0 hx s hN => ?_) fun H4 s4 hl4 => ?_
    · rw [List.getElem?_map] at hx
      obtain ⟨kd, ekd, rfl⟩ := Option.map_eq_some_iff.mp hx
      obtain ⟨e, he, hke⟩ := h4.kind kl hk ekd
      have hke : H' kd = some (.tup [.str "own", .str (S e.2)]) := (s13.trans s) _ _ hke
      refine ⟨rfl, ?_⟩
      walk_at "T"
      refine ⟨rfl, true, rfl, ?_⟩
      rw [if_pos rfl]
      walk_at "T"
      exact hN _ _ (by rw [List.getElem?_map, he]; rfl) (Same.refl _)
    · walk_at "T"
      exact k _ _ (s13.trans s4) (Same.non s13 hD4) hl4
theorem ok_twice (T : Tx K mg) {f f_is_name f_begins_with_name f_are_unlike : Addr} {fd fd_is_name fd_begins_with_name fd_are_unlike : FuncData} (F : Fun K "_refuse_twice" "_refuse_twice" s_refuse_twice f fd)
    (D_is_name : DAt K mg "is_name" s_is_name P_is_name f_is_name fd_is_name)
    (D_begins_with_name : DAt K mg "begins_with_name" s_begins_with_name P_begins_with_name f_begins_with_name fd_begins_with_name)
    (D_are_unlike : DAt K mg "are_unlike" s_are_unlike P_are_unlike f_are_unlike fd_are_unlike) : FnOk P w K mg base CX0 3 f fd P_refuse_twice spTwiceP := by
  have G_begins_with_name : FnOk P w K mg base CX0 2 f_begins_with_name fd_begins_with_name P_begins_with_name spNamed := ok_begins T D_begins_with_name.fn D_is_name
  have G_are_unlike : FnOk P w K mg base CX0 1 f_are_unlike fd_are_unlike P_are_unlike (spUnlike K) := ok_are_unlike T D_are_unlike.fn
  refine F.ok sc_refuse_twice (fun vs H Q E h => ?_) (fun cdv A outer s H vs Q E hr h => ?_)
  · obtain ⟨p, a, es, rfl, _⟩ := h
    rfl
  · obtain ⟨p, a, es, rfl, hc, ok, k⟩ := h
    obtain ⟨oa, pa, ga, ca, xs, h1, h2, h3, h4, h5, h6⟩ := hc.ex
    have lx : xs.length ≤ 4 := by rw [h4.len]; exact ok.1
    refine ⟨_, (pss_cons (ps_setLc (i := 2) (own := [("part", 6)]) (g := (gName 6)) rfl sc_refuse_twice.nd rfl rfl (sw_true rfl rfl rfl (by decide +kernel)) (asSeq (K := K) rfl (pi_seq (pe_op (oAdd : OpR _ _ (J.rAdd K)) (pe_ix (ix_seq : IxR _ (rIx K)) (pv 1) (pe_gI T.c_OPTIONS rfl) (fun _ _ => rfl)) (pe_ix (ix_seq : IxR _ (rIx K)) (pv 1) (pe_gI T.c_PLACES rfl) (fun _ _ => rfl))))) (blkOk_by (N := N_refuse_twice) (sc := defScope s_refuse_twice) (by decide +kernel)) (fun _ _ _ _ _ => (pg_name (i := 6) sc_refuse_twice.nd rfl (Or.inl rfl))) (fun _ _ _ _ _ => pts_nil) (fun _ _ _ _ _ => (pe_ix (ix_seq : IxR _ (rIx K)) (pv 6) (pe_gI T.c_NAME rfl) (fun _ _ => rfl)))) (pss_cons (ps_setLc (i := 3) (own := [("option", 7)]) (g := (gName 7)) rfl sc_refuse_twice.nd rfl rfl (sw_true rfl rfl rfl (by decide +kernel)) (asSeq (K := K) rfl (pi_seq (pe_ix (ix_seq : IxR _ (rIx K)) (pv 1) (pe_gI T.c_OPTIONS rfl) (fun _ _ => rfl)))) (blkOk_by (N := N_refuse_twice) (sc := defScope s_refuse_twice) (by decide +kernel)) (fun _ _ _ _ _ => (pg_name (i := 7) sc_refuse_twice.nd rfl (Or.inl rfl))) (fun _ _ _ _ _ => (pts_one (pt_cmpR L2.op_notN pe_false pe_non (nomark _)))) (fun _ _ _ _ _ => pe_false)) (pss_cons (ps_setLc (i := 4) (own := [("below", 8)]) (g := (gName 8)) rfl sc_refuse_twice.nd rfl rfl (sw_true rfl rfl rfl (by decide +kernel)) (asSeq (K := K) rfl (pi_seq (pe_ix (ix_seq : IxR _ (rIx K)) (pv 1) (pe_gI T.c_COMMANDS rfl) (fun _ _ => rfl)))) (blkOk_by (N := N_refuse_twice) (sc := defScope s_refuse_twice) (by decide +kernel)) (fun _ _ _ _ _ => (pg_name (i := 8) sc_refuse_twice.nd rfl (Or.inl rfl))) (fun _ _ _ _ _ => (pts_one pt_false)) (fun _ _ _ _ _ => (pe_ix (ix_seq : IxR _ (rIx K)) (pv 8) (pe_gI T.c_NAME rfl) (fun _ _ => rfl)))) (pss_one (ps_for (PassesOwn.never) rfl (asSeq (K := K) rfl (pi_seq (pe_tup (pa_cons (pv 2) (pa_cons (pv 3) (pa_cons (pv 4) pa_nil)))))) (pg_name (i := 5) sc_refuse_twice.nd rfl (Or.inr rfl)) (pss_one (ps_if (pt_not (pt_val (pe_call G_are_unlike (hr.mono (by decide)) rfl D_are_unlike.gl D_are_unlike.fn.kp D_are_unlike.bd .nil pass0 (pa_cons (pv 5) pa_nil)))) (pss_one ps_never) pss_nil))))))), ?_⟩
    walk_at "T"
    refine r_lcQ ?_
    walk_at "T"
    refine r_catT2 h2 h3 (by rw [List.length_nil, Nat.zero_add]; exact Nat.le_trans lx (by decide)) fun c H1 s1 hc => ?_
    refine r_seqZ (.inr (SqT.of hc)) fun J SI D hD => ?_
    refine comp_same SI hD ((es.map Prod.fst).map wV) (by rw [List.length_map, List.length_map, List.nil_append, h4.len]) (by rw [List.nil_append]; exact Nat.lt_of_le_of_lt lx (by decide)) (fun i x H' N hx s N' => ?_) fun H2 s2 hl1 => ?_
    · rw [List.nil_append] at hx
      obtain ⟨q, e, rfl, he, hp⟩ := h4.get hx
      obtain ⟨kd, hp, _⟩ := hp.keep (TupK.of (s1.trans s))
      refine ⟨rfl, ?_⟩
      walk_at "T"
      exact N' _ _ (by rw [List.getElem?_map, List.getElem?_map, he]; rfl) (Same.refl _)
    have s12 := s1.trans s2
    have h1' := s12 _ _ h1
    walk_at "T"
    refine r_lcQ ?_
    walk_at "T"
    refine r_seqZ (.inr (SqT.of (s12 _ _ h2))) fun J2 SI2 D2 hD2 => ?_
    refine comp_nil SI2 hD2 fun H3 s3 hl2 => ?_
    have s13 := s12.trans s3
    have h1' := s13 _ _ h1
    walk_at "T"
    refine r_lcQ ?_
    walk_at "T"
    refine r_seqZ (.inr (SqT.of (s13 _ _ h6))) fun J3 SI3 D3 hD3 => ?_
    refine comp_nil SI3 hD3 fun H4 s4 hl3 => ?_
    have s14 := s13.trans s4
    walk_at "T"
    refine r_for ?_
    refine r_isq ?_
    walk_at "T"
    refine ⟨show 3 ≤ sizeLine by decide, fun t ht => ?_⟩
    have s5 := (Same.refl H4).at ht (.tup [.ref D, .ref D2, .ref D3])
    have h5' : upd H4 t (.tup [.ref D, .ref D2, .ref D3]) t = some (.tup [.ref D, .ref D2, .ref D3]) := upd_same
    generalize upd H4 t (.tup [.ref D, .ref D2, .ref D3]) = H5 at s5 h5' ⊢
    have s15 := s14.trans s5
    refine ⟨t, _, rfl, .inr ⟨SqT.of h5', ?_⟩⟩
    refine loop_seq (seqIt_t (SqT.of h5')) (fun _ σ' H' => ∃ os : List (Option V), σ' = some p :: some (.ref a) :: some (.ref D) :: some (.ref D2) :: some (.ref D3) :: os ∧ os.length = 6 ∧ Same H5 H') (fun _ _ _ ⟨_, _, _, s⟩ => s) ⟨_, rfl, rfl, Same.refl _⟩ (fun i x σ1 H6 hx w => ?_) fun σ1 H6 w => ?_
    · obtain ⟨os, rfl, los, s6⟩ := w
      match os, los with
      | [o5, o6, o7, o8, o9, o10], _ =>
      have hz : ∃ (d : Addr) (ls : List (List Nat)), x = .ref d ∧ H6 d = some (.lst (ls.map wV)) ∧ ls.length ≤ 100 ∧ ls.Nodup := by
        match i, hx with
        | 0, e => cases e; exact ⟨D, _, rfl, s6 _ _ (s5 _ _ (s4 _ _ (s3 _ _ hl1))), by rw [List.length_map]; exact Nat.le_trans ok.1 (by decide), ok.2.2.1⟩
        | 1, e => cases e; exact ⟨D2, [], rfl, s6 _ _ (s5 _ _ (s4 _ _ hl2)), by decide, List.nodup_nil⟩
        | 2, e => cases e; exact ⟨D3, [], rfl, s6 _ _ (s5 _ _ hl3), by decide, List.nodup_nil⟩
        | n + 3, e => cases e
      obtain ⟨d, ls, rfl, hd, l100, nd⟩ := hz
      walk_at "T"
      refine ⟨d, ls, rfl, .inl (SqL.of hd), l100, ?_⟩
      rw [decide_eq_true nd]
      walk_at "T"
      exact ⟨_, rfl, rfl, s6⟩
    · obtain ⟨os, rfl, los, s6⟩ := w
      exact k _ (s15.trans s6)
theorem ok_no_groups (T : Tx K mg) {f : Addr} {fd : FuncData} (F : Fun K "_refuse_group" "_refuse_group" s_refuse_group f fd) : FnOk P w K mg base CX0 1 f fd P_refuse_group spNoGroupsP := by
  refine F.ok sc_refuse_group (fun vs H Q E h => ?_) (fun cdv A outer s H vs Q E hr h => ?_)
  · obtain ⟨p, a, es, rfl, _⟩ := h
    rfl
  · obtain ⟨p, a, es, rfl, hc, k⟩ := h
    obtain ⟨oa, pa, ga, ca, xs, h1, h2, h3, h4, h5, h6⟩ := hc.ex
    refine ⟨_, (pss_cons (ps_if (pt_not (pt_truth (pe_ix (ix_seq : IxR _ (rIx K)) (pv 1) (pe_gI T.c_GROUPS rfl) (fun _ _ => rfl)) (by intro _; rfl))) (pss_one ps_retN) pss_nil) (pss_cons ps_false (pss_one ps_false))), ?_⟩
    walk_at "T"
    refine ⟨false, .inr (.inl ⟨[], SqT.of h5, rfl⟩), ?_⟩
    show if (!false) = true then _ else _
    walk_at "T"
    exact k
end
end K60
namespace K60
open PySem PySem.Spec PyProof.Rows L2 J M
local macro_rules | `(tactic| walk_at "hp") => `(tactic| first | assumption | exact upd_same | (rw [upd_ne (by assumption)]; walk_at "hp") | (rw [upd_ne (Ne.symm (by assumption))]; walk_at "hp"))
local macro_rules | `(tactic| walk_at "s") => `(tactic| first
  | ((with_reducible refine' r_var ?h ?k); (case h => exact rfl))
  | (with_reducible refine r_c ?_)
  | (with_reducible refine r_op ?_)
  | (with_reducible refine r_un ?_)
  | (with_reducible refine r_seq ?_)
  | (with_reducible refine r_next ?_)
  | (with_reducible refine r_sets ?_)
  | (with_reducible refine r_gname ?_)
  | (with_reducible refine r_ifS ?_)
  | (with_reducible refine r_gsub ?_)
  | (with_reducible refine r_test ?_)
  | (with_reducible refine r_tb ?_)
  | (with_reducible refine r_not ?_)
  | (with_reducible refine r_and ?_)
  | (with_reducible refine r_or ?_)
  | (with_reducible refine r_andV ?_)
  | (with_reducible refine r_orV ?_)
  | (with_reducible refine r_notV ?_)
  | (with_reducible refine r_ifE ?_)
  | (with_reducible refine r_chain ?_)
  | (with_reducible refine r_cb ?_)
  | (with_reducible refine r_cons ?_)
  | (with_reducible refine r_nil ?_)
  | (with_reducible refine r_call ?_)
  | (with_reducible refine r_lst ?_)
  | (with_reducible refine r_tup ?_)
  | (with_reducible refine r_slice ?_)
  | (with_reducible refine r_nop ?_)
  | (with_reducible refine r_part ?_)
  | (with_reducible refine r_bm ?_)
  | (with_reducible refine r_m1 ?_)
  | (with_reducible refine r_m0 ?_)
  | (with_reducible refine r_is ?_)
  | (with_reducible refine r_maxD ?_)
  | (with_reducible refine r_orT ?_)
  | (with_reducible refine r_truN ?_)
  | (with_reducible refine r_intI ?_)
  | (with_reducible refine r_intB ?_)
  | (with_reducible refine r_max2 ?_)
  | (with_reducible refine r_min2 ?_)
  | (with_reducible refine r_yes ?_)
  | (with_reducible refine r_bl ?_)
  | (with_reducible refine iteT ?_)
  | (with_reducible refine iteF ?_)
  | (with_reducible refine r_iteNT ?_)
  | (with_reducible refine r_iteNF ?_)
  | (with_reducible refine r_minL ?_)
  | (with_reducible refine r_gcons ?_)
  | (with_reducible refine r_gnil ?_)
  | (with_reducible refine r_par ?_)
  | (with_reducible refine r_par3 ?_)
  | (with_reducible refine r_is2 ?_)
  | (with_reducible refine r_is3 ?_)
  | (with_reducible refine r_dget ?_)
  | (with_reducible refine r_callS ?_)
  | (with_reducible refine r_rz ?_)
  | (with_reducible refine r_rev ?_)
  | (with_reducible refine r_isI ?_)
  | (with_reducible refine r_isStr ?_)
  | (with_reducible refine r_ret ?_)
  | (with_reducible refine r_drop ?_)
  | (with_reducible refine r_rI0 ?_)
  | (with_reducible refine r_addI ?_)
  | ((with_reducible show rI (fun _ j => 0 < j) _ (.int _) (.int _) _ _); refine r_rI (by first | omega | decide) ?_)
  | ((with_reducible show rI CDiv _ (.int _) (.int _) _ _); refine r_rI (by constructor <;> omega) ?_)
  | ((with_reducible show rI CPow _ (.int _) (.int _) _ _); refine r_rI (by refine ⟨by decide, by decide, ?_⟩; omega) ?_)
  | ((with_reducible show rMul (.int _) (.int _) _ _); refine r_mulI (cmulW (by omega) (by omega)) ?_)
  | (with_reducible refine r_cmpI ?_)
  | (with_reducible refine r_cmpS ?_)
  | (with_reducible refine r_eqI ?_)
  | (with_reducible refine r_neI ?_)
  | (with_reducible refine r_eqS ?_)
  | (with_reducible refine r_neS ?_)
  | (with_reducible refine r_inSF ?_)
  | (with_reducible refine r_inST ?_)
  | (with_reducible refine r_isiStr ?_)
  | ((with_reducible show rIx _ (.ref _) (.int _) _ _); refine' r_ixL (SqL.of ?h) ?e ?_; (case h => walk_at "hp"); (case e => rfl))
  | ((with_reducible show rSetL (.ref _) (.int _) _ _ _); refine' r_setL ?h ?e ?_; (case h => walk_at "hp"); (case e => rfl)))
local macro_rules | `(tactic| walk_at "g") => `(tactic| repeat walk_at "s")
local macro_rules | `(tactic| walk_at "x") => `(tactic| first | omega | decide +kernel | (simp only [List.length_cons, List.length_nil]; omega))
local macro_rules | `(tactic| walk_at "T") => `(tactic| repeat (first
  | walk_at "s"
  | ((with_reducible show rIx _ (.ref _) (.int _) _ _); refine' r_ixTu (SqT.of ?h) ?e ?_; (case h => first | assumption | walk_at "hp"); (case e => rfl))
  | (with_reducible refine r_lenSet ?_)
  | (with_reducible refine r_asg2 ?_)
  | (with_reducible refine iteDT (by walk_at "x") ?_)
  | (with_reducible refine iteDF (by walk_at "x") ?_)
  | (with_reducible refine iteNT (by walk_at "x") ?_)
  | (with_reducible refine iteNF (by walk_at "x") ?_)))
section
variable {P : Program} {w : World} {K : PySem.W.Frag} {mg : Str → Option Value} {base : Heap}
open LamX NdefX
/-- the lambda that a def tells -/
def lamW (st : Stmt) (q y : Str) : LamW := match defBody st with
  | [.Return (some (.Lambda ps e sc _)) _] => ⟨q, ps, sc, e, y⟩
  | _ => ⟨q, defArgs st, defScope st, .Name y ⟨0, 0, 0, 0⟩, y⟩
def WT : LamW := lamW s_law_teller "_law_teller.<locals>.<lambda>" "_law_words"
theorem lam_free : ∀ z ∈ WT.scope.names, z.2 = .free → z.1 = "_law_words" := by decide +kernel
theorem lam_ok (T : Tx K mg) : LamOk P w K mg base WT where
  S := nscope_by (by decide +kernel)
  bind := fun cl pm cv ctv => by rfl
  body := fun A outer s H f c c' hr => by
    have h : PE (ncx CX0 P w K mg base [WT.y] (WT.nf c c') f A outer s H E0) WT.e (tCB (rListOf K) (tCons (tVar 0) tNil)) := (pe_callTy (call_listA : CallR _ _ (rListOf K)) (by rfl) T.z_list (by decide +kernel) (pa_cons (pv 0) pa_nil))
    exact h
theorem ok_teller {f cd Pt : Addr} {fd : FuncData} (F : Fun K "_law_teller" "_law_teller" s_law_teller f fd) (hc : fd.code = .ref cd) (TB : TabB base mg cd Pt) : FnOk P w K mg base CX0 2 f fd P_law_teller (spTell Pt WT) := by
  obtain ⟨oc, od, kV, doc, pm, an, cdv, ct, osl, rfl, lk, hcd⟩ := F.ex
  have hc : cdv = .ref cd := hc
  subst hc
  exact fn_tell (y := "_law_words") lk hcd TB sc_law_teller rfl rfl (fun n => by rfl) (fun n => by rfl) (fun n z hz hf => ⟨n, by rw [lam_free z hz hf]; rfl⟩) (fun n => by rfl) rfl (fun n => by rfl)
end
end K60
namespace K60
open PySem PySem.Spec PyProof.Rows L2 J M
local macro_rules | `(tactic| walk_at "hp") => `(tactic| first | assumption | exact upd_same | (rw [upd_ne (by assumption)]; walk_at "hp") | (rw [upd_ne (Ne.symm (by assumption))]; walk_at "hp"))
local macro_rules | `(tactic| walk_at "s") => `(tactic| first
  | ((with_reducible refine' r_var ?h ?k); (case h => exact rfl))
  | (with_reducible refine r_c ?_)
  | (with_reducible refine r_op ?_)
  | (with_reducible refine r_un ?_)
  | (with_reducible refine r_seq ?_)
  | (with_reducible refine r_next ?_)
  | (with_reducible refine r_sets ?_)
  | (with_reducible refine r_gname ?_)
  | (with_reducible refine r_ifS ?_)
  | (with_reducible refine r_gsub ?_)
  | (with_reducible refine r_test ?_)
  | (with_reducible refine r_tb ?_)
  | (with_reducible refine r_not ?_)
  | (with_reducible refine r_and ?_)
  | (with_reducible refine r_or ?_)
  | (with_reducible refine r_andV ?_)
  | (with_reducible refine r_orV ?_)
  | (with_reducible refine r_notV ?_)
  | (with_reducible refine r_ifE ?_)
  | (with_reducible refine r_chain ?_)
  | (with_reducible refine r_cb ?_)
  | (with_reducible refine r_cons ?_)
  | (with_reducible refine r_nil ?_)
  | (with_reducible refine r_call ?_)
  | (with_reducible refine r_lst ?_)
  | (with_reducible refine r_tup ?_)
  | (with_reducible refine r_slice ?_)
  | (with_reducible refine r_nop ?_)
  | (with_reducible refine r_part ?_)
  | (with_reducible refine r_bm ?_)
  | (with_reducible refine r_m1 ?_)
  | (with_reducible refine r_m0 ?_)
  | (with_reducible refine r_is ?_)
  | (with_reducible refine r_maxD ?_)
  | (with_reducible refine r_orT ?_)
  | (with_reducible refine r_truN ?_)
  | (with_reducible refine r_intI ?_)
  | (with_reducible refine r_intB ?_)
  | (with_reducible refine r_max2 ?_)
  | (with_reducible refine r_min2 ?_)
  | (with_reducible refine r_yes ?_)
  | (with_reducible refine r_bl ?_)
  | (with_reducible refine iteT ?_)
  | (with_reducible refine iteF ?_)
  | (with_reducible refine r_iteNT ?_)
  | (with_reducible refine r_iteNF ?_)
  | (with_reducible refine r_minL ?_)
  | (with_reducible refine r_gcons ?_)
  | (with_reducible refine r_gnil ?_)
  | (with_reducible refine r_par ?_)
  | (with_reducible refine r_par3 ?_)
  | (with_reducible refine r_is2 ?_)
  | (with_reducible refine r_is3 ?_)
  | (with_reducible refine r_dget ?_)
  | (with_reducible refine r_callS ?_)
  | (with_reducible refine r_rz ?_)
  | (with_reducible refine r_rev ?_)
  | (with_reducible refine r_isI ?_)
  | (with_reducible refine r_isStr ?_)
  | (with_reducible refine r_ret ?_)
  | (with_reducible refine r_drop ?_)
  | (with_reducible refine r_rI0 ?_)
  | (with_reducible refine r_addI ?_)
  | ((with_reducible show rI (fun _ j => 0 < j) _ (.int _) (.int _) _ _); refine r_rI (by first | omega | decide) ?_)
  | ((with_reducible show rI CDiv _ (.int _) (.int _) _ _); refine r_rI (by constructor <;> omega) ?_)
  | ((with_reducible show rI CPow _ (.int _) (.int _) _ _); refine r_rI (by refine ⟨by decide, by decide, ?_⟩; omega) ?_)
  | ((with_reducible show rMul (.int _) (.int _) _ _); refine r_mulI (cmulW (by omega) (by omega)) ?_)
  | (with_reducible refine r_cmpI ?_)
  | (with_reducible refine r_cmpS ?_)
  | (with_reducible refine r_eqI ?_)
  | (with_reducible refine r_neI ?_)
  | (with_reducible refine r_eqS ?_)
  | (with_reducible refine r_neS ?_)
  | (with_reducible refine r_inSF ?_)
  | (with_reducible refine r_inST ?_)
  | (with_reducible refine r_isiStr ?_)
  | ((with_reducible show rIx _ (.ref _) (.int _) _ _); refine' r_ixL (SqL.of ?h) ?e ?_; (case h => walk_at "hp"); (case e => rfl))
  | ((with_reducible show rSetL (.ref _) (.int _) _ _ _); refine' r_setL ?h ?e ?_; (case h => walk_at "hp"); (case e => rfl)))
local macro_rules | `(tactic| walk_at "g") => `(tactic| repeat walk_at "s")
local macro_rules | `(tactic| walk_at "x") => `(tactic| first | omega | decide +kernel | (simp only [List.length_cons, List.length_nil]; omega))
local macro_rules | `(tactic| walk_at "T") => `(tactic| repeat (first
  | walk_at "s"
  | ((with_reducible show rIx _ (.ref _) (.int _) _ _); refine' r_ixTu (SqT.of ?h) ?e ?_; (case h => first | assumption | walk_at "hp"); (case e => rfl))
  | (with_reducible refine r_lenSet ?_)
  | (with_reducible refine r_asg2 ?_)
  | (with_reducible refine iteDT (by walk_at "x") ?_)
  | (with_reducible refine iteDF (by walk_at "x") ?_)
  | (with_reducible refine iteNT (by walk_at "x") ?_)
  | (with_reducible refine iteNF (by walk_at "x") ?_)))
section
variable {P : Program} {w : World} {K : PySem.W.Frag} {mg : Str → Option Value} {base : Heap}
theorem ok_tab_with (T : Tx K mg) {f f_words_of : Addr} {fd fd_words_of : FuncData} (F : Fun K "table_with" "table_with" s_table_with f fd)
    (D_words_of : DAt K mg "words_of" s_words_of P_words_of f_words_of fd_words_of) : FnOk P w K mg base CX0 2 f fd P_table_with (spTabWith K) := by
  have G_words_of : FnOk P w K mg base CX0 1 f_words_of fd_words_of P_words_of (spWordsOf K) := ok_words_of T D_words_of.fn
  refine F.ok sc_table_with (fun vs H Q E h => ?_) (fun cdv A outer s H vs Q E hr h => ?_)
  · obtain ⟨a, d, kd, ws, rfl, _⟩ := h
    rfl
  · obtain ⟨a, d, kd, ws, rfl, hk, ho, l8, ok, k⟩ := h
    obtain ⟨qw, hq_WITH_WORDS, sw⟩ := T.c_WITH_WORDS
    refine ⟨_, (pss_cons (ps_if (pt_cmpR (op_notInA : OpR _ _ (rInA K true)) (pe_ix (ix_seq : IxR _ (rIx K)) (pv 0) pe_int (fun _ _ => rfl)) (pe_gR hq_WITH_WORDS rfl) (by rfl)) (pss_one (ps_ret (pv 0))) pss_nil) (pss_one (ps_ret (pe_tup (pa_cons pe_str (pa_cons (pe_callTy (call_tupA : CallR _ _ (rTupOf K)) (by rfl) T.z_tuple (by decide +kernel) (pa_cons (pe_callB (L2.cr_sortedS : CallR _ _ (L2.rSortedS K)) (by rfl) T.z_sorted (by decide +kernel) (pa_cons (pe_call G_words_of (hr.mono (by decide)) rfl D_words_of.gl D_words_of.fn.kp D_words_of.bd .nil pass0 (pa_cons (pv 0) (pa_cons (pv 1) pa_nil))) pa_nil)) pa_nil)) pa_nil)))))), ?_⟩
    cases kd with
    | num lo hi =>
      have hk : H a = some (.tup [.str "number", .int lo, .int hi]) := hk
      walk_at "T"
      refine r_ninTx (ws := ["one", "own"]) (.inr (sw _)) ?_
      rw [decide_eq_false (show ¬ ("number" : Str) ∈ (["one", "own"] : List Str) by decide +kernel)]
      walk_at "T"
      exact k _ a (Same.refl H) rfl
    | nam =>
      have hk : H a = some (.tup [.str "name"]) := hk
      walk_at "T"
      refine r_ninTx (ws := ["one", "own"]) (.inr (sw _)) ?_
      rw [decide_eq_false (show ¬ ("name" : Str) ∈ (["one", "own"] : List Str) by decide +kernel)]
      walk_at "T"
      exact k _ a (Same.refl H) rfl
    | txt n =>
      have hk : H a = some (.tup [.str "text", .int n]) := hk
      walk_at "T"
      refine r_ninTx (ws := ["one", "own"]) (.inr (sw _)) ?_
      rw [decide_eq_false (show ¬ ("text" : Str) ∈ (["one", "own"] : List Str) by decide +kernel)]
      walk_at "T"
      exact k _ a (Same.refl H) rfl
    | one ns =>
      obtain ⟨c, h1, h2⟩ := id hk
      walk_at "T"
      refine r_ninTx (ws := ["one", "own"]) (.inr (sw _)) ?_
      rw [decide_eq_true (show ("one" : Str) ∈ (["one", "own"] : List Str) by decide +kernel)]
      walk_at "T"
      refine ⟨a, d, .one ns, ws, rfl, hk, ho, fun p hp => ?_⟩
      have s1 := (Same.refl H).at hp (.lst ((ns).map wV))
      have e1 : upd H p (.lst ((ns).map wV)) p = some (.lst ((ns).map wV)) := upd_same
      rw [show knownW ws (.one ns) = ns from rfl]
      walk_at "T"
      generalize upd H p (.lst ((ns).map wV)) = H1 at s1 e1 ⊢
      refine ⟨p, (ns).map S, rfl, SqL.of (by rw [e1, List.map_map]; rfl), by rw [List.length_map]; exact Nat.lt_of_le_of_lt (ok.2.1) (by decide), fun ys q perm srt hq => ?_⟩
      have s2 := s1.trans ((Same.refl H1).at hq (.lst (ys.map V.str)))
      have e2 : upd H1 q (.lst (ys.map V.str)) q = some (.lst (ys.map V.str)) := upd_same
      generalize upd H1 q (.lst (ys.map V.str)) = H2 at s2 e2 ⊢
      walk_at "T"
      refine ⟨q, _, rfl, .inl ⟨SqL.of e2, fun l hl => ?_⟩⟩
      have s3 := s2.trans ((Same.refl H2).at hl (.tup (ys.map V.str)))
      have e3 : upd H2 l (.tup (ys.map V.str)) l = some (.tup (ys.map V.str)) := upd_same
      generalize upd H2 l (.tup (ys.map V.str)) = H3 at s3 e3 ⊢
      walk_at "T"
      refine ⟨show 2 ≤ sizeLine by decide, fun t ht => ?_⟩
      have s4 := (Same.refl H3).at ht (.tup [.str "words", .ref l])
      exact k _ t (s3.trans s4) ⟨l, ys, upd_same, s4 _ _ e3, perm, srt⟩
    | own nm =>
      have h1 : H a = some (.tup [.str "own", .str (S nm)]) := hk
      walk_at "T"
      refine r_ninTx (ws := ["one", "own"]) (.inr (sw _)) ?_
      rw [decide_eq_true (show ("own" : Str) ∈ (["one", "own"] : List Str) by decide +kernel)]
      walk_at "T"
      refine ⟨a, d, .own nm, ws, rfl, hk, ho, fun p hp => ?_⟩
      have s1 := (Same.refl H).at hp (.lst ((ws).map wV))
      have e1 : upd H p (.lst ((ws).map wV)) p = some (.lst ((ws).map wV)) := upd_same
      rw [show knownW ws (.own nm) = ws from rfl]
      walk_at "T"
      generalize upd H p (.lst ((ws).map wV)) = H1 at s1 e1 ⊢
      refine ⟨p, (ws).map S, rfl, SqL.of (by rw [e1, List.map_map]; rfl), by rw [List.length_map]; exact Nat.lt_of_le_of_lt (l8) (by decide), fun ys q perm srt hq => ?_⟩
      have s2 := s1.trans ((Same.refl H1).at hq (.lst (ys.map V.str)))
      have e2 : upd H1 q (.lst (ys.map V.str)) q = some (.lst (ys.map V.str)) := upd_same
      generalize upd H1 q (.lst (ys.map V.str)) = H2 at s2 e2 ⊢
      walk_at "T"
      refine ⟨q, _, rfl, .inl ⟨SqL.of e2, fun l hl => ?_⟩⟩
      have s3 := s2.trans ((Same.refl H2).at hl (.tup (ys.map V.str)))
      have e3 : upd H2 l (.tup (ys.map V.str)) l = some (.tup (ys.map V.str)) := upd_same
      generalize upd H2 l (.tup (ys.map V.str)) = H3 at s3 e3 ⊢
      walk_at "T"
      refine ⟨show 2 ≤ sizeLine by decide, fun t ht => ?_⟩
      have s4 := (Same.refl H3).at ht (.tup [.str "words", .ref l])
      exact k _ t (s3.trans s4) ⟨l, ys, upd_same, s4 _ _ e3, perm, srt⟩
end
end K60
namespace K60
open PySem PySem.Spec PyProof.Rows L2 J M
local macro_rules | `(tactic| walk_at "hp") => `(tactic| first | assumption | exact upd_same | (rw [upd_ne (by assumption)]; walk_at "hp") | (rw [upd_ne (Ne.symm (by assumption))]; walk_at "hp"))
local macro_rules | `(tactic| walk_at "s") => `(tactic| first
  | ((with_reducible refine' r_var ?h ?k); (case h => exact rfl))
  | (with_reducible refine r_c ?_)
  | (with_reducible refine r_op ?_)
  | (with_reducible refine r_un ?_)
  | (with_reducible refine r_seq ?_)
  | (with_reducible refine r_next ?_)
  | (with_reducible refine r_sets ?_)
  | (with_reducible refine r_gname ?_)
  | (with_reducible refine r_ifS ?_)
  | (with_reducible refine r_gsub ?_)
  | (with_reducible refine r_test ?_)
  | (with_reducible refine r_tb ?_)
  | (with_reducible refine r_not ?_)
  | (with_reducible refine r_and ?_)
  | (with_reducible refine r_or ?_)
  | (with_reducible refine r_andV ?_)
  | (with_reducible refine r_orV ?_)
  | (with_reducible refine r_notV ?_)
  | (with_reducible refine r_ifE ?_)
  | (with_reducible refine r_chain ?_)
  | (with_reducible refine r_cb ?_)
  | (with_reducible refine r_cons ?_)
  | (with_reducible refine r_nil ?_)
  | (with_reducible refine r_call ?_)
  | (with_reducible refine r_lst ?_)
  | (with_reducible refine r_tup ?_)
  | (with_reducible refine r_slice ?_)
  | (with_reducible refine r_nop ?_)
  | (with_reducible refine r_part ?_)
  | (with_reducible refine r_bm ?_)
  | (with_reducible refine r_m1 ?_)
  | (with_reducible refine r_m0 ?_)
  | (with_reducible refine r_is ?_)
  | (with_reducible refine r_maxD ?_)
  | (with_reducible refine r_orT ?_)
  | (with_reducible refine r_truN ?_)
  | (with_reducible refine r_intI ?_)
  | (with_reducible refine r_intB ?_)
  | (with_reducible refine r_max2 ?_)
  | (with_reducible refine r_min2 ?_)
  | (with_reducible refine r_yes ?_)
  | (with_reducible refine r_bl ?_)
  | (with_reducible refine iteT ?_)
  | (with_reducible refine iteF ?_)
  | (with_reducible refine r_iteNT ?_)
  | (with_reducible refine r_iteNF ?_)
  | (with_reducible refine r_minL ?_)
  | (with_reducible refine r_gcons ?_)
  | (with_reducible refine r_gnil ?_)
  | (with_reducible refine r_par ?_)
  | (with_reducible refine r_par3 ?_)
  | (with_reducible refine r_is2 ?_)
  | (with_reducible refine r_is3 ?_)
  | (with_reducible refine r_dget ?_)
  | (with_reducible refine r_callS ?_)
  | (with_reducible refine r_rz ?_)
  | (with_reducible refine r_rev ?_)
  | (with_reducible refine r_isI ?_)
  | (with_reducible refine r_isStr ?_)
  | (with_reducible refine r_ret ?_)
  | (with_reducible refine r_drop ?_)
  | (with_reducible refine r_rI0 ?_)
  | (with_reducible refine r_addI ?_)
  | ((with_reducible show rI (fun _ j => 0 < j) _ (.int _) (.int _) _ _); refine r_rI (by first | omega | decide) ?_)
  | ((with_reducible show rI CDiv _ (.int _) (.int _) _ _); refine r_rI (by constructor <;> omega) ?_)
  | ((with_reducible show rI CPow _ (.int _) (.int _) _ _); refine r_rI (by refine ⟨by decide, by decide, ?_⟩; omega) ?_)
  | ((with_reducible show rMul (.int _) (.int _) _ _); refine r_mulI (cmulW (by omega) (by omega)) ?_)
  | (with_reducible refine r_cmpI ?_)
  | (with_reducible refine r_cmpS ?_)
  | (with_reducible refine r_eqI ?_)
  | (with_reducible refine r_neI ?_)
  | (with_reducible refine r_eqS ?_)
  | (with_reducible refine r_neS ?_)
  | (with_reducible refine r_inSF ?_)
  | (with_reducible refine r_inST ?_)
  | (with_reducible refine r_isiStr ?_)
  | ((with_reducible show rIx _ (.ref _) (.int _) _ _); refine' r_ixL (SqL.of ?h) ?e ?_; (case h => walk_at "hp"); (case e => rfl))
  | ((with_reducible show rSetL (.ref _) (.int _) _ _ _); refine' r_setL ?h ?e ?_; (case h => walk_at "hp"); (case e => rfl)))
local macro_rules | `(tactic| walk_at "g") => `(tactic| repeat walk_at "s")
local macro_rules | `(tactic| walk_at "x") => `(tactic| first | omega | decide +kernel | (simp only [List.length_cons, List.length_nil]; omega))
local macro_rules | `(tactic| walk_at "T") => `(tactic| repeat (first
  | walk_at "s"
  | ((with_reducible show rIx _ (.ref _) (.int _) _ _); refine' r_ixTu (SqT.of ?h) ?e ?_; (case h => first | assumption | walk_at "hp"); (case e => rfl))
  | (with_reducible refine r_lenSet ?_)
  | (with_reducible refine r_asg2 ?_)
  | (with_reducible refine iteDT (by walk_at "x") ?_)
  | (with_reducible refine iteDF (by walk_at "x") ?_)
  | (with_reducible refine iteNT (by walk_at "x") ?_)
  | (with_reducible refine iteNF (by walk_at "x") ?_)))
section
variable {P : Program} {w : World} {K : PySem.W.Frag} {mg : Str → Option Value} {base : Heap}
abbrev s_fitted : Stmt := topS 79
abbrev N_fitted : List Str := ["root", "table", "commands", "words", "coming", "path", "thing", "below"]
abbrev P_fitted : List Str := ["root", "table"]
theorem sc_fitted : FnScope N_fitted P_fitted (defScope s_fitted) := ⟨rfl, rfl, rfl, by decide +kernel, rfl, by decide +kernel, by decide +kernel⟩
abbrev s_look_at_fitting : Stmt := topS 81
abbrev N_look_at_fitting : List Str := ["path", "thing", "table", "words", "name", "option"]
abbrev P_look_at_fitting : List Str := ["path", "thing", "table", "words"]
theorem sc_look_at_fitting : FnScope N_look_at_fitting P_look_at_fitting (defScope s_look_at_fitting) := ⟨rfl, rfl, rfl, by decide +kernel, rfl, by decide +kernel, by decide +kernel⟩
abbrev s_refuse_deep : Stmt := topS 87
abbrev N_refuse_deep : List Str := ["commands", "path"]
abbrev P_refuse_deep : List Str := ["commands"]
theorem sc_refuse_deep : FnScope N_refuse_deep P_refuse_deep (defScope s_refuse_deep) := ⟨rfl, rfl, rfl, by decide +kernel, rfl, by decide +kernel, by decide +kernel⟩
open LamX NdefX
theorem ok_look_fit (T : Tx K mg) (RK : Rks K w mg) {W : LamW} (LW : LamOk P w K mg base W) {f f_is_name f_are_unlike f_is_whole f_are_bounds f_are_choices f_is_kind f_begins_with_name f_has_place_form f_are_in_order f_are_places f_is_tuple_to f_has_command_form f_refuse_twice f_own_names f_asked f_refuse_group : Addr} {fd fd_is_name fd_are_unlike fd_is_whole fd_are_bounds fd_are_choices fd_is_kind fd_begins_with_name fd_has_place_form fd_are_in_order fd_are_places fd_is_tuple_to fd_has_command_form fd_refuse_twice fd_own_names fd_asked fd_refuse_group : FuncData} (F : Fun K "_look_at" "_look_at" s_look_at_fitting f fd)
    (D_is_name : DAt K mg "is_name" s_is_name P_is_name f_is_name fd_is_name)
    (D_are_unlike : DAt K mg "are_unlike" s_are_unlike P_are_unlike f_are_unlike fd_are_unlike)
    (D_is_whole : DAt K mg "is_whole" s_is_whole P_is_whole f_is_whole fd_is_whole)
    (D_are_bounds : DAt K mg "_are_bounds" s_are_bounds P_are_bounds f_are_bounds fd_are_bounds)
    (D_are_choices : DAt K mg "_are_choices" s_are_choices P_are_choices f_are_choices fd_are_choices)
    (D_is_kind : DAt K mg "is_kind" s_is_kind P_is_kind f_is_kind fd_is_kind)
    (D_begins_with_name : DAt K mg "begins_with_name" s_begins_with_name P_begins_with_name f_begins_with_name fd_begins_with_name)
    (D_has_place_form : DAt K mg "has_place_form" s_has_place_form P_has_place_form f_has_place_form fd_has_place_form)
    (D_are_in_order : DAt K mg "_are_in_order" s_are_in_order P_are_in_order f_are_in_order fd_are_in_order)
    (D_are_places : DAt K mg "_are_places" s_are_places P_are_places f_are_places fd_are_places)
    (D_is_tuple_to : DAt K mg "_is_tuple_to" s_is_tuple_to P_is_tuple_to f_is_tuple_to fd_is_tuple_to)
    (D_has_command_form : DAt K mg "has_command_form" s_has_command_form P_has_command_form f_has_command_form fd_has_command_form)
    (D_refuse_twice : DAt K mg "_refuse_twice" s_refuse_twice P_refuse_twice f_refuse_twice fd_refuse_twice)
    (D_own_names : DAt K mg "_own_names" s_own_names P_own_names f_own_names fd_own_names)
    (D_asked : DAt K mg "asked" s_asked P_asked f_asked fd_asked)
    (D_refuse_group : DAt K mg "_refuse_group" s_refuse_group P_refuse_group f_refuse_group fd_refuse_group) : FnOk P w K mg base CX0 7 f fd P_look_at_fitting (spLookP W) := by
  have G_has_command_form : FnOk P w K mg base CX0 6 f_has_command_form fd_has_command_form P_has_command_form spRoot := ok_cmd_form T RK D_has_command_form.fn D_is_name D_are_unlike D_is_whole D_are_bounds D_are_choices D_is_kind D_begins_with_name D_has_place_form D_are_in_order D_are_places D_is_tuple_to
  have G_refuse_twice : FnOk P w K mg base CX0 3 f_refuse_twice fd_refuse_twice P_refuse_twice spTwiceP := ok_twice T D_refuse_twice.fn D_is_name D_begins_with_name D_are_unlike
  have G_own_names : FnOk P w K mg base CX0 1 f_own_names fd_own_names P_own_names spOwnNamesP := ok_own_names T D_own_names.fn
  have G_asked : FnOk P w K mg base CX0 3 f_asked fd_asked P_asked (spAsked W) := ok_asked T LW D_asked.fn
  have G_refuse_group : FnOk P w K mg base CX0 1 f_refuse_group fd_refuse_group P_refuse_group spNoGroupsP := ok_no_groups T D_refuse_group.fn
  refine F.ok sc_look_at_fitting (fun vs H Q E h => ?_) (fun cdv A outer s H vs Q E hr h => ?_)
  · obtain ⟨p, a, t, d, es, ts, rfl, _⟩ := h
    rfl
  · obtain ⟨p, a, t, d, es, ts, rfl, hc, ok, tp, hw, ne, k⟩ := h
    refine ⟨_, (pss_cons (ps_if (pt_not (pt_val (pe_call G_has_command_form (hr.mono (by decide)) rfl D_has_command_form.gl D_has_command_form.fn.kp D_has_command_form.bd .nil pass0 (pa_cons (pv 1) pa_nil)))) (pss_one ps_never) pss_nil) (pss_cons (ps_expr (pe_call G_refuse_twice (hr.mono (by decide)) rfl D_refuse_twice.gl D_refuse_twice.fn.kp D_refuse_twice.bd .nil pass0 (pa_cons (pv 0) (pa_cons (pv 1) pa_nil)))) (pss_cons (ps_for (PassesOwn.never) rfl (asSeq (K := K) rfl (pi_seq (pe_call G_own_names (hr.mono (by decide)) rfl D_own_names.gl D_own_names.fn.kp D_own_names.bd .nil pass0 (pa_cons (pv 1) pa_nil)))) (pg_name (i := 4) sc_look_at_fitting.nd rfl (Or.inl rfl)) (pss_cons (ps_if (pt_cmp (pc_dnotin (hu_of hr) (pv 4) (pv 2))) (pss_one ps_never) pss_nil) (pss_one (ps_if (pt_cmp (pc_dnotin (hu_of hr) (pv 4) (pv 3))) (pss_one (ps_dput (hu_of hr) (pv 3) (pv 4) (pe_call G_asked (hr.mono (by decide)) rfl D_asked.gl D_asked.fn.kp D_asked.bd .nil pass0 (pa_cons (pv 2) (pa_cons (pv 4) pa_nil))) rfl)) pss_nil)))) (pss_cons (ps_for (PassesOwn.never) rfl (asSeq (K := K) rfl (pi_seq (pe_ix (ix_seq : IxR _ (rIx K)) (pv 1) (pe_gI T.c_OPTIONS rfl) (fun _ _ => rfl)))) (pg_name (i := 5) sc_look_at_fitting.nd rfl (Or.inl rfl)) (pss_one (ps_if pt_false (pss_one ps_never) pss_nil))) (pss_one (ps_expr (pe_call G_refuse_group (hr.mono (by decide)) rfl D_refuse_group.gl D_refuse_group.fn.kp D_refuse_group.bd .nil pass0 (pa_cons (pv 0) (pa_cons (pv 1) pa_nil))))))))), ?_⟩
    walk_at "T"
    refine ⟨a, es, rfl, hc, ok, fun H1 s1 => ?_⟩
    have c1 := hc.keep (TupK.of s1)
    walk_at "T"
    refine ⟨p, a, es, rfl, c1, ok, fun H2 s2 => ?_⟩
    have s12 := s1.trans s2
    have c2 := hc.keep (TupK.of s12)
    walk_at "T"
    refine r_for ?_
    refine r_isq ?_
    walk_at "T"
    refine ⟨a, es, rfl, c2, ok.1, fun H3 e s3 he h3 => ?_⟩
    have s13 := s12.trans s3
    have w3 := s13 _ _ hw
    have ew : e ≠ d := fun z => by subst z; exact nomatch he.symm.trans (s12 _ _ hw)
    obtain ⟨kvs, ht, tl⟩ := tp.ex
    have nd : (ts.map Prod.fst).Nodup := by rw [tp.al]; exact ok.2.2.2
    have lt4 : ts.length ≤ 4 := by
      have := congrArg List.length tp.al
      rw [List.length_map, List.length_map] at this
      rw [this]; exact ok.1
    refine ⟨e, _, rfl, .inl ⟨SqL.of h3, ?_⟩⟩
    refine loop_lst (fun i σ' H' => ∃ (o4 o5 : Option V) (qs : List (Key × V)), σ' = [some p, some (.ref a), some (.ref t), some (.ref d), o4, o5] ∧ KeepB d H3 H' ∧ H' d = some (.dK qs) ∧ WordsL H' qs (ts.take i)) (fun _ _ _ ⟨_, _, _, _, kb, _⟩ => kb _ _ ew h3) ⟨_, _, [], rfl, KeepB.of (Same.refl H3), w3, .nil⟩ (fun i x σ1 H5 hx w => ?_) fun σ1 H5 w => ?_
    · obtain ⟨o4, o5, qs, rfl, kb, w5, wl⟩ := w
      rw [List.getElem?_map] at hx
      obtain ⟨pl, epl, rfl⟩ := Option.map_eq_some_iff.mp hx
      obtain ⟨tw, etw, en⟩ : ∃ tw, ts[i]? = some tw ∧ tw.1 = pl.2 := by
        have q : (ts.map Prod.fst)[i]? = some pl.2 := by rw [tp.al, List.getElem?_map, epl]; rfl
        rw [List.getElem?_map] at q
        exact Option.map_eq_some_iff.mp q
      have tm := List.mem_of_getElem? etw
      obtain ⟨f1, l1, v1, t1, hl1⟩ := tl.val nd tm
      have kl : KeepL H H5 := (KeepL.of s13).trans (KeepL.ofB kb w3)
      have t5 : H5 t = some (.dK kvs) := kb _ _ ne (s13 _ _ ht)
      have t1 := t1.keep kl
      have hl1 := kl _ _ hl1 (.inl ⟨_, rfl⟩)
      have nn : valV qs (.inr (S tw.1)) = none := wl.none (by
        rw [List.map_take]
        exact notin_take nd (by rw [List.getElem?_map, etw]; rfl))
      rw [← en]
      walk_at "T"
      refine r_dnotin ?_
      walk_at "T"
      refine ⟨t, some (.ref f1), rfl, by rw [← v1]; exact DGet.k (k := .inr (S tw.1)) t5, ?_⟩
      walk_at "T"
      rw [if_neg (show ¬ (!(some (V.ref f1)).isSome) = true by simp)]
      walk_at "T"
      refine r_dnotin ?_
      walk_at "T"
      refine ⟨d, none, rfl, by rw [← nn]; exact DGet.k (k := .inr (S tw.1)) w5, ?_⟩
      walk_at "T"
      rw [if_pos (show (!(none : Option V).isSome) = true from rfl)]
      walk_at "T"
      refine r_sdput ?_
      walk_at "T"
      refine ⟨t, f1, l1, tw.1, kvs, tw.2, rfl, t5, v1, t1, hl1, fun H6 q s6 hq h6 => ?_⟩
      walk_at "T"
      have wl6 := (wl.keep (TupK.of s6)).snoc h6
      refine ⟨d, _, rfl, DPut.k (k := .inr (S tw.1)) (s6 _ _ w5) (by rw [wl.len, List.length_take]; exact Nat.lt_of_le_of_lt (Nat.le_trans (Nat.min_le_right ..) lt4) (by decide)), ?_⟩
      rw [show putK qs (.inr (S tw.1)) (V.ref q) = qs ++ [(.inr (S tw.1), V.ref q)] from by rw [putK_new]; exact nn]
      refine ⟨_, _, _, rfl, (kb.trans (KeepB.of s6)).trans (KeepB.upd _), upd_same, ?_⟩
      rw [snoc_take etw]
      exact wl6.keep (KeepL.upd (s6 _ _ w5)).tup
    · obtain ⟨o4, o5, qs, rfl, kb, w5, wl⟩ := w
      rw [List.length_map, show es.length = ts.length by have := congrArg List.length tp.al; rw [List.length_map, List.length_map] at this; exact this.symm, List.take_length] at wl
      have kl : KeepL H H5 := (KeepL.of s13).trans (KeepL.ofB kb w3)
      have c5 := hc.keep kl.tup
      obtain ⟨oa, pa, ga, ca, xs, h1, h2, h3', h4, h5, h6⟩ := c5.ex
      walk_at "T"
      refine r_for ?_
      refine r_isq ?_
      walk_at "T"
      refine ⟨oa, _, rfl, .inr ⟨SqT.of h2, ?_⟩⟩
      refine loop_none (SqT.of h2) ?_
      walk_at "T"
      refine ⟨p, a, es, rfl, c5, ?_⟩
      exact k _ qs ((KeepB.of s13).trans kb) w5 wl
theorem ok_deep (T : Tx K mg) {f : Addr} {fd : FuncData} (F : Fun K "_refuse_deep" "_refuse_deep" s_refuse_deep f fd) : FnOk P w K mg base CX0 1 f fd P_refuse_deep spDeep := by
  refine F.ok sc_refuse_deep (fun vs H Q E h => ?_) (fun cdv A outer s H vs Q E hr h => ?_)
  · obtain ⟨d, kvs, rfl, _⟩ := h
    rfl
  · obtain ⟨d, kvs, rfl, hd, h2, k⟩ := h
    refine ⟨_, (pss_one (ps_lock (ps_for (PassesOwn.never) rfl (pi_keys (pv 0)) (pg_name (i := 1) sc_refuse_deep.nd rfl (Or.inl rfl)) (pss_one (ps_if (pt_cmpR op_gtA (pe_callB (call_lenA : CallR _ _ (J.rLen K)) (by rfl) T.z_len (by decide +kernel) (pa_cons (pv 1) pa_nil)) (pe_gI T.c_MOST_LEVELS rfl) (nomark _)) (pss_one ps_never) pss_nil))))), ?_⟩
    walk_at "g"
    refine r_lockS hd trivial fun od => ?_
    refine r_for ?_
    refine r_iky ?_
    walk_at "g"
    refine ⟨d, od, rfl, .inr ⟨kvs, upd_same, ?_⟩⟩
    refine loop_keysT (fun _ σ' H' => ∃ o1 : Option V, σ' = [some (.ref d), o1] ∧ Same (upd H d (.frz od (.dT kvs))) H') (fun _ _ _ ⟨_, _, s⟩ => s _ _ upd_same) ⟨_, rfl, Same.refl _⟩ (fun i ks v q σ1 H1 e hq w => ?_) fun σ1 H1 w => ?_
    · obtain ⟨o1, rfl, s1⟩ := w
      have l2 : ks.length ≤ 2 := h2 _ (List.mem_of_getElem? e)
      walk_at "g"
      refine r_lenT (SqT.of hq) ?_
      rw [List.length_map]
      walk_at "T"
      exact ⟨_, rfl, s1⟩
    · obtain ⟨o1, rfl, s1⟩ := w
      refine ⟨s1 _ _ upd_same, ?_⟩
      exact k _ (unlock_same hd s1)
theorem ok_fitted (T : Tx K mg) (RK : Rks K w mg) {W : LamW} (LW : LamOk P w K mg base W) {f f_is_name f_are_unlike f_is_whole f_are_bounds f_are_choices f_is_kind f_begins_with_name f_has_place_form f_are_in_order f_are_places f_is_tuple_to f_has_command_form f_refuse_twice f_own_names f_asked f_refuse_group f_look_at_fitting f_refuse_deep : Addr} {fd fd_is_name fd_are_unlike fd_is_whole fd_are_bounds fd_are_choices fd_is_kind fd_begins_with_name fd_has_place_form fd_are_in_order fd_are_places fd_is_tuple_to fd_has_command_form fd_refuse_twice fd_own_names fd_asked fd_refuse_group fd_look_at_fitting fd_refuse_deep : FuncData} (F : Fun K "fitted" "fitted" s_fitted f fd)
    (D_is_name : DAt K mg "is_name" s_is_name P_is_name f_is_name fd_is_name)
    (D_are_unlike : DAt K mg "are_unlike" s_are_unlike P_are_unlike f_are_unlike fd_are_unlike)
    (D_is_whole : DAt K mg "is_whole" s_is_whole P_is_whole f_is_whole fd_is_whole)
    (D_are_bounds : DAt K mg "_are_bounds" s_are_bounds P_are_bounds f_are_bounds fd_are_bounds)
    (D_are_choices : DAt K mg "_are_choices" s_are_choices P_are_choices f_are_choices fd_are_choices)
    (D_is_kind : DAt K mg "is_kind" s_is_kind P_is_kind f_is_kind fd_is_kind)
    (D_begins_with_name : DAt K mg "begins_with_name" s_begins_with_name P_begins_with_name f_begins_with_name fd_begins_with_name)
    (D_has_place_form : DAt K mg "has_place_form" s_has_place_form P_has_place_form f_has_place_form fd_has_place_form)
    (D_are_in_order : DAt K mg "_are_in_order" s_are_in_order P_are_in_order f_are_in_order fd_are_in_order)
    (D_are_places : DAt K mg "_are_places" s_are_places P_are_places f_are_places fd_are_places)
    (D_is_tuple_to : DAt K mg "_is_tuple_to" s_is_tuple_to P_is_tuple_to f_is_tuple_to fd_is_tuple_to)
    (D_has_command_form : DAt K mg "has_command_form" s_has_command_form P_has_command_form f_has_command_form fd_has_command_form)
    (D_refuse_twice : DAt K mg "_refuse_twice" s_refuse_twice P_refuse_twice f_refuse_twice fd_refuse_twice)
    (D_own_names : DAt K mg "_own_names" s_own_names P_own_names f_own_names fd_own_names)
    (D_asked : DAt K mg "asked" s_asked P_asked f_asked fd_asked)
    (D_refuse_group : DAt K mg "_refuse_group" s_refuse_group P_refuse_group f_refuse_group fd_refuse_group)
    (D_look_at_fitting : DAl K mg "look_at_fitting" "_look_at" s_look_at_fitting P_look_at_fitting f_look_at_fitting fd_look_at_fitting)
    (D_refuse_deep : DAt K mg "_refuse_deep" s_refuse_deep P_refuse_deep f_refuse_deep fd_refuse_deep) : FnOk P w K mg base CX0 8 f fd P_fitted (spFittedP W) := by
  have G_look_at_fitting : FnOk P w K mg base CX0 7 f_look_at_fitting fd_look_at_fitting P_look_at_fitting (spLookP W) := ok_look_fit T RK LW D_look_at_fitting.fn D_is_name D_are_unlike D_is_whole D_are_bounds D_are_choices D_is_kind D_begins_with_name D_has_place_form D_are_in_order D_are_places D_is_tuple_to D_has_command_form D_refuse_twice D_own_names D_asked D_refuse_group
  have G_refuse_deep : FnOk P w K mg base CX0 1 f_refuse_deep fd_refuse_deep P_refuse_deep spDeep := ok_deep T D_refuse_deep.fn
  refine F.ok sc_fitted (fun vs H Q E h => ?_) (fun cdv A outer s H vs Q E hr h => ?_)
  · obtain ⟨r, t, es, ts, rfl, _⟩ := h
    rfl
  · obtain ⟨r, t, es, ts, rfl, hc, ok, tp, k⟩ := h
    refine ⟨_, (pss_cons (ps_par (i := 2) (j := 3) rfl sc_fitted.nd rfl rfl (by decide) rfl rfl (pa_cons pe_dnewT (pa_cons pe_dnewK pa_nil)) rfl) (pss_cons (ps_set (i := 4) sc_fitted.nd rfl (Or.inl rfl) (pe_lst (pa_cons (pe_tup (pa_cons (pe_tup pa_nil) (pa_cons (pv 0) pa_nil))) pa_nil))) (pss_cons (ps_while (PassesOwn.never) (pt_truth (pv 4) (by intro _; rfl)) (pss_cons (ps_asg (asBM0 (K := K) rfl (pe_bm0 PySem.F.plainAttrs_list PySem.F.slot_list_pop PySem.F.type_list_pop mt_pop (pv 4))) (asGTup (K := K) rfl (pg_tup rfl (pgs_cons (pg_name (i := 5) sc_fitted.nd rfl (Or.inl rfl)) (pgs_cons (pg_name (i := 6) sc_fitted.nd rfl (Or.inl rfl)) pgs_nil))))) (pss_cons (ps_expr (pe_call G_look_at_fitting (hr.mono (by decide)) rfl D_look_at_fitting.gl D_look_at_fitting.fn.kp D_look_at_fitting.bd .nil pass0 (pa_cons (pv 5) (pa_cons (pv 6) (pa_cons (pv 1) (pa_cons (pv 3) pa_nil)))))) (pss_cons (ps_dput (hu_of hr) (pv 2) (pv 5) (pv 6) rfl) (pss_one (ps_for (PassesOwn.never) rfl (asRevA (K := K) rfl (RT.pi_revA rfl T.z_reversed (pe_ix (ix_seq : IxR _ (rIx K)) (pv 6) (pe_gI T.c_COMMANDS rfl) (fun _ _ => rfl)))) (pg_name (i := 7) sc_fitted.nd rfl (Or.inl rfl)) (pss_one ps_false))))))) (pss_cons (ps_expr (pe_call G_refuse_deep (hr.mono (by decide)) rfl D_refuse_deep.gl D_refuse_deep.fn.kp D_refuse_deep.bd .nil pass0 (pa_cons (pv 2) pa_nil))) (pss_cons (ps_if (pt_cmpR op_gtA (pe_callB (L2.call_len_dT : CallR _ _ L2.rLenT) (by rfl) T.z_len (by decide +kernel) (pa_cons (pv 2) pa_nil)) (pe_gI T.c_MOST_COMMANDS rfl) (nomark _)) (pss_one ps_never) pss_nil) (pss_one (ps_ret (pe_tup (pa_cons (pv 2) (pa_cons (pv 3) pa_nil)))))))))), ?_⟩
    walk_at "T"
    intro dc hdc
    have s1 := (Same.refl H).at hdc (.dT [])
    have d1 : upd H dc (.dT []) dc = some (.dT []) := upd_same
    generalize upd H dc (.dT []) = H1 at s1 d1 ⊢
    walk_at "T"
    intro dw hdw
    have s2 := s1.trans ((Same.refl H1).at hdw (.dK []))
    have hdw0 : H dw = none := Same.non s1 hdw
    have ne : dc ≠ dw := fun e => by subst e; exact nomatch hdw.symm.trans d1
    have d2 : upd H1 dw (.dK []) dc = some (.dT []) := by rw [upd_ne ne]; exact d1
    have w2 : upd H1 dw (.dK []) dw = some (.dK []) := upd_same
    generalize upd H1 dw (.dK []) = H2 at s2 d2 w2 ⊢
    walk_at "T"
    refine ⟨show 0 ≤ sizeLine by decide, fun pe hpe => ?_⟩
    have s3 := (Same.refl H2).at hpe (.tup [])
    have e3 : upd H2 pe (.tup []) pe = some (.tup []) := upd_same
    generalize upd H2 pe (.tup []) = H3 at s3 e3 ⊢
    walk_at "T"
    refine ⟨show 2 ≤ sizeLine by decide, fun pq hpq => ?_⟩
    have s4 := (Same.refl H3).at hpq (.tup [.ref pe, .ref r])
    have e4 : upd H3 pq (.tup [.ref pe, .ref r]) pq = some (.tup [.ref pe, .ref r]) := upd_same
    generalize upd H3 pq (.tup [.ref pe, .ref r]) = H4 at s4 e4 ⊢
    walk_at "T"
    refine ⟨show 1 ≤ sizeLine by decide, fun cm hcm => ?_⟩
    have s24 := s3.trans s4
    have s5 := (Same.refl H4).at hcm (.lst [.ref pq])
    have e5 : upd H4 cm (.lst [.ref pq]) cm = some (.lst [.ref pq]) := upd_same
    generalize upd H4 cm (.lst [.ref pq]) = H5 at s5 e5 ⊢
    have s25 := s24.trans s5
    have s05 := s2.trans s25
    have hcm0 : H cm = none := Same.non (s2.trans s24) hcm
    have nc : cm ≠ dc := fun e => by subst e; exact nomatch hcm.symm.trans (s24 _ _ d2)
    have nw : cm ≠ dw := fun e => by subst e; exact nomatch hcm.symm.trans (s24 _ _ w2)
    have d5 := s25 _ _ d2
    have w5 := s25 _ _ w2
    have e45 := s5 _ _ e4
    have e35 := s5 _ _ (s4 _ _ e3)
    walk_at "T"
    refine r_while (fun m σ' H' => ∃ (o5 o6 o7 : Option V) (zs : List V), σ' = [some (.ref r), some (.ref t), some (.ref dc), some (.ref dw), some (.ref cm), o5, o6, o7] ∧ Same H H' ∧ H' cm = some (.lst zs) ∧
      ((m = 1 ∧ zs = [.ref pq] ∧ H' pq = some (.tup [.ref pe, .ref r]) ∧ H' pe = some (.tup []) ∧ H' dw = some (.dK []) ∧ H' dc = some (.dT [])) ∨ (m = 0 ∧ zs = [] ∧ H' dc = some (.dT [([], .ref r)]) ∧ ∃ qs, H' dw = some (.dK qs) ∧ WordsL H' qs ts))) 1
      ⟨_, _, _, _, rfl, s05, e5, .inl ⟨rfl, rfl, e45, e35, w5, d5⟩⟩ (fun m σ1 H6 w => ?_)
    obtain ⟨o5, o6, o7, zs, rfl, s6, e6, st⟩ := w
    walk_at "T"
    refine ⟨!zs.isEmpty, .inl ⟨_, SqL.of e6, rfl⟩, ?_⟩
    rcases st with ⟨rfl, rfl, hq, hp, w6, d6⟩ | ⟨rfl, rfl, d6, qs, w6, wl⟩
    · rw [show (![V.ref pq].isEmpty) = true from rfl]
      rw [if_pos rfl]
      refine ⟨fun σ' H' => ∃ (o5 o6 o7 : Option V), σ' = [some (.ref r), some (.ref t), some (.ref dc), some (.ref dw), some (.ref cm), o5, o6, o7] ∧ Same H H' ∧ H' cm = some (.lst []) ∧ H' dc = some (.dT [([], .ref r)]) ∧ ∃ qs, H' dw = some (.dK qs) ∧ WordsL H' qs ts,
        fun σ' H' ⟨o5, o6, o7, e1, e2, e3, e4⟩ => ⟨0, by decide, o5, o6, o7, [], e1, e2, e3, .inr ⟨rfl, rfl, e4⟩⟩, ?_⟩
      walk_at "T"
      refine r_bm0 ?_
      walk_at "T"
      refine r_tyL e6 ?_
      refine ⟨cm, _, .ref pq, rfl, rfl, e6, by simp, ?_⟩
      rw [show [V.ref pq].dropLast = [] from rfl]
      have T1 : TupK H6 (upd H6 cm (.lst [])) := TupK.upd (fun xs h => by rw [e6] at h; cases h)
      have sA : Same H (upd H6 cm (.lst [])) := s6.at hcm0 _
      have wA : upd H6 cm (.lst []) dw = some (.dK []) := by rw [upd_ne (Ne.symm nw)]; exact w6
      have dA : upd H6 cm (.lst []) dc = some (.dT []) := by rw [upd_ne (Ne.symm nc)]; exact d6
      have eA : upd H6 cm (.lst []) cm = some (.lst []) := upd_same
      have qA : upd H6 cm (.lst []) pq = some (.tup [.ref pe, .ref r]) := T1 _ _ hq
      have pA : upd H6 cm (.lst []) pe = some (.tup []) := T1 _ _ hp
      generalize upd H6 cm (.lst []) = H7 at sA wA dA eA qA pA ⊢
      refine r_gtup (SqT.of qA) rfl ?_
      walk_at "T"
      obtain ⟨kvs, ht, tl⟩ := tp.ex
      have nt : t ≠ dw := fun z => by subst z; exact nomatch hdw0.symm.trans ht
      refine ⟨.ref pe, r, t, dw, es, ts, rfl, hc.keep (TupK.of sA), ok, ⟨⟨kvs, sA _ _ ht, tl.keep (KeepL.of sA)⟩, tp.al⟩, wA, nt, fun H8 qs kb w8 wl8 => ?_⟩
      have s8 := Same.atB sA hdw0 kb
      have d8 : H8 dc = some (.dT []) := kb _ _ ne dA
      have c8 : H8 cm = some (.lst []) := kb _ _ nw eA
      have p8 : H8 pe = some (.tup []) := kb _ _ (fun z => by subst z; exact nomatch pA.symm.trans wA) pA
      walk_at "T"
      refine r_sdput ?_
      walk_at "T"
      refine ⟨dc, _, rfl, DPut.t d8 (k := []) p8 (by decide), ?_⟩
      rw [show putK ([] : List (List Key × V)) [] (V.ref r) = [([], V.ref r)] from rfl]
      have T9 : TupK H8 (upd H8 dc (.dT [([], V.ref r)])) := TupK.upd (fun xs h => by rw [d8] at h; cases h)
      have s9 : Same H (upd H8 dc (.dT [([], V.ref r)])) := s8.at hdc _
      have w9 : upd H8 dc (.dT [([], V.ref r)]) dw = some (.dK qs) := by rw [upd_ne (Ne.symm ne)]; exact w8
      have c9 : upd H8 dc (.dT [([], V.ref r)]) cm = some (.lst []) := by rw [upd_ne nc]; exact c8
      have d9 : upd H8 dc (.dT [([], V.ref r)]) dc = some (.dT [([], V.ref r)]) := upd_same
      have wl9 := wl8.keep T9
      generalize upd H8 dc (.dT [([], V.ref r)]) = H9 at s9 w9 c9 d9 wl9 ⊢
      obtain ⟨oa, pa, ga, ca, xs, h1, h2, h3, h4, h5, h6⟩ := (hc.keep (TupK.of s9)).ex
      walk_at "T"
      refine r_for ?_
      refine r_irevA ?_
      walk_at "T"
      refine ⟨ca, [], rfl, .inr ⟨SqT.of h6, ?_⟩⟩
      refine loop_revT (fun _ σ' H' => (∃ o7 : Option V, σ' = [some (.ref r), some (.ref t), some (.ref dc), some (.ref dw), some (.ref cm), some (.ref pe), some (.ref r), o7]) ∧ H' = H9) (fun _ _ _ ⟨_, e⟩ => by subst e; exact SqT.of h6) ⟨⟨_, rfl⟩, rfl⟩ (fun i x σ1 H1 hx _ => by cases hx) fun σ1 H1 w => ?_
      obtain ⟨⟨o7, rfl⟩, rfl⟩ := w
      exact ⟨_, _, _, rfl, s9, c9, d9, qs, w9, wl9⟩
    · rw [show (!([] : List V).isEmpty) = false from rfl]
      rw [if_neg (by decide)]
      walk_at "T"
      refine ⟨dc, _, rfl, d6, fun e he => ?_, fun H7 s7 => ?_⟩
      · cases List.mem_singleton.mp he
        exact Nat.zero_le _
      walk_at "T"
      refine ⟨dc, _, rfl, s7 _ _ d6, ?_⟩
      walk_at "T"
      refine ⟨show 2 ≤ sizeLine by decide, fun q hq => ?_⟩
      have s8 := (Same.refl H7).at hq (.tup [.ref dc, .ref dw])
      exact k _ q dc dw qs ((s6.trans s7).trans s8) hdc hdw0 ne (s8 _ _ (s7 _ _ d6)) (s8 _ _ (s7 _ _ w6)) ((wl.keep (TupK.of s7)).keep (TupK.of s8)) upd_same
end
end K60
namespace K60
open PySem PySem.Spec PyProof.Rows L2 J M
local macro_rules | `(tactic| walk_at "hp") => `(tactic| first | assumption | exact upd_same | (rw [upd_ne (by assumption)]; walk_at "hp") | (rw [upd_ne (Ne.symm (by assumption))]; walk_at "hp"))
local macro_rules | `(tactic| walk_at "s") => `(tactic| first
  | ((with_reducible refine' r_var ?h ?k); (case h => exact rfl))
  | (with_reducible refine r_c ?_)
  | (with_reducible refine r_op ?_)
  | (with_reducible refine r_un ?_)
  | (with_reducible refine r_seq ?_)
  | (with_reducible refine r_next ?_)
  | (with_reducible refine r_sets ?_)
  | (with_reducible refine r_gname ?_)
  | (with_reducible refine r_ifS ?_)
  | (with_reducible refine r_gsub ?_)
  | (with_reducible refine r_test ?_)
  | (with_reducible refine r_tb ?_)
  | (with_reducible refine r_not ?_)
  | (with_reducible refine r_and ?_)
  | (with_reducible refine r_or ?_)
  | (with_reducible refine r_andV ?_)
  | (with_reducible refine r_orV ?_)
  | (with_reducible refine r_notV ?_)
  | (with_reducible refine r_ifE ?_)
  | (with_reducible refine r_chain ?_)
  | (with_reducible refine r_cb ?_)
  | (with_reducible refine r_cons ?_)
  | (with_reducible refine r_nil ?_)
  | (with_reducible refine r_call ?_)
  | (with_reducible refine r_lst ?_)
  | (with_reducible refine r_tup ?_)
  | (with_reducible refine r_slice ?_)
  | (with_reducible refine r_nop ?_)
  | (with_reducible refine r_part ?_)
  | (with_reducible refine r_bm ?_)
  | (with_reducible refine r_m1 ?_)
  | (with_reducible refine r_m0 ?_)
  | (with_reducible refine r_is ?_)
  | (with_reducible refine r_maxD ?_)
  | (with_reducible refine r_orT ?_)
  | (with_reducible refine r_truN ?_)
  | (with_reducible refine r_intI ?_)
  | (with_reducible refine r_intB ?_)
  | (with_reducible refine r_max2 ?_)
  | (with_reducible refine r_min2 ?_)
  | (with_reducible refine r_yes ?_)
  | (with_reducible refine r_bl ?_)
  | (with_reducible refine iteT ?_)
  | (with_reducible refine iteF ?_)
  | (with_reducible refine r_iteNT ?_)
  | (with_reducible refine r_iteNF ?_)
  | (with_reducible refine r_minL ?_)
  | (with_reducible refine r_gcons ?_)
  | (with_reducible refine r_gnil ?_)
  | (with_reducible refine r_par ?_)
  | (with_reducible refine r_par3 ?_)
  | (with_reducible refine r_is2 ?_)
  | (with_reducible refine r_is3 ?_)
  | (with_reducible refine r_dget ?_)
  | (with_reducible refine r_callS ?_)
  | (with_reducible refine r_rz ?_)
  | (with_reducible refine r_rev ?_)
  | (with_reducible refine r_isI ?_)
  | (with_reducible refine r_isStr ?_)
  | (with_reducible refine r_ret ?_)
  | (with_reducible refine r_drop ?_)
  | (with_reducible refine r_rI0 ?_)
  | (with_reducible refine r_addI ?_)
  | ((with_reducible show rI (fun _ j => 0 < j) _ (.int _) (.int _) _ _); refine r_rI (by first | omega | decide) ?_)
  | ((with_reducible show rI CDiv _ (.int _) (.int _) _ _); refine r_rI (by constructor <;> omega) ?_)
  | ((with_reducible show rI CPow _ (.int _) (.int _) _ _); refine r_rI (by refine ⟨by decide, by decide, ?_⟩; omega) ?_)
  | ((with_reducible show rMul (.int _) (.int _) _ _); refine r_mulI (cmulW (by omega) (by omega)) ?_)
  | (with_reducible refine r_cmpI ?_)
  | (with_reducible refine r_cmpS ?_)
  | (with_reducible refine r_eqI ?_)
  | (with_reducible refine r_neI ?_)
  | (with_reducible refine r_eqS ?_)
  | (with_reducible refine r_neS ?_)
  | (with_reducible refine r_inSF ?_)
  | (with_reducible refine r_inST ?_)
  | (with_reducible refine r_isiStr ?_)
  | ((with_reducible show rIx _ (.ref _) (.int _) _ _); refine' r_ixL (SqL.of ?h) ?e ?_; (case h => walk_at "hp"); (case e => rfl))
  | ((with_reducible show rSetL (.ref _) (.int _) _ _ _); refine' r_setL ?h ?e ?_; (case h => walk_at "hp"); (case e => rfl)))
local macro_rules | `(tactic| walk_at "g") => `(tactic| repeat walk_at "s")
local macro_rules | `(tactic| walk_at "x") => `(tactic| first | omega | decide +kernel | (simp only [List.length_cons, List.length_nil]; omega))
local macro_rules | `(tactic| walk_at "T") => `(tactic| repeat (first
  | walk_at "s"
  | ((with_reducible show rIx _ (.ref _) (.int _) _ _); refine' r_ixTu (SqT.of ?h) ?e ?_; (case h => first | assumption | walk_at "hp"); (case e => rfl))
  | (with_reducible refine r_lenSet ?_)
  | (with_reducible refine r_asg2 ?_)
  | (with_reducible refine iteDT (by walk_at "x") ?_)
  | (with_reducible refine iteDF (by walk_at "x") ?_)
  | (with_reducible refine iteNT (by walk_at "x") ?_)
  | (with_reducible refine iteNF (by walk_at "x") ?_)))
section
variable {P : Program} {w : World} {K : PySem.W.Frag} {mg : Str → Option Value} {base : Heap}
abbrev s_Grammar_init : Stmt := inClass (topS 89) 0
abbrev N_Grammar_init : List Str := ["self", "root", "own", "table", "commands", "words", "name"]
abbrev P_Grammar_init : List Str := ["self", "root", "own"]
theorem sc_Grammar_init : FnScope N_Grammar_init P_Grammar_init (defScope s_Grammar_init) := ⟨rfl, rfl, rfl, by decide +kernel, rfl, by decide +kernel, by decide +kernel⟩
abbrev s_Grammar_own_words : Stmt := inClass (topS 89) 7
abbrev N_Grammar_own_words : List Str := ["self", "kind", "name"]
abbrev P_Grammar_own_words : List Str := ["self", "kind"]
theorem sc_Grammar_own_words : FnScope N_Grammar_own_words P_Grammar_own_words (defScope s_Grammar_own_words) := ⟨rfl, rfl, rfl, by decide +kernel, rfl, by decide +kernel, by decide +kernel⟩
open LamX NdefX
theorem ok_gram (T : Tx K mg) (RK : Rks K w mg) {W : LamW} (LW : LamOk P w K mg base W) {C : Addr} (GC : GrC K C) {f f_is_name f_are_unlike f_is_whole f_are_bounds f_are_choices f_is_kind f_begins_with_name f_has_place_form f_are_in_order f_are_places f_is_tuple_to f_has_command_form f_refuse_twice f_own_names f_asked f_refuse_group f_look_at_fitting f_refuse_deep f_fitted f_is_table : Addr} {fd fd_is_name fd_are_unlike fd_is_whole fd_are_bounds fd_are_choices fd_is_kind fd_begins_with_name fd_has_place_form fd_are_in_order fd_are_places fd_is_tuple_to fd_has_command_form fd_refuse_twice fd_own_names fd_asked fd_refuse_group fd_look_at_fitting fd_refuse_deep fd_fitted fd_is_table : FuncData} (F : Fun K "__init__" "Grammar.__init__" s_Grammar_init f fd)
    (D_is_name : DAt K mg "is_name" s_is_name P_is_name f_is_name fd_is_name)
    (D_are_unlike : DAt K mg "are_unlike" s_are_unlike P_are_unlike f_are_unlike fd_are_unlike)
    (D_is_whole : DAt K mg "is_whole" s_is_whole P_is_whole f_is_whole fd_is_whole)
    (D_are_bounds : DAt K mg "_are_bounds" s_are_bounds P_are_bounds f_are_bounds fd_are_bounds)
    (D_are_choices : DAt K mg "_are_choices" s_are_choices P_are_choices f_are_choices fd_are_choices)
    (D_is_kind : DAt K mg "is_kind" s_is_kind P_is_kind f_is_kind fd_is_kind)
    (D_begins_with_name : DAt K mg "begins_with_name" s_begins_with_name P_begins_with_name f_begins_with_name fd_begins_with_name)
    (D_has_place_form : DAt K mg "has_place_form" s_has_place_form P_has_place_form f_has_place_form fd_has_place_form)
    (D_are_in_order : DAt K mg "_are_in_order" s_are_in_order P_are_in_order f_are_in_order fd_are_in_order)
    (D_are_places : DAt K mg "_are_places" s_are_places P_are_places f_are_places fd_are_places)
    (D_is_tuple_to : DAt K mg "_is_tuple_to" s_is_tuple_to P_is_tuple_to f_is_tuple_to fd_is_tuple_to)
    (D_has_command_form : DAt K mg "has_command_form" s_has_command_form P_has_command_form f_has_command_form fd_has_command_form)
    (D_refuse_twice : DAt K mg "_refuse_twice" s_refuse_twice P_refuse_twice f_refuse_twice fd_refuse_twice)
    (D_own_names : DAt K mg "_own_names" s_own_names P_own_names f_own_names fd_own_names)
    (D_asked : DAt K mg "asked" s_asked P_asked f_asked fd_asked)
    (D_refuse_group : DAt K mg "_refuse_group" s_refuse_group P_refuse_group f_refuse_group fd_refuse_group)
    (D_look_at_fitting : DAl K mg "look_at_fitting" "_look_at" s_look_at_fitting P_look_at_fitting f_look_at_fitting fd_look_at_fitting)
    (D_refuse_deep : DAt K mg "_refuse_deep" s_refuse_deep P_refuse_deep f_refuse_deep fd_refuse_deep)
    (D_fitted : DAt K mg "fitted" s_fitted P_fitted f_fitted fd_fitted)
    (D_is_table : DAt K mg "is_table" s_is_table P_is_table f_is_table fd_is_table) : FnOk P w K mg base CX0 9 f fd P_Grammar_init (spGramP W C) := by
  have G_fitted : FnOk P w K mg base CX0 8 f_fitted fd_fitted P_fitted (spFittedP W) := ok_fitted T RK LW D_fitted.fn D_is_name D_are_unlike D_is_whole D_are_bounds D_are_choices D_is_kind D_begins_with_name D_has_place_form D_are_in_order D_are_places D_is_tuple_to D_has_command_form D_refuse_twice D_own_names D_asked D_refuse_group D_look_at_fitting D_refuse_deep
  have G_is_table : FnOk P w K mg base CX0 2 f_is_table fd_is_table P_is_table spTableK := ok_table T D_is_table.fn D_is_name
  refine F.ok sc_Grammar_init (fun vs H Q E h => ?_) (fun cdv A outer s H vs Q E hr h => ?_)
  · obtain ⟨g, r, t, dx, es, ts, rfl, _⟩ := h
    rfl
  · obtain ⟨g, r, t, dx, es, ts, rfl, hg, hc, ok, tp, k⟩ := h
    refine ⟨_, (pss_cons (ps_set (i := 3) sc_Grammar_init.nd rfl (Or.inr rfl) (pe_ifExp (pt_cmpR L2.op_isN (pv 2) pe_non (nomark _)) pe_dnewK (pv 2))) (pss_cons (ps_if (pt_not (pt_val (pe_call G_is_table (hr.mono (by decide)) rfl D_is_table.gl D_is_table.fn.kp D_is_table.bd .nil pass0 (pa_cons (pv 3) pa_nil)))) (pss_one ps_never) pss_nil) (pss_cons (asSFld (K := K) rfl (ps_fld (pv 0) (pe_lock (pe_dc (own := [("name", 6)]) (g := gName 6) rfl sc_Grammar_init.nd (pi_keys (pv 3)) (blkOk_by (N := N_Grammar_init) (sc := defScope s_Grammar_init) (by decide +kernel)) (fun _ _ _ _ _ => (pg_name (i := 6) sc_Grammar_init.nd rfl (Or.inl rfl))) (fun _ _ _ _ _ => pts_nil) (fun _ _ _ _ _ => (pv 6)) (fun _ _ _ _ _ => (pe_dget (hu_of hr) (pv 3) (pv 6) (fun _ _ => rfl))))) rfl)) (pss_cons (ps_asg (pe_call G_fitted (hr.mono (by decide)) rfl D_fitted.gl D_fitted.fn.kp D_fitted.bd .nil pass0 (pa_cons (pv 1) (pa_cons (asFld (K := K) rfl (pe_fld (pv 0) rfl)) pa_nil))) (asGTup (K := K) rfl (pg_tup rfl (pgs_cons (pg_name (i := 4) sc_Grammar_init.nd rfl (Or.inl rfl)) (pgs_cons (pg_name (i := 5) sc_Grammar_init.nd rfl (Or.inl rfl)) pgs_nil))))) (pss_cons (asSFld (K := K) rfl (ps_fld (pv 0) (pv 1) rfl)) (pss_cons (asSFld (K := K) rfl (ps_fld (pv 0) (pv 4) rfl)) (pss_cons (asSFld (K := K) rfl (ps_fld (pv 0) (pv 5) rfl)) (pss_one (asSFld (K := K) rfl (ps_fld (pv 0) pe_non rfl)))))))))), ?_⟩
    walk_at "T"
    refine ⟨rfl, false, rfl, ?_⟩
    rw [if_neg (by decide)]
    obtain ⟨kvs, ht, tl⟩ := tp.ex
    have nd : (ts.map Prod.fst).Nodup := by rw [tp.al]; exact ok.2.2.2
    have lt4 : ts.length ≤ 4 := by
      have := congrArg List.length tp.al
      rw [List.length_map, List.length_map] at this
      rw [this]; exact ok.1
    have lk : kvs.length ≤ 4 := by rw [tl.len]; exact lt4
    have kn : ∀ e ∈ kvs, ∃ nm, e.1 = .inr (S nm) ∧ Nm nm := fun e he => by
      have m := List.mem_map_of_mem (f := Prod.fst) he
      rw [tl.keys] at m
      obtain ⟨tw, htw, e1⟩ := List.mem_map.mp m
      refine ⟨tw.1, e1.symm, ?_⟩
      have := List.mem_map_of_mem (f := Prod.fst) htw
      rw [tp.al] at this
      obtain ⟨pl, hpl, e2⟩ := List.mem_map.mp this
      rw [← e2]
      exact (ok.2.1 pl hpl).2
    have ndk := tl.nodup nd
    walk_at "T"
    refine ⟨t, kvs, rfl, ht, Nat.le_trans lk (by decide), kn, fun H2 s2 => ?_⟩
    walk_at "T"
    refine r_sfl ?_
    refine r_lockE (s2 _ _ ht) trivial fun od => ?_
    refine r_dc ?_
    refine r_iky ?_
    walk_at "T"
    refine ⟨t, od, rfl, .inl ⟨kvs, upd_same, fun D hD => ?_⟩⟩
    have nDt : D ≠ t := fun e => by subst e; exact nomatch hD.symm.trans upd_same
    have SI : SeqIt (Itk t od kvs) (kvs.map fun kv => kV kv.1) (upd H2 t (.frz od (.dK kvs))) := seqIt_keys upd_same
    refine dc_of kvs.length (fun i H' => Same (upd H2 t (.frz od (.dK kvs))) H' ∧ H' D = some (.dK (kvs.take i))) ⟨(Same.refl _).at hD _, upd_same⟩ (fun i H' hi w => SI.go i H' w.1 (by rw [List.length_map]; exact hi)) (fun H' w => by have := SI.stop H' w.1; rwa [List.length_map] at this) (fun i H1 x H' hi w y => ?_) (fun H3 w => ?_)
    · obtain ⟨rfl, hx⟩ := SI.yld i H1 x H' w.1 y
      rw [List.getElem?_map] at hx
      obtain ⟨⟨ky, v⟩, hkv, rfl⟩ := Option.map_eq_some_iff.mp hx
      obtain ⟨nm, en, _⟩ := kn _ (List.mem_of_getElem? hkv)
      cases en
      refine ⟨rfl, ?_⟩
      walk_at "T"
      refine ⟨t, v, rfl, .inl ⟨kvs, .inr (S nm), .inr ⟨od, w.1 _ _ upd_same⟩, rfl, (valV_nth ndk hkv).symm⟩, _, .inr (S nm), rfl, w.2, by rw [List.length_take]; exact Nat.lt_of_le_of_lt (Nat.le_trans (Nat.min_le_right ..) lk) (by decide), w.1.at hD _, ?_⟩
      rw [upd_same, putK_take ndk hkv]
    refine ⟨w.1 _ _ upd_same, ?_⟩
    have s3 := unlock_same (s2 _ _ ht) w.1
    have h3 : upd H3 t (.dK kvs) D = some (.dK kvs) := by rw [upd_ne nDt, w.2, List.take_length]
    generalize upd H3 t (.dK kvs) = H4 at s3 h3 ⊢
    have s04 := s2.trans s3
    have g4 := s04 _ _ hg
    have nDg : D ≠ g := fun e => by subst e; exact nomatch g4.symm.trans h3
    walk_at "T"
    refine ⟨g, C, dx, [], rfl, g4, GC.cls, GC.own, by decide, ?_⟩
    rw [show putF "_own" (V.ref D) [] = ([("_own", V.ref D)] : List (Str × V)) from rfl]
    have k5 : KeepB g H (upd H4 g (.ins C dx [("_own", V.ref D)])) := (KeepB.of s04).trans (KeepB.upd _)
    have h5 : upd H4 g (.ins C dx [("_own", V.ref D)]) D = some (.dK kvs) := by rw [upd_ne nDg]; exact h3
    have g5 : upd H4 g (.ins C dx [("_own", V.ref D)]) g = some (.ins C dx [("_own", V.ref D)]) := upd_same
    generalize upd H4 g (.ins C dx [("_own", V.ref D)]) = H5 at k5 h5 g5 ⊢
    have kl5 : KeepL H H5 := KeepL.ofI k5 hg
    walk_at "T"
    refine r_fld ?_
    walk_at "T"
    refine ⟨g, C, dx, _, .ref D, rfl, g5, GC.cls, GC.own, rfl, ?_⟩
    walk_at "T"
    refine ⟨r, D, es, ts, rfl, hc.keep (k5.tup hg), ok, ⟨⟨kvs, h5, tl.keep kl5⟩, tp.al⟩, fun H6 q dc dw qs s6 hdc hdw ne d6 w6 wl6 q6 => ?_⟩
    refine r_gtup (SqT.of q6) rfl ?_
    have ndw : dw ≠ g := fun e => by subst e; exact nomatch hdw.symm.trans g5
    have g6 := s6 _ _ g5
    have k6 := k5.trans (KeepB.of s6)
    walk_at "T"
    refine r_sfld ?_
    walk_at "T"
    refine ⟨g, C, dx, _, rfl, g6, GC.cls, GC.root, by simp only [List.length_cons, List.length_nil]; omega, ?_⟩
    rw [show putF "_root" (V.ref r) ([("_own", V.ref D)] : List (Str × V)) = ([("_own", V.ref D), ("_root", V.ref r)] : List (Str × V)) from rfl]
    have k7 : KeepB g H (upd H6 g (.ins C dx [("_own", V.ref D), ("_root", V.ref r)])) := k6.trans (KeepB.upd _)
    have wl7 : WordsL (upd H6 g (.ins C dx [("_own", V.ref D), ("_root", V.ref r)])) qs ts := wl6.keep (TupK.upd fun xs h => by rw [g6] at h; cases h)
    have w7 : upd H6 g (.ins C dx [("_own", V.ref D), ("_root", V.ref r)]) dw = some (.dK qs) := by rw [upd_ne ndw]; exact w6
    have g7 : upd H6 g (.ins C dx [("_own", V.ref D), ("_root", V.ref r)]) g = some (.ins C dx [("_own", V.ref D), ("_root", V.ref r)]) := upd_same
    generalize upd H6 g (.ins C dx [("_own", V.ref D), ("_root", V.ref r)]) = H7 at k7 wl7 w7 g7 ⊢
    walk_at "T"
    refine r_sfld ?_
    walk_at "T"
    refine ⟨g, C, dx, _, rfl, g7, GC.cls, GC.commands, by simp only [List.length_cons, List.length_nil]; omega, ?_⟩
    rw [show putF "_commands" (V.ref dc) ([("_own", V.ref D), ("_root", V.ref r)] : List (Str × V)) = ([("_own", V.ref D), ("_root", V.ref r), ("_commands", V.ref dc)] : List (Str × V)) from rfl]
    have k8 : KeepB g H (upd H7 g (.ins C dx [("_own", V.ref D), ("_root", V.ref r), ("_commands", V.ref dc)])) := k7.trans (KeepB.upd _)
    have wl8 : WordsL (upd H7 g (.ins C dx [("_own", V.ref D), ("_root", V.ref r), ("_commands", V.ref dc)])) qs ts := wl7.keep (TupK.upd fun xs h => by rw [g7] at h; cases h)
    have w8 : upd H7 g (.ins C dx [("_own", V.ref D), ("_root", V.ref r), ("_commands", V.ref dc)]) dw = some (.dK qs) := by rw [upd_ne ndw]; exact w7
    have g8 : upd H7 g (.ins C dx [("_own", V.ref D), ("_root", V.ref r), ("_commands", V.ref dc)]) g = some (.ins C dx [("_own", V.ref D), ("_root", V.ref r), ("_commands", V.ref dc)]) := upd_same
    generalize upd H7 g (.ins C dx [("_own", V.ref D), ("_root", V.ref r), ("_commands", V.ref dc)]) = H8 at k8 wl8 w8 g8 ⊢
    walk_at "T"
    refine r_sfld ?_
    walk_at "T"
    refine ⟨g, C, dx, _, rfl, g8, GC.cls, GC.words, by simp only [List.length_cons, List.length_nil]; omega, ?_⟩
    rw [show putF "_words" (V.ref dw) ([("_own", V.ref D), ("_root", V.ref r), ("_commands", V.ref dc)] : List (Str × V)) = ([("_own", V.ref D), ("_root", V.ref r), ("_commands", V.ref dc), ("_words", V.ref dw)] : List (Str × V)) from rfl]
    have k9 : KeepB g H (upd H8 g (.ins C dx [("_own", V.ref D), ("_root", V.ref r), ("_commands", V.ref dc), ("_words", V.ref dw)])) := k8.trans (KeepB.upd _)
    have wl9 : WordsL (upd H8 g (.ins C dx [("_own", V.ref D), ("_root", V.ref r), ("_commands", V.ref dc), ("_words", V.ref dw)])) qs ts := wl8.keep (TupK.upd fun xs h => by rw [g8] at h; cases h)
    have w9 : upd H8 g (.ins C dx [("_own", V.ref D), ("_root", V.ref r), ("_commands", V.ref dc), ("_words", V.ref dw)]) dw = some (.dK qs) := by rw [upd_ne ndw]; exact w8
    have g9 : upd H8 g (.ins C dx [("_own", V.ref D), ("_root", V.ref r), ("_commands", V.ref dc), ("_words", V.ref dw)]) g = some (.ins C dx [("_own", V.ref D), ("_root", V.ref r), ("_commands", V.ref dc), ("_words", V.ref dw)]) := upd_same
    generalize upd H8 g (.ins C dx [("_own", V.ref D), ("_root", V.ref r), ("_commands", V.ref dc), ("_words", V.ref dw)]) = H9 at k9 wl9 w9 g9 ⊢
    walk_at "T"
    show sFld K (tVar 0) (tC V.non) "_nodes" { nx := fun x H' => Q V.non H', rt := Q } _ _
    refine r_sfld ?_
    walk_at "T"
    refine ⟨g, C, dx, _, rfl, g9, GC.cls, GC.nodes, by simp only [List.length_cons, List.length_nil]; omega, ?_⟩
    rw [show putF "_nodes" (V.non) ([("_own", V.ref D), ("_root", V.ref r), ("_commands", V.ref dc), ("_words", V.ref dw)] : List (Str × V)) = ([("_own", V.ref D), ("_root", V.ref r), ("_commands", V.ref dc), ("_words", V.ref dw), ("_nodes", V.non)] : List (Str × V)) from rfl]
    have k10 : KeepB g H (upd H9 g (.ins C dx [("_own", V.ref D), ("_root", V.ref r), ("_commands", V.ref dc), ("_words", V.ref dw), ("_nodes", V.non)])) := k9.trans (KeepB.upd _)
    have wl10 : WordsL (upd H9 g (.ins C dx [("_own", V.ref D), ("_root", V.ref r), ("_commands", V.ref dc), ("_words", V.ref dw), ("_nodes", V.non)])) qs ts := wl9.keep (TupK.upd fun xs h => by rw [g9] at h; cases h)
    have w10 : upd H9 g (.ins C dx [("_own", V.ref D), ("_root", V.ref r), ("_commands", V.ref dc), ("_words", V.ref dw), ("_nodes", V.non)]) dw = some (.dK qs) := by rw [upd_ne ndw]; exact w9
    have g10 : upd H9 g (.ins C dx [("_own", V.ref D), ("_root", V.ref r), ("_commands", V.ref dc), ("_words", V.ref dw), ("_nodes", V.non)]) g = some (.ins C dx [("_own", V.ref D), ("_root", V.ref r), ("_commands", V.ref dc), ("_words", V.ref dw), ("_nodes", V.non)]) := upd_same
    generalize upd H9 g (.ins C dx [("_own", V.ref D), ("_root", V.ref r), ("_commands", V.ref dc), ("_words", V.ref dw), ("_nodes", V.non)]) = H10 at k10 wl10 w10 g10 ⊢
    walk_at "T"
    exact k _ k10 ⟨⟨dx, D, dc, dw, qs, g10, w10, wl10⟩⟩
theorem ok_own_words (T : Tx K mg) {C : Addr} (GC : GrC K C) {f f_is_name f_are_unlike f_is_whole f_are_bounds f_are_choices f_is_kind f_own_name : Addr} {fd fd_is_name fd_are_unlike fd_is_whole fd_are_bounds fd_are_choices fd_is_kind fd_own_name : FuncData} (F : Fun K "own_words" "Grammar.own_words" s_Grammar_own_words f fd)
    (D_is_name : DAt K mg "is_name" s_is_name P_is_name f_is_name fd_is_name)
    (D_are_unlike : DAt K mg "are_unlike" s_are_unlike P_are_unlike f_are_unlike fd_are_unlike)
    (D_is_whole : DAt K mg "is_whole" s_is_whole P_is_whole f_is_whole fd_is_whole)
    (D_are_bounds : DAt K mg "_are_bounds" s_are_bounds P_are_bounds f_are_bounds fd_are_bounds)
    (D_are_choices : DAt K mg "_are_choices" s_are_choices P_are_choices f_are_choices fd_are_choices)
    (D_is_kind : DAt K mg "is_kind" s_is_kind P_is_kind f_is_kind fd_is_kind)
    (D_own_name : DAt K mg "own_name" s_own_name P_own_name f_own_name fd_own_name) : FnOk P w K mg base CX0 4 f fd P_Grammar_own_words (spOwnWordsP C) := by
  have G_is_kind : FnOk P w K mg base CX0 3 f_is_kind fd_is_kind P_is_kind spIsKind := ok_is_kind T D_is_kind.fn D_is_name D_are_unlike D_is_whole D_are_bounds D_are_choices
  have G_own_name : FnOk P w K mg base CX0 1 f_own_name fd_own_name P_own_name spOwnName := ok_own_name T D_own_name.fn
  refine F.ok sc_Grammar_own_words (fun vs H Q E h => ?_) (fun cdv A outer s H vs Q E hr h => ?_)
  · obtain ⟨g, r, a, ts, kd, rfl, _⟩ := h
    rfl
  · obtain ⟨g, r, a, ts, kd, rfl, gp, nd, hk, ok, hm, k⟩ := h
    obtain ⟨dx, t, dc, dw, qs, hg, hw, wl⟩ := gp.ex
    refine ⟨_, (pss_cons (ps_if (pt_not (pt_val (pe_call G_is_kind (hr.mono (by decide)) rfl D_is_kind.gl D_is_kind.fn.kp D_is_kind.bd .nil pass0 (pa_cons (pv 1) pa_nil)))) (pss_one ps_never) pss_nil) (pss_cons (ps_set (i := 2) sc_Grammar_own_words.nd rfl (Or.inl rfl) (pe_call G_own_name (hr.mono (by decide)) rfl D_own_name.gl D_own_name.fn.kp D_own_name.bd .nil pass0 (pa_cons (pv 1) pa_nil))) (pss_cons (ps_if (pt_cmpR L2.op_isN (pv 2) pe_non (nomark _)) (pss_one (ps_ret (pe_lst pa_nil))) pss_nil) (pss_cons (ps_if (pt_cmp (pc_din (hu_of hr) (pv 2) (asFld (K := K) rfl (pe_fld (pv 0) rfl)))) (pss_one (ps_ret (pe_callTy (call_listA : CallR _ _ (rListOf K)) (by rfl) T.z_list (by decide +kernel) (pa_cons (pe_dget (hu_of hr) (asFld (K := K) rfl (pe_fld (pv 0) rfl)) (pv 2) (fun _ _ => rfl)) pa_nil)))) pss_nil) (pss_cons (ps_if pt_false (pss_one ps_never) pss_nil) (pss_one (ps_ret (pe_callTy (call_listA : CallR _ _ (rListOf K)) (by rfl) T.z_list (by decide +kernel) (pa_cons pe_false pa_nil))))))))), ?_⟩
    walk_at "T"
    refine ⟨a, kd, rfl, hk, ok, fun H1 s1 => ?_⟩
    walk_at "T"
    refine ⟨a, kd, rfl, hk.same s1, ?_⟩
    have out : ∀ p, H1 p = none → ownWs ts kd = [] → Q (.ref p) (upd H1 p (.lst [])) := fun p hp e => k _ p (s1.trans ((Same.refl H1).at hp _)) (Same.non s1 hp) (by rw [e, upd_same]; rfl)
    cases kd with
    | num lo hi =>
      walk_at "T"
      refine ⟨rfl, true, rfl, ?_⟩
      rw [if_pos rfl]
      walk_at "T"
      refine ⟨show 0 ≤ sizeLine by decide, fun p hp => ?_⟩
      exact out p hp rfl
    | one ns =>
      walk_at "T"
      refine ⟨rfl, true, rfl, ?_⟩
      rw [if_pos rfl]
      walk_at "T"
      refine ⟨show 0 ≤ sizeLine by decide, fun p hp => ?_⟩
      exact out p hp rfl
    | nam =>
      walk_at "T"
      refine ⟨rfl, true, rfl, ?_⟩
      rw [if_pos rfl]
      walk_at "T"
      refine ⟨show 0 ≤ sizeLine by decide, fun p hp => ?_⟩
      exact out p hp rfl
    | txt n =>
      walk_at "T"
      refine ⟨rfl, true, rfl, ?_⟩
      rw [if_pos rfl]
      walk_at "T"
      refine ⟨show 0 ≤ sizeLine by decide, fun p hp => ?_⟩
      exact out p hp rfl
    | own nm =>
      have g1 := s1 _ _ hg
      have w1 := s1 _ _ hw
      have wl1 := wl.keep (TupK.of s1)
      obtain ⟨tw, htw, en⟩ := List.mem_map.mp (hm nm rfl)
      obtain ⟨p1, v1, hp1⟩ := wl1.val nd htw
      have lk : ownWs ts (.own nm) = tw.2 := by
        show (ts.lookup nm).getD [] = tw.2
        rw [lookup_of nd htw en]; rfl
      rw [en] at v1
      walk_at "T"
      refine ⟨rfl, false, rfl, ?_⟩
      rw [if_neg (by decide)]
      walk_at "T"
      refine r_din6 ?_
      walk_at "T"
      refine r_fld ?_
      walk_at "T"
      refine ⟨g, C, dx, _, .ref dw, rfl, g1, GC.cls, GC.words, rfl, ?_⟩
      refine ⟨dw, some (.ref p1), rfl, by rw [← v1]; exact DGet.k (k := .inr (S nm)) w1, ?_⟩
      refine ⟨true, rfl, ?_⟩
      rw [if_pos rfl]
      walk_at "T"
      refine r_fld ?_
      walk_at "T"
      refine ⟨g, C, dx, _, .ref dw, rfl, g1, GC.cls, GC.words, rfl, ?_⟩
      walk_at "T"
      refine ⟨dw, .ref p1, rfl, by rw [← v1]; exact DGet.k (k := .inr (S nm)) w1, ?_⟩
      walk_at "T"
      refine ⟨p1, _, rfl, .inr (SqT.of hp1), fun q hq => ?_⟩
      exact k _ q (s1.trans ((Same.refl H1).at hq _)) (Same.non s1 hq) (by rw [lk, upd_same])
end
end K60
namespace K60
open PySem PySem.Spec PyProof.Rows L2 J M
local macro_rules | `(tactic| walk_at "hp") => `(tactic| first | assumption | exact upd_same | (rw [upd_ne (by assumption)]; walk_at "hp") | (rw [upd_ne (Ne.symm (by assumption))]; walk_at "hp"))
local macro_rules | `(tactic| walk_at "s") => `(tactic| first
  | ((with_reducible refine' r_var ?h ?k); (case h => exact rfl))
  | (with_reducible refine r_c ?_)
  | (with_reducible refine r_op ?_)
  | (with_reducible refine r_un ?_)
  | (with_reducible refine r_seq ?_)
  | (with_reducible refine r_next ?_)
  | (with_reducible refine r_sets ?_)
  | (with_reducible refine r_gname ?_)
  | (with_reducible refine r_ifS ?_)
  | (with_reducible refine r_gsub ?_)
  | (with_reducible refine r_test ?_)
  | (with_reducible refine r_tb ?_)
  | (with_reducible refine r_not ?_)
  | (with_reducible refine r_and ?_)
  | (with_reducible refine r_or ?_)
  | (with_reducible refine r_andV ?_)
  | (with_reducible refine r_orV ?_)
  | (with_reducible refine r_notV ?_)
  | (with_reducible refine r_ifE ?_)
  | (with_reducible refine r_chain ?_)
  | (with_reducible refine r_cb ?_)
  | (with_reducible refine r_cons ?_)
  | (with_reducible refine r_nil ?_)
  | (with_reducible refine r_call ?_)
  | (with_reducible refine r_lst ?_)
  | (with_reducible refine r_tup ?_)
  | (with_reducible refine r_slice ?_)
  | (with_reducible refine r_nop ?_)
  | (with_reducible refine r_part ?_)
  | (with_reducible refine r_bm ?_)
  | (with_reducible refine r_m1 ?_)
  | (with_reducible refine r_m0 ?_)
  | (with_reducible refine r_is ?_)
  | (with_reducible refine r_maxD ?_)
  | (with_reducible refine r_orT ?_)
  | (with_reducible refine r_truN ?_)
  | (with_reducible refine r_intI ?_)
  | (with_reducible refine r_intB ?_)
  | (with_reducible refine r_max2 ?_)
  | (with_reducible refine r_min2 ?_)
  | (with_reducible refine r_yes ?_)
  | (with_reducible refine r_bl ?_)
  | (with_reducible refine iteT ?_)
  | (with_reducible refine iteF ?_)
  | (with_reducible refine r_iteNT ?_)
  | (with_reducible refine r_iteNF ?_)
  | (with_reducible refine r_minL ?_)
  | (with_reducible refine r_gcons ?_)
  | (with_reducible refine r_gnil ?_)
  | (with_reducible refine r_par ?_)
  | (with_reducible refine r_par3 ?_)
  | (with_reducible refine r_is2 ?_)
  | (with_reducible refine r_is3 ?_)
  | (with_reducible refine r_dget ?_)
  | (with_reducible refine r_callS ?_)
  | (with_reducible refine r_rz ?_)
  | (with_reducible refine r_rev ?_)
  | (with_reducible refine r_isI ?_)
  | (with_reducible refine r_isStr ?_)
  | (with_reducible refine r_ret ?_)
  | (with_reducible refine r_drop ?_)
  | (with_reducible refine r_rI0 ?_)
  | (with_reducible refine r_addI ?_)
  | ((with_reducible show rI (fun _ j => 0 < j) _ (.int _) (.int _) _ _); refine r_rI (by first | omega | decide) ?_)
  | ((with_reducible show rI CDiv _ (.int _) (.int _) _ _); refine r_rI (by constructor <;> omega) ?_)
  | ((with_reducible show rI CPow _ (.int _) (.int _) _ _); refine r_rI (by refine ⟨by decide, by decide, ?_⟩; omega) ?_)
  | ((with_reducible show rMul (.int _) (.int _) _ _); refine r_mulI (cmulW (by omega) (by omega)) ?_)
  | (with_reducible refine r_cmpI ?_)
  | (with_reducible refine r_cmpS ?_)
  | (with_reducible refine r_eqI ?_)
  | (with_reducible refine r_neI ?_)
  | (with_reducible refine r_eqS ?_)
  | (with_reducible refine r_neS ?_)
  | (with_reducible refine r_inSF ?_)
  | (with_reducible refine r_inST ?_)
  | (with_reducible refine r_isiStr ?_)
  | ((with_reducible show rIx _ (.ref _) (.int _) _ _); refine' r_ixL (SqL.of ?h) ?e ?_; (case h => walk_at "hp"); (case e => rfl))
  | ((with_reducible show rSetL (.ref _) (.int _) _ _ _); refine' r_setL ?h ?e ?_; (case h => walk_at "hp"); (case e => rfl)))
local macro_rules | `(tactic| walk_at "g") => `(tactic| repeat walk_at "s")
local macro_rules | `(tactic| walk_at "x") => `(tactic| first | omega | decide +kernel | (simp only [List.length_cons, List.length_nil]; omega))
local macro_rules | `(tactic| walk_at "T") => `(tactic| repeat (first
  | walk_at "s"
  | ((with_reducible show rIx _ (.ref _) (.int _) _ _); refine' r_ixTu (SqT.of ?h) ?e ?_; (case h => first | assumption | walk_at "hp"); (case e => rfl))
  | (with_reducible refine r_lenSet ?_)
  | (with_reducible refine r_asg2 ?_)
  | (with_reducible refine iteDT (by walk_at "x") ?_)
  | (with_reducible refine iteDF (by walk_at "x") ?_)
  | (with_reducible refine iteNT (by walk_at "x") ?_)
  | (with_reducible refine iteNF (by walk_at "x") ?_)))
section
variable {P : Program} {w : World} {K : PySem.W.Frag} {mg : Str → Option Value} {base : Heap}
theorem ok_bounds0 (T : Tx K mg) {f f_is_whole : Addr} {fd fd_is_whole : FuncData} (F : Fun K "_are_bounds" "_are_bounds" s_are_bounds f fd)
    (D_is_whole : DAt K mg "is_whole" s_is_whole P_is_whole f_is_whole fd_is_whole) : FnOk P w K mg base CX0 2 f fd P_are_bounds spBounds0 := by
  have G_is_whole : FnOk P w K mg base CX0 1 f_is_whole fd_is_whole P_is_whole (spWholeT K) := ok_is_whole T D_is_whole.fn
  refine F.ok sc_are_bounds (fun vs H Q E h => ?_) (fun cdv A outer s H vs Q E hr h => ?_)
  · obtain ⟨b, rfl, _⟩ := h
    rfl
  · obtain ⟨b, rfl, hb, k⟩ := h
    refine ⟨_, (pss_cons (ps_if (PW.pt (pw_or (pt_cmpR ((op_neA hr.units) : OpR _ _ (rNeA K)) (pe_callB (call_lenA : CallR _ _ (J.rLen K)) (by rfl) T.z_len (by decide +kernel) (pa_cons (pv 0) pa_nil)) pe_int (nomark _)) (pw_or1 (pt_not (pt_val (pe_call G_is_whole (hr.mono (by decide)) rfl D_is_whole.gl D_is_whole.fn.kp D_is_whole.bd .nil pass0 (pa_cons (pe_ix (ix_seq : IxR _ (rIx K)) (pv 0) pe_int (fun _ _ => rfl)) (pa_cons (pe_un L2.un_neg (pe_gI T.c_MOST_NUMBER rfl)) (pa_cons (pe_gI T.c_MOST_NUMBER rfl) pa_nil))))))))) (pss_one (ps_ret pe_bl)) pss_nil) (pss_one (ps_ret (pe_call G_is_whole (hr.mono (by decide)) rfl D_is_whole.gl D_is_whole.fn.kp D_is_whole.bd .nil pass0 (pa_cons (pe_ix (ix_seq : IxR _ (rIx K)) (pv 0) pe_int (fun _ _ => rfl)) (pa_cons (pe_ix (ix_seq : IxR _ (rIx K)) (pv 0) pe_int (fun _ _ => rfl)) (pa_cons (pe_gI T.c_MOST_NUMBER rfl) pa_nil))))))), ?_⟩
    walk_at "T"
    refine r_lenT (SqT.of hb) ?_
    walk_at "T"
    refine ⟨999999, rfl, ?_⟩
    walk_at "T"
    refine ⟨.int 2, .int 2, -999999, 999999, rfl, .int 2 (by decide), ?_⟩
    rw [whD_t (show (-999999 : Int) ≤ 2 by omega) (show (2 : Int) ≤ 999999 by omega)]
    walk_at "T"
    refine ⟨.int 1, .int 1, 2, 999999, rfl, .int 1 (by decide), ?_⟩
    rw [show whD 2 999999 (.int 1) = false from by show (decide ((2 : Int) ≤ 1) && decide ((1 : Int) ≤ 999999)) = false; decide]
    exact k
theorem ok_choices0 (T : Tx K mg) {f f_is_name f_are_unlike : Addr} {fd fd_is_name fd_are_unlike : FuncData} (F : Fun K "_are_choices" "_are_choices" s_are_choices f fd)
    (D_is_name : DAt K mg "is_name" s_is_name P_is_name f_is_name fd_is_name)
    (D_are_unlike : DAt K mg "are_unlike" s_are_unlike P_are_unlike f_are_unlike fd_are_unlike) : FnOk P w K mg base CX0 2 f fd P_are_choices spChoices0 := by
  have G_is_name : FnOk P w K mg base CX0 1 f_is_name fd_is_name P_is_name (spNameT K) := ok_is_name T D_is_name.fn
  have G_are_unlike : FnOk P w K mg base CX0 1 f_are_unlike fd_are_unlike P_are_unlike (spUnlike K) := ok_are_unlike T D_are_unlike.fn
  refine F.ok sc_are_choices (fun vs H Q E h => ?_) (fun cdv A outer s H vs Q E hr h => ?_)
  · obtain ⟨b, rfl, _⟩ := h
    rfl
  · obtain ⟨b, rfl, hb, k⟩ := h
    refine ⟨_, (pss_cons (ps_if (PW.pt (pw_or (pt_not (pt_val (pe_callB (L2.call_isi : CallR _ _ (rIsi K)) (by rfl) T.z_isinstance (by decide +kernel) (pa_cons (pv 0) (pa_cons (pe_bltn (v := .ty "tuple") (u := .type "tuple") rfl T.z_tuple (by decide +kernel) rfl) pa_nil))))) (pw_or1 (pt_not (pt_chain op_leA op_leA pe_int (pe_callB (call_lenA : CallR _ _ (J.rLen K)) (by rfl) T.z_len (by decide +kernel) (pa_cons (pv 0) pa_nil)) (pe_gI T.c_MOST_NAMES rfl)))))) (pss_one (ps_ret pe_bl)) pss_nil) (pss_one (ps_ret (pe_and (pe_callB ((L2.cr_all rfl) : CallR _ _ (rAll K)) (by rfl) T.z_all (by decide +kernel) (pa_cons (pe_lc (own := [("name", 1)]) (g := (gName 1)) rfl sc_are_choices.nd (asSeq (K := K) rfl (pi_seq (pv 0))) (blkOk_by (N := N_are_choices) (sc := defScope s_are_choices) (by decide +kernel)) (fun _ _ _ _ _ => (pg_name (i := 1) sc_are_choices.nd rfl (Or.inl rfl))) (fun _ _ _ _ _ => pts_nil) (fun _ _ _ _ _ => (pe_call G_is_name (hr.mono (by decide)) rfl D_is_name.gl D_is_name.fn.kp D_is_name.bd .nil pass0 (pa_cons (pv 1) pa_nil)))) pa_nil)) (pe_one (pe_call G_are_unlike (hr.mono (by decide)) rfl D_are_unlike.gl D_are_unlike.fn.kp D_are_unlike.bd .nil pass0 (pa_cons (pv 0) pa_nil))))))), ?_⟩
    walk_at "T"
    refine r_isiB (.base (.tup hb)) (b := true) (by decide +kernel) ?_
    walk_at "T"
    refine r_lenT (SqT.of hb) ?_
    walk_at "T"
    exact k
theorem ok_kind0 (T : Tx K mg) {f f_is_name f_are_unlike f_is_whole f_are_bounds f_are_choices : Addr} {fd fd_is_name fd_are_unlike fd_is_whole fd_are_bounds fd_are_choices : FuncData} (F : Fun K "is_kind" "is_kind" s_is_kind f fd)
    (D_is_name : DAt K mg "is_name" s_is_name P_is_name f_is_name fd_is_name)
    (D_are_unlike : DAt K mg "are_unlike" s_are_unlike P_are_unlike f_are_unlike fd_are_unlike)
    (D_is_whole : DAt K mg "is_whole" s_is_whole P_is_whole f_is_whole fd_is_whole)
    (D_are_bounds : DAt K mg "_are_bounds" s_are_bounds P_are_bounds f_are_bounds fd_are_bounds)
    (D_are_choices : DAt K mg "_are_choices" s_are_choices P_are_choices f_are_choices fd_are_choices) : FnOk P w K mg base CX0 3 f fd P_is_kind spKind0 := by
  have G_is_name : FnOk P w K mg base CX0 1 f_is_name fd_is_name P_is_name (spNameT K) := ok_is_name T D_is_name.fn
  have G_is_whole : FnOk P w K mg base CX0 1 f_is_whole fd_is_whole P_is_whole (spWholeT K) := ok_is_whole T D_is_whole.fn
  have G_are_bounds : FnOk P w K mg base CX0 2 f_are_bounds fd_are_bounds P_are_bounds spBounds0 := ok_bounds0 T D_are_bounds.fn D_is_whole
  have G_are_choices : FnOk P w K mg base CX0 2 f_are_choices fd_are_choices P_are_choices spChoices0 := ok_choices0 T D_are_choices.fn D_is_name D_are_unlike
  refine F.ok sc_is_kind (fun vs H Q E h => ?_) (fun cdv A outer s H vs Q E hr h => ?_)
  · obtain ⟨x, rfl, _⟩ := h
    rfl
  · obtain ⟨x, rfl, od, k⟩ := h
    refine ⟨_, (pss_cons (ps_if (PW.pt (pw_or (pt_not (pt_val (pe_callB (L2.call_isi : CallR _ _ (rIsi K)) (by rfl) T.z_isinstance (by decide +kernel) (pa_cons (pv 0) (pa_cons (pe_bltn (v := .ty "tuple") (u := .type "tuple") rfl T.z_tuple (by decide +kernel) rfl) pa_nil))))) (pw_or1 (pt_cmpR ((op_eqA hr.units) : OpR _ _ (rEqA K)) (pe_callB (call_lenA : CallR _ _ (J.rLen K)) (by rfl) T.z_len (by decide +kernel) (pa_cons (pv 0) pa_nil)) pe_int (nomark _))))) (pss_one (ps_ret pe_bl)) pss_nil) (pss_cons (ps_par (i := 1) (j := 2) rfl sc_is_kind.nd rfl rfl (by decide) rfl rfl (pa_cons (pe_ix (ix_seq : IxR _ (rIx K)) (pv 0) pe_int (fun _ _ => rfl)) (pa_cons (pe_callB (call_lenA : CallR _ _ (J.rLen K)) (by rfl) T.z_len (by decide +kernel) (pa_cons (pv 0) pa_nil)) pa_nil)) rfl) (pss_cons (ps_if (pt_cmpR ((op_eqA hr.units) : OpR _ _ (rEqA K)) (pv 2) pe_int (nomark _)) (pss_cons (ps_if (pt_cmpR ((op_eqA hr.units) : OpR _ _ (rEqA K)) (pv 1) pe_str (nomark _)) (pss_one (ps_ret (pe_call G_is_name (hr.mono (by decide)) rfl D_is_name.gl D_is_name.fn.kp D_is_name.bd .nil pass0 (pa_cons (pe_ix (ix_seq : IxR _ (rIx K)) (pv 0) pe_int (fun _ _ => rfl)) pa_nil)))) pss_nil) (pss_cons (ps_if (pt_cmpR ((op_eqA hr.units) : OpR _ _ (rEqA K)) (pv 1) pe_str (nomark _)) (pss_one (ps_ret (pe_call G_is_whole (hr.mono (by decide)) rfl D_is_whole.gl D_is_whole.fn.kp D_is_whole.bd .nil pass0 (pa_cons (pe_ix (ix_seq : IxR _ (rIx K)) (pv 0) pe_int (fun _ _ => rfl)) (pa_cons pe_int (pa_cons (pe_gI T.c_MOST_TEXT rfl) pa_nil)))))) pss_nil) (pss_one (ps_ret (pe_and (pe_cmpR ((op_eqA hr.units) : OpR _ _ (rEqA K)) (pv 1) pe_str (nomark _)) (pe_one (pe_call G_are_choices (hr.mono (by decide)) rfl D_are_choices.gl D_are_choices.fn.kp D_are_choices.bd .nil pass0 (pa_cons (pe_ix (ix_seq : IxR _ (rIx K)) (pv 0) pe_int (fun _ _ => rfl)) pa_nil)))))))) pss_nil) (pss_cons (ps_if (pt_cmpR ((op_eqA hr.units) : OpR _ _ (rEqA K)) (pv 1) pe_str (nomark _)) (pss_one (ps_ret (pe_call G_are_bounds (hr.mono (by decide)) rfl D_are_bounds.gl D_are_bounds.fn.kp D_are_bounds.bd .nil pass0 (pa_cons (pe_slice (sl_tup : SlR _ (rSlT K)) (pv 0) (po_some pe_int) po_none) pa_nil)))) pss_nil) (pss_one (ps_ret (pe_and (pe_cmpR ((op_eqA hr.units) : OpR _ _ (rEqA K)) (pv 1) pe_str (nomark _)) (pe_one (pe_cmpR ((op_eqA hr.units) : OpR _ _ (rEqA K)) (pv 2) pe_int (nomark _)))))))))), ?_⟩
    cases od with
    | non =>
      walk_at "T"
      refine r_isiB (.base .non) (b := false) (by decide +kernel) ?_
      walk_at "T"
      exact k _ (Same.refl H)
    | int i =>
      walk_at "T"
      refine r_isiB (.base (.int i)) (b := false) (by decide +kernel) ?_
      walk_at "T"
      exact k _ (Same.refl H)
    | str z =>
      walk_at "T"
      refine r_isiB (.base (.str z)) (b := false) (by decide +kernel) ?_
      walk_at "T"
      exact k _ (Same.refl H)
    | lst h =>
      walk_at "T"
      refine r_isiB (.base (.lst h)) (b := false) (by decide +kernel) ?_
      walk_at "T"
      exact k _ (Same.refl H)
    | @txt a n ha l o =>
      walk_at "T"
      refine r_isiB (.base (.tup ha)) (b := true) (by decide +kernel) ?_
      walk_at "T"
      refine r_lenT (SqT.of ha) ?_
      walk_at "T"
      refine r_lenT (SqT.of ha) ?_
      walk_at "T"
      refine ⟨.int n, .int n, 1, 20, rfl, .int n (Nat.le_trans l (by decide)), ?_⟩
      rw [show whD 1 20 (.int n) = false from by show (decide ((1 : Int) ≤ n) && decide (n ≤ 20)) = false; rw [Bool.and_eq_false_iff, decide_eq_false_iff_not, decide_eq_false_iff_not]; omega]
      exact k _ (Same.refl H)
    | @one a c ha hc =>
      walk_at "T"
      refine r_isiB (.base (.tup ha)) (b := true) (by decide +kernel) ?_
      walk_at "T"
      refine r_lenT (SqT.of ha) ?_
      walk_at "T"
      refine r_lenT (SqT.of ha) ?_
      walk_at "T"
      exact ⟨c, rfl, hc, k _ (Same.refl H)⟩
    | @nam a ha =>
      walk_at "T"
      refine r_isiB (.base (.tup ha)) (b := true) (by decide +kernel) ?_
      walk_at "T"
      refine r_lenT (SqT.of ha) ?_
      walk_at "T"
      refine r_lenT (SqT.of ha) ?_
      walk_at "T"
      exact k _ (Same.refl H)
    | @num a ha =>
      walk_at "T"
      refine r_isiB (.base (.tup ha)) (b := true) (by decide +kernel) ?_
      walk_at "T"
      refine r_lenT (SqT.of ha) ?_
      walk_at "T"
      refine r_lenT (SqT.of ha) ?_
      walk_at "T"
      refine r_slT (SqT.of ha) (by show ¬ (HT.sIx 3 0 (some 1) = 0 ∧ HT.sIx 3 3 none = 3); decide) fun p hp => ?_
      walk_at "T"
      exact ⟨p, rfl, upd_same, k _ ((Same.refl H).at hp _)⟩
theorem ok_tab_of (T : Tx K mg) {CG CK CX : Addr} (GI : GIs6 K CG) (GC : GrC K CG) (L_Grammar : mg "Grammar" = some (.ref CG)) (O_NoKind : OE P w K mg base "NoKind" "found" CK) (O_NoGrammar : OE P w K mg base "NoGrammar" "found" CX) {f f_is_name f_are_unlike f_is_whole f_are_bounds f_are_choices f_is_kind f_own_name f_words_of f_table_with f_Grammar_own_words : Addr} {fd fd_is_name fd_are_unlike fd_is_whole fd_are_bounds fd_are_choices fd_is_kind fd_own_name fd_words_of fd_table_with fd_Grammar_own_words : FuncData} (F : Fun K "table_of" "table_of" s_table_of f fd)
    (D_is_name : DAt K mg "is_name" s_is_name P_is_name f_is_name fd_is_name)
    (D_are_unlike : DAt K mg "are_unlike" s_are_unlike P_are_unlike f_are_unlike fd_are_unlike)
    (D_is_whole : DAt K mg "is_whole" s_is_whole P_is_whole f_is_whole fd_is_whole)
    (D_are_bounds : DAt K mg "_are_bounds" s_are_bounds P_are_bounds f_are_bounds fd_are_bounds)
    (D_are_choices : DAt K mg "_are_choices" s_are_choices P_are_choices f_are_choices fd_are_choices)
    (D_is_kind : DAt K mg "is_kind" s_is_kind P_is_kind f_is_kind fd_is_kind)
    (D_own_name : DAt K mg "own_name" s_own_name P_own_name f_own_name fd_own_name)
    (D_words_of : DAt K mg "words_of" s_words_of P_words_of f_words_of fd_words_of)
    (D_table_with : DAt K mg "table_with" s_table_with P_table_with f_table_with fd_table_with)
    (D_Grammar_own_words : MAt K CG "own_words" "Grammar.own_words" s_Grammar_own_words P_Grammar_own_words f_Grammar_own_words fd_Grammar_own_words) : FnOk P w K mg base (L2.CX P w) 5 f fd P_table_of (spTabOf CG CK CX) := by
  have M_Grammar_own_words := D_Grammar_own_words.me
  have B_Grammar_own_words := D_Grammar_own_words.bd
  have G_is_kind : FnOk P w K mg base CX0 3 f_is_kind fd_is_kind P_is_kind (fun vs H Q E => spIsKind vs H Q E ∨ spKind0 vs H Q E) := fn_or (ok_is_kind T D_is_kind.fn D_is_name D_are_unlike D_is_whole D_are_bounds D_are_choices) (ok_kind0 T D_is_kind.fn D_is_name D_are_unlike D_is_whole D_are_bounds D_are_choices)
  have G_table_with : FnOk P w K mg base CX0 2 f_table_with fd_table_with P_table_with (spTabWith K) := ok_tab_with T D_table_with.fn D_words_of
  have G_Grammar_own_words : FnOk P w K mg base CX0 4 f_Grammar_own_words fd_Grammar_own_words P_Grammar_own_words (spOwnWordsP CG) := ok_own_words T GC D_Grammar_own_words.fn D_is_name D_are_unlike D_is_whole D_are_bounds D_are_choices D_is_kind D_own_name
  refine F.okX sc_table_of (fun vs H Q E h => ?_) (fun cdv A outer s H vs Q E hr h => ?_)
  · obtain ⟨y, x, rfl, _⟩ := h
    rfl
  · obtain ⟨y, x, rfl, k⟩ := h
    have C_Grammar := GC.cls
    refine ⟨_, (pss_cons (ps_if (pt_not (pt_val (pe_callB (L2.call_isi : CallR _ _ (rIsi K)) (by rfl) T.z_isinstance (by decide +kernel) (pa_cons (pv 0) (pa_cons (pe_gR L_Grammar rfl) pa_nil))))) (pss_one (ps_rzK (K := K) (W := (fun cls d _ H' => E cls d H')) rfl rfl (takes_of rfl rfl rfl rfl) O_NoGrammar (hr.mono (by decide)) rfl (by exact (pa_cons (pv 0) pa_nil)))) pss_nil) (pss_cons (ps_if (pt_not (pt_val (pe_call G_is_kind (hr.mono (by decide)) rfl D_is_kind.gl D_is_kind.fn.kp D_is_kind.bd .nil pass0 (pa_cons (pv 1) pa_nil)))) (pss_one (ps_rzK (K := K) (W := (fun cls d _ H' => E cls d H')) rfl rfl (takes_of rfl rfl rfl rfl) O_NoKind (hr.mono (by decide)) rfl (by exact (pa_cons (pv 1) pa_nil)))) pss_nil) (pss_one (ps_ret (pe_call G_table_with (hr.mono (by decide)) rfl D_table_with.gl D_table_with.fn.kp D_table_with.bd .nil pass0 (pa_cons (pv 1) (pa_cons (pe_meth (pv 0) C_Grammar M_Grammar_own_words G_Grammar_own_words (hr.mono (by decide)) B_Grammar_own_words .nil pass0 (pa_cons (pv 1) pa_nil)) pa_nil))))))), ?_⟩
    rcases k with ⟨ng, k⟩ | ⟨g, r, ts, rfl, gr, nd, k⟩
    · obtain ⟨t, ht, hk⟩ := ng.no GI
      walk_at "T"
      refine ⟨y, .ref CG, t, .ref CG, false, rfl, .own CG, ht, hk, ?_⟩
      walk_at "T"
      exact rz_one O_NoGrammar.T O_NoGrammar.nf k
    · obtain ⟨dx, t, dc, dw, qs, hg, hw, wl⟩ := gr.ex
      walk_at "T"
      refine ⟨.ref g, .ref CG, .ref CG, .ref CG, true, rfl, .own CG, .base (.ins hg GI.ins.cl GI.ins.ha GI.ins.hn GI.ins.htk GI.ins.hm), GI.ins.me, ?_⟩
      walk_at "T"
      rcases k with ⟨od, k⟩ | ⟨a, kd, rfl, hk, ok, hm, l8, k⟩
      · refine .inr ⟨x, rfl, od, fun H1 s1 => ?_⟩
        walk_at "T"
        exact rz_one O_NoKind.T O_NoKind.nf (k.at s1)
      · refine .inl ⟨a, kd, rfl, hk, ok, fun H1 s1 => ?_⟩
        walk_at "T"
        refine r_meth ?_
        walk_at "T"
        refine ⟨g, dx, _, rfl, s1 _ _ hg, rfl, ?_⟩
        walk_at "T"
        refine ⟨g, r, a, ts, kd, rfl, gr.same s1, nd, hk.same s1, ok, hm, fun H2 p s2 hp h2 => ?_⟩
        walk_at "T"
        have l8' : (ownWs ts kd).length ≤ 8 := by
          cases kd with
          | own nm =>
            obtain ⟨tw, htw, en⟩ := List.mem_map.mp (hm nm rfl)
            show ((ts.lookup nm).getD []).length ≤ 8
            rw [lookup_of nd htw en]
            exact l8 tw htw
          | _ => exact Nat.zero_le _
        refine ⟨a, p, kd, ownWs ts kd, rfl, hk.same (s1.trans s2), .inl (SqL.of h2), l8', ok, fun H3 q s3 tb => ?_⟩
        exact k H3 q ((s1.trans s2).trans s3) tb
end
end K60
namespace K60
open PySem PySem.Spec PyProof.Rows L2 J M
local macro_rules | `(tactic| walk_at "hp") => `(tactic| first | assumption | exact upd_same | (rw [upd_ne (by assumption)]; walk_at "hp") | (rw [upd_ne (Ne.symm (by assumption))]; walk_at "hp"))
local macro_rules | `(tactic| walk_at "s") => `(tactic| first
  | ((with_reducible refine' r_var ?h ?k); (case h => exact rfl))
  | (with_reducible refine r_c ?_)
  | (with_reducible refine r_op ?_)
  | (with_reducible refine r_un ?_)
  | (with_reducible refine r_seq ?_)
  | (with_reducible refine r_next ?_)
  | (with_reducible refine r_sets ?_)
  | (with_reducible refine r_gname ?_)
  | (with_reducible refine r_ifS ?_)
  | (with_reducible refine r_gsub ?_)
  | (with_reducible refine r_test ?_)
  | (with_reducible refine r_tb ?_)
  | (with_reducible refine r_not ?_)
  | (with_reducible refine r_and ?_)
  | (with_reducible refine r_or ?_)
  | (with_reducible refine r_andV ?_)
  | (with_reducible refine r_orV ?_)
  | (with_reducible refine r_notV ?_)
  | (with_reducible refine r_ifE ?_)
  | (with_reducible refine r_chain ?_)
  | (with_reducible refine r_cb ?_)
  | (with_reducible refine r_cons ?_)
  | (with_reducible refine r_nil ?_)
  | (with_reducible refine r_call ?_)
  | (with_reducible refine r_lst ?_)
  | (with_reducible refine r_tup ?_)
  | (with_reducible refine r_slice ?_)
  | (with_reducible refine r_nop ?_)
  | (with_reducible refine r_part ?_)
  | (with_reducible refine r_bm ?_)
  | (with_reducible refine r_m1 ?_)
  | (with_reducible refine r_m0 ?_)
  | (with_reducible refine r_is ?_)
  | (with_reducible refine r_maxD ?_)
  | (with_reducible refine r_orT ?_)
  | (with_reducible refine r_truN ?_)
  | (with_reducible refine r_intI ?_)
  | (with_reducible refine r_intB ?_)
  | (with_reducible refine r_max2 ?_)
  | (with_reducible refine r_min2 ?_)
  | (with_reducible refine r_yes ?_)
  | (with_reducible refine r_bl ?_)
  | (with_reducible refine iteT ?_)
  | (with_reducible refine iteF ?_)
  | (with_reducible refine r_iteNT ?_)
  | (with_reducible refine r_iteNF ?_)
  | (with_reducible refine r_minL ?_)
  | (with_reducible refine r_gcons ?_)
  | (with_reducible refine r_gnil ?_)
  | (with_reducible refine r_par ?_)
  | (with_reducible refine r_par3 ?_)
  | (with_reducible refine r_is2 ?_)
  | (with_reducible refine r_is3 ?_)
  | (with_reducible refine r_dget ?_)
  | (with_reducible refine r_callS ?_)
  | (with_reducible refine r_rz ?_)
  | (with_reducible refine r_rev ?_)
  | (with_reducible refine r_isI ?_)
  | (with_reducible refine r_isStr ?_)
  | (with_reducible refine r_ret ?_)
  | (with_reducible refine r_drop ?_)
  | (with_reducible refine r_rI0 ?_)
  | (with_reducible refine r_addI ?_)
  | ((with_reducible show rI (fun _ j => 0 < j) _ (.int _) (.int _) _ _); refine r_rI (by first | omega | decide) ?_)
  | ((with_reducible show rI CDiv _ (.int _) (.int _) _ _); refine r_rI (by constructor <;> omega) ?_)
  | ((with_reducible show rI CPow _ (.int _) (.int _) _ _); refine r_rI (by refine ⟨by decide, by decide, ?_⟩; omega) ?_)
  | ((with_reducible show rMul (.int _) (.int _) _ _); refine r_mulI (cmulW (by omega) (by omega)) ?_)
  | (with_reducible refine r_cmpI ?_)
  | (with_reducible refine r_cmpS ?_)
  | (with_reducible refine r_eqI ?_)
  | (with_reducible refine r_neI ?_)
  | (with_reducible refine r_eqS ?_)
  | (with_reducible refine r_neS ?_)
  | (with_reducible refine r_inSF ?_)
  | (with_reducible refine r_inST ?_)
  | (with_reducible refine r_isiStr ?_)
  | ((with_reducible show rIx _ (.ref _) (.int _) _ _); refine' r_ixL (SqL.of ?h) ?e ?_; (case h => walk_at "hp"); (case e => rfl))
  | ((with_reducible show rSetL (.ref _) (.int _) _ _ _); refine' r_setL ?h ?e ?_; (case h => walk_at "hp"); (case e => rfl)))
local macro_rules | `(tactic| walk_at "g") => `(tactic| repeat walk_at "s")
local macro_rules | `(tactic| walk_at "x") => `(tactic| first | omega | decide +kernel | (simp only [List.length_cons, List.length_nil]; omega))
local macro_rules | `(tactic| walk_at "T") => `(tactic| repeat (first
  | walk_at "s"
  | ((with_reducible show rIx _ (.ref _) (.int _) _ _); refine' r_ixTu (SqT.of ?h) ?e ?_; (case h => first | assumption | walk_at "hp"); (case e => rfl))
  | (with_reducible refine r_lenSet ?_)
  | (with_reducible refine r_asg2 ?_)
  | (with_reducible refine iteDT (by walk_at "x") ?_)
  | (with_reducible refine iteDF (by walk_at "x") ?_)
  | (with_reducible refine iteNT (by walk_at "x") ?_)
  | (with_reducible refine iteNF (by walk_at "x") ?_)))
section
variable {P : Program} {w : World} {K : PySem.W.Frag} {mg : Str → Option Value} {base : Heap}
theorem ok_refused (T : Tx K mg) {CG CK CX : Addr} (TQ : TQ60 K CK CX) (GI : GIs6 K CG) (GC : GrC K CG) (L_Grammar : mg "Grammar" = some (.ref CG)) (O_NoKind : OE P w K mg base "NoKind" "found" CK) (O_NoGrammar : OE P w K mg base "NoGrammar" "found" CX) {f f_is_name f_are_unlike f_is_whole f_are_bounds f_are_choices f_is_kind f_own_name f_words_of f_table_with f_table_of f_Grammar_own_words : Addr} {fd fd_is_name fd_are_unlike fd_is_whole fd_are_bounds fd_are_choices fd_is_kind fd_own_name fd_words_of fd_table_with fd_table_of fd_Grammar_own_words : FuncData} (F : Fun K "_law_refused" "_law_refused" s_law_refused f fd)
    (D_is_name : DAt K mg "is_name" s_is_name P_is_name f_is_name fd_is_name)
    (D_are_unlike : DAt K mg "are_unlike" s_are_unlike P_are_unlike f_are_unlike fd_are_unlike)
    (D_is_whole : DAt K mg "is_whole" s_is_whole P_is_whole f_is_whole fd_is_whole)
    (D_are_bounds : DAt K mg "_are_bounds" s_are_bounds P_are_bounds f_are_bounds fd_are_bounds)
    (D_are_choices : DAt K mg "_are_choices" s_are_choices P_are_choices f_are_choices fd_are_choices)
    (D_is_kind : DAt K mg "is_kind" s_is_kind P_is_kind f_is_kind fd_is_kind)
    (D_own_name : DAt K mg "own_name" s_own_name P_own_name f_own_name fd_own_name)
    (D_words_of : DAt K mg "words_of" s_words_of P_words_of f_words_of fd_words_of)
    (D_table_with : DAt K mg "table_with" s_table_with P_table_with f_table_with fd_table_with)
    (D_table_of : DAt K mg "table_of" s_table_of P_table_of f_table_of fd_table_of)
    (D_Grammar_own_words : MAt K CG "own_words" "Grammar.own_words" s_Grammar_own_words P_Grammar_own_words f_Grammar_own_words fd_Grammar_own_words) : FnOk P w K mg base CX0 6 f fd P_law_refused (spRefsd CG) := by
  have M_Grammar_own_words := D_Grammar_own_words.me
  have B_Grammar_own_words := D_Grammar_own_words.bd
  have G_table_of : FnOk P w K mg base (L2.CX P w) 5 f_table_of fd_table_of P_table_of (spTabOf CG CK CX) := ok_tab_of T GI GC L_Grammar O_NoKind O_NoGrammar D_table_of.fn D_is_name D_are_unlike D_is_whole D_are_bounds D_are_choices D_is_kind D_own_name D_words_of D_table_with D_Grammar_own_words
  refine F.ok sc_law_refused (fun vs H Q E h => ?_) (fun cdv A outer s H vs Q E hr h => ?_)
  · obtain ⟨y, x, rfl, _⟩ := h
    rfl
  · obtain ⟨y, x, rfl, od, k⟩ := h
    refine ⟨_, pss_one (ps_tryN (l := [(.ref CX, 2, fun a cls d => tRet (tLst (tCons (tC (.str "grammar")) (tCons (tXf a cls d CX "found" (tVar 2)) tNil)))), (.ref CK, 2, fun a cls d => tRet (tLst (tCons (tC (.str "kind")) (tCons (tXf a cls d CK "found" (tVar 2)) tNil))))])
      (tb := fun W => tRet (tLst (tCons (tC (.str "told")) (tCons (tCallS (spTabOf CG CK CX) (WE W) (tCons (tVar 0) (tCons (tVar 1) tNil))) tNil)))) rfl rfl sc_law_refused.nd
      (fun W pn xe tk _ => pss_one (ps_ret (by exact (pe_lst (pa_cons pe_str (pa_cons (pe_callS (E := WE W) G_table_of (hr.mono (by decide)) rfl D_table_of.gl D_table_of.fn.kp D_table_of.bd (fun σ => passAt tk σ) (by exact (pa_cons (pv 0) (pa_cons (pv 1) pa_nil)))) pa_nil))))))
      (HN.cons rfl rfl ⟨rfl, by decide, Or.inl O_NoGrammar.gl⟩ (fun a oe cls d pn hz hf => pss_one (ps_ret (by exact (pe_lst (pa_cons pe_str (pa_cons (pe_xf TQ.fx O_NoGrammar.nf hz hf (pv 2)) pa_nil)))))) (HN.cons rfl rfl ⟨rfl, by decide, Or.inl O_NoKind.gl⟩ (fun a oe cls d pn hz hf => pss_one (ps_ret (by exact (pe_lst (pa_cons pe_str (pa_cons (pe_xf TQ.fk O_NoKind.nf hz hf (pv 2)) pa_nil)))))) (HN.any _)))), ?_⟩
    walk_at "T"
    rcases k with ⟨ng, k⟩ | ⟨g, r, ts, rfl, gr, nd, k⟩
    · refine ⟨y, x, rfl, .inl ⟨ng, fun dd H2 hd sd hx' => ?_⟩⟩
      refine ⟨true, TQ.xx, fun _ a ha => ?_, fun h => nomatch h⟩
      show tRet _ ⟨_, _, _, _⟩ _ _
      walk_at "T"
      refine r_xf (v := y) rfl rfl rfl hx' ?_
      walk_at "T"
      refine ⟨show 2 ≤ sizeLine by decide, fun p hp => ?_⟩
      exact k _ p (sd.at (Same.non sd hp) _) (Same.non sd hp) upd_same
    · refine ⟨.ref g, x, rfl, .inr ⟨g, r, ts, rfl, gr, nd, .inl ⟨od, fun dd H2 hd sd hx' => ?_⟩⟩⟩
      refine ⟨false, TQ.kx, (fun h => nomatch h), fun _ => ⟨true, TQ.kk, fun _ a ha => ?_, fun h => nomatch h⟩⟩
      show tRet _ ⟨_, _, _, _⟩ _ _
      walk_at "T"
      refine r_xf (v := x) rfl rfl rfl hx' ?_
      walk_at "T"
      refine ⟨show 2 ≤ sizeLine by decide, fun p hp => ?_⟩
      exact k _ p (sd.at (Same.non sd hp) _) (Same.non sd hp) upd_same
end
end K60
/-! what stands in a law of tables, its box and its codes' table beside it -/
namespace J
open PySem PySem.Spec PyProof.Rows L2 M LamX NdefX
variable {H0 H H' : Hp} {b Pt : Addr} {q : Str} {n m : Nat} {L : List (Addr × HO)}
theorem TabS.ne (t : TabS H Pt q) {a : Addr} {o : HO} (h : H a = some o) (no : ∀ ps, o ≠ .tbl ps) : a ≠ Pt := fun e => by
  obtain ⟨ps, h1, _⟩ := t
  subst e
  rw [h] at h1
  exact no ps (Option.some.inj h1)
theorem TabS.kb (t : TabS H Pt q) (bx : Bx H b n) (k : Keep b H H') : TabS H' Pt q := by
  obtain ⟨ps, h1, h2, h3⟩ := t
  obtain ⟨x, y, z, hb, _⟩ := bx
  refine ⟨ps, k _ _ h1 (fun e => by subst e; rw [hb] at h1; cases h1), h2, fun pos cv hc => ?_⟩
  obtain ⟨c, e1, e2⟩ := h3 pos cv hc
  exact ⟨c, e1, k _ _ e2 (fun e => by subst e; rw [hb] at e2; cases e2)⟩
theorem keepP_L (t : TabS H Pt q) (k : Keep Pt H H') : KeepL H H' := fun p o h z => k p o h (TabS.ne t h fun ps e => by subst e; rcases z with ⟨_, z⟩ | ⟨_, z⟩ | ⟨_, z⟩ <;> cases z)
theorem SqL.kp {K : PySem.W.Frag} {a : Addr} {xs : List V} (t : TabS H Pt q) (k : Keep Pt H H') (h : SqL K H a xs) : SqL K H' a xs := by
  rcases h with (h | ⟨o, h⟩) | h
  · exact .inl (.inl (k _ _ h (TabS.ne t h fun _ e => nomatch e)))
  · exact .inl (.inr ⟨o, k _ _ h (TabS.ne t h fun _ e => nomatch e)⟩)
  · exact .inr h
/-- since H0: a new box, a table of codes, and what else stands -/
structure Sd (Pt : Addr) (q : Str) (H0 H : Hp) (b : Addr) (n : Nat) (L : List (Addr × HO)) : Prop where
  kp : Keep Pt H0 H
  b0 : H0 b = none
  tab : TabS H Pt q
  bx : Bx H b n
  at_ : ∀ e ∈ L, H e.1 = some e.2 ∧ e.1 ≠ b ∧ e.1 ≠ Pt
theorem Sd.get (st : Sd Pt q H0 H b n L) {a : Addr} {o : HO} (i : Nat) (h : L[i]? = some (a, o)) : H a = some o := (st.at_ _ (List.mem_of_getElem? h)).1
theorem Sd.neb (st : Sd Pt q H0 H b n L) {a : Addr} {o : HO} (i : Nat) (h : L[i]? = some (a, o)) : a ≠ b := (st.at_ _ (List.mem_of_getElem? h)).2.1
theorem Sd.nep (st : Sd Pt q H0 H b n L) {a : Addr} {o : HO} (i : Nat) (h : L[i]? = some (a, o)) : a ≠ Pt := (st.at_ _ (List.mem_of_getElem? h)).2.2
theorem Sd.draw (st : Sd Pt q H0 H b n L) (k : Keep b H H') (bx : Bx H' b m) : Sd Pt q H0 H' b m L :=
  ⟨fun p o h ne => k p o (st.kp p o h ne) (fun e => by subst e; exact nomatch st.b0.symm.trans h), st.b0, TabS.kb st.tab st.bx k, bx, fun e he => let ⟨h1, h2, h3⟩ := st.at_ e he; ⟨k _ _ h1 h2, h2, h3⟩⟩
theorem Sd.step (st : Sd Pt q H0 H b n L) (s : Same H H') : Sd Pt q H0 H' b n L := st.draw (Keep.same s) (st.bx.same s)
theorem Sd.fresh (st : Sd Pt q H0 H b n L) {a : Addr} (ha : H a = none) : a ≠ b ∧ a ≠ Pt := ⟨st.bx.ne ha, fun e => by
  obtain ⟨ps, h1, _⟩ := st.tab
  subst e
  exact nomatch ha.symm.trans h1⟩
theorem Sd.add (st : Sd Pt q H0 H b n L) (k : Keep b H H') (bx : Bx H' b m) {a : Addr} {o : HO} (ha : H a = none) (h' : H' a = some o) : Sd Pt q H0 H' b m ((a, o) :: L) := by
  have s1 := st.draw k bx
  exact ⟨s1.kp, s1.b0, s1.tab, s1.bx, fun e he => by
    rcases List.mem_cons.mp he with rfl | he
    · exact ⟨h', st.fresh ha⟩
    · exact s1.at_ e he⟩
theorem Sd.put (st : Sd Pt q H0 H b n L) (s : Same H H') {a : Addr} {o : HO} (ha : H a = none) (h' : H' a = some o) : Sd Pt q H0 H' b n ((a, o) :: L) := st.add (Keep.same s) (st.bx.same s) ha h'
theorem Sd.new (st : Sd Pt q H0 H b n L) {a : Addr} (ha : H a = none) (o : HO) : Sd Pt q H0 (upd H a o) b n ((a, o) :: L) := st.put ((Same.refl H).at ha o) ha upd_same
theorem Sd.tell (st : Sd Pt q H0 H b n L) (k : Keep Pt H H') (t : TabS H' Pt q) : Sd Pt q H0 H' b n L :=
  ⟨st.kp.trans k, st.b0, t, by
    obtain ⟨x, y, z, hb, r⟩ := st.bx
    exact ⟨x, y, z, k _ _ hb (TabS.ne st.tab hb fun _ e => nomatch e), r⟩, fun e he => let ⟨h1, h2, h3⟩ := st.at_ e he; ⟨k _ _ h1 h3, h2, h3⟩⟩
theorem Sd.drop (st : Sd Pt q H0 H b n L) {e : Addr × HO} {L' : List (Addr × HO)} (h : L = e :: L') : Sd Pt q H0 H b n L' := by
  subst h
  exact ⟨st.kp, st.b0, st.tab, st.bx, fun e he => st.at_ e (List.mem_cons_of_mem _ he)⟩
theorem Sd.box (st : Sd Pt q H0 H b n L) (l : n ≤ m) : Sd Pt q H0 H b m L := ⟨st.kp, st.b0, st.tab, st.bx.mono l, st.at_⟩
/-! ### what else keeps -/
theorem KdAt.tk (s : TupK H H') {a : Addr} : ∀ {k : Kd}, KdAt H a k → KdAt H' a k
  | .num .., h => s _ _ h
  | .one _, ⟨b, h1, h2⟩ => ⟨b, s _ _ h1, s _ _ h2⟩
  | .nam, h => s _ _ h
  | .txt _, h => s _ _ h
  | .own _, h => s _ _ h
theorem KdsAt.tk (s : TupK H H') : ∀ {xs : List V} {ks : List Kd}, KdsAt H xs ks → KdsAt H' xs ks
  | _, _, .nil => .nil
  | _, _, .cons h t => .cons (h.tk s) (t.tk s)
theorem boxTup (bx : Bx H b n) (k : Keep b H H') : TupK H H' := fun p xs h => k.tup bx h
theorem tabTup (t : TabS H Pt q) (k : Keep Pt H H') : TupK H H' := fun p xs h => k p _ h (TabS.ne t h fun _ e => nomatch e)
theorem GrW.box {C g r : Addr} {ts : List TWs} (h : GrW C H g r ts) (bx : Bx H b n) (k : Keep b H H') : GrW C H' g r ts := by
  obtain ⟨dx, t, dc, dw, qs, a, c, w⟩ := h.ex
  obtain ⟨x, y, z, hb, _⟩ := id bx
  exact ⟨⟨dx, t, dc, dw, qs, k _ _ a (fun e => by subst e; rw [hb] at a; cases a), k _ _ c (fun e => by subst e; rw [hb] at c; cases c), w.keep (boxTup bx k)⟩⟩
theorem RootAt.box {r : Addr} {es : List Plc} (h : RootAt H r es) (bx : Bx H b n) (k : Keep b H H') : RootAt H' r es := h.keep (boxTup bx k)
theorem ListsL.get {H : Hp} : ∀ {kvs : List (Key × V)} {ts : List TWs} {i : Nat} {kv : Key × V}, ListsL H kvs ts → kvs[i]? = some kv → ∃ (l : Addr) (e : TWs), ts[i]? = some e ∧ kv = (.inr (S e.1), .ref l) ∧ H l = some (.lst (e.2.map wV))
  | _, _, _, _, .nil, h => by cases h
  | _, _, 0, _, .cons h _, e => by cases e; exact ⟨_, _, rfl, rfl, h⟩
  | _, _, i + 1, _, .cons _ t, e => t.get (i := i) e
theorem ListsL.keys {H : Hp} : ∀ {kvs : List (Key × V)} {ts : List TWs}, ListsL H kvs ts → kvs.map Prod.fst = ts.map fun e => (Sum.inr (S e.1) : Key)
  | _, _, .nil => rfl
  | _, _, .cons _ t => by rw [List.map_cons, List.map_cons, t.keys]
theorem ListsL.len {H : Hp} {kvs : List (Key × V)} {ts : List TWs} (h : ListsL H kvs ts) : kvs.length = ts.length := by
  have := congrArg List.length h.keys
  rwa [List.length_map, List.length_map] at this
theorem ListsL.nodup {H : Hp} {kvs : List (Key × V)} {ts : List TWs} (t : ListsL H kvs ts) (n : (ts.map Prod.fst).Nodup) : (kvs.map Prod.fst).Nodup := by
  rw [t.keys, show (ts.map fun e => (Sum.inr (S e.1) : Key)) = (ts.map Prod.fst).map fun a => (Sum.inr (S a) : Key) by rw [List.map_map]; rfl]
  exact List.Pairwise.map _ (fun a b (h : a ≠ b) z => h (S_inj.mp (Sum.inr.inj z))) n
theorem ListsL.kl {H H' : Hp} (k : KeepL H H') {kvs : List (Key × V)} {ts : List TWs} (h : ListsL H kvs ts) : ListsL H' kvs ts := h.keep fun p xs e => k p _ e (.inl ⟨_, rfl⟩)
theorem TellsL.snoc {W : LamW} {H : Hp} {f l : Addr} {e : TWs} (h : TellsAt W H f (.ref l)) (hl : H l = some (.lst (e.2.map wV))) : ∀ {kvs : List (Key × V)} {ts : List TWs}, TellsL W H kvs ts → TellsL W H (kvs ++ [(.inr (S e.1), .ref f)]) (ts ++ [e])
  | _, _, .nil => .cons h hl .nil
  | _, _, .cons a b t => .cons a b (t.snoc h hl)
/-- pairs of names and lambdas -/
inductive Pairs2 (H : Hp) : List Addr → List (Key × V) → Prop where
  | nil : Pairs2 H [] []
  | cons {p : Addr} {kv : Key × V} {ps : List Addr} {kvs : List (Key × V)} (h : H p = some (.tup [kV kv.1, kv.2])) (t : Pairs2 H ps kvs) : Pairs2 H (p :: ps) (kv :: kvs)
theorem Pairs2.keep (s : TupK H H') : ∀ {ps : List Addr} {kvs : List (Key × V)}, Pairs2 H ps kvs → Pairs2 H' ps kvs
  | _, _, .nil => .nil
  | _, _, .cons h t => .cons (s _ _ h) (t.keep s)
theorem Pairs2.snoc {p : Addr} {kv : Key × V} (h : H p = some (.tup [kV kv.1, kv.2])) : ∀ {ps : List Addr} {kvs : List (Key × V)}, Pairs2 H ps kvs → Pairs2 H (ps ++ [p]) (kvs ++ [kv])
  | _, _, .nil => .cons h .nil
  | _, _, .cons a t => .cons a (t.snoc h)
theorem Pairs2.pd {K : PySem.W.Frag} : ∀ {ps : List Addr} {kvs : List (Key × V)}, Pairs2 H ps kvs → Paired (fun p kv => SqT K H p [kV kv.1, kv.2]) ps kvs
  | _, _, .nil => .nil
  | _, _, .cons h t => .cons (SqT.of h) t.pd
theorem merge_new : ∀ {more kvs : List (Key × V)}, ((kvs ++ more).map Prod.fst).Nodup → mergeK kvs more = kvs ++ more
  | [], kvs, _ => (List.append_nil _).symm
  | kv :: more, kvs, nd => by
    have e : mergeK kvs (kv :: more) = mergeK (putK kvs kv.1 kv.2) more := rfl
    have nd2 := nd
    rw [List.map_append, List.nodup_append] at nd2
    have ne : valV kvs kv.1 = none := valV_of fun p hp z => nd2.2.2 p.1 (List.mem_map_of_mem hp) kv.1 (by rw [List.map_cons]; exact List.mem_cons_self ..) z
    rw [e, putK_new _ ne, merge_new (by rw [List.append_assoc]; exact nd), List.append_assoc]
    rfl
/-! ### tables, shown -/
theorem jc_mem {c : Nat} : ∀ {xs : List (List Nat)}, c ∈ jc xs → c = 44 ∨ c = 32 ∨ ∃ x ∈ xs, c ∈ x
  | [], h => (List.not_mem_nil h).elim
  | [x], h => .inr (.inr ⟨x, List.mem_cons_self .., h⟩)
  | x :: y :: r, h => by
    have h : c ∈ x ++ 44 :: 32 :: jc (y :: r) := h
    rcases List.mem_append.mp h with h | h
    · exact .inr (.inr ⟨x, List.mem_cons_self .., h⟩)
    · rcases List.mem_cons.mp h with h | h
      · exact .inl h
      · rcases List.mem_cons.mp h with h | h
        · exact .inr (.inl h)
        · rcases jc_mem h with e | e | ⟨z, hz, e⟩
          · exact .inl e
          · exact .inr (.inl e)
          · exact .inr (.inr ⟨z, List.mem_cons_of_mem _ hz, e⟩)
theorem leaf_sg {d : PyData} (h : Leaf d) : ∀ c ∈ cd d.shown, c ≤ 126 := fun c hc => by
  cases h with
  | non => rw [shown_none'] at hc; revert c; decide
  | int i =>
    rw [shown_int'] at hc
    have := pl_dec i c hc
    omega
  | str h =>
    rw [shown_str' h] at hc
    rcases List.mem_cons.mp hc with e | hc
    · omega
    · rcases List.mem_append.mp hc with hc | hc
      · have := h c hc; omega
      · rw [List.mem_singleton.mp hc]; omega
theorem tup_sg {ds : List PyData} (h : ∀ d ∈ ds, ∀ c ∈ cd d.shown, c ≤ 126) : ∀ c ∈ cd (PyData.tuple ds).shown, c ≤ 126 := fun c hc => by
  rw [cd_tup] at hc
  rcases List.mem_cons.mp hc with e | hc
  · omega
  · rcases List.mem_append.mp hc with hc | hc
    · rcases jc_mem hc with e | e | ⟨x, hx, e⟩
      · omega
      · omega
      · obtain ⟨d, hd, rfl⟩ := List.mem_map.mp hx
        exact h d hd c e
    · have hc : c = 44 ∨ c = 41 := by
        split at hc <;> simp at hc <;> omega
      omega
theorem Tb.sg {t : Tb} (h : t.Ok) : ∀ c ∈ cd t.data.shown, c ≤ 126 := by
  cases t with
  | wds ys =>
    refine tup_sg fun d hd => ?_
    rcases List.mem_cons.mp hd with rfl | hd
    · exact leaf_sg (.str (pl_dec' (by decide)))
    · rw [List.mem_singleton.mp hd]
      refine tup_sg fun e he => ?_
      obtain ⟨y, hy, rfl⟩ := List.mem_map.mp he
      exact leaf_sg (.str (h y hy))
  | num lo hi =>
    obtain ⟨ds, e, l⟩ := Tb.leaf (t := .num lo hi) fun _ z => nomatch z
    rw [e]; exact tup_sg fun d hd => leaf_sg (l d hd)
  | nam =>
    obtain ⟨ds, e, l⟩ := Tb.leaf (t := .nam) fun _ z => nomatch z
    rw [e]; exact tup_sg fun d hd => leaf_sg (l d hd)
  | txt n =>
    obtain ⟨ds, e, l⟩ := Tb.leaf (t := .txt n) fun _ z => nomatch z
    rw [e]; exact tup_sg fun d hd => leaf_sg (l d hd)
theorem strs_dd {H : Hp} {b : Addr} : ∀ {ys : List (List Nat)}, (∀ y ∈ ys, Pl y ∧ y.length ≤ 50) → DdAll b H (ys.map wV) (ys.map fun y => .str (S y)) ∧ wtAll (ys.map fun y => PyData.str (S y)) ≤ 504 * ys.length ∧ PyData.depthAll (ys.map fun y => PyData.str (S y)) ≤ 0
  | [], _ => ⟨.nil, Nat.le_refl _, Nat.le_refl _⟩
  | y :: ys, h => by
    obtain ⟨a, w, d⟩ := strs_dd (H := H) (b := b) (ys := ys) fun z hz => h z (List.mem_cons_of_mem _ hz)
    have hy := h y (List.mem_cons_self ..)
    refine ⟨.cons (.str _ (by rw [S_len]; omega) (by rw [cd_S]; exact fun c hc => by have := hy.1 c hc; omega)) a, ?_, Nat.max_le.mpr ⟨Nat.le_refl _, d⟩⟩
    rw [List.map_cons, wtAll, wt, S_len, List.length_cons]
    omega
/-- a table that was told, and what it is shown as -/
theorem tb_dd {H : Hp} {b p a : Addr} {ts : List TWs} {tr : List (List Nat)} {k : Kd} (t : TrOk tr) (g : KGood ts tr k) (ok : k.Ok) (hk : KdAt H a k) (h : TbAt H p a (ownWs ts k) k) :
    ∃ u : Tb, TbFor ts k u ∧ Dd b H (.ref p) u.data ∧ wt u.data ≤ 1000000 ∧ u.data.depth ≤ 60 := by
  have words : ∀ (A : List (List Nat)) (pt : Addr) (ys : List Str), wk ts k = some A → H p = some (.tup [.str "words", .ref pt]) → H pt = some (.tup (ys.map V.str)) → SortOf A ys → ∃ u : Tb, TbFor ts k u ∧ Dd b H (.ref p) u.data ∧ wt u.data ≤ 1000000 ∧ u.data.depth ≤ 60 := fun A pt ys e h1 h2 so => by
    obtain ⟨a1, a2, a3, a4⟩ := g.wds A e
    have pm : (ys.map cd).Perm A := by
      have := so.1.map cd
      rwa [List.map_map, show cd ∘ S = id from funext cd_S, List.map_id] at this
    have yy : ∀ y ∈ ys.map cd, Pl y ∧ y.length ≤ 50 := fun y hy => t.pl y (a4 y (pm.mem_iff.mp hy)).1
    have es : ys.map V.str = (ys.map cd).map wV := by
      rw [List.map_map]
      exact List.map_congr_left fun y _ => by show V.str y = V.str (S (cd y)); rw [show S (cd y) = y from S_of y]
    obtain ⟨d1, d2, d3⟩ := strs_dd (H := H) (b := b) yy
    have l8 : (ys.map cd).length ≤ 8 := by rw [pm.length_eq]; exact a2
    refine ⟨.wds (ys.map cd), ?_, .tup h1 (.cons (.str _ (by decide) (by decide +kernel)) (.cons (.tup (h2.trans (by rw [es])) d1) .nil)), ?_, ?_⟩
    · unfold TbFor
      rw [e]
      refine ⟨_, rfl, pm, ?_⟩
      have := sorted_pw so.2
      exact List.pairwise_map.mpr this
    · show wt (.tuple [.str (S [119, 111, 114, 100, 115]), .tuple ((ys.map cd).map fun y => .str (S y))]) ≤ 1000000
      rw [wt, wtAll, wtAll, wtAll, wt, wt, S_len]
      show 10 * 5 + 2 + 2 + _ + 3 ≤ 1000000
      omega
    · show PyData.depthAll [PyData.str (S [119, 111, 114, 100, 115]), .tuple ((ys.map cd).map fun y => .str (S y))] + 1 ≤ 60
      have : PyData.depthAll [PyData.str (S [119, 111, 114, 100, 115]), .tuple ((ys.map cd).map fun y => .str (S y))] ≤ 1 := depth_all fun d hd => by
        rcases List.mem_cons.mp hd with rfl | hd
        · exact Nat.zero_le _
        · rw [List.mem_singleton.mp hd]
          exact Nat.succ_le_succ d3
      omega
  cases k with
  | num lo hi =>
    have h : p = a := h
    subst h
    obtain ⟨o1, o2, o3⟩ := ok
    exact ⟨.num lo hi, rfl, .tup hk (.cons (.str _ (by decide) (by decide +kernel)) (.cons (.int _ (Nat.le_trans (show _ ≤ 999999 by omega) (by decide))) (.cons (.int _ (Nat.le_trans (show _ ≤ 999999 by omega) (by decide))) .nil))), by
      show wt (.tuple [.str (S [110, 117, 109, 98, 101, 114]), .int lo, .int hi]) ≤ 1000000
      rw [wt, wtAll, wtAll, wtAll, wtAll, wt, wt, wt, S_len]; decide, Nat.le_of_ble_eq_true rfl⟩
  | nam =>
    have h : p = a := h
    subst h
    exact ⟨.nam, rfl, .tup hk (.cons (.str _ (by decide) (by decide +kernel)) .nil), by
      show wt (.tuple [.str (S [110, 97, 109, 101])]) ≤ 1000000
      rw [wt, wtAll, wtAll, wt, S_len]; decide, by decide⟩
  | txt n =>
    have h : p = a := h
    subst h
    obtain ⟨o1, o2⟩ := ok
    exact ⟨.txt n, rfl, .tup hk (.cons (.str _ (by decide) (by decide +kernel)) (.cons (.int _ (Nat.le_trans (show _ ≤ 20 by omega) (by decide))) .nil)), by
      show wt (.tuple [.str (S [116, 101, 120, 116]), .int n]) ≤ 1000000
      rw [wt, wtAll, wtAll, wtAll, wt, wt, S_len]; decide, Nat.le_of_ble_eq_true rfl⟩
  | one A =>
    obtain ⟨pt, ys, h1, h2, h3⟩ := h
    exact words A pt ys rfl h1 h2 h3
  | own nm =>
    obtain ⟨pt, ys, h1, h2, h3⟩ := h
    exact words _ pt ys rfl h1 h2 h3
/-- a root, shown -/
theorem root_dd {H : Hp} {b r : Addr} {es : List Plc} (h : RootAt H r es) (l : es.length ≤ 4) (nm : ∀ e ∈ es, Nm e.1 ∧ Nm e.2) : ∃ d, Dd b H (.ref r) d ∧ wt d ≤ 10000 ∧ d.depth ≤ 10 := by
  obtain ⟨oa, pa, ga, ca, xs, h1, h2, h3, h4, h5, h6⟩ := h.ex
  have : ∀ {xs : List V} {es : List Plc}, PlsAt H xs es → (∀ e ∈ es, Nm e.1 ∧ Nm e.2) → ∃ ds, DdAll b H xs ds ∧ wtAll ds ≤ 500 * es.length ∧ PyData.depthAll ds ≤ 2 := by
    intro xs es hp
    induction hp with
    | nil => intro _; exact ⟨[], .nil, Nat.le_refl _, by decide⟩
    | @cons a e xs es hh t ih =>
      intro nm
      obtain ⟨ds, d1, d2, d3⟩ := ih fun e he => nm e (List.mem_cons_of_mem _ he)
      obtain ⟨k, e1, e2⟩ := hh
      obtain ⟨n1, n2⟩ := nm e (List.mem_cons_self ..)
      have w : ∀ {z : List Nat}, Nm z → Dd b H (.str (S z)) (.str (S z)) := fun {z} hz => .str _ (by rw [S_len]; have := hz.2.1; omega) (by rw [cd_S]; exact fun c hc => by have := hz.2.2 c hc; omega)
      refine ⟨.tuple [.str (S e.1), .tuple [.str "own", .str (S e.2)], .str "maybe"] :: ds, .cons (.tup e1 (.cons (w n1) (.cons (.tup e2 (.cons (.str _ (by decide) (by decide +kernel)) (.cons (w n2) .nil))) (.cons (.str _ (by decide) (by decide +kernel)) .nil)))) d1, ?_, ?_⟩
      · rw [wtAll, wt, wtAll, wtAll, wtAll, wtAll, wt, wt, wt, wtAll, wtAll, wtAll, wt, wt, S_len, S_len, List.length_cons, show ("own" : Str).length = 3 from rfl, show ("maybe" : Str).length = 5 from rfl]
        have := n1.2.1
        have := n2.2.1
        omega
      · exact Nat.max_le.mpr ⟨Nat.le_of_ble_eq_true rfl, d3⟩
  obtain ⟨ds, d1, d2, d3⟩ := this h4 nm
  refine ⟨.tuple [.str "tool", .tuple [], .tuple ds, .tuple [], .tuple []], .tup h1 (.cons (.str _ (by decide) (by decide +kernel)) (.cons (.tup h2 .nil) (.cons (.tup h3 d1) (.cons (.tup h5 .nil) (.cons (.tup h6 .nil) .nil))))), ?_, ?_⟩
  · rw [wt, wtAll, wtAll, wtAll, wtAll, wtAll, wtAll, wt, wt, wt, wtAll, show ("tool" : Str).length = 4 from rfl]
    omega
  · show PyData.depthAll [PyData.str "tool", .tuple [], .tuple ds, .tuple [], .tuple []] + 1 ≤ 10
    have : PyData.depthAll [PyData.str "tool", .tuple [], .tuple ds, .tuple [], .tuple []] ≤ 3 := depth_all fun d hd => by
      simp only [List.mem_cons, List.not_mem_nil, or_false] at hd
      rcases hd with rfl | rfl | rfl | rfl | rfl
      · exact Nat.zero_le _
      · decide
      · exact Nat.succ_le_succ d3
      · decide
      · decide
    omega
/-- a pair of texts -/
def PairT (H : Hp) (y : V) (s t : Str) : Prop := ∃ p, y = .ref p ∧ H p = some (.tup [.str s, .str t])
end J
/-! a law of tables: its promise; a maker with a keyword -/
namespace J
open PySem PySem.Spec PyProof.Rows L2 M LamX NdefX
def spLaw60 (K : PySem.W.Frag) (Pt : Addr) (q : Str) : Sp := fun vs H Q _ => ∃ (a : Addr) (ns : List Int), vs = [.ref a] ∧ SqL K H a (ns.map V.int) ∧ ns.length ≤ 63 ∧ TabS H Pt q ∧ ∀ H', Q (.bl true) H'
def spRoot60 (C : Addr) : Sp := fun vs H Q _ => ∃ (g r : Addr) (ts : List TWs), vs = [.ref g] ∧ GrW C H g r ts ∧ Q (.ref r) H
theorem r_makeN {C : Addr} {n m : Nat} {sp : Sp} {gV : List V → List V → List V} {E : XK} {t tk : TA} {σ : L2.St} {H : Hp} {Q : VK} (k : t σ H fun vs H1 => tk σ H1 fun zs H2 => vs.length = n ∧ zs.length = m ∧
  ∀ x dx, H2 x = none → H2 dx = none → dx ≠ x → sp (gV (.ref x :: vs) zs) (upd (upd H2 dx (.own x)) x (.ins C dx [])) (fun v H3 => v = .non ∧ Q (.ref x) H3) E) : tMakeN C n m sp gV E t tk σ H Q := k
/-- a maker with a keyword, and its class -/
structure IKt (K : PySem.W.Frag) (mg : Str → Option Value) (c q : Str) (st : Stmt) (ps : List Str) (C f : Addr) (fd : FuncData) : Prop where
  fn : Fun K "__init__" q st f fd
  mak : Mk K C f
  bK : KBn K fd ps 2 ["own"] (fun us ws => us ++ ws) (fun vs zs => vs ++ zs)
theorem Sd.also {Pt : Addr} {q : Str} {H0 H : Hp} {b : Addr} {n : Nat} {L : List (Addr × HO)} (st : Sd Pt q H0 H b n L) {a : Addr} {o : HO} (h : H a = some o) (f : a ≠ b ∧ a ≠ Pt) : Sd Pt q H0 H b n ((a, o) :: L) :=
  ⟨st.kp, st.b0, st.tab, st.bx, fun e he => by
    rcases List.mem_cons.mp he with rfl | he
    · exact ⟨h, f⟩
    · exact st.at_ e he⟩
/-- one y for each number of a range, of which R is told -/
theorem comp_rngR {lo : Int} {q : Nat} {g : TG} {te : TE} {vs : List Nat} {σ : L2.St} {H1 : Hp} {D : Addr} {Z : Hp → Prop} (hD : H1 D = none) (hs : q < sizeLine) (R : Nat → V → Hp → Prop)
    (mono : ∀ i y H H', R i y H → (∃ zs, H D = some (.lst zs)) → (∀ p o, p ≠ D → H p = some o → H' p = some o) → R i y H')
    (turn : ∀ (i : Nat) (H : Hp) (N : V → Hp → Prop), i < q → Same H1 H → (∃ zs, H D = some (.lst zs)) → (∀ y H4, Same H H4 → R i y H4 → N y H4) → g (.int (lo + (i : Nat))) (wipe σ vs) H fun σ2 H2 => wipe σ2 vs = wipe σ vs ∧ te σ2 H2 N)
    (fin : ∀ H ys, Same H1 H → H D = some (.lst ys) → ys.length = q → (∀ i y, ys[i]? = some y → R i y H) → Z H) : CompQ (Itr lo q) g tYes te vs σ H1 D Z := by
  refine comp_of q (fun i H => Same H1 H ∧ ∃ ys, H D = some (.lst ys) ∧ ys.length = i ∧ ∀ k y, ys[k]? = some y → R k y H) ⟨(Same.refl H1).at hD _, [], upd_same, rfl, fun k y h => by cases h⟩ (fun i H hi w => hi) (fun H w => Nat.le_refl _) (fun i H x H' hi w y => ?_) (fun H w => ?_)
  · obtain ⟨rfl, rfl⟩ := y
    obtain ⟨s1, ys, e, l, r⟩ := w
    refine turn i H' _ hi s1 ⟨_, e⟩ fun y H4 s ry => ⟨ys, s _ _ e, by rw [l]; exact Nat.lt_trans hi hs, (s1.trans s).at hD _, ys ++ [y], upd_same, by rw [List.length_append, l]; rfl, fun k z hz => ?_⟩
    have kp : ∀ p o, p ≠ D → H4 p = some o → (upd H4 D (.lst (ys ++ [y]))) p = some o := fun p o n h => by rw [upd_ne n]; exact h
    have e4 : ∃ zs, H4 D = some (.lst zs) := ⟨_, s _ _ e⟩
    by_cases q : k < ys.length
    · rw [List.getElem?_append_left q] at hz
      exact mono k z H4 _ (mono k z H' _ (r k z hz) ⟨_, e⟩ fun p o _ h => s p o h) e4 kp
    · rw [List.getElem?_append_right (by omega)] at hz
      have k0 : k - ys.length = 0 := by
        have := (List.getElem?_eq_some_iff.mp hz).1
        simp at this
        omega
      rw [k0] at hz
      cases hz
      obtain rfl : k = i := by omega
      exact mono _ _ H4 _ ry e4 kp
  · obtain ⟨s1, ys, e, l, r⟩ := w
    exact fin H ys s1 e l r
/-! ### what a law's kinds are -/
section
variable {lo mo m : Int} {ns : List (List Nat)} {ts : List TWs}
theorem kds_num (ko : KdsOk lo mo ns m) : KdsNum (kdsOf lo mo ns m) := ⟨Nat.le_refl 13, fun a b h => by
  have l0 := ko.l0
  have l1 := ko.l1
  have m0 := ko.m0
  have m1 := ko.m1
  simp only [kdsOf, List.mem_cons, List.not_mem_nil, or_false] at h
  rcases h with h | h | h | h | h | h | h | h | h | h | h | h | h <;> first | (injection h with h1 h2; subst h1 h2; omega) | (cases h; done)⟩
theorem ts_fst (h : TsOf ns ts) : ts.map Prod.fst = [nmW, nmO, nmE] := by
  obtain ⟨ws, i, _, _, _, rfl⟩ := h
  rfl
theorem ts_l8 (ko : KdsOk lo mo ns m) (h : TsOf ns ts) : ∀ e ∈ ts, e.2.length ≤ 8 := by
  obtain ⟨ws, i, e1, _, _, _, _, _, w2, _⟩ := ws_of h ko.nm ko.nd ko.n8
  obtain ⟨ws', i', _, _, _, rfl⟩ := h
  have e1 : ws' = ws := e1
  subst e1
  intro e he
  simp only [List.mem_cons, List.not_mem_nil, or_false] at he
  rcases he with rfl | rfl | rfl
  · exact w2
  · show 2 ≤ 8; decide
  · exact Nat.zero_le _
theorem kds_ok (ko : KdsOk lo mo ns m) : ∀ k ∈ kdsOf lo mo ns m, k.Ok := by
  have l0 := ko.l0
  have l1 := ko.l1
  have m0 := ko.m0
  have m1 := ko.m1
  have t0 := ko.t0
  have t1 := ko.t1
  have one : ∀ A : List (List Nat), 1 ≤ A.length → A.length ≤ 8 → (∀ a ∈ A, Nm a) → A.Nodup → (Kd.one A).Ok := fun A a b c d => ⟨a, b, c, d⟩
  intro k hk
  simp only [kdsOf, List.mem_cons, List.not_mem_nil, or_false] at hk
  rcases hk with rfl | rfl | rfl | rfl | rfl | rfl | rfl | rfl | rfl | rfl | rfl | rfl | rfl
  · exact ⟨by omega, by omega, by omega⟩
  · exact ⟨by omega, by omega, by omega⟩
  · exact ⟨by omega, by omega, by omega⟩
  · trivial
  · exact one _ ko.n1 ko.n8 ko.nm ko.nd
  · exact one _ (by rw [List.length_reverse]; exact ko.n1) (by rw [List.length_reverse]; exact ko.n8) (fun a ha => ko.nm a (List.mem_reverse.mp ha)) ((List.reverse_perm _).nodup_iff.mpr ko.nd)
  · by_cases c : ns.tail = []
    · rw [if_pos c]
      exact one _ (by decide) (by decide) (fun a ha => by rw [List.mem_singleton.mp ha]; exact ⟨by decide, by decide, by decide⟩) (by decide)
    · rw [if_neg c]
      have := ko.n8
      have := List.length_pos_iff.mpr c
      exact one _ this (by rw [List.length_tail]; omega) (fun a ha => ko.nm a (List.mem_of_mem_tail ha)) (ko.nd.sublist (List.tail_sublist _))
  · exact ⟨by decide, by decide, by decide⟩
  · exact ⟨by decide, by decide, by decide⟩
  · exact ⟨t0, t1⟩
  · exact ⟨by omega, by omega⟩
  · exact ⟨by decide, by decide, by decide⟩
  · exact ⟨by omega, by omega, by omega⟩
theorem kds_own (h : TsOf ns ts) : ∀ k ∈ kdsOf lo mo ns m, ∀ nm, k = .own nm → nm ∈ ts.map Prod.fst := by
  intro k hk nm e
  rw [ts_fst h]
  subst e
  simp only [kdsOf, List.mem_cons, List.not_mem_nil, or_false] at hk
  rcases hk with h | h | h | h | h | h | h | h | h | h | h | h | h <;> first | (injection h with h; subst h; decide) | (cases h; done)
theorem kds_oo (ko : KdsOk lo mo ns m) (h : TsOf ns ts) : ∀ k ∈ kdsOf lo mo ns m, OwOk (ownWs ts k) := by
  obtain ⟨ws, i, e1, e2, e3, i0, i1, w1, w2, w3⟩ := ws_of h ko.nm ko.nd ko.n8
  have nil : OwOk [] := ⟨Nat.zero_le _, fun _ h => (List.not_mem_nil h).elim, List.nodup_nil⟩
  have pl : ∀ {l : List Nat}, Pl l → ∀ c ∈ l, 32 ≤ c ∧ c ≤ 126 := fun h c hc => by have := h c hc; omega
  intro k hk
  have g := kds_good ko h k hk
  simp only [kdsOf, List.mem_cons, List.not_mem_nil, or_false] at hk
  rcases hk with rfl | rfl | rfl | rfl | rfl | rfl | rfl | rfl | rfl | rfl | rfl | rfl | rfl <;> try exact nil
  · rw [e1]
    exact ⟨w2, fun w hw => ⟨List.length_pos_iff.mpr (w3 w hw).1, by have := (w3 w hw).2.2; omega, pl (w3 w hw).2.1⟩, w1⟩
  · have nd := (g.wds _ rfl).1
    rw [e2] at nd ⊢
    refine ⟨by show 2 ≤ 8; decide, fun w hw => ?_, nd⟩
    rcases List.mem_cons.mp hw with rfl | hw
    · obtain ⟨c, r, e, _⟩ := dec_sg2 i
      have := dec_short (i := i) (by omega) (by omega)
      exact ⟨by rw [e]; simp, by omega, pl (pl_dec i)⟩
    · rw [List.mem_singleton.mp hw]
      exact ⟨by decide, by decide, by decide⟩
  · rw [e3]; exact nil
theorem tried_len (ko : KdsOk lo mo ns m) (h : TsOf ns ts) : (tried ts (kdsOf lo mo ns m) ns).length ≤ 400 := by
  obtain ⟨ws, i, e1, e2, e3, i0, i1, w1, w2, w3⟩ := ws_of h ko.nm ko.nd ko.n8
  unfold tried
  rw [List.length_append, List.length_append, List.length_append, e1, e2, base_len]
  have a := numWs_len (kds_num ko)
  have b : (kdsOf lo mo ns m).length = 13 := rfl
  have := ko.n8
  show _ + _ + ws.length + 2 ≤ 400
  omega
end
/-! ### lists of texts, compared -/
theorem strs_of2 : ∀ {ys : List V} {P : Nat → Str → Prop}, (∀ i y, ys[i]? = some y → ∃ z, y = .str z ∧ P i z) → ∃ zs : List Str, ys = zs.map V.str ∧ ∀ i z, zs[i]? = some z → P i z
  | [], _, _ => ⟨[], rfl, fun i z h => by cases h⟩
  | y :: ys, P, h => by
    obtain ⟨z, rfl, hz⟩ := h 0 y rfl
    obtain ⟨zs, rfl, k⟩ := strs_of2 (ys := ys) (P := fun i z => P (i + 1) z) fun i w hw => h (i + 1) w hw
    refine ⟨z :: zs, rfl, fun i w hw => ?_⟩
    cases i with
    | zero => cases hw; exact hz
    | succ i => exact k i w hw
theorem dp_strs {K : PySem.W.Frag} {H : Hp} : ∀ zs : List Str, DpAll K H (zs.map V.str) (zs.map PyData.str)
  | [] => .nil
  | z :: zs => .cons (.str z) (dp_strs zs)
theorem ne_strs {K : PySem.W.Frag} {H : Hp} {Q : VK} {p q : Addr} {zs : List Str} (hz : ∀ z ∈ zs, ∀ c ∈ cd z, c ≤ 126) (hp : H p = some (.lst (zs.map V.str))) (hq : H q = some (.lst (zs.map V.str))) (k : Q (.bl false) H) : rNeA K (.ref p) (.ref q) H Q := by
  have sh : SeqAt.shaped (.list (zs.map PyData.str)) = true := by
    show (PyData.canLayAll0 _ && decide ((PyData.list (zs.map PyData.str)).depth ≤ 64)) = true
    have d0 : PyData.depthAll (zs.map PyData.str) ≤ 0 := depth_all fun d hd => by
      obtain ⟨z, _, rfl⟩ := List.mem_map.mp hd
      exact Nat.le_refl _
    have : (PyData.list (zs.map PyData.str)).depth ≤ 64 := by
      show PyData.depthAll _ + 1 ≤ 64
      omega
    rw [decide_eq_true this, lay_all fun d hd => ?_]
    · rfl
    · obtain ⟨z, hm, rfl⟩ := List.mem_map.mp hd
      have := lay_S (m := cd z) (hz z hm)
      rwa [show S (cd z) = z from S_of z] at this
  exact r_neD0 (.lst (SqL.of hp) (dp_strs zs)) (.lst (SqL.of hq) (dp_strs zs)) sh sh (SeqAt.eqv_refl _ (SeqAt.canLay_of_shaped sh)) k
/-! ### places, and lambdas by names -/
def es60 : List Plc := [([112, 108, 97, 99, 101, 111, 110, 101], nmW), ([112, 108, 97, 99, 101, 116, 119, 111], nmO), ([112, 108, 97, 99, 101, 102, 101, 119], nmE)]
theorem es60_ok : PlsOk es60 := ⟨by decide, by
  intro e he
  simp only [es60, List.mem_cons, List.not_mem_nil, or_false] at he
  rcases he with rfl | rfl | rfl <;> exact ⟨⟨by decide, by decide, by decide⟩, ⟨by decide, by decide, by decide⟩⟩, by decide, by decide⟩
theorem pls_of {H : Hp} : ∀ {ys : List V} {es : List Plc}, ys.length = es.length → (∀ (i : Nat) (y : V), ys[i]? = some y → ∃ (p : Addr) (e : Plc), y = V.ref p ∧ es[i]? = some e ∧ PlAt H p e) → PlsAt H ys es
  | [], [], _, _ => .nil
  | [], _ :: _, l, _ => by cases l
  | _ :: _, [], l, _ => by cases l
  | y :: ys, e :: es, l, h => by
    obtain ⟨p, e', rfl, q, k⟩ := h 0 y rfl
    cases q
    exact .cons k (pls_of (by simpa using l) fun i z hz => h (i + 1) z (by simpa using hz))
section
variable {H H' : Hp} {Pt d D : Addr} {q : Str} {W : LamW}
theorem TabS.up (t : TabS H Pt q) (ne : d ≠ Pt) (nc : ∀ φ, H d ≠ some (.ext φ)) (o : HO) : TabS (upd H d o) Pt q := by
  obtain ⟨ps, h1, h2, h3⟩ := t
  refine ⟨ps, by rw [upd_ne ne.symm]; exact h1, h2, fun pos cv hc => ?_⟩
  obtain ⟨c, e1, e2⟩ := h3 pos cv hc
  exact ⟨c, e1, by rw [upd_ne fun e => by subst e; exact nc _ e2]; exact e2⟩
/-- lists (but that at D), tuples, cells stay -/
def KeepLD (D : Addr) (H H' : Hp) : Prop := ∀ p o, p ≠ D → H p = some o → (∃ xs, o = .lst xs) ∨ (∃ xs, o = .tup xs) ∨ (∃ φ, o = .ext φ) → H' p = some o
inductive TellsD (W : LamW) (D : Addr) (H : Hp) : List (Key × V) → List TWs → Prop where
  | nil : TellsD W D H [] []
  | cons {f l : Addr} {e : TWs} {kvs : List (Key × V)} {ts : List TWs} (h : TellsAt W H f (.ref l)) (hl : H l = some (.lst (e.2.map wV))) (n : l ≠ D) (t : TellsD W D H kvs ts) : TellsD W D H ((.inr (S e.1), .ref f) :: kvs) (e :: ts)
theorem TellsAt.keepD {f : Addr} {v : V} (h : TellsAt W H f v) (k : KeepLD D H H') (nD : ∀ φ, H D ≠ some (.ext φ)) : TellsAt W H' f v :=
  let ⟨c, c', h1, h2, h3⟩ := h
  have ne : ∀ {p : Addr} {φ}, H p = some (.ext φ) → p ≠ D := fun h e => by subst e; exact nD _ h
  ⟨c, c', k _ _ (ne h1) h1 (.inr (.inr ⟨_, rfl⟩)), k _ _ (ne h2) h2 (.inr (.inr ⟨_, rfl⟩)), k _ _ (ne h3) h3 (.inr (.inr ⟨_, rfl⟩))⟩
theorem TellsD.keep (k : KeepLD D H H') (nD : ∀ φ, H D ≠ some (.ext φ)) : ∀ {kvs : List (Key × V)} {ts : List TWs}, TellsD W D H kvs ts → TellsD W D H' kvs ts
  | _, _, .nil => .nil
  | _, _, .cons h hl n t => .cons (h.keepD k nD) (k _ _ n hl (.inl ⟨_, rfl⟩)) n (t.keep k nD)
theorem TellsD.snoc {f l : Addr} {e : TWs} (h : TellsAt W H f (.ref l)) (hl : H l = some (.lst (e.2.map wV))) (n : l ≠ D) : ∀ {kvs : List (Key × V)} {ts : List TWs}, TellsD W D H kvs ts → TellsD W D H (kvs ++ [(.inr (S e.1), .ref f)]) (ts ++ [e])
  | _, _, .nil => .cons h hl n .nil
  | _, _, .cons a b c t => .cons a b c (t.snoc h hl n)
theorem TellsD.all : ∀ {kvs : List (Key × V)} {ts : List TWs}, TellsD W D H kvs ts → TellsL W H kvs ts
  | _, _, .nil => .nil
  | _, _, .cons h hl _ t => .cons h hl t.all
theorem KeepLD.upD (o : HO) : KeepLD D H (upd H D o) := fun p u n h _ => by rw [upd_ne n]; exact h
theorem KeepLD.of (k : KeepL H H') : KeepLD D H H' := fun p o _ h z => k p o h z
theorem KeepLD.trans {H1 : Hp} (a : KeepLD D H H1) (b : KeepLD D H1 H') : KeepLD D H H' := fun p o n h k => b p o n (a p o n h k) k
/-- what is no list, no tuple, no cell is put anew -/
theorem KeepL.up (n : ∀ o, H d = some o → (∀ xs, o ≠ .lst xs) ∧ (∀ xs, o ≠ .tup xs) ∧ ∀ φ, o ≠ .ext φ) (o : HO) : KeepL H (L2.upd H d o) := fun p u h k => by
  rw [upd_ne fun e => by
    subst e
    obtain ⟨a, b, c⟩ := n _ h
    rcases k with ⟨_, z⟩ | ⟨_, z⟩ | ⟨_, z⟩
    · exact a _ z
    · exact b _ z
    · exact c _ z]
  exact h
end
theorem strs_eq : ∀ {zs ws : List Str}, zs.length = ws.length → (∀ (i : Nat) (z w : Str), zs[i]? = some z → ws[i]? = some w → z = w) → zs = ws
  | [], [], _, _ => rfl
  | [], _ :: _, l, _ => by cases l
  | _ :: _, [], l, _ => by cases l
  | z :: zs, w :: ws, l, h => by
    have e : z = w := h 0 z w rfl rfl
    have e2 : zs = ws := strs_eq (by simpa using l) fun i a b ha hb => h (i + 1) a b (by simpa using ha) (by simpa using hb)
    rw [e, e2]
/-- a text and a thing, shown -/
theorem dd_pair {H : Hp} {b p : Addr} {z : Str} {x : V} {d : PyData} (hz : z.length ≤ 1000) (cz : ∀ c ∈ cd z, c ≤ 126) (hx : Dd b H x d) (w : wt d ≤ 10000) (dp : d.depth ≤ 10) (hp : H p = some (.lst [.str z, x])) (ne : p ≠ b) :
    Dd b H (.ref p) (.list [.str z, d]) ∧ wt (.list [.str z, d]) ≤ 1000000 ∧ (PyData.list [.str z, d]).depth ≤ 60 := by
  refine ⟨.lst hp ne (.cons (.str _ hz cz) (.cons hx .nil)), ?_, ?_⟩
  · rw [wt, wtAll, wtAll, wtAll, wt]; omega
  · show PyData.depthAll _ + 1 ≤ 60
    have : PyData.depthAll [PyData.str z, d] ≤ 10 := depth_all fun e he => by
      rcases List.mem_cons.mp he with rfl | he
      · exact Nat.zero_le _
      · rw [List.mem_singleton.mp he]; exact dp
    omega
theorem odd60 {H : Hp} {b o1 o2 o3 o4 o5 o6 o7 : Addr} (h1 : H o1 = some (.tup [.str "text", .int 0])) (h2 : H o2 = some (.tup [.str "text", .int 21])) (h3 : H o3 = some (.lst [.str "name"])) (n3 : o3 ≠ b) (h4 : H o4 = some (.tup [])) (h5 : H o5 = some (.tup [.str "one", .ref o4])) (h6 : H o6 = some (.tup [.str "name", .int 1])) (h7 : H o7 = some (.tup [.str "number", .int 2, .int 1])) {u : Int} (u0 : 0 ≤ u) (u1 : u < 9) :
    ∃ x, atI [V.non, .int 5, .ref o1, .ref o2, .ref o3, .ref o5, .ref o6, .str "name", .ref o7] u = some x ∧ OddK H x ∧ ∃ dx, Dd b H x dx ∧ wt dx ≤ 10000 ∧ dx.depth ≤ 10 := by
  have nm : Dd b H (.str "name") (.str "name") := .str _ (by decide) (by decide +kernel)
  have tx : Dd b H (.str "text") (.str "text") := .str _ (by decide) (by decide +kernel)
  have on : Dd b H (.str "one") (.str "one") := .str _ (by decide) (by decide +kernel)
  have nu : Dd b H (.str "number") (.str "number") := .str _ (by decide) (by decide +kernel)
  rcases (show u = 0 ∨ u = 1 ∨ u = 2 ∨ u = 3 ∨ u = 4 ∨ u = 5 ∨ u = 6 ∨ u = 7 ∨ u = 8 by omega) with rfl | rfl | rfl | rfl | rfl | rfl | rfl | rfl | rfl
  · exact ⟨_, rfl, .non, _, .non, by decide +kernel, by decide +kernel⟩
  · exact ⟨_, rfl, .int 5, _, .int 5 (by decide), by decide +kernel, by decide +kernel⟩
  · exact ⟨_, rfl, .txt h1 (by decide) (.inl (by decide)), _, .tup h1 (.cons tx (.cons (.int _ (by decide)) .nil)), by decide +kernel, by decide +kernel⟩
  · exact ⟨_, rfl, .txt h2 (by decide) (.inr (by decide)), _, .tup h2 (.cons tx (.cons (.int _ (by decide)) .nil)), by decide +kernel, by decide +kernel⟩
  · exact ⟨_, rfl, .lst h3, _, .lst h3 n3 (.cons nm .nil), by decide +kernel, by decide +kernel⟩
  · exact ⟨_, rfl, .one h5 h4, _, .tup h5 (.cons on (.cons (.tup h4 .nil) .nil)), by decide +kernel, by decide +kernel⟩
  · exact ⟨_, rfl, .nam h6, _, .tup h6 (.cons nm (.cons (.int _ (by decide)) .nil)), by decide +kernel, by decide +kernel⟩
  · exact ⟨_, rfl, .str _, _, nm, by decide +kernel, by decide +kernel⟩
  · exact ⟨_, rfl, .num h7, _, .tup h7 (.cons nu (.cons (.int _ (by decide)) (.cons (.int _ (by decide)) .nil))), by decide +kernel, by decide +kernel⟩
/-- what is no grammar, drawn -/
theorem bad60 {H : Hp} {b r : Addr} (root : RootAt H r es60) {u : Int} (u0 : 0 ≤ u) (u1 : u < 4) :
    ∃ y, atI [V.non, .str "tool", .ref r, .int 7] u = some y ∧ NotGr6 H y ∧ ∃ dy, Dd b H y dy ∧ wt dy ≤ 10000 ∧ dy.depth ≤ 10 := by
  rcases (show u = 0 ∨ u = 1 ∨ u = 2 ∨ u = 3 by omega) with rfl | rfl | rfl | rfl
  · exact ⟨_, rfl, .non, _, .non, by decide +kernel, by decide +kernel⟩
  · exact ⟨_, rfl, .str _, _, .str "tool" (by decide) (by decide +kernel), by decide +kernel, by decide +kernel⟩
  · obtain ⟨d, h1, h2, h3⟩ := root_dd (b := b) root (by decide) es60_ok.2.1
    obtain ⟨_, _, _, _, _, e, _⟩ := root.ex
    exact ⟨_, rfl, .tup e, d, h1, h2, h3⟩
  · exact ⟨_, rfl, .int 7, _, .int 7 (by decide), by decide +kernel, by decide +kernel⟩
end J
namespace K60
open PySem PySem.Spec PyProof.Rows L2 J M
local macro_rules | `(tactic| walk_at "hp") => `(tactic| first | assumption | exact upd_same | (rw [upd_ne (by assumption)]; walk_at "hp") | (rw [upd_ne (Ne.symm (by assumption))]; walk_at "hp"))
local macro_rules | `(tactic| walk_at "s") => `(tactic| first
  | ((with_reducible refine' r_var ?h ?k); (case h => exact rfl))
  | (with_reducible refine r_c ?_)
  | (with_reducible refine r_op ?_)
  | (with_reducible refine r_un ?_)
  | (with_reducible refine r_seq ?_)
  | (with_reducible refine r_next ?_)
  | (with_reducible refine r_sets ?_)
  | (with_reducible refine r_gname ?_)
  | (with_reducible refine r_ifS ?_)
  | (with_reducible refine r_gsub ?_)
  | (with_reducible refine r_test ?_)
  | (with_reducible refine r_tb ?_)
  | (with_reducible refine r_not ?_)
  | (with_reducible refine r_and ?_)
  | (with_reducible refine r_or ?_)
  | (with_reducible refine r_andV ?_)
  | (with_reducible refine r_orV ?_)
  | (with_reducible refine r_notV ?_)
  | (with_reducible refine r_ifE ?_)
  | (with_reducible refine r_chain ?_)
  | (with_reducible refine r_cb ?_)
  | (with_reducible refine r_cons ?_)
  | (with_reducible refine r_nil ?_)
  | (with_reducible refine r_call ?_)
  | (with_reducible refine r_lst ?_)
  | (with_reducible refine r_tup ?_)
  | (with_reducible refine r_slice ?_)
  | (with_reducible refine r_nop ?_)
  | (with_reducible refine r_part ?_)
  | (with_reducible refine r_bm ?_)
  | (with_reducible refine r_m1 ?_)
  | (with_reducible refine r_m0 ?_)
  | (with_reducible refine r_is ?_)
  | (with_reducible refine r_maxD ?_)
  | (with_reducible refine r_orT ?_)
  | (with_reducible refine r_truN ?_)
  | (with_reducible refine r_intI ?_)
  | (with_reducible refine r_intB ?_)
  | (with_reducible refine r_max2 ?_)
  | (with_reducible refine r_min2 ?_)
  | (with_reducible refine r_yes ?_)
  | (with_reducible refine r_bl ?_)
  | (with_reducible refine iteT ?_)
  | (with_reducible refine iteF ?_)
  | (with_reducible refine r_iteNT ?_)
  | (with_reducible refine r_iteNF ?_)
  | (with_reducible refine r_minL ?_)
  | (with_reducible refine r_gcons ?_)
  | (with_reducible refine r_gnil ?_)
  | (with_reducible refine r_par ?_)
  | (with_reducible refine r_par3 ?_)
  | (with_reducible refine r_is2 ?_)
  | (with_reducible refine r_is3 ?_)
  | (with_reducible refine r_dget ?_)
  | (with_reducible refine r_callS ?_)
  | (with_reducible refine r_rz ?_)
  | (with_reducible refine r_rev ?_)
  | (with_reducible refine r_isI ?_)
  | (with_reducible refine r_isStr ?_)
  | (with_reducible refine r_ret ?_)
  | (with_reducible refine r_drop ?_)
  | (with_reducible refine r_rI0 ?_)
  | (with_reducible refine r_addI ?_)
  | ((with_reducible show rI (fun _ j => 0 < j) _ (.int _) (.int _) _ _); refine r_rI (by first | omega | decide) ?_)
  | ((with_reducible show rI CDiv _ (.int _) (.int _) _ _); refine r_rI (by constructor <;> omega) ?_)
  | ((with_reducible show rI CPow _ (.int _) (.int _) _ _); refine r_rI (by refine ⟨by decide, by decide, ?_⟩; omega) ?_)
  | ((with_reducible show rMul (.int _) (.int _) _ _); refine r_mulI (cmulW (by omega) (by omega)) ?_)
  | (with_reducible refine r_cmpI ?_)
  | (with_reducible refine r_cmpS ?_)
  | (with_reducible refine r_eqI ?_)
  | (with_reducible refine r_neI ?_)
  | (with_reducible refine r_eqS ?_)
  | (with_reducible refine r_neS ?_)
  | (with_reducible refine r_inSF ?_)
  | (with_reducible refine r_inST ?_)
  | (with_reducible refine r_isiStr ?_)
  | ((with_reducible show rIx _ (.ref _) (.int _) _ _); refine' r_ixL (SqL.of ?h) ?e ?_; (case h => walk_at "hp"); (case e => rfl))
  | ((with_reducible show rSetL (.ref _) (.int _) _ _ _); refine' r_setL ?h ?e ?_; (case h => walk_at "hp"); (case e => rfl)))
local macro_rules | `(tactic| walk_at "g") => `(tactic| repeat walk_at "s")
local macro_rules | `(tactic| walk_at "x") => `(tactic| first | omega | decide +kernel | (simp only [List.length_cons, List.length_nil]; omega))
local macro_rules | `(tactic| walk_at "T") => `(tactic| repeat (first
  | walk_at "s"
  | ((with_reducible show rIx _ (.ref _) (.int _) _ _); refine' r_ixTu (SqT.of ?h) ?e ?_; (case h => first | assumption | walk_at "hp"); (case e => rfl))
  | (with_reducible refine r_lenSet ?_)
  | (with_reducible refine r_asg2 ?_)
  | (with_reducible refine iteDT (by walk_at "x") ?_)
  | (with_reducible refine iteDF (by walk_at "x") ?_)
  | (with_reducible refine iteNT (by walk_at "x") ?_)
  | (with_reducible refine iteNF (by walk_at "x") ?_)))
section
variable {P : Program} {w : World} {K : PySem.W.Frag} {mg : Str → Option Value} {base : Heap}
abbrev s_Grammar_root : Stmt := inClass (topS 89) 1
abbrev N_Grammar_root : List Str := ["self"]
abbrev P_Grammar_root : List Str := ["self"]
theorem sc_Grammar_root : FnScope N_Grammar_root P_Grammar_root (defScope s_Grammar_root) := ⟨rfl, rfl, rfl, by decide +kernel, rfl, by decide +kernel, by decide +kernel⟩
open LamX NdefX
theorem ok_root (T : Tx K mg) {C : Addr} (GC : GrC K C) {f : Addr} {fd : FuncData} (F : Fun K "root" "Grammar.root" s_Grammar_root f fd) : FnOk P w K mg base CX0 1 f fd P_Grammar_root (spRoot60 C) := by
  refine F.ok sc_Grammar_root (fun vs H Q E h => ?_) (fun cdv A outer s H vs Q E hr h => ?_)
  · obtain ⟨g, r, ts, rfl, _⟩ := h
    rfl
  · obtain ⟨g, r, ts, rfl, gp, k⟩ := h
    refine ⟨_, (pss_one (ps_ret (asFld (K := K) rfl (pe_fld (pv 0) rfl)))), ?_⟩
    obtain ⟨dx, t, dc, dw, qs, hg, hw, wl⟩ := gp.ex
    walk_at "T"
    refine r_fld ?_
    walk_at "T"
    refine ⟨g, C, dx, _, .ref r, rfl, hg, GC.cls, GC.root, rfl, ?_⟩
    exact k
theorem ok_law (T : Tx K mg) (RK : Rks K w mg) {CG CK CX Pt cdt : Addr} (TQ : TQ60 K CK CX) (GI : GIs6 K CG) (GC : GrC K CG) (L_Grammar : mg "Grammar" = some (.ref CG)) (O_NoKind : OE P w K mg base "NoKind" "found" CK) (O_NoGrammar : OE P w K mg base "NoGrammar" "found" CX) {f_Grammar_init : Addr} {fd_Grammar_init : FuncData} (D_Grammar_init : IKt K mg "Grammar" "Grammar.__init__" s_Grammar_init P_Grammar_init CG f_Grammar_init fd_Grammar_init)
    {f_worth_of : Addr} {fd_worth_of : FuncData} (D_worth_of : DKwo K mg "worth_of" s_worth_of P_worth_of f_worth_of fd_worth_of) {f f_is_name f_are_unlike f_is_whole f_are_bounds f_are_choices f_is_kind f_begins_with_name f_has_place_form f_are_in_order f_are_places f_is_tuple_to f_has_command_form f_refuse_twice f_own_names f_asked f_refuse_group f_look_at_fitting f_refuse_deep f_fitted f_is_table f_own_name f_words_of f_table_with f_table_of f_look_at_kinds f_are_own_words f_is_word f_are_signs f_fits f_number_in f_are_figures f_law_box f_law_cell f_law_take f_law_names f_law_kinds f_law_teller f_law_tables f_law_due f_law_tried f_law_worths f_law_refused f_Grammar_own_words f_Grammar_root : Addr} {fd fd_is_name fd_are_unlike fd_is_whole fd_are_bounds fd_are_choices fd_is_kind fd_begins_with_name fd_has_place_form fd_are_in_order fd_are_places fd_is_tuple_to fd_has_command_form fd_refuse_twice fd_own_names fd_asked fd_refuse_group fd_look_at_fitting fd_refuse_deep fd_fitted fd_is_table fd_own_name fd_words_of fd_table_with fd_table_of fd_look_at_kinds fd_are_own_words fd_is_word fd_are_signs fd_fits fd_number_in fd_are_figures fd_law_box fd_law_cell fd_law_take fd_law_names fd_law_kinds fd_law_teller fd_law_tables fd_law_due fd_law_tried fd_law_worths fd_law_refused fd_Grammar_own_words fd_Grammar_root : FuncData} (F : Fun K "law" "law" s_law f fd)
    (D_is_name : DAt K mg "is_name" s_is_name P_is_name f_is_name fd_is_name)
    (D_are_unlike : DAt K mg "are_unlike" s_are_unlike P_are_unlike f_are_unlike fd_are_unlike)
    (D_is_whole : DAt K mg "is_whole" s_is_whole P_is_whole f_is_whole fd_is_whole)
    (D_are_bounds : DAt K mg "_are_bounds" s_are_bounds P_are_bounds f_are_bounds fd_are_bounds)
    (D_are_choices : DAt K mg "_are_choices" s_are_choices P_are_choices f_are_choices fd_are_choices)
    (D_is_kind : DAt K mg "is_kind" s_is_kind P_is_kind f_is_kind fd_is_kind)
    (D_begins_with_name : DAt K mg "begins_with_name" s_begins_with_name P_begins_with_name f_begins_with_name fd_begins_with_name)
    (D_has_place_form : DAt K mg "has_place_form" s_has_place_form P_has_place_form f_has_place_form fd_has_place_form)
    (D_are_in_order : DAt K mg "_are_in_order" s_are_in_order P_are_in_order f_are_in_order fd_are_in_order)
    (D_are_places : DAt K mg "_are_places" s_are_places P_are_places f_are_places fd_are_places)
    (D_is_tuple_to : DAt K mg "_is_tuple_to" s_is_tuple_to P_is_tuple_to f_is_tuple_to fd_is_tuple_to)
    (D_has_command_form : DAt K mg "has_command_form" s_has_command_form P_has_command_form f_has_command_form fd_has_command_form)
    (D_refuse_twice : DAt K mg "_refuse_twice" s_refuse_twice P_refuse_twice f_refuse_twice fd_refuse_twice)
    (D_own_names : DAt K mg "_own_names" s_own_names P_own_names f_own_names fd_own_names)
    (D_asked : DAt K mg "asked" s_asked P_asked f_asked fd_asked)
    (D_refuse_group : DAt K mg "_refuse_group" s_refuse_group P_refuse_group f_refuse_group fd_refuse_group)
    (D_look_at_fitting : DAl K mg "look_at_fitting" "_look_at" s_look_at_fitting P_look_at_fitting f_look_at_fitting fd_look_at_fitting)
    (D_refuse_deep : DAt K mg "_refuse_deep" s_refuse_deep P_refuse_deep f_refuse_deep fd_refuse_deep)
    (D_fitted : DAt K mg "fitted" s_fitted P_fitted f_fitted fd_fitted)
    (D_is_table : DAt K mg "is_table" s_is_table P_is_table f_is_table fd_is_table)
    (D_own_name : DAt K mg "own_name" s_own_name P_own_name f_own_name fd_own_name)
    (D_words_of : DAt K mg "words_of" s_words_of P_words_of f_words_of fd_words_of)
    (D_table_with : DAt K mg "table_with" s_table_with P_table_with f_table_with fd_table_with)
    (D_table_of : DAt K mg "table_of" s_table_of P_table_of f_table_of fd_table_of)
    (D_look_at_kinds : DAl K mg "look_at_kinds" "_look_at" s_look_at_kinds P_look_at_kinds f_look_at_kinds fd_look_at_kinds)
    (D_are_own_words : DAt K mg "are_own_words" s_are_own_words P_are_own_words f_are_own_words fd_are_own_words)
    (D_is_word : DAt K mg "is_word" s_is_word P_is_word f_is_word fd_is_word)
    (D_are_signs : DAt K mg "are_signs" s_are_signs P_are_signs f_are_signs fd_are_signs)
    (D_fits : DAt K mg "fits" s_fits P_fits f_fits fd_fits)
    (D_number_in : DAt K mg "number_in" s_number_in P_number_in f_number_in fd_number_in)
    (D_are_figures : DAt K mg "_are_figures" s_are_figures P_are_figures f_are_figures fd_are_figures)
    (D_law_box : DAt K mg "_law_box" s_law_box P_law_box f_law_box fd_law_box)
    (D_law_cell : DAt K mg "_law_cell" s_law_cell P_law_cell f_law_cell fd_law_cell)
    (D_law_take : DAt K mg "_law_take" s_law_take P_law_take f_law_take fd_law_take)
    (D_law_names : DAt K mg "_law_names" s_law_names P_law_names f_law_names fd_law_names)
    (D_law_kinds : DAt K mg "_law_kinds" s_law_kinds P_law_kinds f_law_kinds fd_law_kinds)
    (D_law_teller : DAt K mg "_law_teller" s_law_teller P_law_teller f_law_teller fd_law_teller)
    (D_law_tables : DAt K mg "_law_tables" s_law_tables P_law_tables f_law_tables fd_law_tables)
    (D_law_due : DAt K mg "_law_due" s_law_due P_law_due f_law_due fd_law_due)
    (D_law_tried : DAt K mg "_law_tried" s_law_tried P_law_tried f_law_tried fd_law_tried)
    (D_law_worths : DAt K mg "_law_worths" s_law_worths P_law_worths f_law_worths fd_law_worths)
    (D_law_refused : DAt K mg "_law_refused" s_law_refused P_law_refused f_law_refused fd_law_refused)
    (D_Grammar_own_words : MAt K CG "own_words" "Grammar.own_words" s_Grammar_own_words P_Grammar_own_words f_Grammar_own_words fd_Grammar_own_words)
    (D_Grammar_root : MAt K CG "root" "Grammar.root" s_Grammar_root P_Grammar_root f_Grammar_root fd_Grammar_root)
    (hcT : fd_law_teller.code = .ref cdt) (TB : TabB base mg cdt Pt) : FnG P w K mg base CX0 12 f fd P_law (spLaw60 K Pt WT.qual) := by
  have M_Grammar_own_words := D_Grammar_own_words.me
  have B_Grammar_own_words := D_Grammar_own_words.bd
  have M_Grammar_root := D_Grammar_root.me
  have B_Grammar_root := D_Grammar_root.bd
  have K_Grammar := D_Grammar_init.mak
  have B_Grammar_init := D_Grammar_init.bK
  have C_Grammar := GC.cls
  have G_law_box : FnOk P w K mg base CX0 1 f_law_box fd_law_box P_law_box spBox := ok_box T D_law_box.fn
  have G_law_cell : FnOk P w K mg base CX0 1 f_law_cell fd_law_cell P_law_cell (_root_.J.spCell K) := ok_cell T D_law_cell.fn
  have G_law_take : FnOk P w K mg base CX0 1 f_law_take fd_law_take P_law_take spTake := ok_take D_law_take.fn
  have G_law_kinds : FnOk P w K mg base CX0 3 f_law_kinds fd_law_kinds P_law_kinds spKinds60 := ok_kinds T D_law_kinds.fn D_law_take D_law_names
  have G_law_tables : FnOk P w K mg base CX0 2 f_law_tables fd_law_tables P_law_tables spTables := ok_tables T D_law_tables.fn D_law_take
  have G_law_due : FnOk P w K mg base CX0 1 f_law_due fd_law_due P_law_due spDue60 := ok_due T D_law_due.fn
  have G_law_tried : FnOk P w K mg base CX0 1 f_law_tried fd_law_tried P_law_tried spTried60 := ok_tried T D_law_tried.fn
  have G_law_teller : FnOk P w K mg base CX0 2 f_law_teller fd_law_teller P_law_teller (spTell Pt WT) := ok_teller D_law_teller.fn hcT TB
  have G_Grammar_init : FnOk P w K mg base CX0 9 f_Grammar_init fd_Grammar_init P_Grammar_init (spGramP WT CG) := ok_gram T RK (lam_ok T) GC D_Grammar_init.fn D_is_name D_are_unlike D_is_whole D_are_bounds D_are_choices D_is_kind D_begins_with_name D_has_place_form D_are_in_order D_are_places D_is_tuple_to D_has_command_form D_refuse_twice D_own_names D_asked D_refuse_group D_look_at_fitting D_refuse_deep D_fitted D_is_table
  have G_table_of : FnOk P w K mg base (L2.CX P w) 5 f_table_of fd_table_of P_table_of (spTabOf CG CK CX) := ok_tab_of T GI GC L_Grammar O_NoKind O_NoGrammar D_table_of.fn D_is_name D_are_unlike D_is_whole D_are_bounds D_are_choices D_is_kind D_own_name D_words_of D_table_with D_Grammar_own_words
  have G_law_refused : FnOk P w K mg base CX0 6 f_law_refused fd_law_refused P_law_refused (spRefsd CG) := ok_refused T TQ GI GC L_Grammar O_NoKind O_NoGrammar D_law_refused.fn D_is_name D_are_unlike D_is_whole D_are_bounds D_are_choices D_is_kind D_own_name D_words_of D_table_with D_table_of D_Grammar_own_words
  have G_Grammar_root : FnOk P w K mg base CX0 1 f_Grammar_root fd_Grammar_root P_Grammar_root (spRoot60 CG) := ok_root T GC D_Grammar_root.fn
  have G_law_worths : FnG P w K mg base CX0 6 f_law_worths fd_law_worths P_law_worths spWorths60 := ok_worths T D_worth_of D_law_worths.fn D_look_at_kinds D_is_kind D_are_own_words D_is_name D_are_unlike D_is_whole D_are_bounds D_are_choices D_is_word D_are_signs D_fits D_number_in D_are_figures
  refine fun_g F sc_law (fun vs H Q E h => ?_) (fun cdv A outer s H vs Q E hg hr h => ?_)
  · obtain ⟨a, ns, rfl, _⟩ := h
    rfl
  · obtain ⟨a, ns, rfl, ha, hn, tab0, k⟩ := h
    refine ⟨_, (pss_cons (ps_for (PassesOwn.never) rfl (pi_range1 rfl T.z_range (pa_cons (pe_callB (call_maxA rfl) (by rfl) T.z_max (by decide +kernel) (pa_cons pe_int (pa_cons (pe_callB (call_minA rfl) (by rfl) T.z_min (by decide +kernel) (pa_cons pe_int (pa_cons (pe_callB (call_lenA : CallR _ _ (J.rLen K)) (by rfl) T.z_len (by decide +kernel) (pa_cons (pv 0) pa_nil)) pa_nil))) pa_nil))) pa_nil)) (pg_name (i := 1) sc_law.nd rfl (Or.inl rfl)) (pss_cons (ps_set (i := 2) sc_law.nd rfl (Or.inl rfl) (pe_call G_law_box (hr.mono (by decide)) rfl D_law_box.gl D_law_box.fn.kp D_law_box.bd .nil pass0 (pa_cons (pe_call G_law_cell (hr.mono (by decide)) rfl D_law_cell.gl D_law_cell.fn.kp D_law_cell.bd .nil pass0 (pa_cons (pv 0) (pa_cons (pv 1) pa_nil))) pa_nil))) (pss_cons (ps_asg (pe_call G_law_kinds (hr.mono (by decide)) rfl D_law_kinds.gl D_law_kinds.fn.kp D_law_kinds.bd .nil pass0 (pa_cons (pv 2) pa_nil)) (asGTup (K := K) rfl (pg_tup rfl (pgs_cons (pg_name (i := 3) sc_law.nd rfl (Or.inl rfl)) (pgs_cons (pg_name (i := 4) sc_law.nd rfl (Or.inl rfl)) pgs_nil))))) (pss_cons (ps_set (i := 5) sc_law.nd rfl (Or.inr rfl) (pe_call G_law_tables (hr.mono (by decide)) rfl D_law_tables.gl D_law_tables.fn.kp D_law_tables.bd .nil pass0 (pa_cons (pv 2) (pa_cons (pv 4) pa_nil)))) (pss_cons (ps_set (i := 6) sc_law.nd rfl (Or.inl rfl) (pe_callTy (call_tupA : CallR _ _ (rTupOf K)) (by rfl) T.z_tuple (by decide +kernel) (pa_cons (pe_lc (own := [("_law_k", 1)]) (g := (gName 1)) rfl sc_law.nd (pi_range1 rfl T.z_range (pa_cons pe_int pa_nil)) (blkOk_by (N := N_law) (sc := defScope s_law) (by decide +kernel)) (fun _ _ _ _ _ => (pg_name (i := 1) sc_law.nd rfl (Or.inl rfl))) (fun _ _ _ _ _ => pts_nil) (fun _ _ _ _ _ => (pe_tup (pa_cons (pe_op (oAdd : OpR _ _ (J.rAdd K)) pe_str (pe_ix (ix_seq : IxR _ (rIx K)) (pe_lst (pa_cons pe_str (pa_cons pe_str (pa_cons pe_str (pa_cons pe_str pa_nil))))) (pv 1) (fun _ _ => rfl))) (pa_cons (pe_tup (pa_cons pe_str (pa_cons (pe_ix (ix_seq : IxR _ (rIx K)) pe_str (pv 1) (fun _ _ => rfl)) pa_nil))) (pa_cons pe_str pa_nil)))))) pa_nil))) (pss_cons (ps_set (i := 7) sc_law.nd rfl (Or.inr rfl) (pe_makeN K_Grammar G_Grammar_init (hr.mono (by decide)) rfl L_Grammar B_Grammar_init pass0 (pa_cons (pe_tup (pa_cons pe_str (pa_cons (pe_tup pa_nil) (pa_cons (pv 6) (pa_cons (pe_tup pa_nil) (pa_cons (pe_tup pa_nil) pa_nil)))))) pa_nil) (pk_cons (pe_callTy ((call_dictA rfl) : CallR _ _ (rDictP K)) (by rfl) T.z_dict (by decide +kernel) (pa_cons (pe_lock (pe_lc (own := [("_law_name", 17)]) (g := (gName 17)) rfl sc_law.nd (pi_keys (pv 5)) (blkOk_by (N := N_law) (sc := defScope s_law) (by decide +kernel)) (fun _ _ _ _ _ => (pg_name (i := 17) sc_law.nd rfl (Or.inl rfl))) (fun _ _ _ _ _ => pts_nil) (fun _ _ _ _ _ => (pe_tup (pa_cons (pv 17) (pa_cons (pe_call G_law_teller (hr.mono (by decide)) rfl D_law_teller.gl D_law_teller.fn.kp D_law_teller.bd .nil pass0 (pa_cons (pe_dget (hu_of hr) (pv 5) (pv 17) (fun _ _ => rfl)) pa_nil)) pa_nil)))))) pa_nil)) pk_nil))) (pss_cons (ps_set (i := 8) sc_law.nd rfl (Or.inr rfl) (pe_call G_law_tried (hr.mono (by decide)) rfl D_law_tried.gl D_law_tried.fn.kp D_law_tried.bd .nil pass0 (pa_cons (pv 3) (pa_cons (pv 5) (pa_cons (pv 4) pa_nil))))) (pss_cons (ps_setLc (i := 9) (own := [("_law_kind", 15)]) (g := (gName 15)) rfl sc_law.nd rfl rfl (sw_true rfl rfl rfl (by decide +kernel)) (asList (K := K) rfl (pi_list (pv 3))) (blkOk_by (N := N_law) (sc := defScope s_law) (by decide +kernel)) (fun _ _ _ _ _ => (pg_name (i := 15) sc_law.nd rfl (Or.inl rfl))) (fun _ _ _ _ _ => pts_nil) (fun _ _ _ _ _ => (pe_tup (pa_cons (pe_callB (call_reprD hg hr.units) (by rfl) T.z_repr (by decide +kernel) (pa_cons (pe_callS (E := NoX) G_table_of (hr.mono (by decide)) rfl D_table_of.gl D_table_of.fn.kp D_table_of.bd noX_at (by exact (pa_cons (pv 7) (pa_cons (pv 15) pa_nil)))) pa_nil)) (pa_cons (pe_callG G_law_worths hg (hr.mono (by decide)) rfl D_law_worths.gl D_law_worths.fn.kp D_law_worths.bd .nil pass0 (pa_cons (pv 15) (pa_cons (pv 5) (pa_cons (pv 8) pa_nil)))) pa_nil))))) (pss_cons (ps_if (pt_cmpR ((op_neA hr.units) : OpR _ _ (rNeA K)) (pe_lc (own := [("_law_row", 16)]) (g := (gName 16)) rfl sc_law.nd (asList (K := K) rfl (pi_list (pv 9))) (blkOk_by (N := N_law) (sc := defScope s_law) (by decide +kernel)) (fun _ _ _ _ _ => (pg_name (i := 16) sc_law.nd rfl (Or.inl rfl))) (fun _ _ _ _ _ => pts_nil) (fun _ _ _ _ _ => (pe_ix (ix_seq : IxR _ (rIx K)) (pv 16) pe_int (fun _ _ => rfl)))) (pe_lc (own := [("_law_kind", 15)]) (g := (gName 15)) rfl sc_law.nd (asList (K := K) rfl (pi_list (pv 3))) (blkOk_by (N := N_law) (sc := defScope s_law) (by decide +kernel)) (fun _ _ _ _ _ => (pg_name (i := 15) sc_law.nd rfl (Or.inl rfl))) (fun _ _ _ _ _ => pts_nil) (fun _ _ _ _ _ => (pe_callB (call_reprD hg hr.units) (by rfl) T.z_repr (by decide +kernel) (pa_cons (pe_call G_law_due (hr.mono (by decide)) rfl D_law_due.gl D_law_due.fn.kp D_law_due.bd .nil pass0 (pa_cons (pv 15) (pa_cons (pv 5) pa_nil))) pa_nil)))) (nomark _)) (pss_one (ps_ret pe_bl)) pss_nil) (pss_cons (ps_for (PassesOwn.never) rfl (asList (K := K) rfl (pi_list (pv 9))) (pg_name (i := 10) sc_law.nd rfl (Or.inl rfl)) (pss_one (ps_for (PassesOwn.never) rfl (asList (K := K) rfl (pi_list (pv 9))) (pg_name (i := 11) sc_law.nd rfl (Or.inl rfl)) (pss_one (ps_if (pt_cmpR ((op_neA hr.units) : OpR _ _ (rNeA K)) (pe_cmpR ((op_eqA hr.units) : OpR _ _ (rEqA K)) (pe_ix (ix_seq : IxR _ (rIx K)) (pv 10) pe_int (fun _ _ => rfl)) (pe_ix (ix_seq : IxR _ (rIx K)) (pv 11) pe_int (fun _ _ => rfl)) (nomark _)) (pe_cmpR ((op_eqA hr.units) : OpR _ _ (rEqA K)) (pe_ix (ix_seq : IxR _ (rIx K)) (pv 10) pe_int (fun _ _ => rfl)) (pe_ix (ix_seq : IxR _ (rIx K)) (pv 11) pe_int (fun _ _ => rfl)) (nomark _)) (nomark _)) (pss_one (ps_ret pe_bl)) pss_nil))))) (pss_cons (ps_set (i := 12) sc_law.nd rfl (Or.inl rfl) (pe_lst (pa_cons pe_non (pa_cons pe_int (pa_cons (pe_tup (pa_cons pe_str (pa_cons pe_int pa_nil))) (pa_cons (pe_tup (pa_cons pe_str (pa_cons pe_int pa_nil))) (pa_cons (pe_lst (pa_cons pe_str pa_nil)) (pa_cons (pe_tup (pa_cons pe_str (pa_cons (pe_tup pa_nil) pa_nil))) (pa_cons (pe_tup (pa_cons pe_str (pa_cons pe_int pa_nil))) (pa_cons pe_str (pa_cons (pe_tup (pa_cons pe_str (pa_cons pe_int (pa_cons pe_int pa_nil)))) pa_nil))))))))))) (pss_cons (ps_set (i := 13) sc_law.nd rfl (Or.inl rfl) (pe_ix (ix_seq : IxR _ (rIx K)) (pv 12) (pe_call G_law_take (hr.mono (by decide)) rfl D_law_take.gl D_law_take.fn.kp D_law_take.bd .nil pass0 (pa_cons (pv 2) (pa_cons pe_int pa_nil))) (fun _ _ => rfl))) (pss_cons (ps_set (i := 14) sc_law.nd rfl (Or.inl rfl) (pe_ix (ix_seq : IxR _ (rIx K)) (pe_lst (pa_cons pe_non (pa_cons pe_str (pa_cons (pe_meth0 (pv 7) C_Grammar M_Grammar_root G_Grammar_root (hr.mono (by decide)) B_Grammar_root .nil pass0) (pa_cons pe_int pa_nil))))) (pe_call G_law_take (hr.mono (by decide)) rfl D_law_take.gl D_law_take.fn.kp D_law_take.bd .nil pass0 (pa_cons (pv 2) (pa_cons pe_int pa_nil))) (fun _ _ => rfl))) (pss_cons (ps_if (pt_cmpR ((op_neA hr.units) : OpR _ _ (rNeA K)) (pe_callB (call_reprD hg hr.units) (by rfl) T.z_repr (by decide +kernel) (pa_cons (pe_call G_law_refused (hr.mono (by decide)) rfl D_law_refused.gl D_law_refused.fn.kp D_law_refused.bd .nil pass0 (pa_cons (pv 7) (pa_cons (pv 13) pa_nil))) pa_nil)) (pe_callB (call_reprD hg hr.units) (by rfl) T.z_repr (by decide +kernel) (pa_cons (pe_lst (pa_cons pe_str (pa_cons (pv 13) pa_nil))) pa_nil)) (nomark _)) (pss_one (ps_ret pe_bl)) pss_nil) (pss_one (ps_if (pt_cmpR ((op_neA hr.units) : OpR _ _ (rNeA K)) (pe_callB (call_reprD hg hr.units) (by rfl) T.z_repr (by decide +kernel) (pa_cons (pe_call G_law_refused (hr.mono (by decide)) rfl D_law_refused.gl D_law_refused.fn.kp D_law_refused.bd .nil pass0 (pa_cons (pv 14) (pa_cons (pv 13) pa_nil))) pa_nil)) (pe_callB (call_reprD hg hr.units) (by rfl) T.z_repr (by decide +kernel) (pa_cons (pe_lst (pa_cons pe_str (pa_cons (pv 14) pa_nil))) pa_nil)) (nomark _)) (pss_one (ps_ret pe_bl)) pss_nil)))))))))))))))) (pss_one (ps_ret pe_bl))), ?_⟩
    refine r_seqJ (fun σ' H' => True) (fun N hN => ?_) ?_
    rotate_left
    · rintro σ' H' _
      walk_at "T"
      exact k _
    have hN : ∀ σ' H', N σ' H' := fun σ' H' => hN σ' H' trivial
    refine r_for (r_irng1 ?_)
    walk_at "T"
    refine r_lenL ha ?_
    walk_at "T"
    refine ⟨_, rfl, by split <;> (try split) <;> omega, by split <;> (try split) <;> omega, ?_⟩
    obtain ⟨q, hq, ql⟩ : ∃ q : Nat, (if (if ((ns.map V.int).length : Int) < 6 then ((ns.map V.int).length : Int) else 6) > 2 then (if ((ns.map V.int).length : Int) < 6 then ((ns.map V.int).length : Int) else 6) else 2).toNat = q ∧ q ≤ 6 := ⟨_, rfl, by split <;> (try split) <;> omega⟩
    rw [hq]
    refine loop_rng (fun j σ H' => ∃ x1 x2 x3 x4 x5 x6 x7 x8 x9 x10 x11 x12 x13 x14 x15 x16 x17 : Option V, σ = [some (.ref a), x1, x2, x3, x4, x5, x6, x7, x8, x9, x10, x11, x12, x13, x14, x15, x16, x17] ∧ Keep Pt H H' ∧ TabS H' Pt WT.qual) ⟨_, _, _, _, _, _, _, _, _, _, _, _, _, _, _, _, _, rfl, Keep.refl _ _, tab0⟩ (fun j σ1 H1 hj w => ?_) fun σ1 H1 w => hN _ _
    obtain ⟨x1, x2, x3, x4, x5, x6, x7, x8, x9, x10, x11, x12, x13, x14, x15, x16, x17, rfl, kp1, tb1⟩ := w
    walk_at "T"
    refine ⟨a, ns, j, rfl, SqL.kp tab0 kp1 ha, by omega, fun c => ?_⟩
    walk_at "T"
    refine ⟨c, rfl, fun b H2 hb s2 bx => ?_⟩
    have st : Sd Pt WT.qual H1 H2 b 0 [] := ⟨Keep.same s2, hb, tb1.ext s2, bx, fun _ h => (nomatch h)⟩
    clear s2 bx
    walk_at "T"
    refine ⟨b, 0, rfl, st.bx, by decide, fun H3 pk lk nt xs lo mo ns2 mm kp3 bx3 npk nlk nnt epk elk ent kds ko => ?_⟩
    replace st := (((st.draw kp3 bx3).also elk (st.fresh nlk)).also ent (st.fresh nnt))
    clear kp3 bx3 nlk nnt npk elk ent
    refine r_gtup (SqT.of epk) rfl ?_
    clear epk
    walk_at "T"
    refine ⟨b, nt, ns2, _, rfl, st.bx, by decide, st.get 0 rfl, ko.n1, ko.n8, fun H4 d kvs ts kp4 bx4 nd ed ll tso => ?_⟩
    replace kds := kds.tk (boxTup st.bx kp4)
    replace st := st.add kp4 bx4 nd ed
    clear kp4 bx4 nd ed
    walk_at "T"
    refine r_lcRG ?_
    walk_at "T"
    refine ⟨3, rfl, by decide, by decide, fun pD hpD => ?_⟩
    refine comp_rngR (q := 3) hpD (by decide) (fun i y H' => ∃ (p : Addr) (e : Plc), y = .ref p ∧ es60[i]? = some e ∧ PlAt H' p e) (fun i y G G' r e kd => by
      obtain ⟨p, e', rfl, h1, kk, h2, h3⟩ := r
      obtain ⟨zs, ez⟩ := e
      have nd : ∀ {a : Addr} {xs : List V}, G a = some (.tup xs) → a ≠ pD := fun h z => by subst z; rw [ez] at h; cases h
      exact ⟨p, e', rfl, h1, kk, kd _ _ (nd h2) h2, kd _ _ (nd h3) h3⟩) (fun i G N hi sG eD kk => ?_) fun H5 ys s5 e5 l5 r5 => ?_
    · match i, hi with
        | 0, _ =>
          walk_at "T"
          refine ⟨rfl, ?_⟩
          walk_at "T"
          refine ⟨show 4 ≤ sizeLine by decide, fun p1 hp1 => ?_⟩
          have sA := (Same.refl G).at hp1 (.lst [.str "one", .str "two", .str "few", .str "all"])
          have eA : upd G p1 (.lst [.str "one", .str "two", .str "few", .str "all"]) p1 = some (.lst [.str "one", .str "two", .str "few", .str "all"]) := upd_same
          generalize upd G p1 (.lst [.str "one", .str "two", .str "few", .str "all"]) = GA at sA eA ⊢
          walk_at "T"
          refine r_addS (le_line (by decide)) ?_
          walk_at "T"
          refine r_ixS (by decide) (c := 119) rfl ?_
          walk_at "T"
          refine ⟨show 2 ≤ sizeLine by decide, fun p2 hp2 => ?_⟩
          have sB := sA.trans ((Same.refl GA).at hp2 (.tup [.str "own", .str ⟨#[119]⟩]))
          have eB : upd GA p2 (.tup [.str "own", .str ⟨#[119]⟩]) p2 = some (.tup [.str "own", .str (S nmW)]) := upd_same
          generalize upd GA p2 (.tup [.str "own", .str ⟨#[119]⟩]) = GB at sB eB ⊢
          walk_at "T"
          refine ⟨show 3 ≤ sizeLine by decide, fun p3 hp3 => ?_⟩
          exact kk _ _ (sB.trans ((Same.refl GB).at hp3 _)) ⟨p3, _, rfl, rfl, p2, upd_same, ((Same.refl GB).at hp3 _) _ _ eB⟩
        | 1, _ =>
          walk_at "T"
          refine ⟨rfl, ?_⟩
          walk_at "T"
          refine ⟨show 4 ≤ sizeLine by decide, fun p1 hp1 => ?_⟩
          have sA := (Same.refl G).at hp1 (.lst [.str "one", .str "two", .str "few", .str "all"])
          have eA : upd G p1 (.lst [.str "one", .str "two", .str "few", .str "all"]) p1 = some (.lst [.str "one", .str "two", .str "few", .str "all"]) := upd_same
          generalize upd G p1 (.lst [.str "one", .str "two", .str "few", .str "all"]) = GA at sA eA ⊢
          walk_at "T"
          refine r_addS (le_line (by decide)) ?_
          walk_at "T"
          refine r_ixS (by decide) (c := 111) rfl ?_
          walk_at "T"
          refine ⟨show 2 ≤ sizeLine by decide, fun p2 hp2 => ?_⟩
          have sB := sA.trans ((Same.refl GA).at hp2 (.tup [.str "own", .str ⟨#[111]⟩]))
          have eB : upd GA p2 (.tup [.str "own", .str ⟨#[111]⟩]) p2 = some (.tup [.str "own", .str (S nmO)]) := upd_same
          generalize upd GA p2 (.tup [.str "own", .str ⟨#[111]⟩]) = GB at sB eB ⊢
          walk_at "T"
          refine ⟨show 3 ≤ sizeLine by decide, fun p3 hp3 => ?_⟩
          exact kk _ _ (sB.trans ((Same.refl GB).at hp3 _)) ⟨p3, _, rfl, rfl, p2, upd_same, ((Same.refl GB).at hp3 _) _ _ eB⟩
        | 2, _ =>
          walk_at "T"
          refine ⟨rfl, ?_⟩
          walk_at "T"
          refine ⟨show 4 ≤ sizeLine by decide, fun p1 hp1 => ?_⟩
          have sA := (Same.refl G).at hp1 (.lst [.str "one", .str "two", .str "few", .str "all"])
          have eA : upd G p1 (.lst [.str "one", .str "two", .str "few", .str "all"]) p1 = some (.lst [.str "one", .str "two", .str "few", .str "all"]) := upd_same
          generalize upd G p1 (.lst [.str "one", .str "two", .str "few", .str "all"]) = GA at sA eA ⊢
          walk_at "T"
          refine r_addS (le_line (by decide)) ?_
          walk_at "T"
          refine r_ixS (by decide) (c := 101) rfl ?_
          walk_at "T"
          refine ⟨show 2 ≤ sizeLine by decide, fun p2 hp2 => ?_⟩
          have sB := sA.trans ((Same.refl GA).at hp2 (.tup [.str "own", .str ⟨#[101]⟩]))
          have eB : upd GA p2 (.tup [.str "own", .str ⟨#[101]⟩]) p2 = some (.tup [.str "own", .str (S nmE)]) := upd_same
          generalize upd GA p2 (.tup [.str "own", .str ⟨#[101]⟩]) = GB at sB eB ⊢
          walk_at "T"
          refine ⟨show 3 ≤ sizeLine by decide, fun p3 hp3 => ?_⟩
          exact kk _ _ (sB.trans ((Same.refl GB).at hp3 _)) ⟨p3, _, rfl, rfl, p2, upd_same, ((Same.refl GB).at hp3 _) _ _ eB⟩
    have pls : PlsAt H5 ys es60 := pls_of l5 r5
    clear r5
    replace kds := kds.same s5
    replace ll := ll.same s5
    replace st := st.step s5
    clear s5 hpD
    walk_at "T"
    refine r_tupOf (SqL.of e5) fun pt hpt => ?_
    have s6 := (Same.refl H5).at hpt (.tup ys)
    replace pls := pls.keep (TupK.of s6)
    replace kds := kds.same s6
    replace ll := ll.same s6
    replace st := st.new hpt (.tup ys)
    clear e5 s6
    generalize upd H5 pt (.tup ys) = H6 at st pls kds ll ⊢
    clear hpt
    walk_at "T"
    refine r_makeN ?_
    walk_at "T"
    refine ⟨show 0 ≤ sizeLine by decide, fun t1 ht1 => ?_⟩
    have s7 := (Same.refl H6).at ht1 (.tup [])
    replace st := st.new ht1 (.tup [])
    generalize upd H6 t1 (.tup []) = H7 at st s7 ⊢
    walk_at "T"
    refine ⟨show 0 ≤ sizeLine by decide, fun t2 ht2 => ?_⟩
    have s8 := s7.trans ((Same.refl H7).at ht2 (.tup []))
    replace st := st.new ht2 (.tup [])
    generalize upd H7 t2 (.tup []) = H8 at st s8 ⊢
    walk_at "T"
    refine ⟨show 0 ≤ sizeLine by decide, fun t3 ht3 => ?_⟩
    have s9 := s8.trans ((Same.refl H8).at ht3 (.tup []))
    replace st := st.new ht3 (.tup [])
    generalize upd H8 t3 (.tup []) = H9 at st s9 ⊢
    walk_at "T"
    refine ⟨show 5 ≤ sizeLine by decide, fun r hr0 => ?_⟩
    have sA := s9.trans ((Same.refl H9).at hr0 (.tup [.str "tool", .ref t1, .ref pt, .ref t2, .ref t3]))
    replace st := st.new hr0 (.tup [.str "tool", .ref t1, .ref pt, .ref t2, .ref t3])
    generalize upd H9 r (.tup [.str "tool", .ref t1, .ref pt, .ref t2, .ref t3]) = HA at st sA ⊢
    have root : RootAt HA r es60 := ⟨⟨t1, pt, t2, t3, ys, st.get 0 rfl, st.get 3 rfl, st.get 4 rfl, pls.keep (TupK.of sA), st.get 2 rfl, st.get 1 rfl⟩⟩
    replace kds := kds.same sA
    replace ll := ll.same sA
    clear s7 s8 s9 sA pls ht1 ht2 ht3 hr0
    replace st := ((((st.drop rfl).drop rfl).drop rfl).drop rfl).drop rfl
    walk_at "T"
    have ed := st.get 0 rfl
    have dnp := st.nep 0 rfl
    have ndk := ll.nodup tso.nd
    have kl := ll.len
    have l3 : ts.length = 3 := by
      have := congrArg List.length (ts_fst tso)
      rwa [List.length_map] at this
    refine r_lockE ed trivial fun od => ?_
    refine r_lcKy ?_
    walk_at "T"
    refine ⟨d, od, rfl, .inl ⟨kvs, upd_same, fun D hD => ?_⟩⟩
    have hDA : HA D = none := by
      cases e : HA D with
      | none => rfl
      | some o =>
        have : D ≠ d := fun z => by subst z; exact nomatch hD.symm.trans upd_same
        rw [upd_ne this] at hD
        exact nomatch hD.symm.trans e
    have neDd : D ≠ d := fun z => by subst z; exact nomatch hD.symm.trans upd_same
    obtain ⟨nDb, nDp⟩ := st.fresh hDA
    have tabB : TabS (upd HA d (.frz od (.dK kvs))) Pt WT.qual := TabS.up st.tab dnp (fun φ e => by rw [ed] at e; cases e) _
    have klB : KeepL HA (upd HA d (.frz od (.dK kvs))) := KeepL.upd ed
    have llB := ll.kl klB
    have frB : upd HA d (.frz od (.dK kvs)) d = some (.frz od (.dK kvs)) := upd_same
    have kpB : ∀ p o, p ≠ d → HA p = some o → upd HA d (.frz od (.dK kvs)) p = some o := fun p o n e => by rw [upd_ne n]; exact e
    generalize upd HA d (.frz od (.dK kvs)) = HB at tabB klB llB frB kpB hD ⊢
    refine comp_of 3 (fun i H' => Keep Pt HB H' ∧ TabS H' Pt WT.qual ∧ ∃ (ps : List Addr) (kv2 : List (Key × V)), H' D = some (.lst (ps.map V.ref)) ∧ Pairs2 H' ps kv2 ∧ TellsD WT D H' kv2 (ts.take i) ∧ ps.length = i)
      ⟨(Keep.refl _ _).at hD _, TabS.up tabB nDp (fun φ e => by rw [hD] at e; cases e) _, [], [], upd_same, .nil, .nil, rfl⟩
      (fun i H' hi w => (seqIt_keys (w.1 _ _ frB dnp)).go i H' (Same.refl _) (by rw [List.length_map, kl, l3]; exact hi))
      (fun H' w => by have := (seqIt_keys (w.1 _ _ frB dnp)).stop H' (Same.refl _); rwa [List.length_map, kl, l3] at this) (fun i HC x HD hi w y => ?_) fun HC w => ?_
    · obtain ⟨rfl, hx⟩ := (seqIt_keys (w.1 _ _ frB dnp)).yld i HC x HD (Same.refl _) y
      obtain ⟨kpC, tbC, ps, kv2, eD, prs, tls, lps⟩ := w
      rw [List.getElem?_map] at hx
      obtain ⟨kv, hkv, rfl⟩ := Option.map_eq_some_iff.mp hx
      obtain ⟨l, e, he, rfl, hl⟩ := (llB.kl (keepP_L tabB kpC)).get hkv
      have lD : l ≠ D := fun z => by
        subst z
        obtain ⟨l', e', _, q2, hl'⟩ := ll.get hkv
        have q3 : V.ref l = V.ref l' := congrArg Prod.snd q2
        injection q3 with q3
        subst q3
        exact nomatch hDA.symm.trans hl'
      refine ⟨rfl, ?_⟩
      walk_at "T"
      refine ⟨d, .ref l, rfl, .inl ⟨kvs, .inr (S e.1), .inr ⟨od, kpC _ _ frB dnp⟩, rfl, (valV_nth ndk hkv).symm⟩, ?_⟩
      refine ⟨.ref l, rfl, tbC, fun f HE kpE tbE hf ta => ?_⟩
      walk_at "T"
      refine ⟨show 2 ≤ sizeLine by decide, fun p hp => ?_⟩
      have eE := kpE _ _ eD nDp
      have pD2 : p ≠ D := fun z => by subst z; exact nomatch hp.symm.trans eE
      have sP := (Same.refl HE).at hp (.tup [kV (Sum.inr (S e.1) : Key), .ref f])
      have eP := sP _ _ eE
      have hP : upd HE p (.tup [kV (Sum.inr (S e.1) : Key), .ref f]) p = some (.tup [kV (Sum.inr (S e.1) : Key), .ref f]) := upd_same
      change ∃ acc, upd HE p (.tup [kV (Sum.inr (S e.1) : Key), .ref f]) D = some (.lst acc) ∧ _
      generalize upd HE p (.tup [kV (Sum.inr (S e.1) : Key), .ref f]) = HF at sP eP hP ⊢
      refine ⟨_, eP, by rw [List.length_map, lps]; exact Nat.lt_of_lt_of_le hi (by decide), (kpC.trans (kpE.trans (Keep.same sP))).at hD _, TabS.up (tbE.ext sP) nDp (fun φ e => by rw [eP] at e; cases e) _, ps ++ [p], kv2 ++ [(.inr (S e.1), .ref f)], by rw [upd_same, List.map_append]; rfl, ?_, ?_, by rw [List.length_append, lps]; rfl⟩
      · exact Pairs2.snoc (kv := (.inr (S e.1), .ref f)) ((upd_ne pD2).trans hP) (prs.keep (((tabTup tbC kpE).trans (TupK.of sP)).trans (TupK.upd fun xs h => by rw [eP] at h; cases h)))
      · rw [snoc_take he]
        have kD : KeepLD D HD (upd HF D (.lst (ps.map V.ref ++ [.ref p]))) := KeepLD.trans (KeepLD.of ((keepP_L tbC kpE).trans (KeepL.of sP))) (KeepLD.upD _)
        have kE : KeepLD D HE (upd HF D (.lst (ps.map V.ref ++ [.ref p]))) := KeepLD.trans (KeepLD.of (KeepL.of sP)) (KeepLD.upD _)
        exact TellsD.snoc (ta.keepD kE fun φ e => by rw [eE] at e; cases e) (kD _ _ lD hl (.inl ⟨_, rfl⟩)) lD (tls.keep kD fun φ e => by rw [eD] at e; cases e)
    obtain ⟨kpC, tbC, ps, kv2, eD, prs, tls, lps⟩ := w
    rw [List.take_of_length_le (Nat.le_of_eq l3)] at tls
    have frC := kpC _ _ frB dnp
    refine ⟨frC, ?_⟩
    have kpF : Keep Pt HA (upd HC d (.dK kvs)) := fun p o h n => by
      by_cases z : p = d
      · subst z
        rw [upd_same, ← ed, h]
      · rw [upd_ne z]
        exact kpC _ _ (kpB _ _ z h) n
    have tbF : TabS (upd HC d (.dK kvs)) Pt WT.qual := TabS.up tbC dnp (fun φ e => by rw [frC] at e; cases e) _
    have klF : KeepL HC (upd HC d (.dK kvs)) := KeepL.up (fun o h => by rw [frC] at h; cases h; exact ⟨fun _ z => (nomatch z), fun _ z => (nomatch z), fun _ z => (nomatch z)⟩) _
    have eDF : upd HC d (.dK kvs) D = some (.lst (ps.map V.ref)) := (upd_ne neDd).trans eD
    have prF := prs.keep klF.tup
    have tlF := tls.all.keep klF
    clear frC klF eD prs tls tbC kpC kpB frB llB klB tabB hD hDA nDb nDp
    generalize upd HC d (.dK kvs) = HF at kpF tbF eDF prF tlF ⊢
    replace kds := kds.tk (tabTup st.tab kpF)
    replace ll := ll.kl (keepP_L st.tab kpF)
    replace root := root.keep (tabTup st.tab kpF)
    replace st := st.tell kpF tbF
    clear kpF tbF ed
    walk_at "T"
    refine ⟨D, ps, kv2, rfl, SqL.of eDF, prF.pd, fun tb htb => ?_⟩
    have nk2 := tlF.nodup tso.nd
    rw [merge_new (by rw [List.nil_append]; exact nk2), List.nil_append]
    have sG := (Same.refl HF).at htb (.dK kv2)
    have eG : upd HF tb (.dK kv2) tb = some (.dK kv2) := upd_same
    replace kds := kds.same sG
    replace ll := ll.same sG
    replace root := root.keep (TupK.of sG)
    replace tlF := tlF.keep (KeepL.of sG)
    replace st := st.step sG
    clear prF eDF htb
    generalize upd HF tb (.dK kv2) = HG at sG eG kds ll root tlF st ⊢
    clear sG
    walk_at "T"
    refine ⟨rfl, rfl, fun g dx hg0 hdx hne => ?_⟩
    have s1 : Same HG (upd (upd HG dx (.own g)) g (.ins CG dx [])) := ((Same.refl HG).at hdx _).at hg0 _
    have g1 : upd (upd HG dx (.own g)) g (.ins CG dx []) g = some (.ins CG dx []) := upd_same
    generalize upd (upd HG dx (.own g)) g (.ins CG dx []) = HH at s1 g1 ⊢
    refine ⟨g, r, tb, dx, es60, ts, rfl, g1, root.keep (TupK.of s1), es60_ok, ⟨⟨kv2, s1 _ _ eG, tlF.keep (KeepL.of s1)⟩, ts_fst tso⟩, fun HI kB gw => ⟨rfl, ?_⟩⟩
    have s2 : Same HG HI := fun p o h => kB p o (fun e => by subst e; exact nomatch hg0.symm.trans h) (s1 _ _ h)
    replace kds := kds.same s2
    replace ll := ll.same s2
    replace root := root.keep (TupK.of s2)
    replace st := st.step s2
    clear s1 g1 kB s2 eG tlF hg0 hdx hne nk2
    walk_at "T"
    refine ⟨lk, d, nt, xs, _, kvs, ts, ns2, rfl, st.get 2 rfl, kds, kds_num ko, st.get 0 rfl, ll, tso.nd, ts_l8 ko tso, by rw [ts_fst tso]; decide, by rw [ts_fst tso]; decide, st.get 1 rfl, ko.n8, fun HJ wl sJ hwl ewl => ?_⟩
    replace kds := kds.same sJ
    replace ll := ll.same sJ
    replace root := root.keep (TupK.of sJ)
    replace gw := gw.same sJ
    replace st := st.put sJ hwl ewl
    clear sJ hwl ewl
    have trk := tried_ok ko tso
    have good := kds_good ko tso
    have kok := kds_ok ko
    have kown := kds_own (lo := lo) (mo := mo) (m := mm) tso
    have koo := kds_oo ko tso
    have trl := tried_len ko tso
    have tl8 := ts_l8 ko tso
    have k13 : (kdsOf lo mo ns2 mm).length = 13 := rfl
    generalize tried ts (kdsOf lo mo ns2 mm) ns2 = tr at st trk good trl
    generalize kdsOf lo mo ns2 mm = ks at kds good kok kown koo k13
    have xs13 : xs.length = 13 := by rw [kds.len]; exact k13
    clear ko
    walk_at "T"
    refine r_lcL ?_
    walk_at "T"
    refine ⟨lk, rfl, ⟨_, SqL.of (st.get 3 rfl)⟩, fun rD hrD => ?_⟩
    refine comp_rel (seqIt_l (SqL.of (st.get 3 rfl))) hrD (by rw [xs13]; decide) (fun i y H' => ∃ (kd : Kd) (u : Tb), ks[i]? = some kd ∧ TbFor ts kd u ∧ PairT H' y u.data.shown (rowT ts tr kd)) (fun i y G G' r e kd => by
      obtain ⟨k1, u, h1, h2, p, rfl, h3⟩ := r
      obtain ⟨zs, ez⟩ := e
      exact ⟨k1, u, h1, h2, p, rfl, kd _ _ (fun z => by subst z; rw [ez] at h3; cases h3) h3⟩) (fun i x G NN hx sG eD kk => ?_) fun HK rs sK eK lK rK => ?_
    · obtain ⟨ak, kd, rfl, hk, ka⟩ := (kds.same sG).get hx
      have km := List.mem_of_getElem? hk
      have stG := st.step sG
      walk_at "T"
      refine ⟨rfl, ?_⟩
      walk_at "T"
      refine ⟨.ref g, .ref ak, rfl, .inr ⟨g, r, ts, rfl, gw.same sG, tso.nd, .inr ⟨ak, kd, rfl, ka, kok kd km, kown kd km, tl8, fun G1 pt1 s1 tb => ?_⟩⟩⟩
      obtain ⟨u, uf, ud, uw, udp⟩ := tb_dd (b := b) trk (good kd km) (kok kd km) (ka.same s1) tb
      walk_at "T"
      refine ⟨b, .ref pt1, _, rfl, ud, uw, udp, ?_⟩
      walk_at "T"
      have s01 := sG.trans s1
      refine ⟨ak, d, wl, kd, kvs, ts, tr, rfl, ka.same s1, kok kd km, s01 _ _ (st.get 1 rfl), ll.same s01, tso.nd, kown kd km, koo kd km, s01 _ _ (st.get 0 rfl), trk.pl, trl, fun G2 s2 => ?_⟩
      walk_at "T"
      refine ⟨show 2 ≤ sizeLine by decide, fun pp hpp => ?_⟩
      exact kk _ _ ((s1.trans s2).trans ((Same.refl G2).at hpp _)) ⟨kd, u, hk, uf, pp, rfl, upd_same⟩
    replace kds := kds.same sK
    replace ll := ll.same sK
    replace root := root.keep (TupK.of sK)
    replace gw := gw.same sK
    replace st := st.put sK hrD eK
    have rs13 : rs.length = 13 := by rw [lK]; exact xs13
    clear sK hrD eK lK
    walk_at "T"
    refine r_lcL ?_
    walk_at "T"
    refine ⟨rD, rfl, ⟨_, SqL.of (st.get 0 rfl)⟩, fun aD haD => ?_⟩
    refine comp_rel (seqIt_l (SqL.of (st.get 0 rfl))) haD (by rw [rs13]; decide) (fun i y _ => ∃ (kd : Kd) (u : Tb), ks[i]? = some kd ∧ TbFor ts kd u ∧ y = .str u.data.shown) (fun i y G G' r _ _ => r) (fun i x G NN hx sG eD kk => ?_) fun HL as1 sL eL lL rL => ?_
    · obtain ⟨kd, u, h1, h2, p, rfl, h3⟩ := rK i x hx
      have h3' := sG _ _ h3
      walk_at "T"
      refine ⟨rfl, ?_⟩
      walk_at "T"
      exact kk _ G (Same.refl G) ⟨kd, u, h1, h2, rfl⟩
    replace kds := kds.same sL
    replace ll := ll.same sL
    replace root := root.keep (TupK.of sL)
    replace gw := gw.same sL
    replace rK : ∀ (i : Nat) (y : V), rs[i]? = some y → ∃ (kd : Kd) (u : Tb), ks[i]? = some kd ∧ TbFor ts kd u ∧ PairT HL y u.data.shown (rowT ts tr kd) := fun i y hy => by
      obtain ⟨kd, u, h1, h2, p, rfl, h3⟩ := rK i y hy
      exact ⟨kd, u, h1, h2, p, rfl, sL _ _ h3⟩
    replace st := st.put sL haD eL
    have as13 : as1.length = 13 := by rw [lL]; exact rs13
    clear sL haD eL lL
    walk_at "T"
    refine r_lcL ?_
    walk_at "T"
    refine ⟨lk, rfl, ⟨_, SqL.of (st.get 5 rfl)⟩, fun bD hbD => ?_⟩
    refine comp_rel (seqIt_l (SqL.of (st.get 5 rfl))) hbD (by rw [xs13]; decide) (fun i y _ => ∃ (kd : Kd) (u : Tb), ks[i]? = some kd ∧ TbFor ts kd u ∧ y = .str u.data.shown) (fun i y G G' r _ _ => r) (fun i x G NN hx sG eD kk => ?_) fun HM bs1 sM eM lM rM => ?_
    · obtain ⟨ak, kd, rfl, hk, ka⟩ := (kds.same sG).get hx
      have km := List.mem_of_getElem? hk
      walk_at "T"
      refine ⟨rfl, ?_⟩
      walk_at "T"
      refine ⟨ak, d, kd, kvs, ts, rfl, ka, kok kd km, sG _ _ (st.get 3 rfl), ll.same sG, tso.nd, kown kd km, tl8, fun G1 pt1 s1 tb => ?_⟩
      obtain ⟨u, uf, ud, uw, udp⟩ := tb_dd (b := b) trk (good kd km) (kok kd km) (ka.same s1) tb
      walk_at "T"
      refine ⟨b, .ref pt1, _, rfl, ud, uw, udp, ?_⟩
      exact kk _ G1 s1 ⟨kd, u, hk, uf, rfl⟩
    replace root := root.keep (TupK.of sM)
    replace gw := gw.same sM
    replace rK : ∀ (i : Nat) (y : V), rs[i]? = some y → ∃ (kd : Kd) (u : Tb), ks[i]? = some kd ∧ TbFor ts kd u ∧ PairT HM y u.data.shown (rowT ts tr kd) := fun i y hy => by
      obtain ⟨kd, u, h1, h2, p, rfl, h3⟩ := rK i y hy
      exact ⟨kd, u, h1, h2, p, rfl, sM _ _ h3⟩
    replace st := st.put sM hbD eM
    have bs13 : bs1.length = 13 := by rw [lM]; exact xs13
    clear sM hbD eM lM ll kds kown tl8 kok koo
    obtain ⟨z1, rfl, p1⟩ := strs_of2 (ys := as1) (P := fun i z => ∃ (kd : Kd) (u : Tb), ks[i]? = some kd ∧ TbFor ts kd u ∧ z = u.data.shown) fun i y hy => by
      obtain ⟨kd, u, h1, h2, rfl⟩ := rL i y hy
      exact ⟨_, rfl, kd, u, h1, h2, rfl⟩
    obtain ⟨z2, rfl, p2⟩ := strs_of2 (ys := bs1) (P := fun i z => ∃ (kd : Kd) (u : Tb), ks[i]? = some kd ∧ TbFor ts kd u ∧ z = u.data.shown) fun i y hy => by
      obtain ⟨kd, u, h1, h2, rfl⟩ := rM i y hy
      exact ⟨_, rfl, kd, u, h1, h2, rfl⟩
    rw [List.length_map] at as13 bs13
    obtain rfl : z1 = z2 := strs_eq (as13.trans bs13.symm) fun i z w hz hw => by
      obtain ⟨k1, u1, a1, a2, rfl⟩ := p1 i z hz
      obtain ⟨k2, u2, b1, b2, rfl⟩ := p2 i w hw
      rw [a1] at b1
      cases b1
      rw [tb_uniq a2 b2]
    refine ne_strs (fun z hz => ?_) (st.get 1 rfl) (st.get 0 rfl) ?_
    · obtain ⟨i, hi⟩ := List.mem_iff_getElem?.mp hz
      obtain ⟨k1, u1, a1, a2, rfl⟩ := p1 i z hi
      exact Tb.sg (tb_ok (good k1 (List.mem_of_getElem? a1)) a2)
    clear rL rM p1 p2 as13 bs13
    walk_at "T"
    refine r_for ?_
    refine r_ilist ?_
    walk_at "T"
    refine ⟨rD, rfl, ⟨_, SqL.of (st.get 2 rfl)⟩, ?_⟩
    have eR := st.get 2 rfl
    refine loop_lst (fun i σ' H' => ∃ z10 z11 : Option V, σ' = [some (.ref a), some (.int (j : Nat)), some (.ref b), some (.ref lk), some (.ref nt), some (.ref d), some (.ref pt), some (.ref g), some (.ref wl), some (.ref rD), z10, z11, x12, x13, x14, x15, x16, x17] ∧ Same HM H') (fun i σ' H' w => by obtain ⟨_, _, _, s⟩ := w; exact s _ _ eR) ⟨_, _, rfl, Same.refl _⟩ (fun i x σ2 HN hx w => ?_) fun σ2 HN w => ?_
    · obtain ⟨z10, z11, rfl, sN⟩ := w
      obtain ⟨k1, u1, a1, a2, p1, rfl, a3⟩ := rK i x hx
      walk_at "T"
      refine r_for ?_
      refine r_ilist ?_
      walk_at "T"
      refine ⟨rD, rfl, ⟨_, SqL.of (sN _ _ eR)⟩, ?_⟩
      refine loop_lst (fun i2 σ' H' => ∃ z11 : Option V, σ' = [some (.ref a), some (.int (j : Nat)), some (.ref b), some (.ref lk), some (.ref nt), some (.ref d), some (.ref pt), some (.ref g), some (.ref wl), some (.ref rD), some (.ref p1), z11, x12, x13, x14, x15, x16, x17] ∧ Same HM H') (fun i σ' H' w => by obtain ⟨_, _, s⟩ := w; exact s _ _ eR) ⟨_, rfl, sN⟩ (fun i2 y σ3 HO2 hy w => ?_) fun σ3 HO2 w => ?_
      · obtain ⟨z12, rfl, sO⟩ := w
        obtain ⟨k2, u2, b1, b2, p2, rfl, b3⟩ := rK i2 y hy
        have ag := rows_agree trk (good k1 (List.mem_of_getElem? a1)) (good k2 (List.mem_of_getElem? b1)) a2 b2
        have a3' := sO _ _ a3
        have b3' := sO _ _ b3
        walk_at "T"
        rw [decide_eq_decide.mpr ag]
        refine r_neB ?_
        walk_at "T"
        exact ⟨_, rfl, sO⟩
      · obtain ⟨z12, rfl, sO⟩ := w
        exact ⟨_, _, rfl, sO⟩
    obtain ⟨z10, z11, rfl, sN⟩ := w
    replace root := root.keep (TupK.of sN)
    replace gw := gw.same sN
    replace st := st.step sN
    clear sN eR rK
    walk_at "T"
    refine ⟨show 2 ≤ sizeLine by decide, fun o1 ho1 => ?_⟩
    have s := (Same.refl HN).at ho1 (.tup [.str "text", .int 0])
    replace root := root.keep (TupK.of s)
    replace gw := gw.same s
    replace st := st.new ho1 (.tup [.str "text", .int 0])
    generalize upd HN o1 (.tup [.str "text", .int 0]) = G1 at st root gw ⊢
    clear s ho1
    walk_at "T"
    refine ⟨show 2 ≤ sizeLine by decide, fun o2 ho2 => ?_⟩
    have s := (Same.refl G1).at ho2 (.tup [.str "text", .int 21])
    replace root := root.keep (TupK.of s)
    replace gw := gw.same s
    replace st := st.new ho2 (.tup [.str "text", .int 21])
    generalize upd G1 o2 (.tup [.str "text", .int 21]) = G2 at st root gw ⊢
    clear s ho2
    walk_at "T"
    refine ⟨show 1 ≤ sizeLine by decide, fun o3 ho3 => ?_⟩
    have s := (Same.refl G2).at ho3 (.lst [.str "name"])
    replace root := root.keep (TupK.of s)
    replace gw := gw.same s
    replace st := st.new ho3 (.lst [.str "name"])
    generalize upd G2 o3 (.lst [.str "name"]) = G3 at st root gw ⊢
    clear s ho3
    walk_at "T"
    refine ⟨show 0 ≤ sizeLine by decide, fun o4 ho4 => ?_⟩
    have s := (Same.refl G3).at ho4 (.tup [])
    replace root := root.keep (TupK.of s)
    replace gw := gw.same s
    replace st := st.new ho4 (.tup [])
    generalize upd G3 o4 (.tup []) = G4 at st root gw ⊢
    clear s ho4
    walk_at "T"
    refine ⟨show 2 ≤ sizeLine by decide, fun o5 ho5 => ?_⟩
    have s := (Same.refl G4).at ho5 (.tup [.str "one", .ref o4])
    replace root := root.keep (TupK.of s)
    replace gw := gw.same s
    replace st := st.new ho5 (.tup [.str "one", .ref o4])
    generalize upd G4 o5 (.tup [.str "one", .ref o4]) = G5 at st root gw ⊢
    clear s ho5
    walk_at "T"
    refine ⟨show 2 ≤ sizeLine by decide, fun o6 ho6 => ?_⟩
    have s := (Same.refl G5).at ho6 (.tup [.str "name", .int 1])
    replace root := root.keep (TupK.of s)
    replace gw := gw.same s
    replace st := st.new ho6 (.tup [.str "name", .int 1])
    generalize upd G5 o6 (.tup [.str "name", .int 1]) = G6 at st root gw ⊢
    clear s ho6
    walk_at "T"
    refine ⟨show 3 ≤ sizeLine by decide, fun o7 ho7 => ?_⟩
    have s := (Same.refl G6).at ho7 (.tup [.str "number", .int 2, .int 1])
    replace root := root.keep (TupK.of s)
    replace gw := gw.same s
    replace st := st.new ho7 (.tup [.str "number", .int 2, .int 1])
    generalize upd G6 o7 (.tup [.str "number", .int 2, .int 1]) = G7 at st root gw ⊢
    clear s ho7
    walk_at "T"
    refine ⟨show 9 ≤ sizeLine by decide, fun o8 ho8 => ?_⟩
    have s := (Same.refl G7).at ho8 (.lst [.non, .int 5, .ref o1, .ref o2, .ref o3, .ref o5, .ref o6, .str "name", .ref o7])
    replace root := root.keep (TupK.of s)
    replace gw := gw.same s
    replace st := st.new ho8 (.lst [.non, .int 5, .ref o1, .ref o2, .ref o3, .ref o5, .ref o6, .str "name", .ref o7])
    generalize upd G7 o8 (.lst [.non, .int 5, .ref o1, .ref o2, .ref o3, .ref o5, .ref o6, .str "name", .ref o7]) = G8 at st root gw ⊢
    clear s ho8
    walk_at "T"
    refine ⟨b, 9, _, rfl, st.bx, by omega, by decide, by decide, fun u G9 u0 u1 kp bx => ?_⟩
    replace root := root.box st.bx kp
    replace gw := gw.box st.bx kp
    replace st := st.draw kp bx
    clear kp bx
    obtain ⟨x, hat, _⟩ := odd60 (st.get 7 rfl) (st.get 6 rfl) (st.get 5 rfl) (st.neb 5 rfl) (st.get 4 rfl) (st.get 3 rfl) (st.get 2 rfl) (st.get 1 rfl) u0 u1
    refine r_ixL (SqL.of (st.get 0 rfl)) hat ?_
    walk_at "T"
    obtain ⟨gx, gt, gdc, gdw, gqs, hg, hgw, gwl⟩ := gw.ex
    refine r_meth ?_
    walk_at "T"
    refine ⟨g, gx, _, rfl, hg, rfl, ?_⟩
    refine ⟨g, r, ts, rfl, gw, ?_⟩
    clear hg hgw gwl
    walk_at "T"
    refine ⟨show 4 ≤ sizeLine by decide, fun o9 ho9 => ?_⟩
    have s := (Same.refl G9).at ho9 (.lst [.non, .str "tool", .ref r, .int 7])
    replace root := root.keep (TupK.of s)
    replace gw := gw.same s
    replace st := st.new ho9 (.lst [.non, .str "tool", .ref r, .int 7])
    generalize upd G9 o9 (.lst [.non, .str "tool", .ref r, .int 7]) = GA at st root gw ⊢
    clear s ho9
    walk_at "T"
    refine ⟨b, 4, _, rfl, st.bx, by omega, by decide, by decide, fun v GB v0 v1 kp bx => ?_⟩
    replace root := root.box st.bx kp
    replace gw := gw.box st.bx kp
    replace st := st.draw kp bx
    clear kp bx
    obtain ⟨x', hat', odd, dx, xd, xw, xdp⟩ := odd60 (st.get 8 rfl) (st.get 7 rfl) (st.get 6 rfl) (st.neb 6 rfl) (st.get 5 rfl) (st.get 4 rfl) (st.get 3 rfl) (st.get 2 rfl) u0 u1
    obtain rfl : x = x' := Option.some.inj (hat.symm.trans hat')
    clear hat hat' u0 u1
    obtain ⟨y, hat, ngr, dy, yd, yw, ydp⟩ := bad60 (b := b) root v0 v1
    refine r_ixL (SqL.of (st.get 0 rfl)) hat ?_
    clear hat v0 v1 root
    walk_at "T"
    refine ⟨.ref g, x, rfl, odd, .inr ⟨g, r, ts, rfl, gw, tso.nd, fun GC p s hp ep => ?_⟩⟩
    walk_at "T"
    obtain ⟨q1, q2, q3⟩ := dd_pair (z := "kind") (by decide) (by decide +kernel) (xd.same s) xw xdp ep (st.bx.ne hp)
    refine ⟨b, .ref p, _, rfl, q1, q2, q3, ?_⟩
    clear q1 q2 q3 ep
    replace xd := xd.same s
    replace yd := yd.same s
    replace odd := odd.same s
    replace ngr := ngr.same s
    replace gw := gw.same s
    replace st := st.step s
    clear s hp
    walk_at "T"
    refine ⟨show 2 ≤ sizeLine by decide, fun p hp => ?_⟩
    have s := (Same.refl GC).at hp (.lst [.str "kind", x])
    have ep : upd GC p (.lst [.str "kind", x]) p = some (.lst [.str "kind", x]) := upd_same
    generalize upd GC p (.lst [.str "kind", x]) = GD at s ep ⊢
    walk_at "T"
    obtain ⟨q1, q2, q3⟩ := dd_pair (z := "kind") (by decide) (by decide +kernel) (xd.same s) xw xdp ep (st.bx.ne hp)
    refine ⟨b, .ref p, _, rfl, q1, q2, q3, ?_⟩
    clear q1 q2 q3 ep
    replace xd := xd.same s
    replace yd := yd.same s
    replace odd := odd.same s
    replace ngr := ngr.same s
    replace gw := gw.same s
    replace st := st.step s
    clear s hp
    refine r_neS ?_
    rw [decide_eq_true rfl]
    walk_at "T"
    refine ⟨y, x, rfl, odd, .inl ⟨ngr, fun GE p s hp ep => ?_⟩⟩
    walk_at "T"
    obtain ⟨q1, q2, q3⟩ := dd_pair (z := "grammar") (by decide) (by decide +kernel) (yd.same s) yw ydp ep (st.bx.ne hp)
    refine ⟨b, .ref p, _, rfl, q1, q2, q3, ?_⟩
    clear q1 q2 q3 ep
    replace xd := xd.same s
    replace yd := yd.same s
    replace odd := odd.same s
    replace ngr := ngr.same s
    replace gw := gw.same s
    replace st := st.step s
    clear s hp
    walk_at "T"
    refine ⟨show 2 ≤ sizeLine by decide, fun p hp => ?_⟩
    have s := (Same.refl GE).at hp (.lst [.str "grammar", y])
    have ep : upd GE p (.lst [.str "grammar", y]) p = some (.lst [.str "grammar", y]) := upd_same
    generalize upd GE p (.lst [.str "grammar", y]) = GF at s ep ⊢
    walk_at "T"
    obtain ⟨q1, q2, q3⟩ := dd_pair (z := "grammar") (by decide) (by decide +kernel) (yd.same s) yw ydp ep (st.bx.ne hp)
    refine ⟨b, .ref p, _, rfl, q1, q2, q3, ?_⟩
    clear q1 q2 q3 ep
    replace xd := xd.same s
    replace yd := yd.same s
    replace odd := odd.same s
    replace ngr := ngr.same s
    replace gw := gw.same s
    replace st := st.step s
    clear s hp
    refine r_neS ?_
    rw [decide_eq_true rfl]
    walk_at "T"
    exact ⟨_, _, _, _, _, _, _, _, _, _, _, _, _, _, _, _, _, rfl, kp1.trans st.kp, st.tab⟩
end
end K60
namespace K60
open PySem PySem.Spec PyProof.Rows L2 J M
local macro_rules | `(tactic| walk_at "hp") => `(tactic| first | assumption | exact upd_same | (rw [upd_ne (by assumption)]; walk_at "hp") | (rw [upd_ne (Ne.symm (by assumption))]; walk_at "hp"))
local macro_rules | `(tactic| walk_at "s") => `(tactic| first
  | ((with_reducible refine' r_var ?h ?k); (case h => exact rfl))
  | (with_reducible refine r_c ?_)
  | (with_reducible refine r_op ?_)
  | (with_reducible refine r_un ?_)
  | (with_reducible refine r_seq ?_)
  | (with_reducible refine r_next ?_)
  | (with_reducible refine r_sets ?_)
  | (with_reducible refine r_gname ?_)
  | (with_reducible refine r_ifS ?_)
  | (with_reducible refine r_gsub ?_)
  | (with_reducible refine r_test ?_)
  | (with_reducible refine r_tb ?_)
  | (with_reducible refine r_not ?_)
  | (with_reducible refine r_and ?_)
  | (with_reducible refine r_or ?_)
  | (with_reducible refine r_andV ?_)
  | (with_reducible refine r_orV ?_)
  | (with_reducible refine r_notV ?_)
  | (with_reducible refine r_ifE ?_)
  | (with_reducible refine r_chain ?_)
  | (with_reducible refine r_cb ?_)
  | (with_reducible refine r_cons ?_)
  | (with_reducible refine r_nil ?_)
  | (with_reducible refine r_call ?_)
  | (with_reducible refine r_lst ?_)
  | (with_reducible refine r_tup ?_)
  | (with_reducible refine r_slice ?_)
  | (with_reducible refine r_nop ?_)
  | (with_reducible refine r_part ?_)
  | (with_reducible refine r_bm ?_)
  | (with_reducible refine r_m1 ?_)
  | (with_reducible refine r_m0 ?_)
  | (with_reducible refine r_is ?_)
  | (with_reducible refine r_maxD ?_)
  | (with_reducible refine r_orT ?_)
  | (with_reducible refine r_truN ?_)
  | (with_reducible refine r_intI ?_)
  | (with_reducible refine r_intB ?_)
  | (with_reducible refine r_max2 ?_)
  | (with_reducible refine r_min2 ?_)
  | (with_reducible refine r_yes ?_)
  | (with_reducible refine r_bl ?_)
  | (with_reducible refine iteT ?_)
  | (with_reducible refine iteF ?_)
  | (with_reducible refine r_iteNT ?_)
  | (with_reducible refine r_iteNF ?_)
  | (with_reducible refine r_minL ?_)
  | (with_reducible refine r_gcons ?_)
  | (with_reducible refine r_gnil ?_)
  | (with_reducible refine r_par ?_)
  | (with_reducible refine r_par3 ?_)
  | (with_reducible refine r_is2 ?_)
  | (with_reducible refine r_is3 ?_)
  | (with_reducible refine r_dget ?_)
  | (with_reducible refine r_callS ?_)
  | (with_reducible refine r_rz ?_)
  | (with_reducible refine r_rev ?_)
  | (with_reducible refine r_isI ?_)
  | (with_reducible refine r_isStr ?_)
  | (with_reducible refine r_ret ?_)
  | (with_reducible refine r_drop ?_)
  | (with_reducible refine r_rI0 ?_)
  | (with_reducible refine r_addI ?_)
  | ((with_reducible show rI (fun _ j => 0 < j) _ (.int _) (.int _) _ _); refine r_rI (by first | omega | decide) ?_)
  | ((with_reducible show rI CDiv _ (.int _) (.int _) _ _); refine r_rI (by constructor <;> omega) ?_)
  | ((with_reducible show rI CPow _ (.int _) (.int _) _ _); refine r_rI (by refine ⟨by decide, by decide, ?_⟩; omega) ?_)
  | ((with_reducible show rMul (.int _) (.int _) _ _); refine r_mulI (cmulW (by omega) (by omega)) ?_)
  | (with_reducible refine r_cmpI ?_)
  | (with_reducible refine r_cmpS ?_)
  | (with_reducible refine r_eqI ?_)
  | (with_reducible refine r_neI ?_)
  | (with_reducible refine r_eqS ?_)
  | (with_reducible refine r_neS ?_)
  | (with_reducible refine r_inSF ?_)
  | (with_reducible refine r_inST ?_)
  | (with_reducible refine r_isiStr ?_)
  | ((with_reducible show rIx _ (.ref _) (.int _) _ _); refine' r_ixL (SqL.of ?h) ?e ?_; (case h => walk_at "hp"); (case e => rfl))
  | ((with_reducible show rSetL (.ref _) (.int _) _ _ _); refine' r_setL ?h ?e ?_; (case h => walk_at "hp"); (case e => rfl)))
local macro_rules | `(tactic| walk_at "g") => `(tactic| repeat walk_at "s")
local macro_rules | `(tactic| walk_at "x") => `(tactic| first | omega | decide +kernel | (simp only [List.length_cons, List.length_nil]; omega))
local macro_rules | `(tactic| walk_at "T") => `(tactic| repeat (first
  | walk_at "s"
  | ((with_reducible show rIx _ (.ref _) (.int _) _ _); refine' r_ixTu (SqT.of ?h) ?e ?_; (case h => first | assumption | walk_at "hp"); (case e => rfl))
  | (with_reducible refine r_lenSet ?_)
  | (with_reducible refine r_asg2 ?_)
  | (with_reducible refine iteDT (by walk_at "x") ?_)
  | (with_reducible refine iteDF (by walk_at "x") ?_)
  | (with_reducible refine iteNT (by walk_at "x") ?_)
  | (with_reducible refine iteNF (by walk_at "x") ?_)))
abbrev s_iNoKind : Stmt := inClass (topS 5) 0
theorem sc_iNoKind : FnScope ["self", "found"] ["self", "found"] (defScope s_iNoKind) := ⟨rfl, rfl, rfl, by decide +kernel, rfl, by decide +kernel, by decide +kernel⟩
abbrev s_iNoGrammar : Stmt := inClass (topS 9) 0
theorem sc_iNoGrammar : FnScope ["self", "found"] ["self", "found"] (defScope s_iNoGrammar) := ⟨rfl, rfl, rfl, by decide +kernel, rfl, by decide +kernel, by decide +kernel⟩
section
variable {P : Program} {w : World} {K : PySem.W.Frag} {mg : Str → Option Value} {base : Heap}
theorem ok_iNoKind {f : Addr} {fd : FuncData} (F : Fun K "__init__" "NoKind.__init__" s_iNoKind f fd) : FnOk P w K mg base CX0 1 f fd ["self", "found"] (spInit K "found") := by
  refine F.ok sc_iNoKind (fun vs H Q E h => ?_) (fun cdv A outer s H vs Q E hr h => ?_)
  · obtain ⟨a, C, v, rfl, _⟩ := h
    rfl
  · obtain ⟨a, C, v, rfl, hT, hf, ha, k⟩ := h
    refine ⟨_, pss_one (asOst (K := K) rfl (ps_ost (pv 0) (pv 1))), ?_⟩
    refine r_ost ?_
    walk_at "T"
    exact ⟨a, C, rfl, hT, hf, .inl ⟨ha, fun dx hd ne => k dx hd ne⟩⟩
theorem ok_iNoGrammar {f : Addr} {fd : FuncData} (F : Fun K "__init__" "NoGrammar.__init__" s_iNoGrammar f fd) : FnOk P w K mg base CX0 1 f fd ["self", "found"] (spInit K "found") := by
  refine F.ok sc_iNoGrammar (fun vs H Q E h => ?_) (fun cdv A outer s H vs Q E hr h => ?_)
  · obtain ⟨a, C, v, rfl, _⟩ := h
    rfl
  · obtain ⟨a, C, v, rfl, hT, hf, ha, k⟩ := h
    refine ⟨_, pss_one (asOst (K := K) rfl (ps_ost (pv 0) (pv 1))), ?_⟩
    refine r_ost ?_
    walk_at "T"
    exact ⟨a, C, rfl, hT, hf, .inl ⟨ha, fun dx hd ne => k dx hd ne⟩⟩
end
end K60
/-! looks at classes with methods; own errors over KeyError -/
namespace J
open PySem PySem.Spec PyProof.Rows L2 M
theorem fun_ofK {K : PySem.W.Frag} {x q : Str} {st : Stmt} {kws : List (Str × V)} {f : Addr} {fd : FuncData} (F : FunD K x q (defArgs st) (defBody st) (defScope st) [] kws f fd) : Fun K x q st f fd := by
  obtain ⟨⟨oc, od, dV, kV, doc, pm, an, cdv, ct, osl, e, l, c, dv, _⟩, kp⟩ := F
  rcases dv with ⟨_, rfl⟩ | ⟨ne, _⟩
  · exact ⟨⟨oc, od, kV, doc, pm, an, cdv, ct, osl, e, l, c⟩, kp⟩
  · exact absurd rfl ne
/-- a method with one keyword-only default, None -/
def defN (x m q k : Str) (st : Stmt) : He.DefD := ⟨(x, some m), m, q, defArgs st, defBody st, defScope st, [], [(k, .non)]⟩
theorem SaysX.mthN {fx : List Fx} {fn : List He.DefD} {K : PySem.W.Frag} (c : SaysX fx fn K) (i : Nat) {x m q k : Str} {st : Stmt} (h : fn[i]? = some (defN x m q k st) := by rfl) : ∃ fd, FunD K m q (defArgs st) (defBody st) (defScope st) [] [(k, V.non)] (He.ma K (He.ga K x) m) fd :=
  let ⟨fd, F⟩ := c.dfn i h; ⟨fd, F⟩
def clsX (x : Str) : Fx := fun K => (He.Fa.cls x).ok K
def noatX (x f : Str) : Fx := fun K => (He.Fa.noat x f).ok K
def methX (x m : Str) : Fx := fun K => (He.Fa.meth x m).ok K
def mkrX (x : Str) : Fx := fun K => (He.Fa.mkr x).ok K
def exmX (x y : Str) (b : Bool) : Fx := fun K => (He.Fa.exm x y b).ok K
theorem exmX_ok {K : PySem.W.Frag} {x y : Str} {b : Bool} (c : exmX x y b K = true) : PySem.W.exmOne K (.ref (He.ga K x)) (.ref (He.ga K y)) = some b := of_decide_eq_true c
end J
/-! a law's end by looks at objects whose addresses are told; the run's equation in two -/
namespace J
open PySem PySem.Spec PyProof.Rows L2 M
theorem opt3 {α β γ δ : Type} {o : Option α} {f : α → β} {g : α → γ} {k : α → δ} {b : β} {c : γ} {d : δ} (h1 : o.map (fun x => (f x, g x)) = some (b, c)) (h2 : o.map k = some d) : o.map (fun x => (f x, g x, k x)) = some (b, c, d) := by
  obtain ⟨x, e, q⟩ := Option.map_eq_some_iff.mp h1
  rw [e] at h2 ⊢
  have q2 : k x = d := Option.some.inj h2
  obtain ⟨e1, e2⟩ := Prod.mk.inj q
  show some (f x, g x, k x) = _
  rw [e1, e2, q2]
end J
/-! the end of a law that asks for reprs and makes lambdas: one code table grows -/
namespace J
open PySem PySem.Spec PyProof.Rows L2 LamX
abbrev Tab0 : Obj := { cls := .none, data := .fields #[] }
section
variable {P : Program} {w : World} {K : PySem.W.Frag} {mg mb : Str → Option Value} {k : Nat} {fa a c0 T : Addr} {fd : FuncData} {x : Str} {sp : Sp} {s : Shared} {vs : List Value}
/-- an empty table is tracked, and the script or nothing else -/
theorem tab_at (kin : K.In s.heap) (nsG : s.heap.Ns mainGlobals mg) (nsB : s.heap.Ns builtinsNs mb) (boot : ∀ x : Str, x ≠ "__name__" → mb x = bootBuiltins x) (free : s.heap.NoLimit) (gens : s.gens = #[]) (room : Room k callerA)
    (tabIs : s.heap.get? T = some Tab0) (tabOut : K.lookup T = none) (cod : PySem.W.codeHdIn K c0 T = true) (bm : s.heap.BuiltinsAt mg T)
    (F : ∀ base : Heap, K.In base → base.Ns mainGlobals mg → TabB base mg c0 T → FnG P w K mg base CX0 k fa fd [x] sp) (bind : ∀ (s : Shared) (u : Value), BindsTo s fd ⟨[u], []⟩ [(x, u)])
    (isA : s.heap.get? a = some { cls := .type "list", data := .seq vs.toArray })
    {H : Hp} (atT : H T = some (.tbl #[])) (only : ∀ b, b ≠ T → H b = none ∨ ∃ o xs, H b = some (.frz o (.lst xs))) (hok : HOk P w H s.heap) (just : ∀ b, b ≠ T → H b ≠ none → b = a) (apart : H a ≠ none → K.lookup a = none)
    (h : sp [.ref a] H (fun v _ => v = .bl true) fun _ _ _ => False) : codeAny (model P w) callerA (.call (.ref fa) ⟨[.ref a], []⟩) (fun r s' => Fine s s' r) s := by
  have vis : ∀ {b : Addr} {o : Obj}, s.heap.get? b = some o → (∀ l n, o.data ≠ .seq l n) → o.data ≠ .fields #[] → H b = none := fun {b o} e n1 n2 => Classical.byContradiction fun z => by
    by_cases t : b = T
    · subst t
      cases tabIs.symm.trans e
      exact n2 rfl
    · have ba := just b t z
      subst ba
      cases isA.symm.trans e
      exact n1 _ _ rfl
  have see : ∀ {b : Addr} {m : Str → Option Value}, s.heap.Ns b m → (hidT s.heap H).Ns b m := fun {b m} ns => by
    obtain ⟨o, es, ep, e, d, r⟩ := ns
    exact ⟨o, es, ep, hidT_get e (vis e (fun l n z => by rw [d] at z; cases z) fun z => by rw [d] at z; cases z), d, r⟩
  have kb : K.In (hidT s.heap H) := fun b o e => hidT_get (kin b o e) (Classical.byContradiction fun z => by
    by_cases t : b = T
    · subst t
      exact nomatch tabOut.symm.trans e
    · have ba := just b t z
      subst ba
      exact nomatch (apart z).symm.trans e)
  have tb : TabB (hidT s.heap H) mg c0 T := NdefX.tabB_of_K kb cod (by
    obtain ⟨m, ob, b1, b2, b3, b4, b5, b6, b7, b8⟩ := bm
    exact ⟨m, ob, b1, b2, b3, b4, hidT_get b5 (vis b5 (fun l n z => by rw [b8] at z; cases z) fun z => by rw [b8] at z; cases z), b6, b7, b8⟩) fun z => by
    obtain ⟨o, es, ep, e, d, _⟩ := nsG
    rw [z, tabIs] at e
    cases e
    cases d
  have mod : Mod K mg (hidT s.heap H) := ⟨kb, see nsG, ⟨mb, see nsB, boot⟩, free.elim fun mc z => ⟨mc, see z.1, z.2⟩⟩
  have e0 : Env0 P w K mg (hidT s.heap H) callerA [] s H := ⟨rfl, mod, fun b o e => of_hidT e, Nat.le_of_eq (hidT_size _ _), trivial, fun b hb => (List.not_mem_nil hb).elim, hok, .of_eq gens⟩
  refine codeAny_mono ((F _ kb (see nsG) tb).goes callerA rfl room [] s H e0 ⟨[.ref a], []⟩ [.ref a] [.ref a] _ _ (bind s (.ref a)) (.cons rfl .nil) h) fun r s' q => ?_
  match r, q with
  | .error e, q => exact (show False from q).elim
  | .ok .next, q => exact q.elim
  | .ok .brk, q => exact q.elim
  | .ok .cont, q => exact q.elim
  | .ok (.ret u), q =>
    obtain ⟨v, H', os, bare, un, hok', rv, ev⟩ := q
    obtain rfl : v = .bl true := ev
    obtain rfl : u = Value.bool true := rv
    obtain ⟨more, hm⟩ := un.tbls T #[] atT
    have hm2 := hok' T _ hm
    have stay : ∀ b o, b ≠ T → s.heap.get? b = some o → s'.heap.get? b = some o := fun b o t e => by
      rcases only b t with z | ⟨ob, xs, z⟩
      · exact un.keep b o e z List.not_mem_nil List.not_mem_nil
      · have g1 := (hok b _ z).1
        have g2 := (hok' b _ (un.frzs b ob _ z)).1
        cases g1.symm.trans e
        exact g2
    refine ⟨rfl, ⟨fun b o e => ?_, fun b o e => ?_⟩, os, bare⟩
    · by_cases t : b = T
      · subst t
        cases tabIs.symm.trans e
        exact .inr (.inl ⟨((PySem.W.codeHd_of_K kin cod).tab (ps := #[]) tabIs).isCodeTable, rfl, #[], more, rfl, by rw [Array.empty_append]; rw [Array.empty_append] at hm2; exact hm2⟩)
      · exact .inl (stay b o t e)
    · by_cases t : b = T
      · subst t
        exact ⟨_, hm2⟩
      · exact ⟨o, stay b o t e⟩
/-- the law's promise at the heap behind the top, where one table stands empty -/
theorem tab_call {n : Nat} {ns : List Int} (kin : K.In s.heap) (nsG : s.heap.Ns mainGlobals mg) (nsB : s.heap.Ns builtinsNs mb) (boot : ∀ x : Str, x ≠ "__name__" → mb x = bootBuiltins x) (free : s.heap.NoLimit) (gens : s.gens = #[]) (room : Room k callerA)
    (tabIs : s.heap.get? T = some Tab0) (tabOut : K.lookup T = none) (cod : PySem.W.codeHdIn K c0 T = true) (bm : s.heap.BuiltinsAt mg T)
    (F : ∀ base : Heap, K.In base → base.Ns mainGlobals mg → TabB base mg c0 T → FnG P w K mg base CX0 k fa fd [x] sp) (bind : ∀ (s : Shared) (u : Value), BindsTo s fd ⟨[u], []⟩ [(x, u)])
    (isA : s.heap.get? a = some { cls := .type "list", data := .seq vs.toArray }) (hi : IntsAre vs ns) (hl : ns.length ≤ n) (hn : n ≤ sizeLine)
    (h : ∀ H : Hp, H T = some (.tbl #[]) → SqL K H a (ns.map V.int) → sp [.ref a] H (fun v _ => v = .bl true) fun _ _ _ => False) :
    codeAny (model P w) callerA (.call (.ref fa) ⟨[.ref a], []⟩) (fun r s' => Fine s s' r) s := by
  have rv := vals_ints hi
  have small : ns.length ≤ sizeLine := Nat.le_trans hl hn
  have aT : a ≠ T := fun z => by
    rw [z, tabIs] at isA
    cases isA
  cases q : K.lookup a with
  | some o =>
    have e := kin a o q
    rw [isA] at e
    cases e
    let G : Hp := fun b => if b = T then some (.tbl #[]) else none
    have gT : G T = some (.tbl #[]) := if_pos rfl
    have gN : ∀ b, b ≠ T → G b = none := fun b z => if_neg z
    refine tab_at kin nsG nsB boot free gens room tabIs tabOut cod bm F bind isA (H := G) gT (fun b z => .inl (gN b z)) (fun b u z => ?_) (fun b z y => absurd (gN b z) y) (fun z => absurd (gN a aT) z) (h G gT (.inr ⟨_, vs.toArray, _, q, rfl, rfl, rfl, ?_, by simpa using rv⟩))
    · by_cases t : b = T
      · subst t
        cases gT.symm.trans z
        exact tabIs
      · exact nomatch (gN b t).symm.trans z
    · rw [List.size_toArray, hi.length]
      exact small
  | none =>
    let ob : Obj := { cls := .type "list", data := .seq vs.toArray }
    let G : Hp := fun b => if b = T then some (.tbl #[]) else if b = a then some (.frz ob (.lst (ns.map V.int))) else none
    have gT : G T = some (.tbl #[]) := if_pos rfl
    have gA : G a = some (.frz ob (.lst (ns.map V.int))) := (if_neg aT).trans (if_pos rfl)
    have gN : ∀ b, b ≠ T → b ≠ a → G b = none := fun b z y => (if_neg z).trans (if_neg y)
    refine tab_at kin nsG nsB boot free gens room tabIs tabOut cod bm F bind isA (H := G) gT (fun b z => ?_) (fun b u z => ?_) (fun b z y => Classical.byContradiction fun v => y (gN b z v)) (fun _ => q) (h G gT (.inl (.inr ⟨ob, gA⟩)))
    · by_cases y : b = a
      · exact .inr ⟨ob, ns.map V.int, y ▸ gA⟩
      · exact .inl (gN b z y)
    · by_cases t : b = T
      · subst t
        cases gT.symm.trans z
        exact tabIs
      · by_cases y : b = a
        · subst y
          cases gA.symm.trans z
          exact ⟨isA, by rw [List.length_map]; exact small, vs, _, rv, isA⟩
        · exact nomatch (gN b t y).symm.trans z
end
/-! ### the hook: looks, one def's code table, empty, and a dict of the module with text keys -/
abbrev AlT2 : Type := He.AlD × Option (List (Option (Str × Int)))
def obsT (as : List Addr) (fx : List Fx) (fn : List He.DefD) (tf : List He.Defn) (dn : Str) (g : Addr → Option Obj) : AlT2 := (((obsX fx fn (He.frT g as)).1 && He.tabsB g tf (He.frT g as), (obsX fx fn (He.frT g as)).2), He.dicW (He.frT g as) (He.ga (He.frT g as) dn))
def valT (fn : List He.DefD) (ks : List Str) (w : World) : AlT2 := (He.valD fn, some (He.keysIn w.params ks))
structure SaysT (fx : List Fx) (fn : List He.DefD) (tf : List He.Defn) (dn : Str) (ks : List Str) (w : World) (h : Heap) (K : PySem.W.Frag) : Prop where
  x : SaysX fx fn K
  hd : ∀ p ∈ tf, PySem.W.codeHdIn K (He.cT K p).1 (He.cT K p).2 = true
  out : ∀ p ∈ tf, K.lookup (He.cT K p).2 = none
  empty : ∀ p ∈ tf, h.get? (He.cT K p).2 = some Tab0
  dic : He.dicW K (He.ga K dn) = some (He.keysIn w.params ks)
theorem saysT_of {as : List Addr} {fx : List Fx} {fn : List He.DefD} {tf : List He.Defn} {dn : Str} {ks : List Str} {w : World} {h : Heap} (e : obsT as fx fn tf dn h.get? = valT fn ks w) : SaysT fx fn tf dn ks w h (He.frT h.get? as) := by
  obtain ⟨e0, e5⟩ := Prod.mk.inj e
  obtain ⟨e1, e2⟩ := Prod.mk.inj e0
  obtain ⟨e3, e4⟩ := Bool.and_eq_true_iff.mp e1
  have key : ∀ p ∈ tf, PySem.W.codeHdIn (He.frT h.get? as) (He.cT (He.frT h.get? as) p).1 (He.cT (He.frT h.get? as) p).2 = true ∧ ∃ o, h.get? (He.cT (He.frT h.get? as) p).2 = some o ∧ He.emptyTab o = true := fun p hp => by
    obtain ⟨k1, k2⟩ := Bool.and_eq_true_iff.mp (List.all_eq_true.mp e4 p hp)
    refine ⟨k1, ?_⟩
    split at k2
    · rename_i o q
      exact ⟨o, q, k2⟩
    · cases k2
  refine ⟨Prod.ext e3 e2, fun p hp => (key p hp).1, fun p hp => ?_, fun p hp => ?_, e5⟩
  · obtain ⟨_, o, q, z⟩ := key p hp
    exact He.frT_none q z
  · obtain ⟨_, o, q, z⟩ := key p hp
    rw [q, He.emptyTab_eq z]
def hookT (as : List Addr) (fx : List Fx) (fn : List He.DefD) (tf : List He.Defn) (dn : Str) (ks : List Str) : PySem.W.Hook :=
  { α := AlT2, obs := fun s => obsT as fx fn tf dn s.heap.get?, val := fun w => valT fn ks w, says := fun w h => ∃ K : PySem.W.Frag, K.In h ∧ SaysT fx fn tf dn ks w h K,
    of := fun _ _ e => ⟨_, He.frT_in, saysT_of e⟩, keeps := fun _ _ _ z k => let ⟨K, hK, c⟩ := z; ⟨K, PySem.W.Frag.In.keeps hK k, ⟨c.x, c.hd, c.out, fun p hp => k _ _ (c.empty p hp), c.dic⟩⟩ }
theorem obsT_eq {as : List Addr} {fx : List Fx} {fn : List He.DefD} {tf : List He.Defn} {dn : Str} {ks : List Str} {g : Addr → Option Obj} {s : Shared} (h : ∀ a, g a = s.heap.get? a) : obsT as fx fn tf dn g = (hookT as fx fn tf dn ks).obs s := by
  rw [show g = s.heap.get? from funext h]
  rfl
/-- a def's code object -/
theorem code_of {K : PySem.W.Frag} {x qual : Str} {st : Stmt} {f : Addr} {fd : FuncData} (F : Fun K x qual st f fd) (p : He.Defn) (hf : He.fAd K p = f) : fd.code = .ref (He.codeOf K p) := by
  obtain ⟨oc, od, kV, doc, pm, an, cdv, ct, osl, rfl, lk, hcd⟩ := F.ex
  obtain ⟨c, rfl⟩ := He.codeIn_ref hcd
  rw [← hf] at lk
  rw [He.codeOf_eq lk rfl]
theorem walk_ofT {l : PySem.W.OpenLaw} {n k : Nat} {as : List Addr} {q : Program} {loose : List Str} {XP : (Str → Option Value) → Heap → Prop} {d : DefRec} {fx : List Fx} {fn : List He.DefD} {p : He.Defn} {dn : Str} {ks : List Str} {sp : PySem.W.Frag → Addr → Sp} {x : Str}
    (hn : l.most = some n) (hn2 : n ≤ sizeLine) (hdf : d.params.defaults = []) (room : Room k callerA)
    (F : ∀ (w : World) (K : PySem.W.Frag) (mg : Str → Option Value) (fa : Addr) (h : Heap), K.In h → SaysX fx fn K → He.dicW K (He.ga K dn) = some (He.keysIn w.params ks) → h.Ns mainGlobals mg → mg d.name = some (.ref fa) →
      ∃ fd : FuncData, (∀ (s : Shared) (u : Value), BindsTo s fd ⟨[u], []⟩ [(x, u)]) ∧ ∀ base : Heap, K.In base → base.Ns mainGlobals mg → TabB base mg (He.cT K p).1 (He.cT K p).2 → FnG l.prog w K mg base CX0 k fa fd [x] (sp K (He.cT K p).2))
    (hsp : ∀ (K : PySem.W.Frag) (T : Addr) (H : Hp) (a : Addr) (ns : List Int), ns.length ≤ n → H T = some (.tbl #[]) → SqL K H a (ns.map V.int) → sp K T [.ref a] H (fun v _ => v = .bl true) fun _ _ _ => False) :
    PySem.W.WalkO q loose XP (hookT as fx fn [p] dn ks).says l.row.toRowW d [] (fun f vs => PySem.call f vs) :=
  Att.attach_call hn hdf fun w s₀ s₁ mg mb fa o pm cd doc a vs ns G Y ho hd hcd hmg hobj hints hlen hg => by
    obtain ⟨K, kin, c⟩ := Y
    obtain ⟨fd, hb, hF⟩ := F w K mg fa _ kin c.x c.dic G.T.g hmg
    have mem : p ∈ [p] := List.mem_cons_self ..
    have tabIs := c.empty p mem
    have bm : s₁.heap.BuiltinsAt mg (He.cT K p).2 := by
      obtain ⟨m, ob, b1, b2, b3, b4, b5, b6⟩ := G.T.bmain
      refine ⟨m, ob, b1, b2, fun z => ?_, fun z => ?_, b3, b4, b5, b6⟩
      · obtain ⟨o, es, ep, e, dd, _⟩ := G.T.g
        rw [z, e] at b3
        cases b3
        rw [dd] at b6
        cases b6
      · rw [z, tabIs] at b3
        cases b3
        cases b6
    exact tab_call kin G.T.g G.T.b G.T.builtins G.T.nolimit hg room tabIs (c.out p mem) (c.hd p mem) bm hF hb hobj hints hlen hn2 fun H hT hS => hsp K _ H a ns hlen hT hS
/-! ### more looks -/
/-- the address of a keyword's default, an object -/
def kwAd (f : He.Defn) (k : Str) (K : PySem.W.Frag) : Addr := match K.lookup (He.fAd K f) with
  | some ⟨_, _, .func fd, _⟩ => (match fd.kwdefaults with
    | .ref D => (match PySem.W.nsIn K D k with
      | some (some (.ref e)) => e
      | _ => 0)
    | _ => 0)
  | _ => 0
/-- a def of the top under another name -/
def defL (g x : Str) (st : Stmt) : He.DefD := ⟨(g, none), x, x, defArgs st, defBody st, defScope st, [], []⟩
/-- a def of the top with one keyword, whose default is an object -/
def defW (x k : Str) (st : Stmt) : He.DefD := ⟨(x, none), x, x, defArgs st, defBody st, defScope st, [], [(k, .adr (kwAd (x, none) k))]⟩
theorem SaysX.fnL {fx : List Fx} {fn : List He.DefD} {K : PySem.W.Frag} (c : SaysX fx fn K) (i : Nat) {g x : Str} {st : Stmt} (h : fn[i]? = some (defL g x st) := by rfl) : ∃ fd, Fun K x x st (He.ga K g) fd :=
  let ⟨fd, F⟩ := c.dfn i h; ⟨fd, fun_of (show FunD K x x (defArgs st) (defBody st) (defScope st) [] [] (He.ga K g) fd from F)⟩
theorem SaysX.fnW {fx : List Fx} {fn : List He.DefD} {K : PySem.W.Frag} (c : SaysX fx fn K) (i : Nat) {x k : Str} {st : Stmt} (h : fn[i]? = some (defW x k st) := by rfl) : ∃ fd v, FunD K x x (defArgs st) (defBody st) (defScope st) [] [(k, v)] (He.ga K x) fd :=
  let ⟨fd, F⟩ := c.dfn i h; ⟨fd, _, F⟩
/-- what may be asked of a class: no thing of the base's is one -/
def insX6 (x : Str) : Fx := fun K => eqB (PySem.W.findIn K (.ref (He.ga K x)) "__class__") (some (some (.builtin "object.__class__"))) && (eqB (PySem.W.specialIn K (.builtin "object.__class__") "__get__") (some (some (.builtin "getset_descriptor.__get__"))) &&
  (decide (PySem.W.takesIn K (.builtin "object.__class__") = some true) && (decide (PySem.W.mroIn K (He.ga K x) (.type "object") = some true) && (decide (PySem.W.kitOne K (.ref (He.ga K x)) (.ref (He.ga K x)) = some true) &&
  (decide (PySem.W.kitOne K (.type "NoneType") (.ref (He.ga K x)) = some false) && (decide (PySem.W.kitOne K (.type "int") (.ref (He.ga K x)) = some false) && (decide (PySem.W.kitOne K (.type "str") (.ref (He.ga K x)) = some false) && decide (PySem.W.kitOne K (.type "tuple") (.ref (He.ga K x)) = some false))))))))
theorem insX6_ok {K : PySem.W.Frag} {x : Str} (C : Cls K (He.ga K x)) (c : insX6 x K = true) : GIs6 K (He.ga K x) := by
  unfold insX6 eqB at c
  simp only [Bool.and_eq_true, decide_eq_true_eq] at c
  obtain ⟨c1, c2, c3, c4, c5, c6, c7, c8, c9⟩ := c
  exact ⟨⟨C, c1, c2, c3, c4, c5⟩, c6, c7, c8, c9⟩
/-- a dict of the module with text keys, one value of it -/
def dicX (x : Str) (kvs : List (Str × He.Dv)) : Fx := fun K => (He.Fa.glo x).ok K && He.valsB K (He.ga K x) kvs
theorem rkD_of {K : PySem.W.Frag} {w : World} {d : Addr} {ks : List Str} (few : ks.length ≤ 100) (h : He.dicW K d = some (He.keysIn w.params ks)) : RkD K w d ks := by
  obtain ⟨es, n, q, kl, ns⟩ := He.dicW_ok h
  have e : es.toList.map He.keyOf = He.keysIn w.params ks := by
    unfold He.dicW at h
    rw [q] at h
    have h : (match decide ("dict" = "dict") && ((#[] : Array (Option Value)).isEmpty && !(d == sysModules)) with
      | true => some (es.toList.map He.keyOf)
      | false => none) = some (He.keysIn w.params ks) := h
    rw [ns] at h
    exact Option.some.inj h
  have l : es.size = ks.length := by
    have := congrArg List.length e
    unfold He.keysIn at this
    rw [List.length_map, List.length_map, Array.length_toList] at this
    exact this
  refine ⟨⟨es, n, q, l, fun i hi => ?_⟩, ns, few⟩
  have ei := congrArg (fun z => z[i]?) e
  have lt : i < ks.length := by omega
  unfold He.keysIn at ei
  simp only [List.getElem?_map] at ei
  rw [List.getElem?_eq_getElem (by simpa using hi), List.getElem?_eq_getElem lt] at ei
  have ei := Option.some.inj ei
  unfold He.keyOf at ei
  split at ei
  · rename_i x t hx
    obtain ⟨h1, _⟩ := Prod.mk.inj (Option.some.inj ei)
    refine ⟨x, t, by rw [List.getElem?_eq_getElem lt, h1], ?_⟩
    simpa using hx
  · cases ei
theorem kDct_of {K : PySem.W.Frag} {w : World} {d : Addr} {ks : List Str} {kvs : List (Str × He.Dv)} {k : Str} {v : He.Dv} (h : He.dicW K d = some (He.keysIn w.params ks)) (c : He.valsB K d kvs = true) (m : (k, v) ∈ kvs) : KDct K w d k (v.v K) := by
  obtain ⟨es, n, q, kl, ns⟩ := He.dicW_ok h
  obtain ⟨u, e1, e2⟩ := He.valsB_ok c m
  exact ⟨es, n, u, q, kl, e1, e2⟩
theorem fun_ofKV {K : PySem.W.Frag} {x q : Str} {st : Stmt} {kws : List (Str × V)} {f : Addr} {fd : FuncData} (F : FunD K x q (defArgs st) (defBody st) (defScope st) [] kws f fd) : Fun K x q st f fd := fun_ofK F
theorem vals_app {vs zs : List V} {us ws : List Value} (r1 : Vals vs us) (r2 : Vals zs ws) : Vals (vs ++ zs) (us ++ ws) := by
  induction r1 with
  | nil => exact r2
  | cons h t ih => exact .cons h ih
end J
namespace K60
open PySem PySem.Spec PyProof.Rows L2 J M LamX NdefX
def fx0 : List Fx := [gloX "is_name", gloX "are_unlike", gloX "is_whole", gloX "_are_bounds", gloX "_are_choices", gloX "is_kind", gloX "begins_with_name", gloX "has_place_form", gloX "_are_in_order", gloX "_are_places", gloX "_is_tuple_to", gloX "has_command_form", gloX "_refuse_twice", gloX "_own_names", gloX "asked", gloX "_refuse_group", gloX "look_at_fitting", gloX "_refuse_deep", gloX "fitted", gloX "is_table", gloX "own_name", gloX "words_of", gloX "table_with", gloX "table_of", gloX "look_at_kinds", gloX "are_own_words", gloX "is_word", gloX "are_signs", gloX "fits", gloX "number_in"]
def fx1 : List Fx := [gloX "_are_figures", gloX "_law_box", gloX "_law_cell", gloX "_law_take", gloX "_law_names", gloX "_law_kinds", gloX "_law_teller", gloX "_law_tables", gloX "_law_due", gloX "_law_tried", gloX "_law_worths", gloX "_law_refused", gloX "law", freeX "len", freeX "set", freeX "all", freeX "any", freeX "isinstance", freeX "str", freeX "list", freeX "tuple", freeX "int", freeX "bool", freeX "min", freeX "max", freeX "range", freeX "repr", freeX "sorted", freeX "dict", freeX "enumerate"]
def fx2 : List Fx := [freeX "reversed", freeX "sum", intX "MOST_LETTERS" 8, intX "MOST_SIGNS" 40, intX "MOST_NUMBER" 999999, intX "MOST_NAMES" 8, intX "MOST_TEXT" 20, intX "MOST_OWN" 8, intX "MOST_OWN_SIGNS" 20, intX "MOST_COUNT" 9, intX "MOST_MANY" 6, intX "LOT_FIGURES" 18, intX "NAME" 0, intX "OPTIONS" 1, intX "PLACES" 2, intX "GROUPS" 3, intX "COMMANDS" 4, intX "SHORT" 1, intX "COMMAND_PARTS" 5, intX "OPTION_PARTS" 7, intX "PLACE_PARTS" 3, intX "GROUP_PARTS" 2, intX "LAST_RANK" 2, intX "LEAST_OPTION_LETTERS" 2, intX "LEAST_GROUPED" 2, intX "MOST_OPTIONS" 6, intX "MOST_PLACES" 4, intX "MOST_GROUPS" 4, intX "MOST_BENEATH" 6, intX "MOST_LEVELS" 2]
def fx3 : List Fx := [intX "MOST_COMMANDS" 12, tupX "FORMS" [.str "flag", .str "count", .str "one", .str "many"], tupX "WITH_KIND" [.str "one", .str "many"], tupX "GROUPINGS" [.str "just", .str "most", .str "with", .str "needs"], tupX "WITH_WORDS" [.str "one", .str "own"], veX "NoGrammar" "found", veX "NoKind" "found", gloX "Grammar", gloX "worth_of", clsX "Grammar", mkrX "Grammar", insX6 "Grammar", noatX "Grammar" "_own", noatX "Grammar" "_root", noatX "Grammar" "_commands", noatX "Grammar" "_words", noatX "Grammar" "_nodes", methX "Grammar" "own_words", methX "Grammar" "root", exmX "NoGrammar" "NoGrammar" true, exmX "NoKind" "NoGrammar" false, exmX "NoKind" "NoKind" true, dicX "RANKS" [("maybe", .int 1)]]
def fx : List Fx := fx0 ++ fx1 ++ fx2 ++ fx3
def fn0 : List He.DefD := [defX "is_name" s_is_name, defX "are_unlike" s_are_unlike, defX "is_whole" s_is_whole, defX "_are_bounds" s_are_bounds, defX "_are_choices" s_are_choices, defX "is_kind" s_is_kind, defX "begins_with_name" s_begins_with_name, defX "has_place_form" s_has_place_form, defX "_are_in_order" s_are_in_order, defX "_are_places" s_are_places, defX "_is_tuple_to" s_is_tuple_to, defX "has_command_form" s_has_command_form, defX "_refuse_twice" s_refuse_twice, defX "_own_names" s_own_names, defX "asked" s_asked, defX "_refuse_group" s_refuse_group, defL "look_at_fitting" "_look_at" s_look_at_fitting, defX "_refuse_deep" s_refuse_deep, defX "fitted" s_fitted, defX "is_table" s_is_table, defX "own_name" s_own_name, defX "words_of" s_words_of, defX "table_with" s_table_with, defX "table_of" s_table_of, defL "look_at_kinds" "_look_at" s_look_at_kinds, defX "are_own_words" s_are_own_words, defX "is_word" s_is_word, defX "are_signs" s_are_signs, defX "fits" s_fits, defX "number_in" s_number_in]
def fn1 : List He.DefD := [defX "_are_figures" s_are_figures, defX "_law_box" s_law_box, defX "_law_cell" s_law_cell, defX "_law_take" s_law_take, defX "_law_names" s_law_names, defX "_law_kinds" s_law_kinds, defX "_law_teller" s_law_teller, defX "_law_tables" s_law_tables, defX "_law_due" s_law_due, defX "_law_tried" s_law_tried, defX "_law_worths" s_law_worths, defX "_law_refused" s_law_refused, defX "law" s_law, defM "NoGrammar" "__init__" "NoGrammar.__init__" s_iNoGrammar, defM "NoKind" "__init__" "NoKind.__init__" s_iNoKind, defM "Grammar" "own_words" "Grammar.own_words" s_Grammar_own_words, defM "Grammar" "root" "Grammar.root" s_Grammar_root, defN "Grammar" "__init__" "Grammar.__init__" "own" s_Grammar_init, defW "worth_of" "own" s_worth_of]
def fn : List He.DefD := fn0 ++ fn1
abbrev tlr : He.Defn := ("_law_teller", none)
def lo0 : List Str := ["_wall", "CallError", "Missing", "Barred", "NoKind", "NoList", "NoOwn", "Unfit", "NoGrammar", "NotThere", "MOST_LETTERS", "MOST_SIGNS", "MOST_NUMBER", "MOST_NAMES", "MOST_TEXT", "MOST_OWN", "MOST_OWN_SIGNS", "MOST_COUNT", "MOST_MANY", "LOT_FIGURES", "is_whole", "is_name", "is_letter", "is_word", "are_signs", "is_kind", "_are_bounds", "_are_choices", "are_unlike", "are_own_words"]
def lo1 : List Str := ["number_in", "_are_figures", "_look_at", "look_at_kinds", "fits", "worth_of", "words_of", "fits_form", "_fits_as_default", "_are_defaults", "NAME", "OPTIONS", "PLACES", "GROUPS", "COMMANDS", "SHORT", "COMMAND_PARTS", "OPTION_PARTS", "PLACE_PARTS", "GROUP_PARTS", "FORMS", "WITH_KIND", "RANKS", "LAST_RANK", "GROUPINGS", "LEAST_OPTION_LETTERS", "LEAST_GROUPED", "MOST_OPTIONS", "MOST_PLACES", "MOST_GROUPS"]
def lo2 : List Str := ["MOST_BENEATH", "is_path", "begins_with_name", "has_command_form", "_is_tuple_to", "has_option_form", "_are_places", "has_place_form", "_are_in_order", "has_group_form", "own_name", "MOST_LEVELS", "MOST_COMMANDS", "is_table", "asked", "fitted", "_path_beneath", "look_at_fitting", "_refuse_twice", "_own_names", "_has_default", "_refuse_group", "_refuse_deep", "Grammar", "_named", "WITH_WORDS", "table_of", "table_with", "_law_cell", "_law_box"]
def lo3 : List Str := ["_law_take", "_law_names", "_law_teller", "_law_kinds", "_law_tables", "_law_due", "_law_tried", "_law_worths", "_law_refused"]
def loose : List Str := lo0 ++ lo1 ++ lo2 ++ lo3
abbrev R : PySem.W.OpenRow := PySem.W.OpenLaw.row PySem.Challenge.rw_callwords_k60_tables_of_kinds
/-- where what is looked at stands -/
def as : List Addr := [3, 31, 77, 153, 181, 188, 202, 209, 216, 223, 228, 235, 240, 247, 254, 402, 261, 268, 277, 284, 304, 305, 306, 307, 319, 324, 331, 343, 350, 355, 369, 374, 381, 388, 407, 412, 422, 429, 536, 548, 555, 562, 569, 576, 583, 588, 595, 602, 609, 616, 621, 626, 633, 638, 30, 76, 152, 180, 187, 201, 208, 215, 222, 227, 234, 239, 246, 253, 401, 260, 267, 276, 270, 283, 318, 323, 330, 342, 349, 354, 368, 373, 380, 387, 406, 411, 421, 428, 535, 554, 561, 568, 575, 582, 587, 594, 601, 608, 615, 620, 625, 632, 637, 74, 150, 442, 449, 491, 73, 149, 441, 437, 448, 490]
def ob (s : PySem.W.SharedT) : AlT2 := obsT as fx fn [tlr] "RANKS" (HandSHeadRun.getT s)
set_option maxHeartbeats 0 in
theorem seen_f (w : World) (os : OsState) : ((HandSHeadRun.endF (HandSHeadRun.stepQ (HandSHeadRun.denQ HandSHeadRun.tabQ) R.prog (w.withFollow "special-get-raises" false)) 30000 R.prog (w.withFollow "special-get-raises" false) os).map (fun x => (HandSHeadRun.looksF R.prog (PySem.W.boot_heap (w.withFollow "special-get-raises" false).params) x.abs, HandSHeadRun.seenQ (PySem.W.view R.prog [107]) loose (importedModules R.prog.main.body) (fun s => PySem.W.xlAt (PySem.W.view R.prog [107]) [] s && PySem.W.recOk R.toRowW.records s) x.abs))) = some (true, PySem.W.openGood (PySem.W.view R.prog [107]) loose) := by kernel_rfl
set_option maxHeartbeats 0 in
theorem look_f (w : World) (os : OsState) : ((HandSHeadRun.endF (HandSHeadRun.stepQ (HandSHeadRun.denQ HandSHeadRun.tabQ) R.prog (w.withFollow "special-get-raises" false)) 30000 R.prog (w.withFollow "special-get-raises" false) os).map (fun x => ob x)) = some (valT fn RNK (w.withFollow "special-get-raises" false)) := by kernel_rfl
set_option maxHeartbeats 0 in
theorem seen_t (w : World) (os : OsState) : ((HandSHeadRun.endF (HandSHeadRun.stepQ (HandSHeadRun.denQ HandSHeadRun.tabQ) R.prog (w.withFollow "special-get-raises" true)) 30000 R.prog (w.withFollow "special-get-raises" true) os).map (fun x => (HandSHeadRun.looksF R.prog (PySem.W.boot_heap (w.withFollow "special-get-raises" true).params) x.abs, HandSHeadRun.seenQ (PySem.W.view R.prog [107]) loose (importedModules R.prog.main.body) (fun s => PySem.W.xlAt (PySem.W.view R.prog [107]) [] s && PySem.W.recOk R.toRowW.records s) x.abs))) = some (true, PySem.W.openGood (PySem.W.view R.prog [107]) loose) := by kernel_rfl
set_option maxHeartbeats 0 in
theorem look_t (w : World) (os : OsState) : ((HandSHeadRun.endF (HandSHeadRun.stepQ (HandSHeadRun.denQ HandSHeadRun.tabQ) R.prog (w.withFollow "special-get-raises" true)) 30000 R.prog (w.withFollow "special-get-raises" true) os).map (fun x => ob x)) = some (valT fn RNK (w.withFollow "special-get-raises" true)) := by kernel_rfl
theorem run (w : World) : HandSHeadRun.RunEq R (PySem.W.view R.prog [107]) (hookT as fx fn [tlr] "RANKS" RNK) ob 30000 loose w := PySem.W.byRow2 "special-get-raises" (P := fun w => HandSHeadRun.RunEq R (PySem.W.view R.prog [107]) (hookT as fx fn [tlr] "RANKS" RNK) ob 30000 loose w) (fun w => fun os => opt3 (seen_f w os) (look_f w os)) (fun w => fun os => opt3 (seen_t w os) (look_t w os)) w
theorem facts {P : Program} {w : World} {K : PySem.W.Frag} {h : Heap} {mg : Str → Option Value} {fa : Addr} (X : K.In h) (c : SaysX fx fn K) (dc : He.dicW K (He.ga K "RANKS") = some (He.keysIn w.params RNK)) (G : h.Ns mainGlobals mg) (hfa : mg "law" = some (.ref fa)) :
    ∃ fd : FuncData, (∀ (s : Shared) (v : Value), BindsTo s fd ⟨[v], []⟩ [("_law_script", v)]) ∧ ∀ base : Heap, K.In base → base.Ns mainGlobals mg → TabB base mg (He.cT K tlr).1 (He.cT K tlr).2 → FnG P w K mg base CX0 12 fa fd ["_law_script"] (spLaw60 K (He.cT K tlr).2 WT.qual) := by
  have c_g_is_name := c.fact 0 rfl
  have c_g_are_unlike := c.fact 1 rfl
  have c_g_is_whole := c.fact 2 rfl
  have c_g_are_bounds := c.fact 3 rfl
  have c_g_are_choices := c.fact 4 rfl
  have c_g_is_kind := c.fact 5 rfl
  have c_g_begins_with_name := c.fact 6 rfl
  have c_g_has_place_form := c.fact 7 rfl
  have c_g_are_in_order := c.fact 8 rfl
  have c_g_are_places := c.fact 9 rfl
  have c_g_is_tuple_to := c.fact 10 rfl
  have c_g_has_command_form := c.fact 11 rfl
  have c_g_refuse_twice := c.fact 12 rfl
  have c_g_own_names := c.fact 13 rfl
  have c_g_asked := c.fact 14 rfl
  have c_g_refuse_group := c.fact 15 rfl
  have c_g_look_at_fitting := c.fact 16 rfl
  have c_g_refuse_deep := c.fact 17 rfl
  have c_g_fitted := c.fact 18 rfl
  have c_g_is_table := c.fact 19 rfl
  have c_g_own_name := c.fact 20 rfl
  have c_g_words_of := c.fact 21 rfl
  have c_g_table_with := c.fact 22 rfl
  have c_g_table_of := c.fact 23 rfl
  have c_g_look_at_kinds := c.fact 24 rfl
  have c_g_are_own_words := c.fact 25 rfl
  have c_g_is_word := c.fact 26 rfl
  have c_g_are_signs := c.fact 27 rfl
  have c_g_fits := c.fact 28 rfl
  have c_g_number_in := c.fact 29 rfl
  have c_g_are_figures := c.fact 30 rfl
  have c_g_law_box := c.fact 31 rfl
  have c_g_law_cell := c.fact 32 rfl
  have c_g_law_take := c.fact 33 rfl
  have c_g_law_names := c.fact 34 rfl
  have c_g_law_kinds := c.fact 35 rfl
  have c_g_law_teller := c.fact 36 rfl
  have c_g_law_tables := c.fact 37 rfl
  have c_g_law_due := c.fact 38 rfl
  have c_g_law_tried := c.fact 39 rfl
  have c_g_law_worths := c.fact 40 rfl
  have c_g_law_refused := c.fact 41 rfl
  have c_g_law := c.fact 42 rfl
  have c_z_len := c.fact 43 rfl
  have c_z_set := c.fact 44 rfl
  have c_z_all := c.fact 45 rfl
  have c_z_any := c.fact 46 rfl
  have c_z_isinstance := c.fact 47 rfl
  have c_z_str := c.fact 48 rfl
  have c_z_list := c.fact 49 rfl
  have c_z_tuple := c.fact 50 rfl
  have c_z_int := c.fact 51 rfl
  have c_z_bool := c.fact 52 rfl
  have c_z_min := c.fact 53 rfl
  have c_z_max := c.fact 54 rfl
  have c_z_range := c.fact 55 rfl
  have c_z_repr := c.fact 56 rfl
  have c_z_sorted := c.fact 57 rfl
  have c_z_dict := c.fact 58 rfl
  have c_z_enumerate := c.fact 59 rfl
  have c_z_reversed := c.fact 60 rfl
  have c_z_sum := c.fact 61 rfl
  have c_n_MOST_LETTERS := c.fact 62 rfl
  have c_n_MOST_SIGNS := c.fact 63 rfl
  have c_n_MOST_NUMBER := c.fact 64 rfl
  have c_n_MOST_NAMES := c.fact 65 rfl
  have c_n_MOST_TEXT := c.fact 66 rfl
  have c_n_MOST_OWN := c.fact 67 rfl
  have c_n_MOST_OWN_SIGNS := c.fact 68 rfl
  have c_n_MOST_COUNT := c.fact 69 rfl
  have c_n_MOST_MANY := c.fact 70 rfl
  have c_n_LOT_FIGURES := c.fact 71 rfl
  have c_n_NAME := c.fact 72 rfl
  have c_n_OPTIONS := c.fact 73 rfl
  have c_n_PLACES := c.fact 74 rfl
  have c_n_GROUPS := c.fact 75 rfl
  have c_n_COMMANDS := c.fact 76 rfl
  have c_n_SHORT := c.fact 77 rfl
  have c_n_COMMAND_PARTS := c.fact 78 rfl
  have c_n_OPTION_PARTS := c.fact 79 rfl
  have c_n_PLACE_PARTS := c.fact 80 rfl
  have c_n_GROUP_PARTS := c.fact 81 rfl
  have c_n_LAST_RANK := c.fact 82 rfl
  have c_n_LEAST_OPTION_LETTERS := c.fact 83 rfl
  have c_n_LEAST_GROUPED := c.fact 84 rfl
  have c_n_MOST_OPTIONS := c.fact 85 rfl
  have c_n_MOST_PLACES := c.fact 86 rfl
  have c_n_MOST_GROUPS := c.fact 87 rfl
  have c_n_MOST_BENEATH := c.fact 88 rfl
  have c_n_MOST_LEVELS := c.fact 89 rfl
  have c_n_MOST_COMMANDS := c.fact 90 rfl
  have c_n_FORMS := c.fact 91 rfl
  have c_n_WITH_KIND := c.fact 92 rfl
  have c_n_GROUPINGS := c.fact 93 rfl
  have c_n_WITH_WORDS := c.fact 94 rfl
  have c_e_NoGrammar := c.fact 95 rfl
  have c_e_NoKind := c.fact 96 rfl
  have c_gl_Grammar := c.fact 97 rfl
  have c_gl_worth := c.fact 98 rfl
  have c_cl_Grammar := c.fact 99 rfl
  have c_mk_Grammar := c.fact 100 rfl
  have c_is_Grammar := c.fact 101 rfl
  have c_ga_own := c.fact 102 rfl
  have c_ga_root := c.fact 103 rfl
  have c_ga_commands := c.fact 104 rfl
  have c_ga_words := c.fact 105 rfl
  have c_ga_nodes := c.fact 106 rfl
  have c_mt_Grammar_own_words := c.fact 107 rfl
  have c_mt_Grammar_root := c.fact 108 rfl
  have c_x_xx := c.fact 109 rfl
  have c_x_kx := c.fact 110 rfl
  have c_x_kk := c.fact 111 rfl
  have c_dic := c.fact 112 rfl
  obtain ⟨df_is_name, F_is_name⟩ := c.fn_ 0 rfl
  obtain ⟨df_are_unlike, F_are_unlike⟩ := c.fn_ 1 rfl
  obtain ⟨df_is_whole, F_is_whole⟩ := c.fn_ 2 rfl
  obtain ⟨df_are_bounds, F_are_bounds⟩ := c.fn_ 3 rfl
  obtain ⟨df_are_choices, F_are_choices⟩ := c.fn_ 4 rfl
  obtain ⟨df_is_kind, F_is_kind⟩ := c.fn_ 5 rfl
  obtain ⟨df_begins_with_name, F_begins_with_name⟩ := c.fn_ 6 rfl
  obtain ⟨df_has_place_form, F_has_place_form⟩ := c.fn_ 7 rfl
  obtain ⟨df_are_in_order, F_are_in_order⟩ := c.fn_ 8 rfl
  obtain ⟨df_are_places, F_are_places⟩ := c.fn_ 9 rfl
  obtain ⟨df_is_tuple_to, F_is_tuple_to⟩ := c.fn_ 10 rfl
  obtain ⟨df_has_command_form, F_has_command_form⟩ := c.fn_ 11 rfl
  obtain ⟨df_refuse_twice, F_refuse_twice⟩ := c.fn_ 12 rfl
  obtain ⟨df_own_names, F_own_names⟩ := c.fn_ 13 rfl
  obtain ⟨df_asked, F_asked⟩ := c.fn_ 14 rfl
  obtain ⟨df_refuse_group, F_refuse_group⟩ := c.fn_ 15 rfl
  obtain ⟨df_look_at_fitting, F_look_at_fitting⟩ := c.fnL 16 rfl
  obtain ⟨df_refuse_deep, F_refuse_deep⟩ := c.fn_ 17 rfl
  obtain ⟨df_fitted, F_fitted⟩ := c.fn_ 18 rfl
  obtain ⟨df_is_table, F_is_table⟩ := c.fn_ 19 rfl
  obtain ⟨df_own_name, F_own_name⟩ := c.fn_ 20 rfl
  obtain ⟨df_words_of, F_words_of⟩ := c.fn_ 21 rfl
  obtain ⟨df_table_with, F_table_with⟩ := c.fn_ 22 rfl
  obtain ⟨df_table_of, F_table_of⟩ := c.fn_ 23 rfl
  obtain ⟨df_look_at_kinds, F_look_at_kinds⟩ := c.fnL 24 rfl
  obtain ⟨df_are_own_words, F_are_own_words⟩ := c.fn_ 25 rfl
  obtain ⟨df_is_word, F_is_word⟩ := c.fn_ 26 rfl
  obtain ⟨df_are_signs, F_are_signs⟩ := c.fn_ 27 rfl
  obtain ⟨df_fits, F_fits⟩ := c.fn_ 28 rfl
  obtain ⟨df_number_in, F_number_in⟩ := c.fn_ 29 rfl
  obtain ⟨df_are_figures, F_are_figures⟩ := c.fn_ 30 rfl
  obtain ⟨df_law_box, F_law_box⟩ := c.fn_ 31 rfl
  obtain ⟨df_law_cell, F_law_cell⟩ := c.fn_ 32 rfl
  obtain ⟨df_law_take, F_law_take⟩ := c.fn_ 33 rfl
  obtain ⟨df_law_names, F_law_names⟩ := c.fn_ 34 rfl
  obtain ⟨df_law_kinds, F_law_kinds⟩ := c.fn_ 35 rfl
  obtain ⟨df_law_teller, F_law_teller⟩ := c.fn_ 36 rfl
  obtain ⟨df_law_tables, F_law_tables⟩ := c.fn_ 37 rfl
  obtain ⟨df_law_due, F_law_due⟩ := c.fn_ 38 rfl
  obtain ⟨df_law_tried, F_law_tried⟩ := c.fn_ 39 rfl
  obtain ⟨df_law_worths, F_law_worths⟩ := c.fn_ 40 rfl
  obtain ⟨df_law_refused, F_law_refused⟩ := c.fn_ 41 rfl
  obtain ⟨df_law, FD_law⟩ := c.dfn 42 (d := defX "law" s_law) rfl
  have FD_law : FunD K "law" "law" (defArgs s_law) (defBody s_law) (defScope s_law) [] [] (He.ga K "law") df_law := FD_law
  have F_law := fun_of FD_law
  have bL := FunD.bindsA (ps := ["_law_script"]) FD_law fun _ _ _ _ _ _ us hl => match us, hl with | [_], _ => rfl
  obtain ⟨di_iNoGrammar, F_iNoGrammar⟩ := c.mth 43 rfl
  obtain ⟨di_iNoKind, F_iNoKind⟩ := c.mth 44 rfl
  obtain ⟨dm_Grammar_own_words, F_Grammar_own_words⟩ := c.mth 45 rfl
  obtain ⟨dm_Grammar_root, F_Grammar_root⟩ := c.mth 46 rfl
  obtain ⟨dk_Grammar_init, F_Grammar_init⟩ := c.mthN 47 rfl
  obtain ⟨dw_worth, vw_worth, F_worth⟩ := c.fnW 48 rfl
  have D_is_name : DAt K mg "is_name" s_is_name P_is_name _ _ := ⟨F_is_name, He.glo_ok X G c_g_is_name, F_is_name.binds (ps := P_is_name) fun _ _ _ _ _ _ us hl => match us, hl with | [_], _ => rfl⟩
  have D_are_unlike : DAt K mg "are_unlike" s_are_unlike P_are_unlike _ _ := ⟨F_are_unlike, He.glo_ok X G c_g_are_unlike, F_are_unlike.binds (ps := P_are_unlike) fun _ _ _ _ _ _ us hl => match us, hl with | [_], _ => rfl⟩
  have D_is_whole : DAt K mg "is_whole" s_is_whole P_is_whole _ _ := ⟨F_is_whole, He.glo_ok X G c_g_is_whole, F_is_whole.binds (ps := P_is_whole) fun _ _ _ _ _ _ us hl => match us, hl with | [_, _, _], _ => rfl⟩
  have D_are_bounds : DAt K mg "_are_bounds" s_are_bounds P_are_bounds _ _ := ⟨F_are_bounds, He.glo_ok X G c_g_are_bounds, F_are_bounds.binds (ps := P_are_bounds) fun _ _ _ _ _ _ us hl => match us, hl with | [_], _ => rfl⟩
  have D_are_choices : DAt K mg "_are_choices" s_are_choices P_are_choices _ _ := ⟨F_are_choices, He.glo_ok X G c_g_are_choices, F_are_choices.binds (ps := P_are_choices) fun _ _ _ _ _ _ us hl => match us, hl with | [_], _ => rfl⟩
  have D_is_kind : DAt K mg "is_kind" s_is_kind P_is_kind _ _ := ⟨F_is_kind, He.glo_ok X G c_g_is_kind, F_is_kind.binds (ps := P_is_kind) fun _ _ _ _ _ _ us hl => match us, hl with | [_], _ => rfl⟩
  have D_begins_with_name : DAt K mg "begins_with_name" s_begins_with_name P_begins_with_name _ _ := ⟨F_begins_with_name, He.glo_ok X G c_g_begins_with_name, F_begins_with_name.binds (ps := P_begins_with_name) fun _ _ _ _ _ _ us hl => match us, hl with | [_], _ => rfl⟩
  have D_has_place_form : DAt K mg "has_place_form" s_has_place_form P_has_place_form _ _ := ⟨F_has_place_form, He.glo_ok X G c_g_has_place_form, F_has_place_form.binds (ps := P_has_place_form) fun _ _ _ _ _ _ us hl => match us, hl with | [_], _ => rfl⟩
  have D_are_in_order : DAt K mg "_are_in_order" s_are_in_order P_are_in_order _ _ := ⟨F_are_in_order, He.glo_ok X G c_g_are_in_order, F_are_in_order.binds (ps := P_are_in_order) fun _ _ _ _ _ _ us hl => match us, hl with | [_], _ => rfl⟩
  have D_are_places : DAt K mg "_are_places" s_are_places P_are_places _ _ := ⟨F_are_places, He.glo_ok X G c_g_are_places, F_are_places.binds (ps := P_are_places) fun _ _ _ _ _ _ us hl => match us, hl with | [_], _ => rfl⟩
  have D_is_tuple_to : DAt K mg "_is_tuple_to" s_is_tuple_to P_is_tuple_to _ _ := ⟨F_is_tuple_to, He.glo_ok X G c_g_is_tuple_to, F_is_tuple_to.binds (ps := P_is_tuple_to) fun _ _ _ _ _ _ us hl => match us, hl with | [_, _], _ => rfl⟩
  have D_has_command_form : DAt K mg "has_command_form" s_has_command_form P_has_command_form _ _ := ⟨F_has_command_form, He.glo_ok X G c_g_has_command_form, F_has_command_form.binds (ps := P_has_command_form) fun _ _ _ _ _ _ us hl => match us, hl with | [_], _ => rfl⟩
  have D_refuse_twice : DAt K mg "_refuse_twice" s_refuse_twice P_refuse_twice _ _ := ⟨F_refuse_twice, He.glo_ok X G c_g_refuse_twice, F_refuse_twice.binds (ps := P_refuse_twice) fun _ _ _ _ _ _ us hl => match us, hl with | [_, _], _ => rfl⟩
  have D_own_names : DAt K mg "_own_names" s_own_names P_own_names _ _ := ⟨F_own_names, He.glo_ok X G c_g_own_names, F_own_names.binds (ps := P_own_names) fun _ _ _ _ _ _ us hl => match us, hl with | [_], _ => rfl⟩
  have D_asked : DAt K mg "asked" s_asked P_asked _ _ := ⟨F_asked, He.glo_ok X G c_g_asked, F_asked.binds (ps := P_asked) fun _ _ _ _ _ _ us hl => match us, hl with | [_, _], _ => rfl⟩
  have D_refuse_group : DAt K mg "_refuse_group" s_refuse_group P_refuse_group _ _ := ⟨F_refuse_group, He.glo_ok X G c_g_refuse_group, F_refuse_group.binds (ps := P_refuse_group) fun _ _ _ _ _ _ us hl => match us, hl with | [_, _], _ => rfl⟩
  have D_look_at_fitting : DAl K mg "look_at_fitting" "_look_at" s_look_at_fitting P_look_at_fitting _ _ := ⟨F_look_at_fitting, He.glo_ok X G c_g_look_at_fitting, F_look_at_fitting.binds (ps := P_look_at_fitting) fun _ _ _ _ _ _ us hl => match us, hl with | [_, _, _, _], _ => rfl⟩
  have D_refuse_deep : DAt K mg "_refuse_deep" s_refuse_deep P_refuse_deep _ _ := ⟨F_refuse_deep, He.glo_ok X G c_g_refuse_deep, F_refuse_deep.binds (ps := P_refuse_deep) fun _ _ _ _ _ _ us hl => match us, hl with | [_], _ => rfl⟩
  have D_fitted : DAt K mg "fitted" s_fitted P_fitted _ _ := ⟨F_fitted, He.glo_ok X G c_g_fitted, F_fitted.binds (ps := P_fitted) fun _ _ _ _ _ _ us hl => match us, hl with | [_, _], _ => rfl⟩
  have D_is_table : DAt K mg "is_table" s_is_table P_is_table _ _ := ⟨F_is_table, He.glo_ok X G c_g_is_table, F_is_table.binds (ps := P_is_table) fun _ _ _ _ _ _ us hl => match us, hl with | [_], _ => rfl⟩
  have D_own_name : DAt K mg "own_name" s_own_name P_own_name _ _ := ⟨F_own_name, He.glo_ok X G c_g_own_name, F_own_name.binds (ps := P_own_name) fun _ _ _ _ _ _ us hl => match us, hl with | [_], _ => rfl⟩
  have D_words_of : DAt K mg "words_of" s_words_of P_words_of _ _ := ⟨F_words_of, He.glo_ok X G c_g_words_of, F_words_of.binds (ps := P_words_of) fun _ _ _ _ _ _ us hl => match us, hl with | [_, _], _ => rfl⟩
  have D_table_with : DAt K mg "table_with" s_table_with P_table_with _ _ := ⟨F_table_with, He.glo_ok X G c_g_table_with, F_table_with.binds (ps := P_table_with) fun _ _ _ _ _ _ us hl => match us, hl with | [_, _], _ => rfl⟩
  have D_table_of : DAt K mg "table_of" s_table_of P_table_of _ _ := ⟨F_table_of, He.glo_ok X G c_g_table_of, F_table_of.binds (ps := P_table_of) fun _ _ _ _ _ _ us hl => match us, hl with | [_, _], _ => rfl⟩
  have D_look_at_kinds : DAl K mg "look_at_kinds" "_look_at" s_look_at_kinds P_look_at_kinds _ _ := ⟨F_look_at_kinds, He.glo_ok X G c_g_look_at_kinds, F_look_at_kinds.binds (ps := P_look_at_kinds) fun _ _ _ _ _ _ us hl => match us, hl with | [_, _], _ => rfl⟩
  have D_are_own_words : DAt K mg "are_own_words" s_are_own_words P_are_own_words _ _ := ⟨F_are_own_words, He.glo_ok X G c_g_are_own_words, F_are_own_words.binds (ps := P_are_own_words) fun _ _ _ _ _ _ us hl => match us, hl with | [_], _ => rfl⟩
  have D_is_word : DAt K mg "is_word" s_is_word P_is_word _ _ := ⟨F_is_word, He.glo_ok X G c_g_is_word, F_is_word.binds (ps := P_is_word) fun _ _ _ _ _ _ us hl => match us, hl with | [_], _ => rfl⟩
  have D_are_signs : DAt K mg "are_signs" s_are_signs P_are_signs _ _ := ⟨F_are_signs, He.glo_ok X G c_g_are_signs, F_are_signs.binds (ps := P_are_signs) fun _ _ _ _ _ _ us hl => match us, hl with | [_], _ => rfl⟩
  have D_fits : DAt K mg "fits" s_fits P_fits _ _ := ⟨F_fits, He.glo_ok X G c_g_fits, F_fits.binds (ps := P_fits) fun _ _ _ _ _ _ us hl => match us, hl with | [_, _, _], _ => rfl⟩
  have D_number_in : DAt K mg "number_in" s_number_in P_number_in _ _ := ⟨F_number_in, He.glo_ok X G c_g_number_in, F_number_in.binds (ps := P_number_in) fun _ _ _ _ _ _ us hl => match us, hl with | [_], _ => rfl⟩
  have D_are_figures : DAt K mg "_are_figures" s_are_figures P_are_figures _ _ := ⟨F_are_figures, He.glo_ok X G c_g_are_figures, F_are_figures.binds (ps := P_are_figures) fun _ _ _ _ _ _ us hl => match us, hl with | [_], _ => rfl⟩
  have D_law_box : DAt K mg "_law_box" s_law_box P_law_box _ _ := ⟨F_law_box, He.glo_ok X G c_g_law_box, F_law_box.binds (ps := P_law_box) fun _ _ _ _ _ _ us hl => match us, hl with | [_], _ => rfl⟩
  have D_law_cell : DAt K mg "_law_cell" s_law_cell P_law_cell _ _ := ⟨F_law_cell, He.glo_ok X G c_g_law_cell, F_law_cell.binds (ps := P_law_cell) fun _ _ _ _ _ _ us hl => match us, hl with | [_, _], _ => rfl⟩
  have D_law_take : DAt K mg "_law_take" s_law_take P_law_take _ _ := ⟨F_law_take, He.glo_ok X G c_g_law_take, F_law_take.binds (ps := P_law_take) fun _ _ _ _ _ _ us hl => match us, hl with | [_, _], _ => rfl⟩
  have D_law_names : DAt K mg "_law_names" s_law_names P_law_names _ _ := ⟨F_law_names, He.glo_ok X G c_g_law_names, F_law_names.binds (ps := P_law_names) fun _ _ _ _ _ _ us hl => match us, hl with | [_, _, _], _ => rfl⟩
  have D_law_kinds : DAt K mg "_law_kinds" s_law_kinds P_law_kinds _ _ := ⟨F_law_kinds, He.glo_ok X G c_g_law_kinds, F_law_kinds.binds (ps := P_law_kinds) fun _ _ _ _ _ _ us hl => match us, hl with | [_], _ => rfl⟩
  have D_law_teller : DAt K mg "_law_teller" s_law_teller P_law_teller _ _ := ⟨F_law_teller, He.glo_ok X G c_g_law_teller, F_law_teller.binds (ps := P_law_teller) fun _ _ _ _ _ _ us hl => match us, hl with | [_], _ => rfl⟩
  have D_law_tables : DAt K mg "_law_tables" s_law_tables P_law_tables _ _ := ⟨F_law_tables, He.glo_ok X G c_g_law_tables, F_law_tables.binds (ps := P_law_tables) fun _ _ _ _ _ _ us hl => match us, hl with | [_, _], _ => rfl⟩
  have D_law_due : DAt K mg "_law_due" s_law_due P_law_due _ _ := ⟨F_law_due, He.glo_ok X G c_g_law_due, F_law_due.binds (ps := P_law_due) fun _ _ _ _ _ _ us hl => match us, hl with | [_, _], _ => rfl⟩
  have D_law_tried : DAt K mg "_law_tried" s_law_tried P_law_tried _ _ := ⟨F_law_tried, He.glo_ok X G c_g_law_tried, F_law_tried.binds (ps := P_law_tried) fun _ _ _ _ _ _ us hl => match us, hl with | [_, _, _], _ => rfl⟩
  have D_law_worths : DAt K mg "_law_worths" s_law_worths P_law_worths _ _ := ⟨F_law_worths, He.glo_ok X G c_g_law_worths, F_law_worths.binds (ps := P_law_worths) fun _ _ _ _ _ _ us hl => match us, hl with | [_, _, _], _ => rfl⟩
  have D_law_refused : DAt K mg "_law_refused" s_law_refused P_law_refused _ _ := ⟨F_law_refused, He.glo_ok X G c_g_law_refused, F_law_refused.binds (ps := P_law_refused) fun _ _ _ _ _ _ us hl => match us, hl with | [_, _], _ => rfl⟩
  have eL := hfa.symm.trans (He.glo_ok X G c_g_law)
  cases eL
  have T : Tx K mg := { z_len := He.free_ok X G c_z_len, z_set := He.free_ok X G c_z_set, z_all := He.free_ok X G c_z_all, z_any := He.free_ok X G c_z_any, z_isinstance := He.free_ok X G c_z_isinstance, z_str := He.free_ok X G c_z_str, z_list := He.free_ok X G c_z_list, z_tuple := He.free_ok X G c_z_tuple, z_int := He.free_ok X G c_z_int, z_bool := He.free_ok X G c_z_bool, z_min := He.free_ok X G c_z_min, z_max := He.free_ok X G c_z_max, z_range := He.free_ok X G c_z_range, z_repr := He.free_ok X G c_z_repr, z_sorted := He.free_ok X G c_z_sorted, z_dict := He.free_ok X G c_z_dict, z_enumerate := He.free_ok X G c_z_enumerate, z_reversed := He.free_ok X G c_z_reversed, z_sum := He.free_ok X G c_z_sum, c_MOST_LETTERS := He.int_ok X G c_n_MOST_LETTERS, c_MOST_SIGNS := He.int_ok X G c_n_MOST_SIGNS, c_MOST_NUMBER := He.int_ok X G c_n_MOST_NUMBER, c_MOST_NAMES := He.int_ok X G c_n_MOST_NAMES, c_MOST_TEXT := He.int_ok X G c_n_MOST_TEXT, c_MOST_OWN := He.int_ok X G c_n_MOST_OWN, c_MOST_OWN_SIGNS := He.int_ok X G c_n_MOST_OWN_SIGNS, c_MOST_COUNT := He.int_ok X G c_n_MOST_COUNT, c_MOST_MANY := He.int_ok X G c_n_MOST_MANY, c_LOT_FIGURES := He.int_ok X G c_n_LOT_FIGURES, c_NAME := He.int_ok X G c_n_NAME, c_OPTIONS := He.int_ok X G c_n_OPTIONS, c_PLACES := He.int_ok X G c_n_PLACES, c_GROUPS := He.int_ok X G c_n_GROUPS, c_COMMANDS := He.int_ok X G c_n_COMMANDS, c_SHORT := He.int_ok X G c_n_SHORT, c_COMMAND_PARTS := He.int_ok X G c_n_COMMAND_PARTS, c_OPTION_PARTS := He.int_ok X G c_n_OPTION_PARTS, c_PLACE_PARTS := He.int_ok X G c_n_PLACE_PARTS, c_GROUP_PARTS := He.int_ok X G c_n_GROUP_PARTS, c_LAST_RANK := He.int_ok X G c_n_LAST_RANK, c_LEAST_OPTION_LETTERS := He.int_ok X G c_n_LEAST_OPTION_LETTERS, c_LEAST_GROUPED := He.int_ok X G c_n_LEAST_GROUPED, c_MOST_OPTIONS := He.int_ok X G c_n_MOST_OPTIONS, c_MOST_PLACES := He.int_ok X G c_n_MOST_PLACES, c_MOST_GROUPS := He.int_ok X G c_n_MOST_GROUPS, c_MOST_BENEATH := He.int_ok X G c_n_MOST_BENEATH, c_MOST_LEVELS := He.int_ok X G c_n_MOST_LEVELS, c_MOST_COMMANDS := He.int_ok X G c_n_MOST_COMMANDS, c_FORMS := tupX_ok X G c_n_FORMS, c_WITH_KIND := tupX_ok X G c_n_WITH_KIND, c_GROUPINGS := tupX_ok X G c_n_GROUPINGS, c_WITH_WORDS := tupX_ok X G c_n_WITH_WORDS }
  have E_NoGrammar := errX_ok X G c_e_NoGrammar
  have O_NoGrammar : ∀ base : Heap, OE P w K mg base "NoGrammar" "found" _ := fun base => E_NoGrammar.oe (ok_iNoGrammar F_iNoGrammar) (F_iNoGrammar.binds (ps := ["self", "found"]) fun _ _ _ _ _ _ us hl => match us, hl with | [_, _], _ => rfl)
  have E_NoKind := errX_ok X G c_e_NoKind
  have O_NoKind : ∀ base : Heap, OE P w K mg base "NoKind" "found" _ := fun base => E_NoKind.oe (ok_iNoKind F_iNoKind) (F_iNoKind.binds (ps := ["self", "found"]) fun _ _ _ _ _ _ us hl => match us, hl with | [_, _], _ => rfl)
  have GC : GrC K (He.ga K "Grammar") := { cls := He.cls_ok c_cl_Grammar, own := He.noat_ok c_ga_own, root := He.noat_ok c_ga_root, commands := He.noat_ok c_ga_commands, words := He.noat_ok c_ga_words, nodes := He.noat_ok c_ga_nodes }
  have GI : GIs6 K (He.ga K "Grammar") := insX6_ok GC.cls c_is_Grammar
  have TQ : TQ60 K (He.ga K "NoKind") (He.ga K "NoGrammar") := { xx := exmX_ok c_x_xx, kx := exmX_ok c_x_kx, kk := exmX_ok c_x_kk, fx := E_NoGrammar.xf, fk := E_NoKind.xf }
  obtain ⟨c_dg, c_dv⟩ := Bool.and_eq_true_iff.mp c_dic
  have RK : Rks K w mg := ⟨⟨_, He.glo_ok X G c_dg, rkD_of (by decide) dc, kDct_of (v := .int 1) dc c_dv (List.mem_cons_self ..)⟩⟩
  have D_Grammar_own_words : MAt K (He.ga K "Grammar") "own_words" "Grammar.own_words" s_Grammar_own_words P_Grammar_own_words _ _ := ⟨F_Grammar_own_words, He.meth_ok c_mt_Grammar_own_words, F_Grammar_own_words.binds (ps := P_Grammar_own_words) fun _ _ _ _ _ _ us hl => match us, hl with | [_, _], _ => rfl⟩
  have D_Grammar_root : MAt K (He.ga K "Grammar") "root" "Grammar.root" s_Grammar_root P_Grammar_root _ _ := ⟨F_Grammar_root, He.meth_ok c_mt_Grammar_root, F_Grammar_root.binds (ps := P_Grammar_root) fun _ _ _ _ _ _ us hl => match us, hl with | [_], _ => rfl⟩
  obtain ⟨mv_G, bK_G⟩ := F_Grammar_init.kbinds0 (ps := P_Grammar_init) 2 ["own"] [] (fun us _ ws => us ++ ws) (by simp) (fun _ h => (List.not_mem_nil h).elim) (fun r1 _ r2 => vals_app r1 r2) (fun D doc pm an cdv ct us mv ws h1 h2 h3 => match us, h1, mv, h2, ws, h3 with | [_, _], _, [], _, [_], _ => rfl)
  have D_Grammar_init : IKt K mg "Grammar" "Grammar.__init__" s_Grammar_init P_Grammar_init (He.ga K "Grammar") _ _ := ⟨fun_ofK F_Grammar_init, He.mkr_ok c_mk_Grammar, bK_G⟩
  obtain ⟨mv_W, bK_W⟩ := F_worth.kbinds0 (ps := P_worth_of) 2 ["own"] [] (fun us _ ws => us ++ ws) (by simp) (fun _ h => (List.not_mem_nil h).elim) (fun r1 _ r2 => vals_app r1 r2) (fun D doc pm an cdv ct us mv ws h1 h2 h3 => match us, h1, mv, h2, ws, h3 with | [_, _], _, [], _, [_], _ => rfl)
  have D_worth_of : DKwo K mg "worth_of" s_worth_of P_worth_of _ _ := ⟨fun_ofKV F_worth, He.glo_ok X G c_gl_worth, bK_W⟩
  exact ⟨df_law, fun s v => bL s [v] rfl, fun base _ _ tb => ok_law T RK TQ GI GC (He.glo_ok X G c_gl_Grammar) (O_NoKind base) (O_NoGrammar base) D_Grammar_init D_worth_of F_law D_is_name D_are_unlike D_is_whole D_are_bounds D_are_choices D_is_kind D_begins_with_name D_has_place_form D_are_in_order D_are_places D_is_tuple_to D_has_command_form D_refuse_twice D_own_names D_asked D_refuse_group D_look_at_fitting D_refuse_deep D_fitted D_is_table D_own_name D_words_of D_table_with D_table_of D_look_at_kinds D_are_own_words D_is_word D_are_signs D_fits D_number_in D_are_figures D_law_box D_law_cell D_law_take D_law_names D_law_kinds D_law_teller D_law_tables D_law_due D_law_tried D_law_worths D_law_refused D_Grammar_own_words D_Grammar_root (code_of F_law_teller tlr rfl) tb⟩
end K60
open PySem PySem.W PySem.Calls PyProof.Rows
set_option maxRecDepth 100000 in
set_option maxHeartbeats 0 in
theorem PySem.Challenge.cw_callwords_k60_tables_of_kinds_holds : PySem.Challenge.rw_callwords_k60_tables_of_kinds.Holds := by
  w_on; o_law
  refine HandSHeadRun.head_any (r := OpenLaw.row PySem.Challenge.rw_callwords_k60_tables_of_kinds) (q := view (OpenLaw.row PySem.Challenge.rw_callwords_k60_tables_of_kinds).prog [107]) (H := J.hookT K60.as K60.fx K60.fn [K60.tlr] "RANKS" K60.RNK) (ob := K60.ob) (M := 30000) (loose := K60.loose) (d := HandSHeadRun.topDef (OpenLaw.row PySem.Challenge.rw_callwords_k60_tables_of_kinds).prog 107) (kwd := []) (fun s => J.obsT_eq (HandSHeadRun.getT_eq s))
    (by kernel_rfl) (fun s => by kernel_rfl) K60.run (by kernel_rfl) (by kernel_rfl) (by kernel_rfl) (by rfl) (by first | assumption | decide +kernel) (by decide +kernel) ⟨rfl, rfl, rfl, rfl, rfl, by decide +kernel⟩ ?hw ?hc
  case hw => w_witness2
  case hc =>
    refine J.walk_ofT (l := PySem.Challenge.rw_callwords_k60_tables_of_kinds) (n := 63) (k := 12) (x := "_law_script") (p := K60.tlr) (dn := "RANKS") (ks := K60.RNK) (sp := fun K T => J.spLaw60 K T K60.WT.qual) rfl (by decide) (by kernel_rfl) ⟨rfl, by decide, by decide⟩ ?F (fun K T H a ns hl hT hS => ⟨a, ns, rfl, hS, hl, LamX.TabS.nil hT, fun _ => rfl⟩)
    intro w K mg fa h KX c dc G hmg0
    have hmg : mg ("law" : PySem.Str) = some (.ref fa) := by
      rw [show ("law" : PySem.Str) = (HandSHeadRun.topDef (OpenLaw.row PySem.Challenge.rw_callwords_k60_tables_of_kinds).prog 107).name from by kernel_rfl]
      exact hmg0
    exact K60.facts KX c dc G hmg
