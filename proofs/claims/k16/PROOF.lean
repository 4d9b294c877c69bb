import PyProof.Rows.All
import Wide.All
import OpenK.AllK
import Wide.FinOn
import HandS.ForMost
import HandS.ForExc
import HandS.IsInst
import HandS.Flow
import HandS.StrMore
import HandS.TryMany
import HandS.ExcInit
import HandS.Wide
import HandS.WideBits
import HandS.TupAny
import HandS.Style
import HandS.Small
import HandS.Replace
import HandS.Deep
import PyProof.Draws
import PyProof.ReprRoads
import PyProof.StrBlock2
import KE.DataMinKey
import PyProof.WalkInts
import HandS.ReplaceLit
import HandS.ReplaceList
import HandS.ExcField
import HandS.ExcOwn
import HandS.WordsExc
import KE.KRevSl
import PyProof.SliceStr2
import HandS.Ends
import KE.KExcInit
import PyProof.ExcBaseAll.LookupError
import PyProof.ReprLen
import PyProof.StrLawsRepr
import KE.KWords
import KE.DatumOrd
import HandS.Strs
import HandS.Zip
import PyProof.WalksMore
import PyProof.TupleIter
import KE.IntTextText
import KE.KIntText
import KE.IntTextLaws
import HandS.Defaults
import HandS.RaiseMore
import KE.KExcStr
import KE.KExcIs
import PyProof.ExcRepr
import HandS.ExcValue
import HandS.MapObj
import HandS.MapJoin
import HandS.RevTup
import HandS.Rev
import KE.KStateDown
import HandS.Head0
import HandS.Head1
import HandS.Head2
import HandS.HeadEnd
import HandS.HeadHook1
import HandS.HeadHook2
import Wide.Once
import HandS.DictComp
import HandS.TupMul
import HandS.SortInts
import HandS.SetFor
import HandS.TupLen
import PyProof.AssignAttr
import HandS.Text
import PySem.Challenge.RW_callwords_k16_beginnings_that_read
import HandS.DictTup
import HandS.Conv
import KE.KSortTupAny
import PyProof.RulesRaise
import PyProof.FactsTree
import PyProof.ExcClass
import HandS.WordsDict
import HandS.Codes
import HandS.Head3
set_option Elab.async false
set_option linter.all false
set_option maxRecDepth 100000
set_option maxHeartbeats 4000000
namespace J
open PySem PySem.Spec PyProof.Rows L2  -- own
/-- the text of these codes -/
def S (l : List Nat) : Str := ⟨l.toArray⟩
theorem S_cps (l : List Nat) : (S l).cps.toList = l := by simp [S]
theorem S_of (x : Str) : S x.cps.toList = x := by cases x; simp [S]
theorem S_len (l : List Nat) : (S l).length = l.length := by simp [S, Str.length]
theorem S_inj {l m : List Nat} : S l = S m ↔ l = m := ⟨fun h => by have := congrArg (fun z : Str => z.cps.toList) h; simpa [S_cps] using this, fun h => by rw [h]⟩
section
variable {X : Cx}
/-- either of two readings of an operation -/
theorem orR {f : Value → Value → Sem Value} {r q : R2} (a : OpR X f r) (b : OpR X f q) : OpR X f (fun x y H Q => r x y H Q ∨ q x y H Q) :=
  fun pins s σ H x y v u Q I rx ry h => h.elim (fun z => a pins s σ H x y v u Q I rx ry z) fun z => b pins s σ H x y v u Q I rx ry z
def rMulS : R2 := fun x y H Q => ∃ (z : Str) (n : Int), x = .str z ∧ y = .int n ∧ MulOk z n ∧ Q (.str (Txt.mul z n)) H
theorem op_mulS : OpR X (binaryOp .Mult) rMulS := fun pins s σ H x y v u Q I rx ry h => by
  obtain ⟨z, n, ex, ey, ok, q⟩ := h
  subst ex ey
  obtain ⟨t, rfl⟩ := rx
  obtain ⟨t', rfl⟩ := ry
  exact SB.mul ok fun _ _ => ⟨.str _, H, I.tok _, ⟨_, rfl⟩, q⟩
/-- a + b: ints, texts, lists, tuples -/
def rAddI : R2 := fun x y H Q => ∃ i j : Int, x = .int i ∧ y = .int j ∧ Q (.int (i + j)) H
def rAddS : R2 := fun x y H Q => ∃ a b : Str, x = .str a ∧ y = .str b ∧ a.length + b.length ≤ sizeLine ∧ Q (.str (a ++ b)) H
def rAdd (K : PySem.W.Frag) : R2 := fun x y H Q => rAddI x y H Q ∨ rAddS x y H Q ∨ rCat x y H Q ∨ rCatA K x y H Q
theorem oAdd : OpR X (binaryOp .Add) (rAdd X.K) :=
  orR (fun pins s σ H x y v u Q I rx ry h => L2.op_add pins s σ H x y v u Q I rx ry h) (orR (fun pins s σ H x y v u Q I rx ry h => L2.op_add_str pins s σ H x y v u Q I rx ry h) (orR L2.op_cat L2.op_catA))
/-- a * b: ints, a text, a list by an int -/
def rMul : R2 := fun x y H Q => rI CMulW (fun i j => .int (i * j)) x y H Q ∨ rMulS x y H Q ∨ rRep x y H Q
theorem oMul : OpR X (binaryOp .Mult) rMul := orR L2.op_mulW (orR op_mulS L2.op_rep)
/-- == and != -/
def rEqA (K : PySem.W.Frag) : R2 := fun x y H Q => rEq x y H Q ∨ rEqD K x y H Q
def rNeA (K : PySem.W.Frag) : R2 := fun x y H Q => rNe x y H Q ∨ rNeD K x y H Q
theorem op_eqA (hu : X.A.units + 64 < cLine) : OpR X (compareOp .Eq) (rEqA X.K) := orR L2.op_eq (L2.op_eqD hu)
theorem op_neA (hu : X.A.units + 64 < cLine) : OpR X (compareOp .NotEq) (rNeA X.K) := orR L2.op_ne (L2.op_neD hu)
/-- in, not in: a sign in a text, a flat thing in a list or tuple -/
def rInS (neg : Bool) : R2 := fun x y H Q => ∃ (c : Nat) (z : Str), x = .str ⟨#[c]⟩ ∧ y = .str z ∧ Q (.bl (if neg = true then !decide (c ∈ z.cps.toList) else decide (c ∈ z.cps.toList))) H
def rInA (K : PySem.W.Frag) (neg : Bool) : R2 := fun x y H Q => rInS neg x y H Q ∨ rIn K neg x y H Q
theorem op_inA : OpR X (compareOp .In) (rInA X.K false) :=
  orR (fun pins s σ H x y v u Q I rx ry h => by obtain ⟨c, z, a, b, q⟩ := h; exact L2.op_in_sign pins s σ H x y v u Q I rx ry ⟨c, z, a, b, by simpa using q⟩) L2.op_in_seq
theorem op_notInA : OpR X (compareOp .NotIn) (rInA X.K true) :=
  orR (fun pins s σ H x y v u Q I rx ry h => by obtain ⟨c, z, a, b, q⟩ := h; exact L2.op_notIn_sign pins s σ H x y v u Q I rx ry ⟨c, z, a, b, by simpa using q⟩) L2.op_notIn_seq
/-- slices -/
def rSl (K : PySem.W.Frag) : V → Option Int → Option Int → Hp → VK → Prop := fun x lo hi H Q => rSlL K x lo hi H Q ∨ rSlS x lo hi H Q
theorem sl_any : SlR X (rSl X.K) := L2.sl_list.or L2.sl_str
/-- repr of data, where no repr is running -/
def rRepr (K : PySem.W.Frag) : List V → Hp → VK → Prop := fun xs H Q => ∃ (x : V) (d : PyData), xs = [x] ∧ Dp K H x d ∧ d.showable = true ∧ d.depth ≤ 60 ∧ d.hasDict = false ∧ d.shown.length ≤ sizeLine ∧ Q (.str d.shown) H
theorem call_repr (hg : X.A.guards = some []) (hu : X.A.units + 64 < cLine) : CallR X (.builtin "repr") (rRepr X.K) := fun pins s σ H xs us Q I r h => by
  obtain ⟨x, d, ex, hd, hs, hdp, hnd, hz, q⟩ := h
  subst ex
  obtain ⟨u, rfl, ru⟩ := vals1 r  -- own
  have hsm : ∀ as : List Addr, d.hasDict = true → sysModules ∉ as := fun as z => by rw [hnd] at z; cases z
  have far : ∀ {a : Addr} {as : List Addr}, Reads s.heap (.ref a) d as → wpAny (model X.prog X.w) X.A (call (.builtin "repr") [.ref a]) (EP X pins σ Q) X.xe s := fun {a as} rd =>
    repr_of_reads' rd hs (hsm as) hg (by omega) (fun _ _ e => e) (fun h' t tk hk => ⟨.str _, H, I.kept hk, ⟨_, rfl⟩, q⟩) hz
  obtain ⟨as, rd⟩ := Dp.reads I d x u hd ru
  cases hd with
  | non => cases (show u = Value.none from ru); exact PySem.P.repr_of_none ⟨.str _, H, I.tok _, ⟨_, rfl⟩, q⟩
  | bl b =>
    cases (show u = Value.bool b from ru)
    exact PySem.P.repr_of_bool ⟨.str _, H, I.tok _, ⟨_, rfl⟩, q⟩
  | int i =>
    obtain ⟨t, e⟩ := (show ∃ t, u = Value.int i t from ru)
    subst e
    exact PySem.P.repr_of_int (by simpa [PyData.showable] using hs) ⟨.str _, H, I.tok _, ⟨_, rfl⟩, q⟩
  | str z =>
    obtain ⟨t, e⟩ := (show ∃ t, u = Value.str z t from ru)
    subst e
    exact PySem.P.repr_of_str ⟨.str _, H, I.tok _, ⟨_, rfl⟩, q⟩ hz
  | lst a b =>
    cases (show u = Value.ref _ from ru)
    exact far rd
  | tup a b =>
    cases (show u = Value.ref _ from ru)
    exact far rd
end
end J
namespace J
open PySem PySem.Spec PyProof.Rows L2  -- own
/-- the loop's question -/
def LoopQ (J : It) (g : TG) (tb : TS) (D : Ends) (σ : L2.St) (H : Hp) : Prop :=
  ∃ W : Nat → Nat → L2.St → Hp → Prop, (∃ m, W 0 m σ H) ∧
    ∀ i m σ H, W i m σ H → (J.stop i H ∧ D.nx σ H) ∨
      (J.go i H ∧ ∃ N : L2.St → Hp → Prop, (∀ σ' H', N σ' H' → ∃ m', m' < m ∧ W (i + 1) m' σ' H') ∧
        ∀ x H', J.yld i H x H' → g x σ H' fun σ2 H2 => tb { D with nx := N, ct := N, bk := D.nx } σ2 H2)
/-- by an invariant over the turn: n turns -/
theorem loop_of {J : It} {g : TG} {tb : TS} {D : Ends} {σ : L2.St} {H : Hp} (n : Nat) (I : Nat → L2.St → Hp → Prop) (start : I 0 σ H)
    (go : ∀ i σ H, i < n → I i σ H → J.go i H) (stop : ∀ σ H, I n σ H → J.stop n H)
    (turn : ∀ i σ H x H', i < n → I i σ H → J.yld i H x H' → g x σ H' fun σ2 H2 => tb { D with nx := I (i + 1), ct := I (i + 1), bk := D.nx } σ2 H2)
    (fin : ∀ σ H, I n σ H → D.nx σ H) : LoopQ J g tb D σ H := by
  refine ⟨fun i m σ H => m = n - i ∧ i ≤ n ∧ I i σ H, ⟨n, by omega, Nat.zero_le _, start⟩, fun i m σ H w => ?_⟩
  obtain ⟨hm, hi, w⟩ := w
  subst hm
  rcases Nat.lt_or_ge i n with lt | ge
  · exact .inr ⟨go i σ H lt w, I (i + 1), fun σ' H' w' => ⟨n - (i + 1), by omega, rfl, lt, w'⟩, fun x H' y => turn i σ H x H' lt w y⟩
  · obtain rfl : i = n := by omega
    exact .inl ⟨stop σ H w, fin σ H w⟩
/-- the comprehension's question -/
def CompQ (J : It) (g : TG) (tt : TT) (te : TE) (vs : List Nat) (σ : L2.St) (H1 : Hp) (D : Addr) (Z : Hp → Prop) : Prop :=
  ∃ W : Nat → Nat → Hp → Prop, (∃ m, W 0 m (upd H1 D (.lst []))) ∧
    ∀ i m H, W i m H → (J.stop i H ∧ Z H) ∨
      (J.go i H ∧ ∃ Nx : Hp → Prop, (∀ H', Nx H' → ∃ m', m' < m ∧ W (i + 1) m' H') ∧
        ∀ x H', J.yld i H x H' → g x (wipe σ vs) H' fun σ2 H2 => wipe σ2 vs = wipe σ vs ∧ tt σ2 H2 fun b H3 =>
          if b = true then te σ2 H3 fun y H4 => ∃ acc, H4 D = some (.lst acc) ∧ acc.length < sizeLine ∧ Nx (upd H4 D (.lst (acc ++ [y]))) else Nx H3)  -- own
theorem comp_of {J : It} {g : TG} {tt : TT} {te : TE} {vs : List Nat} {σ : L2.St} {H1 : Hp} {D : Addr} {Z : Hp → Prop} (n : Nat) (I : Nat → Hp → Prop) (start : I 0 (upd H1 D (.lst [])))
    (go : ∀ i H, i < n → I i H → J.go i H) (stop : ∀ H, I n H → J.stop n H)
    (turn : ∀ i H x H', i < n → I i H → J.yld i H x H' → g x (wipe σ vs) H' fun σ2 H2 => wipe σ2 vs = wipe σ vs ∧ tt σ2 H2 fun b H3 =>
      if b = true then te σ2 H3 fun y H4 => ∃ acc, H4 D = some (.lst acc) ∧ acc.length < sizeLine ∧ I (i + 1) (upd H4 D (.lst (acc ++ [y]))) else I (i + 1) H3)
    (fin : ∀ H, I n H → Z H) : CompQ J g tt te vs σ H1 D Z := by
  refine ⟨fun i m H => m = n - i ∧ i ≤ n ∧ I i H, ⟨n, by omega, Nat.zero_le _, start⟩, fun i m H w => ?_⟩
  obtain ⟨hm, hi, w⟩ := w
  subst hm
  rcases Nat.lt_or_ge i n with lt | ge
  · exact .inr ⟨go i H lt w, I (i + 1), fun H' w' => ⟨n - (i + 1), by omega, rfl, lt, w'⟩, fun x H' y => turn i H x H' lt w y⟩
  · obtain rfl : i = n := by omega
    exact .inl ⟨stop H w, fin H w⟩
end J
namespace J
open PySem PySem.Spec PyProof.Rows L2  -- own
section
variable {X : Cx}
def rCmp (f : Int → Int → Bool) (g : List Nat → List Nat → Bool) : R2 := fun x y H Q => (∃ i j : Int, x = .int i ∧ y = .int j ∧ Q (.bl (f i j)) H) ∨ (∃ a b : Str, x = .str a ∧ y = .str b ∧ Q (.bl (g a.cps.toList b.cps.toList)) H)
theorem op_ltA : OpR X (compareOp .Lt) (rCmp (fun i j => decide (i < j)) fun a b => decide (a < b)) := orR (fun pins s σ H x y v u Q I rx ry h => L2.op_lt pins s σ H x y v u Q I rx ry h) (fun pins s σ H x y v u Q I rx ry h => L2.op_lt_str pins s σ H x y v u Q I rx ry h)
theorem op_leA : OpR X (compareOp .LtE) (rCmp (fun i j => decide (i ≤ j)) fun a b => !decide (b < a)) := orR (fun pins s σ H x y v u Q I rx ry h => L2.op_le pins s σ H x y v u Q I rx ry h) (fun pins s σ H x y v u Q I rx ry h => L2.op_le_str pins s σ H x y v u Q I rx ry h)
theorem op_gtA : OpR X (compareOp .Gt) (rCmp (fun i j => decide (j < i)) fun a b => decide (b < a)) := orR (fun pins s σ H x y v u Q I rx ry h => L2.op_gt pins s σ H x y v u Q I rx ry h) (fun pins s σ H x y v u Q I rx ry h => L2.op_gt_str pins s σ H x y v u Q I rx ry h)
end
section
variable {σ : L2.St} {H : Hp} {Q : VK} {D : Ends} {K : PySem.W.Frag}
theorem r_var {i : Nat} {v : V} (h : σ[i]? = some (some v)) (k : Q v H) : tVar i σ H Q := ⟨v, h, k⟩
theorem r_c {v : V} (k : Q v H) : tC v σ H Q := k
theorem r_op {r : R2} {ta tb : TE} (k : ta σ H fun x H1 => tb σ H1 fun y H2 => r x y H2 Q) : tOp r ta tb σ H Q := k
theorem r_un {r : V → Hp → VK → Prop} {ta : TE} (k : ta σ H fun x H1 => r x H1 Q) : tUn r ta σ H Q := k
theorem r_cb {r : List V → Hp → VK → Prop} {t : TA} (k : t σ H fun vs H1 => r vs H1 Q) : tCB r t σ H Q := k
theorem r_nil {Q : List V → Hp → Prop} (k : Q [] H) : tNil σ H Q := k
theorem r_cons {ta : TE} {tr : TA} {Q : List V → Hp → Prop} (k : ta σ H fun x H1 => tr σ H1 fun xs H2 => Q (x :: xs) H2) : tCons ta tr σ H Q := k
theorem r_tb {t : TE} {Q : Bool → Hp → Prop} (k : t σ H fun x H1 => ∃ c, x = .bl c ∧ Q c H1) : tB t σ H Q := k
theorem r_test {t : TE} {Q : Bool → Hp → Prop} (k : t σ H fun x H1 => ∃ c, x = .bl c ∧ Q c H1) : tTest t σ H Q := k
theorem r_bl {b : Bool} {Q : Bool → Prop} (k : Q b) : ∃ c, V.bl b = .bl c ∧ Q c := ⟨b, rfl, k⟩
theorem r_not {t : TT} {Q : Bool → Hp → Prop} (k : t σ H fun c H1 => Q (!c) H1) : tNot t σ H Q := k
theorem r_and {t u : TT} {Q : Bool → Hp → Prop} (k : t σ H fun c H1 => if c = true then u σ H1 Q else Q false H1) : tAnd t u σ H Q := k
theorem r_or {t u : TT} {Q : Bool → Hp → Prop} (k : t σ H fun c H1 => if c = true then Q true H1 else u σ H1 Q) : tOr t u σ H Q := k
theorem r_ifE {t : TT} {a b : TE} (k : t σ H fun c H1 => if c = true then a σ H1 Q else b σ H1 Q) : tIf t a b σ H Q := k
theorem r_call {sp : Sp} {dvs : List V} {E : XK} {t : TA} (k : t σ H fun vs H1 => sp (vs ++ dvs) H1 Q E) : tCall sp dvs E t σ H Q := k
theorem r_lst {t : TA} (k : t σ H fun xs H1 => xs.length ≤ sizeLine ∧ ∀ p, H1 p = none → Q (.ref p) (upd H1 p (.lst xs))) : tLst t σ H Q := k
theorem r_tup {t : TA} (k : t σ H fun xs H1 => xs.length ≤ sizeLine ∧ ∀ p, H1 p = none → Q (.ref p) (upd H1 p (.tup xs))) : tTup t σ H Q := k
theorem r_addI {i j : Int} (k : Q (.int (i + j)) H) : rAdd K (.int i) (.int j) H Q := .inl ⟨i, j, rfl, rfl, k⟩
theorem r_addS {a b : Str} (h : a.length + b.length ≤ sizeLine) (k : Q (.str (a ++ b)) H) : rAdd K (.str a) (.str b) H Q := .inr (.inl ⟨a, b, rfl, rfl, h, k⟩)
theorem r_rI {C : Int → Int → Prop} {g : Int → Int → V} {i j : Int} (h : C i j) (k : Q (g i j) H) : rI C g (.int i) (.int j) H Q := ⟨i, j, rfl, rfl, h, k⟩
theorem r_mulI {i j : Int} (h : CMulW i j) (k : Q (.int (i * j)) H) : rMul (.int i) (.int j) H Q := .inl ⟨i, j, rfl, rfl, h, k⟩
theorem r_mulS {z : Str} {n : Int} (h : MulOk z n) (k : Q (.str (Txt.mul z n)) H) : rMul (.str z) (.int n) H Q := .inr (.inl ⟨z, n, rfl, rfl, h, k⟩)
theorem r_cmpI {f : Int → Int → Bool} {g : List Nat → List Nat → Bool} {i j : Int} (k : Q (.bl (f i j)) H) : rCmp f g (.int i) (.int j) H Q := .inl ⟨i, j, rfl, rfl, k⟩
theorem r_cmpS {f : Int → Int → Bool} {g : List Nat → List Nat → Bool} {a b : Str} (k : Q (.bl (g a.cps.toList b.cps.toList)) H) : rCmp f g (.str a) (.str b) H Q := .inr ⟨a, b, rfl, rfl, k⟩
theorem dec_int {i j : Int} : decide (V.int i = V.int j) = decide (i = j) := by by_cases h : i = j <;> simp [h]
theorem dec_str {i j : Str} : decide (V.str i = V.str j) = decide (i = j) := by by_cases h : i = j <;> simp [h]
theorem r_eqI {i j : Int} (k : Q (.bl (decide (i = j))) H) : rEqA K (.int i) (.int j) H Q := .inl ⟨rfl, by rw [dec_int]; exact k⟩
theorem r_neI {i j : Int} (k : Q (.bl (!decide (i = j))) H) : rNeA K (.int i) (.int j) H Q := .inl ⟨rfl, by rw [dec_int]; exact k⟩
theorem r_eqS {i j : Str} (k : Q (.bl (decide (i = j))) H) : rEqA K (.str i) (.str j) H Q := .inl ⟨rfl, by rw [dec_str]; exact k⟩
theorem r_neS {i j : Str} (k : Q (.bl (!decide (i = j))) H) : rNeA K (.str i) (.str j) H Q := .inl ⟨rfl, by rw [dec_str]; exact k⟩
theorem r_inSF {c : Nat} {z : Str} (k : Q (.bl (decide (c ∈ z.cps.toList))) H) : rInA K false (.str ⟨#[c]⟩) (.str z) H Q := .inl ⟨c, z, rfl, rfl, k⟩
theorem r_inST {c : Nat} {z : Str} (k : Q (.bl (!decide (c ∈ z.cps.toList))) H) : rInA K true (.str ⟨#[c]⟩) (.str z) H Q := .inl ⟨c, z, rfl, rfl, k⟩
theorem log2_small {n : Nat} (h : n < 2 ^ 200) : n.log2 < 300000 := by
  by_cases h0 : n = 0
  · subst h0; decide
  · exact Nat.lt_of_lt_of_le ((Nat.log2_lt h0).mpr h) (by decide)
theorem cmulW {i j : Int} (hi : i.natAbs < 2 ^ 200) (hj : j.natAbs < 2 ^ 200) : CMulW i j := by
  have := log2_small hi
  have := log2_small hj
  show _ + _ < _
  omega
theorem r_ixL {p : Addr} {xs : List V} {i : Int} {v : V} (h : SqL K H p xs) (e : atI xs i = some v) (k : Q v H) : rIx K (.ref p) (.int i) H Q := .inl ⟨p, xs, i, v, rfl, rfl, h, e, k⟩
theorem r_ixS {z : Str} {i : Int} {c : Nat} (h : z.length ≤ sizeLine) (e : atI z.cps.toList i = some c) (k : Q (.str ⟨#[c]⟩) H) : rIx K (.str z) (.int i) H Q := .inr (.inr ⟨z, i, c, rfl, rfl, h, e, k⟩)
theorem r_seq {t u : TS} {n : L2.St → Hp → Prop} {rt : VK} {bk ct : L2.St → Hp → Prop} (k : t { nx := u ⟨n, rt, bk, ct⟩, rt := rt, bk := bk, ct := ct } σ H) : tSeq t u ⟨n, rt, bk, ct⟩ σ H := k
theorem r_next {n : L2.St → Hp → Prop} {rt : VK} {bk ct : L2.St → Hp → Prop} (k : n σ H) : tNext ⟨n, rt, bk, ct⟩ σ H := k
theorem r_ret {te : TE} {n : L2.St → Hp → Prop} {rt : VK} {bk ct : L2.St → Hp → Prop} (k : te σ H rt) : tRet te ⟨n, rt, bk, ct⟩ σ H := k
theorem r_drop {te : TE} {n : L2.St → Hp → Prop} {rt : VK} {bk ct : L2.St → Hp → Prop} (k : te σ H fun _ H1 => n σ H1) : tDrop te ⟨n, rt, bk, ct⟩ σ H := k
theorem r_rI0 {g : Int → Int → V} {i j : Int} (k : Q (g i j) H) : rI0 g (.int i) (.int j) H Q := ⟨i, j, rfl, rfl, k⟩
theorem r_setL {p : Addr} {xs : List V} {i : Int} {j : Nat} {v : V} {Q : Hp → Prop} (h : H p = some (.lst xs)) (e : ixN xs.length i = some j) (k : Q (upd H p (.lst (xs.set j v)))) : rSetL (.ref p) (.int i) v H Q := ⟨p, xs, i, j, rfl, rfl, h, e, k⟩
theorem r_sets {te : TE} {g : TG} {n : L2.St → Hp → Prop} {rt : VK} {bk ct : L2.St → Hp → Prop} (k : te σ H fun x H1 => g x σ H1 n) : tAsg te g ⟨n, rt, bk, ct⟩ σ H := k
theorem r_gname {i : Nat} {v : V} {Q : L2.St → Hp → Prop} (k : Q (σ.set i (some v)) H) : gName i v σ H Q := k
theorem r_ifS {c : TT} {t u : TS} (k : c σ H fun b H1 => if b = true then t D σ H1 else u D σ H1) : tIfS c t u D σ H := k
theorem r_gsub {to ti : TE} {t : TSet} {v : V} {Q : L2.St → Hp → Prop} (k : to σ H fun o H1 => ti σ H1 fun i H2 => t o i v H2 fun H3 => Q σ H3) : gSub to ti t v σ H Q := k
end
theorem r_ite {b : Bool} {A B : Prop} (h1 : b = true → A) (h2 : b = false → B) : if b = true then A else B := by cases b <;> simp_all
theorem r_iteD {p : Prop} {inst : Decidable p} {A B : Prop} (h1 : p → A) (h2 : ¬ p → B) : if decide p = true then A else B := by by_cases h : p <;> simp_all
theorem r_iteN {p : Prop} {inst : Decidable p} {A B : Prop} (h1 : ¬ p → A) (h2 : p → B) : if (!decide p) = true then A else B := by by_cases h : p <;> simp_all
def Keep (b : Addr) (H H' : Hp) : Prop := ∀ p o, H p = some o → p ≠ b → H' p = some o
theorem Keep.refl (b : Addr) (H : Hp) : Keep b H H := fun _ _ h _ => h
theorem Keep.trans {b : Addr} {H H1 H2 : Hp} (x : Keep b H H1) (y : Keep b H1 H2) : Keep b H H2 := fun p o h n => y p o (x p o h n) n
theorem Keep.upd (b : Addr) (H : Hp) (o : HO) : Keep b H (upd H b o) := fun p u h n => by rw [upd_ne n]; exact h
theorem Keep.new {b p : Addr} {H : Hp} (o : HO) (h : H p = none) : Keep b H (L2.upd H p o) := fun q u hq _ => by rw [upd_ne (ne_of_none hq h)]; exact hq
theorem Keep.same {b : Addr} {H H' : Hp} (h : Same H H') : Keep b H H' := fun p o q _ => h p o q
theorem Keep.seq {K : PySem.W.Frag} {b a : Addr} {xs : List V} {H H' : Hp} (x : Keep b H H') (n : a ≠ b) (h : SqL K H a xs) : SqL K H' a xs := by
  rcases h with (h | ⟨o, h⟩) | h  -- own
  · exact .inl (.inl (x _ _ h n))
  · exact .inl (.inr ⟨o, x _ _ h n⟩)
  · exact .inr h
theorem Keep.free {b a : Addr} {H H' : Hp} (x : Keep b H H') (n : a ≠ b) (h : H' a = none) : H a = none := by
  cases q : H a with
  | none => rfl
  | some o => rw [x a o q n] at h; cases h
theorem new_ne {H : Hp} {p q : Addr} {o : HO} (h : H p = none) (h' : H q = some o) : p ≠ q := fun e => by rw [e, h'] at h; cases h
def Bx (H : Hp) (b : Addr) (n : Nat) : Prop := ∃ x y z : Int, H b = some (.lst [.int x, .int y, .int z]) ∧ 0 ≤ x ∧ 0 ≤ y ∧ y < 2147483629 ∧ 0 ≤ z ∧ z ≤ n
theorem Bx.mono {H : Hp} {b : Addr} {n m : Nat} (h : Bx H b n) (l : n ≤ m) : Bx H b m := by
  obtain ⟨x, y, z, e, a1, a2, a3, a4, a5⟩ := h
  exact ⟨x, y, z, e, a1, a2, a3, a4, by omega⟩
theorem Bx.new {H : Hp} {b p : Addr} {n : Nat} {o : HO} (h : Bx H b n) (f : H p = none) : Bx (upd H p o) b n := by
  obtain ⟨x, y, z, e, r⟩ := h
  exact ⟨x, y, z, by rw [upd_ne (new_ne f e).symm]; exact e, r⟩
/-- a draw: below m -/
def spTake : Sp := fun vs H Q _ => ∃ (b : Addr) (m : Int) (n : Nat), vs = [.ref b, .int m] ∧ Bx H b n ∧ n ≤ 1000000000 ∧ 1 ≤ m ∧ m < 1000000000 ∧
  ∀ (k : Int) (H' : Hp), 0 ≤ k → k < m → Keep b H H' → Bx H' b (n + 1) → Q (.int k) H'
end J
namespace M
/-- words whole, the begun one, the open quote (0: none), where it was opened, a stroke ahead -/
structure Sc where
  ws : List (List Nat)
  bg : Option (List Nat)
  qt : Nat
  op : Nat
  tk : Bool
  deriving DecidableEq
def sc0 : Sc := ⟨[], none, 0, 0, false⟩
/-- the program's turn -/
def stP (s : Sc) (i c : Nat) : Except Nat Sc :=
  if c = 10 ∧ (s.tk = true ∨ s.qt ≠ 0) then .error i
  else if s.tk = true then (if ((s.bg.getD []) ++ [c]).length > 40 then .error i else .ok { s with bg := some ((s.bg.getD []) ++ [c]), tk := false })
  else if c = 92 ∧ s.qt ≠ 39 then .ok { s with tk := true }
  else if c = s.qt then .ok { s with qt := 0 }
  else if s.qt = 0 ∧ (c = 39 ∨ c = 34) then .ok { s with bg := some (s.bg.getD []), qt := c, op := i }
  else if s.qt = 0 ∧ (c = 32 ∨ c = 10) then .ok { s with ws := (match s.bg with | some b => s.ws ++ [b] | none => s.ws), bg := none }
  else if ((s.bg.getD []) ++ [c]).length > 40 then .error i else .ok { s with bg := some ((s.bg.getD []) ++ [c]) }
def scan (st : Sc → Nat → Nat → Except Nat Sc) : Nat → Sc → List Nat → Except Nat Sc
  | _, s, [] => .ok s
  | i, s, c :: l => match st s i c with
    | .ok t => scan st (i + 1) t l
    | .error e => .error e
theorem scan_app (st : Sc → Nat → Nat → Except Nat Sc) : ∀ (l m : List Nat) (i : Nat) (s : Sc), scan st i s (l ++ m) = match scan st i s l with | .ok t => scan st (i + l.length) t m | .error e => .error e
  | [], m, i, s => by simp [scan]
  | d :: l, m, i, s => by
    simp only [List.cons_append, scan]
    cases h : st s i d with
    | error e => rfl
    | ok t =>
      have ih := scan_app st l m (i + 1) t
      have e : i + 1 + l.length = i + (d :: l).length := by simp only [List.length_cons]; omega
      rw [e] at ih
      exact ih
end M
namespace M
def N1 : List Nat := [32, 39, 34, 92]
def N2 : List Nat := [34, 92]
def esc (need : List Nat) : List Nat → List Nat
  | [] => []
  | c :: l => (if c ∈ need then [92, c] else [c]) ++ esc need l
def ways (l : List Nat) : List (List Nat) := (if l = [] then [] else [esc N1 l]) ++ ((if 39 ∈ l then [] else [39 :: l ++ [39]]) ++ [34 :: esc N2 l ++ [34]])
/-- the first of the shortest -/
def FM (xs : List (List Nat)) (v : List Nat) : Prop := ∃ i : Nat, xs[i]? = some v ∧ ∀ j w, xs[j]? = some w → v.length ≤ w.length ∧ (j < i → v.length < w.length)
theorem FM.uniq {xs : List (List Nat)} {v w : List Nat} (a : FM xs v) (b : FM xs w) : v = w := by
  obtain ⟨i, hi, a⟩ := a
  obtain ⟨j, hj, b⟩ := b
  rcases Nat.lt_trichotomy i j with h | h | h
  · have := (a j w hj).1; have := (b i v hi).2 h; omega
  · subst h; rw [hi] at hj; exact Option.some.inj hj
  · have := (b i v hi).1; have := (a j w hj).2 h; omega
theorem FM.cons {x v : List Nat} {xs : List (List Nat)} (h : xs[0]? = some x) (a : FM (x :: xs) v) : FM xs v := by
  obtain ⟨i, hi, a⟩ := a
  cases i with
  | zero =>
    have e : x = v := by simpa using hi
    subst e
    exact ⟨0, h, fun j w hj => ⟨(a (j + 1) w (by simpa using hj)).1, fun q => absurd q (Nat.not_lt_zero _)⟩⟩
  | succ i => exact ⟨i, by simpa using hi, fun j w hj => ⟨(a (j + 1) w (by simpa using hj)).1, fun q => (a (j + 1) w (by simpa using hj)).2 (by omega)⟩⟩
/-- a word: at most forty signs -/
def Wd (l : List Nat) : Prop := l.length ≤ 40 ∧ ∀ c ∈ l, 32 ≤ c ∧ c ≤ 126
inductive Ways : List (List Nat) → List (List Nat) → Prop
  | nil : Ways [] []
  | cons {l v : List Nat} {ls vs : List (List Nat)} (w : Wd l) (h : v ∈ ways l) (r : Ways ls vs) : Ways (l :: ls) (v :: vs)
end M
namespace J
open PySem PySem.Spec PyProof.Rows L2 M
abbrev cd (z : Str) : List Nat := z.cps.toList
theorem cd_S (l : List Nat) : cd (S l) = l := S_cps l
theorem cd_app (a b : Str) : cd (a ++ b) = cd a ++ cd b := by show (a.cps ++ b.cps).toList = _; simp
theorem cd_one (c : Nat) : cd ⟨#[c]⟩ = [c] := rfl
theorem len_cd (z : Str) : z.length = (cd z).length := by simp [Str.length]
theorem str_eq {a b : Str} : a = b ↔ cd a = cd b := ⟨fun h => by rw [h], fun h => by rw [← S_of a, ← S_of b]; exact congrArg S h⟩
def wV (l : List Nat) : V := .str (S l)
def obV : Option (List Nat) → V
  | none => .non
  | some l => .str (S l)
/-- all words of a state -/
def fin (t : Sc) : List (List Nat) := t.ws ++ t.bg.toList
/-- each of a list's first shortest ways -/
inductive FMs : List (List Nat) → List (List Nat) → Prop
  | nil : FMs [] []
  | cons {l v : List Nat} {ls vs : List (List Nat)} (h : FM (ways l) v) (r : FMs ls vs) : FMs (l :: ls) (v :: vs)
theorem FM.mem {xs : List (List Nat)} {v : List Nat} (h : FM xs v) : v ∈ xs := let ⟨_, hi, _⟩ := h; List.mem_of_getElem? hi
theorem FMs.ways : ∀ {ls vs : List (List Nat)}, FMs ls vs → (∀ l ∈ ls, Wd l) → Ways ls vs
  | _, _, .nil, _ => .nil
  | _, _, .cons h r, w => .cons (w _ (List.mem_cons_self ..)) (FM.mem h) (r.ways fun l hl => w l (List.mem_cons_of_mem _ hl))
theorem FMs.uniq : ∀ {ls vs us : List (List Nat)}, FMs ls vs → FMs ls us → vs = us
  | _, _, _, .nil, .nil => rfl
  | _, _, _, .cons h r, .cons h' r' => by rw [FM.uniq h h', r.uniq r']
theorem FMs.snoc : ∀ {ls vs : List (List Nat)} {l v : List Nat}, FMs ls vs → FM (M.ways l) v → FMs (ls ++ [l]) (vs ++ [v])
  | _, _, _, _, .nil, h => .cons h .nil  -- own
  | _, _, _, _, .cons h' r, h => .cons h' (r.snoc h)
theorem FMs.len : ∀ {ls vs : List (List Nat)}, FMs ls vs → ls.length = vs.length
  | _, _, .nil => rfl
  | _, _, .cons _ r => by simp [r.len]  -- own
def spBox : Sp := fun vs H Q _ => ∃ c : Int, vs = [.int c] ∧ ∀ (p : Addr) (H' : Hp), H p = none → Same H H' → Bx H' p 0 → Q (.ref p) H'
end J
namespace J
open PySem PySem.Spec PyProof.Rows L2 M
open Sem (wp)
theorem argBest_first (f : Nat → Int) : ∀ k : Nat, argBest (fun i j => decide (f i < f j)) k ≤ k ∧ ∀ j, j ≤ k → f (argBest (fun i j => decide (f i < f j)) k) ≤ f j ∧ (j < argBest (fun i j => decide (f i < f j)) k → f (argBest (fun i j => decide (f i < f j)) k) < f j)
  | 0 => ⟨Nat.le_refl _, fun j hj => by
      obtain rfl : j = 0 := by omega
      exact ⟨Int.le_refl _, fun h => absurd h (Nat.lt_irrefl _)⟩⟩
  | k + 1 => by
    obtain ⟨h1, h2⟩ := argBest_first f k
    unfold argBest
    by_cases c : f (k + 1) < f (argBest (fun i j => decide (f i < f j)) k)
    · rw [if_pos (decide_eq_true c)]  -- own
      refine ⟨Nat.le_refl _, fun j hj => ?_⟩  -- own
      rcases Nat.lt_or_ge k j with q | q
      · obtain rfl : j = k + 1 := by omega
        exact ⟨Int.le_refl _, fun h => absurd h (Nat.lt_irrefl _)⟩
      · have := (h2 j q).1
        exact ⟨by omega, fun _ => by omega⟩  -- own
    · rw [if_neg (by simpa using c)]
      refine ⟨by omega, fun j hj => ?_⟩  -- own
      rcases Nat.lt_or_ge k j with q | q
      · obtain rfl : j = k + 1 := by omega
        exact ⟨by omega, fun h => by omega⟩
      · exact h2 j q
section
variable {X : Cx}
/-- min(xs, key=len) of a list of texts: the first of the shortest -/
def tMinLen (K : PySem.W.Frag) (te : TE) : TE := fun σ H Q => te σ H fun x H1 => ∃ (a : Addr) (ls : List (List Nat)), x = .ref a ∧ SqL K H1 a (ls.map wV) ∧ 0 < ls.length ∧ (∀ l ∈ ls, l.length < 1000000) ∧ ∀ v, FM ls v → Q (.str (S v)) H1
end
theorem l_nil' : cd (Str.ofString "") = [] := by decide +kernel
theorem tj (a : Str) (ys : List Str) : Txt.join a ys = Str.join a ys := StrLaws.glued_eq_join ..
theorem join_nil : ∀ ls : List (List Nat), Txt.join (Str.ofString "") (ls.map S) = S ls.flatten
  | [] => by decide +kernel
  | [x] => by rw [tj]; show S x = _; simp
  | x :: y :: r => by
    have ih := join_nil (y :: r)
    rw [tj] at ih ⊢
    show S x ++ Str.ofString "" ++ Str.join (Str.ofString "") ((y :: r).map S) = _
    rw [ih, str_eq, cd_app, cd_app, cd_S, cd_S, cd_S, l_nil']
    simp
theorem sum_le : ∀ (ls : List (List Nat)) (B : Nat), (∀ l ∈ ls, l.length ≤ B) → ((ls.map S).map (·.length)).sum ≤ B * ls.length
  | [], B, _ => by simp
  | l :: ls, B, h => by
    have ih := sum_le ls B fun m hm => h m (List.mem_cons_of_mem _ hm)
    have := h l (List.mem_cons_self ..)
    simp only [List.map_cons, List.sum_cons, List.length_cons, S_len]
    rw [Nat.mul_add, Nat.mul_one]
    omega
def rLen (K : PySem.W.Frag) : List V → Hp → VK → Prop := fun xs H Q => ∃ x n, xs = [x] ∧ LenV K x H n ∧ Q (.int (n : Nat)) H
def rIntA : List V → Hp → VK → Prop := fun xs H Q => (∃ i, xs = [V.int i] ∧ Q (V.int i) H) ∨ ∃ k, xs = [V.bl k] ∧ Q (V.int (if k = true then 1 else 0)) H
def rMax2 : List V → Hp → VK → Prop := fun xs H Q => ∃ i j, xs = [V.int i, V.int j] ∧ Q (V.int (if j > i then j else i)) H
def rMin2 : List V → Hp → VK → Prop := fun xs H Q => ∃ i j, xs = [V.int i, V.int j] ∧ Q (V.int (if j < i then j else i)) H
def rTupOf (K : PySem.W.Frag) : List V → Hp → VK → Prop := fun xs H Q => ∃ p ys, xs = [.ref p] ∧ ((SqL K H p ys ∧ ∀ l, H l = none → Q (.ref l) (upd H l (.tup ys))) ∨ (SqT K H p ys ∧ Q (.ref p) H))
def rJoin (K : PySem.W.Frag) : V → List V → Hp → VK → Prop := fun x xs H Q => ∃ a p, ∃ ys : List Str, x = .str a ∧ xs = [.ref p] ∧ (SqL K H p (ys.map V.str) ∨ SqT K H p (ys.map V.str)) ∧ (ys.map (·.length)).sum + ys.length * a.length ≤ 16777216 ∧ Q (.str (Txt.join a ys)) H
section
variable {X : Cx}
theorem call_lenA : CallR X (.builtin "len") (rLen X.K) := L2.call_len
theorem call_intA : CallR X (.type "int") rIntA := L2.call_int1
theorem call_maxA (hc : X.calm = true) : CallR X (.builtin "max") rMax2 := L2.call_max2 hc
theorem call_minA (hc : X.calm = true) : CallR X (.builtin "min") rMin2 := L2.call_min2 hc
theorem call_tupA : CallR X (.type "tuple") (rTupOf X.K) := L2.call_tuple_of
end
section
variable {X : Cx} {K : PySem.W.Frag} {e tg : Expr} {T : String} {r : V → List V → Hp → VK → Prop} {to tb : TE} {t : TA}
theorem asBM (eK : X.K = K) (h : PE X e (tBM X.K T r to t)) : PE X e (tBM K T r to t) := eK ▸ h
theorem asJoin (eK : X.K = K) (h : PE X e (tM1 (rJoin X.K) to tb)) : PE X e (tM1 (rJoin K) to tb) := eK ▸ h
end
section
variable {X : Cx} {x : Str} {pos : Pos}
theorem pe_gI {n : Int} (h : ∃ t, X.mg x = some (.int n t)) (hg : Gl X x) (hd : (x == ("__debug__" : Str)) = false := by decide) : PE X (.Name x pos) (tC (.int n)) := let ⟨t, e⟩ := h; pe_glob hg e ⟨t, rfl⟩ hd
theorem pe_gR {a : Addr} (h : X.mg x = some (.ref a)) (hg : Gl X x) (hd : (x == ("__debug__" : Str)) = false := by decide) : PE X (.Name x pos) (tC (.ref a)) := pe_glob hg h rfl hd
end
/-- a def as the top has left it -/
structure DAt (K : PySem.W.Frag) (mg : Str → Option Value) (x : Str) (st : Stmt) (ps : List Str) (f : Addr) (fd : FuncData) : Prop where
  fn : Fun K x x st f fd
  gl : mg x = some (.ref f)
  bd : Binds K fd ps []
theorem _root_.L2.Same.at {H H' : Hp} {p : Addr} (s : Same H H') (n : H p = none) (o : HO) : Same H (upd H' p o) := fun b u h => by rw [upd_ne (ne_of_none h n)]; exact s b u h
theorem _root_.L2.Same.new {H H' : Hp} {p : Addr} (s : Same H H') (n : H' p = none) (o : HO) : Same H (upd H' p o) := fun b u h => by rw [upd_ne (ne_of_none (s b u h) n)]; exact s b u h
theorem _root_.L2.Same.seqT {K : PySem.W.Frag} {H H' : Hp} {a : Addr} {xs : List V} (e : Same H H') (h : SqT K H a xs) : SqT K H' a xs := by
  rcases h with (h | ⟨o, h⟩) | h  -- own
  · exact .inl (.inl (e _ _ h))
  · exact .inl (.inr ⟨o, e _ _ h⟩)  -- own
  · exact .inr h
theorem take_snoc {α : Type} {l : List α} {i : Nat} {c : α} (h : l[i]? = some c) : l.take (i + 1) = l.take i ++ [c] := by rw [List.take_add_one, h]; rfl
theorem le_line {n : Nat} (h : n ≤ 16777216) : n ≤ sizeLine := h
theorem big : (1000000 : Nat) < sizeLine := by decide
section
variable {σ : L2.St} {H : Hp} {Q : VK} {D : Ends} {K : PySem.W.Frag}
theorem r_andV {a b : TE} (k : a σ H fun x H1 => ∃ c, x = .bl c ∧ if c = true then b σ H1 Q else Q (.bl false) H1) : tAndV a b σ H Q := k
theorem r_orV {a b : TE} (k : a σ H fun x H1 => ∃ c, x = .bl c ∧ if c = true then Q (.bl true) H1 else b σ H1 Q) : tOrV a b σ H Q := k
theorem r_notV {a : TE} (k : a σ H fun x H1 => ∃ c, x = .bl c ∧ Q (.bl (!c)) H1) : tNotV a σ H Q := k
theorem r_chain {r r' : R2} {ta tb tc : TE} (k : ta σ H fun x H1 => tb σ H1 fun y H2 => r x y H2 fun z H3 => ∃ k, z = .bl k ∧ (if k = true then tc σ H3 fun w' H4 => r' y w' H4 Q else Q (.bl false) H3)) : tChain r r' ta tb tc σ H Q := k
theorem r_slice {r : V → Option Int → Option Int → Hp → VK → Prop} {te : TE} {tl th : TO} (k : te σ H fun x H1 => tl σ H1 fun l H2 => th σ H2 fun u H3 => r x l u H3 Q) : tSl r te tl th σ H Q := k
theorem r_nop {Q : Option Int → Hp → Prop} (k : Q none H) : tNoPart σ H Q := k
theorem r_part {t : TE} {Q : Option Int → Hp → Prop} (k : t σ H fun x H1 => ∃ i, x = .int i ∧ Q (some i) H1) : tPart t σ H Q := k
theorem r_isI {i : Int} {Q : Int → Prop} (k : Q i) : ∃ j, V.int i = .int j ∧ Q j := ⟨i, rfl, k⟩
theorem r_isiStr {z : Str} (k : Q (.bl true) H) : rIsi K [.str z, .ty "str"] H Q := ⟨_, _, _, _, true, rfl, .ty _, .base (.str z), kit_ty (by decide +kernel), k⟩
theorem r_len {z : Str} (h : z.length ≤ sizeLine) (k : Q (.int (z.length : Nat)) H) : rLen K [V.str z] H Q := ⟨_, _, rfl, ⟨h, rfl⟩, k⟩
theorem r_lenL {p : Addr} {xs : List V} (h : SqL K H p xs) (k : Q (.int (xs.length : Nat)) H) : rLen K [V.ref p] H Q := ⟨_, _, rfl, .inl ⟨xs, h, rfl⟩, k⟩
theorem r_lenT {p : Addr} {xs : List V} (h : SqT K H p xs) (k : Q (.int (xs.length : Nat)) H) : rLen K [V.ref p] H Q := ⟨_, _, rfl, .inr ⟨xs, h, rfl⟩, k⟩
theorem r_bm {T : String} {r : V → List V → Hp → VK → Prop} {to : TE} {t : TA} (k : to σ H fun x H1 => tyV K T x H1 ∧ t σ H1 fun xs H2 => r x xs H2 Q) : tBM K T r to t σ H Q := k
theorem r_m1 {r : V → List V → Hp → VK → Prop} {to te : TE} (k : to σ H fun x H1 => (∃ a, x = .str a) ∧ te σ H1 fun y H2 => r x [y] H2 Q) : tM1 r to te σ H Q := k
theorem r_isStr {z : Str} {P : Prop} (k : P) : (∃ a, V.str z = .str a) ∧ P := ⟨⟨z, rfl⟩, k⟩
theorem r_orT {te tb : TE} (k : te σ H fun x H1 => ∃ k, TruV K x H1 k ∧ if k = true then Q x H1 else tb σ H1 Q) : tOrT K te tb σ H Q := k
theorem r_truN {A B : Prop} (h : B) : ∃ k, TruV K .non H k ∧ if k = true then A else B := ⟨false, rfl, iteF h⟩
theorem r_join {a : Str} {p : Addr} {ls : List (List Nat)} (h : SqL K H p (ls.map wV)) (B : Nat) (hB : ∀ l ∈ ls, l.length ≤ B) (hn : B * ls.length + ls.length * a.length ≤ 16777216) (k : Q (.str (Txt.join a (ls.map S))) H) : rJoin K (.str a) [.ref p] H Q := by
  have := sum_le ls B hB
  exact ⟨a, p, ls.map S, rfl, rfl, .inl (by rw [List.map_map]; exact h), by rw [List.length_map]; omega, k⟩
theorem r_app {l : Addr} {xs : List V} {y : V} (h : H l = some (.lst xs)) (hz : xs.length < sizeLine) (k : Q .non (upd H l (.lst (xs ++ [y])))) : rAppend (.ref l) [y] H Q := ⟨l, xs, y, rfl, rfl, h, hz, k⟩
theorem r_tyL {l : Addr} {xs : List V} {B : Prop} (h : H l = some (.lst xs)) (k : B) : tyV K "list" (.ref l) H ∧ B := ⟨.inl ⟨rfl, _, SqL.of h⟩, k⟩
/-- a statement ahead of others: the rest is shown once -/
theorem r_seqJ {t u : TS} {n : L2.St → Hp → Prop} {rt : VK} {bk ct : L2.St → Hp → Prop} (Mid : L2.St → Hp → Prop) (first : ∀ N : L2.St → Hp → Prop, (∀ σ' H', Mid σ' H' → N σ' H') → t ⟨N, rt, bk, ct⟩ σ H)
    (rest : ∀ σ' H', Mid σ' H' → u ⟨n, rt, bk, ct⟩ σ' H') : tSeq t u ⟨n, rt, bk, ct⟩ σ H := first _ rest
theorem r_intI {i : Int} (k : Q (.int i) H) : rIntA [.int i] H Q := .inl ⟨i, rfl, k⟩
theorem r_intB {b : Bool} (k : Q (.int (if b = true then 1 else 0)) H) : rIntA [.bl b] H Q := .inr ⟨b, rfl, k⟩
theorem r_max2 {i j : Int} (k : Q (.int (if j > i then j else i)) H) : rMax2 [.int i, .int j] H Q := ⟨i, j, rfl, k⟩
theorem r_min2 {i j : Int} (k : Q (.int (if j < i then j else i)) H) : rMin2 [.int i, .int j] H Q := ⟨i, j, rfl, k⟩
theorem r_yes {Q : Bool → Hp → Prop} (k : Q true H) : tYes σ H Q := k
end
end J
namespace J
open PySem PySem.Spec PyProof.Rows L2 M
/-- a walk over what stays -/
structure SeqIt (J : It) (xs : List V) (H0 : Hp) : Prop where
  go : ∀ i H, Same H0 H → i < xs.length → J.go i H
  stop : ∀ H, Same H0 H → J.stop xs.length H
  yld : ∀ i H x H', Same H0 H → J.yld i H x H' → H' = H ∧ xs[i]? = some x
theorem _root_.L2.Same.seqL {K : PySem.W.Frag} {H H' : Hp} {a : Addr} {xs : List V} (e : Same H H') (h : SqL K H a xs) : SqL K H' a xs := by
  rcases h with (h | ⟨o, h⟩) | h  -- own
  · exact .inl (.inl (e _ _ h))
  · exact .inl (.inr ⟨o, e _ _ h⟩)  -- own
  · exact .inr h
theorem seqIt_l {K : PySem.W.Frag} {a : Addr} {xs : List V} {H : Hp} (h : SqL K H a xs) : SeqIt (Itl K a) xs H where
  go := fun i H' s hi => ⟨xs, _, s.seqL h, List.getElem?_eq_getElem hi⟩
  stop := fun H' s => ⟨xs, s.seqL h, Nat.le_refl _⟩
  yld := fun i H' x H'' s y => ⟨y.1, y.2 xs (s.seqL h)⟩
theorem seqIt_t {K : PySem.W.Frag} {a : Addr} {xs : List V} {H : Hp} (h : SqT K H a xs) : SeqIt (Itt K a) xs H where
  go := fun i H' s hi => ⟨xs, _, s.seqT h, List.getElem?_eq_getElem hi⟩
  stop := fun H' s => ⟨xs, s.seqT h, Nat.le_refl _⟩
  yld := fun i H' x H'' s y => ⟨y.1, y.2 xs (s.seqT h)⟩
def sgnV (c : Nat) : V := .str ⟨#[c]⟩
theorem SeqIt.mono {J : It} {xs : List V} {H H1 : Hp} (a : SeqIt J xs H) (s : Same H H1) : SeqIt J xs H1 :=
  ⟨fun i H' t hi => a.go i H' (s.trans t) hi, fun H' t => a.stop H' (s.trans t), fun i H' x H'' t y => a.yld i H' x H'' (s.trans t) y⟩
/-- one y for each x, all else as it was -/
theorem comp_same {J : It} {g : TG} {te : TE} {vs : List Nat} {σ : L2.St} {H1 : Hp} {D : Addr} {Z : Hp → Prop} {xs : List V} (SI : SeqIt J xs H1) (hD : H1 D = none) (ys : List V) (hl : ys.length = xs.length) (hs : xs.length < sizeLine)
    (turn : ∀ (i : Nat) (x : V) (H : Hp) (N : V → Hp → Prop), xs[i]? = some x → Same H1 H → (∀ y H4, ys[i]? = some y → Same H H4 → N y H4) → g x (wipe σ vs) H fun σ2 H2 => wipe σ2 vs = wipe σ vs ∧ te σ2 H2 N)
    (fin : ∀ H, Same H1 H → H D = some (.lst ys) → Z H) : CompQ J g tYes te vs σ H1 D Z := by
  refine comp_of xs.length (fun i H => Same H1 H ∧ H D = some (.lst (ys.take i))) ⟨(Same.refl H1).at hD _, by rw [upd_same]; rfl⟩ (fun i H hi w => SI.go i H w.1 hi) (fun H w => SI.stop H w.1) (fun i H x H' hi w y => ?_) (fun H w => ?_)
  · obtain ⟨rfl, hx⟩ := SI.yld i H x H' w.1 y
    exact turn i x H' _ hx w.1 fun y H4 hy s => ⟨_, s _ _ w.2, Nat.lt_of_le_of_lt (by rw [List.length_take]; omega) hs, (w.1.trans s).at hD _, by rw [upd_same, take_snoc hy]⟩
  · have : ys.take xs.length = ys := List.take_of_length_le (Nat.le_of_eq hl)
    rw [this] at w
    exact fin H w.1 w.2
/-- a list or a tuple walked -/
def iSeq (K : PySem.W.Frag) (tl : TE) : TI := fun σ H R => tl σ H fun x H1 => ∃ a xs, x = .ref a ∧ ((SqL K H1 a xs ∧ R (Itl K a) H1) ∨ (SqT K H1 a xs ∧ R (Itt K a) H1))
theorem pi_seq {X : Cx} {tg l : Expr} {tl : TE} (hl : PE X l tl) : PI X tg l (iSeq X.K tl) := by
  refine ⟨fun pins s σ H R I h => ?_⟩  -- own
  refine thn (hl.run pins s σ H _ I h) fun v s1 ⟨x, H1, I1, r1, q1⟩ => ?_  -- own
  obtain ⟨a, xs, e, q⟩ := q1
  subst e
  cases r1
  have low : ∀ b, b ∈ [s1.heap.objs.size] → b = s1.heap.objs.size := fun b hb => by simpa using hb
  rcases q with ⟨hq, q⟩ | ⟨hq, q⟩  -- own
  · obtain ⟨its, rv, p, hz⟩ := I1.list hq
    refine wpAny_pyIter_list p.isList ⟨s1.heap.objs.size, [s1.heap.objs.size], _, _, H1, rfl, I1.kept (t' := s1.toks) fun b o e => Heap.get?_push_of_some _ e, turn_list a _, ⟨_, Heap.get?_push_size _ rfl, rfl, rfl⟩, fun b hb => ?_, q⟩
    rw [low b hb]
    exact I1.fpOk (Nat.le_refl _) (I1.hok.fresh (Nat.le_refl _))  -- own
  · obtain ⟨its, rv, p, hz⟩ := I1.tuple hq
    refine wpAny_pyIter_tuple (show s1.heap.IsTuple a its.toArray from p) ⟨s1.heap.objs.size, [s1.heap.objs.size], _, _, H1, rfl, I1.kept (t' := s1.toks) fun b o e => Heap.get?_push_of_some _ e, turn_tuple a _, ⟨_, Heap.get?_push_size _ rfl, rfl, rfl⟩, fun b hb => ?_, q⟩
    rw [low b hb]
    exact I1.fpOk (Nat.le_refl _) (I1.hok.fresh (Nat.le_refl _))  -- own
theorem asSeq {X : Cx} {K : PySem.W.Frag} {e tg : Expr} {to : TE} (eK : X.K = K) (h : PI X tg e (iSeq X.K to)) : PI X tg e (iSeq K to) := eK ▸ h
section
variable {σ : L2.St} {H : Hp} {Q : VK} {K : PySem.W.Frag}
theorem r_iteNT {A B : Prop} (h : B) : if (!true) = true then A else B := h
theorem r_iteNF {A B : Prop} (h : A) : if (!false) = true then A else B := h
theorem r_minL {te : TE} (k : te σ H fun x H1 => ∃ (a : Addr) (ls : List (List Nat)), x = .ref a ∧ SqL K H1 a (ls.map wV) ∧ 0 < ls.length ∧ (∀ l ∈ ls, l.length < 1000000) ∧ ∀ v, FM ls v → Q (.str (S v)) H1) : tMinLen K te σ H Q := k
end
theorem FM_ex {xs : List (List Nat)} (h : 0 < xs.length) : ∃ v, FM xs v := by
  obtain ⟨b1, b2⟩ := argBest_first (fun i => (((xs[i]?.getD []).length : Nat) : Int)) (xs.length - 1)
  have hb : argBest (fun i j => decide ((((xs[i]?.getD []).length : Nat) : Int) < (((xs[j]?.getD []).length : Nat) : Int))) (xs.length - 1) < xs.length := by omega
  refine ⟨_, _, List.getElem?_eq_getElem hb, fun j w hj => ?_⟩
  have lj := (List.getElem?_eq_some_iff.mp hj).1
  have := b2 j (by omega)
  simp only [List.getElem?_eq_getElem hb, hj, Option.getD_some] at this
  exact ⟨by omega, fun q => by have := this.2 q; omega⟩
theorem ways_pos (l : List Nat) : 0 < (ways l).length := by simp only [ways, List.length_append, List.length_cons]; omega
theorem FMs.ex : ∀ ls : List (List Nat), ∃ us, FMs ls us
  | [] => ⟨_, .nil⟩
  | l :: ls => let ⟨_, h⟩ := FM_ex (ways_pos l); let ⟨_, r⟩ := FMs.ex ls; ⟨_, .cons h r⟩
theorem FMs.at : ∀ {ls us : List (List Nat)}, FMs ls us → ∀ {i : Nat} {l v : List Nat}, ls[i]? = some l → FM (M.ways l) v → us[i]? = some v
  | _, _, .cons h r, 0, l, v, e, hv => by
    cases (show some _ = some l from e)
    exact congrArg some (FM.uniq h hv)
  | _, _, .cons h r, i + 1, l, v, e, hv => r.at (i := i) e hv
theorem r_len2 {K : PySem.W.Frag} {H : Hp} {Q : VK} {a : Addr} {xs : List V} (hs : SqL K H a xs ∨ SqT K H a xs) (k : Q (.int (xs.length : Nat)) H) : rLen K [V.ref a] H Q := hs.elim (fun h => r_lenL h k) fun h => r_lenT h k
end J
namespace J
open PySem PySem.Spec PyProof.Rows L2 M
theorem asGTup {X : Cx} {K : PySem.W.Frag} {tg : Expr} {n : Nat} {t : TGs} (eK : X.K = K) (h : PG X tg (gTup X.K n t)) : PG X tg (gTup K n t) := eK ▸ h
section
variable {σ : L2.St} {H : Hp} {Q : L2.St → Hp → Prop} {K : PySem.W.Frag}
theorem r_gtup {a : Addr} {xs : List V} {n : Nat} {t : TGs} (h : SqT K H a xs) (hn : xs.length = n) (k : t xs σ H Q) : gTup K n t (.ref a) σ H Q := ⟨a, xs, rfl, h, hn, k⟩
theorem r_gcons {v : V} {r : List V} {t : TG} {u : TGs} (k : t v σ H fun σ' H' => u r σ' H' Q) : gCons t u (v :: r) σ H Q := ⟨v, r, rfl, k⟩
theorem r_gnil (k : Q σ H) : gNil [] σ H Q := ⟨rfl, k⟩
theorem r_par {i j : Nat} {ta : TA} {n : L2.St → Hp → Prop} {rt : VK} {bk ct : L2.St → Hp → Prop} (k : ta σ H fun vs H1 => ∃ v w, vs = [v, w] ∧ n ((σ.set i (some v)).set j (some w)) H1) : tPar i j ta ⟨n, rt, bk, ct⟩ σ H := k
theorem r_is2 {v w : V} {P : V → V → Prop} (k : P v w) : ∃ v' w', [v, w] = [v', w'] ∧ P v' w' := ⟨v, w, rfl, k⟩
theorem r_par3 {i j l : Nat} {ta : TA} {n : L2.St → Hp → Prop} {rt : VK} {bk ct : L2.St → Hp → Prop} (k : ta σ H fun vs H1 => ∃ u v w, vs = [u, v, w] ∧ n (((σ.set i (some u)).set j (some v)).set l (some w)) H1) : tPar3 i j l ta ⟨n, rt, bk, ct⟩ σ H := k
theorem r_is3 {u v w : V} {P : V → V → V → Prop} (k : P u v w) : ∃ u' v' w', [u, v, w] = [u', v', w'] ∧ P u' v' w' := ⟨u, v, w, rfl, k⟩
end
end J
namespace J
open PySem PySem.Spec PyProof.Rows L2 M
def qS (q : Nat) : Str := if q = 0 then S [] else S [q]
theorem iteDT {p : Prop} {i : Decidable p} {A B : Prop} (h : p) (k : A) : if decide p = true then A else B := by rw [if_pos (decide_eq_true h)]; exact k
theorem iteDF {p : Prop} {i : Decidable p} {A B : Prop} (h : ¬ p) (k : B) : if decide p = true then A else B := by rw [if_neg (by rw [decide_eq_false h]; exact Bool.false_ne_true)]; exact k
theorem iteNT {p : Prop} {i : Decidable p} {A B : Prop} (h : ¬ p) (k : A) : if (!decide p) = true then A else B := by rw [if_pos (by rw [decide_eq_false h]; rfl)]; exact k
theorem iteNF {p : Prop} {i : Decidable p} {A B : Prop} (h : p) (k : B) : if (!decide p) = true then A else B := by rw [if_neg (by rw [decide_eq_true h]; exact Bool.false_ne_true)]; exact k
end J
namespace J
open PySem PySem.Spec PyProof.Rows L2 M
theorem Keep.at {b D : Addr} {H H' : Hp} (k : Keep b H H') (n : H D = none) (o : HO) : Keep b H (L2.upd H' D o) := fun q u hq ne => by rw [upd_ne (ne_of_none hq n)]; exact k q u hq ne
theorem Bx.at {b D : Addr} {H : Hp} {n : Nat} (h : Bx H b n) (ne : D ≠ b) (o : HO) : Bx (upd H D o) b n := by
  obtain ⟨x, y, z, e, r⟩ := h
  exact ⟨x, y, z, by rw [upd_ne ne.symm]; exact e, r⟩
theorem Bx.ne {b p : Addr} {H : Hp} {n : Nat} (h : Bx H b n) (hp : H p = none) : p ≠ b := by
  obtain ⟨_, _, _, e, _⟩ := h
  exact new_ne hp e
section
variable {σ : L2.St} {H : Hp} {Q : VK} {K : PySem.W.Frag}
theorem map_sgn (l : List Nat) : l.map sgnV = (l.map fun c => [c]).map wV := by rw [List.map_map]; rfl
theorem flat_one (l : List Nat) : (l.map fun c => [c]).flatten = l := by
  induction l with
  | nil => rfl
  | cons c l ih => rw [List.map_cons, List.flatten_cons, ih]; rfl
/-- signs joined by nothing -/
theorem r_joinC {p : Addr} {l : List Nat} (h : H p = some (.lst (l.map sgnV))) (hl : l.length ≤ 1000000) (k : Q (.str (S l)) H) : rJoin K (.str (Str.ofString "")) [.ref p] H Q := by
  refine r_join (ls := l.map fun c => [c]) (SqL.of (by rw [← map_sgn]; exact h)) 1 (fun v hv => ?_) ?_ ?_
  · obtain ⟨c, _, rfl⟩ := List.mem_map.mp hv
    exact Nat.le_refl _
  · have : (Str.ofString "").length = 0 := rfl
    rw [List.length_map, this]; omega
  · rw [_root_.J.join_nil, flat_one]
    exact k
end
end J
namespace J
open PySem PySem.Spec PyProof.Rows L2 M
/-- what is left, each x by f -/
theorem comp_filt {J : It} {g : TG} {tt : TT} {te : TE} {vs : List Nat} {σ : L2.St} {H1 : Hp} {D : Addr} {Z : Hp → Prop} {xs : List V} (SI : SeqIt J xs H1) (hD : H1 D = none) (f : V → Option V) (hs : xs.length < sizeLine)
    (turn : ∀ (i : Nat) (x : V) (H : Hp) (N : V → Hp → Prop) (N0 : Hp → Prop), xs[i]? = some x → Same H1 H → (∀ y H4, f x = some y → Same H H4 → N y H4) → (∀ H4, f x = none → Same H H4 → N0 H4) →
      g x (wipe σ vs) H fun σ2 H2 => wipe σ2 vs = wipe σ vs ∧ tt σ2 H2 fun b H3 => if b = true then te σ2 H3 N else N0 H3)
    (fin : ∀ H, Same H1 H → H D = some (.lst (xs.filterMap f)) → Z H) : CompQ J g tt te vs σ H1 D Z := by
  refine comp_of xs.length (fun i H => Same H1 H ∧ H D = some (.lst ((xs.take i).filterMap f))) ⟨(Same.refl H1).at hD _, by rw [upd_same]; rfl⟩ (fun i H hi w => SI.go i H w.1 hi) (fun H w => SI.stop H w.1) (fun i H x H' hi w y => ?_) (fun H w => ?_)
  · obtain ⟨rfl, hx⟩ := SI.yld i H x H' w.1 y
    refine turn i x H' _ _ hx w.1 (fun y H4 hy s => ⟨_, s _ _ w.2, ?_, (w.1.trans s).at hD _, ?_⟩) fun H4 hn s => ⟨w.1.trans s, ?_⟩
    · exact Nat.lt_of_le_of_lt (Nat.le_trans (List.length_filterMap_le ..) (by rw [List.length_take]; omega)) hs
    · rw [upd_same, take_snoc hx, List.filterMap_append]; simp [hy]
    · rw [s _ _ w.2, take_snoc hx, List.filterMap_append]; simp [hn]
  · have : xs.take xs.length = xs := List.take_of_length_le (Nat.le_refl _)
    rw [this] at w
    exact fin H w.1 w.2
def dW (l : List Nat) : PyData := .str (S l)
def dWs (ls : List (List Nat)) : PyData := .list (ls.map dW)
theorem dp_all {K : PySem.W.Frag} {H : Hp} : ∀ ls : List (List Nat), DpAll K H (ls.map wV) (ls.map dW)
  | [] => .nil
  | l :: ls => .cons (.str _) (dp_all ls)
theorem dp_ws {K : PySem.W.Frag} {H : Hp} {a : Addr} {ls : List (List Nat)} (h : SqL K H a (ls.map wV)) : Dp K H (.ref a) (dWs ls) := .lst h (dp_all ls)
theorem can_w {l : List Nat} (h : ∀ c ∈ l, c ≤ 126) : PyData.canLay0 (dW l) = true := by
  show (S l).cps.all _ = true
  rw [Array.all_eq_true']
  intro x hx
  have : x ∈ l := by rw [← S_cps l]; exact Array.mem_toList_iff.mpr hx
  have := h x this
  simp; omega
theorem can_ws : ∀ {ls : List (List Nat)}, (∀ l ∈ ls, ∀ c ∈ l, c ≤ 126) → PyData.canLayAll0 (ls.map dW) = true
  | [], _ => rfl
  | l :: ls, h => by
    show (PyData.canLay0 (dW l) && PyData.canLayAll0 (ls.map dW)) = true
    rw [can_w (h l (List.mem_cons_self ..)), can_ws fun m hm => h m (List.mem_cons_of_mem _ hm)]; rfl
theorem dep_ws : ∀ ls : List (List Nat), PyData.depthAll (ls.map dW) = 0
  | [] => rfl
  | l :: ls => by
    show max 0 (PyData.depthAll (ls.map dW)) = 0
    rw [dep_ws ls]; rfl
theorem sh_ws {ls : List (List Nat)} (h : ∀ l ∈ ls, ∀ c ∈ l, c ≤ 126) : SeqAt.shaped (dWs ls) = true := by
  show (PyData.canLayAll0 (ls.map dW) && decide (PyData.depthAll (ls.map dW) + 1 ≤ 64)) = true
  rw [can_ws h, dep_ws]; rfl
section
variable {H : Hp} {Q : VK} {K : PySem.W.Frag}
/-- two lists of the same words -/
theorem r_neWs {a b : Addr} {ls : List (List Nat)} (ha : SqL K H a (ls.map wV)) (hb : SqL K H b (ls.map wV)) (h : ∀ l ∈ ls, ∀ c ∈ l, c ≤ 126) (k : Q (.bl false) H) : rNeA K (.ref a) (.ref b) H Q := by
  refine .inr ⟨dWs ls, dWs ls, dp_ws ha, dp_ws hb, sh_ws h, sh_ws h, ?_⟩
  rw [SeqAt.eqv_refl _ (SeqAt.canLay_of_shaped (sh_ws h))]
  exact k
end
end J
namespace J
open PySem PySem.Spec PyProof.Rows L2 M
section
variable {σ : L2.St} {H : Hp} {Q : VK} {K : PySem.W.Frag} {D : Ends}
theorem r_dget {td ty : TE} (k : td σ H fun x H1 => ty σ H1 fun y H2 => ∃ a v, x = .ref a ∧ DGet H2 a y (some v) ∧ Q v H2) : tDGet td ty σ H Q := k
theorem r_cat {l m : Addr} {xs ys : List V} (h : H l = some (.lst xs)) (g : H m = some (.lst ys)) (hx : xs.length + ys.length ≤ 16777216) (k : ∀ p, H p = none → Q (.ref p) (upd H p (.lst (xs ++ ys)))) : J.rAdd K (.ref l) (.ref m) H Q := .inr (.inr (.inl ⟨l, m, xs, ys, rfl, rfl, h, g, hx, k⟩))
end
end J
namespace J
open PySem PySem.Spec PyProof.Rows L2 M
theorem _root_.L2.Same.keep {b : Addr} {H0 H1 H2 : Hp} (s : Same H0 H1) (n : H0 b = none) (k : Keep b H1 H2) : Same H0 H2 := fun a o h => k a o (s a o h) (ne_of_none h n)
theorem _root_.L2.Same.none {H0 H1 : Hp} {b : Addr} (s : Same H0 H1) (n : H1 b = none) : H0 b = none := by
  cases q : H0 b with
  | none => rfl
  | some o => rw [s _ _ q] at n; cases n
section
variable {σ : L2.St} {H : Hp} {Q : VK} {K : PySem.W.Frag} {D : Ends}
theorem r_for {wi : TI} {g : TG} {tb : TS} (k : wi σ H fun J H1 => LoopQ J g tb D σ H1) : tFor wi g tb D σ H := k
theorem loop_seq {J : It} {g : TG} {tb : TS} {n' : L2.St → Hp → Prop} {rt : VK} {bk ct : L2.St → Hp → Prop} {xs : List V} {H0 : Hp} (SI : SeqIt J xs H0) (I : Nat → L2.St → Hp → Prop) (keep : ∀ i σ H, I i σ H → Same H0 H) (start : I 0 σ H)
    (turn : ∀ (i : Nat) (x : V) σ1 H1, xs[i]? = some x → I i σ1 H1 → g x σ1 H1 fun σ2 H2 => tb ⟨I (i + 1), rt, n', I (i + 1)⟩ σ2 H2)
    (fin : ∀ σ1 H1, I xs.length σ1 H1 → n' σ1 H1) : LoopQ J g tb ⟨n', rt, bk, ct⟩ σ H :=
  loop_of (D := ⟨n', rt, bk, ct⟩) xs.length I start (fun i σ H hi w => SI.go i H (keep i σ H w) hi) (fun σ H w => SI.stop H (keep _ σ H w)) (fun i σ1 H1 x H' hi w y => by
    obtain ⟨rfl, hx⟩ := SI.yld i H1 x H' (keep i σ1 H1 w) y
    exact turn i x σ1 H' hx w) fin
end
end J
namespace J
open PySem PySem.Spec PyProof.Rows L2 M
section
variable {σ : L2.St} {H : Hp} {Q : VK} {K : PySem.W.Frag} {D : Ends}
theorem r_slL {a : Addr} {xs : List V} {lo hi : Option Int} (h : SqL K H a xs) (k : ∀ p, H p = none → Q (.ref p) (upd H p (.lst (cutV xs lo hi)))) : rSl K (.ref a) lo hi H Q := .inl ⟨a, xs, rfl, h, k⟩
theorem r_tupOf {p : Addr} {ys : List V} (h : SqL K H p ys) (k : ∀ l, H l = none → Q (.ref l) (upd H l (.tup ys))) : rTupOf K [.ref p] H Q := ⟨p, ys, rfl, .inl ⟨h, k⟩⟩
end
def spLaw (K : PySem.W.Frag) : Sp := fun vs H Q _ => ∃ (a : Addr) (ns : List Int), vs = [.ref a] ∧ SqL K H a (ns.map V.int) ∧ ns.length ≤ 63 ∧ ∀ H', Q (.bl true) H'  -- own
end J
namespace J
open PySem PySem.Spec PyProof.Rows L2 M
end J
namespace J
open PySem PySem.Spec PyProof.Rows L2  -- own
/-- the ends of a suite that holds its exception in slot i -/
def unset (D : Ends) (i : Nat) : Ends := ⟨fun τ G => D.nx (τ.set i none) G, D.rt, fun τ G => D.bk (τ.set i none) G, fun τ G => D.ct (τ.set i none) G⟩
abbrev Clause := Value × Nat × (Addr → Value → Option Addr → TS)
def wN (K : PySem.W.Frag) (D : Ends) : List Clause → WX
  | [] => fun _ _ _ _ => False
  | (c, i, ts) :: r => fun cls d σ H => ∃ b, PySem.W.exmOne K cls c = some b ∧ (b = true → ∀ a, H a = none → ts a cls d (unset D i) (σ.set i (some (.ref a))) H) ∧ (b = false → wN K D r cls d σ H)
inductive HN (X : Cx) : List ExceptHandler → List Clause → Prop
  | any (rest : List ExceptHandler) : HN X rest []
  | cons {x n : Str} {c : Value} {i : Nat} {ts : Addr → Value → Option Addr → TS} {b₀ : Stmt} {bs : List Stmt} {p1 p2 : Pos} {hds : List ExceptHandler} {l : List Clause} (hi : X.N[i]? = some n) (hl : X.env.kindOf n = some .local) (hc : Names X x c)
      (su : ∀ (a : Addr) (o : Obj) (cls : Value) (d : Option Addr) (pn : List (Addr × Obj)), Zc cls d o → (∃ vs, o.data = .fields vs) → PSs (X.suite a ((a, o) :: pn)) (b₀ :: bs) (ts a cls d)) (r : HN X hds l) :
      HN X (.ExceptHandler (some (.Name x p1)) (some n) (b₀ :: bs) p2 :: hds) ((c, i, ts) :: l)
theorem ps_tryN {X : Cx} {body : List Stmt} {h₀ : ExceptHandler} {hds : List ExceptHandler} {l : List Clause} {pos : Pos} {tb : WX → TS} (hs : X.stack = X.env :: X.outer) (hf : X.env.frame = some X.env.locals) (hN : X.N.Nodup)
    (hb : ∀ (W : WX) (pn : List (Addr × Obj)) (xe : Value → Shared → Prop), Takes (X.tr pn xe) W → PassesOwn (model X.prog X.w) X.A X.env xe → PSs (X.tr pn xe) body (tb W)) (hh : HN X (h₀ :: hds) l) :
    PS X (.Try body (h₀ :: hds) [] [] pos) (fun D σ H => tb (wN X.K D l) D σ H) := by
  constructor
  intro pins s σ H D I q0
  have fs0 : X.A.frames = some (X.env :: X.outer) := I.ok.frames.trans (congrArg some hs)
  apply wpAny_Try_except
  let catch_ : Value → Shared → Prop := fun e t => wpAny (model X.prog X.w) X.A (noteFrame e X.env) (fun _ t2 => wpAny (model X.prog X.w) X.A (setFlight e none) (fun _ t3 => wpAny (model X.prog X.w) X.A (handleBy e X.env (h₀ :: hds)) (SP X pins D) X.xe t3) X.xe t2) X.xe t
  have caught : Takes (X.tr (X.pn ++ pins) catch_) (wN X.K D l) := by
    rintro u t ⟨e, B, sI, pins2, σ2, H2, cls, d, rfl, J2, nb, up, sky, ne, os, ag, w⟩
    have J := J2.ofTry I.ok
    refine Sky.land Zc.steady fs0 hf (hs ▸ sky : Sky B (X.env :: X.outer) e (Zc cls d) X.env.locals t.heap) fun h3 f3 up3 => ?_
    obtain ⟨o3, v3, e3, z3, d3⟩ := f3.there
    have away : e ∉ frs (X.env :: X.outer) := fun hm => by
      obtain ⟨_, o', g, nf⟩ := f3.2.2.1.mem hm
      cases e3.symm.trans g
      exact nf _ d3
    have away1 : e ≠ X.env.locals := fun z => away (List.mem_filterMap.mpr ⟨X.env, List.mem_cons_self, hf.trans (congrArg some z.symm)⟩)
    have away2 : e ∉ X.fs := fun hm => let ⟨g, g1, g2⟩ := List.mem_filterMap.mp hm; away (List.mem_filterMap.mpr ⟨g, List.mem_cons_of_mem _ g1, g2⟩)
    have J3 : Inv X pins σ2 H2 { t with heap := h3 } := J.landed nb f3.1 (up.trans up3) os ag
    have S3 := J3.suite e3 d3 ne away1 away2
    -- down the clauses
    suffices go : ∀ {hs' : List ExceptHandler} {l' : List Clause}, HN X hs' l' → wN X.K D l' cls d σ2 H2 → wpAny (model X.prog X.w) X.A (handleBy (.ref e) X.env hs') (SP X pins D) X.xe { t with heap := h3 } from go hh w
    intro hs' l' k
    induction k with
    | any rest => exact False.elim
    | @cons x n c i ts b₀ bs p1 p2 hds2 l2 hi hl hc su r ih =>
      rintro ⟨b, m, yes, no⟩
      refine wpAny_handleBy_cons (codeAny_handlers_test ?_) (fun z => nomatch z)
      have lk := PySem.W.exm_one (M := model X.prog X.w) J3.kIn (fun A Q E s' k' q' => wpAny_typeOf_ref (k' _ _ e3) (z3.1.symm ▸ q')) m
      have name : ∀ {Q E : Value → Shared → Prop}, Q c { t with heap := h3 } → wpAny (model X.prog X.w) (X.A.mark (some (.ref e))) (eval (.Name x p1) X.env) Q E { t with heap := h3 } := fun {Q E} q' => by
        obtain ⟨g1, g2, g3⟩ := hc
        rcases g3 with g3 | ⟨g3, g4, g5⟩
        · exact ld_glob (X := X.suite e ((e, o3) :: (X.pn ++ pins))) S3 g1 g3 q' g2
        · exact ld_blt (X := X.suite e ((e, o3) :: (X.pn ++ pins))) S3 g1 g3 g4 q' g5 g2
      refine name (lk.here ?_)
      cases b
      · exact ih (no rfl)
      · refine codeAny_handlers_suite_as (HandSPX.lands_againZ f3 fun h4 f4 up4 => ?_)
        obtain ⟨o4, v4, e4, z4, d4⟩ := f4.there
        have J4 : Inv X pins σ2 H2 { t with heap := h4 } := J.landed nb f4.1 ((up.trans up3).trans up4) os ag
        refine store_ok (X := X.suite e ((e, o4) :: (X.pn ++ pins))) (v := .ref e) (J4.suite e4 d4 ne away1 away2) hN hi (.inl hl) rfl (fun s5 S5 => ?_) (.inr hl)
        refine wpAny_mono ((su e o4 cls d (X.pn ++ pins) z4 ⟨_, d4⟩).run [] s5 _ H2 _ S5 (yes rfl e ne)) (fun f s6 r6 => ?_) (fun _ _ z => False.elim z)
        have last : ∀ {τ : L2.St} {G : Hp} {Q : Shared → Prop}, Inv (X.suite e ((e, o4) :: (X.pn ++ pins))) [] τ G s6 → (∀ s7, Inv X pins (τ.set i none) G s7 → Q s7) → wpAny (model X.prog X.w) X.A (do bindName X.env n .none; unbindBehindTheSuite X.env n p2) (fun _ s7 => Q s7) X.xe s6 := fun {τ G Q} S6 hq => gone_ok (Q := fun _ s7 => Q s7) (S6.unsuite I.ok) hN hi hl hq
        cases f with
        | ret u => exact let ⟨_, _, _, S6, rv, q6⟩ := r6; last S6 fun s7 J7 => ⟨_, _, _, J7, rv, q6⟩
        | next => exact let ⟨_, _, S6, q6⟩ := r6; last S6 fun s7 J7 => ⟨_, _, J7, q6⟩
        | brk => exact let ⟨_, _, S6, q6⟩ := r6; last S6 fun s7 J7 => ⟨_, _, J7, q6⟩
        | cont => exact let ⟨_, _, S6, q6⟩ := r6; last S6 fun s7 J7 => ⟨_, _, J7, q6⟩
  refine wpAny_mono ((hb (wN X.K D l) (X.pn ++ pins) catch_ caught PassesOwn.looking).run [] s σ H D (I.toTry _) q0) (fun f s1 r1 => ?_) (fun _ _ z => z)
  cases f with
  | ret u => exact let ⟨_, _, _, J1, rv, q1⟩ := r1; ⟨_, _, _, J1.ofTry I.ok, rv, q1⟩
  | next => exact let ⟨_, _, J1, q1⟩ := r1; wpAny_execs_nil ⟨_, _, J1.ofTry I.ok, q1⟩
  | brk => exact let ⟨_, _, J1, q1⟩ := r1; ⟨_, _, J1.ofTry I.ok, q1⟩
  | cont => exact let ⟨_, _, J1, q1⟩ := r1; ⟨_, _, J1.ofTry I.ok, q1⟩
end J
namespace J
open PySem PySem.Spec PyProof.Rows L2 CwR
end J
namespace J
open PySem PySem.Spec PyProof.Rows L2 M
/-- raise C(x) -/
def tRz (C : Addr) (sp : Sp) (ta : TA) (W : WX) : TS := fun _ σ H => tMkO C sp [] ta σ H fun cls d H' => W cls d σ H'
theorem ps_rz {X : Cx} {W : WX} {e : Expr} {C : Addr} {sp : Sp} {ta : TA} {pos : Pos} (hc : X.calm = true) (tk : Takes X W) (he : PMk X e (tMkO C sp [] ta)) : PS X (.Raise (some e) none pos) (tRz C sp ta W) := ps_raise hc tk he
/-- an __init__ that keeps its one argument as f -/
def spInit (K : PySem.W.Frag) (f : Str) : Sp := fun vs H Q _ => ∃ (a C : Addr) (v : V), vs = [.ref a, v] ∧ OexC K C ∧ PySem.W.findIn K (.ref C) f = some none ∧ H a = some (exo a C none) ∧ ∀ dx, H dx = none → dx ≠ a → Q .non (upd (upd H dx (exd dx [(f, v)])) a (exo a C (some dx)))
/-- an error of the class at C, its field f being v, may be raised from H -/
def Err (C : Addr) (f : Str) (v : V) (H : Hp) (E : XK) : Prop := ∀ (d : Addr) (H' : Hp), H d = none → Same H H' → H' d = some (.xd [(f, v)]) → E (.ref C) (some d) H'
theorem Err.at {C : Addr} {f : Str} {v : V} {H H1 : Hp} {E : XK} (e : Err C f v H E) (s : Same H H1) : Err C f v H1 E := fun d H' n t h => e d H' (by
  cases q : H d with
  | none => rfl
  | some o => rw [s _ _ q] at n; cases n) (s.trans t) h
def RzQ (C : Addr) (sp : Sp) (W : WX) (σ : L2.St) (vs : List V) (H1 : Hp) : Prop := vs.length ≤ 1000 ∧ ∀ a, H1 a = none → sp (.ref a :: (vs ++ [])) (upd H1 a (exo a C none))
  (fun v H2 => v = .non ∧ ∃ (d : Addr) (fs : List (Str × V)), H2 a = some (exo a C (some d)) ∧ H2 d = some (exd d fs) ∧ H1 d = none ∧ W (.ref C) (some d) σ (upd (del H2 a) d (.xd fs))) (fun _ _ _ => False)
theorem r_rz {σ : L2.St} {H : Hp} {D : Ends} {C : Addr} {sp : Sp} {W : WX} {ta : TA} (k : ta σ H fun vs H1 => RzQ C sp W σ vs H1) : tRz C sp ta W D σ H := k
theorem rz_one {K : PySem.W.Frag} {σ : L2.St} {H1 : Hp} {C : Addr} {f : Str} {W : WX} {v : V} (T : OexC K C) (hf : PySem.W.findIn K (.ref C) f = some none) (er : Err C f v H1 (fun cls d H' => W cls d σ H')) : RzQ C (spInit K f) W σ [v] H1 := by
  refine ⟨show 1 ≤ 1000 by decide, fun a ha => ⟨a, C, v, rfl, T, hf, upd_same, fun dx hd ne => ⟨rfl, dx, [(f, v)], upd_same, by rw [upd_ne ne, upd_same], ?_, ?_⟩⟩⟩
  · rwa [upd_ne ne] at hd
  · rw [upd_ne ne] at hd
    refine er dx _ hd (fun b o hb => ?_) upd_same
    have b1 := ne_of_none hb hd
    have b2 := ne_of_none hb ha
    rw [upd_ne b1, del_ne b2, upd_ne b2, upd_ne b1, upd_ne b2]
    exact hb
theorem asOst {X : Cx} {K : PySem.W.Frag} {st : Stmt} {f : Str} {to te : TE} (eK : X.K = K) (h : PS X st (tOst X.K f to te)) : PS X st (tOst K f to te) := eK ▸ h
theorem r_ost {K : PySem.W.Frag} {σ : L2.St} {H : Hp} {f : Str} {to te : TE} {n : L2.St → Hp → Prop} {rt : VK} {bk ct : L2.St → Hp → Prop} (k : te σ H fun y H1 => to σ H1 fun x H2 => ∃ a C : Addr, x = .ref a ∧ OexC K C ∧ PySem.W.findIn K (.ref C) f = some none ∧
  ((H2 a = some (exo a C none) ∧ ∀ dx, H2 dx = none → dx ≠ a → n σ (upd (upd H2 dx (exd dx [(f, y)])) a (exo a C (some dx)))) ∨
    ∃ (dx : Addr) (fs : List (Str × V)), H2 a = some (exo a C (some dx)) ∧ H2 dx = some (exd dx fs) ∧ fs.length ≤ 900 ∧ n σ (upd H2 dx (exd dx ((f, y) :: fs))))) : tOst K f to te ⟨n, rt, bk, ct⟩ σ H := k
theorem r_callS {σ : L2.St} {H : Hp} {Q : VK} {sp : Sp} {E : L2.St → XK} {t : TA} (k : t σ H fun vs H1 => sp vs H1 Q (E σ)) : tCallS sp E t σ H Q := k
/-- signs and line feeds, at most 2,000 -/
def Lf (l : List Nat) : Prop := l.length ≤ 2000 ∧ ∀ c ∈ l, c = 10 ∨ 32 ≤ c ∧ c ≤ 126
/-- the words, or the first sign that is wrong -/
def cutR (st : Sc → Nat → Nat → Except Nat Sc) (l : List Nat) : Except Nat (List (List Nat)) := match M.scan st 0 sc0 l with
  | .error e => .error e
  | .ok t => if t.tk = true then .error (l.length - 1) else if t.qt ≠ 0 then .error t.op else .ok (fin t)
end J
namespace J
open PySem PySem.Spec PyProof.Rows L2 M
/-- what the written part says of an own error x with one field f -/
structure OE (P : Program) (w : World) (K : PySem.W.Frag) (mg : Str → Option Value) (base : Heap) (x f : Str) (C : Addr) : Prop where
  T : OexC K C
  nf : PySem.W.findIn K (.ref C) f = some none
  gl : mg x = some (.ref C)
  ini : ∃ (fI : Addr) (fdI : FuncData), PySem.W.findIn K (.ref C) "__init__" = some (some (.ref fI)) ∧ PySem.W.typeIn K (.ref fI) = some (.type "function") ∧ FnOk P w K mg base CX0 1 fI fdI ["self", f] (spInit K f) ∧ Binds K fdI ["self", f] []
theorem ps_rzK {X : Cx} {K : PySem.W.Frag} {W : WX} {e : Expr} {C : Addr} {x f : Str} {ta : TA} {p pos pos2 : Pos} (eK : X.K = K) (hc : X.calm = true) (tk : Takes X W) (O : OE X.prog X.w X.K X.mg X.base x f C) (hr : Room 2 X.A) (hg : Gl X x) (ha : PA X [e] ta)
    (hdb : (x == ("__debug__" : Str)) = false := by decide) (he : starEach (e :: []) X.env = (false, eval e X.env) :: starEach [] X.env := by rfl) (hpl : (backTo pos (starEach [] X.env)).any (·.1) = false := by rfl) :
    PS X (.Raise (some (.Call (.Name x p) [e] [] pos)) none pos2) (tRz C (spInit K f) ta W) := by
  subst eK
  obtain ⟨fI, fdI, i1, i2, i3, i4⟩ := O.ini
  exact ps_rz hc tk (pmk_oex O.T i1 i2 i3 hr i4 .nil pass0 hg O.gl ha hdb he hpl)
end J
namespace J
open PySem PySem.Spec PyProof.Rows L2 M
mutual
theorem dp_mono {K : PySem.W.Frag} {H H' : Hp} (s : Same H H') : ∀ {v : V} {d : PyData}, Dp K H v d → Dp K H' v d
  | _, _, .non => .non
  | _, _, .bl b => .bl b
  | _, _, .int i => .int i
  | _, _, .str x => .str x
  | _, _, .lst h a => .lst (s.seqL h) (dpa_mono s a)
  | _, _, .tup h a => .tup (s.seqT h) (dpa_mono s a)
theorem dpa_mono {K : PySem.W.Frag} {H H' : Hp} (s : Same H H') : ∀ {vs : List V} {ds : List PyData}, DpAll K H vs ds → DpAll K H' vs ds
  | _, _, .nil => .nil
  | _, _, .cons h r => .cons (dp_mono s h) (dpa_mono s r)
end
theorem eqv_ws : ∀ a b : List (List Nat), PyData.eqv (dWs a) (dWs b) = decide (a = b)
  | [], [] => rfl
  | [], _ :: _ => rfl
  | _ :: _, [] => rfl
  | x :: a, y :: b => by
    have ih := eqv_ws a b
    show (PyData.eqv (dW x) (dW y) && PyData.eqv (dWs a) (dWs b)) = _
    rw [ih]
    have e : PyData.eqv (dW x) (dW y) = decide (x = y) := by
      show (S x == S y) = _
      by_cases h : x = y
      · subst h; simp
      · rw [decide_eq_false h]
        simp [S_inj, h]
    rw [e, ← Bool.decide_and]
    exact decide_eq_decide.mpr (by simp)
end J
namespace J
open PySem PySem.Spec PyProof.Rows L2 M
/-- neither a list nor a tuple -/
def NoSeq (H : Hp) (x : V) : Prop := x = .non ∨ (∃ y, x = .str y) ∨ ∃ a kvs, x = .ref a ∧ H a = some (.dK kvs)
theorem NoSeq.mono {H H' : Hp} {x : V} (s : Same H H') (h : NoSeq H x) : NoSeq H' x := by
  rcases h with h | h | ⟨a, kvs, e, h⟩
  · exact .inl h
  · exact .inr (.inl h)
  · exact .inr (.inr ⟨a, kvs, e, s _ _ h⟩)
theorem r_eqWW {K : PySem.W.Frag} {H : Hp} {Q : VK} {a b : Addr} {ls ms : List (List Nat)} (ha : SqL K H a (ls.map wV)) (hb : SqL K H b (ms.map wV)) (h1 : ∀ l ∈ ls, ∀ c ∈ l, c ≤ 126) (h2 : ∀ l ∈ ms, ∀ c ∈ l, c ≤ 126) (k : Q (.bl (decide (ls = ms))) H) : rEqA K (.ref a) (.ref b) H Q :=
  .inr ⟨dWs ls, dWs ms, dp_ws ha, dp_ws hb, sh_ws h1, sh_ws h2, by rw [eqv_ws]; exact k⟩
end J
namespace M
/-- the signs of l, some with a stroke ahead, all of need -/
inductive Strk (need : List Nat) : List Nat → List Nat → Prop
  | nil : Strk need [] []
  | bare {c : Nat} {l o : List Nat} (h : c ∉ need) (r : Strk need l o) : Strk need (c :: l) (c :: o)
  | str {c : Nat} {l o : List Nat} (r : Strk need l o) : Strk need (c :: l) (92 :: c :: o)
theorem Strk.len {need : List Nat} : ∀ {l o : List Nat}, Strk need l o → o.length ≤ 2 * l.length
  | _, _, .nil => Nat.le_refl _
  | _, _, .bare h r => by have := r.len; simp only [List.length_cons]; omega
  | _, _, .str r => by have := r.len; simp only [List.length_cons]; omega
theorem Strk.mem {need : List Nat} : ∀ {l o : List Nat}, Strk need l o → ∀ c ∈ o, c = 92 ∨ c ∈ l
  | _, _, .nil, c, h => (List.not_mem_nil h).elim
  | _, _, .bare _ r, c, h => by
    rcases List.mem_cons.mp h with q | q  -- own
    · exact .inr (by rw [q]; exact List.mem_cons_self ..)
    · exact (r.mem c q).imp id (List.mem_cons_of_mem _)
  | _, _, .str r, c, h => by
    rcases List.mem_cons.mp h with q | q  -- own
    · exact .inl q
    rcases List.mem_cons.mp q with q | q
    · exact .inr (by rw [q]; exact List.mem_cons_self ..)
    · exact (r.mem c q).imp id (List.mem_cons_of_mem _)
/-- one part of a word, in one of three ways -/
inductive Pc : List Nat → List Nat → Prop
  | sq {p : List Nat} (h : 39 ∉ p) : Pc p (39 :: p ++ [39])
  | dq {p o : List Nat} (h : Strk N2 p o) : Pc p (34 :: o ++ [34])
  | ba {p o : List Nat} (h : Strk N1 p o) : Pc p o
theorem Pc.len {p q : List Nat} (h : Pc p q) : q.length ≤ 2 * p.length + 2 := by
  cases h with
  | sq _ => simp only [List.length_append, List.length_cons, List.length_nil]; omega
  | dq r => have := r.len; simp only [List.length_append, List.length_cons, List.length_nil]; omega
  | ba r => have := r.len; omega
theorem Pc.mem {p q : List Nat} (h : Pc p q) (hp : ∀ c ∈ p, 32 ≤ c ∧ c ≤ 126) : ∀ c ∈ q, 32 ≤ c ∧ c ≤ 126 := by
  have k : ∀ {need o}, Strk need p o → ∀ c ∈ o, 32 ≤ c ∧ c ≤ 126 := fun r c hc => by
    rcases r.mem c hc with q | q
    · omega
    · exact hp c q
  intro c hc
  cases h with
  | sq _ =>
    rcases List.mem_append.mp hc with q | q
    · rcases List.mem_cons.mp q with q | q  -- own
      · omega
      · exact hp c q
    · have := List.mem_singleton.mp q; omega
  | dq r =>
    rcases List.mem_append.mp hc with q | q
    · rcases List.mem_cons.mp q with q | q  -- own
      · omega
      · exact k r c q
    · have := List.mem_singleton.mp q; omega
  | ba r => exact k r c hc
/-- parts, one behind the other -/
inductive Wrt : List Nat → List Nat → Prop
  | nil : Wrt [] []
  | snoc {l o p q : List Nat} (h : Wrt l o) (n : p ≠ []) (k : Pc p q) : Wrt (l ++ p) (o ++ q)
theorem Wrt.len : ∀ {l o : List Nat}, Wrt l o → o.length ≤ 4 * l.length
  | _, _, .nil => Nat.le_refl _
  | _, _, .snoc (p := p) h n k => by
    have := h.len
    have := k.len
    have : 0 < p.length := List.length_pos_iff.mpr n
    simp only [List.length_append]; omega
theorem Wrt.mem : ∀ {l o : List Nat}, Wrt l o → (∀ c ∈ l, 32 ≤ c ∧ c ≤ 126) → ∀ c ∈ o, 32 ≤ c ∧ c ≤ 126
  | _, _, .nil, _, c, h => (List.not_mem_nil h).elim
  | _, _, .snoc h n k, hp, c, hc => by
    rcases List.mem_append.mp hc with q | q
    · exact h.mem (fun d hd => hp d (List.mem_append_left _ hd)) c q
    · exact k.mem (fun d hd => hp d (List.mem_append_right _ hd)) c q
/-- a word as it is written -/
def WrO (l o : List Nat) : Prop := (l = [] ∧ o ∈ [[39, 39], [34, 34], [39, 39, 34, 34], [34, 34, 34, 34]]) ∨ (l ≠ [] ∧ Wrt l o)
theorem WrO.len {l o : List Nat} (h : WrO l o) (hl : l.length ≤ 40) : o.length ≤ 160 := by
  rcases h with ⟨_, h⟩ | ⟨_, h⟩
  · simp only [List.mem_cons, List.not_mem_nil, or_false] at h
    rcases h with h | h | h | h <;> subst h <;> decide
  · have := h.len; omega
theorem WrO.mem {l o : List Nat} (h : WrO l o) (hp : ∀ c ∈ l, 32 ≤ c ∧ c ≤ 126) : ∀ c ∈ o, 32 ≤ c ∧ c ≤ 126 := by
  rcases h with ⟨_, h⟩ | ⟨_, h⟩
  · simp only [List.mem_cons, List.not_mem_nil, or_false] at h
    rcases h with h | h | h | h <;> subst h <;> decide
  · exact h.mem hp
/-- a gap -/
def Gp (g : List Nat) : Prop := ∀ c ∈ g, c = 32 ∨ c = 10
theorem scan_gap : ∀ (g : List Nat), Gp g → ∀ (i : Nat) (ws : List (List Nat)) (b : Option (List Nat)) (op : Nat), scan stP i ⟨ws, b, 0, op, false⟩ g = .ok (if g = [] then ⟨ws, b, 0, op, false⟩ else ⟨ws ++ b.toList, none, 0, op, false⟩)
  | [], _, i, ws, b, op => by simp [scan]
  | c :: g, h, i, ws, b, op => by
    have hc := h c (List.mem_cons_self ..)  -- own
    have e1 : stP ⟨ws, b, 0, op, false⟩ i c = .ok ⟨ws ++ b.toList, none, 0, op, false⟩ := by
      rcases hc with q | q <;> subst q <;> cases b <;> simp [stP]
    have ih := scan_gap g (fun d hd => h d (List.mem_cons_of_mem _ hd)) (i + 1) (ws ++ b.toList) none op
    simp only [scan, e1]
    rw [ih]
    by_cases q : g = [] <;> simp [q]
end M
namespace M
/-- so far: these words, the last one begun, nothing open -/
def SoFar (ls : List (List Nat)) (f : List Nat) : Prop := ∃ o, scan stP 0 sc0 f = .ok ⟨ls.dropLast, ls.getLast?, 0, o, false⟩
theorem last_split : ∀ ls : List (List Nat), ls.dropLast ++ ls.getLast?.toList = ls
  | [] => rfl
  | [x] => rfl
  | x :: y :: r => by rw [List.dropLast_cons₂, List.getLast?_cons_cons, List.cons_append, last_split (y :: r)]
/-- the line's end: it is cut to the words -/
theorem SoFar.done {ls : List (List Nat)} {f g : List Nat} (h : SoFar ls f) (hg : Gp g) : ∃ t, scan stP 0 sc0 (f ++ g) = .ok t ∧ t.tk = false ∧ t.qt = 0 ∧ t.ws ++ t.bg.toList = ls := by
  obtain ⟨o, e⟩ := h
  rw [scan_app, e]
  simp only
  rw [scan_gap g hg]
  by_cases q : g = []
  · rw [if_pos q]; exact ⟨_, rfl, rfl, rfl, last_split ls⟩
  · rw [if_neg q]; exact ⟨_, rfl, rfl, rfl, by rw [last_split]; simp⟩
end M
namespace J
open PySem PySem.Spec PyProof.Rows L2 M
/-- a line of these words -/
def LineOf (ls : List (List Nat)) (f : List Nat) : Prop := f.length ≤ 4 + 170 * ls.length ∧ (∀ c ∈ f, c = 10 ∨ 32 ≤ c ∧ c ≤ 126) ∧ ∃ t, M.scan stP 0 sc0 f = .ok t ∧ t.tk = false ∧ t.qt = 0 ∧ fin t = ls
end J
namespace J
open PySem PySem.Spec PyProof.Rows L2 M
section
variable {σ : L2.St} {H : Hp} {Q : VK} {K : PySem.W.Frag} {D : Ends}
theorem r_slS {z : Str} {lo hi : Option Int} (h : z.length ≤ 16777216) (k : Q (.str (cutS z lo hi)) H) : rSl K (.str z) lo hi H Q := .inr ⟨z, rfl, h, k⟩
theorem r_while {c : TT} {tb : TS} {n : L2.St → Hp → Prop} {rt : VK} {bk ct : L2.St → Hp → Prop} (I : Nat → L2.St → Hp → Prop) (m0 : Nat) (start : I m0 σ H)
    (turn : ∀ m σ1 H1, I m σ1 H1 → c σ1 H1 fun b H2 => if b = true then (∃ N : L2.St → Hp → Prop, (∀ σ' H', N σ' H' → ∃ m', m' < m ∧ I m' σ' H') ∧ tb ⟨N, rt, n, N⟩ σ1 H2) else n σ1 H2) : tWhile c tb ⟨n, rt, bk, ct⟩ σ H := ⟨I, ⟨m0, start⟩, turn⟩
theorem cutS_take (z : Str) (k : Nat) : cutS z none (some (k : Int)) = S ((cd z).take k) := by
  rw [str_eq, cd_S]
  unfold cutS
  rw [HT.sIx_nat, HT.sIx_none]
  show ((cd z).drop 0).take (min k z.length - 0) = _
  rw [List.drop_zero, Nat.sub_zero, len_cd, ← List.take_take, List.take_length]
end
end J
namespace J
open PySem PySem.Spec PyProof.Rows L2 M
/-- for i, x in enumerate(list): an invariant over the number walked -/
theorem r_forEnumL {K : PySem.W.Frag} {σ : L2.St} {H : Hp} {i : Nat} {a : Addr} {xs : List V} {g : TG} {tb : TS} {n : L2.St → Hp → Prop} {rt : VK} {bk ct : L2.St → Hp → Prop} (hv : σ[i]? = some (some (.ref a))) (I : Nat → L2.St → Hp → Prop) (list : ∀ j σ1 H1, I j σ1 H1 → SqL K H1 a xs) (start : I 0 σ H)
    (turn : ∀ (j : Nat) σ1 H1 (T : Addr) (x : V), xs[j]? = some x → I j σ1 H1 → H1 T = none → g (.ref T) σ1 (upd H1 T (.tup [.int (j : Nat), x])) fun σ2 H2 => tb ⟨I (j + 1), rt, n, I (j + 1)⟩ σ2 H2)
    (fin : ∀ σ1 H1, I xs.length σ1 H1 → n σ1 H1) : tFor (iEnum K (tCons (tVar i) tNil)) g tb ⟨n, rt, bk, ct⟩ σ H := by
  refine ⟨.ref a, hv, a, xs, rfl, list _ _ _ start, ?_⟩
  exact loop_of (D := ⟨n, rt, bk, ct⟩) xs.length I start (fun j σ1 H1 hj w => ⟨xs, _, list _ _ _ w, List.getElem?_eq_getElem hj⟩) (fun σ1 H1 w => ⟨xs, list _ _ _ w, Nat.le_refl _⟩) (fun j σ1 H1 x H' hj w y => by
    obtain ⟨T, c, rfl, hT, rfl, hc⟩ := y
    exact turn j σ1 H1 T c (hc xs (list _ _ _ w)) w hT) fin
theorem asEnum {X : Cx} {K : PySem.W.Frag} {tg e : Expr} {ta : TA} (eK : X.K = K) (h : PI X tg e (iEnum X.K ta)) : PI X tg e (iEnum K ta) := eK ▸ h
end J
namespace J
open PySem PySem.Spec PyProof.Rows L2 M
theorem r_lcRG {σ : L2.St} {H : Hp} {Q : VK} {ta : TA} {te' : TE} {g : TG} {tt : TT} {vs : List Nat} (k : ta σ H fun ws H1 => ∃ j : Int, ws = [.int j] ∧ -(2 ^ 62) ≤ j ∧ j < 2 ^ 62 ∧ ∀ E, H1 E = none → CompQ (Itr 0 j.toNat) g tt te' vs σ H1 E fun H => Q (.ref E) H) : tLc (iRng1 ta) g tt te' vs σ H Q := k
end J
namespace J
open PySem PySem.Spec PyProof.Rows L2 M
end J
namespace J
open PySem PySem.Spec PyProof.Rows L2 M
theorem r_xf {a C dd : Addr} {cls : Value} {d : Option Addr} {f : Str} {i : Nat} {v : V} {σ : L2.St} {H : Hp} {Q : VK} (hv : σ[i]? = some (some (.ref a))) (hc : cls = .ref C) (hd : d = some dd) (h : H dd = some (.xd [(f, v)])) (k : Q v H) : tXf a cls d C f (tVar i) σ H Q :=
  ⟨_, hv, rfl, hc, dd, _, v, hd, h, by simp [List.lookup], k⟩
end J
namespace J
open PySem PySem.Spec PyProof.Rows L2 M
def tRevS (te : TE) : TE := fun σ H Q => te σ H fun x H1 => ∃ z : Str, x = .str z ∧ z.length ≤ sizeLine ∧ Q (.str (S (cd z).reverse)) H1
end J
namespace J
open PySem PySem.Spec PyProof.Rows L2 M
theorem r_rev {te : TE} {σ : L2.St} {H : Hp} {Q : VK} (k : te σ H fun x H1 => ∃ z : Str, x = .str z ∧ z.length ≤ sizeLine ∧ Q (.str (S (cd z).reverse)) H1) : tRevS te σ H Q := k
end J
namespace J
open PySem PySem.Spec PyProof.Rows L2 M
end J
namespace J
open PySem PySem.Spec PyProof.Rows L2 M
/-- a line that is cut to these words -/
def Cu (ws : List (List Nat)) (f : List Nat) : Prop := Lf f ∧ cutR stP f = .ok ws ∧ ws.length ≤ 40
theorem Cu.of {ls : List (List Nat)} {f : List Nat} (h : LineOf ls f) (hl : ls.length ≤ 10) : Cu ls f := by
  obtain ⟨h1, h2, t, h3, h4, h5, h6⟩ := h
  refine ⟨⟨by omega, h2⟩, ?_, by omega⟩
  unfold cutR
  rw [h3]
  simp only [h4, h5, h6]
  rfl
/-- what is no list of these words, and can be asked about -/
def Odd (K : PySem.W.Frag) (ws : List (List Nat)) (H : Hp) (x : V) : Prop := NoSeq H x ∨ ∃ (a : Addr) (xs : List V) (ds : List PyData), x = .ref a ∧ (H a = some (.lst xs) ∨ H a = some (.tup xs)) ∧ DpAll K H xs ds ∧ SeqAt.shaped (.list ds) = true ∧ PyData.eqv (.list ds) (dWs ws) = false
theorem Odd.mono {K : PySem.W.Frag} {ws : List (List Nat)} {H H' : Hp} {x : V} (s : Same H H') (h : Odd K ws H x) : Odd K ws H' x := by
  rcases h with h | ⟨a, xs, ds, e, h1, h2, h3⟩
  · exact .inl (h.mono s)
  · exact .inr ⟨a, xs, ds, e, h1.imp (s _ _) (s _ _), dpa_mono s h2, h3⟩
end J
namespace J
open PySem PySem.Spec PyProof.Rows L2 M
end J
namespace J
open PySem PySem.Spec PyProof.Rows L2  -- own
end J
namespace J
open PySem PySem.Spec PyProof.Rows L2  -- own
/-- as FnOk, of calls with no repr around -/
structure FnG (P : Program) (w : World) (K : PySem.W.Frag) (mg : Str → Option Value) (base : Heap) (CX : CXT) (k : Nat) (f : Addr) (fd : FuncData) (ps : List Str) (sp : Sp) : Prop where
  long : ∀ vs H Q E, sp vs H Q E → vs.length = ps.length
  goes : ∀ (A : Around), A.guards = some [] → Room k A → ∀ (outer : List Env) (s : Shared) (H : Hp), Env0 P w K mg base A outer s H → ∀ (args : Args) (us : List Value) (vs : List V) (Q : VK) (E : XK),
    BindsTo s fd args (ps.zip us) → Vals vs us → sp vs H Q E → codeAny (model P w) A (.call (.ref f) args) (CR CX outer P w H s Q E) s
theorem FnG.of {P : Program} {w : World} {K : PySem.W.Frag} {mg : Str → Option Value} {base : Heap} {CX : CXT} {k : Nat} {f : Addr} {fd : FuncData} {ps : List Str} {sp : Sp} (F : FnOk P w K mg base CX k f fd ps sp) : FnG P w K mg base CX k f fd ps sp :=
  ⟨F.len, fun A _ hr outer s H e0 args us vs Q E b r h => F.run A outer s H args us vs Q E hr e0 b r h⟩
section
variable {P : Program} {w : World} {K : PySem.W.Frag} {mg : Str → Option Value} {base : Heap}  -- own
/-- a def's promise from its body's, where no repr is running -/
theorem fun_g {x qual : Str} {st : Stmt} {f : Addr} {fd : FuncData} {N ps : List Str} {k : Nat} {sp : Sp} (F : Fun K x qual st f fd) (S : FnScope N ps (defScope st)) (long : ∀ vs H Q E, sp vs H Q E → vs.length = ps.length)
    (body : ∀ (cdv : Value) (A : Around) (outer : List Env) (s : Shared) (H : Hp) (vs : List V) (Q : VK) (E : XK), A.guards = some [] → Room k (A.deeper (envOfC qual (defScope st) s.heap.objs.size f cdv)) → sp vs H Q E →
      ∃ t, PSs (cxOf CX0 P w K mg base N qual (defScope st) f cdv A outer s H E).nox (defBody st) t ∧ t { nx := fun _ H' => Q .non H', rt := Q } (start N vs) H) : FnG P w K mg base CX0 (k + 1) f fd ps sp := by
  obtain ⟨oc, od, kV, doc, pm, an, cdv, ct, osl, e, lk, hcd⟩ := F.ex
  subst e
  refine ⟨long, fun A hg hr outer s H e0 args us vs Q E b r h => ?_⟩
  have hl : vs.length = ps.length := long _ _ _ _ h
  have stay := fun (a : Addr) (o : Obj) (q : base.get? a = some o) => (e0.bs a o q).1
  have kin : K.In s.heap := e0.mod.kin.keeps stay
  have free := e0.mod.nolimit.keeps stay
  refine codeAny_call_function hr.depth (kin _ _ lk) rfl S.co S.gen rfl (PySem.W.codeRec_of kin hcd) (b _ _ _ _ ?_)
  have known : ∀ y ∈ ps.zip us, (defScope st).names.lookup y.1 = some .local ∨ ((defScope st).names.lookup y.1 = some .cell ∧ ((cellsFrom (s.heap.objs.size + 1) (defScope st).names []).lookup y.1).isSome = true) := by
    rintro ⟨n, v⟩ hy
    exact (S.par n (List.of_mem_zip hy).1).imp id fun q => ⟨q, PySem.W.cellsFrom_some _ _ _ (.inl q)⟩
  refine wpAny_newFunctionEnv_cells S.kind known fun env he s1 xx => ?_
  subst he
  refine ⟨free.keeps xx.toInCall.keep, codeAny_func ?_⟩
  obtain ⟨t, pt, q⟩ := body cdv A outer s H vs Q E hg (hr.deeper _) h
  have I1 : Inv (cxOf CX0 P w K mg base N qual (defScope st) f cdv A outer s H E) [] (start N vs) H s1 := inv_start S hr.hd e0 hl r xx
  refine wpAny_mono (pt.nox.run [] s1 (start N vs) H _ I1 q) (fun fl s2 hs => ?_) fun _ _ z => z
  cases fl with
  | brk => exact hs.elim fun _ z => z.elim fun _ z => z.2.elim
  | cont => exact hs.elim fun _ z => z.elim fun _ z => z.2.elim
  | next => obtain ⟨_, H2, J2, q2⟩ := hs; exact ⟨.non, H2, J2.os, J2.bare, J2.base, J2.hok, rfl, q2⟩
  | ret u => obtain ⟨v, _, H2, J2, rv, q2⟩ := hs; exact ⟨v, H2, J2.os, J2.bare, J2.base, J2.hok, rv, q2⟩
end
end J
namespace J
open PySem PySem.Spec PyProof.Rows L2  -- own
/-- what a law's call comes to -/
abbrev Fine (s s' : Shared) (r : Result) : Prop := r = .ok (.ret (.bool true)) ∧ OldK s.heap s'.heap ∧ s'.os = s.os ∧ AllBare s'.gens
section
variable {P : Program} {w : World} {K : PySem.W.Frag} {mg mb : Str → Option Value} {k : Nat} {fa a : Addr} {fd : FuncData} {x : Str} {sp : Sp} {s : Shared}
/-- with just the script tracked, or nothing -/
theorem top_at (kin : K.In s.heap) (hns : s.heap.Ns mainGlobals mg) (hmb : s.heap.Ns builtinsNs mb) (hbb : ∀ x : Str, x ≠ "__name__" → mb x = bootBuiltins x) (free : s.heap.NoLimit) (hg : s.gens = #[]) (hr : Room k callerA)
    (F : ∀ base : Heap, K.In base → base.Ns mainGlobals mg → FnG P w K mg base CX0 k fa fd [x] sp) (bind : ∀ (s : Shared) (u : Value), BindsTo s fd ⟨[u], []⟩ [(x, u)])
    {H : Hp} (only : Only H) (hok : HOk P w H s.heap) (just : ∀ b, H b ≠ none → b = a) (apart : H a ≠ none → K.lookup a = none) (list : ∀ o, s.heap.get? a = some o → ∀ es ep, o.data ≠ .dict es ep)
    (h : sp [.ref a] H (fun v _ => v = .bl true) fun _ _ _ => False) : codeAny (model P w) callerA (.call (.ref fa) ⟨[.ref a], []⟩) (fun r s' => Fine s s' r) s := by
  have off : ∀ {b : Addr} {m : Str → Option Value}, s.heap.Ns b m → (hidT s.heap H).Ns b m := fun {b m} ns => by
    obtain ⟨o, es, ep, e, d, r⟩ := ns
    refine ⟨o, es, ep, hidT_get e (Classical.byContradiction fun z => ?_), d, r⟩
    have := just b z
    subst this
    exact list o e es ep d
  have kb : K.In (hidT s.heap H) := fun b o e => hidT_get (kin b o e) (Classical.byContradiction fun z => by
    have := just b z
    subst this
    rw [apart z] at e
    cases e)
  have mod : Mod K mg (hidT s.heap H) := ⟨kb, off hns, ⟨mb, off hmb, hbb⟩, free.elim fun mc z => ⟨mc, off z.1, z.2⟩⟩
  have e0 : Env0 P w K mg (hidT s.heap H) callerA [] s H := ⟨rfl, mod, fun b o e => of_hidT e, Nat.le_of_eq (hidT_size _ _), trivial, fun b hb => (List.not_mem_nil hb).elim, hok, .of_eq hg⟩
  refine codeAny_mono ((F _ kb (off hns)).goes callerA rfl hr [] s H e0 ⟨[.ref a], []⟩ [.ref a] [.ref a] _ _ (bind s (.ref a)) (.cons rfl .nil) h) fun r s' q => ?_
  match r, q with
  | .error e, q => exact (show False from q).elim
  | .ok .next, q => exact q.elim
  | .ok .brk, q => exact q.elim
  | .ok .cont, q => exact q.elim
  | .ok (.ret u), q =>
    obtain ⟨v, H', os, bare, un, hok', rv, ev⟩ := q
    obtain rfl : v = .bl true := ev
    obtain rfl : u = Value.bool true := rv
    refine ⟨rfl, OldK.of_keep fun b o e => ?_, os, bare⟩  -- own
    rcases only b with z | ⟨ob, xs, z⟩
    · exact un.keep b o e z List.not_mem_nil List.not_mem_nil
    · have g1 := (hok b _ z).1
      have g2 := (hok' b _ (un.frzs b ob _ z)).1
      rw [e] at g1
      cases g1
      exact g2
/-- the law's promise, at the heap behind the top -/
theorem top_call {n : Nat} {vs : List Value} {ns : List Int} (kin : K.In s.heap) (hns : s.heap.Ns mainGlobals mg) (hmb : s.heap.Ns builtinsNs mb) (hbb : ∀ x : Str, x ≠ "__name__" → mb x = bootBuiltins x) (free : s.heap.NoLimit) (hg : s.gens = #[]) (hr : Room k callerA)
    (F : ∀ base : Heap, K.In base → base.Ns mainGlobals mg → FnG P w K mg base CX0 k fa fd [x] sp) (bind : ∀ (s : Shared) (u : Value), BindsTo s fd ⟨[u], []⟩ [(x, u)])
    (ha : s.heap.get? a = some { cls := .type "list", data := .seq vs.toArray }) (hi : IntsAre vs ns) (hl : ns.length ≤ n) (hn : n ≤ sizeLine)
    (h : ∀ H : Hp, Only H → SqL K H a (ns.map V.int) → sp [.ref a] H (fun v _ => v = .bl true) fun _ _ _ => False) :
    codeAny (model P w) callerA (.call (.ref fa) ⟨[.ref a], []⟩) (fun r s' => Fine s s' r) s := by
  have rv := vals_ints hi
  have nd : ∀ o, s.heap.get? a = some o → ∀ es ep, o.data ≠ .dict es ep := fun o e es ep z => by
    rw [ha] at e
    cases e
    cases (show Data.seq vs.toArray _ = Data.dict es ep from z)
  have small : ns.length ≤ sizeLine := Nat.le_trans hl hn
  cases q : K.lookup a with
  | some o =>
    have e := kin a o q
    rw [ha] at e
    cases e
    refine top_at kin hns hmb hbb free hg hr F bind (H := fun _ => none) (fun _ => .inl rfl) (fun _ _ z => nomatch z) (fun _ z => (z rfl).elim) (fun z => (z rfl).elim) nd (h _ (fun _ => .inl rfl) (.inr ⟨_, vs.toArray, _, q, rfl, rfl, rfl, ?_, by simpa using rv⟩))
    rw [List.size_toArray, hi.length]  -- own
    exact small
  | none =>
    let ob : Obj := { cls := .type "list", data := .seq vs.toArray }
    have at_a : (fun b : Addr => if b = a then some (HO.frz ob (.lst (ns.map V.int))) else none) a = some (HO.frz ob (.lst (ns.map V.int))) := if_pos rfl
    have off : ∀ b : Addr, b ≠ a → (fun b : Addr => if b = a then some (HO.frz ob (.lst (ns.map V.int))) else none) b = none := fun b z => if_neg z
    have only : Only (fun b : Addr => if b = a then some (HO.frz ob (.lst (ns.map V.int))) else none) := fun b => (Classical.em (b = a)).elim (fun z => .inr ⟨ob, ns.map V.int, z ▸ at_a⟩) fun z => .inl (off b z)
    refine top_at kin hns hmb hbb free hg hr F bind (H := fun b : Addr => if b = a then some (HO.frz ob (.lst (ns.map V.int))) else none) only (fun b u z => ?_) (fun b z => Classical.byContradiction fun y => z (off b y)) (fun _ => q) nd (h _ only (.inl (.inr ⟨ob, at_a⟩)))
    rcases Classical.em (b = a) with y | y
    · subst y
      cases at_a.symm.trans z
      exact ⟨ha, by rw [List.length_map]; exact small, vs, _, rv, ha⟩
    · cases (off b y).symm.trans z
end
end J
namespace PySem
namespace JX
open PySem.W PySem.Calls PyProof.Rows PySem.HandSPX Builtin Builtin.ObjectAttr
/-- own classes, then a base's mro -/
def Over (tail : List Value) (l : List Value) : Prop := ∃ cs : List Addr, l = cs.map Value.ref ++ tail
theorem Over.pass {tail : List Value} {self : Value} (h : refuseLoop self "__setattr__" tail = pure ()) {l : List Value} (o : Over tail l) : refuseLoop self "__setattr__" l = pure () := by
  obtain ⟨cs, rfl⟩ := o
  induction cs with
  | nil => exact h
  | cons c cs ih => exact (refuseLoop_ref ..).trans ih
theorem Over.has {tail : List Value} {l : List Value} (o : Over tail l) (x : String) : l.contains (.type x) = tail.contains (.type x) := by
  obtain ⟨cs, rfl⟩ := o
  induction cs with
  | nil => rfl
  | cons c cs ih => rw [List.map_cons, List.cons_append, List.contains_cons, ih]; rfl
theorem Over.more {tail : List Value} {l : List Value} (o : Over tail l) (c : Addr) : Over tail (.ref c :: l) := by
  obtain ⟨cs, rfl⟩ := o
  exact ⟨c :: cs, rfl⟩
section
variable {prog : Program} {w : World} {A : Around} {R : Result → Shared → Prop} {hp : Heap} {g : Array GenState} {d : Drawn} {t : Nat} {os : OsState} {K : W.Frag} {name : Str} {tk : Tok} {v : Value} {x C : Addr} {fv : Array Value} {cd : ClassData}
/-- the first attribute of an exception -/
theorem first_attr (kin : K.In hp) (at_x : hp.get? x = some { cls := .ref C, data := .fields fv }) (cls : W.clsIn K C = some cd) (some_ : cd.mro.isEmpty = false) (ob : cd.mro.contains (.type "object") = true)
    (ps : refuseLoop (.ref x) "__setattr__" cd.mro = pure ()) (hd : cd.hasDict = true) (none_ : W.findIn K (.ref C) name = some none)
    (q : ∀ h' tk' dx, (∀ b o, b ≠ x → hp.get? b = some o → h'.get? b = some o) → hp.objs.size ≤ dx → dx ≠ x → h'.get? x = some { cls := .ref C, dict := some dx, data := .fields fv } →
      h'.Ns1 dx (fun y => if y = name then some v else none) → R (.ok (.ret .none)) ⟨h', g, d, tk', os⟩) :  -- own
    codeAny (model prog w) A (.call (.builtin "object.__setattr__") ⟨[.ref x, .str name tk, v], []⟩) R ⟨hp, g, d, t, os⟩ := by  -- own
  have old : x ≠ hp.objs.size := Nat.ne_of_lt (Heap.lt_size at_x)
  have ia : W.InstAt hp x { cls := .ref C, data := .fields fv } C none := ⟨at_x, rfl, rfl, trivial⟩
  have isob : W.Looks (model prog w) hp (isInstance (.ref x) (.type "object")) true := ia.type.andThen (W.looks_mroIn kin (by unfold W.mroIn; rw [cls, Option.bind_some, if_neg (by rw [some_]; decide), ob]))
  refine codeAny_call_builtin F.store_object.slot.plain F.store_object.entry (@W.check_slot (model prog w) _ _ ⟨hp, g, d, t, os⟩ "object.__setattr__" "object" "__setattr__" (.ref x) [.str name tk, v] [] _ F.store_object.kind F.store_object.split isob (F.store_object.args (.ref x) (.str name tk) v) ?_)
  have own : W.Looks (model prog w) hp (classData C) cd := W.looks_clsIn kin cls
  have line : W.Looks (model prog w) hp (mroOf (.ref C)) cd.mro := own.andThen .now
  have tk0 : W.Looks (model prog w) hp (storeTaker? none) none := .now
  rw [W.osa_eq, refuse_eq]
  refine wpAny_bind (wpAny_bind (ia.type.at (wpAny_bind (line.at ?_))))
  rw [ps]
  refine wpAny_pure (wpAny_bind (ia.type.at (wpAny_bind ((W.looks_findIn kin none_).at (wpAny_bind (tk0.at ?_))))))
  show wpAny _ _ (storeInOwnDict (.ref x) (.ref C) (.str name tk) name v false) _ _ _  -- own
  rcases cd with ⟨nm, bs, mro, ns, qn, hdd, sn, sb, ab, col, del⟩
  cases hd
  unfold storeInOwnDict ownDictForStores  -- own
  repeat (first | with_reducible refine store_in_new ?_ ?_ | with_reducible refine wpAny_loadPart_at at_x ?_ | with_reducible refine own.at ?_ | wp_step)
  · exact ⟨_, #[], _, (Heap.get?_update_ne _ _ _ _ old.symm).trans (Heap.get?_push_at rfl rfl), rfl, fun e he => absurd he (by simp), fun _ => rfl⟩
  · intro h' tk' hn' hs
    refine q h' tk' hp.objs.size (fun b o hb ho => (hs.2 b (Nat.ne_of_lt (Heap.lt_size ho))).trans ((Heap.get?_update_ne _ _ _ _ hb).trans (Heap.get?_push_of_some _ ho))) (Nat.le_refl _) old.symm ?_ hn'
    exact (hs.2 x old).trans (Heap.get?_update_self _ (Heap.get?_push_of_some _ at_x) rfl)
end
end JX
end PySem
namespace J
open PySem PySem.Spec PyProof.Rows L2  -- own
end J
namespace J
open PySem PySem.Spec PyProof.Rows L2 M
/-- at p: what is told; its words, where there are any, stand at a place that was free in H0 -/
def Told (H0 H : Hp) (p : Addr) (r : Except Nat (List (List Nat))) : Prop :=
  (∃ e, r = .error e ∧ H p = some (.lst [.str "sign", .int (e : Nat)])) ∨
  (∃ ws wd, r = .ok ws ∧ ws.length ≤ 40 ∧ H p = some (.lst [.str "told", .ref wd]) ∧ H wd = some (.lst (ws.map wV)) ∧ H0 wd = none ∧ wd ≠ p) ∨
  (∃ ws, r = .ok ws ∧ 40 < ws.length ∧ H p = some (.lst [.str "many", .int (ws.length : Nat)]))
theorem Told.mono {H0 H H' : Hp} {p : Addr} {r : Except Nat (List (List Nat))} (s : Same H H') (h : Told H0 H p r) : Told H0 H' p r := by
  rcases h with ⟨e, er, h⟩ | ⟨ws, wd, er, q, h1, h2, h3⟩ | ⟨ws, er, q, h⟩
  · exact .inl ⟨e, er, s _ _ h⟩
  · exact .inr (.inl ⟨ws, wd, er, q, s _ _ h1, s _ _ h2, h3⟩)
  · exact .inr (.inr ⟨ws, er, q, s _ _ h⟩)
end J
namespace J
open PySem PySem.Spec PyProof.Rows L2 M
def Mid (i : Nat) (s : Sc) : Prop := s.op ≤ i ∧ s.ws.length ≤ i ∧ (∀ w ∈ s.ws, w.length ≤ 40) ∧ (s.bg.getD []).length ≤ 40
end J
namespace J
open PySem PySem.Spec PyProof.Rows L2 M
theorem foldl_cat (l : Array Nat) : ∀ (k : Nat) (acc : Array Nat), ((List.replicate k l).foldl (· ++ ·) acc).toList = acc.toList ++ (List.replicate k l.toList).flatten
  | 0, acc => by simp
  | k + 1, acc => by
    rw [List.replicate_succ, List.foldl_cons, foldl_cat l k, List.replicate_succ, List.flatten_cons]
    simp
theorem mul_cd (z : Str) (n : Nat) : cd (Txt.mul z (n : Int)) = (List.replicate n (cd z)).flatten := by
  unfold Txt.mul
  by_cases h1 : (n : Int) < 1
  · rw [if_pos h1, show n = 0 by omega]; rfl
  · rw [if_neg h1]
    by_cases h2 : n = 1
    · subst h2; simp
    · by_cases h3 : z.length = 0
      · rw [if_pos (by rw [h3]; simp)]
        have e : cd z = [] := by rw [len_cd] at h3; exact List.eq_nil_of_length_eq_zero h3
        rw [e]
        simp
      · rw [if_neg (by simp; omega)]
        show ((List.replicate ((n : Nat) : Int).toNat z.cps).foldl (· ++ ·) #[]).toList = _
        rw [foldl_cat, Int.toNat_natCast]; simp
theorem mul_ok {z : Str} {n : Nat} (hz : z.length ≤ 1000) (hn : n ≤ 1000) : MulOk z (n : Int) := by
  refine ⟨by simp; omega, fun h1 _ => ?_, fun h1 _ => ?_⟩
  · have : (1000 : Int) ≤ (2 ^ 63 - 1) / (n : Int) := Int.le_ediv_of_mul_le (by omega) (by omega)
    omega
  · have : z.length * ((n : Nat) : Int).toNat ≤ 1000 * 1000 := Nat.mul_le_mul hz (by omega)
    unfold Builtin.Str.tooLong
    refine decide_eq_false (Nat.not_lt.mpr (Nat.le_trans this (by decide)))
end J
namespace J
open PySem PySem.Spec PyProof.Rows L2 M
theorem Bx.same {b : Addr} {H H' : Hp} {n : Nat} (h : Bx H b n) (s : Same H H') : Bx H' b n := let ⟨x, y, z, e, r⟩ := h; ⟨x, y, z, s _ _ e, r⟩
end J
namespace J
open PySem PySem.Spec PyProof.Rows L2 M
def cnt (t : Sc) : Nat := t.ws.length + t.bg.toList.length
def ToldS (F : Prop) (H0 H : Hp) (p : Addr) (r : Except Nat Sc) : Prop :=
  (∃ e, r = .error e ∧ H p = some (.lst [.str "sign", .int (e : Nat)])) ∨
  (∃ t q wd, r = .ok t ∧ cnt t ≤ 40 ∧ H p = some (.lst [.str "told", .ref q]) ∧ H q = some (.tup [.ref wd, obV t.bg, .str (qS t.qt)]) ∧ H wd = some (.lst (t.ws.map wV)) ∧ (F → H0 wd = none) ∧ wd ≠ p ∧ wd ≠ q) ∨
  (∃ t, r = .ok t ∧ 40 < cnt t ∧ H p = some (.lst [.str "many", .int (cnt t : Nat)]))
theorem ToldS.mono {F : Prop} {H0 H H' : Hp} {p : Addr} {r : Except Nat Sc} (s : Same H H') (h : ToldS F H0 H p r) : ToldS F H0 H' p r := by
  rcases h with ⟨e, er, h⟩ | ⟨t, q, wd, er, c, h1, h2, h3, h4⟩ | ⟨t, er, c, h⟩
  · exact .inl ⟨e, er, s _ _ h⟩
  · exact .inr (.inl ⟨t, q, wd, er, c, s _ _ h1, s _ _ h2, s _ _ h3, h4⟩)
  · exact .inr (.inr ⟨t, er, c, s _ _ h⟩)
end J
namespace J
open PySem PySem.Spec PyProof.Rows L2 M
theorem r_irng2 {ta : TA} {σ : L2.St} {H : Hp} {R : It → Hp → Prop} (k : ta σ H fun vs H1 => ∃ i j : Int, vs = [.int i, .int j] ∧ (-(2 ^ 62) ≤ i ∧ i < 2 ^ 62 ∧ -(2 ^ 62) ≤ j ∧ j < 2 ^ 62) ∧ R (Itr i (j - i).toNat) H1) : iRng2 ta σ H R := k
theorem r_neD0 {K : PySem.W.Frag} {H : Hp} {Q : VK} {x y : V} {d e : PyData} (hd : Dp K H x d) (he : Dp K H y e) (sd : SeqAt.shaped d = true) (se : SeqAt.shaped e = true) (q : PyData.eqv d e = true) (k : Q (.bl false) H) : rNeA K x y H Q := .inr ⟨d, e, hd, he, sd, se, by rw [q]; exact k⟩
end J
namespace J
open PySem PySem.Spec PyProof.Rows L2 M
def rIs (f : Str → Bool) : V → List V → Hp → VK → Prop := fun x xs H Q => ∃ a, x = .str a ∧ xs = [] ∧ True ∧ Q (.bl (f a)) H
theorem r_m0 {σ : L2.St} {H : Hp} {Q : VK} {r : V → List V → Hp → VK → Prop} {to : TE} (k : to σ H fun x H1 => (∃ a, x = .str a) ∧ r x [] H1 Q) : tM0 r to σ H Q := k
theorem r_is {f : Str → Bool} {z : Str} {H : Hp} {Q : VK} (k : Q (.bl (f z)) H) : rIs f (.str z) [] H Q := ⟨z, rfl, rfl, trivial, k⟩
theorem mA_isascii {X : Cx} : MtR X "str.isascii" (rIs Txt.isascii) := mt_isascii
theorem mA_isalpha {X : Cx} : MtR X "str.isalpha" (rIs Txt.isalpha) := mt_isalpha
theorem mA_islower {X : Cx} : MtR X "str.islower" (rIs Txt.islower) := mt_islower
theorem all_cd {p : Nat → Bool} {z : Str} : z.cps.all p = (cd z).all p := by rw [← Array.all_toList]
def tMaxD (K : PySem.W.Frag) (te td : TE) : TE := fun σ H Q => te σ H fun x H1 => td σ H1 fun y H2 => ∃ (a : Addr) (ns : List Int) (d : Int), x = .ref a ∧ y = .int d ∧ SqL K H2 a (ns.map .int) ∧ ∀ m : Int, (ns = [] → m = d) → (ns ≠ [] → m ∈ ns ∧ ∀ n ∈ ns, n ≤ m) → Q (.int m) H2
theorem r_maxD {K : PySem.W.Frag} {σ : L2.St} {H : Hp} {Q : VK} {te td : TE} (k : te σ H fun x H1 => td σ H1 fun y H2 => ∃ (a : Addr) (ns : List Int) (d : Int), x = .ref a ∧ y = .int d ∧ SqL K H2 a (ns.map .int) ∧ ∀ m : Int, (ns = [] → m = d) → (ns ≠ [] → m ∈ ns ∧ ∀ n ∈ ns, n ≤ m) → Q (.int m) H2) : tMaxD K te td σ H Q := k
end J
namespace J
open PySem PySem.Spec PyProof.Rows L2 M
end J
namespace J
open PySem PySem.Spec PyProof.Rows L2 M
/-- each once -/
def addU (l : List Str) (x : Str) : List Str := if x ∈ l then l else l ++ [x]
def uq (xs : List Str) : List Str := xs.foldl addU []
theorem uq_snoc (xs : List Str) (x : Str) : uq (xs ++ [x]) = addU (uq xs) x := by unfold uq; rw [List.foldl_append]; rfl
theorem addU_mem {l : List Str} {x y : Str} : y ∈ addU l x ↔ y ∈ l ∨ y = x := by
  unfold addU
  split
  · rename_i h
    exact ⟨.inl, fun q => q.elim id fun e => e ▸ h⟩
  · simp
theorem uq_len : ∀ (xs l : List Str), (xs.foldl addU l).length ≤ l.length + xs.length
  | [], l => Nat.le_refl _
  | x :: r, l => by
    rw [List.foldl_cons, List.length_cons]
    have := uq_len r (addU l x)
    have e : (addU l x).length ≤ l.length + 1 := by
      unfold addU
      split
      · omega
      · rw [List.length_append]; exact Nat.le_refl _
    omega
/-- as many as there are: just where all are unlike -/
theorem uq_all : ∀ (xs l : List Str), ((xs.foldl addU l).length = l.length + xs.length) ↔ (xs.Nodup ∧ ∀ x ∈ xs, x ∉ l)
  | [], l => by simp
  | x :: r, l => by
    rw [List.foldl_cons, List.length_cons, List.nodup_cons]
    have b := uq_len r (addU l x)
    by_cases h : x ∈ l
    · have e : addU l x = l := if_pos h
      rw [e] at b ⊢
      exact ⟨fun q => absurd q (by omega), fun q => absurd h (q.2 x (List.mem_cons_self ..))⟩
    · have e : addU l x = l ++ [x] := if_neg h
      have ih := uq_all r (l ++ [x])
      rw [e]
      rw [List.length_append] at ih
      have : l.length + [x].length + r.length = l.length + (r.length + 1) := by simp only [List.length_cons, List.length_nil]; omega
      rw [this] at ih
      rw [ih]
      refine ⟨fun q => ⟨⟨fun hx => q.2 x hx (List.mem_append_right _ (List.mem_singleton.mpr rfl)), q.1⟩, fun y hy => ?_⟩, fun q => ⟨q.1.2, fun y hy m => ?_⟩⟩
      · rcases List.mem_cons.mp hy with rfl | hy
        · exact h
        · exact fun m => q.2 y hy (List.mem_append_left _ m)
      · rcases List.mem_append.mp m with m | m
        · exact q.2 y (List.mem_cons_of_mem _ hy) m
        · rw [List.mem_singleton.mp m] at hy
          exact q.1.1 hy
theorem uq_eq (xs : List Str) : (uq xs).length = xs.length ↔ xs.Nodup := by
  have := uq_all xs []
  simpa [uq] using this
theorem uq_le (xs : List Str) : (uq xs).length ≤ xs.length := by
  have := uq_len xs []
  simpa [uq] using this
/-- which texts are in -/
def inU (l : List Str) : Str → Bool := fun y => decide (y ∈ l)
section
variable {prog : Program} {w : World} {A : Around} {R : Result → Shared → Prop} {it S : Addr} {fp wr : List Addr} {G : Array GenState → Array GenState → Prop} {n : Nat} {P : Nat → Value → Prop} {St : Nat → Shared → Prop}
theorem moves_set {s s' : Shared} {D : Str → Bool} {m : Nat} (q : Moved wr G s s') (hS : S ∉ wr) (h : s.heap.SetOf (strKind prog w) S D m) : s'.heap.SetOf (strKind prog w) S D m :=
  let ⟨o, es, ep, t, ho, r⟩ := h
  ⟨o, es, ep, t, q.heap S _ hS ho, r⟩
/-- what is taken in, text by text -/
theorem take_in (W : WalksS prog w A.in1 it fp wr G n P St) (hS : S ∉ fp) (xs : List Str) (hx : xs.length = n) (hv : ∀ i v, P i v → ∃ t, v = .str (xs.getD i Str.empty) t) (hn : n + 1 < scanBound) :
    ∀ (left i : Nat) (s : Shared), n - i = left → i ≤ n → St i s → s.heap.SetOf (strKind prog w) S (inU (uq (xs.take i))) (uq (xs.take i)).length →
      (∀ s', Moved (S :: wr) G s s' → s'.heap.SetOf (strKind prog w) S (inU (uq xs)) (uq xs).length → R (.ok (.ret .none)) s') → codeAny (model prog w) A (.builtin "set.update.loop" ⟨[.ref S, .ref it], []⟩) R s := by
  have out : S ∉ wr := fun h => hS (W.sub _ h)
  intro left
  induction left with
  | zero =>
    intro i s hl hi st h k
    obtain rfl : i = n := by omega
    refine codeAny_builtin F.entry_set_update_loop ?_
    rw [Around.under_plainId F.plain_set_update_loop]
    change wpAny _ A.in1 (pyNext (.ref it) >>= _) _ _ s
    refine wpAny_bind (W.done s _ _ st fun s1 m1 => ?_)
    change wpAny _ A.in1 (ret Value.none) _ _ s1
    rw [show xs.take i = xs from List.take_of_length_le (Nat.le_of_eq hx)] at h
    exact wpAny_pure (k s1 (m1.mono fun b hb => .tail _ hb) (moves_set m1 out h))
  | succ left ih =>
    intro i s hl hi st h k
    have lt : i < n := by omega
    refine codeAny_builtin F.entry_set_update_loop ?_
    rw [Around.under_plainId F.plain_set_update_loop]
    change wpAny _ A.in1 (pyNext (.ref it) >>= _) _ _ s
    refine wpAny_bind (W.item i s _ _ lt st fun v s1 p st1 m1 => ?_)
    obtain ⟨t, rfl⟩ := hv i v p
    have h1 := moves_set m1 out h
    generalize ex : xs.getD i Str.empty = x at h1 ⊢
    have es : xs.take (i + 1) = xs.take i ++ [x] := by
      have li : i < xs.length := by omega
      rw [List.take_add_one, List.getElem?_eq_getElem li, ← ex, List.getD_eq_getElem?_getD, List.getElem?_eq_getElem li]
      rfl
    have few : (uq (xs.take i)).length ≤ i := Nat.le_trans (uq_le _) (by rw [List.length_take]; omega)
    change wpAny _ A.in1 (holding [Value.str x t] (setAdd S (.str x t)) >>= _) _ _ s1
    refine wpAny_bind (wpAny_holding ?_)
    unfold setAdd
    refine wpAny_holding (wpAny_bind ((strKind prog w).pyHash (k := x) (strKind_is _ _ _ _) ?_))
    refine wpAny_setAddHashed_of (knd := strKind prog w) (s := { s1 with toks := s1.toks + 1 }) (strKind_is _ _ _ _) rfl h1 (by omega) fun h' sb h2 => ?_
    have h3 : h'.SetOf (strKind prog w) S (inU (uq (xs.take (i + 1)))) (uq (xs.take (i + 1))).length := by
      rw [es, uq_snoc]
      refine SetOf_congr h2 (fun y => ?_) ?_
      · unfold inU
        rw [← Bool.decide_or]
        exact decide_eq_decide.mpr addU_mem.symm
      · unfold inU addU
        by_cases q : x ∈ uq (xs.take i)
        · rw [if_pos (decide_eq_true q), if_pos q]
        · rw [if_neg (by rw [decide_eq_false q]; exact Bool.false_ne_true), if_neg q, List.length_append]; rfl
    have keep : ∀ b o, b ≠ S → s1.heap.get? b = some o → h'.get? b = some o := fun b o ne e => by rw [sb.2 b ne]; exact e
    refine wpAny_pure ⟨plainId_quiet F.plain_set_update_loop _, ih (i + 1) _ (by omega) lt (W.frame _ s1 _ _ st1 (Nat.le_succ _) fun b hb o e => keep b o (fun q => hS (q ▸ hb)) e) h3 fun s2 m2 q => k s2 ?_ q⟩
    exact Moved.trans W.gtrans ((m1.mono fun b hb => .tail _ hb).then_heap (Nat.le_succ _) fun b o nb e => keep b o (fun q => nb (q ▸ .head _)) e) m2
end
/-- a set as it is made -/
abbrev set0 (led : Bool) : Obj := { cls := .type "set", dict := none, data := .set #[] 0 (.fresh 0 0 led) }
/-- what is walked for its items, one behind the other, none of it changed but the iterator itself -/
structure Wk (prog : Program) (w : World) (l : Addr) (o : Obj) (items : Array Value) (itO : Obj) : Prop where
  fr : itO.isFreed = false
  it : ∀ {A : Around} {E Q : Value → Shared → Prop} {s : Shared}, s.heap.get? l = some o → Q (.ref s.heap.objs.size) { s with heap := s.heap.push itO } → wpAny (model prog w) A (pyIter (.ref l)) Q E s
  wk : ∀ {A : Around} {I : Addr} {h : Heap}, A.handled = none → l ≠ I → h.get? I = some itO → h.get? l = some o → ∃ (G : Array GenState → Array GenState → Prop) (St : Nat → Shared → Prop), (∀ a b, G a b → b = a) ∧
    WalksS prog w A I [I, l] [I] G items.size (fun i v => items[i]? = some v) St ∧ ∀ s : Shared, s.heap = h → St 0 s
theorem wk_list {prog : Program} {w : World} {l : Addr} {o : Obj} {items : Array Value} {n : Nat} (hc : o.cls = .type "list") (hd : o.data = .seq items n) : Wk prog w l o items { cls := .type "list_iterator", data := .fields #[.ref l, .int 0 0] } where
  fr := rfl
  it := fun ho q => wpAny_pyIter_list ⟨o, ho, hc, n, hd⟩ q
  wk := fun hh ne hI ho => ⟨_, _, fun _ _ e => e, (Walks.list hh _ l ne items).toS, fun s e => ⟨⟨_, by rw [e]; exact hI, rfl, rfl⟩, ⟨o, by rw [e]; exact ho, hc, n, hd⟩⟩⟩
theorem wk_tuple {prog : Program} {w : World} {l : Addr} {o : Obj} {items : Array Value} {n : Nat} (hc : o.cls = .type "tuple") (hd : o.data = .seq items n) : Wk prog w l o items { cls := .type "tuple_iterator", data := .fields #[.ref l, .int 0 0] } where
  fr := rfl
  it := fun ho q => wpAny_pyIter_tuple ⟨o, ho, hc, n, hd⟩ q
  wk := fun hh ne hI ho => ⟨_, _, fun _ _ e => e, (Walks.tuple hh _ l ne items).toS, fun s e => ⟨⟨_, by rw [e]; exact hI, rfl, rfl⟩, ⟨o, by rw [e]; exact ho, hc, n, hd⟩⟩⟩
section
variable {prog : Program} {w : World} {A : Around} {E : Value → Shared → Prop} {s : Shared}
/-- set(x), x a list or a tuple of texts -/
theorem set_texts {T : String} {l : Addr} {items : Array Value} {xs : List Str} {Q : Value → Shared → Prop} {od : Option Addr} {nl : Nat} {sl : Array (Option Value)} {itO : Obj}
    (ns : isSubtype (.type T) (.type "set") = pure false) (nf : isSubtype (.type T) (.type "frozenset") = pure false) (nd : (Value.type T == Value.type "dict") = false)
    (hh : A.handled = none) (at_l : s.heap.get? l = some { cls := .type T, dict := od, data := .seq items nl, slots := sl }) (W : Wk prog w l { cls := .type T, dict := od, data := .seq items nl, slots := sl } items itO)
    (hi : StrsAre items.toList xs) (hn : items.size + 1 < scanBound)
    (k : ∀ (h' : Heap) (tk : Nat), h'.SetOf (strKind prog w) s.heap.objs.size (inU (uq xs)) (uq xs).length → (∀ b o, s.heap.get? b = some o → h'.get? b = some o) → Q (.ref s.heap.objs.size) { s with heap := h', toks := tk }) :
    wpAny (model prog w) A (call (.type "set") [.ref l]) Q E s := by
  obtain ⟨c, tl, m0⟩ := PySem.F.called_set.mro
  have m1 := PySem.F.called_set.made
  have m2 := PySem.F.called_set.sub
  have m3 := PySem.F.called_set.notType
  have m4 := PySem.F.called_set.canCreate
  have m5 := PySem.F.typeCall_set_1 (.ref l)
  refine wpAny_call (codeAny_of_tree ?_)
  change wpAny _ _ (callAny (.type "set") _) _ _ _
  refine wpAny_pure ⟨Code.quiet_builtin _ (by decide +kernel), codeAny_builtin PySem.F.entry_type_call ?_⟩
  rw [Around.under_plain (weight_type_call_type "set" [.ref l] []) rfl]
  repeat (any_goals (first | assumption | wp_step))
  refine codeAny_mono (code_set_new_1 (.ref l) (E := E) (Q₁ := fun v s1 => ∃ led : Bool, v = .ref s.heap.objs.size ∧ s1 = { s with heap := s.heap.push (set0 led) }) fun led => ⟨led, rfl, rfl⟩) fun r s1 hr => ?_
  rcases r with e | ⟨v⟩ | _ | _ <;> first | exact hr | skip
  obtain ⟨led, rfl, rfl⟩ := hr
  have new : (s.heap.push (set0 led)).get? s.heap.objs.size = some (set0 led) := Heap.get?_push_size _ rfl
  have ty : Shared.TypeIs { s with heap := s.heap.push (set0 led) } (.ref s.heap.objs.size) "set" := ⟨_, new, rfl⟩
  have i1 := PySem.F.called_set.init.lookup
  have i2 := PySem.F.called_set.init.bind (.ref s.heap.objs.size)
  repeat (any_goals (first | assumption | wp_step))
  refine codeAny_mono (codeAny_call_builtin (R := wants (fun r s2 => r = .none ∧ ∃ h' tk, s2 = { s with heap := h', toks := tk } ∧ h'.SetOf (strKind prog w) s.heap.objs.size (inU (uq xs)) (uq xs).length ∧
    ∀ b o, s.heap.get? b = some o → h'.get? b = some o) E) PySem.F.called_set.init.plain PySem.F.entry_set_init (check_set_init_1 ty ?_)) fun r s2 hr => ?_
  rotate_left
  · rcases r with e | ⟨v⟩ | _ | _ <;> first | exact hr | skip
    obtain ⟨rfl, h', tk, rfl, h1, h2⟩ := hr
    repeat (any_goals (first | assumption | wp_step))
    exact k _ _ h1 h2
  have old : (s.heap.push (set0 led)).get? l = some { cls := .type T, dict := od, data := .seq items nl, slots := sl } := Heap.get?_push_of_some _ at_l
  have ll : l < s.heap.objs.size := Heap.lt_size at_l
  have sz : (s.heap.push (set0 led)).objs.size = s.heap.objs.size + 1 := Heap.size_push ..
  unfold Builtin.«set.__init__» noKeywords Builtin.Frozenset.updateFrom
  generalize e0 : pyIter = PI
  wp_walk
  subst e0
  refine W.it old (wpAny_bind (wpAny_runValue ?_))
  have old2 := Heap.get?_push_of_some itO old
  obtain ⟨G, St, hG, wk, st⟩ := W.wk (A := A.in1.in1.in1) (I := (s.heap.push (set0 led)).objs.size) (h := (s.heap.push (set0 led)).push itO) (by simp [hh]) (fun q => absurd (show l < s.heap.objs.size + 1 from Nat.lt_succ_of_lt ll) (by rw [q, sz]; exact Nat.lt_irrefl _)) (Heap.get?_push_size _ W.fr) old2
  refine take_in wk (fun q => by
    rcases List.mem_cons.mp q with q | q
    · rw [sz] at q; exact Nat.ne_of_lt (Nat.lt_succ_self _) q
    · exact absurd ll (by rw [← List.mem_singleton.mp q]; exact Nat.lt_irrefl _)) xs (by rw [← StrsAre.len_eq hi, Array.length_toList]) (fun i v hv => SS.strs_at hi i v (by rw [Array.getElem?_toList]; exact hv)) hn items.size 0 _ (by omega) (Nat.zero_le _) (st _ rfl)
    (SetOf_congr ((setObjOf_fresh (knd := strKind prog w) led).setOf (Heap.get?_push_of_some itO new) (by unfold scanBound; omega)) (fun _ => rfl) rfl) fun s3 m3 h3 => ?_
  obtain ⟨h', g', d', tk', os'⟩ := s3
  obtain rfl : g' = s.gens := hG _ _ m3.gens
  obtain rfl : d' = s.drawn := m3.drawn
  obtain rfl : os' = s.os := m3.os
  change wpAny _ _ _ _ _ _
  refine wpAny_pure ?_
  change wpAny _ _ (ret Value.none) _ _ _
  refine wpAny_pure ⟨rfl, h', tk', rfl, h3, fun b o e => m3.heap b o (fun q => ?_) (Heap.get?_push_of_some _ (Heap.get?_push_of_some _ e))⟩
  have lb := Heap.lt_size e
  rcases List.mem_cons.mp q with q | q
  · exact absurd lb (by rw [q]; exact Nat.lt_irrefl _)
  · have q := List.mem_singleton.mp q
    rw [sz] at q
    exact Nat.lt_irrefl _ (Nat.lt_of_succ_lt (q ▸ lb))
theorem strsAre_texts : ∀ {ys : List Str} {us : List Value}, Vals (ys.map V.str) us → StrsAre us ys
  | [], _, .nil => .nil
  | y :: ys, _, .cons r t => by
    obtain ⟨j, rfl⟩ := r
    exact .cons y j (strsAre_texts t)
/-- len(set(x)), x a list or a tuple of texts -/
def tLenSetT (K : PySem.W.Frag) (ta : TE) : TE := fun σ H Q => ta σ H fun x H1 => ∃ (l : Addr) (xs : List Str), x = .ref l ∧ (SqL K H1 l (xs.map V.str) ∨ SqT K H1 l (xs.map V.str)) ∧ xs.length ≤ 4000 ∧ Q (.int ((uq xs).length : Nat)) H1
theorem pe_lenSetT {X : Cx} {a : Expr} {ta : TE} {p p2 q pos : Pos} (hc : X.calm = true) (hg : Gl X "len") (hm : X.mg "len" = none) (hg2 : Gl X "set") (hm2 : X.mg "set" = none) (ha : PE X a ta)
    (na : starEach [a] X.env = (false, eval a X.env) :: starEach [] X.env := by rfl) : PE X (.Call (.Name "len" p) [.Call (.Name "set" p2) [a] [] q] [] pos) (tLenSetT X.K ta) := ⟨fun pins s σ H Q I h => by
  refine Call_ (ld_blt I hg hm boot_len (callWith_builtin1 (args_cons ?_ rfl) rfl rfl))
  refine Call_ (ld_blt I hg2 hm2 boot_set (callWith_type1 (args_cons (thn (ha.run pins s σ H _ I h) fun v s1 ⟨x, H1, I1, r1, l, xs, ex, hq, hl, q1⟩ => args_nil ?_) na) na rfl))
  subst ex
  cases r1
  have last : ∀ (us : List Value), us.length = xs.length → ∀ (h' : Heap) (tk : Nat), h'.SetOf (strKind X.prog X.w) s1.heap.objs.size (inU (uq xs)) (uq xs).length → (∀ b o, s1.heap.get? b = some o → h'.get? b = some o) →
      wpAny (model X.prog X.w) X.A (spliced (backTo pos (starEach [] X.env))) (fun vs s2 => wpAny (model X.prog X.w) X.A (call (.builtin "len") (Value.ref s1.heap.objs.size :: vs)) (EP X pins σ Q) X.xe s2) X.xe { s1 with heap := h', toks := tk } := fun us hu h' tk hs hk => by
    refine args_nil ?_
    obtain ⟨o, es, ep, t, ho, hex, hd, _, _, _, hf, hn⟩ := hs
    have I2 : Inv X pins σ H1 { s1 with heap := h', toks := tk } := I1.kept hk
    have := uq_le xs
    exact call_len_set ho hex hd hf (by rw [hn]; omega) ⟨.int ((uq xs).length : Nat), H1, I2.tok _, ⟨_, by rw [hn]⟩, q1⟩
  rcases hq with hq | hq
  · obtain ⟨us, r, pl, hz⟩ := I1.list hq
    obtain ⟨o, ho, hc1, n1, hd1⟩ := pl.isList
    have e1 := r.length
    rw [List.length_map] at e1
    obtain ⟨c1, od, dt, sl⟩ := o
    simp only at hc1 hd1
    subst hc1 hd1
    exact set_texts PySem.F.sub_list_set PySem.F.sub_list_frozenset (by decide) (I1.ok.hd hc) ho (wk_list rfl rfl) (by simpa using strsAre_texts r) (by rw [List.size_toArray, ← e1]; unfold scanBound; omega) (last us e1.symm)
  · obtain ⟨us, r, pl, hz⟩ := I1.tuple hq
    obtain ⟨o, ho, hc1, n1, hd1⟩ := pl
    have e1 := r.length
    rw [List.length_map] at e1
    obtain ⟨c1, od, dt, sl⟩ := o
    simp only at hc1 hd1
    subst hc1 hd1
    exact set_texts PySem.F.sub_tuple_set PySem.F.sub_tuple_frozenset (by decide) (I1.ok.hd hc) ho (wk_tuple rfl rfl) (by simpa using strsAre_texts r) (by rw [List.size_toArray, ← e1]; unfold scanBound; omega) (last us e1.symm)⟩
end
end J
namespace M
open PySem PySem.NumText
def D (n : Nat) : List Nat := (Nat.toDigits 10 n).map Char.toNat
theorem dc_of : ∀ d : Nat, d < 10 → (Nat.digitChar d).toNat = 48 + d := by decide
end M
namespace J
open PySem PySem.Spec PyProof.Rows L2 M
def Nm (l : List Nat) : Prop := 1 ≤ l.length ∧ l.length ≤ 8 ∧ ∀ c ∈ l, 97 ≤ c ∧ c ≤ 122
def isNm (l : List Nat) : Bool := decide (1 ≤ l.length) && (decide (l.length ≤ 8) && l.all fun c => decide (97 ≤ c ∧ c ≤ 122))
theorem isNm_iff {l : List Nat} : isNm l = true ↔ Nm l := by simp [isNm, Nm]
theorem al_c : ∀ c, c < 128 → Unicode.isAlpha c = decide ((65 ≤ c ∧ c ≤ 90) ∨ (97 ≤ c ∧ c ≤ 122)) := by decide +kernel
theorem up_c : ∀ c, c < 128 → (Unicode.isUpper c || Unicode.isTitle c) = decide (65 ≤ c ∧ c ≤ 90) := by decide +kernel
theorem lo_c : ∀ c, c < 128 → Unicode.isLower c = decide (97 ≤ c ∧ c ≤ 122) := by decide +kernel
theorem any_cd {p : Nat → Bool} {z : Str} : z.cps.any p = (cd z).any p := by rw [← Array.any_toList]
theorem small_letters (z : Str) (h : 1 ≤ (cd z).length) : (Txt.isascii z && (Txt.isalpha z && Txt.islower z)) = (cd z).all fun c => decide (97 ≤ c ∧ c ≤ 122) := by
  unfold Txt.isascii Txt.isalpha Txt.islower
  rw [all_cd, all_cd, any_cd, any_cd, len_cd, Bool.eq_iff_iff, Bool.and_eq_true, Bool.and_eq_true, Bool.and_eq_true, Bool.and_eq_true, List.all_eq_true, List.all_eq_true, List.all_eq_true, List.any_eq_true]
  constructor
  · rintro ⟨h1, ⟨_, h2⟩, _, h3⟩ c hc
    have a := of_decide_eq_true (h1 c hc)
    have b := h2 c hc
    rw [al_c c a] at b
    have b := of_decide_eq_true b
    have u : ¬ (65 ≤ c ∧ c ≤ 90) := fun q => by
      have : (cd z).any (fun c => Unicode.isUpper c || Unicode.isTitle c) = true := List.any_eq_true.mpr ⟨c, hc, by rw [up_c c a]; exact decide_eq_true q⟩
      rw [this] at h3
      cases h3
    exact decide_eq_true (by omega)
  · intro h1
    have lt : ∀ c ∈ cd z, 97 ≤ c ∧ c ≤ 122 := fun c hc => of_decide_eq_true (h1 c hc)
    refine ⟨fun c hc => decide_eq_true (by have := lt c hc; omega), ⟨decide_eq_true (by omega), fun c hc => ?_⟩, ?_, ?_⟩
    · have := lt c hc
      rw [al_c c (by omega)]
      exact decide_eq_true (.inr this)
    · obtain ⟨c, r, e⟩ : ∃ c r, cd z = c :: r := by
        cases q : cd z with
        | nil => rw [q] at h; exact absurd h (by decide)
        | cons c r => exact ⟨c, r, rfl⟩
      have hc : c ∈ cd z := by rw [e]; exact List.mem_cons_self ..
      have := lt c hc
      exact ⟨c, hc, by rw [lo_c c (by omega)]; exact decide_eq_true this⟩
    · rw [Bool.not_eq_true', List.any_eq_false]
      intro c hc
      have := lt c hc
      rw [up_c c (by omega)]
      simp; omega
inductive Kd where
  | num (lo hi : Int)
  | one (ns : List (List Nat))
  | nam
  | txt (n : Int)
  | own (nm : List Nat)
def KdAt (H : Hp) (a : Addr) : Kd → Prop
  | .num lo hi => H a = some (.tup [.str "number", .int lo, .int hi])
  | .one ns => ∃ b, H a = some (.tup [.str "one", .ref b]) ∧ H b = some (.tup (ns.map wV))
  | .nam => H a = some (.tup [.str "name"])
  | .txt n => H a = some (.tup [.str "text", .int n])
  | .own nm => H a = some (.tup [.str "own", .str (S nm)])
def Kd.Ok : Kd → Prop
  | .num lo hi => -999999 ≤ lo ∧ lo ≤ hi ∧ hi ≤ 999999
  | .one ns => 1 ≤ ns.length ∧ ns.length ≤ 8 ∧ (∀ n ∈ ns, Nm n) ∧ ns.Nodup
  | .nam => True
  | .txt n => 1 ≤ n ∧ n ≤ 20
  | .own nm => Nm nm
def OwOk (ws : List (List Nat)) : Prop := ws.length ≤ 8 ∧ (∀ w ∈ ws, 1 ≤ w.length ∧ w.length ≤ 20 ∧ ∀ c ∈ w, 32 ≤ c ∧ c ≤ 126) ∧ ws.Nodup
noncomputable def dB (p : Prop) : Bool := @decide p (Classical.propDecidable p)
theorem KdAt.same {H H' : Hp} (s : Same H H') {a : Addr} : ∀ {k : Kd}, KdAt H a k → KdAt H' a k
  | .num .., h => s _ _ h
  | .one _, ⟨b, h1, h2⟩ => ⟨b, s _ _ h1, s _ _ h2⟩
  | .nam, h => s _ _ h
  | .txt _, h => s _ _ h
  | .own _, h => s _ _ h
theorem Keep.tup {b : Addr} {n : Nat} {H H' : Hp} (kp : Keep b H H') (hb : Bx H b n) {a : Addr} {xs : List V} (h : H a = some (.tup xs)) : H' a = some (.tup xs) := kp _ _ h fun e => by
  obtain ⟨x, y, z, q, _⟩ := hb
  rw [e, q] at h
  cases h
theorem KdAt.keep {b : Addr} {n : Nat} {H H' : Hp} (kp : Keep b H H') (hb : Bx H b n) {a : Addr} : ∀ {k : Kd}, KdAt H a k → KdAt H' a k
  | .num .., h => kp.tup hb h
  | .one _, ⟨c, h1, h2⟩ => ⟨c, kp.tup hb h1, kp.tup hb h2⟩
  | .nam, h => kp.tup hb h
  | .txt _, h => kp.tup hb h
  | .own _, h => kp.tup hb h
/-- own words: a list, or a tuple -/
def OwAt (K : PySem.W.Frag) (H : Hp) (b : Addr) (ws : List (List Nat)) : Prop := SqL K H b (ws.map wV) ∨ SqT K H b (ws.map wV)
theorem OwAt.same {K : PySem.W.Frag} {H H' : Hp} (s : Same H H') {b : Addr} {ws : List (List Nat)} (h : OwAt K H b ws) : OwAt K H' b ws := h.imp s.seqL s.seqT
section
variable {X : Cx}
theorem asLenSet {K : PySem.W.Frag} {e : Expr} {ta : TE} (eK : X.K = K) (h : PE X e (tLenSetT X.K ta)) : PE X e (tLenSetT K ta) := eK ▸ h
end
section
variable {σ : L2.St} {H : Hp} {Q : VK} {K : PySem.W.Frag} {D : Ends}
theorem r_lenSet {ta : TE} (k : ta σ H fun x H1 => ∃ (l : Addr) (xs : List Str), x = .ref l ∧ (SqL K H1 l (xs.map V.str) ∨ SqT K H1 l (xs.map V.str)) ∧ xs.length ≤ 4000 ∧ Q (.int ((uq xs).length : Nat)) H1) : tLenSetT K ta σ H Q := k
theorem r_asg2 {te : TE} {g1 g2 : TG} (k : te σ H fun x H1 => g1 x σ H1 fun σ1 H2 => g2 x σ1 H2 D.nx) : tAsg2 te g1 g2 D σ H := k
theorem r_isiB {x : V} {t c : String} {b : Bool} (hx : TyX K H x (.type t)) (hk : kitB t c = some b) (k : Q (.bl b) H) : rIsi K [x, .ty c] H Q := ⟨x, _, _, _, b, rfl, .ty _, hx, kit_ty hk, k⟩
theorem r_ixTu {a : Addr} {xs : List V} {i : Int} {v : V} (h : SqT K H a xs) (e : atI xs i = some v) (k : Q v H) : rIx K (.ref a) (.int i) H Q := .inr (.inl ⟨a, xs, i, v, rfl, rfl, h, e, k⟩)
end
def spUnlike (K : PySem.W.Frag) : Sp := fun vs H Q _ => ∃ (a : Addr) (ls : List (List Nat)), vs = [.ref a] ∧ OwAt K H a ls ∧ ls.length ≤ 100 ∧ Q (.bl (decide ls.Nodup)) H
/-- a text, or what is none -/
inductive Thg (K : PySem.W.Frag) (H : Hp) : V → Option Str → Prop where
  | str (z : Str) (h : z.length ≤ 50) : Thg K H (.str z) (some z)
  | non : Thg K H .non none
  | int (i : Int) : Thg K H (.int i) none
  | bl (b : Bool) : Thg K H (.bl b) none
  | lst {a : Addr} {xs : List V} (h : H a = some (.lst xs)) : Thg K H (.ref a) none
  | tup {a : Addr} {xs : List V} (h : H a = some (.tup xs)) : Thg K H (.ref a) none
theorem Thg.same {K : PySem.W.Frag} {H H' : Hp} {x : V} {o : Option Str} (t : Thg K H x o) (s : Same H H') : Thg K H' x o := by
  cases t with
  | str z h => exact .str z h
  | non => exact .non
  | int i => exact .int i
  | bl b => exact .bl b
  | lst h => exact .lst (s _ _ h)
  | tup h => exact .tup (s _ _ h)
end J
namespace J
open PySem PySem.Spec PyProof.Rows L2 M
section
variable {σ : L2.St} {H : Hp} {Q : VK} {K : PySem.W.Frag} {D : Ends}
theorem r_lcQ {te te' : TE} {g : TG} {tt : TT} {vs : List Nat} (k : te σ H fun x H1 => ∃ a xs, x = .ref a ∧ ((SqL K H1 a xs ∧ ∀ E, H1 E = none → CompQ (Itl K a) g tt te' vs σ H1 E fun H => Q (.ref E) H) ∨ (SqT K H1 a xs ∧ ∀ E, H1 E = none → CompQ (Itt K a) g tt te' vs σ H1 E fun H => Q (.ref E) H))) :
    tLc (iSeq K te) g tt te' vs σ H Q := k
end
end J
namespace J
open PySem PySem.Spec PyProof.Rows L2 M
theorem comp_draw {q n : Nat} {b : Addr} {g : TG} {te : TE} {vs : List Nat} {σ : L2.St} {H1 : Hp} {D : Addr} {Z : Hp → Prop} (hD : H1 D = none) (hb : Bx H1 b n) (hs : q < sizeLine) (P : Nat → Prop)
    (turn : ∀ (i : Nat) (H : Hp) (N : V → Hp → Prop), i < q → Keep b H1 H → Bx H b (n + i) → (∀ c H4, P c → Keep b H H4 → Bx H4 b (n + i + 1) → N (.str ⟨#[c]⟩) H4) → g (.int (i : Nat)) (wipe σ vs) H fun σ2 H2 => wipe σ2 vs = wipe σ vs ∧ te σ2 H2 N)
    (fin : ∀ (cs : List Nat) (H : Hp), cs.length = q → (∀ c ∈ cs, P c) → Keep b H1 H → Bx H b (n + q) → H D = some (.lst (cs.map sgnV)) → Z H) : CompQ (Itr 0 q) g tYes te vs σ H1 D Z := by
  have Db : D ≠ b := by
    obtain ⟨_, _, _, e, _⟩ := hb
    exact new_ne hD e
  refine comp_of q (fun i H => ∃ cs : List Nat, cs.length = i ∧ (∀ c ∈ cs, P c) ∧ H D = some (.lst (cs.map sgnV)) ∧ Keep b H1 H ∧ Bx H b (n + i)) ⟨[], rfl, fun _ h => (List.not_mem_nil h).elim, upd_same, Keep.new _ hD, hb.new hD⟩ (fun i H hi w => hi) (fun H w => Nat.le_refl _) ?_ ?_
  · rintro i H x H' hi ⟨cs, hl, hc, hd, kp1, hb1⟩ ⟨rfl, rfl⟩
    have e : (0 + (i : Nat) : Int) = (i : Nat) := by omega
    rw [e]
    refine turn i H' _ hi kp1 hb1 fun c H4 pc kp2 hb2 => ⟨_, kp2 D _ hd Db, by rw [List.length_map]; omega, cs ++ [c], by rw [List.length_append, hl]; rfl, fun d hm => ?_, by rw [upd_same, List.map_append]; rfl, (kp1.trans kp2).at hD _, hb2.at Db _⟩
    rcases List.mem_append.mp hm with h | h
    · exact hc d h
    · rw [List.mem_singleton.mp h]; exact pc
  · rintro H' ⟨cs, hl, hc, hd, kp1, hb1⟩
    exact fin cs H' hl hc kp1 hb1 hd
theorem cutV_take (xs : List V) (k : Nat) : cutV xs none (some (k : Int)) = xs.take k := by
  unfold cutV
  rw [HT.sIx_nat, HT.sIx_none]
  show (xs.drop 0).take (min k xs.length - 0) = _
  rw [List.drop_zero, Nat.sub_zero, ← List.take_take, List.take_length]
theorem let_at : ∀ j, j < 26 → (cd (Str.ofString "abcdefghijklmnopqrstuvwxyz"))[j]? = some (97 + j) := by decide +kernel
theorem let_len : (Str.ofString "abcdefghijklmnopqrstuvwxyz").length = 26 := by decide +kernel
def spCell (K : PySem.W.Frag) : Sp := fun vs H Q _ => ∃ (a : Addr) (ns : List Int) (k : Nat), vs = [.ref a, .int (k : Nat)] ∧ SqL K H a (ns.map V.int) ∧ k ≤ 1000 ∧ ∀ c : Int, Q (.int c) H
end J
namespace J
open PySem PySem.Spec PyProof.Rows L2 M
section
variable {H : Hp} {Q : VK} {K : PySem.W.Frag}
theorem r_neNil {a b : Addr} {ls : List (List Nat)} (ha : SqL K H a (ls.map wV)) (hb : SqL K H b []) (h : ∀ l ∈ ls, ∀ c ∈ l, c ≤ 126) (k : Q (.bl (!decide (ls = []))) H) : rNeA K (.ref a) (.ref b) H Q := by
  refine .inr ⟨dWs ls, dWs [], dp_ws ha, dp_ws hb, sh_ws h, sh_ws (fun _ h => (List.not_mem_nil h).elim), ?_⟩
  have e : PyData.eqv (dWs ls) (dWs []) = decide (ls = []) := by cases ls <;> rfl
  rw [e]
  exact k
end
theorem comp_rngF {lo : Int} {q : Nat} {g : TG} {tt : TT} {te : TE} {vs : List Nat} {σ : L2.St} {H1 : Hp} {D : Addr} {Z : Hp → Prop} (hD : H1 D = none) (p : Nat → Bool) (hs : q < sizeLine)
    (turn : ∀ (i : Nat) (H : Hp) (N : V → Hp → Prop) (N0 : Hp → Prop), i < q → Same H1 H → (p i = true → ∀ H4, Same H H4 → N (.int (lo + (i : Nat))) H4) → (p i = false → ∀ H4, Same H H4 → N0 H4) →
      g (.int (lo + (i : Nat))) (wipe σ vs) H fun σ2 H2 => wipe σ2 vs = wipe σ vs ∧ tt σ2 H2 fun b H3 => if b = true then te σ2 H3 N else N0 H3)
    (fin : ∀ H, Same H1 H → H D = some (.lst ((((List.range q).filter p).map fun i => lo + (i : Nat)).map V.int)) → Z H) : CompQ (Itr lo q) g tt te vs σ H1 D Z := by
  refine comp_of q (fun i H => Same H1 H ∧ H D = some (.lst ((((List.range i).filter p).map fun i => lo + (i : Nat)).map V.int))) ⟨(Same.refl H1).at hD _, by rw [upd_same]; rfl⟩ (fun i H hi w => hi) (fun H w => Nat.le_refl _) (fun i H x H' hi w y => ?_) (fun H w => fin H w.1 w.2)
  obtain ⟨rfl, rfl⟩ := y
  refine turn i H' _ _ hi w.1 (fun hy H4 s => ⟨_, s _ _ w.2, ?_, (w.1.trans s).at hD _, ?_⟩) fun hn H4 s => ⟨w.1.trans s, ?_⟩
  · rw [List.length_map, List.length_map]
    refine Nat.lt_of_le_of_lt (Nat.le_trans (List.length_filter_le ..) ?_) hs
    rw [List.length_range]; omega
  · rw [upd_same, List.range_succ, List.filter_append, List.map_append, List.map_append, List.filter_cons_of_pos hy]; rfl
  · rw [s _ _ w.2, List.range_succ, List.filter_append, List.filter_cons_of_neg (by rw [hn]; exact Bool.false_ne_true), List.filter_nil, List.append_nil]
theorem r_seqZ {K : PySem.W.Frag} {σ : L2.St} {H : Hp} {te' : TE} {g : TG} {tt : TT} {vs : List Nat} {Z : Addr → Hp → Prop} {a : Addr} {xs : List V} (hs : SqL K H a xs ∨ SqT K H a xs) (k : ∀ J, SeqIt J xs H → ∀ E, H E = none → CompQ J g tt te' vs σ H E (Z E)) :
    ∃ b ys, V.ref a = .ref b ∧ ((SqL K H b ys ∧ ∀ E, H E = none → CompQ (Itl K b) g tt te' vs σ H E (Z E)) ∨ (SqT K H b ys ∧ ∀ E, H E = none → CompQ (Itt K b) g tt te' vs σ H E (Z E))) :=
  ⟨a, xs, rfl, hs.elim (fun h => .inl ⟨h, k _ (seqIt_l h)⟩) fun h => .inr ⟨h, k _ (seqIt_t h)⟩⟩
end J
namespace J
open PySem PySem.Spec PyProof.Rows L2 M
section
variable {K : PySem.W.Frag} {σ : L2.St} {H : Hp} {Q : VK} {g : TG} {tb : TS} {n' : L2.St → Hp → Prop} {rt : VK} {bk ct : L2.St → Hp → Prop}
theorem loop_lst {a : Addr} {xs : List V} (I : Nat → L2.St → Hp → Prop) (at_ : ∀ i σ H, I i σ H → H a = some (.lst xs)) (start : I 0 σ H)
    (turn : ∀ (i : Nat) (x : V) σ1 H1, xs[i]? = some x → I i σ1 H1 → g x σ1 H1 fun σ2 H2 => tb ⟨I (i + 1), rt, n', I (i + 1)⟩ σ2 H2)
    (fin : ∀ σ1 H1, I xs.length σ1 H1 → n' σ1 H1) : LoopQ (Itl K a) g tb ⟨n', rt, bk, ct⟩ σ H :=
  loop_of (D := ⟨n', rt, bk, ct⟩) xs.length I start (fun i σ H hi w => ⟨xs, _, SqL.of (at_ i σ H w), List.getElem?_eq_getElem hi⟩) (fun σ H w => ⟨xs, SqL.of (at_ _ σ H w), Nat.le_refl _⟩) (fun i σ1 H1 x H' hi w y => by
    obtain ⟨rfl, hx⟩ := y
    exact turn i x σ1 H' (hx xs (SqL.of (at_ i σ1 H' w))) w) fin
theorem loop_rng {q : Nat} (I : Nat → L2.St → Hp → Prop) (start : I 0 σ H)
    (turn : ∀ (j : Nat) σ1 H1, j < q → I j σ1 H1 → g (.int (j : Nat)) σ1 H1 fun σ2 H2 => tb ⟨I (j + 1), rt, n', I (j + 1)⟩ σ2 H2)
    (fin : ∀ σ1 H1, I q σ1 H1 → n' σ1 H1) : LoopQ (Itr 0 q) g tb ⟨n', rt, bk, ct⟩ σ H :=
  loop_of (D := ⟨n', rt, bk, ct⟩) q I start (fun j _ _ hj _ => hj) (fun _ _ _ => Nat.le_refl _) (fun j σ1 H1 x H' hj w y => by
    obtain ⟨rfl, rfl⟩ := y
    have e : (0 + (j : Nat) : Int) = (j : Nat) := by omega
    rw [e]
    exact turn j σ1 H' hj w) fin
theorem r_irng1 {ta : TA} {R : It → Hp → Prop} (k : ta σ H fun vs H1 => ∃ j : Int, vs = [.int j] ∧ -(2 ^ 62) ≤ j ∧ j < 2 ^ 62 ∧ R (Itr 0 j.toNat) H1) : iRng1 ta σ H R := k
end
end J
namespace J
open PySem PySem.Spec PyProof.Rows L2 M
end J
namespace J
open PySem PySem.Spec PyProof.Rows L2 M
/-- what does not come to pass -/
theorem ps_false {X : Cx} {st : Stmt} : PS X st (fun _ _ _ => False) := ⟨fun pins s σ H D I h => h.elim⟩
inductive Tg (K : PySem.W.Frag) (H : Hp) : V → PyData → Prop where
  | str (z : Str) (h : z.length ≤ 50) (c : ∀ c ∈ cd z, c ≤ 126) : Tg K H (.str z) (.str z)
  | non : Tg K H .non .none
  | int (i : Int) (h : i.natAbs ≤ 10 ^ 60) : Tg K H (.int i) (.int i)
  | bl (b : Bool) : Tg K H (.bl b) (.bool b)
  | lst {a : Addr} (h : H a = some (.lst [.int 1])) : Tg K H (.ref a) (.list [.int 1])
  | tup {a : Addr} {zs : List (List Nat)} (h : H a = some (.tup (zs.map wV))) (hl : zs.length ≤ 8) (hz : ∀ l ∈ zs, l.length ≤ 8 ∧ ∀ c ∈ l, c ≤ 126) : Tg K H (.ref a) (.tuple (zs.map dW))
theorem Tg.same {K : PySem.W.Frag} {H H' : Hp} {x : V} {d : PyData} (t : Tg K H x d) (s : Same H H') : Tg K H' x d := by
  cases t with
  | str z h c => exact .str z h c
  | non => exact .non
  | int i h => exact .int i h
  | bl b => exact .bl b
  | lst h => exact .lst (s _ _ h)
  | tup h hl hz => exact .tup (s _ _ h) hl hz
def tyD : PyData → String
  | .str _ => "str"
  | .none => "NoneType"
  | .int _ => "int"
  | .bool _ => "bool"
  | .list _ => "list"
  | .tuple _ => "tuple"
  | _ => ""
theorem Tg.ty {K : PySem.W.Frag} {H : Hp} {x : V} {d : PyData} (t : Tg K H x d) : TyX K H x (.type (tyD d)) := by
  cases t with
  | str z h c => exact .base (.str z)
  | non => exact .base .non
  | int i h => exact .base (.int i)
  | bl b => exact .base (.bl b)
  | lst h => exact .base (.lst h)
  | tup h hl hz => exact .base (.tup h)
def isSD : PyData → Bool
  | .str _ => true
  | _ => false
def isID : PyData → Bool
  | .int _ => true
  | .bool _ => true
  | _ => false
def isBD : PyData → Bool
  | .bool _ => true
  | _ => false
theorem Tg.isS {K : PySem.W.Frag} {H : Hp} {Q : VK} {x : V} {d : PyData} (t : Tg K H x d) (k : Q (.bl (isSD d)) H) : rIsi K [x, .ty "str"] H Q :=
  r_isiB t.ty (by cases t <;> first | exact (show kitB "str" "str" = some true by decide +kernel) | exact (show kitB "NoneType" "str" = some false by decide +kernel) | exact (show kitB "int" "str" = some false by decide +kernel) | exact (show kitB "bool" "str" = some false by decide +kernel) | exact (show kitB "list" "str" = some false by decide +kernel) | exact (show kitB "tuple" "str" = some false by decide +kernel)) k
theorem Tg.isI {K : PySem.W.Frag} {H : Hp} {Q : VK} {x : V} {d : PyData} (t : Tg K H x d) (k : Q (.bl (isID d)) H) : rIsi K [x, .ty "int"] H Q :=
  r_isiB t.ty (by cases t <;> first | exact (show kitB "str" "int" = some false by decide +kernel) | exact (show kitB "NoneType" "int" = some false by decide +kernel) | exact (show kitB "int" "int" = some true by decide +kernel) | exact (show kitB "bool" "int" = some true by decide +kernel) | exact (show kitB "list" "int" = some false by decide +kernel) | exact (show kitB "tuple" "int" = some false by decide +kernel)) k
theorem Tg.isB {K : PySem.W.Frag} {H : Hp} {Q : VK} {x : V} {d : PyData} (t : Tg K H x d) (k : Q (.bl (isBD d)) H) : rIsi K [x, .ty "bool"] H Q :=
  r_isiB t.ty (by cases t <;> first | exact (show kitB "str" "bool" = some false by decide +kernel) | exact (show kitB "NoneType" "bool" = some false by decide +kernel) | exact (show kitB "int" "bool" = some false by decide +kernel) | exact (show kitB "bool" "bool" = some true by decide +kernel) | exact (show kitB "list" "bool" = some false by decide +kernel) | exact (show kitB "tuple" "bool" = some false by decide +kernel)) k
end J
namespace J
open PySem PySem.Spec PyProof.Rows L2 M
def whD (lo hi : Int) : PyData → Bool
  | .int i => decide (lo ≤ i) && decide (i ≤ hi)
  | _ => false
def nmD : PyData → Bool
  | .str z => isNm (cd z)
  | _ => false
theorem tg_w {K : PySem.W.Frag} {H : Hp} {l : List Nat} (h1 : l.length ≤ 50) (h2 : ∀ c ∈ l, c ≤ 126) : Tg K H (.str (S l)) (.str (S l)) := .str (S l) (by rw [S_len]; exact h1) (by rw [cd_S]; exact h2)
def spWholeT (K : PySem.W.Frag) : Sp := fun vs H Q _ => ∃ (x : V) (d : PyData) (lo hi : Int), vs = [x, .int lo, .int hi] ∧ Tg K H x d ∧ Q (.bl (whD lo hi d)) H
def spNameT (K : PySem.W.Frag) : Sp := fun vs H Q _ => ∃ (x : V) (d : PyData), vs = [x] ∧ Tg K H x d ∧ Q (.bl (nmD d)) H
/-- what a kind, a thing and own words are handed in for -/
def AtT (K : PySem.W.Frag) (H : Hp) (a b : Addr) (k : Kd) (ws : List (List Nat)) (x : V) (d : PyData) : Prop := KdAt H a k ∧ k.Ok ∧ OwAt K H b ws ∧ OwOk ws ∧ Tg K H x d
theorem AtT.same {K : PySem.W.Frag} {H H' : Hp} {a b : Addr} {k : Kd} {ws : List (List Nat)} {x : V} {d : PyData} (h : AtT K H a b k ws x d) (s : Same H H') : AtT K H' a b k ws x d := ⟨h.1.same s, h.2.1, h.2.2.1.same s, h.2.2.2.1, h.2.2.2.2.same s⟩
end J
namespace J
open PySem PySem.Spec PyProof.Rows L2 M
/-- things, each with what it is -/
def Sm : PyData → Prop
  | .int i => i.natAbs ≤ 10 ^ 30
  | _ => True
def TgAll (K : PySem.W.Frag) (H : Hp) (es : List (V × PyData)) : Prop := ∀ e ∈ es, Tg K H e.1 e.2 ∧ Sm e.2
theorem TgAll.same {K : PySem.W.Frag} {H H' : Hp} {es : List (V × PyData)} (t : TgAll K H es) (s : Same H H') : TgAll K H' es := fun e he => ⟨(t e he).1.same s, (t e he).2⟩
end J
namespace J
open PySem PySem.Spec PyProof.Rows L2 M
theorem log60 {i : Int} (h : i.natAbs ≤ 10 ^ 60) : i.natAbs.log2 < 200 := by
  by_cases h0 : i.natAbs = 0
  · rw [h0]; decide
  · exact (Nat.log2_lt h0).mpr (Nat.lt_of_le_of_lt h (by decide))
theorem show_i60 {i : Int} (h : i.natAbs ≤ 10 ^ 60) : (PyData.shown (.int i)).length ≤ 201 := by
  show (Str.ofString (toString i)).length ≤ 201
  have := int_text_length_le (a := i) (k := 200) (by decide) (log60 h)
  have e : (Str.ofString (toString i)).length = (toString i).length := PySem.ofString_length _
  omega
end J
namespace J
open PySem PySem.Spec PyProof.Rows L2 M
theorem TgAll.nil {K : PySem.W.Frag} {H : Hp} : TgAll K H [] := fun _ h => (List.not_mem_nil h).elim
theorem TgAll.cons {K : PySem.W.Frag} {H : Hp} {x : V} {d : PyData} {es : List (V × PyData)} (t : Tg K H x d) (r : TgAll K H es) (sm : Sm d := by first | exact True.intro | (show Int.natAbs _ ≤ _; omega)) : TgAll K H ((x, d) :: es) := fun e he => by
  rcases List.mem_cons.mp he with rfl | h
  · exact ⟨t, sm⟩
  · exact r e h
theorem TgAll.ws {K : PySem.W.Frag} {H : Hp} {ws : List (List Nat)} (h : ∀ w ∈ ws, w.length ≤ 50 ∧ ∀ c ∈ w, c ≤ 126) : TgAll K H (ws.map fun w => (wV w, dW w)) := fun e he => by
  obtain ⟨w, hw, rfl⟩ := List.mem_map.mp he
  exact ⟨tg_w (h w hw).1 (h w hw).2, True.intro⟩
theorem Tg.keep {K : PySem.W.Frag} {H H' : Hp} {b : Addr} {n : Nat} {x : V} {d : PyData} (t : Tg K H x d) (kp : Keep b H H') (hb : Bx H b n) : Tg K H' x d := by
  cases t with
  | str z h c => exact .str z h c
  | non => exact .non
  | int i h => exact .int i h
  | bl b => exact .bl b
  | lst h => exact .lst (kp _ _ h fun e => by
      obtain ⟨x, y, z, q, _⟩ := hb
      rw [e, q] at h
      injection h with h
      injection h with h
      cases h)
  | tup h hl hz => exact .tup (kp.tup hb h) hl hz
theorem TgAll.keep {K : PySem.W.Frag} {H H' : Hp} {b : Addr} {n : Nat} {es : List (V × PyData)} (t : TgAll K H es) (kp : Keep b H H') (hb : Bx H b n) : TgAll K H' es := fun e he => ⟨(t e he).1.keep kp hb, (t e he).2⟩
end J
namespace PySem
open Sem (wp)
open Builtin Builtin.Str Builtin.BaseException Builtin.Exceptions
open PySem.W (Looks Frag findIn subIn looks_findIn looks_subIn clsIn)
end PySem
namespace J
open PySem PySem.Spec PyProof.Rows L2 M
/-- at e: an error of the class at C, made of what the tuple at t1 holds, its dict (none as yet | at d) -/
def exo1 (e C t1 : Addr) (d : Option Addr) : HO := .ext fun h => h.get? e = some ({ cls := .ref C, dict := d, data := .fields #[.ref t1, .none, .none, .none, .bool false, .none] } : Obj)
end J
namespace J
open PySem PySem.Spec PyProof.Rows L2 M
/-- at a: an error of the class at C, made of i -/
def EvA (H : Hp) (C a : Addr) (i : Int) : Prop := ∃ (t1 dx : Addr) (fs : List (Str × V)), H a = some (exo1 a C t1 (some dx)) ∧ H dx = some (exd dx fs) ∧ H t1 = some (.tup [.int i])
theorem EvA.same {H H' : Hp} {C a : Addr} {i : Int} (e : EvA H C a i) (s : Same H H') : EvA H' C a i := by
  obtain ⟨t1, dx, fs, h1, h2, h3⟩ := e
  exact ⟨t1, dx, fs, s _ _ h1, s _ _ h2, s _ _ h3⟩
end J
namespace J
open PySem PySem.Spec PyProof.Rows L2 M
end J
namespace J
open PySem PySem.Spec PyProof.Rows L2 M
end J
namespace J
open PySem PySem.Spec PyProof.Rows L2 M
inductive Od (C : Addr) (H : Hp) : V → Option Int → Prop where
  | int (i : Int) (h : i.natAbs ≤ 10 ^ 60) : Od C H (.int i) (some i)
  | non : Od C H .non none
  | bl (b : Bool) : Od C H (.bl b) none
  | str (z : Str) (h : z.length ≤ 100) (c : ∀ c ∈ cd z, c ≤ 126) : Od C H (.str z) none
  | lst {a : Addr} (h : H a = some (.lst [.int 7])) : Od C H (.ref a) none
  | tup {a : Addr} (h : H a = some (.tup [.int 7])) : Od C H (.ref a) none
  | dct {a : Addr} (h : H a = some (.dK [])) : Od C H (.ref a) none
  | err {a : Addr} (h : EvA H C a 7) : Od C H (.ref a) none
theorem Od.same {C : Addr} {H H' : Hp} {x : V} {o : Option Int} (t : Od C H x o) (s : Same H H') : Od C H' x o := by
  cases t with
  | int i h => exact .int i h
  | non => exact .non
  | bl b => exact .bl b
  | str z h c => exact .str z h c
  | lst h => exact .lst (s _ _ h)
  | tup h => exact .tup (s _ _ h)
  | dct h => exact .dct (s _ _ h)
  | err h => exact .err (h.same s)
end J
namespace J
open PySem PySem.Spec PyProof.Rows L2 M
abbrev Fx : Type := PySem.W.Frag → Bool
def obsX (fx : List Fx) (fn : List He.DefD) (K : PySem.W.Frag) : He.AlD := ((fx.all fun f => f K) && fn.all fun d => d.ok K, fn.map fun d => He.fnW K d.at_)
def SaysX (fx : List Fx) (fn : List He.DefD) (K : PySem.W.Frag) : Prop := obsX fx fn K = He.valD fn
def obsXG (n : Nat) (fx : List Fx) (fn : List He.DefD) (g : Addr → Option Obj) : He.AlD := obsX fx fn (He.frG g (He.asD g n))
def hookX (n : Nat) (fx : List Fx) (fn : List He.DefD) : PySem.W.Hook :=
  { α := He.AlD, obs := fun s => obsXG n fx fn s.heap.get?, val := fun _ => He.valD fn, says := fun _ h => ∃ K : PySem.W.Frag, K.In h ∧ SaysX fx fn K,
    of := fun _ _ e => ⟨_, He.frG_in, e⟩, keeps := fun _ _ _ z k => let ⟨K, hK, c⟩ := z; ⟨K, PySem.W.Frag.In.keeps hK k, c⟩ }
section
variable {fx : List Fx} {fn : List He.DefD} {K : PySem.W.Frag}
theorem SaysX.fact (c : SaysX fx fn K) (i : Nat) {f : Fx} (h : fx[i]? = some f := by rfl) : f K = true :=
  List.all_eq_true.mp (Bool.and_eq_true_iff.mp (congrArg Prod.fst c)).1 f (List.mem_of_getElem? h)
theorem SaysX.dfn (c : SaysX fx fn K) (i : Nat) {d : He.DefD} (h : fn[i]? = some d := by rfl) : ∃ fd, FunD K d.name d.qual d.params d.body d.scope (d.dvs K) (d.kws K) (He.fAd K d.at_) fd := by
  have o := List.all_eq_true.mp (Bool.and_eq_true_iff.mp (congrArg Prod.fst c)).2 d (List.mem_of_getElem? h)
  have e : (fn.map fun d => He.fnW K d.at_)[i]? = (fn.map He.DefD.val)[i]? := congrArg (fun l => l[i]?) (congrArg Prod.snd c)
  rw [List.getElem?_map, List.getElem?_map, h] at e
  exact He.DefD.funD (Option.some.inj e) o
end
/-- a def of the top, without defaults -/
def defX (x : Str) (st : Stmt) : He.DefD := ⟨(x, none), x, x, defArgs st, defBody st, defScope st, [], []⟩
/-- a method of the class x -/
def defM (x m q : Str) (st : Stmt) : He.DefD := ⟨(x, some m), m, q, defArgs st, defBody st, defScope st, [], []⟩
theorem fun_of {K : PySem.W.Frag} {x q : Str} {st : Stmt} {f : Addr} {fd : FuncData} (F : FunD K x q (defArgs st) (defBody st) (defScope st) [] [] f fd) : Fun K x q st f fd := by
  obtain ⟨⟨oc, od, dV, kV, doc, pm, an, cdv, ct, osl, e, l, c, dv, _⟩, kp⟩ := F
  rcases dv with ⟨_, rfl⟩ | ⟨ne, _⟩
  · exact ⟨⟨oc, od, kV, doc, pm, an, cdv, ct, osl, e, l, c⟩, kp⟩
  · exact absurd rfl ne
/-- what stands at a module's name -/
def gloX (x : Str) : Fx := fun K => (He.Fa.glo x).ok K
def freeX (x : Str) : Fx := fun K => (He.Fa.free x).ok K
def intX (x : Str) (i : Int) : Fx := fun K => (He.Fa.int x i).ok K
def tupX (x : Str) (vs : List He.Dv) : Fx := fun K => (He.Fa.glo x).ok K && He.tupB K x vs
theorem tupX_ok {K : PySem.W.Frag} {h : Heap} {mg : Str → Option Value} {x : Str} {vs : List He.Dv} (X : K.In h) (G : h.Ns mainGlobals mg) (c : tupX x vs K = true) : ∃ a, mg x = some (.ref a) ∧ ∀ H, SqT K H a (vs.map (He.Dv.v K)) := by
  obtain ⟨c1, c2⟩ := Bool.and_eq_true_iff.mp c
  exact ⟨_, He.glo_ok X G c1, fun H => He.tupB_ok c2 H⟩
def over (tail : List Value) : List Value → Bool
  | [] => decide (tail = [])
  | v :: l => decide (v :: l = tail) || (match v with
    | .ref _ => over tail l
    | _ => false)
theorem over_ok {tail : List Value} : ∀ {l : List Value}, over tail l = true → PySem.JX.Over tail l
  | [], h => ⟨[], by rw [of_decide_eq_true h]; rfl⟩
  | v :: l, h => by
    rcases Bool.or_eq_true_iff.mp h with h | h
    · exact ⟨[], by rw [of_decide_eq_true h]; rfl⟩
    · cases v with
      | ref a => exact (over_ok h).more a
      | _ => cases h
def excB (K : PySem.W.Frag) (C : Addr) (tl : List Value → Bool) (new : String) : Bool := match K.lookup C with
  | some ⟨.type "type", _, .cls cd, sl⟩ => (match cd.mro, sl.toList with
    | .ref D :: bm, [_, _, _, _, some (.builtin n), _] => D == C && (n == new && (!cd.hasDel && (cd.hasDict && tl bm)))
    | _, _ => false)
  | _ => false
theorem excB_ok {K : PySem.W.Frag} {C : Addr} {tl : List Value → Bool} {new : String} (h : excB K C tl new = true) :
    ∃ nm q N bs bm sn sub ab col dd k0 k1 k2 k3 k5, K.lookup C = some (excClassObj nm q C N bs bm true sn sub ab col dd k0 k1 k2 k3 k5 new) ∧ tl bm = true := by
  unfold excB at h
  split at h
  · rename_i dd cd sl ho
    split at h
    · rename_i D bm k0 k1 k2 k3 n k5 hm hs
      simp only [Bool.and_eq_true, beq_iff_eq, Bool.not_eq_true'] at h
      obtain ⟨rfl, rfl, hdel, hdi, ht⟩ := h
      obtain ⟨nm, bs, mro, ns, qn, hd, sn, sub, ab, col, del⟩ := cd
      dsimp only at hm hdel hdi
      subst hm hdel hdi
      obtain ⟨l⟩ := sl
      simp only at hs
      subst hs
      exact ⟨nm, qn, ns, bs, bm, sn, sub, ab, col, dd, k0, k1, k2, k3, k5, ho, ht⟩
    · cases h
  · cases h
def eqB (a : Option (Option Value)) (b : Option (Option Value)) : Bool := decide (a = b)
/-- an own error class x, its one field fld, its base's tail and maker -/
def errX (tl : List Value → Bool) (new : String) (x fld : Str) : Fx := fun K =>
  (He.Fa.glo x).ok K && (excB K (He.ga K x) tl new && (eqB (PySem.W.findIn K (.ref (He.ga K x)) "__setattr__") (some (some (.builtin "object.__setattr__"))) &&
  (decide (PySem.W.subIn K (.ref (He.ga K x)) (.type "BaseException") = some true) && (decide (PySem.W.typeIn K (.ref (He.ga K x)) = some (.type "type")) && (PySem.W.keepIn K (.ref (He.ga K x)) &&
  (eqB (PySem.W.findIn K (.ref (He.ga K x)) fld) (some none) && (eqB (PySem.W.findIn K (.ref (He.ga K x)) "__init__") (some (some (.ref (He.ma K (He.ga K x) "__init__")))) && (decide (PySem.W.typeIn K (.ref (He.ma K (He.ga K x) "__init__")) = some (.type "function")) &&
  (eqB (PySem.W.findIn K (.ref (He.ga K x)) "__getattribute__") (some (some (.builtin "BaseException.__getattribute__"))) && (eqB (PySem.W.findIn K (.ref (He.ga K x)) "__getattr__") (some none) && PySem.W.hasDictIn K (He.ga K x)))))))))))
structure ErrF (K : PySem.W.Frag) (h : Heap) (mg : Str → Option Value) (tl : List Value → Bool) (new : String) (x fld : Str) : Prop where
  gl : mg x = some (.ref (He.ga K x))
  cls : ∃ nm q N bs bm sn sub ab col dd k0 k1 k2 k3 k5, K.lookup (He.ga K x) = some (excClassObj nm q (He.ga K x) N bs bm true sn sub ab col dd k0 k1 k2 k3 k5 new) ∧ tl bm = true
  sa : PySem.W.findIn K (.ref (He.ga K x)) "__setattr__" = some (some (.builtin "object.__setattr__"))  -- own
  ex : PySem.W.subIn K (.ref (He.ga K x)) (.type "BaseException") = some true
  ty : PySem.W.typeIn K (.ref (He.ga K x)) = some (.type "type")
  kp : PySem.W.keepIn K (.ref (He.ga K x)) = true
  nf : PySem.W.findIn K (.ref (He.ga K x)) fld = some none
  ini : PySem.W.findIn K (.ref (He.ga K x)) "__init__" = some (some (.ref (He.ma K (He.ga K x) "__init__")))
  ti : PySem.W.typeIn K (.ref (He.ma K (He.ga K x) "__init__")) = some (.type "function")
  xf : XfC K (He.ga K x)
theorem errX_ok {K : PySem.W.Frag} {h : Heap} {mg : Str → Option Value} {tl : List Value → Bool} {new : String} {x fld : Str} (X : K.In h) (G : h.Ns mainGlobals mg) (c : errX tl new x fld K = true) : ErrF K h mg tl new x fld := by
  unfold errX eqB at c
  simp only [Bool.and_eq_true, decide_eq_true_eq] at c
  obtain ⟨c1, c2, c3, c4, c5, c6, c7, c8, c9, c10, c11, c12⟩ := c
  exact ⟨He.glo_ok X G c1, excB_ok c2, c3, c4, c5, c6, c7, c8, c9, ⟨c10, c11, c4, c12⟩⟩
abbrev veX : Str → Str → Fx := errX PySem.HandSPX.refsVE "ValueError.__new__"
section
variable {P : Program} {w : World} {K : PySem.W.Frag} {mg : Str → Option Value} {base h : Heap} {x fld : Str}
theorem ErrF.oe (E : ErrF K h mg PySem.HandSPX.refsVE "ValueError.__new__" x fld) {fd : FuncData} (F : FnOk P w K mg base CX0 1 (He.ma K (He.ga K x) "__init__") fd ["self", fld] (spInit K fld)) (b : Binds K fd ["self", fld] []) : OE P w K mg base x fld (He.ga K x) :=
  { T := { cls := E.cls, sa := E.sa, exC := E.ex, tyC := E.ty, kC := E.kp }, nf := E.nf, gl := E.gl, ini := ⟨_, fd, E.ini, E.ti, F, b⟩ }
end
end J
namespace J
open PySem PySem.Spec PyProof.Rows L2 M
theorem walk_ofX {l : PySem.W.OpenLaw} {n k N : Nat} {q : Program} {loose : List Str} {XP : (Str → Option Value) → Heap → Prop} {d : DefRec} {fx : List Fx} {fn : List He.DefD} {sp : PySem.W.Frag → Sp} {x : Str}
    (hn : l.most = some n) (hn2 : n ≤ sizeLine) (hdf : d.params.defaults = []) (hr : Room k callerA)
    (F : ∀ (w : World) (K : PySem.W.Frag) (mg : Str → Option Value) (fa : Addr) (h : Heap), K.In h → SaysX fx fn K → h.Ns mainGlobals mg → mg d.name = some (.ref fa) →
      ∃ fd : FuncData, (∀ (s : Shared) (u : Value), BindsTo s fd ⟨[u], []⟩ [(x, u)]) ∧ ∀ base : Heap, K.In base → base.Ns mainGlobals mg → FnG l.prog w K mg base CX0 k fa fd [x] (sp K))
    (hsp : ∀ (K : PySem.W.Frag) (H : Hp) (a : Addr) (ns : List Int), ns.length ≤ n → Only H → SqL K H a (ns.map V.int) → sp K [.ref a] H (fun v _ => v = .bl true) fun _ _ _ => False) :
    PySem.W.WalkO q loose XP (hookX N fx fn).says l.row.toRowW d [] (fun f vs => PySem.call f vs) :=
  Att.attach_call hn hdf fun w s₀ s₁ mg mb fa o pm cd doc a vs ns G Y ho hd hcd hmg hobj hints hlen hg =>
    let ⟨K, kin, c⟩ := Y
    let ⟨_, hb, hF⟩ := F w K mg fa _ kin c G.T.g hmg
    top_call kin G.T.g G.T.b G.T.builtins G.T.nolimit hg hr hF hb hobj hints hlen hn2 fun H hO hS => hsp K H a ns hlen hO hS
end J
namespace J
open PySem PySem.Spec PyProof.Rows L2 M
theorem SaysX.fn_ {fx : List Fx} {fn : List He.DefD} {K : PySem.W.Frag} (c : SaysX fx fn K) (i : Nat) {x : Str} {st : Stmt} (h : fn[i]? = some (defX x st) := by rfl) : ∃ fd, Fun K x x st (He.ga K x) fd :=
  let ⟨fd, F⟩ := c.dfn i h; ⟨fd, fun_of (show FunD K x x (defArgs st) (defBody st) (defScope st) [] [] (He.ga K x) fd from F)⟩
theorem SaysX.mth {fx : List Fx} {fn : List He.DefD} {K : PySem.W.Frag} (c : SaysX fx fn K) (i : Nat) {x m q : Str} {st : Stmt} (h : fn[i]? = some (defM x m q st) := by rfl) : ∃ fd, Fun K m q st (He.ma K (He.ga K x) m) fd :=
  let ⟨fd, F⟩ := c.dfn i h; ⟨fd, fun_of (show FunD K m q (defArgs st) (defBody st) (defScope st) [] [] (He.ma K (He.ga K x) m) fd from F)⟩
end J
namespace PySem
open Sem (wp)
open AutoSeq1 (wpAny_loadPart')
section
variable {prog : Program} {w : World} {A : Around} {E : Value → Shared → Prop} {s : Shared}
theorem meets_enum_tup (l : Addr) (items : Array Value) (n : Nat) (dct : Option Addr) (sl : Array (Option Value)) :
    Meets (Builtin.«enumerate.__new__» ⟨[.type "enumerate", .ref l], []⟩) (fun _ R s => s.heap.get? l = some { cls := .type "tuple", dict := dct, data := .seq items n, slots := sl } ∧
      R (.ok (.ret (.ref (s.heap.push { cls := .type "tuple_iterator", data := .fields #[.ref l, .int 0 0] }).objs.size)))
        { s with heap := (s.heap.push { cls := .type "tuple_iterator", data := .fields #[.ref l, .int 0 0] }).push { cls := .type "enumerate", data := .fields #[.none, .bool false, .ref s.heap.objs.size, rawInt 0, .none, .none] } }) :=  -- own
  .of_wp fun prog w A R s h => by
    obtain ⟨hp, g, d, tk, os⟩ := s
    obtain ⟨hl, h⟩ := h
    have hsub := sub_enumerate
    have hL : Heap.IsTuple (Shared.heap ⟨hp, g, d, tk, os⟩) l items := ⟨_, hl, rfl, n, rfl⟩
    wp_walk using wpAny_loadPart' hl
    refine wpAny_stack_any fun st => wpAny_pure ?_  -- own
    split
    · rename_i c _ _ _ _ _
      cases (c == Value.type "enumerate")
      all_goals
        wp_walk using wpAny_loadPart' hl, wpAny_pyIter_tuple hL
        exact ⟨_, rfl, h⟩
    · wp_walk using wpAny_loadPart' hl, wpAny_pyIter_tuple hL
      exact ⟨_, rfl, h⟩
theorem call_enum_tup {l : Addr} {items : Array Value} {Q : Value → Shared → Prop} (hL : s.heap.IsTuple l items)
    (h : ∀ h', IsEnum h' (s.heap.objs.size + 1) s.heap.objs.size 0 .none → h'.IsTupleIter s.heap.objs.size l 0 → h'.objs.size = s.heap.objs.size + 2 →  -- own
      (∀ b o, s.heap.get? b = some o → h'.get? b = some o) → Q (.ref (s.heap.objs.size + 1)) { s with heap := h' }) :  -- own
    wpAny (model prog w) A (call (.type "enumerate") [.ref l]) Q E s := by  -- own
  obtain ⟨⟨c, dct, dt, sl⟩, hl, hc, n, hd⟩ := hL
  obtain rfl : c = .type "tuple" := hc
  obtain rfl : dt = .seq items n := hd
  refine callType_new F.called_enumerate (by decide) (F.typeCall_enumerate_1 _) (F.newCall_enumerate_1 _) (fun obj => F.args_object_init_2 obj _) F.entry_enumerate_new (meets_enum_tup l items n dct sl) ⟨hl, ?_⟩
  have hz : (s.heap.push { cls := .type "tuple_iterator", data := .fields #[.ref l, .int 0 0] }).objs.size = s.heap.objs.size + 1 := Heap.size_push ..
  show _ ∧ _
  rw [hz]
  have he : IsEnum ((s.heap.push { cls := .type "tuple_iterator", data := .fields #[.ref l, .int 0 0] }).push
      { cls := .type "enumerate", data := .fields #[.none, .bool false, .ref s.heap.objs.size, rawInt 0, .none, .none] }) (s.heap.objs.size + 1) s.heap.objs.size 0 .none := by  -- own
    have := Heap.get?_push_size (s.heap.push { cls := .type "tuple_iterator", data := .fields #[.ref l, .int 0 0] })
      (o := { cls := .type "enumerate", data := .fields #[.none, .bool false, .ref s.heap.objs.size, rawInt 0, .none, .none] }) rfl  -- own
    rw [hz] at this
    exact this
  exact ⟨⟨_, he, rfl⟩, h _ he ⟨_, Heap.get?_push_of_some _ (Heap.get?_push_size _ rfl), rfl, rfl⟩ (by rw [Heap.size_push, hz]) fun b o x => Heap.get?_push_of_some _ (Heap.get?_push_of_some _ x)⟩
theorem Draws.tup (hh : A.handled = none) (it l : Addr) (hne : l ≠ it) (items : Array Value) :
    Draws prog w A it [it, l] items.size (fun i v => items[i]? = some v) (fun i h => h.IsTupleIter it l i ∧ h.IsTuple l items) where
  live := fun _ _ st => let ⟨o, ho, _⟩ := st.1; ⟨o, ho⟩  -- own
  frame := fun _ _ _ st hk => ⟨st.1.at fun o e => hk it (by simp) o e, st.2.at fun o e => hk l (by simp) o e⟩  -- own
  item := fun i s Q E hi st hQ => RZ.nextOf_tuple_item st.1 st.2 (x := items[i]) (by simp [hi]) fun h' hit' hs' => hQ _ h' s.toks (by simp [hi]) ⟨hit', st.2.extBut hs'.extBut hne⟩ hs'
  done := fun s Q E st hE => RZ.nextOf_tuple_end hh st.1 st.2 (by simp) hE
end
end PySem
namespace J
open PySem PySem.Spec PyProof.Rows L2 M
/-- each item of a tuple with its number, in a new pair -/
def IteT (K : PySem.W.Frag) (a : Addr) (xs : List V) : It :=
  ⟨fun i H => SqT K H a xs ∧ i < xs.length, fun i H v H' => ∃ (T : Addr) (x : V), v = .ref T ∧ H T = none ∧ H' = upd H T (.tup [.int (i : Nat), x]) ∧ xs[i]? = some x, fun i H => SqT K H a xs ∧ i = xs.length⟩
theorem turn_enumT {P : Program} {w : World} {K : PySem.W.Frag} {elts : List Expr} {kk : Nat} {tpos : Pos} (a : Addr) (xs : List V) (e it : Addr) (ne1 : a ≠ e) (ne2 : a ≠ it) :
    Turn P w K (.Tuple elts kk tpos) (IteT K a xs) [e, it] e (fun i h => (∃ old, IsEnum h e it ((i : Nat) : Int) old) ∧ h.IsTupleIter it a i ∧ e ≠ it) where
  mem := List.mem_cons_self ..
  obj := fun i h st b hb => by
    obtain ⟨⟨old, he⟩, ⟨o, ho, hc, hd⟩, _⟩ := st  -- own
    rcases List.mem_cons.mp hb with q | q
    · subst q; exact ⟨_, he, fun v q => nomatch q⟩
    · obtain rfl := List.mem_singleton.mp q
      exact ⟨o, ho, fun v q => by rw [hd] at q; cases q⟩
  keep := fun i h h' st k => by
    obtain ⟨⟨old, he⟩, ⟨o, ho, r⟩, ne⟩ := st
    exact ⟨⟨old, k e (List.mem_cons_self ..) _ he⟩, ⟨o, k it (List.mem_cons_of_mem _ (List.mem_singleton_self _)) o ho, r⟩, ne⟩
  item := by
    intro X hP hw hK hc i pins s σ H E I hf st hg  -- own
    subst hP hw hK
    obtain ⟨⟨old, he⟩, hit, ne⟩ := st
    obtain ⟨hq, lt⟩ := hg
    obtain ⟨its, rv, p, _⟩ := I.tuple hq
    have hT : s.heap.IsTuple a its.toArray := p
    have hn : its.length = xs.length := rv.length.symm
    have D := Draws.tup (prog := X.prog) (w := X.w) (A := X.A.in1) (I.ok.hd hc) it a ne2 its.toArray
    have nin : e ∉ [it, a] := fun q => by
      rcases List.mem_cons.mp q with q | q
      · exact ne q
      · exact ne1 (List.mem_singleton.mp q).symm
    have le : e < s.heap.objs.size := Heap.lt_size he
    have li : it < s.heap.objs.size := by obtain ⟨_, q, _⟩ := hit; exact Heap.lt_size q
    have la : a < s.heap.objs.size := by obtain ⟨_, q, _⟩ := hT; exact Heap.lt_size q
    refine wpAny_pyNext_enum_itemD D he ⟨hit, hT⟩ (by show i < its.toArray.size; rw [List.size_toArray]; omega) ne nin fun x h' tk hx ho hit' hT' hsz hk => ⟨_, rfl, ?_⟩
    have hx' : its[i]? = some x := by simpa using hx
    obtain ⟨y, hy⟩ : ∃ y, xs[i]? = some y := ⟨_, List.getElem?_eq_getElem lt⟩
    obtain ⟨u, hu, ru⟩ := rv.get hy
    obtain rfl : u = x := Option.some.inj (hu.symm.trans hx')
    refine wpAny_letOwnedTupleGo_enum (s := { s with heap := h', toks := tk + 1 }) ho fun h2 he2 sb => ?_
    have hT2 : h2.get? s.heap.objs.size = some { cls := .type "tuple", data := .seq #[.int i tk, u] } := (sb.2 _ (Nat.ne_of_gt le)).trans hT'
    have new : ObjOk X.prog X.w (upd H s.heap.objs.size (.tup [.int (i : Nat), y])) h2 s.heap.objs.size (.tup [.int (i : Nat), y]) :=
      ⟨by show 2 ≤ sizeLine; decide, [.int i tk, u], .cons ⟨_, rfl⟩ (.cons ru .nil), ⟨_, hT2, rfl, _, rfl⟩⟩
    have kp : ∀ b o, b ∉ [e, it] → s.heap.get? b = some o → h2.get? b = some o := fun b o hb q => by
      have n1 : b ≠ e := fun w => hb (w ▸ List.mem_cons_self ..)
      have n2 : b ≠ it := fun w => hb (w ▸ List.mem_cons_of_mem _ (List.mem_singleton_self _))
      exact (sb.2 b n1).trans (hk b o n1 n2 q)
    have I1 := Inv.turnedNew (h' := h2) (t' := tk + 1) (ch := [e, it]) I kp hf (Nat.le_refl _) new
    refine ⟨.ref s.heap.objs.size, _, I1, rfl, ⟨_, y, rfl, I.hok.fresh (Nat.le_refl _), rfl, hy⟩, ⟨⟨_, he2⟩, (D.frame _ _ _ hit' fun b hb o q => (sb.2 b fun w => nin (w ▸ hb)).trans q).1, ne⟩, fun b hb => ?_⟩
    have lb : b < s.heap.objs.size := by
      rcases List.mem_cons.mp hb with q | q
      · rw [q]; exact le
      · rw [List.mem_singleton.mp q]; exact li
    rw [upd_ne (Nat.ne_of_lt lb)]
    exact (hf b hb).1
  done := by
    intro X hP hw hK hc i pins s σ H E I hf st hg  -- own
    subst hP hw hK
    obtain ⟨⟨old, he⟩, hit, ne⟩ := st
    obtain ⟨hq, ge⟩ := hg
    obtain ⟨its, rv, p, _⟩ := I.tuple hq
    have hT : s.heap.IsTuple a its.toArray := p
    have hn : its.length = xs.length := rv.length.symm
    obtain ⟨f0, f1, f2, f3, f4, f5⟩ := hf it (List.mem_cons_of_mem _ (List.mem_singleton_self _))
    have D := Draws.tup (prog := X.prog) (w := X.w) (A := X.A.in1) (I.ok.hd hc) it a ne2 its.toArray
    refine wpAny_pyNext_enum_endD D he (show Heap.IsTupleIter _ it a its.toArray.size ∧ _ from ⟨by rw [List.size_toArray, hn, ← ge]; exact hit, hT⟩) fun h' eb => ⟨rfl, I.turned (t' := s.toks) (fun b o hb q => eb b o hb q) f0 f1 f3 f4 f5⟩
  self := fun A i s Q E st h => by  -- own
    obtain ⟨⟨_, he⟩, _⟩ := st
    exact wpAny_pyIter_enum he h
def iEnumT (K : PySem.W.Frag) (ta : TA) : TI := fun σ H R => ta σ H fun vs H1 => ∃ a xs, vs = [.ref a] ∧ SqT K H1 a xs ∧ R (IteT K a xs) H1
theorem pi_enumT {X : Cx} {e : Expr} {ta : TA} {p pos tpos : Pos} {elts : List Expr} {kk : Nat} (hg : Gl X "enumerate") (hm : X.mg "enumerate" = none) (ha : PA X [e] ta)
    (hs : starEach [e] X.env = [(false, eval e X.env)] := by rfl) : PI X (.Tuple elts kk tpos) (.Call (.Name "enumerate" p) [e] [] pos) (iEnumT X.K ta) := by
  refine ⟨fun pins s σ H R I h => Call_ (ld_blt I hg hm boot_enumerate (PyProof.Rows.callWith_type1 (thn (ha.run pos pins s σ H _ I h) fun us s1 q => ?_) hs rfl))⟩
  obtain ⟨vs, H1, I1, r1, a, xs, ez, hq, q1⟩ := q
  subst ez
  obtain ⟨u, rfl, ru⟩ := vals1 r1
  cases (show u = Value.ref a from ru)
  obtain ⟨its, rv, p', hz⟩ := I1.tuple hq
  have la : a < s1.heap.objs.size := by obtain ⟨_, w, _⟩ := (show s1.heap.IsTuple a its.toArray from p'); exact Heap.lt_size w
  refine call_enum_tup (show s1.heap.IsTuple a its.toArray from p') fun h' he hit hsz hk => wpAny_pyIter_enum he ?_
  have I2 : Inv X pins σ H1 { s1 with heap := h' } := I1.kept (t' := s1.toks) hk  -- own
  refine ⟨s1.heap.objs.size + 1, [s1.heap.objs.size + 1, s1.heap.objs.size], _, _, H1, rfl, I2, turn_enumT a xs (s1.heap.objs.size + 1) s1.heap.objs.size (Nat.ne_of_lt (Nat.lt_succ_of_lt la)) (Nat.ne_of_lt la), ⟨⟨.none, he⟩, hit, Nat.succ_ne_self _⟩, fun b hb => ?_, q1⟩
  have lb : s1.heap.objs.size ≤ b := by
    rcases List.mem_cons.mp hb with w | w
    · rw [w]; exact Nat.le_succ _
    · rw [List.mem_singleton.mp w]; exact Nat.le_refl _
  exact I1.fpOk lb (I1.hok.fresh lb)
theorem asEnumT {X : Cx} {K : PySem.W.Frag} {ta : TA} {tg e : Expr} (eK : X.K = K) (h : PI X tg e (iEnumT X.K ta)) : PI X tg e (iEnumT K ta) := eK ▸ h
theorem pe_false {X : Cx} {e : Expr} : PE X e (fun _ _ _ => False) := ⟨fun _ _ _ _ _ _ h => h.elim⟩
theorem pt_false {X : Cx} {e : Expr} : PT X e (fun _ _ _ => False) := ⟨fun _ _ _ _ _ _ h => h.elim⟩
theorem asFld {X : Cx} {K : PySem.W.Frag} {e : Expr} {ta : TE} {f : Str} (eK : X.K = K) (h : PE X e (tFld X.K ta f)) : PE X e (tFld K ta f) := eK ▸ h
theorem asSFld {X : Cx} {K : PySem.W.Frag} {st : Stmt} {ta tv : TE} {f : Str} (eK : X.K = K) (h : PS X st (sFld X.K ta tv f)) : PS X st (sFld K ta tv f) := eK ▸ h
theorem asRevA {X : Cx} {K : PySem.W.Frag} {te : TE} {tg e : Expr} (eK : X.K = K) (h : PI X tg e (RT.iRevA X.K te)) : PI X tg e (RT.iRevA K te) := eK ▸ h
section
variable {K : PySem.W.Frag} {σ : L2.St} {H : Hp} {Q : VK} {ta tv te : TE} {f : Str} {D : Ends}
theorem r_fld (k : ta σ H fun x H1 => ∃ a C dx fs v, x = .ref a ∧ H1 a = some (.ins C dx fs) ∧ Cls K C ∧ NoAttr K C f ∧ fs.lookup f = some v ∧ Q v H1) : tFld K ta f σ H Q := k
theorem r_enumT {ta : TA} {R : It → Hp → Prop} (k : ta σ H fun vs H1 => ∃ a xs, vs = [.ref a] ∧ SqT K H1 a xs ∧ R (IteT K a xs) H1) : iEnumT K ta σ H R := k
theorem r_irevA {R : It → Hp → Prop} (k : te σ H fun v H1 => ∃ (a : Addr) (xs : List V), v = .ref a ∧ ((SqL K H1 a xs ∧ R (Itv K a xs.length) H1) ∨ (SqT K H1 a xs ∧ R (RT.ItvT K a xs.length) H1))) : RT.iRevA K te σ H R := k
end
def DcQ (J : It) (g : TG) (tt : TT) (tk tv : TE) (vs : List Nat) (σ : L2.St) (H1 : Hp) (D : Addr) (Z : Hp → Prop) : Prop :=
  ∃ W : Nat → Nat → Hp → Prop, (∃ m, W 0 m (upd H1 D (.dK []))) ∧ ∀ i m H, W i m H →
    (J.stop i H ∧ Z H) ∨ (J.go i H ∧ ∃ Nx : Hp → Prop, (∀ H', Nx H' → ∃ m', m' < m ∧ W (i + 1) m' H') ∧ ∀ x H', J.yld i H x H' → g x (wipe σ vs) H' fun σ2 H2 => wipe σ2 vs = wipe σ vs ∧ tt σ2 H2 fun b H3 =>
      if b = true then tk σ2 H3 fun y H4 => tv σ2 H4 fun z H5 => ∃ kvs k, y = kV k ∧ H5 D = some (.dK kvs) ∧ kvs.length < sizeLine ∧ Nx (upd H5 D (.dK (putK kvs k z))) else Nx H3)
theorem r_dc {wi : TI} {g : TG} {tt : TT} {tk tv : TE} {vs : List Nat} {σ : L2.St} {H : Hp} {Q : VK} (k : wi σ H fun J H1 => ∀ D, H1 D = none → DcQ J g tt tk tv vs σ H1 D fun H => Q (.ref D) H) : tDc wi g tt tk tv vs σ H Q := k
theorem dc_of {J : It} {g : TG} {tt : TT} {tk tv : TE} {vs : List Nat} {σ : L2.St} {H1 : Hp} {D : Addr} {Z : Hp → Prop} (n : Nat) (I : Nat → Hp → Prop) (start : I 0 (upd H1 D (.dK [])))
    (go : ∀ i H, i < n → I i H → J.go i H) (stop : ∀ H, I n H → J.stop n H)
    (turn : ∀ i H x H', i < n → I i H → J.yld i H x H' → g x (wipe σ vs) H' fun σ2 H2 => wipe σ2 vs = wipe σ vs ∧ tt σ2 H2 fun b H3 =>
      if b = true then tk σ2 H3 fun y H4 => tv σ2 H4 fun z H5 => ∃ kvs k, y = kV k ∧ H5 D = some (.dK kvs) ∧ kvs.length < sizeLine ∧ I (i + 1) (upd H5 D (.dK (putK kvs k z))) else I (i + 1) H3)
    (fin : ∀ H, I n H → Z H) : DcQ J g tt tk tv vs σ H1 D Z := by
  refine ⟨fun i m H => m = n - i ∧ i ≤ n ∧ I i H, ⟨n, by omega, Nat.zero_le _, start⟩, fun i m H w => ?_⟩
  obtain ⟨hm, hi, w⟩ := w
  subst hm
  rcases Nat.lt_or_ge i n with lt | ge
  · exact .inr ⟨go i H lt w, I (i + 1), fun H' w' => ⟨n - (i + 1), by omega, rfl, lt, w'⟩, fun x H' y => turn i H x H' lt w y⟩
  · obtain rfl : i = n := by omega
    exact .inl ⟨stop H w, fin H w⟩
theorem seqIt_keys {d : Addr} {o : Obj} {kvs : List (Key × V)} {H : Hp} (h : H d = some (.frz o (.dK kvs))) : SeqIt (Itk d o kvs) (kvs.map fun kv => kV kv.1) H where
  go := fun i H' s lt => ⟨s _ _ h, by rw [List.length_map] at lt; exact lt⟩
  stop := fun H' s => ⟨s _ _ h, by rw [List.length_map]; exact Nat.le_refl _⟩
  yld := fun i H' x H'' s y => by
    obtain ⟨rfl, k, v, e, rfl⟩ := y
    exact ⟨rfl, by rw [List.getElem?_map, e]; rfl⟩
theorem seqIt_vals {d : Addr} {o : Obj} {kvs : List (Key × V)} {H : Hp} (h : H d = some (.frz o (.dK kvs))) : SeqIt (Itd d o kvs) (kvs.map Prod.snd) H where
  go := fun i H' s lt => ⟨s _ _ h, by rw [List.length_map] at lt; exact lt⟩
  stop := fun H' s => ⟨s _ _ h, by rw [List.length_map]; exact Nat.le_refl _⟩
  yld := fun i H' x H'' s y => by
    obtain ⟨rfl, k, e⟩ := y
    exact ⟨rfl, by rw [List.getElem?_map, e]; rfl⟩
section
variable {K : PySem.W.Frag} {σ : L2.St} {H : Hp} {g : TG} {tb : TS} {n' : L2.St → Hp → Prop} {rt : VK} {bk ct : L2.St → Hp → Prop}
theorem loop_revT {a : Addr} {xs : List V} (I : Nat → L2.St → Hp → Prop) (at_ : ∀ i σ H, I i σ H → SqT K H a xs) (start : I 0 σ H)
    (turn : ∀ (i : Nat) (x : V) σ1 H1, xs.reverse[i]? = some x → I i σ1 H1 → g x σ1 H1 fun σ2 H2 => tb ⟨I (i + 1), rt, n', I (i + 1)⟩ σ2 H2)
    (fin : ∀ σ1 H1, I xs.length σ1 H1 → n' σ1 H1) : LoopQ (RT.ItvT K a xs.length) g tb ⟨n', rt, bk, ct⟩ σ H :=
  loop_of (D := ⟨n', rt, bk, ct⟩) xs.length I start (fun i σ H hi w => ⟨hi, xs, _, at_ i σ H w, List.getElem?_eq_getElem (by omega)⟩) (fun σ H w => Nat.le_refl _) (fun i σ1 H1 x H' hi w y => by
    obtain ⟨rfl, hx⟩ := y
    exact turn i x σ1 H' (by rw [List.getElem?_reverse hi]; exact hx xs (at_ i σ1 H' w)) w) fin
/-- a loop over a dict's keys that are tuples -/
theorem loop_keysT {d : Addr} {o : Obj} {kvs : List (List Key × V)} (I : Nat → L2.St → Hp → Prop) (at_ : ∀ i σ H, I i σ H → H d = some (.frz o (.dT kvs))) (start : I 0 σ H)
    (turn : ∀ (i : Nat) (k : List Key) (v : V) (q : Addr) σ1 H1, kvs[i]? = some (k, v) → H1 q = some (.tup (k.map kV)) → I i σ1 H1 → g (.ref q) σ1 H1 fun σ2 H2 => tb ⟨I (i + 1), rt, n', I (i + 1)⟩ σ2 H2)
    (fin : ∀ σ1 H1, I kvs.length σ1 H1 → n' σ1 H1) : LoopQ (Itkt d o kvs) g tb ⟨n', rt, bk, ct⟩ σ H :=
  loop_of (D := ⟨n', rt, bk, ct⟩) kvs.length I start (fun i σ H hi w => ⟨at_ i σ H w, hi⟩) (fun σ H w => ⟨at_ _ σ H w, Nat.le_refl _⟩) (fun i σ1 H1 x H' hi w y => by
    obtain ⟨rfl, k, v, q, e, rfl, hq⟩ := y
    exact turn i k v q σ1 H' e hq w) fin
end
/-- a test that asks another first -/
def tIfT (tc ta tb : TT) : TT := fun σ H Q => tc σ H fun c H1 => if c = true then ta σ H1 Q else tb σ H1 Q
theorem pt_ifE {X : Cx} {c a b : Expr} {pos : Pos} {tc ta tb : TT} (hc : PT X c tc) (ha : PT X a ta) (hb : PT X b tb) : PT X (.IfExp c a b pos) (tIfT tc ta tb) := by
  refine ⟨fun pins s σ H Q I h => ?_⟩
  refine isTrue_IfExp (thn (hc.run pins s σ H _ I h) fun v s1 ⟨H1, I1, q⟩ => ?_)
  cases v with
  | true => exact ha.run pins s1 σ H1 Q I1 q
  | false => exact hb.run pins s1 σ H1 Q I1 q
theorem r_ifT {tc ta tb : TT} {σ : L2.St} {H : Hp} {Q : Bool → Hp → Prop} (k : tc σ H fun c H1 => if c = true then ta σ H1 Q else tb σ H1 Q) : tIfT tc ta tb σ H Q := k
end J
namespace J
open PySem PySem.Spec PyProof.Rows L2 M
/-- tuples stay -/
def TupK (H H' : Hp) : Prop := ∀ p xs, H p = some (.tup xs) → H' p = some (.tup xs)
theorem TupK.of {H H' : Hp} (s : Same H H') : TupK H H' := fun p xs h => s p _ h
theorem TupK.refl (H : Hp) : TupK H H := fun _ _ h => h
theorem TupK.trans {H H1 H2 : Hp} (a : TupK H H1) (b : TupK H1 H2) : TupK H H2 := fun p xs h => b p xs (a p xs h)
theorem TupK.upd {H : Hp} {d : Addr} {o : HO} (n : ∀ xs, H d ≠ some (.tup xs)) : TupK H (upd H d o) := fun p xs h => by
  rw [upd_ne fun e => by subst e; exact n xs h]
  exact h
/-- an option: its name, whether it is a flag -/
abbrev Op : Type := List Nat × Bool
def fmS (b : Bool) : Str := if b = true then "flag" else "count"
def opV (o : Op) : List V := [.str (S o.1), .non, .str (fmS o.2), .non, .int 0, .bl false, .non]
inductive OptsAt (H : Hp) : List V → List Op → Prop where
  | nil : OptsAt H [] []
  | cons {a : Addr} {o : Op} {xs : List V} {os : List Op} (h : H a = some (.tup (opV o))) (t : OptsAt H xs os) : OptsAt H (.ref a :: xs) (o :: os)
theorem OptsAt.keep {H H' : Hp} (s : TupK H H') : ∀ {xs : List V} {os : List Op}, OptsAt H xs os → OptsAt H' xs os
  | _, _, .nil => .nil
  | _, _, .cons h t => .cons (s _ _ h) (t.keep s)
theorem OptsAt.len {H : Hp} : ∀ {xs : List V} {os : List Op}, OptsAt H xs os → xs.length = os.length
  | _, _, .nil => rfl
  | _, _, .cons _ t => by rw [List.length_cons, List.length_cons, t.len]
theorem OptsAt.get {H : Hp} : ∀ {xs : List V} {os : List Op} {i : Nat} {x : V}, OptsAt H xs os → xs[i]? = some x → ∃ (a : Addr) (o : Op), x = .ref a ∧ os[i]? = some o ∧ H a = some (.tup (opV o))
  | _, _, _, _, .nil, e => by cases e
  | _, _, 0, _, .cons h _, e => by cases e; exact ⟨_, _, rfl, rfl, h⟩
  | _, _, i + 1, _, .cons _ t, e => t.get (i := i) e
theorem OptsAt.take {H : Hp} (n : Nat) : ∀ {xs : List V} {os : List Op}, OptsAt H xs os → OptsAt H (xs.take n) (os.take n) := by
  induction n with
  | zero => intro xs os _; exact .nil
  | succ n ih =>
    intro xs os h
    cases h with
    | nil => exact .nil
    | cons h t => exact .cons h (ih t)
/-- a command: its name, its options, the commands beneath -/
structure CmdAt (H : Hp) (a : Addr) (nm : Str) (os : List Op) (cs : List V) : Prop where
  ex : ∃ (oa pa ga ca : Addr) (xs : List V), H a = some (.tup [.str nm, .ref oa, .ref pa, .ref ga, .ref ca]) ∧ H oa = some (.tup xs) ∧ OptsAt H xs os ∧ H pa = some (.tup []) ∧ H ga = some (.tup []) ∧ H ca = some (.tup cs)
theorem CmdAt.keep {H H' : Hp} (s : TupK H H') {a : Addr} {nm : Str} {os : List Op} {cs : List V} (h : CmdAt H a nm os cs) : CmdAt H' a nm os cs := by
  obtain ⟨oa, pa, ga, ca, xs, h1, h2, h3, h4, h5, h6⟩ := h.ex
  exact ⟨oa, pa, ga, ca, xs, s _ _ h1, s _ _ h2, h3.keep s, s _ _ h4, s _ _ h5, s _ _ h6⟩
/-- names of options: two to eight letters, none twice, six at most -/
def OpsOk (os : List Op) : Prop := os.length ≤ 6 ∧ (∀ o ∈ os, Nm o.1 ∧ 2 ≤ o.1.length) ∧ (os.map Prod.fst).Nodup
theorem OpsOk.take {os : List Op} (h : OpsOk os) (n : Nat) : OpsOk (os.take n) :=
  ⟨Nat.le_trans (List.length_take_le' ..) h.1, fun o ho => h.2.1 o (List.mem_of_mem_take ho), by
    rw [List.map_take]
    exact h.2.2.sublist (List.take_sublist ..)⟩
def spNamed : Sp := fun vs H Q _ => ∃ (a : Addr) (z : Str) (xs : List V), vs = [.ref a] ∧ H a = some (.tup (.str z :: xs)) ∧ Nm (cd z) ∧ Q (.bl true) H
def spTupTo : Sp := fun vs H Q _ => ∃ (a : Addr) (xs : List V) (n : Int), vs = [.ref a, .int n] ∧ H a = some (.tup xs) ∧ (xs.length : Int) ≤ n ∧ Q (.bl true) H
def spOptForm : Sp := fun vs H Q _ => ∃ (a : Addr) (o : Op), vs = [.ref a] ∧ H a = some (.tup (opV o)) ∧ Nm o.1 ∧ 2 ≤ o.1.length ∧ Q (.bl true) H
def spNoPlaces : Sp := fun vs H Q _ => ∃ a : Addr, vs = [.ref a] ∧ H a = some (.tup []) ∧ ∀ H', Same H H' → Q (.bl true) H'
def spNoOrder : Sp := fun vs H Q _ => ∃ a : Addr, vs = [.ref a] ∧ H a = some (.lst []) ∧ ∀ H', Same H H' → Q (.bl true) H'
def spCmdForm : Sp := fun vs H Q _ => ∃ (a : Addr) (nm : Str) (os : List Op) (cs : List V), vs = [.ref a] ∧ CmdAt H a nm os cs ∧ Nm (cd nm) ∧ OpsOk os ∧ cs.length ≤ 6 ∧ ∀ H', Same H H' → Q (.bl true) H'
def spFitsForm : Sp := fun vs H Q _ => ∃ b : Bool, vs = [.str (fmS b), .non, .int 0] ∧ Q (.bl true) H
def spNoOwn : Sp := fun vs H Q _ => ∃ x : V, vs = [x] ∧ x = .non ∧ Q .non H
def spHasDef : Sp := fun vs H Q _ => ∃ (a w : Addr) (o : Op), vs = [.ref a, .ref w] ∧ H a = some (.tup (opV o)) ∧ Q (.bl true) H
def spTwice : Sp := fun vs H Q _ => ∃ (p : V) (a : Addr) (nm : Str) (os : List Op) (cs : List V) (us : List (List Nat)), vs = [p, .ref a] ∧ CmdAt H a nm os cs ∧ OpsOk os ∧ us.Nodup ∧ cs.length = us.length ∧ cs.length ≤ 6 ∧
  (∀ (i : Nat) (x : V), cs[i]? = some x → ∃ (c : Addr) (u : List Nat) (ys : List V), x = V.ref c ∧ us[i]? = some u ∧ Nm u ∧ H c = some (.tup (.str (S u) :: ys))) ∧ ∀ H', Same H H' → Q .non H'
def spOwnNames : Sp := fun vs H Q _ => ∃ (a : Addr) (nm : Str) (os : List Op) (cs : List V), vs = [.ref a] ∧ CmdAt H a nm os cs ∧ os.length ≤ 6 ∧ ∀ H' p, Same H H' → H p = none → H' p = some (.lst []) → Q (.ref p) H'
def spNoGroups : Sp := fun vs H Q _ => ∃ (p : V) (a : Addr) (nm : Str) (os : List Op) (cs : List V), vs = [p, .ref a] ∧ CmdAt H a nm os cs ∧ Q .non H
/-- the names beneath, each at its command -/
def Subs (H : Hp) (cs : List V) (us : List (List Nat)) (os : List Op) : Prop := cs.length = us.length ∧ ∀ (i : Nat) (x : V), cs[i]? = some x → ∃ (c : Addr) (u : List Nat), x = V.ref c ∧ us[i]? = some u ∧ Nm u ∧ CmdAt H c (S u) os []
theorem Subs.keep {H H' : Hp} (s : TupK H H') {cs : List V} {us : List (List Nat)} {os : List Op} (h : Subs H cs us os) : Subs H' cs us os :=
  ⟨h.1, fun i x e => by
    obtain ⟨c, u, e1, e2, e3, e4⟩ := h.2 i x e
    exact ⟨c, u, e1, e2, e3, e4.keep s⟩⟩
def spLookCmd : Sp := fun vs H Q _ => ∃ (p : V) (a t w : Addr) (nm : Str) (os os' : List Op) (cs : List V) (us : List (List Nat)), vs = [p, .ref a, .ref t, .ref w] ∧ CmdAt H a nm os cs ∧ Nm (cd nm) ∧ OpsOk os ∧ Subs H cs us os' ∧ us.Nodup ∧ cs.length ≤ 6 ∧ ∀ H', Same H H' → Q .non H'
theorem inV_str {z : Str} {ws : List Str} : inV (.str z) (ws.map V.str) = decide (z ∈ ws) := by
  unfold inV
  induction ws with
  | nil => rfl
  | cons x r ih =>
    rw [List.map_cons, List.any_cons, ih, Bool.eq_iff_iff, Bool.or_eq_true, decide_eq_true_iff, decide_eq_true_iff, List.mem_cons]
    show decide (x = z) = true ∨ _ ↔ _
    rw [decide_eq_true_iff]
    exact ⟨fun h => h.imp Eq.symm id, fun h => h.imp Eq.symm id⟩
theorem flat_strs : ∀ ws : List Str, (ws.map V.str).all flatV = true
  | [] => rfl
  | _ :: r => by rw [List.map_cons, List.all_cons, flat_strs r]; rfl
/-- a text among texts -/
theorem r_inTx {K : PySem.W.Frag} {H : Hp} {Q : VK} {a : Addr} {z : Str} {ws : List Str} (h : SqL K H a (ws.map V.str) ∨ SqT K H a (ws.map V.str)) (k : Q (.bl (decide (z ∈ ws))) H) : rInA K false (.str z) (.ref a) H Q :=
  .inr ⟨a, _, rfl, h, rfl, flat_strs ws, by rw [inV_str]; exact k⟩
theorem r_ninTx {K : PySem.W.Frag} {H : Hp} {Q : VK} {a : Addr} {z : Str} {ws : List Str} (h : SqL K H a (ws.map V.str) ∨ SqT K H a (ws.map V.str)) (k : Q (.bl (!decide (z ∈ ws))) H) : rInA K true (.str z) (.ref a) H Q :=
  .inr ⟨a, _, rfl, h, rfl, flat_strs ws, by rw [inV_str]; exact k⟩
theorem r_nn {p : Prop} (h : p) : V.non = V.non ∧ p := ⟨rfl, h⟩
end J
namespace J
open PySem PySem.Spec PyProof.Rows L2 M
/-- what may be a path: whether each is a name -/
inductive Pa (K : PySem.W.Frag) (H : Hp) : V → Bool → Prop where
  | tup {a : Addr} {es : List (V × PyData)} (h : H a = some (.tup (es.map Prod.fst))) (t : ∀ e ∈ es, Tg K H e.1 e.2) (l : es.length ≤ 60) : Pa K H (.ref a) (es.all fun e => nmD e.2)
  | non : Pa K H .non false
  | str (z : Str) : Pa K H (.str z) false
  | lst {a : Addr} {xs : List V} (h : H a = some (.lst xs)) : Pa K H (.ref a) false
def spPath (K : PySem.W.Frag) : Sp := fun vs H Q _ => ∃ (x : V) (b : Bool), vs = [x] ∧ Pa K H x b ∧ ∀ H', Same H H' → Q (.bl b) H'
theorem comp_nil {J : It} {g : TG} {tt : TT} {te : TE} {vs : List Nat} {σ : L2.St} {H1 : Hp} {D : Addr} {Z : Hp → Prop} (SI : SeqIt J [] H1) (hD : H1 D = none)
    (fin : ∀ H, Same H1 H → H D = some (.lst []) → Z H) : CompQ J g tt te vs σ H1 D Z :=
  comp_filt SI hD (fun _ => none) (by decide) (fun i x H N N0 hx => by cases hx) fun H s h => fin H s h
/-- a table of no words of one's own -/
def spTable0 : Sp := fun vs H Q _ => ∃ a : Addr, vs = [.ref a] ∧ H a = some (.dK []) ∧ ∀ H', Same H H' → Q (.bl true) H'
theorem unlock_same {H H' : Hp} {d : Addr} {u o : HO} (h : H d = some u) (s : Same (upd H d o) H') : Same H (upd H' d u) := fun p v e => by
  by_cases hp : p = d
  · subst hp; rw [upd_same, ← h, e]
  · rw [upd_ne hp]
    exact s p v (by rw [upd_ne hp]; exact e)
theorem r_lockE {t : TE} {σ : L2.St} {H : Hp} {Q : VK} {d : Addr} {u : HO} (h : H d = some u) (m : Mut (some u)) (k : ∀ od, t σ (upd H d (.frz od u)) fun v H' => H' d = some (.frz od u) ∧ Q v (upd H' d u)) : tLockE t σ H Q := ⟨d, u, h, m, k⟩
theorem r_lockS {t : TS} {D : Ends} {σ : L2.St} {H : Hp} {d : Addr} {u : HO} (h : H d = some u) (m : Mut (some u))
    (k : ∀ od, t ⟨fun σ' H' => H' d = some (.frz od u) ∧ D.nx σ' (upd H' d u), fun v H' => H' d = some (.frz od u) ∧ D.rt v (upd H' d u), fun σ' H' => H' d = some (.frz od u) ∧ D.bk σ' (upd H' d u), fun σ' H' => H' d = some (.frz od u) ∧ D.ct σ' (upd H' d u)⟩ σ (upd H d (.frz od u))) : tLock t D σ H := ⟨d, u, h, m, k⟩
theorem r_lcKy {te te' : TE} {g : TG} {tt : TT} {vs : List Nat} {σ : L2.St} {H : Hp} {Q : VK} (k : te σ H fun x H1 => ∃ d o, x = .ref d ∧ ((∃ kvs, H1 d = some (.frz o (.dK kvs)) ∧ ∀ E, H1 E = none → CompQ (Itk d o kvs) g tt te' vs σ H1 E fun H => Q (.ref E) H) ∨ ∃ kvs, H1 d = some (.frz o (.dT kvs)) ∧ ∀ E, H1 E = none → CompQ (Itkt d o kvs) g tt te' vs σ H1 E fun H => Q (.ref E) H)) :
    tLc (iKeys te) g tt te' vs σ H Q := k
theorem r_keyZ {te' : TE} {g : TG} {tt : TT} {vs : List Nat} {σ : L2.St} {H : Hp} {Z : Addr → Hp → Prop} {d : Addr} {o : Obj} {kvs : List (Key × V)} (h : H d = some (.frz o (.dK kvs))) (k : ∀ J, SeqIt J (kvs.map fun kv => kV kv.1) H → ∀ E, H E = none → CompQ J g tt te' vs σ H E (Z E)) :
    ∃ b o, V.ref d = .ref b ∧ ((∃ kvs, H b = some (.frz o (.dK kvs)) ∧ ∀ E, H E = none → CompQ (Itk b o kvs) g tt te' vs σ H E (Z E)) ∨ ∃ kvs, H b = some (.frz o (.dT kvs)) ∧ ∀ E, H E = none → CompQ (Itkt b o kvs) g tt te' vs σ H E (Z E)) :=
  ⟨d, o, rfl, .inl ⟨kvs, h, k _ (seqIt_keys h)⟩⟩
theorem Same.non {H H' : Hp} (s : Same H H') {p : Addr} (h : H' p = none) : H p = none := by
  cases e : H p with
  | none => rfl
  | some v => exact nomatch h.symm.trans (s _ _ e)
/-- a tuple and an empty one -/
theorem r_catE {K : PySem.W.Frag} {H : Hp} {Q : VK} {a b : Addr} {xs : List V} (ha : H a = some (.tup xs)) (hb : H b = some (.tup [])) (l : xs.length ≤ 1000) (k : ∀ c, H c = some (.tup xs) → Q (.ref c) H) : J.rAdd K (.ref a) (.ref b) H Q :=
  .inr (.inr (.inr ⟨a, b, xs, [], rfl, rfl, SqT.of ha, SqT.of hb, Nat.le_trans l (by decide), fun e => k b (by rw [hb, e]), fun _ _ => k a ha, fun _ n => (n rfl).elim⟩))
/-- one y for each x, all kept by the test -/
theorem comp_keep {J : It} {g : TG} {tt : TT} {te : TE} {vs : List Nat} {σ : L2.St} {H1 : Hp} {D : Addr} {Z : Hp → Prop} {xs : List V} (SI : SeqIt J xs H1) (hD : H1 D = none) (ys : List V) (hl : ys.length = xs.length) (hs : xs.length < sizeLine)
    (turn : ∀ (i : Nat) (x : V) (H : Hp) (N : V → Hp → Prop) (N0 : Hp → Prop), xs[i]? = some x → Same H1 H → (∀ y H4, ys[i]? = some y → Same H H4 → N y H4) → g x (wipe σ vs) H fun σ2 H2 => wipe σ2 vs = wipe σ vs ∧ tt σ2 H2 fun b H3 => if b = true then te σ2 H3 N else N0 H3)
    (fin : ∀ H, Same H1 H → H D = some (.lst ys) → Z H) : CompQ J g tt te vs σ H1 D Z := by
  refine comp_of xs.length (fun i H => Same H1 H ∧ H D = some (.lst (ys.take i))) ⟨(Same.refl H1).at hD _, by rw [upd_same]; rfl⟩ (fun i H hi w => SI.go i H w.1 hi) (fun H w => SI.stop H w.1) (fun i H x H' hi w y => ?_) (fun H w => ?_)
  · obtain ⟨rfl, hx⟩ := SI.yld i H x H' w.1 y
    exact turn i x H' _ _ hx w.1 fun y H4 hy s => ⟨_, s _ _ w.2, Nat.lt_of_le_of_lt (by rw [List.length_take]; omega) hs, (w.1.trans s).at hD _, by rw [upd_same, take_snoc hy]⟩
  · have : ys.take xs.length = ys := List.take_of_length_le (Nat.le_of_eq hl)
    rw [this] at w
    exact fin H w.1 w.2
theorem r_isq {K : PySem.W.Frag} {σ : L2.St} {H : Hp} {te : TE} {R : It → Hp → Prop} (k : te σ H fun x H1 => ∃ a xs, x = .ref a ∧ ((SqL K H1 a xs ∧ R (Itl K a) H1) ∨ (SqT K H1 a xs ∧ R (Itt K a) H1))) : iSeq K te σ H R := k
/-- tuples one behind the other -/
theorem r_catT2 {K : PySem.W.Frag} {H : Hp} {Q : VK} {a b : Addr} {xs ys : List V} (ha : H a = some (.tup xs)) (hb : H b = some (.tup ys)) (l : xs.length + ys.length ≤ 1000)
    (k : ∀ c H', Same H H' → H' c = some (.tup (xs ++ ys)) → Q (.ref c) H') : J.rAdd K (.ref a) (.ref b) H Q :=
  .inr (.inr (.inr ⟨a, b, xs, ys, rfl, rfl, SqT.of ha, SqT.of hb, Nat.le_trans l (by decide), fun e => k b H (Same.refl H) (by rw [hb, e]; rfl), fun _ e => k a H (Same.refl H) (by rw [ha, e, List.append_nil]), fun _ _ p hp => k p _ ((Same.refl H).at hp _) upd_same⟩))
def spBeneath : Sp := fun vs H Q _ => ∃ (p a : Addr) (ps : List V) (z : Str) (xs : List V), vs = [.ref p, .ref a] ∧ H p = some (.tup ps) ∧ H a = some (.tup (.str z :: xs)) ∧ Nm (cd z) ∧ ps.length ≤ 3 ∧ ∀ H' q, Same H H' → H' q = some (.tup (ps ++ [.str z])) → Q (.ref q) H'
end J
namespace J
open PySem PySem.Spec PyProof.Rows L2 M
theorem asBM0 {X : Cx} {K : PySem.W.Frag} {e : Expr} {T : String} {r : V → List V → Hp → VK → Prop} {to : TE} (eK : X.K = K) (h : PE X e (tBM0 X.K T r to)) : PE X e (tBM0 K T r to) := eK ▸ h
theorem r_bm0 {K : PySem.W.Frag} {σ : L2.St} {H : Hp} {Q : VK} {T : String} {r : V → List V → Hp → VK → Prop} {to : TE} (k : to σ H fun x H1 => tyV K T x H1 ∧ r x [] H1 Q) : tBM0 K T r to σ H Q := k
/-- a path and what stands there -/
abbrev PE2 : Type := List Str × V
/-- pairs of a path and a command, each a tuple -/
inductive Pts (H : Hp) : List V → List PE2 → Prop where
  | nil : Pts H [] []
  | cons {q p : Addr} {e : PE2} {zs : List V} {L : List PE2} (h : H q = some (.tup [.ref p, e.2])) (hp : H p = some (.tup (e.1.map V.str))) (t : Pts H zs L) : Pts H (.ref q :: zs) (e :: L)
theorem Pts.keep {H H' : Hp} (s : TupK H H') : ∀ {zs : List V} {L : List PE2}, Pts H zs L → Pts H' zs L
  | _, _, .nil => .nil
  | _, _, .cons h hp t => .cons (s _ _ h) (s _ _ hp) (t.keep s)
def keyE (e : PE2) : List Key × V := (e.1.map Sum.inr, e.2)
/-- all commands: the root's, then those beneath -/
def allC (r : V) (us : List (List Nat)) (cs : List V) : List PE2 := ([], r) :: List.zipWith (fun u x => ([S u], x)) us cs
def spDeep : Sp := fun vs H Q _ => ∃ (d : Addr) (kvs : List (List Key × V)), vs = [.ref d] ∧ H d = some (.dT kvs) ∧ (∀ e ∈ kvs, e.1.length ≤ 2) ∧ ∀ H', Same H H' → Q .non H'
def spFitted : Sp := fun vs H Q _ => ∃ (r t : Addr) (nm : Str) (os os' : List Op) (cs : List V) (us : List (List Nat)), vs = [.ref r, .ref t] ∧ CmdAt H r nm os cs ∧ Nm (cd nm) ∧ OpsOk os ∧ Subs H cs us os' ∧ OpsOk os' ∧ us.Nodup ∧ cs.length ≤ 6 ∧
  ∀ H' q dc dw, Same H H' → H dc = none → H dw = none → dc ≠ dw → H' dc = some (.dT ((allC (.ref r) us cs).map keyE)) → H' dw = some (.dK []) → H' q = some (.tup [.ref dc, .ref dw]) → Q (.ref q) H'
theorem valV_of {κ : Type} [DecidableEq κ] {kvs : List (κ × V)} {k : κ} (h : ∀ e ∈ kvs, e.1 ≠ k) : valV kvs k = none := by
  unfold valV
  rw [List.find?_eq_none.mpr fun e he => by simpa using h e he]
  rfl
theorem kV_inr (ns : List Str) : (ns.map (Sum.inr : Str → Key)).map kV = ns.map V.str := by
  rw [List.map_map]; rfl
theorem inr_inj {ns ms : List Str} (h : ns.map (Sum.inr : Str → Key) = ms.map Sum.inr) : ns = ms := by
  induction ns generalizing ms with
  | nil => cases ms with
    | nil => rfl
    | cons _ _ => cases h
  | cons a r ih => cases ms with
    | nil => cases h
    | cons b t =>
      rw [List.map_cons, List.map_cons, List.cons.injEq] at h
      rw [Sum.inr.inj h.1, ih h.2]
theorem allC_nodup {r : V} {us : List (List Nat)} (hu : us.Nodup) (cs : List V) : ((allC r us cs).map Prod.fst).Nodup := by
  have key : ∀ (us : List (List Nat)) (cs : List V), us.Nodup → ((List.zipWith (fun u x => (([S u], x) : PE2)) us cs).map Prod.fst).Nodup ∧ ∀ e ∈ List.zipWith (fun u x => (([S u], x) : PE2)) us cs, ∃ u ∈ us, e.1 = [S u] := by
    intro us
    induction us with
    | nil => intro cs _; exact ⟨List.nodup_nil, fun _ h => (List.not_mem_nil h).elim⟩
    | cons u us ih =>
      intro cs hu
      cases cs with
      | nil => exact ⟨List.nodup_nil, fun _ h => (List.not_mem_nil h).elim⟩
      | cons c cs =>
        obtain ⟨n, m⟩ := ih cs (List.nodup_cons.mp hu).2
        refine ⟨?_, fun e he => ?_⟩
        · rw [List.zipWith_cons_cons, List.map_cons, List.nodup_cons]
          refine ⟨fun h => ?_, n⟩
          obtain ⟨e, he, e1⟩ := List.mem_map.mp h
          obtain ⟨v, hv, e2⟩ := m e he
          have : S v = S u := by
            have := e2.symm.trans e1
            exact (List.cons.inj this).1
          have : v = u := by rw [← cd_S v, this, cd_S]
          subst this
          exact (List.nodup_cons.mp hu).1 hv
        · rw [List.zipWith_cons_cons] at he
          rcases List.mem_cons.mp he with rfl | he
          · exact ⟨u, List.mem_cons_self .., rfl⟩
          · obtain ⟨v, hv, e2⟩ := m e he
            exact ⟨v, List.mem_cons_of_mem _ hv, e2⟩
  obtain ⟨n, m⟩ := key us cs hu
  unfold allC
  rw [List.map_cons, List.nodup_cons]
  refine ⟨fun h => ?_, n⟩
  obtain ⟨e, he, e1⟩ := List.mem_map.mp h
  obtain ⟨u, _, e2⟩ := m e he
  rw [e2] at e1
  cases e1
/-- one more command set down -/
theorem put_done {done L : List PE2} {e : PE2} (h : ((done ++ e :: L).map Prod.fst).Nodup) : putK (done.map keyE) (e.1.map Sum.inr) e.2 = (done ++ [e]).map keyE := by
  rw [putK_new, List.map_append]
  · rfl
  · refine valV_of fun x hx => ?_
    obtain ⟨d, hd, rfl⟩ := List.mem_map.mp hx
    intro e1
    have := inr_inj e1
    rw [List.map_append, List.nodup_append] at h
    exact h.2.2 d.1 (List.mem_map_of_mem hd) e.1 (by rw [List.map_cons]; exact List.mem_cons_self ..) this
theorem r_iky {σ : L2.St} {H : Hp} {td : TE} {R : It → Hp → Prop} (k : td σ H fun x H1 => ∃ d o, x = .ref d ∧ ((∃ kvs, H1 d = some (.frz o (.dK kvs)) ∧ R (Itk d o kvs) H1) ∨ ∃ kvs, H1 d = some (.frz o (.dT kvs)) ∧ R (Itkt d o kvs) H1)) : iKeys td σ H R := k
def kidsC (us : List (List Nat)) (cs : List V) : List PE2 := List.zipWith (fun u x => ([S u], x)) us cs
theorem kidsC_mem {us : List (List Nat)} {cs : List V} {e : PE2} (h : e ∈ kidsC us cs) : ∃ (i : Nat) (u : List Nat), us[i]? = some u ∧ cs[i]? = some e.2 ∧ e.1 = [S u] := by
  obtain ⟨i, hi⟩ := List.mem_iff_getElem?.mp h
  unfold kidsC at hi
  rw [List.getElem?_zipWith] at hi
  cases hu : us[i]? with
  | none => rw [hu] at hi; cases hi
  | some u =>
    cases hc : cs[i]? with
    | none => rw [hu, hc] at hi; cases hi
    | some x =>
      rw [hu, hc] at hi
      cases hi
      exact ⟨i, u, hu, hc, rfl⟩
theorem kidsC_len (us : List (List Nat)) (cs : List V) : (kidsC us cs).length ≤ cs.length := by
  unfold kidsC
  rw [List.length_zipWith]
  exact Nat.min_le_right ..
theorem kidsC_get {us : List (List Nat)} {cs : List V} {i : Nat} {u : List Nat} {x : V} (hu : us[i]? = some u) (hc : cs[i]? = some x) : (kidsC us cs)[i]? = some ([S u], x) := by
  unfold kidsC
  rw [List.getElem?_zipWith, hu, hc]
theorem allC_len {r : V} {us : List (List Nat)} {cs : List V} : ∀ e ∈ allC r us cs, e.1.length ≤ 1 := fun e he => by
  rcases List.mem_cons.mp he with rfl | h
  · exact Nat.zero_le _
  · obtain ⟨_, u, _, _, e1⟩ := kidsC_mem h
    rw [e1]; exact Nat.le_refl _
theorem allC_size (r : V) (us : List (List Nat)) (cs : List V) : (allC r us cs).length ≤ cs.length + 1 := Nat.succ_le_succ (kidsC_len us cs)
/-- what a command is, as its turn comes -/
def Good (H : Hp) (r : Addr) (us : List (List Nat)) (cs : List V) (ns : List Str) (x : V) : Prop := ∃ (a : Addr) (nm : Str) (os os' : List Op) (cs1 : List V) (us1 : List (List Nat)), x = .ref a ∧ CmdAt H a nm os cs1 ∧ Nm (cd nm) ∧ OpsOk os ∧ Subs H cs1 us1 os' ∧ us1.Nodup ∧ cs1.length ≤ 6 ∧ ns.length ≤ 1 ∧
  ((ns = [] ∧ a = r ∧ cs1 = cs ∧ us1 = us) ∨ (ns ≠ [] ∧ cs1 = [] ∧ us1 = []))
theorem good_of {H : Hp} {r : Addr} {nm : Str} {os os' : List Op} {cs : List V} {us : List (List Nat)} (hc : CmdAt H r nm os cs) (hn : Nm (cd nm)) (ho : OpsOk os) (hs : Subs H cs us os') (ho' : OpsOk os') (hu : us.Nodup) (h6 : cs.length ≤ 6) :
    ∀ e ∈ allC (.ref r) us cs, Good H r us cs e.1 e.2 := fun e he => by
  rcases List.mem_cons.mp he with rfl | h
  · exact ⟨r, nm, os, os', cs, us, rfl, hc, hn, ho, hs, hu, h6, Nat.zero_le _, .inl ⟨rfl, rfl, rfl, rfl⟩⟩
  · obtain ⟨i, u, e1, e2, e3⟩ := kidsC_mem h
    obtain ⟨c, u', e4, e5, e6, e7⟩ := hs.2 i _ e2
    rw [e1] at e5
    cases e5
    exact ⟨c, S u, os', [], [], [], e4, e7, by rw [cd_S]; exact e6, ho', ⟨rfl, fun i x h => by cases h⟩, List.nodup_nil, by decide, by rw [e3]; exact Nat.le_refl _, .inr ⟨by rw [e3]; exact List.cons_ne_nil _ _, rfl, rfl⟩⟩
theorem r_sdput {td ty tv : TE} {n : L2.St → Hp → Prop} {rt : VK} {bk ct : L2.St → Hp → Prop} {σ : L2.St} {H : Hp} (k : tv σ H fun v H1 => td σ H1 fun x H2 => ty σ H2 fun y H3 => ∃ a H4, x = .ref a ∧ DPut H3 a y v H4 ∧ n σ H4) : sDPut td ty tv ⟨n, rt, bk, ct⟩ σ H := k
theorem Pts.len {H : Hp} : ∀ {zs : List V} {L : List PE2}, Pts H zs L → zs.length = L.length
  | _, _, .nil => rfl
  | _, _, .cons _ _ t => by rw [List.length_cons, List.length_cons, t.len]
theorem kids_drop {us : List (List Nat)} {cs : List V} {i : Nat} {u : List Nat} {x : V} (hu : us[i]? = some u) (hc : cs[i]? = some x) : (kidsC us cs).drop i = ([S u], x) :: (kidsC us cs).drop (i + 1) := by
  have g := kidsC_get hu hc
  obtain ⟨l, e⟩ := List.getElem?_eq_some_iff.mp g
  rw [List.drop_eq_getElem_cons l, e]
end J
namespace J
open PySem PySem.Spec PyProof.Rows L2 M
/-- what the class of grammars is asked for -/
structure GrC (K : PySem.W.Frag) (C : Addr) : Prop where
  cls : Cls K C
  own : NoAttr K C "_own"
  root : NoAttr K C "_root"
  commands : NoAttr K C "_commands"
  words : NoAttr K C "_words"
  nodes : NoAttr K C "_nodes"
/-- a grammar's own parts -/
def grF (t r dc dw : Addr) (n : V) : List (Str × V) := [("_own", .ref t), ("_root", .ref r), ("_commands", .ref dc), ("_words", .ref dw), ("_nodes", n)]
/-- all stays but what stands at g -/
def KeepB (g : Addr) (H H' : Hp) : Prop := ∀ p o, p ≠ g → H p = some o → H' p = some o
theorem KeepB.of {g : Addr} {H H' : Hp} (s : Same H H') : KeepB g H H' := fun p o _ h => s p o h
theorem KeepB.trans {g : Addr} {H H1 H2 : Hp} (a : KeepB g H H1) (b : KeepB g H1 H2) : KeepB g H H2 := fun p o n h => b p o n (a p o n h)
theorem KeepB.upd {g : Addr} {H : Hp} (o : HO) : KeepB g H (upd H g o) := fun p v n h => by rw [upd_ne n]; exact h
theorem KeepB.tup {g : Addr} {H H' : Hp} {C dx : Addr} {fs : List (Str × V)} (k : KeepB g H H') (h : H g = some (.ins C dx fs)) : TupK H H' := fun p xs e => k p _ (fun q => by subst q; rw [h] at e; cases e) e
theorem KeepB.non {g : Addr} {H H' : Hp} {v : HO} (k : KeepB g H H') (hg : H' g = some v) {p : Addr} (h : H' p = none) : H p = none := by
  cases e : H p with
  | none => rfl
  | some o => exact nomatch h.symm.trans (k p o (fun q => by subst q; exact nomatch h.symm.trans hg) e)
def spGram (C : Addr) : Sp := fun vs H Q _ => ∃ (g r dx : Addr) (nm : Str) (os os' : List Op) (cs : List V) (us : List (List Nat)), vs = [.ref g, .ref r, .non] ∧ H g = some (.ins C dx []) ∧ CmdAt H r nm os cs ∧ Nm (cd nm) ∧ OpsOk os ∧ Subs H cs us os' ∧ OpsOk os' ∧ us.Nodup ∧ cs.length ≤ 6 ∧
  ∀ H' t dc dw, KeepB g H H' → H dc = none → H dw = none → dc ≠ dw → H' g = some (.ins C dx (grF t r dc dw .non)) → H' dc = some (.dT ((allC (.ref r) us cs).map keyE)) → H' dw = some (.dK []) → Q .non H'
theorem r_sfl {K : PySem.W.Frag} {σ : L2.St} {H : Hp} {ta tv : TE} {f : Str} {n : L2.St → Hp → Prop} {rt : VK} {bk ct : L2.St → Hp → Prop}
    (k : tv σ H fun y H1 => ta σ H1 fun x H2 => ∃ a C dx fs, x = .ref a ∧ H2 a = some (.ins C dx fs) ∧ Cls K C ∧ NoAttr K C f ∧ fs.length < 1000 ∧ n σ (upd H2 a (.ins C dx (putF f y fs)))) : sFld K ta tv f ⟨n, rt, bk, ct⟩ σ H := k
end J
namespace J
open PySem PySem.Spec PyProof.Rows L2 M
def gFld (K : PySem.W.Frag) (ta : TE) (f : Str) : TG := fun y σ H Q => ta σ H fun x H2 => ∃ a C dx fs, x = .ref a ∧ H2 a = some (.ins C dx fs) ∧ Cls K C ∧ NoAttr K C f ∧ fs.length < 1000 ∧ Q σ (upd H2 a (.ins C dx (putF f y fs)))
theorem pg_fld {X : Cx} {o : Expr} {f : Str} {pos : Pos} {ta : TE} (ho : PE X o ta) : PG X (.Attribute o f pos) (gFld X.K ta f) := by
  refine ⟨fun pins s σ H v u Q I r h => ?_⟩  -- own
  rw [PySem.assign_Attribute]
  refine wpAny_bind (wpAny_holding (thn (ho.run pins s σ H _ I h) fun ov s1 ⟨x, H1, I1, rx, a, C, dx, fs, ex, ea, c, n, l, q⟩ => ?_))
  subst ex
  obtain rfl : ov = Value.ref a := rx
  refine wpAny_bind (wpAny_standAt (wpAny_bind (wpAny_holding (setattr_ok I1 ea c n l r fun s3 I3 => ?_))))
  exact wpAny_release ⟨σ, _, I3, q⟩
theorem asGFld {X : Cx} {K : PySem.W.Frag} {t : Expr} {ta : TE} {f : Str} (eK : X.K = K) (h : PG X t (gFld X.K ta f)) : PG X t (gFld K ta f) := eK ▸ h
theorem r_gfld {K : PySem.W.Frag} {y : V} {σ : L2.St} {H : Hp} {ta : TE} {f : Str} {Q : L2.St → Hp → Prop} (k : ta σ H fun x H2 => ∃ a C dx fs, x = .ref a ∧ H2 a = some (.ins C dx fs) ∧ Cls K C ∧ NoAttr K C f ∧ fs.length < 1000 ∧ Q σ (upd H2 a (.ins C dx (putF f y fs)))) : gFld K ta f y σ H Q := k
/-- the words of one's own of no kind -/
def spOwnW : Sp := fun vs H Q _ => ∃ x : V, vs = [.non, x] ∧ ∀ H' p, Same H H' → H' p = some (.tup []) → Q (.ref p) H'
def spHasNone : Sp := fun vs H Q _ => ∃ x : V, vs = [.non, x] ∧ Q (.bl false) H
/-- all sets of n options, as numbers -/
def allBits (n : Nat) : List (Key × V) := (List.range (2 ^ n)).map fun (i : Nat) => (Sum.inl (i : Int), V.bl true)
def spFitting : Sp := fun vs H Q _ => ∃ (oa ow ga : Addr) (nn : V) (xs ys : List V) (os : List Op), vs = [.ref oa, .ref ow, .ref ga, nn] ∧ H oa = some (.tup xs) ∧ OptsAt H xs os ∧ os.length ≤ 6 ∧ H ow = some (.lst ys) ∧ ys.length = os.length ∧ H ga = some (.tup []) ∧
  ∀ H' d, Same H H' → H d = none → H' d = some (.dK (allBits os.length)) → Q (.ref d) H'
theorem r_lcEn {K : PySem.W.Frag} {ta : TA} {te' : TE} {g : TG} {tt : TT} {vs : List Nat} {σ : L2.St} {H : Hp} {Q : VK} (k : ta σ H fun ws H1 => ∃ a xs, ws = [.ref a] ∧ SqL K H1 a xs ∧ ∀ E, H1 E = none → CompQ (Ite K a) g tt te' vs σ H1 E fun H => Q (.ref E) H) : tLc (iEnum K ta) g tt te' vs σ H Q := k
theorem and_nought (i : Nat) : Builtin.bitAnd (i : Int) 0 = 0 := by
  have h := _root_.Bits.bitAnd_mask (x := (i : Int)) 0 (by omega)
  simpa using h
theorem range_inl (n : Nat) : (((List.range n).filter fun _ => true).map fun (i : Nat) => (0 : Int) + (i : Nat)) = (List.range n).map fun (i : Nat) => (i : Int) := by
  rw [List.filter_eq_self.mpr fun _ _ => rfl]
  exact List.map_congr_left fun i _ => Int.zero_add _
theorem put_bit {n : Nat} : putK ((List.range n).map fun (i : Nat) => ((Sum.inl (i : Int) : Key), V.bl true)) (.inl (n : Int)) (.bl true) = (List.range (n + 1)).map fun (i : Nat) => ((Sum.inl (i : Int) : Key), V.bl true) := by
  rw [putK_new, List.range_succ, List.map_append]
  · rfl
  · refine valV_of fun e he => ?_
    obtain ⟨i, hi, rfl⟩ := List.mem_map.mp he
    have := List.mem_range.mp hi
    intro q
    have := Sum.inl.inj q
    omega
theorem loop_none {K : PySem.W.Frag} {a : Addr} {g : TG} {tb : TS} {n' : L2.St → Hp → Prop} {rt : VK} {bk ct : L2.St → Hp → Prop} {σ : L2.St} {H : Hp} (h : SqT K H a []) (k : n' σ H) : LoopQ (Itt K a) g tb ⟨n', rt, bk, ct⟩ σ H :=
  loop_seq (seqIt_t h) (fun _ σ' H' => σ' = σ ∧ H' = H) (fun _ _ _ ⟨_, e⟩ => by subst e; exact Same.refl _) ⟨rfl, rfl⟩ (fun i x _ _ hx => by cases hx) fun σ1 H1 ⟨e1, e2⟩ => by subst e1 e2; exact k
end J
namespace K16
open PySem PySem.Spec PyProof.Rows L2 J M
def topS (i : Nat) : Stmt := PySem.Challenge.pw_callwords_k16_beginnings_that_read.main.body.getD i (.Pass ⟨0, 0, 0, 0⟩)
abbrev s_is_whole : Stmt := topS 18
abbrev N_is_whole : List Str := ["thing", "low", "high"]
abbrev P_is_whole : List Str := ["thing", "low", "high"]
theorem sc_is_whole : FnScope N_is_whole P_is_whole (defScope s_is_whole) := ⟨rfl, rfl, rfl, by decide +kernel, rfl, by decide +kernel, by decide +kernel⟩
abbrev s_is_name : Stmt := topS 19
abbrev N_is_name : List Str := ["thing"]
abbrev P_is_name : List Str := ["thing"]
theorem sc_is_name : FnScope N_is_name P_is_name (defScope s_is_name) := ⟨rfl, rfl, rfl, by decide +kernel, rfl, by decide +kernel, by decide +kernel⟩
abbrev s_are_unlike : Stmt := topS 26
abbrev N_are_unlike : List Str := ["texts"]
abbrev P_are_unlike : List Str := ["texts"]
theorem sc_are_unlike : FnScope N_are_unlike P_are_unlike (defScope s_are_unlike) := ⟨rfl, rfl, rfl, by decide +kernel, rfl, by decide +kernel, by decide +kernel⟩
abbrev s_fits_form : Stmt := topS 29
abbrev N_fits_form : List Str := ["form", "kind", "default"]
abbrev P_fits_form : List Str := ["form", "kind", "default"]
theorem sc_fits_form : FnScope N_fits_form P_fits_form (defScope s_fits_form) := ⟨rfl, rfl, rfl, by decide +kernel, rfl, by decide +kernel, by decide +kernel⟩
abbrev s_is_path : Stmt := topS 57
abbrev N_is_path : List Str := ["thing", "name"]
abbrev P_is_path : List Str := ["thing"]
theorem sc_is_path : FnScope N_is_path P_is_path (defScope s_is_path) := ⟨rfl, rfl, rfl, by decide +kernel, rfl, by decide +kernel, by decide +kernel⟩
abbrev s_begins_with_name : Stmt := topS 58
abbrev N_begins_with_name : List Str := ["thing"]
abbrev P_begins_with_name : List Str := ["thing"]
theorem sc_begins_with_name : FnScope N_begins_with_name P_begins_with_name (defScope s_begins_with_name) := ⟨rfl, rfl, rfl, by decide +kernel, rfl, by decide +kernel, by decide +kernel⟩
abbrev s_has_command_form : Stmt := topS 59
abbrev N_has_command_form : List Str := ["thing", "_", "options", "places", "groups", "commands", "option", "group"]
abbrev P_has_command_form : List Str := ["thing"]
theorem sc_has_command_form : FnScope N_has_command_form P_has_command_form (defScope s_has_command_form) := ⟨rfl, rfl, rfl, by decide +kernel, rfl, by decide +kernel, by decide +kernel⟩
abbrev s_is_tuple_to : Stmt := topS 60
abbrev N_is_tuple_to : List Str := ["thing", "most"]
abbrev P_is_tuple_to : List Str := ["thing", "most"]
theorem sc_is_tuple_to : FnScope N_is_tuple_to P_is_tuple_to (defScope s_is_tuple_to) := ⟨rfl, rfl, rfl, by decide +kernel, rfl, by decide +kernel, by decide +kernel⟩
abbrev s_has_option_form : Stmt := topS 61
abbrev N_has_option_form : List Str := ["thing", "name", "short", "form", "kind", "default", "need", "source"]
abbrev P_has_option_form : List Str := ["thing"]
theorem sc_has_option_form : FnScope N_has_option_form P_has_option_form (defScope s_has_option_form) := ⟨rfl, rfl, rfl, by decide +kernel, rfl, by decide +kernel, by decide +kernel⟩
abbrev s_are_places : Stmt := topS 62
abbrev N_are_places : List Str := ["things", "thing", "_", "times"]
abbrev P_are_places : List Str := ["things"]
theorem sc_are_places : FnScope N_are_places P_are_places (defScope s_are_places) := ⟨rfl, rfl, rfl, by decide +kernel, rfl, by decide +kernel, by decide +kernel⟩
abbrev s_are_in_order : Stmt := topS 64
abbrev N_are_in_order : List Str := ["times", "ranks", "word"]
abbrev P_are_in_order : List Str := ["times"]
theorem sc_are_in_order : FnScope N_are_in_order P_are_in_order (defScope s_are_in_order) := ⟨rfl, rfl, rfl, by decide +kernel, rfl, by decide +kernel, by decide +kernel⟩
abbrev s_own_name : Stmt := topS 66
abbrev N_own_name : List Str := ["kind"]
abbrev P_own_name : List Str := ["kind"]
theorem sc_own_name : FnScope N_own_name P_own_name (defScope s_own_name) := ⟨rfl, rfl, rfl, by decide +kernel, rfl, by decide +kernel, by decide +kernel⟩
abbrev s_is_table : Stmt := topS 70
abbrev N_is_table : List Str := ["thing", "name"]
abbrev P_is_table : List Str := ["thing"]
theorem sc_is_table : FnScope N_is_table P_is_table (defScope s_is_table) := ⟨rfl, rfl, rfl, by decide +kernel, rfl, by decide +kernel, by decide +kernel⟩
abbrev s_fitted : Stmt := topS 72
abbrev N_fitted : List Str := ["root", "table", "commands", "words", "coming", "path", "thing", "below"]
abbrev P_fitted : List Str := ["root", "table"]
theorem sc_fitted : FnScope N_fitted P_fitted (defScope s_fitted) := ⟨rfl, rfl, rfl, by decide +kernel, rfl, by decide +kernel, by decide +kernel⟩
abbrev s_path_beneath : Stmt := topS 73
abbrev N_path_beneath : List Str := ["path", "thing"]
abbrev P_path_beneath : List Str := ["path", "thing"]
theorem sc_path_beneath : FnScope N_path_beneath P_path_beneath (defScope s_path_beneath) := ⟨rfl, rfl, rfl, by decide +kernel, rfl, by decide +kernel, by decide +kernel⟩
abbrev s_look_at : Stmt := topS 74
abbrev N_look_at : List Str := ["path", "thing", "table", "words", "name", "option"]
abbrev P_look_at : List Str := ["path", "thing", "table", "words"]
theorem sc_look_at : FnScope N_look_at P_look_at (defScope s_look_at) := ⟨rfl, rfl, rfl, by decide +kernel, rfl, by decide +kernel, by decide +kernel⟩
abbrev s_refuse_twice : Stmt := topS 75
abbrev N_refuse_twice : List Str := ["path", "command", "names", "letters", "beneath", "texts", "part", "option", "below", "at", "text"]
abbrev P_refuse_twice : List Str := ["path", "command"]
theorem sc_refuse_twice : FnScope N_refuse_twice P_refuse_twice (defScope s_refuse_twice) := ⟨rfl, rfl, rfl, by decide +kernel, rfl, by decide +kernel, by decide +kernel⟩
abbrev s_own_names : Stmt := topS 76
abbrev N_own_names : List Str := ["command", "kinds", "kind", "_"]
abbrev P_own_names : List Str := ["command"]
theorem sc_own_names : FnScope N_own_names P_own_names (defScope s_own_names) := ⟨rfl, rfl, rfl, by decide +kernel, rfl, by decide +kernel, by decide +kernel⟩
abbrev s_has_default : Stmt := topS 77
abbrev N_has_default : List Str := ["option", "words", "_", "form", "kind", "default", "worths", "worth"]
abbrev P_has_default : List Str := ["option", "words"]
theorem sc_has_default : FnScope N_has_default P_has_default (defScope s_has_default) := ⟨rfl, rfl, rfl, by decide +kernel, rfl, by decide +kernel, by decide +kernel⟩
abbrev s_refuse_group : Stmt := topS 78
abbrev N_refuse_group : List Str := ["path", "command", "options", "group", "option", "name"]
abbrev P_refuse_group : List Str := ["path", "command"]
theorem sc_refuse_group : FnScope N_refuse_group P_refuse_group (defScope s_refuse_group) := ⟨rfl, rfl, rfl, by decide +kernel, rfl, by decide +kernel, by decide +kernel⟩
abbrev s_refuse_deep : Stmt := topS 79
abbrev N_refuse_deep : List Str := ["commands", "path"]
abbrev P_refuse_deep : List Str := ["commands"]
theorem sc_refuse_deep : FnScope N_refuse_deep P_refuse_deep (defScope s_refuse_deep) := ⟨rfl, rfl, rfl, by decide +kernel, rfl, by decide +kernel, by decide +kernel⟩
abbrev s_Node_init : Stmt := inClass (topS 81) 0
abbrev N_Node_init : List Str := ["self", "path", "command", "words", "beneath", "number", "option", "part", "place", "_", "times", "node"]
abbrev P_Node_init : List Str := ["self", "path", "command", "words", "beneath"]
theorem sc_Node_init : FnScope N_Node_init P_Node_init (defScope s_Node_init) := ⟨rfl, rfl, rfl, by decide +kernel, rfl, by decide +kernel, by decide +kernel⟩
abbrev s_Node_has_worths : Stmt := inClass (topS 81) 1
abbrev N_Node_has_worths : List Str := ["self", "place", "own"]
abbrev P_Node_has_worths : List Str := ["self"]
theorem sc_Node_has_worths : FnScope N_Node_has_worths P_Node_has_worths (defScope s_Node_has_worths) := ⟨rfl, rfl, rfl, by decide +kernel, rfl, by decide +kernel, by decide +kernel⟩
abbrev s_Node_texts : Stmt := inClass (topS 81) 4
abbrev N_Node_texts : List Str := ["self", "flags", "commands", "options", "option", "text"]
abbrev P_Node_texts : List Str := ["self"]
theorem sc_Node_texts : FnScope N_Node_texts P_Node_texts (defScope s_Node_texts) := ⟨rfl, rfl, rfl, by decide +kernel, rfl, by decide +kernel, by decide +kernel⟩
abbrev s_own_words : Stmt := topS 82
abbrev N_own_words : List Str := ["kind", "words", "name"]
abbrev P_own_words : List Str := ["kind", "words"]
theorem sc_own_words : FnScope N_own_words P_own_words (defScope s_own_words) := ⟨rfl, rfl, rfl, by decide +kernel, rfl, by decide +kernel, by decide +kernel⟩
abbrev s_fitting : Stmt := topS 83
abbrev N_fitting : List Str := ["options", "owns", "groups", "numbers", "dead", "found", "word", "names", "grouped", "first", "bits", "number", "own", "name"]
abbrev P_fitting : List Str := ["options", "owns", "groups", "numbers"]
theorem sc_fitting : FnScope N_fitting P_fitting (defScope s_fitting) := ⟨rfl, rfl, rfl, by decide +kernel, rfl, by decide +kernel, by decide +kernel⟩
abbrev s_has_none : Stmt := topS 84
abbrev N_has_none : List Str := ["kind", "own"]
abbrev P_has_none : List Str := ["kind", "own"]
theorem sc_has_none : FnScope N_has_none P_has_none (defScope s_has_none) := ⟨rfl, rfl, rfl, by decide +kernel, rfl, by decide +kernel, by decide +kernel⟩
abbrev s_beginnings_of : Stmt := topS 86
abbrev N_beginnings_of : List Str := ["names", "owners", "name", "end", "text"]
abbrev P_beginnings_of : List Str := ["names"]
theorem sc_beginnings_of : FnScope N_beginnings_of P_beginnings_of (defScope s_beginnings_of) := ⟨rfl, rfl, rfl, by decide +kernel, rfl, by decide +kernel, by decide +kernel⟩
abbrev s_nodes_of : Stmt := topS 87
abbrev N_nodes_of : List Str := ["commands", "words", "found", "path", "beneath", "below"]
abbrev P_nodes_of : List Str := ["commands", "words"]
theorem sc_nodes_of : FnScope N_nodes_of P_nodes_of (defScope s_nodes_of) := ⟨rfl, rfl, rfl, by decide +kernel, rfl, by decide +kernel, by decide +kernel⟩
abbrev s_Grammar_init : Stmt := inClass (topS 89) 0
abbrev N_Grammar_init : List Str := ["self", "root", "own", "table", "commands", "words", "name"]
abbrev P_Grammar_init : List Str := ["self", "root", "own"]
theorem sc_Grammar_init : FnScope N_Grammar_init P_Grammar_init (defScope s_Grammar_init) := ⟨rfl, rfl, rfl, by decide +kernel, rfl, by decide +kernel, by decide +kernel⟩
abbrev s_Grammar_is_there : Stmt := inClass (topS 89) 3
abbrev N_Grammar_is_there : List Str := ["self", "path"]
abbrev P_Grammar_is_there : List Str := ["self", "path"]
theorem sc_Grammar_is_there : FnScope N_Grammar_is_there P_Grammar_is_there (defScope s_Grammar_is_there) := ⟨rfl, rfl, rfl, by decide +kernel, rfl, by decide +kernel, by decide +kernel⟩
abbrev s_Grammar_command : Stmt := inClass (topS 89) 4
abbrev N_Grammar_command : List Str := ["self", "path"]
abbrev P_Grammar_command : List Str := ["self", "path"]
theorem sc_Grammar_command : FnScope N_Grammar_command P_Grammar_command (defScope s_Grammar_command) := ⟨rfl, rfl, rfl, by decide +kernel, rfl, by decide +kernel, by decide +kernel⟩
abbrev s_Grammar_node_of : Stmt := inClass (topS 89) 11
abbrev N_Grammar_node_of : List Str := ["self", "path"]
abbrev P_Grammar_node_of : List Str := ["self", "path"]
theorem sc_Grammar_node_of : FnScope N_Grammar_node_of P_Grammar_node_of (defScope s_Grammar_node_of) := ⟨rfl, rfl, rfl, by decide +kernel, rfl, by decide +kernel, by decide +kernel⟩
abbrev s_command_at : Stmt := topS 91
abbrev N_command_at : List Str := ["grammar", "path"]
abbrev P_command_at : List Str := ["grammar", "path"]
theorem sc_command_at : FnScope N_command_at P_command_at (defScope s_command_at) := ⟨rfl, rfl, rfl, by decide +kernel, rfl, by decide +kernel, by decide +kernel⟩
abbrev s_node_at : Stmt := topS 92
abbrev N_node_at : List Str := ["grammar", "path"]
abbrev P_node_at : List Str := ["grammar", "path"]
theorem sc_node_at : FnScope N_node_at P_node_at (defScope s_node_at) := ⟨rfl, rfl, rfl, by decide +kernel, rfl, by decide +kernel, by decide +kernel⟩
abbrev s_command_words : Stmt := topS 93
abbrev N_command_words : List Str := ["grammar", "path", "_", "commands", "text"]
abbrev P_command_words : List Str := ["grammar", "path"]
theorem sc_command_words : FnScope N_command_words P_command_words (defScope s_command_words) := ⟨rfl, rfl, rfl, by decide +kernel, rfl, by decide +kernel, by decide +kernel⟩
abbrev s_option_words : Stmt := topS 94
abbrev N_option_words : List Str := ["grammar", "path", "node"]
abbrev P_option_words : List Str := ["grammar", "path"]
theorem sc_option_words : FnScope N_option_words P_option_words (defScope s_option_words) := ⟨rfl, rfl, rfl, by decide +kernel, rfl, by decide +kernel, by decide +kernel⟩
abbrev s_flag_words : Stmt := topS 95
abbrev N_flag_words : List Str := ["grammar", "path", "node"]
abbrev P_flag_words : List Str := ["grammar", "path"]
theorem sc_flag_words : FnScope N_flag_words P_flag_words (defScope s_flag_words) := ⟨rfl, rfl, rfl, by decide +kernel, rfl, by decide +kernel, by decide +kernel⟩
abbrev s_named_texts : Stmt := topS 96
abbrev N_named_texts : List Str := ["node", "texts", "text"]
abbrev P_named_texts : List Str := ["node", "texts"]
theorem sc_named_texts : FnScope N_named_texts P_named_texts (defScope s_named_texts) := ⟨rfl, rfl, rfl, by decide +kernel, rfl, by decide +kernel, by decide +kernel⟩
abbrev s_law_cell : Stmt := topS 100
abbrev N_law_cell : List Str := ["_law_script", "_law_k"]
abbrev P_law_cell : List Str := ["_law_script", "_law_k"]
theorem sc_law_cell : FnScope N_law_cell P_law_cell (defScope s_law_cell) := ⟨rfl, rfl, rfl, by decide +kernel, rfl, by decide +kernel, by decide +kernel⟩
abbrev s_law_box : Stmt := topS 101
abbrev N_law_box : List Str := ["_law_cell_here"]
abbrev P_law_box : List Str := ["_law_cell_here"]
theorem sc_law_box : FnScope N_law_box P_law_box (defScope s_law_box) := ⟨rfl, rfl, rfl, by decide +kernel, rfl, by decide +kernel, by decide +kernel⟩
abbrev s_law_take : Stmt := topS 102
abbrev N_law_take : List Str := ["_law_box_here", "_law_many", "_law_digit", "_law_number"]
abbrev P_law_take : List Str := ["_law_box_here", "_law_many"]
theorem sc_law_take : FnScope N_law_take P_law_take (defScope s_law_take) := ⟨rfl, rfl, rfl, by decide +kernel, rfl, by decide +kernel, by decide +kernel⟩
abbrev s_law_names : Stmt := topS 103
abbrev N_law_names : List Str := ["_law_box_here", "_law_many", "_law_size", "_law_letters", "_law_k", "_law_stem", "_law_first", "_law_way", "_law_found", "_law_sign", "_law_some", "_law_name", "_law_other"]
abbrev P_law_names : List Str := ["_law_box_here", "_law_many", "_law_size"]
theorem sc_law_names : FnScope N_law_names P_law_names (defScope s_law_names) := ⟨rfl, rfl, rfl, by decide +kernel, rfl, by decide +kernel, by decide +kernel⟩
abbrev s_law_due : Stmt := topS 114
abbrev N_law_due : List Str := ["_law_names_here", "_law_found", "_law_name", "_law_many", "_law_text", "_law_some", "_law_one"]
abbrev P_law_due : List Str := ["_law_names_here"]
theorem sc_law_due : FnScope N_law_due P_law_due (defScope s_law_due) := ⟨rfl, rfl, rfl, by decide +kernel, rfl, by decide +kernel, by decide +kernel⟩
abbrev s_law_caught : Stmt := topS 115
abbrev N_law_caught : List Str := ["_law_way", "_law_grammar", "_law_path", "e"]
abbrev P_law_caught : List Str := ["_law_way", "_law_grammar", "_law_path"]
theorem sc_law_caught : FnScope N_law_caught P_law_caught (defScope s_law_caught) := ⟨rfl, rfl, rfl, by decide +kernel, rfl, by decide +kernel, by decide +kernel⟩
abbrev s_law : Stmt := topS 116
abbrev N_law : List Str := ["_law_script", "_law_k", "_law_box_here", "_law_names_here", "_law_options", "_law_name", "_law_under", "_law_commands", "_law_grammar", "_law_one", "_law_dues", "_law_turn", "_law_told", "_law_none", "_law_odd", "_law_way", "_law_found", "_law_some"]
abbrev P_law : List Str := ["_law_script"]
theorem sc_law : FnScope N_law P_law (defScope s_law) := ⟨rfl, rfl, rfl, by decide +kernel, rfl, by decide +kernel, by decide +kernel⟩
local macro_rules | `(tactic| walk_at "hp") => `(tactic| first | assumption | exact upd_same | (rw [upd_ne (by assumption)]; walk_at "hp") | (rw [upd_ne (Ne.symm (by assumption))]; walk_at "hp"))
local macro_rules | `(tactic| walk_at "s") => `(tactic| first
  | ((with_reducible refine' r_var ?h ?k); (case h => exact rfl))
  | (with_reducible refine r_c ?_)
  | (with_reducible refine r_op ?_)
  | (with_reducible refine r_un ?_)
  | (with_reducible refine r_seq ?_)
  | (with_reducible refine r_next ?_)
  | (with_reducible refine r_sets ?_)
  | (with_reducible refine r_gname ?_)
  | (with_reducible refine r_ifS ?_)
  | (with_reducible refine r_gsub ?_)
  | (with_reducible refine r_test ?_)
  | (with_reducible refine r_tb ?_)
  | (with_reducible refine r_not ?_)
  | (with_reducible refine r_and ?_)
  | (with_reducible refine r_or ?_)
  | (with_reducible refine r_andV ?_)
  | (with_reducible refine r_orV ?_)
  | (with_reducible refine r_notV ?_)
  | (with_reducible refine r_ifE ?_)
  | (with_reducible refine r_chain ?_)
  | (with_reducible refine r_cb ?_)
  | (with_reducible refine r_cons ?_)
  | (with_reducible refine r_nil ?_)
  | (with_reducible refine r_call ?_)
  | (with_reducible refine r_lst ?_)
  | (with_reducible refine r_tup ?_)
  | (with_reducible refine r_slice ?_)
  | (with_reducible refine r_nop ?_)
  | (with_reducible refine r_part ?_)
  | (with_reducible refine r_bm ?_)
  | (with_reducible refine r_m1 ?_)
  | (with_reducible refine r_m0 ?_)
  | (with_reducible refine r_is ?_)
  | (with_reducible refine r_maxD ?_)
  | (with_reducible refine r_orT ?_)
  | (with_reducible refine r_truN ?_)
  | (with_reducible refine r_intI ?_)
  | (with_reducible refine r_intB ?_)
  | (with_reducible refine r_max2 ?_)
  | (with_reducible refine r_min2 ?_)
  | (with_reducible refine r_yes ?_)
  | (with_reducible refine r_bl ?_)
  | (with_reducible refine iteT ?_)
  | (with_reducible refine iteF ?_)
  | (with_reducible refine r_iteNT ?_)
  | (with_reducible refine r_iteNF ?_)
  | (with_reducible refine r_minL ?_)
  | (with_reducible refine r_gcons ?_)
  | (with_reducible refine r_gnil ?_)
  | (with_reducible refine r_par ?_)
  | (with_reducible refine r_par3 ?_)
  | (with_reducible refine r_is2 ?_)
  | (with_reducible refine r_is3 ?_)
  | (with_reducible refine r_dget ?_)
  | (with_reducible refine r_callS ?_)
  | (with_reducible refine r_rz ?_)
  | (with_reducible refine r_rev ?_)
  | (with_reducible refine r_isI ?_)
  | (with_reducible refine r_isStr ?_)
  | (with_reducible refine r_ret ?_)
  | (with_reducible refine r_drop ?_)
  | (with_reducible refine r_rI0 ?_)
  | (with_reducible refine r_addI ?_)
  | ((with_reducible show rI (fun _ j => 0 < j) _ (.int _) (.int _) _ _); refine r_rI (by first | omega | decide) ?_)
  | ((with_reducible show rI CDiv _ (.int _) (.int _) _ _); refine r_rI (by constructor <;> omega) ?_)
  | ((with_reducible show rI CPow _ (.int _) (.int _) _ _); refine r_rI (by refine ⟨by decide, by decide, ?_⟩; omega) ?_)
  | ((with_reducible show rMul (.int _) (.int _) _ _); refine r_mulI (cmulW (by omega) (by omega)) ?_)
  | (with_reducible refine r_cmpI ?_)
  | (with_reducible refine r_cmpS ?_)
  | (with_reducible refine r_eqI ?_)
  | (with_reducible refine r_neI ?_)
  | (with_reducible refine r_eqS ?_)
  | (with_reducible refine r_neS ?_)
  | (with_reducible refine r_inSF ?_)
  | (with_reducible refine r_inST ?_)
  | (with_reducible refine r_isiStr ?_)
  | ((with_reducible show rIx _ (.ref _) (.int _) _ _); refine' r_ixL (SqL.of ?h) ?e ?_; (case h => walk_at "hp"); (case e => rfl))
  | ((with_reducible show rSetL (.ref _) (.int _) _ _ _); refine' r_setL ?h ?e ?_; (case h => walk_at "hp"); (case e => rfl)))
local macro_rules | `(tactic| walk_at "g") => `(tactic| repeat walk_at "s")
local macro_rules | `(tactic| walk_at "x") => `(tactic| first | omega | decide +kernel | (simp only [List.length_cons, List.length_nil]; omega))
local macro_rules | `(tactic| walk_at "T1") => `(tactic| (first
  | walk_at "s"
  | ((with_reducible show rIx _ (.ref _) (.int _) _ _); refine' r_ixTu (SqT.of ?h) ?e ?_; (case h => first | assumption | walk_at "hp"); (case e => rfl))
  | (with_reducible refine r_lenSet ?_)
  | (with_reducible refine r_asg2 ?_)
  | (with_reducible refine iteDT (by walk_at "x") ?_)
  | (with_reducible refine iteDF (by walk_at "x") ?_)
  | (with_reducible refine iteNT (by walk_at "x") ?_)
  | (with_reducible refine iteNF (by walk_at "x") ?_)))
local macro_rules | `(tactic| walk_at "T") => `(tactic| repeat (first
  | walk_at "s"
  | ((with_reducible show rIx _ (.ref _) (.int _) _ _); refine' r_ixTu (SqT.of ?h) ?e ?_; (case h => first | assumption | walk_at "hp"); (case e => rfl))
  | (with_reducible refine r_lenSet ?_)
  | (with_reducible refine r_asg2 ?_)
  | (with_reducible refine iteDT (by walk_at "x") ?_)
  | (with_reducible refine iteDF (by walk_at "x") ?_)
  | (with_reducible refine iteNT (by walk_at "x") ?_)
  | (with_reducible refine iteNF (by walk_at "x") ?_)))
local macro_rules | `(tactic| walk_at "g") => `(tactic| repeat (first | walk_at "T1" | (with_reducible refine r_fld ?_) | (with_reducible refine r_sfl ?_) | (with_reducible refine r_ifT ?_) | (with_reducible refine r_nn ?_)))
structure Tx (K : PySem.W.Frag) (mg : Str → Option Value) : Prop where
  z_len : mg "len" = none
  z_isinstance : mg "isinstance" = none
  z_str : mg "str" = none
  z_int : mg "int" = none
  z_bool : mg "bool" = none
  z_min : mg "min" = none
  z_max : mg "max" = none
  z_range : mg "range" = none
  z_repr : mg "repr" = none
  z_list : mg "list" = none
  z_tuple : mg "tuple" = none
  z_set : mg "set" = none
  z_all : mg "all" = none
  z_any : mg "any" = none
  z_sum : mg "sum" = none
  z_sorted : mg "sorted" = none
  z_dict : mg "dict" = none
  z_enumerate : mg "enumerate" = none
  z_zip : mg "zip" = none
  z_reversed : mg "reversed" = none
  c_MOST_LETTERS : ∃ t, mg "MOST_LETTERS" = some (.int 8 t)
  c_MOST_COUNT : ∃ t, mg "MOST_COUNT" = some (.int 9 t)
  c_NAME : ∃ t, mg "NAME" = some (.int 0 t)
  c_OPTIONS : ∃ t, mg "OPTIONS" = some (.int 1 t)
  c_PLACES : ∃ t, mg "PLACES" = some (.int 2 t)
  c_GROUPS : ∃ t, mg "GROUPS" = some (.int 3 t)
  c_COMMANDS : ∃ t, mg "COMMANDS" = some (.int 4 t)
  c_SHORT : ∃ t, mg "SHORT" = some (.int 1 t)
  c_FORM : ∃ t, mg "FORM" = some (.int 2 t)
  c_KIND : ∃ t, mg "KIND" = some (.int 3 t)
  c_COMMAND_PARTS : ∃ t, mg "COMMAND_PARTS" = some (.int 5 t)
  c_OPTION_PARTS : ∃ t, mg "OPTION_PARTS" = some (.int 7 t)
  c_LAST_RANK : ∃ t, mg "LAST_RANK" = some (.int 2 t)
  c_LEAST_OPTION_LETTERS : ∃ t, mg "LEAST_OPTION_LETTERS" = some (.int 2 t)
  c_MOST_OPTIONS : ∃ t, mg "MOST_OPTIONS" = some (.int 6 t)
  c_MOST_PLACES : ∃ t, mg "MOST_PLACES" = some (.int 4 t)
  c_MOST_GROUPS : ∃ t, mg "MOST_GROUPS" = some (.int 4 t)
  c_MOST_BENEATH : ∃ t, mg "MOST_BENEATH" = some (.int 6 t)
  c_MOST_LEVELS : ∃ t, mg "MOST_LEVELS" = some (.int 2 t)
  c_MOST_COMMANDS : ∃ t, mg "MOST_COMMANDS" = some (.int 12 t)
  c_FORMS : ∃ a, mg "FORMS" = some (.ref a) ∧ ∀ H, SqT K H a [.str "flag", .str "count", .str "one", .str "many"]
  c_NEEDED : ∃ a, mg "NEEDED" = some (.ref a) ∧ ∀ H, SqT K H a [.str "one", .str "some"]
  c_WITH_KIND : ∃ a, mg "WITH_KIND" = some (.ref a) ∧ ∀ H, SqT K H a [.str "one", .str "many"]
section
variable {P : Program} {w : World} {K : PySem.W.Frag} {mg : Str → Option Value} {base : Heap}
theorem ok_is_whole (T : Tx K mg) {f : Addr} {fd : FuncData} (F : Fun K "is_whole" "is_whole" s_is_whole f fd) : FnOk P w K mg base CX0 1 f fd P_is_whole (spWholeT K) := by
  refine F.ok sc_is_whole (fun vs H Q E h => ?_) (fun cdv A outer s H vs Q E hr h => ?_)
  · obtain ⟨x, d, lo, hi, rfl, _⟩ := h
    rfl
  · obtain ⟨x, d, lo, hi, rfl, hx, k⟩ := h
    refine ⟨_, (pss_one (ps_ret (pe_and (pe_callB (L2.call_isi : CallR _ _ (rIsi K)) (by rfl) T.z_isinstance (by decide +kernel) (pa_cons (pv 0) (pa_cons (pe_bltn (v := .ty "int") (u := .type "int") rfl T.z_int (by decide +kernel) rfl) pa_nil))) (pe_and (pe_not (pe_callB (L2.call_isi : CallR _ _ (rIsi K)) (by rfl) T.z_isinstance (by decide +kernel) (pa_cons (pv 0) (pa_cons (pe_bltn (v := .ty "bool") (u := .type "bool") rfl T.z_bool (by decide +kernel) rfl) pa_nil)))) (pe_one (pe_chain op_leA op_leA (pv 1) (pv 0) (pv 2))))))), ?_⟩
    walk_at "T"
    refine hx.isI ?_
    cases hx with
    | int i h =>
      refine ⟨_, rfl, iteT ?_⟩
      walk_at "T"
      refine (Tg.int i h).isB ?_
      refine ⟨_, rfl, ?_⟩
      refine ⟨_, rfl, iteT ?_⟩
      walk_at "T"
      refine r_iteD (fun c => ?_) fun c => ?_
      · have : whD lo hi (.int i) = decide (i ≤ hi) := by show (decide _ && decide _) = _; rw [decide_eq_true c, Bool.true_and]
        rw [this] at k
        walk_at "T"
        exact k
      · have : whD lo hi (.int i) = false := by show (decide _ && decide _) = _; rw [decide_eq_false c, Bool.false_and]
        rw [this] at k
        exact k
    | bl b =>
      refine ⟨_, rfl, iteT ?_⟩
      walk_at "T"
      refine (Tg.bl b).isB ?_
      refine ⟨_, rfl, ?_⟩
      refine ⟨_, rfl, iteF ?_⟩
      exact k
    | str z h c => exact ⟨_, rfl, iteF k⟩
    | non => exact ⟨_, rfl, iteF k⟩
    | lst h => exact ⟨_, rfl, iteF k⟩
    | tup h hl hz => exact ⟨_, rfl, iteF k⟩
theorem ok_is_name (T : Tx K mg) {f : Addr} {fd : FuncData} (F : Fun K "is_name" "is_name" s_is_name f fd) : FnOk P w K mg base CX0 1 f fd P_is_name (spNameT K) := by
  refine F.ok sc_is_name (fun vs H Q E h => ?_) (fun cdv A outer s H vs Q E hr h => ?_)
  · obtain ⟨x, d, rfl, _⟩ := h
    rfl
  · obtain ⟨x, d, rfl, hx, k⟩ := h
    refine ⟨_, (pss_cons (ps_if (PW.pt (pw_or (pt_not (pt_val (pe_callB (L2.call_isi : CallR _ _ (rIsi K)) (by rfl) T.z_isinstance (by decide +kernel) (pa_cons (pv 0) (pa_cons (pe_bltn (v := .ty "str") (u := .type "str") rfl T.z_str (by decide +kernel) rfl) pa_nil))))) (pw_or1 (pt_not (pt_chain op_leA op_leA pe_int (pe_callB (call_lenA : CallR _ _ (J.rLen K)) (by rfl) T.z_len (by decide +kernel) (pa_cons (pv 0) pa_nil)) (pe_gI T.c_MOST_LETTERS rfl)))))) (pss_one (ps_ret pe_bl)) pss_nil) (pss_one (ps_ret (pe_and (pe_m0 PySem.F.slot_str_isascii PySem.F.type_str_isascii mA_isascii (pv 0)) (pe_and (pe_m0 PySem.F.slot_str_isalpha PySem.F.type_str_isalpha mA_isalpha (pv 0)) (pe_one (pe_m0 PySem.F.slot_str_islower PySem.F.type_str_islower mA_islower (pv 0)))))))), ?_⟩
    walk_at "T"
    refine hx.isS ?_
    cases hx with
    | non =>
      rw [show isSD PyData.none = false from rfl]
      walk_at "T"
      exact k
    | int i h =>
      rw [show isSD (PyData.int i) = false from rfl]
      walk_at "T"
      exact k
    | bl b =>
      rw [show isSD (PyData.bool b) = false from rfl]
      walk_at "T"
      exact k
    | lst h =>
      rw [show isSD (PyData.list [PyData.int 1]) = false from rfl]
      walk_at "T"
      exact k
    | @tup _ zs h hl hz =>
      rw [show isSD (PyData.tuple (zs.map dW)) = false from rfl]
      walk_at "T"
      exact k
    | str z hz c126 =>
    have hz' : z.length ≤ sizeLine := Nat.le_trans hz (by decide)
    have k : Q (.bl (isNm (cd z))) H := k
    unfold isNm at k
    have e := len_cd z
    rw [show isSD (PyData.str z) = true from rfl]
    walk_at "T"
    refine r_len hz' ?_
    walk_at "T"
    refine r_iteD (fun c => ?_) fun c => ?_
    · walk_at "T"
      rw [decide_eq_true (show 1 ≤ (cd z).length by omega), Bool.true_and] at k
      refine r_iteN (fun c2 => ?_) fun c2 => ?_
      · walk_at "T"
        rw [decide_eq_false (show ¬ (cd z).length ≤ 8 by omega), Bool.false_and] at k
        exact k
      · walk_at "T"
        rw [decide_eq_true (show (cd z).length ≤ 8 by omega), Bool.true_and, ← small_letters z (by omega)] at k
        refine r_ite (fun e1 => ?_) fun e1 => ?_
        · rw [e1, Bool.true_and] at k
          walk_at "T"
          refine r_ite (fun e2 => ?_) fun e2 => ?_
          · rw [e2, Bool.true_and] at k
            walk_at "T"
            exact k
          · rw [e2, Bool.false_and] at k
            exact k
        · rw [e1, Bool.false_and] at k
          exact k
    · walk_at "T"
      rw [decide_eq_false (show ¬ 1 ≤ (cd z).length by omega), Bool.false_and] at k
      exact k
theorem ok_are_unlike (T : Tx K mg) {f : Addr} {fd : FuncData} (F : Fun K "are_unlike" "are_unlike" s_are_unlike f fd) : FnOk P w K mg base CX0 1 f fd P_are_unlike (spUnlike K) := by
  refine F.ok sc_are_unlike (fun vs H Q E h => ?_) (fun cdv A outer s H vs Q E hr h => ?_)
  · obtain ⟨a, ls, rfl, _⟩ := h
    rfl
  · obtain ⟨a, ls, rfl, ha, hl, k⟩ := h
    refine ⟨_, (pss_one (ps_ret (pe_cmpR ((op_eqA hr.units) : OpR _ _ (rEqA K)) (asLenSet (K := K) rfl (pe_lenSetT rfl rfl T.z_len rfl T.z_set (pv 0))) (pe_callB (call_lenA : CallR _ _ (J.rLen K)) (by rfl) T.z_len (by decide +kernel) (pa_cons (pv 0) pa_nil)) (nomark _)))), ?_⟩
    have e : ls.map wV = (ls.map S).map V.str := by rw [List.map_map]; rfl
    walk_at "T"
    refine ⟨a, ls.map S, rfl, by rw [← e]; exact ha, by rw [List.length_map]; omega, ?_⟩
    walk_at "T"
    refine r_len2 ha ?_
    walk_at "T"
    have q : (uq (ls.map S)).length = (ls.map S).length ↔ ls.Nodup := (uq_eq _).trans ⟨fun h => (List.pairwise_map.mp h).imp fun n e => n (congrArg S e), fun h => List.pairwise_map.mpr (h.imp fun {a b} n e => n (by rw [← cd_S a, ← cd_S b, e]))⟩
    rw [List.length_map] at q
    rw [List.length_map, show (decide (((uq (ls.map S)).length : Nat) = ((ls.length : Nat) : Int))) = decide ls.Nodup from decide_eq_decide.mpr (by rw [← q]; omega)]
    exact k
theorem ok_begins (T : Tx K mg) {f f_is_name : Addr} {fd fd_is_name : FuncData} (F : Fun K "begins_with_name" "begins_with_name" s_begins_with_name f fd)
    (D_is_name : DAt K mg "is_name" s_is_name P_is_name f_is_name fd_is_name) : FnOk P w K mg base CX0 2 f fd P_begins_with_name spNamed := by
  have G_is_name : FnOk P w K mg base CX0 1 f_is_name fd_is_name P_is_name (spNameT K) := ok_is_name T D_is_name.fn
  refine F.ok sc_begins_with_name (fun vs H Q E h => ?_) (fun cdv A outer s H vs Q E hr h => ?_)
  · obtain ⟨a, z, xs, rfl, _⟩ := h
    rfl
  · obtain ⟨a, z, xs, rfl, ha, hz, k⟩ := h
    refine ⟨_, (pss_one (ps_ret (pe_and (pe_callB (L2.call_isi : CallR _ _ (rIsi K)) (by rfl) T.z_isinstance (by decide +kernel) (pa_cons (pv 0) (pa_cons (pe_bltn (v := .ty "tuple") (u := .type "tuple") rfl T.z_tuple (by decide +kernel) rfl) pa_nil))) (pe_and (pe_cmpR op_gtA (pe_callB (call_lenA : CallR _ _ (J.rLen K)) (by rfl) T.z_len (by decide +kernel) (pa_cons (pv 0) pa_nil)) pe_int (nomark _)) (pe_one (pe_call G_is_name (hr.mono (by decide)) rfl D_is_name.gl D_is_name.fn.kp D_is_name.bd .nil pass0 (pa_cons (pe_ix (ix_seq : IxR _ (rIx K)) (pv 0) (pe_gI T.c_NAME rfl) (fun _ _ => rfl)) pa_nil))))))), ?_⟩
    walk_at "g"
    refine r_isiB (.base (.tup ha)) (show kitB "tuple" "tuple" = some true by decide +kernel) ?_
    walk_at "T"
    refine r_lenT (SqT.of ha) ?_
    walk_at "T"
    obtain ⟨t, ht⟩ := T.c_NAME
    refine r_ixTu (SqT.of ha) (atI_nat (j := 0) rfl) ?_
    refine ⟨_, _, rfl, .str z (by rw [len_cd]; have := hz.2.1; omega) (fun c hc => by have := hz.2.2 c hc; omega), ?_⟩
    rw [show nmD (.str z) = true from isNm_iff.mpr hz]
    exact k
theorem ok_tup_to (T : Tx K mg) {f : Addr} {fd : FuncData} (F : Fun K "_is_tuple_to" "_is_tuple_to" s_is_tuple_to f fd) : FnOk P w K mg base CX0 1 f fd P_is_tuple_to spTupTo := by
  refine F.ok sc_is_tuple_to (fun vs H Q E h => ?_) (fun cdv A outer s H vs Q E hr h => ?_)
  · obtain ⟨a, xs, n, rfl, _⟩ := h
    rfl
  · obtain ⟨a, xs, n, rfl, ha, hn, k⟩ := h
    refine ⟨_, (pss_one (ps_ret (pe_and (pe_callB (L2.call_isi : CallR _ _ (rIsi K)) (by rfl) T.z_isinstance (by decide +kernel) (pa_cons (pv 0) (pa_cons (pe_bltn (v := .ty "tuple") (u := .type "tuple") rfl T.z_tuple (by decide +kernel) rfl) pa_nil))) (pe_one (pe_cmpR op_leA (pe_callB (call_lenA : CallR _ _ (J.rLen K)) (by rfl) T.z_len (by decide +kernel) (pa_cons (pv 0) pa_nil)) (pv 1) (nomark _)))))), ?_⟩
    walk_at "g"
    refine r_isiB (.base (.tup ha)) (show kitB "tuple" "tuple" = some true by decide +kernel) ?_
    walk_at "T"
    refine r_lenT (SqT.of ha) ?_
    walk_at "T"
    rw [decide_eq_true hn]
    exact k
theorem ok_opt_form (T : Tx K mg) {f f_is_name : Addr} {fd fd_is_name : FuncData} (F : Fun K "has_option_form" "has_option_form" s_has_option_form f fd)
    (D_is_name : DAt K mg "is_name" s_is_name P_is_name f_is_name fd_is_name) : FnOk P w K mg base CX0 2 f fd P_has_option_form spOptForm := by
  have G_is_name : FnOk P w K mg base CX0 1 f_is_name fd_is_name P_is_name (spNameT K) := ok_is_name T D_is_name.fn
  refine F.ok sc_has_option_form (fun vs H Q E h => ?_) (fun cdv A outer s H vs Q E hr h => ?_)
  · obtain ⟨a, o, rfl, _⟩ := h
    rfl
  · obtain ⟨a, o, rfl, ha, hz, h2, k⟩ := h
    have ha : H a = some (.tup [.str (S o.1), .non, .str (fmS o.2), .non, .int 0, .bl false, .non]) := ha
    obtain ⟨qf, hq_FORMS, sf⟩ := T.c_FORMS
    obtain ⟨qw, hq_WITH_KIND, sw⟩ := T.c_WITH_KIND
    refine ⟨_, (pss_cons (ps_if (PW.pt (pw_or (pt_not (pt_val (pe_callB (L2.call_isi : CallR _ _ (rIsi K)) (by rfl) T.z_isinstance (by decide +kernel) (pa_cons (pv 0) (pa_cons (pe_bltn (v := .ty "tuple") (u := .type "tuple") rfl T.z_tuple (by decide +kernel) rfl) pa_nil))))) (pw_or1 (pt_cmpR ((op_neA hr.units) : OpR _ _ (rNeA K)) (pe_callB (call_lenA : CallR _ _ (J.rLen K)) (by rfl) T.z_len (by decide +kernel) (pa_cons (pv 0) pa_nil)) (pe_gI T.c_OPTION_PARTS rfl) (nomark _))))) (pss_one (ps_ret pe_bl)) pss_nil) (pss_cons (ps_asg (pv 0) (asGTup (K := K) rfl (pg_tup rfl (pgs_cons (pg_name (i := 1) sc_has_option_form.nd rfl (Or.inl rfl)) (pgs_cons (pg_name (i := 2) sc_has_option_form.nd rfl (Or.inl rfl)) (pgs_cons (pg_name (i := 3) sc_has_option_form.nd rfl (Or.inl rfl)) (pgs_cons (pg_name (i := 4) sc_has_option_form.nd rfl (Or.inl rfl)) (pgs_cons (pg_name (i := 5) sc_has_option_form.nd rfl (Or.inl rfl)) (pgs_cons (pg_name (i := 6) sc_has_option_form.nd rfl (Or.inl rfl)) (pgs_cons (pg_name (i := 7) sc_has_option_form.nd rfl (Or.inl rfl)) pgs_nil)))))))))) (pss_cons (ps_if (PW.pt (pw_or (pt_not (pt_val (pe_call G_is_name (hr.mono (by decide)) rfl D_is_name.gl D_is_name.fn.kp D_is_name.bd .nil pass0 (pa_cons (pv 1) pa_nil)))) (pw_or (pt_cmpR op_ltA (pe_callB (call_lenA : CallR _ _ (J.rLen K)) (by rfl) T.z_len (by decide +kernel) (pa_cons (pv 1) pa_nil)) (pe_gI T.c_LEAST_OPTION_LETTERS rfl) (nomark _)) (pw_or1 (pt_not (PW.pt (pw_or (pt_cmpR L2.op_isN (pv 2) pe_non (nomark _)) (pw_or1 pt_false)))))))) (pss_one (ps_ret pe_bl)) pss_nil) (pss_cons (ps_if (PW.pt (pw_or (pt_cmpR (op_notInA : OpR _ _ (rInA K true)) (pv 3) (pe_gR hq_FORMS rfl) (by rfl)) (pw_or1 (pt_not (pt_ifE (pt_cmpR (op_inA : OpR _ _ (rInA K false)) (pv 3) (pe_gR hq_WITH_KIND rfl) (by rfl)) pt_false (pt_cmpR L2.op_isN (pv 4) pe_non (nomark _))))))) (pss_one (ps_ret pe_bl)) pss_nil) (pss_cons (ps_if (PW.pt (pw_or (pt_not (pt_val (pe_callB (L2.call_isi : CallR _ _ (rIsi K)) (by rfl) T.z_isinstance (by decide +kernel) (pa_cons (pv 6) (pa_cons (pe_bltn (v := .ty "bool") (u := .type "bool") rfl T.z_bool (by decide +kernel) rfl) pa_nil))))) (pw_or1 (pt_not (PW.pt (pw_or (pt_cmpR L2.op_isN (pv 7) pe_non (nomark _)) (pw_or1 pt_false))))))) (pss_one (ps_ret pe_bl)) pss_nil) (pss_one (ps_ret (pe_or (pe_not (pv 6)) (pe_one pe_false))))))))), ?_⟩
    walk_at "g"
    refine r_isiB (.base (.tup ha)) (show kitB "tuple" "tuple" = some true by decide +kernel) ?_
    walk_at "g"
    refine r_lenT (SqT.of ha) ?_
    have nz : nmD (.str (S o.1)) = true := by
      show isNm (cd (S o.1)) = true
      rw [cd_S]; exact isNm_iff.mpr hz
    walk_at "g"
    refine r_gtup (SqT.of ha) rfl ?_
    walk_at "g"
    refine ⟨_, _, rfl, .str _ (by rw [S_len]; have := hz.2.1; omega) (fun c hc => by rw [cd_S] at hc; have := hz.2.2 c hc; omega), ?_⟩
    rw [nz]
    walk_at "g"
    refine r_len (by rw [S_len]; exact Nat.le_trans hz.2.1 (by decide)) ?_
    rw [S_len]
    walk_at "g"
    refine r_ninTx (ws := ["flag", "count", "one", "many"]) (.inr (sf _)) ?_
    rw [decide_eq_true (show fmS o.2 ∈ (["flag", "count", "one", "many"] : List Str) by cases o.2 <;> decide +kernel)]
    walk_at "g"
    refine r_inTx (ws := ["one", "many"]) (.inr (sw _)) ?_
    rw [decide_eq_false (show ¬ fmS o.2 ∈ (["one", "many"] : List Str) by cases o.2 <;> decide +kernel)]
    walk_at "g"
    refine r_isiB (.base (.bl false)) (show kitB "bool" "bool" = some true by decide +kernel) ?_
    walk_at "g"
    exact k
end
end K16
namespace K16
open PySem PySem.Spec PyProof.Rows L2 J M
local macro_rules | `(tactic| walk_at "hp") => `(tactic| first | assumption | exact upd_same | (rw [upd_ne (by assumption)]; walk_at "hp") | (rw [upd_ne (Ne.symm (by assumption))]; walk_at "hp"))
local macro_rules | `(tactic| walk_at "s") => `(tactic| first
  | ((with_reducible refine' r_var ?h ?k); (case h => exact rfl))
  | (with_reducible refine r_c ?_)
  | (with_reducible refine r_op ?_)
  | (with_reducible refine r_un ?_)
  | (with_reducible refine r_seq ?_)
  | (with_reducible refine r_next ?_)
  | (with_reducible refine r_sets ?_)
  | (with_reducible refine r_gname ?_)
  | (with_reducible refine r_ifS ?_)
  | (with_reducible refine r_gsub ?_)
  | (with_reducible refine r_test ?_)
  | (with_reducible refine r_tb ?_)
  | (with_reducible refine r_not ?_)
  | (with_reducible refine r_and ?_)
  | (with_reducible refine r_or ?_)
  | (with_reducible refine r_andV ?_)
  | (with_reducible refine r_orV ?_)
  | (with_reducible refine r_notV ?_)
  | (with_reducible refine r_ifE ?_)
  | (with_reducible refine r_chain ?_)
  | (with_reducible refine r_cb ?_)
  | (with_reducible refine r_cons ?_)
  | (with_reducible refine r_nil ?_)
  | (with_reducible refine r_call ?_)
  | (with_reducible refine r_lst ?_)
  | (with_reducible refine r_tup ?_)
  | (with_reducible refine r_slice ?_)
  | (with_reducible refine r_nop ?_)
  | (with_reducible refine r_part ?_)
  | (with_reducible refine r_bm ?_)
  | (with_reducible refine r_m1 ?_)
  | (with_reducible refine r_m0 ?_)
  | (with_reducible refine r_is ?_)
  | (with_reducible refine r_maxD ?_)
  | (with_reducible refine r_orT ?_)
  | (with_reducible refine r_truN ?_)
  | (with_reducible refine r_intI ?_)
  | (with_reducible refine r_intB ?_)
  | (with_reducible refine r_max2 ?_)
  | (with_reducible refine r_min2 ?_)
  | (with_reducible refine r_yes ?_)
  | (with_reducible refine r_bl ?_)
  | (with_reducible refine iteT ?_)
  | (with_reducible refine iteF ?_)
  | (with_reducible refine r_iteNT ?_)
  | (with_reducible refine r_iteNF ?_)
  | (with_reducible refine r_minL ?_)
  | (with_reducible refine r_gcons ?_)
  | (with_reducible refine r_gnil ?_)
  | (with_reducible refine r_par ?_)
  | (with_reducible refine r_par3 ?_)
  | (with_reducible refine r_is2 ?_)
  | (with_reducible refine r_is3 ?_)
  | (with_reducible refine r_dget ?_)
  | (with_reducible refine r_callS ?_)
  | (with_reducible refine r_rz ?_)
  | (with_reducible refine r_rev ?_)
  | (with_reducible refine r_isI ?_)
  | (with_reducible refine r_isStr ?_)
  | (with_reducible refine r_ret ?_)
  | (with_reducible refine r_drop ?_)
  | (with_reducible refine r_rI0 ?_)
  | (with_reducible refine r_addI ?_)
  | ((with_reducible show rI (fun _ j => 0 < j) _ (.int _) (.int _) _ _); refine r_rI (by first | omega | decide) ?_)
  | ((with_reducible show rI CDiv _ (.int _) (.int _) _ _); refine r_rI (by constructor <;> omega) ?_)
  | ((with_reducible show rI CPow _ (.int _) (.int _) _ _); refine r_rI (by refine ⟨by decide, by decide, ?_⟩; omega) ?_)
  | ((with_reducible show rMul (.int _) (.int _) _ _); refine r_mulI (cmulW (by omega) (by omega)) ?_)
  | (with_reducible refine r_cmpI ?_)
  | (with_reducible refine r_cmpS ?_)
  | (with_reducible refine r_eqI ?_)
  | (with_reducible refine r_neI ?_)
  | (with_reducible refine r_eqS ?_)
  | (with_reducible refine r_neS ?_)
  | (with_reducible refine r_inSF ?_)
  | (with_reducible refine r_inST ?_)
  | (with_reducible refine r_isiStr ?_)
  | ((with_reducible show rIx _ (.ref _) (.int _) _ _); refine' r_ixL (SqL.of ?h) ?e ?_; (case h => walk_at "hp"); (case e => rfl))
  | ((with_reducible show rSetL (.ref _) (.int _) _ _ _); refine' r_setL ?h ?e ?_; (case h => walk_at "hp"); (case e => rfl)))
local macro_rules | `(tactic| walk_at "g") => `(tactic| repeat walk_at "s")
local macro_rules | `(tactic| walk_at "x") => `(tactic| first | omega | decide +kernel | (simp only [List.length_cons, List.length_nil]; omega))
local macro_rules | `(tactic| walk_at "T1") => `(tactic| (first
  | walk_at "s"
  | ((with_reducible show rIx _ (.ref _) (.int _) _ _); refine' r_ixTu (SqT.of ?h) ?e ?_; (case h => first | assumption | walk_at "hp"); (case e => rfl))
  | (with_reducible refine r_lenSet ?_)
  | (with_reducible refine r_asg2 ?_)
  | (with_reducible refine iteDT (by walk_at "x") ?_)
  | (with_reducible refine iteDF (by walk_at "x") ?_)
  | (with_reducible refine iteNT (by walk_at "x") ?_)
  | (with_reducible refine iteNF (by walk_at "x") ?_)))
local macro_rules | `(tactic| walk_at "T") => `(tactic| repeat (first
  | walk_at "s"
  | ((with_reducible show rIx _ (.ref _) (.int _) _ _); refine' r_ixTu (SqT.of ?h) ?e ?_; (case h => first | assumption | walk_at "hp"); (case e => rfl))
  | (with_reducible refine r_lenSet ?_)
  | (with_reducible refine r_asg2 ?_)
  | (with_reducible refine iteDT (by walk_at "x") ?_)
  | (with_reducible refine iteDF (by walk_at "x") ?_)
  | (with_reducible refine iteNT (by walk_at "x") ?_)
  | (with_reducible refine iteNF (by walk_at "x") ?_)))
local macro_rules | `(tactic| walk_at "g") => `(tactic| repeat (first | walk_at "T1" | (with_reducible refine r_fld ?_) | (with_reducible refine r_sfl ?_) | (with_reducible refine r_ifT ?_) | (with_reducible refine r_nn ?_)))
section
variable {P : Program} {w : World} {K : PySem.W.Frag} {mg : Str → Option Value} {base : Heap}
theorem r_isiPa {K : PySem.W.Frag} {H : Hp} {x : V} {b : Bool} {Q : VK} (h : Pa K H x b) (t : ∀ (a : Addr) (es : List (V × PyData)), x = .ref a → b = (es.all fun e => nmD e.2) → H a = some (.tup (es.map Prod.fst)) → (∀ e ∈ es, Tg K H e.1 e.2) → es.length ≤ 60 → Q (.bl true) H) (f : b = false → Q (.bl false) H) : rIsi K [x, .ty "tuple"] H Q := by
  cases h with
  | tup h t' l => exact r_isiB (.base (.tup h)) (show kitB "tuple" "tuple" = some true by decide +kernel) (t _ _ rfl rfl h t' l)
  | non => exact r_isiB (.base .non) (show kitB "NoneType" "tuple" = some false by decide +kernel) (f rfl)
  | str z => exact r_isiB (.base (.str z)) (show kitB "str" "tuple" = some false by decide +kernel) (f rfl)
  | lst h => exact r_isiB (.base (.lst h)) (show kitB "list" "tuple" = some false by decide +kernel) (f rfl)
theorem ok_is_path (T : Tx K mg) {f f_is_name : Addr} {fd fd_is_name : FuncData} (F : Fun K "is_path" "is_path" s_is_path f fd)
    (D_is_name : DAt K mg "is_name" s_is_name P_is_name f_is_name fd_is_name) : FnOk P w K mg base CX0 2 f fd P_is_path (spPath K) := by
  have G_is_name : FnOk P w K mg base CX0 1 f_is_name fd_is_name P_is_name (spNameT K) := ok_is_name T D_is_name.fn
  refine F.ok sc_is_path (fun vs H Q E h => ?_) (fun cdv A outer s H vs Q E hr h => ?_)
  · obtain ⟨x, b, rfl, _⟩ := h
    rfl
  · obtain ⟨x, b, rfl, hx, k⟩ := h
    refine ⟨_, (pss_one (ps_ret (pe_and (pe_callB (L2.call_isi : CallR _ _ (rIsi K)) (by rfl) T.z_isinstance (by decide +kernel) (pa_cons (pv 0) (pa_cons (pe_bltn (v := .ty "tuple") (u := .type "tuple") rfl T.z_tuple (by decide +kernel) rfl) pa_nil))) (pe_one (pe_callB ((L2.cr_all rfl) : CallR _ _ (rAll K)) (by rfl) T.z_all (by decide +kernel) (pa_cons (pe_lc (own := [("name", 1)]) (g := (gName 1)) rfl sc_is_path.nd (asSeq (K := K) rfl (pi_seq (pv 0))) (blkOk_by (N := N_is_path) (sc := defScope s_is_path) (by decide +kernel)) (fun _ _ _ _ _ => (pg_name (i := 1) sc_is_path.nd rfl (Or.inl rfl))) (fun _ _ _ _ _ => pts_nil) (fun _ _ _ _ _ => (pe_call G_is_name (hr.mono (by decide)) rfl D_is_name.gl D_is_name.fn.kp D_is_name.bd .nil pass0 (pa_cons (pv 1) pa_nil)))) pa_nil)))))), ?_⟩
    walk_at "g"
    refine r_isiPa hx (fun a es ex eb ha ht hl => ?_) fun eb => ?_
    · subst ex eb
      walk_at "g"
      refine r_lcQ ?_
      walk_at "g"
      refine r_seqZ (.inr (SqT.of ha)) fun J SI D hD => ?_
      refine comp_same SI hD (es.map fun e => V.bl (nmD e.2)) (by simp) (by rw [List.length_map]; exact Nat.lt_of_le_of_lt hl (by decide)) (fun i x H' N hx s N' => ?_) fun H' s h => ?_
      · rw [List.getElem?_map] at hx
        obtain ⟨e, he, rfl⟩ := Option.map_eq_some_iff.mp hx
        walk_at "g"
        refine ⟨rfl, ?_⟩
        walk_at "g"
        refine ⟨_, _, rfl, (ht e (List.mem_of_getElem? he)).same s, ?_⟩
        exact N' _ _ (by rw [List.getElem?_map, he]; rfl) (Same.refl _)
      · walk_at "g"
        refine ⟨D, es.map fun e => nmD e.2, rfl, SqL.of (by rw [h, List.map_map]; rfl), ?_⟩
        rw [show (es.map fun e => nmD e.2).all id = es.all (fun e => nmD e.2) by rw [List.all_map]; rfl]
        exact k _ s
    · subst eb
      walk_at "g"
      exact k _ (Same.refl H)
theorem ok_in_order (T : Tx K mg) {f : Addr} {fd : FuncData} (F : Fun K "_are_in_order" "_are_in_order" s_are_in_order f fd) : FnOk P w K mg base CX0 1 f fd P_are_in_order spNoOrder := by
  refine F.ok sc_are_in_order (fun vs H Q E h => ?_) (fun cdv A outer s H vs Q E hr h => ?_)
  · obtain ⟨a, rfl, _⟩ := h
    rfl
  · obtain ⟨a, rfl, ha, k⟩ := h
    obtain ⟨tl, hl⟩ := T.c_LAST_RANK
    refine ⟨_, (pss_cons (ps_setLc (i := 1) (own := [("word", 2)]) (g := (gName 2)) rfl sc_are_in_order.nd rfl rfl (sw_true rfl rfl rfl (by decide +kernel)) (asSeq (K := K) rfl (pi_seq (pv 0))) (blkOk_by (N := N_are_in_order) (sc := defScope s_are_in_order) (by decide +kernel)) (fun _ _ _ _ _ => (pg_name (i := 2) sc_are_in_order.nd rfl (Or.inl rfl))) (fun _ _ _ _ _ => pts_nil) (fun _ _ _ _ _ => pe_false)) (pss_cons (ps_if (PW.pt (pw_or (pt_cmpR ((op_neA hr.units) : OpR _ _ (rNeA K)) (pv 1) (pe_callB (L2.cr_sortedI : CallR _ _ (L2.rSortedI K)) (by rfl) T.z_sorted (by decide +kernel) (pa_cons (pv 1) pa_nil)) (nomark _)) (pw_or1 (pt_cmpR op_gtA (asBM (K := K) rfl (pe_bm PySem.F.plainAttrs_list PySem.F.slot_list_count PySem.F.type_list_count (mt_lcount : L2.MtR _ _ (L2.rCntI K)) (pv 1) (pa_cons (pe_gI T.c_LAST_RANK rfl) pa_nil))) pe_int (nomark _))))) (pss_one (ps_ret pe_bl)) pss_nil) (pss_one (ps_ret (pe_or (pe_cmpR (op_notInA : OpR _ _ (rInA K true)) pe_str (pv 0) (by rfl)) (pe_one (pe_cmpR (op_notInA : OpR _ _ (rInA K true)) pe_str (pv 0) (by rfl)))))))), ?_⟩
    walk_at "g"
    refine r_lcQ ?_
    walk_at "g"
    refine r_seqZ (.inl (SqL.of ha)) fun J SI D hD => ?_
    refine comp_nil SI hD fun H1 s1 h1 => ?_
    walk_at "g"
    refine ⟨D, [], rfl, SqL.of h1, fun ns p perm pw hp => ?_⟩
    obtain rfl := perm.eq_nil
    have s2 := (Same.refl H1).at hp (.lst ([].map V.int))
    have h2 : upd H1 p (.lst ([].map V.int)) p = some (.lst []) := upd_same
    generalize upd H1 p (.lst ([].map V.int)) = H2 at s2 h2
    refine r_neWs (ls := []) (SqL.of (s2 _ _ h1)) (SqL.of h2) (fun _ h => (List.not_mem_nil h).elim) ?_
    walk_at "g"
    refine r_tyL (s2 _ _ h1) ?_
    walk_at "g"
    refine ⟨D, [], 2, rfl, rfl, SqL.of (s2 _ _ h1), ?_⟩
    walk_at "g"
    refine r_ninTx (ws := []) (.inl (SqL.of (s2 _ _ (s1 _ _ ha)))) ?_
    walk_at "g"
    exact k _ (s1.trans s2)
theorem ok_places (T : Tx K mg) {f f_are_in_order : Addr} {fd fd_are_in_order : FuncData} (F : Fun K "_are_places" "_are_places" s_are_places f fd)
    (D_are_in_order : DAt K mg "_are_in_order" s_are_in_order P_are_in_order f_are_in_order fd_are_in_order) : FnOk P w K mg base CX0 2 f fd P_are_places spNoPlaces := by
  have G_are_in_order : FnOk P w K mg base CX0 1 f_are_in_order fd_are_in_order P_are_in_order spNoOrder := ok_in_order T D_are_in_order.fn
  refine F.ok sc_are_places (fun vs H Q E h => ?_) (fun cdv A outer s H vs Q E hr h => ?_)
  · obtain ⟨a, rfl, _⟩ := h
    rfl
  · obtain ⟨a, rfl, ha, k⟩ := h
    refine ⟨_, (pss_one (ps_ret (pe_and (pe_callB ((L2.cr_all rfl) : CallR _ _ (rAll K)) (by rfl) T.z_all (by decide +kernel) (pa_cons (pe_lc (own := [("thing", 1)]) (g := (gName 1)) rfl sc_are_places.nd (asSeq (K := K) rfl (pi_seq (pv 0))) (blkOk_by (N := N_are_places) (sc := defScope s_are_places) (by decide +kernel)) (fun _ _ _ _ _ => (pg_name (i := 1) sc_are_places.nd rfl (Or.inl rfl))) (fun _ _ _ _ _ => pts_nil) (fun _ _ _ _ _ => pe_false)) pa_nil)) (pe_one (pe_call G_are_in_order (hr.mono (by decide)) rfl D_are_in_order.gl D_are_in_order.fn.kp D_are_in_order.bd .nil pass0 (pa_cons (pe_lc (own := [("_", 2), ("times", 3)]) (g := (gTup K 3 (gCons (gName 2) (gCons (gName 2) (gCons (gName 3) gNil))))) rfl sc_are_places.nd (asSeq (K := K) rfl (pi_seq (pv 0))) (blkOk_by (N := N_are_places) (sc := defScope s_are_places) (by decide +kernel)) (fun _ _ _ _ _ => (asGTup (K := K) rfl (pg_tup rfl (pgs_cons (pg_name (i := 2) sc_are_places.nd rfl (Or.inl rfl)) (pgs_cons (pg_name (i := 2) sc_are_places.nd rfl (Or.inl rfl)) (pgs_cons (pg_name (i := 3) sc_are_places.nd rfl (Or.inl rfl)) pgs_nil)))))) (fun _ _ _ _ _ => pts_nil) (fun _ _ _ _ _ => (pv 3))) pa_nil)))))), ?_⟩
    walk_at "g"
    refine r_lcQ ?_
    walk_at "g"
    refine r_seqZ (.inr (SqT.of ha)) fun J SI D hD => ?_
    refine comp_nil SI hD fun H1 s1 h1 => ?_
    walk_at "g"
    refine ⟨D, ([] : List Bool), rfl, SqL.of h1, ?_⟩
    rw [show ([] : List Bool).all id = true from rfl]
    walk_at "g"
    refine r_lcQ ?_
    walk_at "g"
    refine r_seqZ (.inr (SqT.of (s1 _ _ ha))) fun J2 SI2 D2 hD2 => ?_
    refine comp_nil SI2 hD2 fun H2 s2 h2 => ?_
    walk_at "g"
    refine ⟨D2, rfl, h2, fun H3 s3 => ?_⟩
    exact k _ ((s1.trans s2).trans s3)
theorem ok_fits_form (T : Tx K mg) {f f_is_whole : Addr} {fd fd_is_whole : FuncData} (F : Fun K "fits_form" "fits_form" s_fits_form f fd)
    (D_is_whole : DAt K mg "is_whole" s_is_whole P_is_whole f_is_whole fd_is_whole) : FnOk P w K mg base CX0 2 f fd P_fits_form spFitsForm := by
  have G_is_whole : FnOk P w K mg base CX0 1 f_is_whole fd_is_whole P_is_whole (spWholeT K) := ok_is_whole T D_is_whole.fn
  refine F.ok sc_fits_form (fun vs H Q E h => ?_) (fun cdv A outer s H vs Q E hr h => ?_)
  · obtain ⟨b, rfl, _⟩ := h
    rfl
  · obtain ⟨b, rfl, k⟩ := h
    refine ⟨_, (pss_cons (ps_if (pt_cmpR ((op_eqA hr.units) : OpR _ _ (rEqA K)) (pv 0) pe_str (nomark _)) (pss_one (ps_ret (pe_call G_is_whole (hr.mono (by decide)) rfl D_is_whole.gl D_is_whole.fn.kp D_is_whole.bd .nil pass0 (pa_cons (pv 2) (pa_cons pe_int (pa_cons pe_int pa_nil)))))) pss_nil) (pss_cons (ps_if (pt_cmpR ((op_eqA hr.units) : OpR _ _ (rEqA K)) (pv 0) pe_str (nomark _)) (pss_one (ps_ret (pe_call G_is_whole (hr.mono (by decide)) rfl D_is_whole.gl D_is_whole.fn.kp D_is_whole.bd .nil pass0 (pa_cons (pv 2) (pa_cons pe_int (pa_cons (pe_gI T.c_MOST_COUNT rfl) pa_nil)))))) pss_nil) (pss_cons (ps_if pt_false (pss_one (ps_ret pe_false)) pss_nil) (pss_one (ps_ret pe_false))))), ?_⟩
    cases b with
    | true =>
      walk_at "g"
      refine ⟨_, _, _, _, rfl, .int 0 (by decide), ?_⟩
      exact k
    | false =>
      walk_at "g"
      refine ⟨_, _, _, _, rfl, .int 0 (by decide), ?_⟩
      exact k
theorem ok_own_name (T : Tx K mg) {f : Addr} {fd : FuncData} (F : Fun K "own_name" "own_name" s_own_name f fd) : FnOk P w K mg base CX0 1 f fd P_own_name spNoOwn := by
  refine F.ok sc_own_name (fun vs H Q E h => ?_) (fun cdv A outer s H vs Q E hr h => ?_)
  · obtain ⟨u, rfl, _⟩ := h
    rfl
  · obtain ⟨u, rfl, rfl, k⟩ := h
    refine ⟨_, (pss_one (ps_ret (pe_ifExp (PW.pt (pw_and (pt_cmpR L2.op_notN (pv 0) pe_non (nomark _)) (pw_and1 (pt_cmpR ((op_eqA hr.units) : OpR _ _ (rEqA K)) (pe_ix (ix_seq : IxR _ (rIx K)) (pv 0) pe_int (fun _ _ => rfl)) pe_str (nomark _))))) (pe_ix (ix_seq : IxR _ (rIx K)) (pv 0) pe_int (fun _ _ => rfl)) pe_non))), ?_⟩
    walk_at "g"
    exact k
theorem ok_table (T : Tx K mg) {f f_is_name : Addr} {fd fd_is_name : FuncData} (F : Fun K "is_table" "is_table" s_is_table f fd)
    (D_is_name : DAt K mg "is_name" s_is_name P_is_name f_is_name fd_is_name) : FnOk P w K mg base CX0 2 f fd P_is_table spTable0 := by
  have G_is_name : FnOk P w K mg base CX0 1 f_is_name fd_is_name P_is_name (spNameT K) := ok_is_name T D_is_name.fn
  refine F.ok sc_is_table (fun vs H Q E h => ?_) (fun cdv A outer s H vs Q E hr h => ?_)
  · obtain ⟨a, rfl, _⟩ := h
    rfl
  · obtain ⟨a, rfl, ha, k⟩ := h
    refine ⟨_, (pss_one (ps_ret (pe_and (pe_callB (L2.call_isi : CallR _ _ (rIsi K)) (by rfl) T.z_isinstance (by decide +kernel) (pa_cons (pv 0) (pa_cons (pe_bltn (v := .ty "dict") (u := .type "dict") rfl T.z_dict (by decide +kernel) rfl) pa_nil))) (pe_one (pe_callB ((L2.cr_all rfl) : CallR _ _ (rAll K)) (by rfl) T.z_all (by decide +kernel) (pa_cons (pe_lock (pe_lc (own := [("name", 1)]) (g := (gName 1)) rfl sc_is_table.nd (pi_keys (pv 0)) (blkOk_by (N := N_is_table) (sc := defScope s_is_table) (by decide +kernel)) (fun _ _ _ _ _ => (pg_name (i := 1) sc_is_table.nd rfl (Or.inl rfl))) (fun _ _ _ _ _ => pts_nil) (fun _ _ _ _ _ => (pe_call G_is_name (hr.mono (by decide)) rfl D_is_name.gl D_is_name.fn.kp D_is_name.bd .nil pass0 (pa_cons (pv 1) pa_nil))))) pa_nil)))))), ?_⟩
    walk_at "g"
    refine r_isiB (.base (.dK ha)) (show kitB "dict" "dict" = some true by decide +kernel) ?_
    walk_at "g"
    refine r_lockE ha trivial fun od => ?_
    refine r_lcKy ?_
    walk_at "g"
    refine r_keyZ upd_same fun J SI D hD => ?_
    refine comp_nil SI hD fun H1 s1 h1 => ?_
    refine ⟨s1 _ _ upd_same, ?_⟩
    have s2 := unlock_same ha s1
    walk_at "g"
    refine ⟨D, ([] : List Bool), rfl, SqL.of (by rw [upd_ne fun e => by subst e; exact nomatch hD.symm.trans upd_same]; exact h1), ?_⟩
    exact k _ s2
end
end K16
namespace K16
open PySem PySem.Spec PyProof.Rows L2 J M
local macro_rules | `(tactic| walk_at "hp") => `(tactic| first | assumption | exact upd_same | (rw [upd_ne (by assumption)]; walk_at "hp") | (rw [upd_ne (Ne.symm (by assumption))]; walk_at "hp"))
local macro_rules | `(tactic| walk_at "s") => `(tactic| first
  | ((with_reducible refine' r_var ?h ?k); (case h => exact rfl))
  | (with_reducible refine r_c ?_)
  | (with_reducible refine r_op ?_)
  | (with_reducible refine r_un ?_)
  | (with_reducible refine r_seq ?_)
  | (with_reducible refine r_next ?_)
  | (with_reducible refine r_sets ?_)
  | (with_reducible refine r_gname ?_)
  | (with_reducible refine r_ifS ?_)
  | (with_reducible refine r_gsub ?_)
  | (with_reducible refine r_test ?_)
  | (with_reducible refine r_tb ?_)
  | (with_reducible refine r_not ?_)
  | (with_reducible refine r_and ?_)
  | (with_reducible refine r_or ?_)
  | (with_reducible refine r_andV ?_)
  | (with_reducible refine r_orV ?_)
  | (with_reducible refine r_notV ?_)
  | (with_reducible refine r_ifE ?_)
  | (with_reducible refine r_chain ?_)
  | (with_reducible refine r_cb ?_)
  | (with_reducible refine r_cons ?_)
  | (with_reducible refine r_nil ?_)
  | (with_reducible refine r_call ?_)
  | (with_reducible refine r_lst ?_)
  | (with_reducible refine r_tup ?_)
  | (with_reducible refine r_slice ?_)
  | (with_reducible refine r_nop ?_)
  | (with_reducible refine r_part ?_)
  | (with_reducible refine r_bm ?_)
  | (with_reducible refine r_m1 ?_)
  | (with_reducible refine r_m0 ?_)
  | (with_reducible refine r_is ?_)
  | (with_reducible refine r_maxD ?_)
  | (with_reducible refine r_orT ?_)
  | (with_reducible refine r_truN ?_)
  | (with_reducible refine r_intI ?_)
  | (with_reducible refine r_intB ?_)
  | (with_reducible refine r_max2 ?_)
  | (with_reducible refine r_min2 ?_)
  | (with_reducible refine r_yes ?_)
  | (with_reducible refine r_bl ?_)
  | (with_reducible refine iteT ?_)
  | (with_reducible refine iteF ?_)
  | (with_reducible refine r_iteNT ?_)
  | (with_reducible refine r_iteNF ?_)
  | (with_reducible refine r_minL ?_)
  | (with_reducible refine r_gcons ?_)
  | (with_reducible refine r_gnil ?_)
  | (with_reducible refine r_par ?_)
  | (with_reducible refine r_par3 ?_)
  | (with_reducible refine r_is2 ?_)
  | (with_reducible refine r_is3 ?_)
  | (with_reducible refine r_dget ?_)
  | (with_reducible refine r_callS ?_)
  | (with_reducible refine r_rz ?_)
  | (with_reducible refine r_rev ?_)
  | (with_reducible refine r_isI ?_)
  | (with_reducible refine r_isStr ?_)
  | (with_reducible refine r_ret ?_)
  | (with_reducible refine r_drop ?_)
  | (with_reducible refine r_rI0 ?_)
  | (with_reducible refine r_addI ?_)
  | ((with_reducible show rI (fun _ j => 0 < j) _ (.int _) (.int _) _ _); refine r_rI (by first | omega | decide) ?_)
  | ((with_reducible show rI CDiv _ (.int _) (.int _) _ _); refine r_rI (by constructor <;> omega) ?_)
  | ((with_reducible show rI CPow _ (.int _) (.int _) _ _); refine r_rI (by refine ⟨by decide, by decide, ?_⟩; omega) ?_)
  | ((with_reducible show rMul (.int _) (.int _) _ _); refine r_mulI (cmulW (by omega) (by omega)) ?_)
  | (with_reducible refine r_cmpI ?_)
  | (with_reducible refine r_cmpS ?_)
  | (with_reducible refine r_eqI ?_)
  | (with_reducible refine r_neI ?_)
  | (with_reducible refine r_eqS ?_)
  | (with_reducible refine r_neS ?_)
  | (with_reducible refine r_inSF ?_)
  | (with_reducible refine r_inST ?_)
  | (with_reducible refine r_isiStr ?_)
  | ((with_reducible show rIx _ (.ref _) (.int _) _ _); refine' r_ixL (SqL.of ?h) ?e ?_; (case h => walk_at "hp"); (case e => rfl))
  | ((with_reducible show rSetL (.ref _) (.int _) _ _ _); refine' r_setL ?h ?e ?_; (case h => walk_at "hp"); (case e => rfl)))
local macro_rules | `(tactic| walk_at "g") => `(tactic| repeat walk_at "s")
local macro_rules | `(tactic| walk_at "x") => `(tactic| first | omega | decide +kernel | (simp only [List.length_cons, List.length_nil]; omega))
local macro_rules | `(tactic| walk_at "T1") => `(tactic| (first
  | walk_at "s"
  | ((with_reducible show rIx _ (.ref _) (.int _) _ _); refine' r_ixTu (SqT.of ?h) ?e ?_; (case h => first | assumption | walk_at "hp"); (case e => rfl))
  | (with_reducible refine r_lenSet ?_)
  | (with_reducible refine r_asg2 ?_)
  | (with_reducible refine iteDT (by walk_at "x") ?_)
  | (with_reducible refine iteDF (by walk_at "x") ?_)
  | (with_reducible refine iteNT (by walk_at "x") ?_)
  | (with_reducible refine iteNF (by walk_at "x") ?_)))
local macro_rules | `(tactic| walk_at "T") => `(tactic| repeat (first
  | walk_at "s"
  | ((with_reducible show rIx _ (.ref _) (.int _) _ _); refine' r_ixTu (SqT.of ?h) ?e ?_; (case h => first | assumption | walk_at "hp"); (case e => rfl))
  | (with_reducible refine r_lenSet ?_)
  | (with_reducible refine r_asg2 ?_)
  | (with_reducible refine iteDT (by walk_at "x") ?_)
  | (with_reducible refine iteDF (by walk_at "x") ?_)
  | (with_reducible refine iteNT (by walk_at "x") ?_)
  | (with_reducible refine iteNF (by walk_at "x") ?_)))
local macro_rules | `(tactic| walk_at "g") => `(tactic| repeat (first | walk_at "T1" | (with_reducible refine r_fld ?_) | (with_reducible refine r_sfl ?_) | (with_reducible refine r_ifT ?_) | (with_reducible refine r_nn ?_)))
section
variable {P : Program} {w : World} {K : PySem.W.Frag} {mg : Str → Option Value} {base : Heap}
theorem ok_cmd_form (T : Tx K mg) {f f_is_name f_begins_with_name f_is_tuple_to f_has_option_form f_are_in_order f_are_places : Addr} {fd fd_is_name fd_begins_with_name fd_is_tuple_to fd_has_option_form fd_are_in_order fd_are_places : FuncData} (F : Fun K "has_command_form" "has_command_form" s_has_command_form f fd)
    (D_is_name : DAt K mg "is_name" s_is_name P_is_name f_is_name fd_is_name)
    (D_begins_with_name : DAt K mg "begins_with_name" s_begins_with_name P_begins_with_name f_begins_with_name fd_begins_with_name)
    (D_is_tuple_to : DAt K mg "_is_tuple_to" s_is_tuple_to P_is_tuple_to f_is_tuple_to fd_is_tuple_to)
    (D_has_option_form : DAt K mg "has_option_form" s_has_option_form P_has_option_form f_has_option_form fd_has_option_form)
    (D_are_in_order : DAt K mg "_are_in_order" s_are_in_order P_are_in_order f_are_in_order fd_are_in_order)
    (D_are_places : DAt K mg "_are_places" s_are_places P_are_places f_are_places fd_are_places) : FnOk P w K mg base CX0 3 f fd P_has_command_form spCmdForm := by
  have G_begins_with_name : FnOk P w K mg base CX0 2 f_begins_with_name fd_begins_with_name P_begins_with_name spNamed := ok_begins T D_begins_with_name.fn D_is_name
  have G_is_tuple_to : FnOk P w K mg base CX0 1 f_is_tuple_to fd_is_tuple_to P_is_tuple_to spTupTo := ok_tup_to T D_is_tuple_to.fn
  have G_has_option_form : FnOk P w K mg base CX0 2 f_has_option_form fd_has_option_form P_has_option_form spOptForm := ok_opt_form T D_has_option_form.fn D_is_name
  have G_are_places : FnOk P w K mg base CX0 2 f_are_places fd_are_places P_are_places spNoPlaces := ok_places T D_are_places.fn D_are_in_order
  refine F.ok sc_has_command_form (fun vs H Q E h => ?_) (fun cdv A outer s H vs Q E hr h => ?_)
  · obtain ⟨a, nm, os, cs, rfl, _⟩ := h
    rfl
  · obtain ⟨a, nm, os, cs, rfl, hc, hn, ho, h6, k⟩ := h
    obtain ⟨oa, pa, ga, ca, xs, h1, h2, h3, h4, h5, h7⟩ := hc.ex
    refine ⟨_, (pss_cons (ps_if (PW.pt (pw_or (pt_not (pt_val (pe_call G_begins_with_name (hr.mono (by decide)) rfl D_begins_with_name.gl D_begins_with_name.fn.kp D_begins_with_name.bd .nil pass0 (pa_cons (pv 0) pa_nil)))) (pw_or1 (pt_cmpR ((op_neA hr.units) : OpR _ _ (rNeA K)) (pe_callB (call_lenA : CallR _ _ (J.rLen K)) (by rfl) T.z_len (by decide +kernel) (pa_cons (pv 0) pa_nil)) (pe_gI T.c_COMMAND_PARTS rfl) (nomark _))))) (pss_one (ps_ret pe_bl)) pss_nil) (pss_cons (ps_asg (pv 0) (asGTup (K := K) rfl (pg_tup rfl (pgs_cons (pg_name (i := 1) sc_has_command_form.nd rfl (Or.inl rfl)) (pgs_cons (pg_name (i := 2) sc_has_command_form.nd rfl (Or.inl rfl)) (pgs_cons (pg_name (i := 3) sc_has_command_form.nd rfl (Or.inl rfl)) (pgs_cons (pg_name (i := 4) sc_has_command_form.nd rfl (Or.inl rfl)) (pgs_cons (pg_name (i := 5) sc_has_command_form.nd rfl (Or.inl rfl)) pgs_nil)))))))) (pss_cons (ps_if (PW.pt (pw_or (pt_not (pt_val (pe_call G_is_tuple_to (hr.mono (by decide)) rfl D_is_tuple_to.gl D_is_tuple_to.fn.kp D_is_tuple_to.bd .nil pass0 (pa_cons (pv 2) (pa_cons (pe_gI T.c_MOST_OPTIONS rfl) pa_nil))))) (pw_or1 (pt_not (pt_val (pe_callB ((L2.cr_all rfl) : CallR _ _ (rAll K)) (by rfl) T.z_all (by decide +kernel) (pa_cons (pe_lc (own := [("option", 6)]) (g := (gName 6)) rfl sc_has_command_form.nd (asSeq (K := K) rfl (pi_seq (pv 2))) (blkOk_by (N := N_has_command_form) (sc := defScope s_has_command_form) (by decide +kernel)) (fun _ _ _ _ _ => (pg_name (i := 6) sc_has_command_form.nd rfl (Or.inl rfl))) (fun _ _ _ _ _ => pts_nil) (fun _ _ _ _ _ => (pe_call G_has_option_form (hr.mono (by decide)) rfl D_has_option_form.gl D_has_option_form.fn.kp D_has_option_form.bd .nil pass0 (pa_cons (pv 6) pa_nil)))) pa_nil))))))) (pss_one (ps_ret pe_bl)) pss_nil) (pss_cons (ps_if (PW.pt (pw_or (pt_not (pt_val (pe_call G_is_tuple_to (hr.mono (by decide)) rfl D_is_tuple_to.gl D_is_tuple_to.fn.kp D_is_tuple_to.bd .nil pass0 (pa_cons (pv 3) (pa_cons (pe_gI T.c_MOST_PLACES rfl) pa_nil))))) (pw_or1 (pt_not (pt_val (pe_call G_are_places (hr.mono (by decide)) rfl D_are_places.gl D_are_places.fn.kp D_are_places.bd .nil pass0 (pa_cons (pv 3) pa_nil))))))) (pss_one (ps_ret pe_bl)) pss_nil) (pss_cons (ps_if (PW.pt (pw_or (pt_not (pt_val (pe_call G_is_tuple_to (hr.mono (by decide)) rfl D_is_tuple_to.gl D_is_tuple_to.fn.kp D_is_tuple_to.bd .nil pass0 (pa_cons (pv 4) (pa_cons (pe_gI T.c_MOST_GROUPS rfl) pa_nil))))) (pw_or1 (pt_not (pt_val (pe_callB ((L2.cr_all rfl) : CallR _ _ (rAll K)) (by rfl) T.z_all (by decide +kernel) (pa_cons (pe_lc (own := [("group", 7)]) (g := (gName 7)) rfl sc_has_command_form.nd (asSeq (K := K) rfl (pi_seq (pv 4))) (blkOk_by (N := N_has_command_form) (sc := defScope s_has_command_form) (by decide +kernel)) (fun _ _ _ _ _ => (pg_name (i := 7) sc_has_command_form.nd rfl (Or.inl rfl))) (fun _ _ _ _ _ => pts_nil) (fun _ _ _ _ _ => pe_false)) pa_nil))))))) (pss_one (ps_ret pe_bl)) pss_nil) (pss_one (ps_ret (pe_and (pe_call G_is_tuple_to (hr.mono (by decide)) rfl D_is_tuple_to.gl D_is_tuple_to.fn.kp D_is_tuple_to.bd .nil pass0 (pa_cons (pv 5) (pa_cons (pe_gI T.c_MOST_BENEATH rfl) pa_nil))) (pe_one (pe_or (pe_cmpR ((op_eqA hr.units) : OpR _ _ (rEqA K)) (pe_callB (call_lenA : CallR _ _ (J.rLen K)) (by rfl) T.z_len (by decide +kernel) (pa_cons (pv 5) pa_nil)) pe_int (nomark _)) (pe_one (pe_cmpR ((op_eqA hr.units) : OpR _ _ (rEqA K)) (pe_callB (call_lenA : CallR _ _ (J.rLen K)) (by rfl) T.z_len (by decide +kernel) (pa_cons (pv 3) pa_nil)) pe_int (nomark _))))))))))))), ?_⟩
    walk_at "g"
    refine ⟨a, nm, _, rfl, h1, hn, ?_⟩
    walk_at "g"
    refine r_lenT (SqT.of h1) ?_
    walk_at "g"
    refine r_gtup (SqT.of h1) rfl ?_
    walk_at "g"
    refine ⟨oa, xs, 6, rfl, h2, by rw [h3.len]; have := ho.1; omega, ?_⟩
    walk_at "g"
    refine r_lcQ ?_
    walk_at "g"
    refine r_seqZ (.inr (SqT.of h2)) fun J SI D hD => ?_
    refine comp_same SI hD (os.map fun _ => V.bl true) (by rw [List.length_map, h3.len]) (by rw [h3.len]; exact Nat.lt_of_le_of_lt ho.1 (by decide)) (fun i x H' N hx s N' => ?_) fun H1 s1 hl => ?_
    · obtain ⟨p, o, rfl, eo, hp⟩ := h3.get hx
      have q := ho.2.1 o (List.mem_of_getElem? eo)
      walk_at "g"
      refine ⟨rfl, ?_⟩
      walk_at "g"
      refine ⟨p, o, rfl, s _ _ hp, q.1, q.2, ?_⟩
      exact N' _ _ (by rw [List.getElem?_map, eo]; rfl) (Same.refl _)
    · walk_at "g"
      refine ⟨D, os.map fun _ => true, rfl, SqL.of (by rw [hl, List.map_map]; rfl), ?_⟩
      rw [show (os.map fun _ => true).all id = true by rw [List.all_map]; exact List.all_eq_true.mpr fun _ _ => rfl]
      walk_at "g"
      refine ⟨pa, [], 4, rfl, s1 _ _ h4, by decide, ?_⟩
      walk_at "g"
      refine ⟨pa, rfl, s1 _ _ h4, fun H2 s2 => ?_⟩
      have s12 := s1.trans s2
      walk_at "g"
      refine ⟨ga, [], 4, rfl, s12 _ _ h5, by decide, ?_⟩
      walk_at "g"
      refine r_lcQ ?_
      walk_at "g"
      refine r_seqZ (.inr (SqT.of (s12 _ _ h5))) fun J3 SI3 D3 hD3 => ?_
      refine comp_nil SI3 hD3 fun H3 s3 hl3 => ?_
      have s13 := s12.trans s3
      walk_at "g"
      refine ⟨D3, ([] : List Bool), rfl, SqL.of hl3, ?_⟩
      rw [show ([] : List Bool).all id = true from rfl]
      walk_at "g"
      refine ⟨ca, cs, 6, rfl, s13 _ _ h7, by omega, ?_⟩
      walk_at "g"
      refine r_lenT (SqT.of (s13 _ _ h7)) ?_
      walk_at "g"
      by_cases c0 : (cs.length : Int) = 0
      · rw [decide_eq_true c0]
        walk_at "g"
        exact k _ s13
      · rw [decide_eq_false c0]
        walk_at "g"
        refine r_lenT (SqT.of (s13 _ _ h4)) ?_
        walk_at "g"
        exact k _ s13
theorem ok_own_names (T : Tx K mg) {f : Addr} {fd : FuncData} (F : Fun K "_own_names" "_own_names" s_own_names f fd) : FnOk P w K mg base CX0 1 f fd P_own_names spOwnNames := by
  refine F.ok sc_own_names (fun vs H Q E h => ?_) (fun cdv A outer s H vs Q E hr h => ?_)
  · obtain ⟨a, nm, os, cs, rfl, _⟩ := h
    rfl
  · obtain ⟨a, nm, os, cs, rfl, hc, h6, k⟩ := h
    obtain ⟨oa, pa, ga, ca, xs, h1, h2, h3, h4, h5, h7⟩ := hc.ex
    refine ⟨_, (pss_cons (ps_set (i := 1) sc_own_names.nd rfl (Or.inl rfl) (pe_op (oAdd : OpR _ _ (J.rAdd K)) (pe_lc (own := [("_", 3), ("kind", 2)]) (g := (gTup K 7 (gCons (gName 3) (gCons (gName 3) (gCons (gName 3) (gCons (gName 2) (gCons (gName 3) (gCons (gName 3) (gCons (gName 3) gNil))))))))) rfl sc_own_names.nd (asSeq (K := K) rfl (pi_seq (pe_ix (ix_seq : IxR _ (rIx K)) (pv 0) (pe_gI T.c_OPTIONS rfl) (fun _ _ => rfl)))) (blkOk_by (N := N_own_names) (sc := defScope s_own_names) (by decide +kernel)) (fun _ _ _ _ _ => (asGTup (K := K) rfl (pg_tup rfl (pgs_cons (pg_name (i := 3) sc_own_names.nd rfl (Or.inl rfl)) (pgs_cons (pg_name (i := 3) sc_own_names.nd rfl (Or.inl rfl)) (pgs_cons (pg_name (i := 3) sc_own_names.nd rfl (Or.inl rfl)) (pgs_cons (pg_name (i := 2) sc_own_names.nd rfl (Or.inl rfl)) (pgs_cons (pg_name (i := 3) sc_own_names.nd rfl (Or.inl rfl)) (pgs_cons (pg_name (i := 3) sc_own_names.nd rfl (Or.inl rfl)) (pgs_cons (pg_name (i := 3) sc_own_names.nd rfl (Or.inl rfl)) pgs_nil)))))))))) (fun _ _ _ _ _ => pts_nil) (fun _ _ _ _ _ => (pv 2))) (pe_lc (own := [("_", 3), ("kind", 2)]) (g := (gTup K 3 (gCons (gName 3) (gCons (gName 2) (gCons (gName 3) gNil))))) rfl sc_own_names.nd (asSeq (K := K) rfl (pi_seq (pe_ix (ix_seq : IxR _ (rIx K)) (pv 0) (pe_gI T.c_PLACES rfl) (fun _ _ => rfl)))) (blkOk_by (N := N_own_names) (sc := defScope s_own_names) (by decide +kernel)) (fun _ _ _ _ _ => (asGTup (K := K) rfl (pg_tup rfl (pgs_cons (pg_name (i := 3) sc_own_names.nd rfl (Or.inl rfl)) (pgs_cons (pg_name (i := 2) sc_own_names.nd rfl (Or.inl rfl)) (pgs_cons (pg_name (i := 3) sc_own_names.nd rfl (Or.inl rfl)) pgs_nil)))))) (fun _ _ _ _ _ => pts_nil) (fun _ _ _ _ _ => (pv 2))))) (pss_one (ps_ret (pe_lc (own := [("kind", 2)]) (g := (gName 2)) rfl sc_own_names.nd (asSeq (K := K) rfl (pi_seq (pv 1))) (blkOk_by (N := N_own_names) (sc := defScope s_own_names) (by decide +kernel)) (fun _ _ _ _ _ => (pg_name (i := 2) sc_own_names.nd rfl (Or.inl rfl))) (fun _ _ _ _ _ => (pts_one (PW.pt (pw_and (pt_cmpR L2.op_notN (pv 2) pe_non (nomark _)) (pw_and1 (pt_cmpR ((op_eqA hr.units) : OpR _ _ (rEqA K)) (pe_ix (ix_seq : IxR _ (rIx K)) (pv 2) pe_int (fun _ _ => rfl)) pe_str (nomark _))))))) (fun _ _ _ _ _ => (pe_ix (ix_seq : IxR _ (rIx K)) (pv 2) pe_int (fun _ _ => rfl))))))), ?_⟩
    walk_at "g"
    refine r_lcQ ?_
    walk_at "g"
    refine r_seqZ (.inr (SqT.of h2)) fun J SI D hD => ?_
    refine comp_same SI hD (os.map fun _ => V.non) (by rw [List.length_map, h3.len]) (by rw [h3.len]; exact Nat.lt_of_le_of_lt h6 (by decide)) (fun i x H' N hx s N' => ?_) fun H1 s1 hl => ?_
    · obtain ⟨p, o, rfl, eo, hp⟩ := h3.get hx
      have hp' : H' p = some (.tup [.str (S o.1), .non, .str (fmS o.2), .non, .int 0, .bl false, .non]) := s _ _ hp
      walk_at "g"
      refine r_gtup (SqT.of hp') rfl ?_
      walk_at "g"
      refine ⟨rfl, ?_⟩
      walk_at "g"
      exact N' _ _ (by rw [List.getElem?_map, eo]; rfl) (Same.refl _)
    · walk_at "g"
      refine r_lcQ ?_
      have h1' := s1 _ _ h1
      walk_at "g"
      refine r_seqZ (.inr (SqT.of (s1 _ _ h4))) fun J2 SI2 D2 hD2 => ?_
      refine comp_nil SI2 hD2 fun H2 s2 hl2 => ?_
      walk_at "g"
      refine r_cat (s2 _ _ hl) hl2 (by rw [List.length_map]; exact Nat.le_trans (Nat.add_le_add_right h6 _) (by decide)) fun p hp => ?_
      have s3 := (Same.refl H2).at hp (.lst ((os.map fun _ => V.non) ++ []))
      have h3' : upd H2 p (.lst ((os.map fun _ => V.non) ++ [])) p = some (.lst (os.map fun _ => V.non)) := by rw [upd_same, List.append_nil]
      generalize upd H2 p (.lst ((os.map fun _ => V.non) ++ [])) = H3 at s3 h3'
      have s13 := (s1.trans s2).trans s3
      walk_at "g"
      refine r_lcQ ?_
      walk_at "g"
      refine r_seqZ (.inl (SqL.of h3')) fun J4 SI4 D4 hD4 => ?_
      refine comp_filt SI4 hD4 (fun _ => none) (by rw [List.length_map]; exact Nat.lt_of_le_of_lt h6 (by decide)) (fun i x H' N N0 hx s hN hN0 => ?_) fun H4 s4 hl4 => ?_
      · rw [List.getElem?_map] at hx
        obtain ⟨o, eo, rfl⟩ := Option.map_eq_some_iff.mp hx
        walk_at "g"
        refine ⟨rfl, ?_⟩
        walk_at "g"
        exact hN0 _ rfl (Same.refl _)
      · have e : (os.map fun _ => V.non).filterMap (fun _ => (none : Option V)) = [] := by simp
        rw [e] at hl4
        walk_at "g"
        exact k _ _ (s13.trans s4) (Same.non s13 hD4) hl4
theorem ok_twice (T : Tx K mg) {f f_is_name f_begins_with_name f_are_unlike : Addr} {fd fd_is_name fd_begins_with_name fd_are_unlike : FuncData} (F : Fun K "_refuse_twice" "_refuse_twice" s_refuse_twice f fd)
    (D_is_name : DAt K mg "is_name" s_is_name P_is_name f_is_name fd_is_name)
    (D_begins_with_name : DAt K mg "begins_with_name" s_begins_with_name P_begins_with_name f_begins_with_name fd_begins_with_name)
    (D_are_unlike : DAt K mg "are_unlike" s_are_unlike P_are_unlike f_are_unlike fd_are_unlike) : FnOk P w K mg base CX0 3 f fd P_refuse_twice spTwice := by
  have G_begins_with_name : FnOk P w K mg base CX0 2 f_begins_with_name fd_begins_with_name P_begins_with_name spNamed := ok_begins T D_begins_with_name.fn D_is_name
  have G_are_unlike : FnOk P w K mg base CX0 1 f_are_unlike fd_are_unlike P_are_unlike (spUnlike K) := ok_are_unlike T D_are_unlike.fn
  refine F.ok sc_refuse_twice (fun vs H Q E h => ?_) (fun cdv A outer s H vs Q E hr h => ?_)
  · obtain ⟨p, a, nm, os, cs, us, rfl, _⟩ := h
    rfl
  · obtain ⟨p, a, nm, os, cs, us, rfl, hc, ho, hu, hl, h6, hcs, k⟩ := h
    obtain ⟨oa, pa, ga, ca, xs, h1, h2, h3, h4, h5, h7⟩ := hc.ex
    have l6 : xs.length ≤ 6 := by rw [h3.len]; exact ho.1
    refine ⟨_, (pss_cons (ps_setLc (i := 2) (own := [("part", 6)]) (g := (gName 6)) rfl sc_refuse_twice.nd rfl rfl (sw_true rfl rfl rfl (by decide +kernel)) (asSeq (K := K) rfl (pi_seq (pe_op (oAdd : OpR _ _ (J.rAdd K)) (pe_ix (ix_seq : IxR _ (rIx K)) (pv 1) (pe_gI T.c_OPTIONS rfl) (fun _ _ => rfl)) (pe_ix (ix_seq : IxR _ (rIx K)) (pv 1) (pe_gI T.c_PLACES rfl) (fun _ _ => rfl))))) (blkOk_by (N := N_refuse_twice) (sc := defScope s_refuse_twice) (by decide +kernel)) (fun _ _ _ _ _ => (pg_name (i := 6) sc_refuse_twice.nd rfl (Or.inl rfl))) (fun _ _ _ _ _ => pts_nil) (fun _ _ _ _ _ => (pe_ix (ix_seq : IxR _ (rIx K)) (pv 6) (pe_gI T.c_NAME rfl) (fun _ _ => rfl)))) (pss_cons (ps_setLc (i := 3) (own := [("option", 7)]) (g := (gName 7)) rfl sc_refuse_twice.nd rfl rfl (sw_true rfl rfl rfl (by decide +kernel)) (asSeq (K := K) rfl (pi_seq (pe_ix (ix_seq : IxR _ (rIx K)) (pv 1) (pe_gI T.c_OPTIONS rfl) (fun _ _ => rfl)))) (blkOk_by (N := N_refuse_twice) (sc := defScope s_refuse_twice) (by decide +kernel)) (fun _ _ _ _ _ => (pg_name (i := 7) sc_refuse_twice.nd rfl (Or.inl rfl))) (fun _ _ _ _ _ => (pts_one (pt_cmpR L2.op_notN (pe_ix (ix_seq : IxR _ (rIx K)) (pv 7) (pe_gI T.c_SHORT rfl) (fun _ _ => rfl)) pe_non (nomark _)))) (fun _ _ _ _ _ => (pe_ix (ix_seq : IxR _ (rIx K)) (pv 7) (pe_gI T.c_SHORT rfl) (fun _ _ => rfl)))) (pss_cons (ps_setLc (i := 4) (own := [("below", 8)]) (g := (gName 8)) rfl sc_refuse_twice.nd rfl rfl (sw_true rfl rfl rfl (by decide +kernel)) (asSeq (K := K) rfl (pi_seq (pe_ix (ix_seq : IxR _ (rIx K)) (pv 1) (pe_gI T.c_COMMANDS rfl) (fun _ _ => rfl)))) (blkOk_by (N := N_refuse_twice) (sc := defScope s_refuse_twice) (by decide +kernel)) (fun _ _ _ _ _ => (pg_name (i := 8) sc_refuse_twice.nd rfl (Or.inl rfl))) (fun _ _ _ _ _ => (pts_one (pt_val (pe_call G_begins_with_name (hr.mono (by decide)) rfl D_begins_with_name.gl D_begins_with_name.fn.kp D_begins_with_name.bd .nil pass0 (pa_cons (pv 8) pa_nil))))) (fun _ _ _ _ _ => (pe_ix (ix_seq : IxR _ (rIx K)) (pv 8) (pe_gI T.c_NAME rfl) (fun _ _ => rfl)))) (pss_one (ps_for (PassesOwn.never) rfl (asSeq (K := K) rfl (pi_seq (pe_tup (pa_cons (pv 2) (pa_cons (pv 3) (pa_cons (pv 4) pa_nil)))))) (pg_name (i := 5) sc_refuse_twice.nd rfl (Or.inr rfl)) (pss_one (ps_if (pt_not (pt_val (pe_call G_are_unlike (hr.mono (by decide)) rfl D_are_unlike.gl D_are_unlike.fn.kp D_are_unlike.bd .nil pass0 (pa_cons (pv 5) pa_nil)))) (pss_one ps_never) pss_nil))))))), ?_⟩
    walk_at "g"
    refine r_lcQ ?_
    walk_at "g"
    refine r_catE h2 h4 (Nat.le_trans l6 (by decide)) fun c hc => ?_
    refine r_seqZ (.inr (SqT.of hc)) fun J SI D hD => ?_
    refine comp_same SI hD ((os.map Prod.fst).map wV) (by rw [List.length_map, List.length_map, h3.len]) (Nat.lt_of_le_of_lt l6 (by decide)) (fun i x H' N hx s N' => ?_) fun H1 s1 hl1 => ?_
    · obtain ⟨q, o, rfl, eo, hp⟩ := h3.get hx
      have hp' : H' q = some (.tup [.str (S o.1), .non, .str (fmS o.2), .non, .int 0, .bl false, .non]) := s _ _ hp
      walk_at "g"
      refine ⟨rfl, ?_⟩
      walk_at "g"
      exact N' _ _ (by rw [List.getElem?_map, List.getElem?_map, eo]; rfl) (Same.refl _)
    have h1' := s1 _ _ h1
    walk_at "g"
    refine r_lcQ ?_
    walk_at "g"
    refine r_seqZ (.inr (SqT.of (s1 _ _ h2))) fun J2 SI2 D2 hD2 => ?_
    refine comp_filt SI2 hD2 (fun _ => none) (Nat.lt_of_le_of_lt l6 (by decide)) (fun i x H' N N0 hx s hN hN0 => ?_) fun H2 s2 hl2 => ?_
    · obtain ⟨q, o, rfl, eo, hp⟩ := h3.get hx
      have hp' : H' q = some (.tup [.str (S o.1), .non, .str (fmS o.2), .non, .int 0, .bl false, .non]) := s _ _ (s1 _ _ hp)
      walk_at "g"
      refine ⟨rfl, ?_⟩
      walk_at "g"
      exact hN0 _ rfl (Same.refl _)
    have s12 := s1.trans s2
    have h1' := s12 _ _ h1
    walk_at "g"
    refine r_lcQ ?_
    walk_at "g"
    refine r_seqZ (.inr (SqT.of (s12 _ _ h7))) fun J3 SI3 D3 hD3 => ?_
    refine comp_keep SI3 hD3 (us.map wV) (by rw [List.length_map, hl]) (Nat.lt_of_le_of_lt h6 (by decide)) (fun i x H' N N0 hx s hN => ?_) fun H3 s3 hl3 => ?_
    · obtain ⟨q, u, ys, rfl, eu, hn, hp⟩ := hcs i x hx
      have hp' := (s12.trans s) _ _ hp
      walk_at "g"
      refine ⟨rfl, ?_⟩
      walk_at "g"
      refine ⟨q, S u, ys, rfl, hp', by rw [cd_S]; exact hn, ?_⟩
      walk_at "g"
      refine r_ixTu (SqT.of hp') (atI_nat (j := 0) rfl) ?_
      exact hN _ _ (by rw [List.getElem?_map, eu]; rfl) (Same.refl _)
    have s13 := s12.trans s3
    have e2 : xs.filterMap (fun _ => (none : Option V)) = [] := by simp
    rw [e2] at hl2
    walk_at "g"
    refine r_for ?_
    refine r_isq ?_
    walk_at "g"
    refine ⟨show 3 ≤ sizeLine by decide, fun t ht => ?_⟩
    have s4 := (Same.refl H3).at ht (.tup [.ref D, .ref D2, .ref D3])
    have h4' : upd H3 t (.tup [.ref D, .ref D2, .ref D3]) t = some (.tup [.ref D, .ref D2, .ref D3]) := upd_same
    generalize upd H3 t (.tup [.ref D, .ref D2, .ref D3]) = H4 at s4 h4'
    have s14 := s13.trans s4
    refine ⟨t, _, rfl, .inr ⟨SqT.of h4', ?_⟩⟩
    refine loop_seq (seqIt_t (SqT.of h4')) (fun _ σ' H' => ∃ os : List (Option V), σ' = some p :: some (.ref a) :: some (.ref D) :: some (.ref D2) :: some (.ref D3) :: os ∧ os.length = 6 ∧ Same H4 H') (fun _ _ _ ⟨_, _, _, s⟩ => s) ⟨_, rfl, rfl, Same.refl _⟩ (fun i x σ1 H5 hx w => ?_) fun σ1 H5 w => ?_
    · obtain ⟨os, rfl, los, s5⟩ := w
      match os, los with
      | [o5, o6, o7, o8, o9, o10], _ =>
      have hz : ∃ (d : Addr) (ls : List (List Nat)), x = .ref d ∧ H5 d = some (.lst (ls.map wV)) ∧ ls.length ≤ 100 ∧ ls.Nodup := by
        match i, hx with
        | 0, e => cases e; exact ⟨D, _, rfl, s5 _ _ (s4 _ _ (s3 _ _ (s2 _ _ hl1))), by rw [List.length_map]; exact Nat.le_trans ho.1 (by decide), ho.2.2⟩
        | 1, e => cases e; exact ⟨D2, [], rfl, s5 _ _ (s4 _ _ (s3 _ _ hl2)), by decide, List.nodup_nil⟩
        | 2, e => cases e; exact ⟨D3, us, rfl, s5 _ _ (s4 _ _ hl3), by omega, hu⟩
        | n + 3, e => cases e
      obtain ⟨d, ls, rfl, hd, l100, nd⟩ := hz
      walk_at "g"
      refine ⟨d, ls, rfl, .inl (SqL.of hd), l100, ?_⟩
      rw [decide_eq_true nd]
      walk_at "g"
      exact ⟨_, rfl, rfl, s5⟩
    · obtain ⟨os, rfl, los, s5⟩ := w
      exact k _ (s14.trans s5)
theorem ok_has_default (T : Tx K mg) {f f_is_whole f_fits_form f_own_name : Addr} {fd fd_is_whole fd_fits_form fd_own_name : FuncData} (F : Fun K "_has_default" "_has_default" s_has_default f fd)
    (D_is_whole : DAt K mg "is_whole" s_is_whole P_is_whole f_is_whole fd_is_whole)
    (D_fits_form : DAt K mg "fits_form" s_fits_form P_fits_form f_fits_form fd_fits_form)
    (D_own_name : DAt K mg "own_name" s_own_name P_own_name f_own_name fd_own_name) : FnOk P w K mg base CX0 3 f fd P_has_default spHasDef := by
  have G_fits_form : FnOk P w K mg base CX0 2 f_fits_form fd_fits_form P_fits_form spFitsForm := ok_fits_form T D_fits_form.fn D_is_whole
  have G_own_name : FnOk P w K mg base CX0 1 f_own_name fd_own_name P_own_name spNoOwn := ok_own_name T D_own_name.fn
  refine F.ok sc_has_default (fun vs H Q E h => ?_) (fun cdv A outer s H vs Q E hr h => ?_)
  · obtain ⟨a, w, o, rfl, _⟩ := h
    rfl
  · obtain ⟨a, w, o, rfl, ha, k⟩ := h
    have ha' : H a = some (.tup [.str (S o.1), .non, .str (fmS o.2), .non, .int 0, .bl false, .non]) := ha
    refine ⟨_, (pss_cons (ps_asg (pv 0) (asGTup (K := K) rfl (pg_tup rfl (pgs_cons (pg_name (i := 2) sc_has_default.nd rfl (Or.inl rfl)) (pgs_cons (pg_name (i := 2) sc_has_default.nd rfl (Or.inl rfl)) (pgs_cons (pg_name (i := 3) sc_has_default.nd rfl (Or.inl rfl)) (pgs_cons (pg_name (i := 4) sc_has_default.nd rfl (Or.inr rfl)) (pgs_cons (pg_name (i := 5) sc_has_default.nd rfl (Or.inl rfl)) (pgs_cons (pg_name (i := 2) sc_has_default.nd rfl (Or.inl rfl)) (pgs_cons (pg_name (i := 2) sc_has_default.nd rfl (Or.inl rfl)) pgs_nil)))))))))) (pss_cons (ps_if (pt_not (pt_val (pe_call G_fits_form (hr.mono (by decide)) rfl D_fits_form.gl D_fits_form.fn.kp D_fits_form.bd .nil pass0 (pa_cons (pv 3) (pa_cons (pv 4) (pa_cons (pv 5) pa_nil)))))) (pss_one (ps_ret pe_bl)) pss_nil) (pss_cons (ps_if (PW.pt (pw_or (pt_cmpR L2.op_isN (pe_call G_own_name (hr.mono (by decide)) rfl D_own_name.gl D_own_name.fn.kp D_own_name.bd .nil pass0 (pa_cons (pv 4) pa_nil)) pe_non (nomark _)) (pw_or1 (pt_cmpR L2.op_isN (pv 5) pe_non (nomark _))))) (pss_one (ps_ret pe_bl)) pss_nil) (pss_cons ps_false (pss_one ps_false))))), ?_⟩
    walk_at "g"
    refine r_gtup (SqT.of ha') rfl ?_
    walk_at "g"
    refine ⟨o.2, rfl, ?_⟩
    walk_at "g"
    refine ⟨_, rfl, rfl, ?_⟩
    walk_at "g"
    exact k
theorem ok_no_groups (T : Tx K mg) {f : Addr} {fd : FuncData} (F : Fun K "_refuse_group" "_refuse_group" s_refuse_group f fd) : FnOk P w K mg base CX0 1 f fd P_refuse_group spNoGroups := by
  refine F.ok sc_refuse_group (fun vs H Q E h => ?_) (fun cdv A outer s H vs Q E hr h => ?_)
  · obtain ⟨p, a, nm, os, cs, rfl, _⟩ := h
    rfl
  · obtain ⟨p, a, nm, os, cs, rfl, hc, k⟩ := h
    obtain ⟨oa, pa, ga, ca, xs, h1, h2, h3, h4, h5, h7⟩ := hc.ex
    refine ⟨_, (pss_cons (ps_if (pt_not (pt_truth (pe_ix (ix_seq : IxR _ (rIx K)) (pv 1) (pe_gI T.c_GROUPS rfl) (fun _ _ => rfl)) (by intro _; rfl))) (pss_one ps_retN) pss_nil) (pss_cons ps_false (pss_one ps_false))), ?_⟩
    walk_at "g"
    refine ⟨false, .inr (.inl ⟨[], SqT.of h5, rfl⟩), ?_⟩
    show if (!false) = true then _ else _
    walk_at "g"
    exact k
theorem ok_beneath (T : Tx K mg) {f f_is_name f_begins_with_name : Addr} {fd fd_is_name fd_begins_with_name : FuncData} (F : Fun K "_path_beneath" "_path_beneath" s_path_beneath f fd)
    (D_is_name : DAt K mg "is_name" s_is_name P_is_name f_is_name fd_is_name)
    (D_begins_with_name : DAt K mg "begins_with_name" s_begins_with_name P_begins_with_name f_begins_with_name fd_begins_with_name) : FnOk P w K mg base CX0 3 f fd P_path_beneath spBeneath := by
  have G_begins_with_name : FnOk P w K mg base CX0 2 f_begins_with_name fd_begins_with_name P_begins_with_name spNamed := ok_begins T D_begins_with_name.fn D_is_name
  refine F.ok sc_path_beneath (fun vs H Q E h => ?_) (fun cdv A outer s H vs Q E hr h => ?_)
  · obtain ⟨p, a, ps, z, xs, rfl, _⟩ := h
    rfl
  · obtain ⟨p, a, ps, z, xs, rfl, hp, ha, hz, l3, k⟩ := h
    refine ⟨_, (pss_one (ps_ret (pe_ifExp (pt_val (pe_call G_begins_with_name (hr.mono (by decide)) rfl D_begins_with_name.gl D_begins_with_name.fn.kp D_begins_with_name.bd .nil pass0 (pa_cons (pv 1) pa_nil))) (pe_op (oAdd : OpR _ _ (J.rAdd K)) (pv 0) (pe_tup (pa_cons (pe_ix (ix_seq : IxR _ (rIx K)) (pv 1) (pe_gI T.c_NAME rfl) (fun _ _ => rfl)) pa_nil))) (pv 0)))), ?_⟩
    walk_at "g"
    refine ⟨a, z, xs, rfl, ha, hz, ?_⟩
    walk_at "g"
    refine r_ixTu (SqT.of ha) (atI_nat (j := 0) rfl) ?_
    walk_at "g"
    refine ⟨show 1 ≤ sizeLine by decide, fun q hq => ?_⟩
    have s1 := (Same.refl H).at hq (.tup [.str z])
    have h1 : upd H q (.tup [.str z]) q = some (.tup [.str z]) := upd_same
    generalize upd H q (.tup [.str z]) = H1 at s1 h1
    refine r_catT2 (s1 _ _ hp) h1 (by simp only [List.length_cons, List.length_nil]; omega) fun c H2 s2 h2 => ?_
    exact k _ _ (s1.trans s2) h2
theorem ok_look (T : Tx K mg) {f f_is_name f_begins_with_name f_is_tuple_to f_has_option_form f_are_in_order f_are_places f_has_command_form f_are_unlike f_refuse_twice f_own_names f_is_whole f_fits_form f_own_name f_has_default f_refuse_group : Addr} {fd fd_is_name fd_begins_with_name fd_is_tuple_to fd_has_option_form fd_are_in_order fd_are_places fd_has_command_form fd_are_unlike fd_refuse_twice fd_own_names fd_is_whole fd_fits_form fd_own_name fd_has_default fd_refuse_group : FuncData} (F : Fun K "_look_at" "_look_at" s_look_at f fd)
    (D_is_name : DAt K mg "is_name" s_is_name P_is_name f_is_name fd_is_name)
    (D_begins_with_name : DAt K mg "begins_with_name" s_begins_with_name P_begins_with_name f_begins_with_name fd_begins_with_name)
    (D_is_tuple_to : DAt K mg "_is_tuple_to" s_is_tuple_to P_is_tuple_to f_is_tuple_to fd_is_tuple_to)
    (D_has_option_form : DAt K mg "has_option_form" s_has_option_form P_has_option_form f_has_option_form fd_has_option_form)
    (D_are_in_order : DAt K mg "_are_in_order" s_are_in_order P_are_in_order f_are_in_order fd_are_in_order)
    (D_are_places : DAt K mg "_are_places" s_are_places P_are_places f_are_places fd_are_places)
    (D_has_command_form : DAt K mg "has_command_form" s_has_command_form P_has_command_form f_has_command_form fd_has_command_form)
    (D_are_unlike : DAt K mg "are_unlike" s_are_unlike P_are_unlike f_are_unlike fd_are_unlike)
    (D_refuse_twice : DAt K mg "_refuse_twice" s_refuse_twice P_refuse_twice f_refuse_twice fd_refuse_twice)
    (D_own_names : DAt K mg "_own_names" s_own_names P_own_names f_own_names fd_own_names)
    (D_is_whole : DAt K mg "is_whole" s_is_whole P_is_whole f_is_whole fd_is_whole)
    (D_fits_form : DAt K mg "fits_form" s_fits_form P_fits_form f_fits_form fd_fits_form)
    (D_own_name : DAt K mg "own_name" s_own_name P_own_name f_own_name fd_own_name)
    (D_has_default : DAt K mg "_has_default" s_has_default P_has_default f_has_default fd_has_default)
    (D_refuse_group : DAt K mg "_refuse_group" s_refuse_group P_refuse_group f_refuse_group fd_refuse_group) : FnOk P w K mg base CX0 4 f fd P_look_at spLookCmd := by
  have G_has_command_form : FnOk P w K mg base CX0 3 f_has_command_form fd_has_command_form P_has_command_form spCmdForm := ok_cmd_form T D_has_command_form.fn D_is_name D_begins_with_name D_is_tuple_to D_has_option_form D_are_in_order D_are_places
  have G_refuse_twice : FnOk P w K mg base CX0 3 f_refuse_twice fd_refuse_twice P_refuse_twice spTwice := ok_twice T D_refuse_twice.fn D_is_name D_begins_with_name D_are_unlike
  have G_own_names : FnOk P w K mg base CX0 1 f_own_names fd_own_names P_own_names spOwnNames := ok_own_names T D_own_names.fn
  have G_has_default : FnOk P w K mg base CX0 3 f_has_default fd_has_default P_has_default spHasDef := ok_has_default T D_has_default.fn D_is_whole D_fits_form D_own_name
  have G_refuse_group : FnOk P w K mg base CX0 1 f_refuse_group fd_refuse_group P_refuse_group spNoGroups := ok_no_groups T D_refuse_group.fn
  refine F.ok sc_look_at (fun vs H Q E h => ?_) (fun cdv A outer s H vs Q E hr h => ?_)
  · obtain ⟨p, a, t, w, nm, os, os', cs, us, rfl, _⟩ := h
    rfl
  · obtain ⟨p, a, t, w, nm, os, os', cs, us, rfl, hc, hn, ho, hs, hu, h6, k⟩ := h
    refine ⟨_, (pss_cons (ps_if (pt_not (pt_val (pe_call G_has_command_form (hr.mono (by decide)) rfl D_has_command_form.gl D_has_command_form.fn.kp D_has_command_form.bd .nil pass0 (pa_cons (pv 1) pa_nil)))) (pss_one ps_never) pss_nil) (pss_cons (ps_expr (pe_call G_refuse_twice (hr.mono (by decide)) rfl D_refuse_twice.gl D_refuse_twice.fn.kp D_refuse_twice.bd .nil pass0 (pa_cons (pv 0) (pa_cons (pv 1) pa_nil)))) (pss_cons (ps_for (PassesOwn.never) rfl (asSeq (K := K) rfl (pi_seq (pe_call G_own_names (hr.mono (by decide)) rfl D_own_names.gl D_own_names.fn.kp D_own_names.bd .nil pass0 (pa_cons (pv 1) pa_nil)))) (pg_name (i := 4) sc_look_at.nd rfl (Or.inl rfl)) (pss_cons (ps_if pt_false (pss_one ps_never) pss_nil) (pss_one (ps_if pt_false (pss_one ps_false) pss_nil)))) (pss_cons (ps_for (PassesOwn.never) rfl (asSeq (K := K) rfl (pi_seq (pe_ix (ix_seq : IxR _ (rIx K)) (pv 1) (pe_gI T.c_OPTIONS rfl) (fun _ _ => rfl)))) (pg_name (i := 5) sc_look_at.nd rfl (Or.inl rfl)) (pss_one (ps_if (pt_not (pt_val (pe_call G_has_default (hr.mono (by decide)) rfl D_has_default.gl D_has_default.fn.kp D_has_default.bd .nil pass0 (pa_cons (pv 5) (pa_cons (pv 3) pa_nil))))) (pss_one ps_never) pss_nil))) (pss_one (ps_expr (pe_call G_refuse_group (hr.mono (by decide)) rfl D_refuse_group.gl D_refuse_group.fn.kp D_refuse_group.bd .nil pass0 (pa_cons (pv 0) (pa_cons (pv 1) pa_nil))))))))), ?_⟩
    walk_at "g"
    refine ⟨a, nm, os, cs, rfl, hc, hn, ho, h6, fun H1 s1 => ?_⟩
    have c1 := hc.keep (TupK.of s1)
    walk_at "g"
    refine ⟨p, a, nm, os, cs, us, rfl, c1, ho, hu, hs.1, h6, fun i x e => ?_, fun H2 s2 => ?_⟩
    · obtain ⟨c, u, e1, e2, e3, e4⟩ := hs.2 i x e
      obtain ⟨oa, pa, ga, ca, xs, h1, _⟩ := e4.ex
      exact ⟨c, u, _, e1, e2, e3, s1 _ _ h1⟩
    have s12 := s1.trans s2
    have c2 := hc.keep (TupK.of s12)
    walk_at "g"
    refine r_for ?_
    refine r_isq ?_
    walk_at "g"
    refine ⟨a, nm, os, cs, rfl, c2, ho.1, fun H3 e s3 he h3 => ?_⟩
    have s13 := s12.trans s3
    have c3 := hc.keep (TupK.of s13)
    refine ⟨e, _, rfl, .inl ⟨SqL.of h3, ?_⟩⟩
    refine loop_seq (seqIt_l (SqL.of h3)) (fun _ σ' H' => ∃ o4 o5 : Option V, σ' = [some p, some (.ref a), some (.ref t), some (.ref w), o4, o5] ∧ H' = H3) (fun _ _ _ ⟨_, _, _, e⟩ => by subst e; exact Same.refl _) ⟨_, _, rfl, rfl⟩ (fun i x σ1 H5 hx w => by cases hx) fun σ1 H5 w' => ?_
    obtain ⟨o4, o5, rfl, rfl⟩ := w'
    obtain ⟨oa, pa, ga, ca, xs, h1, h2, h3', h4, h5, h7⟩ := c3.ex
    walk_at "g"
    refine r_for ?_
    refine r_isq ?_
    walk_at "g"
    refine ⟨oa, _, rfl, .inr ⟨SqT.of h2, ?_⟩⟩
    refine loop_seq (seqIt_t (SqT.of h2)) (fun _ σ' H' => ∃ o4 o5 : Option V, σ' = [some p, some (.ref a), some (.ref t), some (.ref w), o4, o5] ∧ H' = H5) (fun _ _ _ ⟨_, _, _, e⟩ => by subst e; exact Same.refl _) ⟨_, _, rfl, rfl⟩ (fun i x σ1 H6 hx w' => ?_) fun σ1 H6 w' => ?_
    · obtain ⟨o4, o5, rfl, rfl⟩ := w'
      obtain ⟨q, o, rfl, eo, hp⟩ := h3'.get hx
      walk_at "g"
      refine ⟨q, w, o, rfl, hp, ?_⟩
      walk_at "g"
      exact ⟨_, _, rfl, rfl⟩
    · obtain ⟨o4, o5, rfl, rfl⟩ := w'
      walk_at "g"
      refine ⟨p, a, nm, os, cs, rfl, c3, ?_⟩
      exact k _ s13
end
end K16
namespace K16
open PySem PySem.Spec PyProof.Rows L2 J M
local macro_rules | `(tactic| walk_at "hp") => `(tactic| first | assumption | exact upd_same | (rw [upd_ne (by assumption)]; walk_at "hp") | (rw [upd_ne (Ne.symm (by assumption))]; walk_at "hp"))
local macro_rules | `(tactic| walk_at "s") => `(tactic| first
  | ((with_reducible refine' r_var ?h ?k); (case h => exact rfl))
  | (with_reducible refine r_c ?_)
  | (with_reducible refine r_op ?_)
  | (with_reducible refine r_un ?_)
  | (with_reducible refine r_seq ?_)
  | (with_reducible refine r_next ?_)
  | (with_reducible refine r_sets ?_)
  | (with_reducible refine r_gname ?_)
  | (with_reducible refine r_ifS ?_)
  | (with_reducible refine r_gsub ?_)
  | (with_reducible refine r_test ?_)
  | (with_reducible refine r_tb ?_)
  | (with_reducible refine r_not ?_)
  | (with_reducible refine r_and ?_)
  | (with_reducible refine r_or ?_)
  | (with_reducible refine r_andV ?_)
  | (with_reducible refine r_orV ?_)
  | (with_reducible refine r_notV ?_)
  | (with_reducible refine r_ifE ?_)
  | (with_reducible refine r_chain ?_)
  | (with_reducible refine r_cb ?_)
  | (with_reducible refine r_cons ?_)
  | (with_reducible refine r_nil ?_)
  | (with_reducible refine r_call ?_)
  | (with_reducible refine r_lst ?_)
  | (with_reducible refine r_tup ?_)
  | (with_reducible refine r_slice ?_)
  | (with_reducible refine r_nop ?_)
  | (with_reducible refine r_part ?_)
  | (with_reducible refine r_bm ?_)
  | (with_reducible refine r_m1 ?_)
  | (with_reducible refine r_m0 ?_)
  | (with_reducible refine r_is ?_)
  | (with_reducible refine r_maxD ?_)
  | (with_reducible refine r_orT ?_)
  | (with_reducible refine r_truN ?_)
  | (with_reducible refine r_intI ?_)
  | (with_reducible refine r_intB ?_)
  | (with_reducible refine r_max2 ?_)
  | (with_reducible refine r_min2 ?_)
  | (with_reducible refine r_yes ?_)
  | (with_reducible refine r_bl ?_)
  | (with_reducible refine iteT ?_)
  | (with_reducible refine iteF ?_)
  | (with_reducible refine r_iteNT ?_)
  | (with_reducible refine r_iteNF ?_)
  | (with_reducible refine r_minL ?_)
  | (with_reducible refine r_gcons ?_)
  | (with_reducible refine r_gnil ?_)
  | (with_reducible refine r_par ?_)
  | (with_reducible refine r_par3 ?_)
  | (with_reducible refine r_is2 ?_)
  | (with_reducible refine r_is3 ?_)
  | (with_reducible refine r_dget ?_)
  | (with_reducible refine r_callS ?_)
  | (with_reducible refine r_rz ?_)
  | (with_reducible refine r_rev ?_)
  | (with_reducible refine r_isI ?_)
  | (with_reducible refine r_isStr ?_)
  | (with_reducible refine r_ret ?_)
  | (with_reducible refine r_drop ?_)
  | (with_reducible refine r_rI0 ?_)
  | (with_reducible refine r_addI ?_)
  | ((with_reducible show rI (fun _ j => 0 < j) _ (.int _) (.int _) _ _); refine r_rI (by first | omega | decide) ?_)
  | ((with_reducible show rI CDiv _ (.int _) (.int _) _ _); refine r_rI (by constructor <;> omega) ?_)
  | ((with_reducible show rI CPow _ (.int _) (.int _) _ _); refine r_rI (by refine ⟨by decide, by decide, ?_⟩; omega) ?_)
  | ((with_reducible show rMul (.int _) (.int _) _ _); refine r_mulI (cmulW (by omega) (by omega)) ?_)
  | (with_reducible refine r_cmpI ?_)
  | (with_reducible refine r_cmpS ?_)
  | (with_reducible refine r_eqI ?_)
  | (with_reducible refine r_neI ?_)
  | (with_reducible refine r_eqS ?_)
  | (with_reducible refine r_neS ?_)
  | (with_reducible refine r_inSF ?_)
  | (with_reducible refine r_inST ?_)
  | (with_reducible refine r_isiStr ?_)
  | ((with_reducible show rIx _ (.ref _) (.int _) _ _); refine' r_ixL (SqL.of ?h) ?e ?_; (case h => walk_at "hp"); (case e => rfl))
  | ((with_reducible show rSetL (.ref _) (.int _) _ _ _); refine' r_setL ?h ?e ?_; (case h => walk_at "hp"); (case e => rfl)))
local macro_rules | `(tactic| walk_at "g") => `(tactic| repeat walk_at "s")
local macro_rules | `(tactic| walk_at "x") => `(tactic| first | omega | decide +kernel | (simp only [List.length_cons, List.length_nil]; omega))
local macro_rules | `(tactic| walk_at "T1") => `(tactic| (first
  | walk_at "s"
  | ((with_reducible show rIx _ (.ref _) (.int _) _ _); refine' r_ixTu (SqT.of ?h) ?e ?_; (case h => first | assumption | walk_at "hp"); (case e => rfl))
  | (with_reducible refine r_lenSet ?_)
  | (with_reducible refine r_asg2 ?_)
  | (with_reducible refine iteDT (by walk_at "x") ?_)
  | (with_reducible refine iteDF (by walk_at "x") ?_)
  | (with_reducible refine iteNT (by walk_at "x") ?_)
  | (with_reducible refine iteNF (by walk_at "x") ?_)))
local macro_rules | `(tactic| walk_at "T") => `(tactic| repeat (first
  | walk_at "s"
  | ((with_reducible show rIx _ (.ref _) (.int _) _ _); refine' r_ixTu (SqT.of ?h) ?e ?_; (case h => first | assumption | walk_at "hp"); (case e => rfl))
  | (with_reducible refine r_lenSet ?_)
  | (with_reducible refine r_asg2 ?_)
  | (with_reducible refine iteDT (by walk_at "x") ?_)
  | (with_reducible refine iteDF (by walk_at "x") ?_)
  | (with_reducible refine iteNT (by walk_at "x") ?_)
  | (with_reducible refine iteNF (by walk_at "x") ?_)))
local macro_rules | `(tactic| walk_at "g") => `(tactic| repeat (first | walk_at "T1" | (with_reducible refine r_fld ?_) | (with_reducible refine r_sfl ?_) | (with_reducible refine r_ifT ?_) | (with_reducible refine r_nn ?_)))
section
variable {P : Program} {w : World} {K : PySem.W.Frag} {mg : Str → Option Value} {base : Heap}
theorem ok_deep (T : Tx K mg) {f : Addr} {fd : FuncData} (F : Fun K "_refuse_deep" "_refuse_deep" s_refuse_deep f fd) : FnOk P w K mg base CX0 1 f fd P_refuse_deep spDeep := by
  refine F.ok sc_refuse_deep (fun vs H Q E h => ?_) (fun cdv A outer s H vs Q E hr h => ?_)
  · obtain ⟨d, kvs, rfl, _⟩ := h
    rfl
  · obtain ⟨d, kvs, rfl, hd, h2, k⟩ := h
    refine ⟨_, (pss_one (ps_lock (ps_for (PassesOwn.never) rfl (pi_keys (pv 0)) (pg_name (i := 1) sc_refuse_deep.nd rfl (Or.inl rfl)) (pss_one (ps_if (pt_cmpR op_gtA (pe_callB (call_lenA : CallR _ _ (J.rLen K)) (by rfl) T.z_len (by decide +kernel) (pa_cons (pv 1) pa_nil)) (pe_gI T.c_MOST_LEVELS rfl) (nomark _)) (pss_one ps_never) pss_nil))))), ?_⟩
    walk_at "g"
    refine r_lockS hd trivial fun od => ?_
    refine r_for ?_
    refine r_iky ?_
    walk_at "g"
    refine ⟨d, od, rfl, .inr ⟨kvs, upd_same, ?_⟩⟩
    refine loop_keysT (fun _ σ' H' => ∃ o1 : Option V, σ' = [some (.ref d), o1] ∧ Same (upd H d (.frz od (.dT kvs))) H') (fun _ _ _ ⟨_, _, s⟩ => s _ _ upd_same) ⟨_, rfl, Same.refl _⟩ (fun i ks v q σ1 H1 e hq w => ?_) fun σ1 H1 w => ?_
    · obtain ⟨o1, rfl, s1⟩ := w
      have l2 : ks.length ≤ 2 := h2 _ (List.mem_of_getElem? e)
      walk_at "g"
      refine r_lenT (SqT.of hq) ?_
      rw [List.length_map]
      walk_at "g"
      exact ⟨_, rfl, s1⟩
    · obtain ⟨o1, rfl, s1⟩ := w
      refine ⟨s1 _ _ upd_same, ?_⟩
      exact k _ (unlock_same hd s1)
theorem ok_fitted (T : Tx K mg) {f f_is_name f_begins_with_name f_is_tuple_to f_has_option_form f_are_in_order f_are_places f_has_command_form f_are_unlike f_refuse_twice f_own_names f_is_whole f_fits_form f_own_name f_has_default f_refuse_group f_look_at f_path_beneath f_refuse_deep : Addr} {fd fd_is_name fd_begins_with_name fd_is_tuple_to fd_has_option_form fd_are_in_order fd_are_places fd_has_command_form fd_are_unlike fd_refuse_twice fd_own_names fd_is_whole fd_fits_form fd_own_name fd_has_default fd_refuse_group fd_look_at fd_path_beneath fd_refuse_deep : FuncData} (F : Fun K "fitted" "fitted" s_fitted f fd)
    (D_is_name : DAt K mg "is_name" s_is_name P_is_name f_is_name fd_is_name)
    (D_begins_with_name : DAt K mg "begins_with_name" s_begins_with_name P_begins_with_name f_begins_with_name fd_begins_with_name)
    (D_is_tuple_to : DAt K mg "_is_tuple_to" s_is_tuple_to P_is_tuple_to f_is_tuple_to fd_is_tuple_to)
    (D_has_option_form : DAt K mg "has_option_form" s_has_option_form P_has_option_form f_has_option_form fd_has_option_form)
    (D_are_in_order : DAt K mg "_are_in_order" s_are_in_order P_are_in_order f_are_in_order fd_are_in_order)
    (D_are_places : DAt K mg "_are_places" s_are_places P_are_places f_are_places fd_are_places)
    (D_has_command_form : DAt K mg "has_command_form" s_has_command_form P_has_command_form f_has_command_form fd_has_command_form)
    (D_are_unlike : DAt K mg "are_unlike" s_are_unlike P_are_unlike f_are_unlike fd_are_unlike)
    (D_refuse_twice : DAt K mg "_refuse_twice" s_refuse_twice P_refuse_twice f_refuse_twice fd_refuse_twice)
    (D_own_names : DAt K mg "_own_names" s_own_names P_own_names f_own_names fd_own_names)
    (D_is_whole : DAt K mg "is_whole" s_is_whole P_is_whole f_is_whole fd_is_whole)
    (D_fits_form : DAt K mg "fits_form" s_fits_form P_fits_form f_fits_form fd_fits_form)
    (D_own_name : DAt K mg "own_name" s_own_name P_own_name f_own_name fd_own_name)
    (D_has_default : DAt K mg "_has_default" s_has_default P_has_default f_has_default fd_has_default)
    (D_refuse_group : DAt K mg "_refuse_group" s_refuse_group P_refuse_group f_refuse_group fd_refuse_group)
    (D_look_at : DAt K mg "_look_at" s_look_at P_look_at f_look_at fd_look_at)
    (D_path_beneath : DAt K mg "_path_beneath" s_path_beneath P_path_beneath f_path_beneath fd_path_beneath)
    (D_refuse_deep : DAt K mg "_refuse_deep" s_refuse_deep P_refuse_deep f_refuse_deep fd_refuse_deep) : FnOk P w K mg base CX0 5 f fd P_fitted spFitted := by
  have G_look_at : FnOk P w K mg base CX0 4 f_look_at fd_look_at P_look_at spLookCmd := ok_look T D_look_at.fn D_is_name D_begins_with_name D_is_tuple_to D_has_option_form D_are_in_order D_are_places D_has_command_form D_are_unlike D_refuse_twice D_own_names D_is_whole D_fits_form D_own_name D_has_default D_refuse_group
  have G_path_beneath : FnOk P w K mg base CX0 3 f_path_beneath fd_path_beneath P_path_beneath spBeneath := ok_beneath T D_path_beneath.fn D_is_name D_begins_with_name
  have G_refuse_deep : FnOk P w K mg base CX0 1 f_refuse_deep fd_refuse_deep P_refuse_deep spDeep := ok_deep T D_refuse_deep.fn
  refine F.ok sc_fitted (fun vs H Q E h => ?_) (fun cdv A outer s H vs Q E hr h => ?_)
  · obtain ⟨r, t, nm, os, os', cs, us, rfl, _⟩ := h
    rfl
  · obtain ⟨r, t, nm, os, os', cs, us, rfl, hc, hn, ho, hs, ho', hu, h6, k⟩ := h
    refine ⟨_, (pss_cons (ps_par (i := 2) (j := 3) rfl sc_fitted.nd rfl rfl (by decide) rfl rfl (pa_cons pe_dnewT (pa_cons pe_dnewK pa_nil)) rfl) (pss_cons (ps_set (i := 4) sc_fitted.nd rfl (Or.inl rfl) (pe_lst (pa_cons (pe_tup (pa_cons (pe_tup pa_nil) (pa_cons (pv 0) pa_nil))) pa_nil))) (pss_cons (ps_while (PassesOwn.never) (pt_truth (pv 4) (by intro _; rfl)) (pss_cons (ps_asg (asBM0 (K := K) rfl (pe_bm0 PySem.F.plainAttrs_list PySem.F.slot_list_pop PySem.F.type_list_pop mt_pop (pv 4))) (asGTup (K := K) rfl (pg_tup rfl (pgs_cons (pg_name (i := 5) sc_fitted.nd rfl (Or.inl rfl)) (pgs_cons (pg_name (i := 6) sc_fitted.nd rfl (Or.inl rfl)) pgs_nil))))) (pss_cons (ps_expr (pe_call G_look_at (hr.mono (by decide)) rfl D_look_at.gl D_look_at.fn.kp D_look_at.bd .nil pass0 (pa_cons (pv 5) (pa_cons (pv 6) (pa_cons (pv 1) (pa_cons (pv 3) pa_nil)))))) (pss_cons (ps_dput (hu_of hr) (pv 2) (pv 5) (pv 6) rfl) (pss_one (ps_for (PassesOwn.never) rfl (asRevA (K := K) rfl (RT.pi_revA rfl T.z_reversed (pe_ix (ix_seq : IxR _ (rIx K)) (pv 6) (pe_gI T.c_COMMANDS rfl) (fun _ _ => rfl)))) (pg_name (i := 7) sc_fitted.nd rfl (Or.inl rfl)) (pss_one (ps_expr (asBM (K := K) rfl (pe_bm PySem.F.plainAttrs_list PySem.F.slot_list_append PySem.F.type_list_append mt_append (pv 4) (pa_cons (pe_tup (pa_cons (pe_call G_path_beneath (hr.mono (by decide)) rfl D_path_beneath.gl D_path_beneath.fn.kp D_path_beneath.bd .nil pass0 (pa_cons (pv 5) (pa_cons (pv 7) pa_nil))) (pa_cons (pv 7) pa_nil))) pa_nil))))))))))) (pss_cons (ps_expr (pe_call G_refuse_deep (hr.mono (by decide)) rfl D_refuse_deep.gl D_refuse_deep.fn.kp D_refuse_deep.bd .nil pass0 (pa_cons (pv 2) pa_nil))) (pss_cons (ps_if (pt_cmpR op_gtA (pe_callB (L2.call_len_dT : CallR _ _ L2.rLenT) (by rfl) T.z_len (by decide +kernel) (pa_cons (pv 2) pa_nil)) (pe_gI T.c_MOST_COMMANDS rfl) (nomark _)) (pss_one ps_never) pss_nil) (pss_one (ps_ret (pe_tup (pa_cons (pv 2) (pa_cons (pv 3) pa_nil)))))))))), ?_⟩
    walk_at "g"
    intro dc hdc
    have s1 := (Same.refl H).at hdc (.dT [])
    have d1 : upd H dc (.dT []) dc = some (.dT []) := upd_same
    generalize upd H dc (.dT []) = H1 at s1 d1 ⊢
    walk_at "g"
    intro dw hdw
    have s2 := s1.trans ((Same.refl H1).at hdw (.dK []))
    have hdw0 : H dw = none := Same.non s1 hdw
    have ne : dc ≠ dw := fun e => by subst e; exact nomatch hdw.symm.trans d1
    have d2 : upd H1 dw (.dK []) dc = some (.dT []) := by rw [upd_ne ne]; exact d1
    have w2 : upd H1 dw (.dK []) dw = some (.dK []) := upd_same
    generalize upd H1 dw (.dK []) = H2 at s2 d2 w2 ⊢
    walk_at "g"
    refine ⟨show 0 ≤ sizeLine by decide, fun pe hpe => ?_⟩
    have s3 := (Same.refl H2).at hpe (.tup [])
    have e3 : upd H2 pe (.tup []) pe = some (.tup []) := upd_same
    generalize upd H2 pe (.tup []) = H3 at s3 e3 ⊢
    walk_at "g"
    refine ⟨show 2 ≤ sizeLine by decide, fun pq hpq => ?_⟩
    have s4 := (Same.refl H3).at hpq (.tup [.ref pe, .ref r])
    have e4 : upd H3 pq (.tup [.ref pe, .ref r]) pq = some (.tup [.ref pe, .ref r]) := upd_same
    generalize upd H3 pq (.tup [.ref pe, .ref r]) = H4 at s4 e4 ⊢
    walk_at "g"
    refine ⟨show 1 ≤ sizeLine by decide, fun cm hcm => ?_⟩
    have s24 := s3.trans s4
    have s5 := (Same.refl H4).at hcm (.lst [.ref pq])
    have e5 : upd H4 cm (.lst [.ref pq]) cm = some (.lst [.ref pq]) := upd_same
    generalize upd H4 cm (.lst [.ref pq]) = H5 at s5 e5 ⊢
    have s25 := s24.trans s5
    have s05 := s2.trans s25
    have hcm0 : H cm = none := Same.non (s2.trans s24) hcm
    have nc : cm ≠ dc := fun e => by subst e; exact nomatch hcm.symm.trans (s24 _ _ d2)
    have nw : cm ≠ dw := fun e => by subst e; exact nomatch hcm.symm.trans (s24 _ _ w2)
    have d5 := s25 _ _ d2
    have w5 := s25 _ _ w2
    have e45 := s5 _ _ e4
    have e35 := s5 _ _ (s4 _ _ e3)
    have all_nd := allC_nodup (r := .ref r) hu cs
    walk_at "g"
    refine r_while (fun m σ' H' => ∃ (o5 o6 o7 : Option V) (zs : List V) (L done : List PE2), σ' = [some (.ref r), some (.ref t), some (.ref dc), some (.ref dw), some (.ref cm), o5, o6, o7] ∧ Same H H' ∧ H' dw = some (.dK []) ∧ H' dc = some (.dT (done.map keyE)) ∧ H' cm = some (.lst zs.reverse) ∧ Pts H' zs L ∧
      ((done = [] ∧ L = [([], .ref r)] ∧ m = cs.length + 1) ∨ (done ≠ [] ∧ done ++ L = allC (.ref r) us cs ∧ m = L.length))) (cs.length + 1)
      ⟨_, _, _, [.ref pq], [([], .ref r)], [], rfl, s05, w5, d5, e5, .cons e45 e35 .nil, .inl ⟨rfl, rfl, rfl⟩⟩ (fun m σ1 H6 w => ?_)
    obtain ⟨o5, o6, o7, zs, L, done, rfl, s6, w6, d6, e6, pts, st⟩ := w
    walk_at "g"
    refine ⟨!zs.reverse.isEmpty, .inl ⟨_, SqL.of e6, rfl⟩, ?_⟩
    cases pts with
    | nil =>
      show if false = true then _ else _
      rw [if_neg (by decide)]
      have hd : done = allC (.ref r) us cs := by
        rcases st with ⟨_, e, _⟩ | ⟨_, e, _⟩
        · cases e
        · rw [← e, List.append_nil]
      subst hd
      walk_at "g"
      refine ⟨dc, _, rfl, d6, fun e he => ?_, fun H7 s7 => ?_⟩
      · obtain ⟨x, hx, rfl⟩ := List.mem_map.mp he
        show (x.1.map Sum.inr).length ≤ 2
        rw [List.length_map]
        exact Nat.le_succ_of_le (allC_len x hx)
      walk_at "g"
      refine ⟨dc, _, rfl, s7 _ _ d6, ?_⟩
      rw [List.length_map]
      have az := allC_size (.ref r) us cs
      walk_at "g"
      refine ⟨show 2 ≤ sizeLine by decide, fun q hq => ?_⟩
      have s8 := (Same.refl H7).at hq (.tup [.ref dc, .ref dw])
      exact k _ q dc dw ((s6.trans s7).trans s8) hdc hdw0 ne (s8 _ _ (s7 _ _ d6)) (s8 _ _ (s7 _ _ w6)) upd_same
    | @cons q p e zs L hq hp pts =>
      obtain ⟨ns, x⟩ := e
      have gd : Good H r us cs ns x := by
        rcases st with ⟨_, e, _⟩ | ⟨_, e, _⟩
        · cases e
          exact good_of hc hn ho hs ho' hu h6 _ (List.mem_cons_self ..)
        · exact good_of hc hn ho hs ho' hu h6 (ns, x) (by rw [← e]; exact List.mem_append_right _ (List.mem_cons_self ..))
      have nd : ((done ++ (ns, x) :: L).map Prod.fst).Nodup := by
        rcases st with ⟨e1, e2, _⟩ | ⟨_, e, _⟩
        · rw [e1, e2]; exact List.nodup_cons.mpr ⟨List.not_mem_nil, List.nodup_nil⟩
        · rw [e]; exact all_nd
      have ld : done.length ≤ 7 := by
        rcases st with ⟨e1, e2, _⟩ | ⟨_, e, _⟩
        · rw [e1]; exact Nat.zero_le _
        · have := allC_size (.ref r) us cs
          rw [← e, List.length_append] at this
          omega
      have lL : L.length ≤ 7 := by
        rcases st with ⟨e1, e2, _⟩ | ⟨_, e, _⟩
        · cases e2; exact Nat.zero_le _
        · have := allC_size (.ref r) us cs
          rw [← e, List.length_append, List.length_cons] at this
          omega
      obtain ⟨a, nm1, os1, os2, cs1, us1, rfl, c1, n1, o1, sb1, nd1, l1, lns, kind⟩ := gd
      rw [show (!(V.ref q :: zs).reverse.isEmpty) = true by simp]
      rw [if_pos rfl]
      refine ⟨fun σ' H' => ∃ m', m' < m ∧ ∃ (o5 o6 o7 : Option V) (zs : List V) (L done : List PE2), σ' = [some (.ref r), some (.ref t), some (.ref dc), some (.ref dw), some (.ref cm), o5, o6, o7] ∧ Same H H' ∧ H' dw = some (.dK []) ∧ H' dc = some (.dT (done.map keyE)) ∧ H' cm = some (.lst zs.reverse) ∧ Pts H' zs L ∧
      ((done = [] ∧ L = [([], .ref r)] ∧ m' = cs.length + 1) ∨ (done ≠ [] ∧ done ++ L = allC (.ref r) us cs ∧ m' = L.length)), fun _ _ h => h, ?_⟩
      walk_at "g"
      refine r_bm0 ?_
      walk_at "g"
      refine r_tyL e6 ?_
      refine ⟨cm, _, .ref q, rfl, rfl, e6, by simp, ?_⟩
      rw [show (V.ref q :: zs).reverse.dropLast = zs.reverse by rw [List.reverse_cons, List.dropLast_concat]]
      have T1 : TupK H6 (upd H6 cm (.lst zs.reverse)) := TupK.upd (fun xs h => by rw [e6] at h; cases h)
      have sA : Same H (upd H6 cm (.lst zs.reverse)) := s6.at hcm0 _
      have wA : upd H6 cm (.lst zs.reverse) dw = some (.dK []) := by rw [upd_ne (Ne.symm nw)]; exact w6
      have dA : upd H6 cm (.lst zs.reverse) dc = some (.dT (done.map keyE)) := by rw [upd_ne (Ne.symm nc)]; exact d6
      have eA : upd H6 cm (.lst zs.reverse) cm = some (.lst zs.reverse) := upd_same
      have qA : upd H6 cm (.lst zs.reverse) q = some (.tup [.ref p, .ref a]) := T1 _ _ hq
      have pA : upd H6 cm (.lst zs.reverse) p = some (.tup (ns.map V.str)) := T1 _ _ hp
      have ptsA := pts.keep T1
      generalize upd H6 cm (.lst zs.reverse) = H7 at sA wA dA eA qA pA ptsA ⊢
      refine r_gtup (SqT.of qA) rfl ?_
      walk_at "g"
      refine ⟨.ref p, a, t, dw, nm1, os1, os2, cs1, us1, rfl, c1.keep (TupK.of sA), n1, o1, sb1.keep (TupK.of sA), nd1, l1, fun H8 s8 => ?_⟩
      have s08 := sA.trans s8
      walk_at "g"
      refine r_sdput ?_
      walk_at "g"
      refine ⟨dc, _, rfl, DPut.t (s8 _ _ dA) (k := ns.map Sum.inr) (by rw [kV_inr]; exact s8 _ _ pA) (by rw [List.length_map]; exact Nat.lt_of_le_of_lt ld (by decide)), ?_⟩
      rw [put_done nd]
      have T2 : TupK H8 (upd H8 dc (.dT ((done ++ [(ns, V.ref a)]).map keyE))) := TupK.upd (fun xs h => by rw [s8 _ _ dA] at h; cases h)
      have sB : Same H (upd H8 dc (.dT ((done ++ [(ns, V.ref a)]).map keyE))) := s08.at hdc _
      have wB : upd H8 dc (.dT ((done ++ [(ns, V.ref a)]).map keyE)) dw = some (.dK []) := by rw [upd_ne (Ne.symm ne)]; exact s8 _ _ wA
      have dB : upd H8 dc (.dT ((done ++ [(ns, V.ref a)]).map keyE)) dc = some (.dT ((done ++ [(ns, V.ref a)]).map keyE)) := upd_same
      have eB : upd H8 dc (.dT ((done ++ [(ns, V.ref a)]).map keyE)) cm = some (.lst zs.reverse) := by rw [upd_ne nc]; exact s8 _ _ eA
      have pB := T2 _ _ (s8 _ _ pA)
      have ptsB := (ptsA.keep (TupK.of s8)).keep T2
      generalize upd H8 dc (.dT ((done ++ [(ns, V.ref a)]).map keyE)) = H9 at sB wB dB eB pB ptsB ⊢
      obtain ⟨oa, pa, ga, ca, xs, g1, g2, g3, g4, g5, g7⟩ := c1.ex
      have g1B := sB _ _ g1
      walk_at "g"
      refine r_for ?_
      refine r_irevA ?_
      walk_at "g"
      refine ⟨ca, cs1, rfl, .inr ⟨SqT.of (sB _ _ g7), ?_⟩⟩
      refine loop_revT (fun j σ' H' => ∃ (o7 : Option V) (zs' : List V), σ' = [some (.ref r), some (.ref t), some (.ref dc), some (.ref dw), some (.ref cm), some (.ref p), some (.ref a), o7] ∧ Same H H' ∧ H' dw = some (.dK []) ∧ H' dc = some (.dT ((done ++ [(ns, V.ref a)]).map keyE)) ∧
        H' cm = some (.lst zs'.reverse) ∧ H' p = some (.tup (ns.map V.str)) ∧ Pts H' zs' ((kidsC us1 cs1).drop (cs1.length - j) ++ L)) (fun _ _ _ ⟨_, _, _, s, _⟩ => SqT.of (s _ _ g7))
        ⟨_, zs, rfl, sB, wB, dB, eB, pB, by rw [Nat.sub_zero, List.drop_of_length_le (kidsC_len us1 cs1)]; exact ptsB⟩ (fun j x σ2 H10 hx w => ?_) fun σ2 H10 w => ?_
      · obtain ⟨o7', zs', rfl, s10, w10, d10, e10, p10, pts10⟩ := w
        have lj : j < cs1.length := by
          have := (List.getElem?_eq_some_iff.mp hx).1
          rwa [List.length_reverse] at this
        rw [List.getElem?_reverse lj] at hx
        obtain ⟨c, u, rfl, hu1, hnu, hcc⟩ := sb1.2 _ _ hx
        have ens : ns = [] := by
          rcases kind with ⟨e, _⟩ | ⟨_, e, _⟩
          · exact e
          · rw [e] at lj; exact absurd lj (Nat.not_lt_zero _)
        obtain ⟨oa2, pa2, ga2, ca2, xs2, k1, _⟩ := hcc.ex
        walk_at "g"
        refine r_tyL e10 ?_
        walk_at "g"
        refine ⟨p, c, ns.map V.str, S u, _, rfl, p10, s10 _ _ k1, by rw [cd_S]; exact hnu, by rw [List.length_map]; omega, fun H11 pp s11 hpp => ?_⟩
        walk_at "g"
        refine ⟨show 2 ≤ sizeLine by decide, fun qq hqq => ?_⟩
        have s12 := (Same.refl H11).at hqq (.tup [.ref pp, .ref c])
        have q12 : upd H11 qq (.tup [.ref pp, .ref c]) qq = some (.tup [.ref pp, .ref c]) := upd_same
        generalize upd H11 qq (.tup [.ref pp, .ref c]) = H12 at s12 q12 ⊢
        have s1012 := s11.trans s12
        walk_at "g"
        have e12 := s1012 _ _ e10
        refine r_app e12 (by rw [List.length_reverse, pts10.len, List.length_append, List.length_drop]; have := kidsC_len us1 cs1; exact Nat.lt_of_le_of_lt (show _ ≤ 20 by omega) (by decide)) ?_
        have T3 : TupK H12 (upd H12 cm (.lst (zs'.reverse ++ [V.ref qq]))) := TupK.upd (fun xs h => by rw [e12] at h; cases h)
        walk_at "g"
        refine ⟨_, .ref qq :: zs', rfl, (s10.trans s1012).at hcm0 _, by rw [upd_ne (Ne.symm nw)]; exact s1012 _ _ w10, by rw [upd_ne (Ne.symm nc)]; exact s1012 _ _ d10, by rw [upd_same, List.reverse_cons], T3 _ _ (s1012 _ _ p10), ?_⟩
        rw [show cs1.length - (j + 1) = cs1.length - 1 - j by omega, kids_drop hu1 hx, show cs1.length - 1 - j + 1 = cs1.length - j by omega, List.cons_append]
        refine .cons (T3 _ _ q12) (T3 _ _ (s12 _ _ (by rw [hpp, ens]; rfl))) ((pts10.keep (TupK.of s1012)).keep T3)
      · obtain ⟨o7', zs', rfl, s10, w10, d10, e10, p10, pts10⟩ := w
        rw [Nat.sub_self, List.drop_zero] at pts10
        have fin : (done ++ [(ns, V.ref a)]) ++ (kidsC us1 cs1 ++ L) = allC (.ref r) us cs ∧ (kidsC us1 cs1 ++ L).length < m := by
          rcases st with ⟨e1, e2, e3⟩ | ⟨n0, e, e3⟩
          · cases e2
            rcases kind with ⟨_, _, e5, e6⟩ | ⟨n, _⟩
            · subst e1 e5 e6
              refine ⟨by rw [List.append_nil]; rfl, ?_⟩
              rw [List.append_nil]
              have := kidsC_len us1 cs1
              omega
            · exact (n rfl).elim
          · rcases kind with ⟨e4, _⟩ | ⟨_, e5, e6⟩
            · exfalso
              subst e4
              obtain ⟨d0, dn, rfl⟩ := List.exists_cons_of_ne_nil n0
              have e7 : d0 = ([], .ref r) := by
                have := e
                rw [List.cons_append] at this
                exact (List.cons.inj this).1
              rw [e7, List.cons_append, List.map_cons, List.nodup_cons] at nd
              exact nd.1 (by rw [List.map_append, List.map_cons]; exact List.mem_append_right _ (List.mem_cons_self ..))
            · rw [e5, e6]
              refine ⟨by rw [← e, List.append_assoc]; rfl, ?_⟩
              show L.length < m
              rw [e3, List.length_cons]
              exact Nat.lt_succ_self _
        exact ⟨_, fin.2, _, _, _, zs', _, _, rfl, s10, w10, d10, e10, pts10, .inr ⟨by simp, fin.1, rfl⟩⟩
end
end K16
namespace K16
open PySem PySem.Spec PyProof.Rows L2 J M
local macro_rules | `(tactic| walk_at "hp") => `(tactic| first | assumption | exact upd_same | (rw [upd_ne (by assumption)]; walk_at "hp") | (rw [upd_ne (Ne.symm (by assumption))]; walk_at "hp"))
local macro_rules | `(tactic| walk_at "s") => `(tactic| first
  | ((with_reducible refine' r_var ?h ?k); (case h => exact rfl))
  | (with_reducible refine r_c ?_)
  | (with_reducible refine r_op ?_)
  | (with_reducible refine r_un ?_)
  | (with_reducible refine r_seq ?_)
  | (with_reducible refine r_next ?_)
  | (with_reducible refine r_sets ?_)
  | (with_reducible refine r_gname ?_)
  | (with_reducible refine r_ifS ?_)
  | (with_reducible refine r_gsub ?_)
  | (with_reducible refine r_test ?_)
  | (with_reducible refine r_tb ?_)
  | (with_reducible refine r_not ?_)
  | (with_reducible refine r_and ?_)
  | (with_reducible refine r_or ?_)
  | (with_reducible refine r_andV ?_)
  | (with_reducible refine r_orV ?_)
  | (with_reducible refine r_notV ?_)
  | (with_reducible refine r_ifE ?_)
  | (with_reducible refine r_chain ?_)
  | (with_reducible refine r_cb ?_)
  | (with_reducible refine r_cons ?_)
  | (with_reducible refine r_nil ?_)
  | (with_reducible refine r_call ?_)
  | (with_reducible refine r_lst ?_)
  | (with_reducible refine r_tup ?_)
  | (with_reducible refine r_slice ?_)
  | (with_reducible refine r_nop ?_)
  | (with_reducible refine r_part ?_)
  | (with_reducible refine r_bm ?_)
  | (with_reducible refine r_m1 ?_)
  | (with_reducible refine r_m0 ?_)
  | (with_reducible refine r_is ?_)
  | (with_reducible refine r_maxD ?_)
  | (with_reducible refine r_orT ?_)
  | (with_reducible refine r_truN ?_)
  | (with_reducible refine r_intI ?_)
  | (with_reducible refine r_intB ?_)
  | (with_reducible refine r_max2 ?_)
  | (with_reducible refine r_min2 ?_)
  | (with_reducible refine r_yes ?_)
  | (with_reducible refine r_bl ?_)
  | (with_reducible refine iteT ?_)
  | (with_reducible refine iteF ?_)
  | (with_reducible refine r_iteNT ?_)
  | (with_reducible refine r_iteNF ?_)
  | (with_reducible refine r_minL ?_)
  | (with_reducible refine r_gcons ?_)
  | (with_reducible refine r_gnil ?_)
  | (with_reducible refine r_par ?_)
  | (with_reducible refine r_par3 ?_)
  | (with_reducible refine r_is2 ?_)
  | (with_reducible refine r_is3 ?_)
  | (with_reducible refine r_dget ?_)
  | (with_reducible refine r_callS ?_)
  | (with_reducible refine r_rz ?_)
  | (with_reducible refine r_rev ?_)
  | (with_reducible refine r_isI ?_)
  | (with_reducible refine r_isStr ?_)
  | (with_reducible refine r_ret ?_)
  | (with_reducible refine r_drop ?_)
  | (with_reducible refine r_rI0 ?_)
  | (with_reducible refine r_addI ?_)
  | ((with_reducible show rI (fun _ j => 0 < j) _ (.int _) (.int _) _ _); refine r_rI (by first | omega | decide) ?_)
  | ((with_reducible show rI CDiv _ (.int _) (.int _) _ _); refine r_rI (by constructor <;> omega) ?_)
  | ((with_reducible show rI CPow _ (.int _) (.int _) _ _); refine r_rI (by refine ⟨by decide, by decide, ?_⟩; omega) ?_)
  | ((with_reducible show rMul (.int _) (.int _) _ _); refine r_mulI (cmulW (by omega) (by omega)) ?_)
  | (with_reducible refine r_cmpI ?_)
  | (with_reducible refine r_cmpS ?_)
  | (with_reducible refine r_eqI ?_)
  | (with_reducible refine r_neI ?_)
  | (with_reducible refine r_eqS ?_)
  | (with_reducible refine r_neS ?_)
  | (with_reducible refine r_inSF ?_)
  | (with_reducible refine r_inST ?_)
  | (with_reducible refine r_isiStr ?_)
  | ((with_reducible show rIx _ (.ref _) (.int _) _ _); refine' r_ixL (SqL.of ?h) ?e ?_; (case h => walk_at "hp"); (case e => rfl))
  | ((with_reducible show rSetL (.ref _) (.int _) _ _ _); refine' r_setL ?h ?e ?_; (case h => walk_at "hp"); (case e => rfl)))
local macro_rules | `(tactic| walk_at "g") => `(tactic| repeat walk_at "s")
local macro_rules | `(tactic| walk_at "x") => `(tactic| first | omega | decide +kernel | (simp only [List.length_cons, List.length_nil]; omega))
local macro_rules | `(tactic| walk_at "T1") => `(tactic| (first
  | walk_at "s"
  | ((with_reducible show rIx _ (.ref _) (.int _) _ _); refine' r_ixTu (SqT.of ?h) ?e ?_; (case h => first | assumption | walk_at "hp"); (case e => rfl))
  | (with_reducible refine r_lenSet ?_)
  | (with_reducible refine r_asg2 ?_)
  | (with_reducible refine iteDT (by walk_at "x") ?_)
  | (with_reducible refine iteDF (by walk_at "x") ?_)
  | (with_reducible refine iteNT (by walk_at "x") ?_)
  | (with_reducible refine iteNF (by walk_at "x") ?_)))
local macro_rules | `(tactic| walk_at "T") => `(tactic| repeat (first
  | walk_at "s"
  | ((with_reducible show rIx _ (.ref _) (.int _) _ _); refine' r_ixTu (SqT.of ?h) ?e ?_; (case h => first | assumption | walk_at "hp"); (case e => rfl))
  | (with_reducible refine r_lenSet ?_)
  | (with_reducible refine r_asg2 ?_)
  | (with_reducible refine iteDT (by walk_at "x") ?_)
  | (with_reducible refine iteDF (by walk_at "x") ?_)
  | (with_reducible refine iteNT (by walk_at "x") ?_)
  | (with_reducible refine iteNF (by walk_at "x") ?_)))
local macro_rules | `(tactic| walk_at "g") => `(tactic| repeat (first | walk_at "T1" | (with_reducible refine r_fld ?_) | (with_reducible refine r_sfl ?_) | (with_reducible refine r_ifT ?_) | (with_reducible refine r_nn ?_)))
section
variable {P : Program} {w : World} {K : PySem.W.Frag} {mg : Str → Option Value} {base : Heap}
theorem ok_gram (T : Tx K mg) {C : Addr} (GC : GrC K C) {f f_is_name f_begins_with_name f_is_tuple_to f_has_option_form f_are_in_order f_are_places f_has_command_form f_are_unlike f_refuse_twice f_own_names f_is_whole f_fits_form f_own_name f_has_default f_refuse_group f_look_at f_path_beneath f_refuse_deep f_fitted f_is_table : Addr} {fd fd_is_name fd_begins_with_name fd_is_tuple_to fd_has_option_form fd_are_in_order fd_are_places fd_has_command_form fd_are_unlike fd_refuse_twice fd_own_names fd_is_whole fd_fits_form fd_own_name fd_has_default fd_refuse_group fd_look_at fd_path_beneath fd_refuse_deep fd_fitted fd_is_table : FuncData} (F : Fun K "__init__" "Grammar.__init__" s_Grammar_init f fd)
    (D_is_name : DAt K mg "is_name" s_is_name P_is_name f_is_name fd_is_name)
    (D_begins_with_name : DAt K mg "begins_with_name" s_begins_with_name P_begins_with_name f_begins_with_name fd_begins_with_name)
    (D_is_tuple_to : DAt K mg "_is_tuple_to" s_is_tuple_to P_is_tuple_to f_is_tuple_to fd_is_tuple_to)
    (D_has_option_form : DAt K mg "has_option_form" s_has_option_form P_has_option_form f_has_option_form fd_has_option_form)
    (D_are_in_order : DAt K mg "_are_in_order" s_are_in_order P_are_in_order f_are_in_order fd_are_in_order)
    (D_are_places : DAt K mg "_are_places" s_are_places P_are_places f_are_places fd_are_places)
    (D_has_command_form : DAt K mg "has_command_form" s_has_command_form P_has_command_form f_has_command_form fd_has_command_form)
    (D_are_unlike : DAt K mg "are_unlike" s_are_unlike P_are_unlike f_are_unlike fd_are_unlike)
    (D_refuse_twice : DAt K mg "_refuse_twice" s_refuse_twice P_refuse_twice f_refuse_twice fd_refuse_twice)
    (D_own_names : DAt K mg "_own_names" s_own_names P_own_names f_own_names fd_own_names)
    (D_is_whole : DAt K mg "is_whole" s_is_whole P_is_whole f_is_whole fd_is_whole)
    (D_fits_form : DAt K mg "fits_form" s_fits_form P_fits_form f_fits_form fd_fits_form)
    (D_own_name : DAt K mg "own_name" s_own_name P_own_name f_own_name fd_own_name)
    (D_has_default : DAt K mg "_has_default" s_has_default P_has_default f_has_default fd_has_default)
    (D_refuse_group : DAt K mg "_refuse_group" s_refuse_group P_refuse_group f_refuse_group fd_refuse_group)
    (D_look_at : DAt K mg "_look_at" s_look_at P_look_at f_look_at fd_look_at)
    (D_path_beneath : DAt K mg "_path_beneath" s_path_beneath P_path_beneath f_path_beneath fd_path_beneath)
    (D_refuse_deep : DAt K mg "_refuse_deep" s_refuse_deep P_refuse_deep f_refuse_deep fd_refuse_deep)
    (D_fitted : DAt K mg "fitted" s_fitted P_fitted f_fitted fd_fitted)
    (D_is_table : DAt K mg "is_table" s_is_table P_is_table f_is_table fd_is_table) : FnOk P w K mg base CX0 6 f fd P_Grammar_init (spGram C) := by
  have G_fitted : FnOk P w K mg base CX0 5 f_fitted fd_fitted P_fitted spFitted := ok_fitted T D_fitted.fn D_is_name D_begins_with_name D_is_tuple_to D_has_option_form D_are_in_order D_are_places D_has_command_form D_are_unlike D_refuse_twice D_own_names D_is_whole D_fits_form D_own_name D_has_default D_refuse_group D_look_at D_path_beneath D_refuse_deep
  have G_is_table : FnOk P w K mg base CX0 2 f_is_table fd_is_table P_is_table spTable0 := ok_table T D_is_table.fn D_is_name
  refine F.ok sc_Grammar_init (fun vs H Q E h => ?_) (fun cdv A outer s H vs Q E hr h => ?_)
  · obtain ⟨g, r, dx, nm, os, os', cs, us, rfl, _⟩ := h
    rfl
  · obtain ⟨g, r, dx, nm, os, os', cs, us, rfl, hg, hc, hn, ho, hs, ho', hu, h6, k⟩ := h
    refine ⟨_, (pss_cons (ps_set (i := 3) sc_Grammar_init.nd rfl (Or.inr rfl) (pe_ifExp (pt_cmpR L2.op_isN (pv 2) pe_non (nomark _)) pe_dnewK (pv 2))) (pss_cons (ps_if (pt_not (pt_val (pe_call G_is_table (hr.mono (by decide)) rfl D_is_table.gl D_is_table.fn.kp D_is_table.bd .nil pass0 (pa_cons (pv 3) pa_nil)))) (pss_one ps_never) pss_nil) (pss_cons (asSFld (K := K) rfl (ps_fld (pv 0) (pe_lock (pe_dc (own := [("name", 6)]) (g := gName 6) rfl sc_Grammar_init.nd (pi_keys (pv 3)) (blkOk_by (N := N_Grammar_init) (sc := defScope s_Grammar_init) (by decide +kernel)) (fun _ _ _ _ _ => (pg_name (i := 6) sc_Grammar_init.nd rfl (Or.inl rfl))) (fun _ _ _ _ _ => pts_nil) (fun _ _ _ _ _ => (pv 6)) (fun _ _ _ _ _ => (pe_dget (hu_of hr) (pv 3) (pv 6) (fun _ _ => rfl))))) rfl)) (pss_cons (ps_asg (pe_call G_fitted (hr.mono (by decide)) rfl D_fitted.gl D_fitted.fn.kp D_fitted.bd .nil pass0 (pa_cons (pv 1) (pa_cons (asFld (K := K) rfl (pe_fld (pv 0) rfl)) pa_nil))) (asGTup (K := K) rfl (pg_tup rfl (pgs_cons (pg_name (i := 4) sc_Grammar_init.nd rfl (Or.inl rfl)) (pgs_cons (pg_name (i := 5) sc_Grammar_init.nd rfl (Or.inl rfl)) pgs_nil))))) (pss_cons (asSFld (K := K) rfl (ps_fld (pv 0) (pv 1) rfl)) (pss_cons (asSFld (K := K) rfl (ps_fld (pv 0) (pv 4) rfl)) (pss_cons (asSFld (K := K) rfl (ps_fld (pv 0) (pv 5) rfl)) (pss_one (asSFld (K := K) rfl (ps_fld (pv 0) pe_non rfl)))))))))), ?_⟩
    walk_at "g"
    intro a ha
    have s1 := (Same.refl H).at ha (.dK [])
    have e1 : upd H a (.dK []) a = some (.dK []) := upd_same
    generalize upd H a (.dK []) = H1 at s1 e1 ⊢
    walk_at "g"
    refine ⟨a, rfl, e1, fun H2 s2 => ?_⟩
    walk_at "g"
    refine r_lockE (s2 _ _ e1) trivial fun od => ?_
    refine r_dc ?_
    refine r_iky ?_
    walk_at "g"
    refine ⟨a, od, rfl, .inl ⟨[], upd_same, fun D hD => ?_⟩⟩
    have nDa : D ≠ a := fun e => by subst e; exact nomatch hD.symm.trans upd_same
    refine dc_of 0 (fun _ H' => Same (upd H2 a (.frz od (.dK []))) H' ∧ H' D = some (.dK [])) ⟨(Same.refl _).at hD _, upd_same⟩ (fun i _ hi => absurd hi (Nat.not_lt_zero i)) (fun H' w => (seqIt_keys (kvs := []) upd_same).stop H' w.1) (fun i _ _ _ hi => absurd hi (Nat.not_lt_zero i)) (fun H3 w => ?_)
    refine ⟨w.1 _ _ upd_same, ?_⟩
    have s3 := unlock_same (s2 _ _ e1) w.1
    generalize upd H3 a (.dK []) = H4 at s3 ⊢
    have s04 := (s1.trans s2).trans s3
    have g4 := s04 _ _ hg
    walk_at "g"
    refine ⟨g, C, dx, [], rfl, g4, GC.cls, GC.own, by decide, ?_⟩
    rw [show putF "_own" (V.ref D) [] = ([("_own", V.ref D)] : List (Str × V)) from rfl]
    have k5 : KeepB g H (upd H4 g (.ins C dx [("_own", V.ref D)])) := (KeepB.of s04).trans (KeepB.upd _)
    have g5 : upd H4 g (.ins C dx [("_own", V.ref D)]) g = some (.ins C dx [("_own", V.ref D)]) := upd_same
    generalize upd H4 g (.ins C dx [("_own", V.ref D)]) = H5 at k5 g5 ⊢
    walk_at "g"
    refine ⟨g, C, dx, _, .ref D, rfl, g5, GC.cls, GC.own, rfl, ?_⟩
    walk_at "g"
    refine ⟨r, D, nm, os, os', cs, us, rfl, hc.keep (k5.tup hg), hn, ho, hs.keep (k5.tup hg), ho', hu, h6, fun H6 q dc dw s6 hdc hdw ne d6 w6 q6 => ?_⟩
    refine r_gtup (SqT.of q6) rfl ?_
    have ndc : dc ≠ g := fun e => by subst e; exact nomatch hdc.symm.trans g5
    have ndw : dw ≠ g := fun e => by subst e; exact nomatch hdw.symm.trans g5
    have g6 := s6 _ _ g5
    have k6 := k5.trans (KeepB.of s6)
    walk_at "g"
    refine ⟨g, C, dx, _, rfl, g6, GC.cls, GC.root, by simp only [List.length_cons, List.length_nil]; omega, ?_⟩
    rw [show putF "_root" (V.ref r) ([("_own", V.ref D)] : List (Str × V)) = ([("_own", V.ref D), ("_root", V.ref r)] : List (Str × V)) from rfl]
    have k7 : KeepB g H (upd H6 g (.ins C dx [("_own", V.ref D), ("_root", V.ref r)])) := k6.trans (KeepB.upd _)
    have d7 : upd H6 g (.ins C dx [("_own", V.ref D), ("_root", V.ref r)]) dc = some (.dT ((allC (.ref r) us cs).map keyE)) := by rw [upd_ne ndc]; exact d6
    have w7 : upd H6 g (.ins C dx [("_own", V.ref D), ("_root", V.ref r)]) dw = some (.dK []) := by rw [upd_ne ndw]; exact w6
    have g7 : upd H6 g (.ins C dx [("_own", V.ref D), ("_root", V.ref r)]) g = some (.ins C dx [("_own", V.ref D), ("_root", V.ref r)]) := upd_same
    generalize upd H6 g (.ins C dx [("_own", V.ref D), ("_root", V.ref r)]) = H7 at k7 d7 w7 g7 ⊢
    walk_at "g"
    refine ⟨g, C, dx, _, rfl, g7, GC.cls, GC.commands, by simp only [List.length_cons, List.length_nil]; omega, ?_⟩
    rw [show putF "_commands" (V.ref dc) ([("_own", V.ref D), ("_root", V.ref r)] : List (Str × V)) = ([("_own", V.ref D), ("_root", V.ref r), ("_commands", V.ref dc)] : List (Str × V)) from rfl]
    have k8 : KeepB g H (upd H7 g (.ins C dx [("_own", V.ref D), ("_root", V.ref r), ("_commands", V.ref dc)])) := k7.trans (KeepB.upd _)
    have d8 : upd H7 g (.ins C dx [("_own", V.ref D), ("_root", V.ref r), ("_commands", V.ref dc)]) dc = some (.dT ((allC (.ref r) us cs).map keyE)) := by rw [upd_ne ndc]; exact d7
    have w8 : upd H7 g (.ins C dx [("_own", V.ref D), ("_root", V.ref r), ("_commands", V.ref dc)]) dw = some (.dK []) := by rw [upd_ne ndw]; exact w7
    have g8 : upd H7 g (.ins C dx [("_own", V.ref D), ("_root", V.ref r), ("_commands", V.ref dc)]) g = some (.ins C dx [("_own", V.ref D), ("_root", V.ref r), ("_commands", V.ref dc)]) := upd_same
    generalize upd H7 g (.ins C dx [("_own", V.ref D), ("_root", V.ref r), ("_commands", V.ref dc)]) = H8 at k8 d8 w8 g8 ⊢
    walk_at "g"
    refine ⟨g, C, dx, _, rfl, g8, GC.cls, GC.words, by simp only [List.length_cons, List.length_nil]; omega, ?_⟩
    rw [show putF "_words" (V.ref dw) ([("_own", V.ref D), ("_root", V.ref r), ("_commands", V.ref dc)] : List (Str × V)) = ([("_own", V.ref D), ("_root", V.ref r), ("_commands", V.ref dc), ("_words", V.ref dw)] : List (Str × V)) from rfl]
    have k9 : KeepB g H (upd H8 g (.ins C dx [("_own", V.ref D), ("_root", V.ref r), ("_commands", V.ref dc), ("_words", V.ref dw)])) := k8.trans (KeepB.upd _)
    have d9 : upd H8 g (.ins C dx [("_own", V.ref D), ("_root", V.ref r), ("_commands", V.ref dc), ("_words", V.ref dw)]) dc = some (.dT ((allC (.ref r) us cs).map keyE)) := by rw [upd_ne ndc]; exact d8
    have w9 : upd H8 g (.ins C dx [("_own", V.ref D), ("_root", V.ref r), ("_commands", V.ref dc), ("_words", V.ref dw)]) dw = some (.dK []) := by rw [upd_ne ndw]; exact w8
    have g9 : upd H8 g (.ins C dx [("_own", V.ref D), ("_root", V.ref r), ("_commands", V.ref dc), ("_words", V.ref dw)]) g = some (.ins C dx [("_own", V.ref D), ("_root", V.ref r), ("_commands", V.ref dc), ("_words", V.ref dw)]) := upd_same
    generalize upd H8 g (.ins C dx [("_own", V.ref D), ("_root", V.ref r), ("_commands", V.ref dc), ("_words", V.ref dw)]) = H9 at k9 d9 w9 g9 ⊢
    walk_at "g"
    refine ⟨g, C, dx, _, rfl, g9, GC.cls, GC.nodes, by simp only [List.length_cons, List.length_nil]; omega, ?_⟩
    rw [show putF "_nodes" (V.non) ([("_own", V.ref D), ("_root", V.ref r), ("_commands", V.ref dc), ("_words", V.ref dw)] : List (Str × V)) = ([("_own", V.ref D), ("_root", V.ref r), ("_commands", V.ref dc), ("_words", V.ref dw), ("_nodes", V.non)] : List (Str × V)) from rfl]
    have k10 : KeepB g H (upd H9 g (.ins C dx [("_own", V.ref D), ("_root", V.ref r), ("_commands", V.ref dc), ("_words", V.ref dw), ("_nodes", V.non)])) := k9.trans (KeepB.upd _)
    have d10 : upd H9 g (.ins C dx [("_own", V.ref D), ("_root", V.ref r), ("_commands", V.ref dc), ("_words", V.ref dw), ("_nodes", V.non)]) dc = some (.dT ((allC (.ref r) us cs).map keyE)) := by rw [upd_ne ndc]; exact d9
    have w10 : upd H9 g (.ins C dx [("_own", V.ref D), ("_root", V.ref r), ("_commands", V.ref dc), ("_words", V.ref dw), ("_nodes", V.non)]) dw = some (.dK []) := by rw [upd_ne ndw]; exact w9
    have g10 : upd H9 g (.ins C dx [("_own", V.ref D), ("_root", V.ref r), ("_commands", V.ref dc), ("_words", V.ref dw), ("_nodes", V.non)]) g = some (.ins C dx [("_own", V.ref D), ("_root", V.ref r), ("_commands", V.ref dc), ("_words", V.ref dw), ("_nodes", V.non)]) := upd_same
    generalize upd H9 g (.ins C dx [("_own", V.ref D), ("_root", V.ref r), ("_commands", V.ref dc), ("_words", V.ref dw), ("_nodes", V.non)]) = H10 at k10 d10 w10 g10 ⊢
    walk_at "g"
    exact k _ D dc dw k10 (k5.non g5 hdc) (k5.non g5 hdw) ne g10 d10 w10
end
end K16
namespace K16
open PySem PySem.Spec PyProof.Rows L2 J M
local macro_rules | `(tactic| walk_at "hp") => `(tactic| first | assumption | exact upd_same | (rw [upd_ne (by assumption)]; walk_at "hp") | (rw [upd_ne (Ne.symm (by assumption))]; walk_at "hp"))
local macro_rules | `(tactic| walk_at "s") => `(tactic| first
  | ((with_reducible refine' r_var ?h ?k); (case h => exact rfl))
  | (with_reducible refine r_c ?_)
  | (with_reducible refine r_op ?_)
  | (with_reducible refine r_un ?_)
  | (with_reducible refine r_seq ?_)
  | (with_reducible refine r_next ?_)
  | (with_reducible refine r_sets ?_)
  | (with_reducible refine r_gname ?_)
  | (with_reducible refine r_ifS ?_)
  | (with_reducible refine r_gsub ?_)
  | (with_reducible refine r_test ?_)
  | (with_reducible refine r_tb ?_)
  | (with_reducible refine r_not ?_)
  | (with_reducible refine r_and ?_)
  | (with_reducible refine r_or ?_)
  | (with_reducible refine r_andV ?_)
  | (with_reducible refine r_orV ?_)
  | (with_reducible refine r_notV ?_)
  | (with_reducible refine r_ifE ?_)
  | (with_reducible refine r_chain ?_)
  | (with_reducible refine r_cb ?_)
  | (with_reducible refine r_cons ?_)
  | (with_reducible refine r_nil ?_)
  | (with_reducible refine r_call ?_)
  | (with_reducible refine r_lst ?_)
  | (with_reducible refine r_tup ?_)
  | (with_reducible refine r_slice ?_)
  | (with_reducible refine r_nop ?_)
  | (with_reducible refine r_part ?_)
  | (with_reducible refine r_bm ?_)
  | (with_reducible refine r_m1 ?_)
  | (with_reducible refine r_m0 ?_)
  | (with_reducible refine r_is ?_)
  | (with_reducible refine r_maxD ?_)
  | (with_reducible refine r_orT ?_)
  | (with_reducible refine r_truN ?_)
  | (with_reducible refine r_intI ?_)
  | (with_reducible refine r_intB ?_)
  | (with_reducible refine r_max2 ?_)
  | (with_reducible refine r_min2 ?_)
  | (with_reducible refine r_yes ?_)
  | (with_reducible refine r_bl ?_)
  | (with_reducible refine iteT ?_)
  | (with_reducible refine iteF ?_)
  | (with_reducible refine r_iteNT ?_)
  | (with_reducible refine r_iteNF ?_)
  | (with_reducible refine r_minL ?_)
  | (with_reducible refine r_gcons ?_)
  | (with_reducible refine r_gnil ?_)
  | (with_reducible refine r_par ?_)
  | (with_reducible refine r_par3 ?_)
  | (with_reducible refine r_is2 ?_)
  | (with_reducible refine r_is3 ?_)
  | (with_reducible refine r_dget ?_)
  | (with_reducible refine r_callS ?_)
  | (with_reducible refine r_rz ?_)
  | (with_reducible refine r_rev ?_)
  | (with_reducible refine r_isI ?_)
  | (with_reducible refine r_isStr ?_)
  | (with_reducible refine r_ret ?_)
  | (with_reducible refine r_drop ?_)
  | (with_reducible refine r_rI0 ?_)
  | (with_reducible refine r_addI ?_)
  | ((with_reducible show rI (fun _ j => 0 < j) _ (.int _) (.int _) _ _); refine r_rI (by first | omega | decide) ?_)
  | ((with_reducible show rI CDiv _ (.int _) (.int _) _ _); refine r_rI (by constructor <;> omega) ?_)
  | ((with_reducible show rI CPow _ (.int _) (.int _) _ _); refine r_rI (by refine ⟨by decide, by decide, ?_⟩; omega) ?_)
  | ((with_reducible show rMul (.int _) (.int _) _ _); refine r_mulI (cmulW (by omega) (by omega)) ?_)
  | (with_reducible refine r_cmpI ?_)
  | (with_reducible refine r_cmpS ?_)
  | (with_reducible refine r_eqI ?_)
  | (with_reducible refine r_neI ?_)
  | (with_reducible refine r_eqS ?_)
  | (with_reducible refine r_neS ?_)
  | (with_reducible refine r_inSF ?_)
  | (with_reducible refine r_inST ?_)
  | (with_reducible refine r_isiStr ?_)
  | ((with_reducible show rIx _ (.ref _) (.int _) _ _); refine' r_ixL (SqL.of ?h) ?e ?_; (case h => walk_at "hp"); (case e => rfl))
  | ((with_reducible show rSetL (.ref _) (.int _) _ _ _); refine' r_setL ?h ?e ?_; (case h => walk_at "hp"); (case e => rfl)))
local macro_rules | `(tactic| walk_at "g") => `(tactic| repeat walk_at "s")
local macro_rules | `(tactic| walk_at "x") => `(tactic| first | omega | decide +kernel | (simp only [List.length_cons, List.length_nil]; omega))
local macro_rules | `(tactic| walk_at "T1") => `(tactic| (first
  | walk_at "s"
  | ((with_reducible show rIx _ (.ref _) (.int _) _ _); refine' r_ixTu (SqT.of ?h) ?e ?_; (case h => first | assumption | walk_at "hp"); (case e => rfl))
  | (with_reducible refine r_lenSet ?_)
  | (with_reducible refine r_asg2 ?_)
  | (with_reducible refine iteDT (by walk_at "x") ?_)
  | (with_reducible refine iteDF (by walk_at "x") ?_)
  | (with_reducible refine iteNT (by walk_at "x") ?_)
  | (with_reducible refine iteNF (by walk_at "x") ?_)))
local macro_rules | `(tactic| walk_at "T") => `(tactic| repeat (first
  | walk_at "s"
  | ((with_reducible show rIx _ (.ref _) (.int _) _ _); refine' r_ixTu (SqT.of ?h) ?e ?_; (case h => first | assumption | walk_at "hp"); (case e => rfl))
  | (with_reducible refine r_lenSet ?_)
  | (with_reducible refine r_asg2 ?_)
  | (with_reducible refine iteDT (by walk_at "x") ?_)
  | (with_reducible refine iteDF (by walk_at "x") ?_)
  | (with_reducible refine iteNT (by walk_at "x") ?_)
  | (with_reducible refine iteNF (by walk_at "x") ?_)))
local macro_rules | `(tactic| walk_at "g") => `(tactic| repeat (first | walk_at "T1" | (with_reducible refine r_fld ?_) | (with_reducible refine r_sfl ?_) | (with_reducible refine r_ifT ?_) | (with_reducible refine r_nn ?_)))
section
variable {P : Program} {w : World} {K : PySem.W.Frag} {mg : Str → Option Value} {base : Heap}
theorem ok_own_words (T : Tx K mg) {f f_own_name : Addr} {fd fd_own_name : FuncData} (F : Fun K "_own_words" "_own_words" s_own_words f fd)
    (D_own_name : DAt K mg "own_name" s_own_name P_own_name f_own_name fd_own_name) : FnOk P w K mg base CX0 2 f fd P_own_words spOwnW := by
  have G_own_name : FnOk P w K mg base CX0 1 f_own_name fd_own_name P_own_name spNoOwn := ok_own_name T D_own_name.fn
  refine F.ok sc_own_words (fun vs H Q E h => ?_) (fun cdv A outer s H vs Q E hr h => ?_)
  · obtain ⟨x, rfl, _⟩ := h
    rfl
  · obtain ⟨x, rfl, k⟩ := h
    refine ⟨_, (pss_cons (ps_set (i := 2) sc_own_words.nd rfl (Or.inl rfl) (pe_call G_own_name (hr.mono (by decide)) rfl D_own_name.gl D_own_name.fn.kp D_own_name.bd .nil pass0 (pa_cons (pv 0) pa_nil))) (pss_one (ps_ret (pe_ifExp (pt_cmpR L2.op_isN (pv 2) pe_non (nomark _)) (pe_tup pa_nil) (pe_dget (hu_of hr) (pv 1) (pv 2) (fun _ _ => rfl)))))), ?_⟩
    walk_at "g"
    refine ⟨_, rfl, rfl, ?_⟩
    walk_at "g"
    refine ⟨show 0 ≤ sizeLine by decide, fun p hp => ?_⟩
    exact k _ p ((Same.refl H).at hp _) upd_same
theorem ok_has_none (T : Tx K mg) {f : Addr} {fd : FuncData} (F : Fun K "_has_none" "_has_none" s_has_none f fd) : FnOk P w K mg base CX0 1 f fd P_has_none spHasNone := by
  refine F.ok sc_has_none (fun vs H Q E h => ?_) (fun cdv A outer s H vs Q E hr h => ?_)
  · obtain ⟨x, rfl, _⟩ := h
    rfl
  · obtain ⟨x, rfl, k⟩ := h
    refine ⟨_, (pss_one (ps_ret (pe_and (pe_cmpR L2.op_notN (pv 0) pe_non (nomark _)) (pe_one pe_false)))), ?_⟩
    walk_at "g"
    exact k
theorem ok_fitting (T : Tx K mg) {f f_has_none : Addr} {fd fd_has_none : FuncData} (F : Fun K "_fitting" "_fitting" s_fitting f fd)
    (D_has_none : DAt K mg "_has_none" s_has_none P_has_none f_has_none fd_has_none) : FnOk P w K mg base CX0 2 f fd P_fitting spFitting := by
  have G_has_none : FnOk P w K mg base CX0 1 f_has_none fd_has_none P_has_none spHasNone := ok_has_none T D_has_none.fn
  refine F.ok sc_fitting (fun vs H Q E h => ?_) (fun cdv A outer s H vs Q E hr h => ?_)
  · obtain ⟨oa, ow, ga, nn, xs, ys, os, rfl, _⟩ := h
    rfl
  · obtain ⟨oa, ow, ga, nn, xs, ys, os, rfl, hx, ho, h6, hy, hl, hg, k⟩ := h
    refine ⟨_, (pss_cons (ps_set (i := 4) sc_fitting.nd rfl (Or.inr rfl) (pe_callB ((L2.cr_sum rfl) : CallR _ _ (L2.rSum K)) (by rfl) T.z_sum (by decide +kernel) (pa_cons (pe_lc (own := [("number", 11), ("own", 12)]) (g := (gTup K 2 (gCons (gName 11) (gCons (gName 12) gNil)))) rfl sc_fitting.nd (asEnum (K := K) rfl (pi_enum rfl T.z_enumerate (pa_cons (pv 1) pa_nil))) (blkOk_by (N := N_fitting) (sc := defScope s_fitting) (by decide +kernel)) (fun _ _ _ _ _ => (asGTup (K := K) rfl (pg_tup rfl (pgs_cons (pg_name (i := 11) sc_fitting.nd rfl (Or.inl rfl)) (pgs_cons (pg_name (i := 12) sc_fitting.nd rfl (Or.inl rfl)) pgs_nil))))) (fun _ _ _ _ _ => (pts_one (pt_val (pe_call G_has_none (hr.mono (by decide)) rfl D_has_none.gl D_has_none.fn.kp D_has_none.bd .nil pass0 (pa_cons (pe_ix (ix_seq : IxR _ (rIx K)) (pe_ix (ix_seq : IxR _ (rIx K)) (pv 0) (pv 11) (fun _ _ => rfl)) (pe_gI T.c_KIND rfl) (fun _ _ => rfl)) (pa_cons (pv 12) pa_nil)))))) (fun _ _ _ _ _ => (pe_op L2.op_oneShl pe_int (pv 11)))) pa_nil))) (pss_cons (ps_setLc (i := 5) (own := [("bits", 10)]) (g := (gName 10)) rfl sc_fitting.nd rfl rfl (sw_true rfl rfl rfl (by decide +kernel)) (pi_range1 rfl T.z_range (pa_cons (pe_op L2.op_oneShl pe_int (pe_callB (call_lenA : CallR _ _ (J.rLen K)) (by rfl) T.z_len (by decide +kernel) (pa_cons (pv 0) pa_nil))) pa_nil)) (blkOk_by (N := N_fitting) (sc := defScope s_fitting) (by decide +kernel)) (fun _ _ _ _ _ => (pg_name (i := 10) sc_fitting.nd rfl (Or.inl rfl))) (fun _ _ _ _ _ => (pts_one (pt_cmpR ((op_eqA hr.units) : OpR _ _ (rEqA K)) (pe_op L2.op_and (pv 10) (pv 4)) pe_int (nomark _)))) (fun _ _ _ _ _ => (pv 10))) (pss_cons (ps_for (PassesOwn.never) rfl (asSeq (K := K) rfl (pi_seq (pv 2))) (asGTup (K := K) rfl (pg_tup rfl (pgs_cons (pg_name (i := 6) sc_fitting.nd rfl (Or.inr rfl)) (pgs_cons (pg_name (i := 7) sc_fitting.nd rfl (Or.inl rfl)) pgs_nil)))) (pss_cons (ps_set (i := 8) sc_fitting.nd rfl (Or.inr rfl) (pe_callB ((L2.cr_sum rfl) : CallR _ _ (L2.rSum K)) (by rfl) T.z_sum (by decide +kernel) (pa_cons (pe_lc (own := [("name", 13)]) (g := (gName 13)) rfl sc_fitting.nd (asSeq (K := K) rfl (pi_seq (pv 7))) (blkOk_by (N := N_fitting) (sc := defScope s_fitting) (by decide +kernel)) (fun _ _ _ _ _ => (pg_name (i := 13) sc_fitting.nd rfl (Or.inl rfl))) (fun _ _ _ _ _ => pts_nil) (fun _ _ _ _ _ => (pe_op L2.op_oneShl pe_int (pe_ix (ix_seq : IxR _ (rIx K)) (pv 3) (pv 13) (fun _ _ => rfl))))) pa_nil))) (pss_cons (ps_set (i := 9) sc_fitting.nd rfl (Or.inr rfl) (pe_op L2.op_oneShl pe_int (pe_ix (ix_seq : IxR _ (rIx K)) (pv 3) (pe_ix (ix_seq : IxR _ (rIx K)) (pv 7) pe_int (fun _ _ => rfl)) (fun _ _ => rfl)))) (pss_one (ps_setLc (i := 5) (own := [("bits", 10)]) (g := (gName 10)) rfl sc_fitting.nd rfl rfl (sw_true rfl rfl rfl (by decide +kernel)) (asSeq (K := K) rfl (pi_seq (pv 5))) (blkOk_by (N := N_fitting) (sc := defScope s_fitting) (by decide +kernel)) (fun _ _ _ _ _ => (pg_name (i := 10) sc_fitting.nd rfl (Or.inl rfl))) (fun _ _ _ _ _ => (pts_one pt_false)) (fun _ _ _ _ _ => (pv 10))))))) (pss_one (ps_ret (pe_dc (own := [("bits", 10)]) (g := gName 10) rfl sc_fitting.nd (asSeq (K := K) rfl (pi_seq (pv 5))) (blkOk_by (N := N_fitting) (sc := defScope s_fitting) (by decide +kernel)) (fun _ _ _ _ _ => (pg_name (i := 10) sc_fitting.nd rfl (Or.inl rfl))) (fun _ _ _ _ _ => pts_nil) (fun _ _ _ _ _ => (pv 10)) (fun _ _ _ _ _ => pe_bl))))))), ?_⟩
    walk_at "g"
    refine r_lcEn ?_
    walk_at "g"
    refine ⟨ow, ys, rfl, SqL.of hy, fun D hD => ?_⟩
    refine comp_of ys.length (fun _ H' => Same H H' ∧ H' D = some (.lst [])) ⟨(Same.refl H).at hD _, upd_same⟩ (fun i H' hi w => ⟨ys, _, SqL.of (w.1 _ _ hy), List.getElem?_eq_getElem hi⟩) (fun H' w => ⟨ys, SqL.of (w.1 _ _ hy), Nat.le_refl _⟩) (fun i H1 x H2 hi w y => ?_) fun H1 w => ?_
    · obtain ⟨tp, x, rfl, htp, rfl, hxx⟩ := y
      have s2 := w.1.trans ((Same.refl H1).at htp (.tup [.int (i : Nat), x]))
      have e2 : upd H1 tp (.tup [.int (i : Nat), x]) tp = some (.tup [.int (i : Nat), x]) := upd_same
      have d2 := ((Same.refl H1).at htp (.tup [.int (i : Nat), x])) _ _ w.2
      generalize upd H1 tp (.tup [.int (i : Nat), x]) = H2 at s2 e2 d2 ⊢
      have lo := ho.len
      obtain ⟨z, hz⟩ : ∃ z, xs[i]? = some z := ⟨_, List.getElem?_eq_getElem (by omega)⟩
      obtain ⟨q, o, rfl, eo, hq⟩ := ho.get hz
      have hq' : H2 q = some (.tup [.str (S o.1), .non, .str (fmS o.2), .non, .int 0, .bl false, .non]) := s2 _ _ hq
      have hx' := s2 _ _ hx
      refine r_gtup (SqT.of e2) rfl ?_
      walk_at "g"
      refine ⟨rfl, ?_⟩
      walk_at "g"
      refine r_ixTu (SqT.of hx') (atI_nat hz) ?_
      walk_at "g"
      refine ⟨_, rfl, ?_⟩
      walk_at "g"
      exact ⟨s2, d2⟩
    · obtain ⟨s1, d1⟩ := w
      walk_at "g"
      refine ⟨D, [], rfl, SqL.of d1, ?_⟩
      rw [show ([] : List Int).sum = 0 from rfl]
      walk_at "g"
      refine r_lcRG ?_
      walk_at "g"
      refine r_lenT (SqT.of (s1 _ _ hx)) ?_
      walk_at "g"
      refine ⟨xs.length, rfl, rfl, by rw [ho.len]; omega, ?_⟩
      rw [ho.len]
      walk_at "g"
      have l64 : 2 ^ os.length ≤ 64 := Nat.pow_le_pow_right (n := 2) (by decide) h6
      refine ⟨((2 : Int) ^ os.length), rfl, ?_, ?_, fun D2 hD2 => ?_⟩
      · have : (0 : Int) ≤ 2 ^ os.length := Int.pow_nonneg (by decide)
        omega
      · have : ((2 : Int) ^ os.length) ≤ 64 := by exact_mod_cast l64
        omega
      rw [show ((2 : Int) ^ os.length).toNat = 2 ^ os.length by rw [show ((2 : Int) ^ os.length) = ((2 ^ os.length : Nat) : Int) by push_cast; rfl]; exact Int.toNat_natCast _]
      refine comp_rngF hD2 (fun _ => true) (Nat.lt_of_le_of_lt l64 (by decide)) (fun i H2 N N0 hi s2 hN _ => ?_) fun H2 s2 hl2 => ?_
      · rw [Int.zero_add] at hN ⊢
        walk_at "g"
        refine ⟨rfl, ?_⟩
        walk_at "g"
        rw [and_nought]
        walk_at "g"
        exact hN rfl _ (Same.refl _)
      · rw [range_inl, List.map_map] at hl2
        have s12 := s1.trans s2
        walk_at "g"
        refine r_for ?_
        refine r_isq ?_
        walk_at "g"
        refine ⟨ga, [], rfl, .inr ⟨SqT.of (s12 _ _ hg), loop_none (SqT.of (s12 _ _ hg)) ?_⟩⟩
        walk_at "g"
        refine r_dc ?_
        refine r_isq ?_
        walk_at "g"
        have hq := SqL.of (K := K) hl2
        have lr : (List.map (V.int ∘ fun (i : Nat) => (i : Int)) (List.range (2 ^ os.length))).length = 2 ^ os.length := by rw [List.length_map, List.length_range]
        refine ⟨D2, _, rfl, .inl ⟨hq, fun D3 hD3 => ?_⟩⟩
        refine dc_of (2 ^ os.length) (fun i H' => Same H2 H' ∧ H' D3 = some (.dK ((List.range i).map fun (i : Nat) => ((Sum.inl (i : Int) : Key), V.bl true)))) ⟨(Same.refl _).at hD3 _, upd_same⟩ (fun i H' hi w => (seqIt_l hq).go i H' w.1 (by rw [lr]; exact hi)) (fun H' w => by have := (seqIt_l hq).stop H' w.1; rwa [lr] at this) (fun i H3 x H4 hi w y => ?_) fun H3 w => ?_
        · obtain ⟨rfl, hx3⟩ := (seqIt_l hq).yld i H3 x H4 w.1 y
          rw [List.getElem?_map, List.getElem?_range hi] at hx3
          cases hx3
          walk_at "g"
          refine ⟨rfl, ?_⟩
          walk_at "g"
          refine ⟨_, .inl (i : Int), rfl, w.2, by rw [List.length_map, List.length_range]; exact Nat.lt_of_le_of_lt (Nat.le_trans (Nat.le_of_lt hi) l64) (by decide), w.1.at hD3 _, by rw [upd_same, put_bit]⟩
        · exact k _ D3 (s12.trans w.1) (Same.non s12 hD3) w.2
end
end K16
namespace J
open PySem PySem.Spec PyProof.Rows L2 M
/-- one more beginning: nobody's where it stood already -/
def putO (kvs : List (Key × V)) (p : List Nat × List Nat) : List (Key × V) := putK kvs (.inr (S p.1)) (if (valV kvs (.inr (S p.1))).isSome = true then .non else .str (S p.2))
def seen (P : List (List Nat × List Nat)) (t : List Nat) : Option V := match P.filter (fun p => decide (p.1 = t)) with
  | [] => none
  | [p] => some (.str (S p.2))
  | _ => some .non
theorem seen_snoc (Q : List (List Nat × List Nat)) (p : List Nat × List Nat) (t : List Nat) : seen (Q ++ [p]) t = if p.1 = t then (if (seen Q t).isSome = true then some .non else some (.str (S p.2))) else seen Q t := by
  unfold seen
  rw [List.filter_append]
  by_cases e : p.1 = t
  · rw [if_pos e, List.filter_cons_of_pos (by simp [e]), List.filter_nil]
    cases h : Q.filter (fun p => decide (p.1 = t)) with
    | nil => rfl
    | cons a r =>
      cases r with
      | nil => rfl
      | cons b r => rfl
  · rw [if_neg e, List.filter_cons_of_neg (by simp [e]), List.filter_nil, List.append_nil]
theorem valV_fold (P Q : List (List Nat × List Nat)) (kvs : List (Key × V)) (h : ∀ t, valV kvs (.inr (S t)) = seen Q t) (t : List Nat) : valV (P.foldl putO kvs) (.inr (S t)) = seen (Q ++ P) t := by
  induction P generalizing Q kvs with
  | nil => rw [List.append_nil]; exact h t
  | cons p P ih =>
    rw [List.foldl_cons, show Q ++ p :: P = (Q ++ [p]) ++ P by simp]
    refine ih (Q ++ [p]) _ fun t => ?_
    rw [seen_snoc]
    unfold putO
    rw [valV_put]
    by_cases e : p.1 = t
    · subst e
      rw [if_pos rfl, if_pos rfl, h]
      by_cases q : (seen Q p.1).isSome = true
      · rw [if_pos q, if_pos q]
      · rw [if_neg q, if_neg q]
    · rw [if_neg e, if_neg fun q => e (S_inj.mp (Sum.inr.inj q)).symm, h]
/-- the beginnings of the names, shorter than they -/
def begP (ns : List (List Nat)) : List (List Nat × List Nat) := ns.flatMap fun n => (List.range (n.length - 1)).map fun i => (n.take (i + 1), n)
theorem seen_fold (ns : List (List Nat)) (t : List Nat) : valV ((begP ns).foldl putO []) (.inr (S t)) = seen (begP ns) t := by
  have := valV_fold (begP ns) [] [] (fun _ => rfl) t
  rwa [List.nil_append] at this
end J
namespace J
open PySem PySem.Spec PyProof.Rows L2 M
section
variable {prog : Program} {w : World} {A : Around} {E : Value → Shared → Prop} {s : Shared}
/-- the first of the two is through at once -/
theorem zip0_next {z TI TO i1 i2 l1 : Addr} {Q : Fin → Shared → Prop} (hh : A.handled = none) (n1 : i1 ≠ z) (n2 : l1 ≠ z)
    (hz : IsZip s.heap z TI TO .none) (hTI : IsPair s.heap TI (.ref i1) (.ref i2)) (h1 : s.heap.IsTupleIter i1 l1 0) (hl1 : s.heap.IsTuple l1 #[])
    (hE : ∀ h' e, (∀ c o, c ≠ z → c ≠ i1 → s.heap.get? c = some o → h'.get? c = some o) → (∃ o, h'.get? e = some o ∧ o.cls = .type "StopIteration") → E (.ref e) { s with heap := h' }) :
    wpAny (model prog w) A (Builtin.«zip.__next__» ⟨[.ref z], []⟩) Q E s := by
  show wpAny _ _ (field (.ref z) 2 >>= _) _ _ _
  refine wpAny_bind (wpAny_field hz rfl (x := .bool false) rfl ?_)
  show wpAny _ _ (field (.ref z) 3 >>= _) _ _ _
  refine wpAny_bind (wpAny_field hz rfl (x := .ref TI) rfl ?_)
  refine wpAny_bind (wpAny_seqItems hTI rfl ?_)
  show wpAny _ _ (Builtin.SmallTypes.ownedTupleIsFree (.ref z) >>= _) _ _ _
  refine wpAny_bind ?_
  unfold Builtin.SmallTypes.ownedTupleIsFree
  refine wpAny_bind (wpAny_field hz rfl (x := .none) rfl (wpAny_pure ?_))
  simp only [if_true]
  refine wpAny_bind (wpAny_rule ?_)
  refine wpAny_bind (wpAny_field hz rfl (x := .ref TO) rfl ?_)
  refine wpAny_bind (wpAny_setField_rec hz (by simp) fun h₁ hz₁ hs₁ => ?_)
  replace hz₁ : IsZip h₁ z TI TO .ellipsis := hz₁
  refine wpAny_bind ?_
  simp only [List.zipIdx_cons, List.zipIdx_nil, List.forIn_cons, List.forIn_nil]
  refine wpAny_bind (wpAny_bind (wpAny_onRaise ?_))
  show wpAny _ _ (Builtin.SmallTypes.nextOf (.ref i1) >>= _) _ _ _
  refine wpAny_bind (RZ.nextOf_tuple_end hh (h1.extBut hs₁.extBut n1) (hl1.extBut hs₁.extBut n2) rfl fun h₂ e hs₂ he => ?_)
  obtain ⟨oe, hoe, hce⟩ := he
  have hz₂ : IsZip h₂ z TI TO .ellipsis := hs₂ _ _ n1.symm hz₁
  have hez : e ≠ z := fun x => by subst x; rw [hz₂] at hoe; cases hoe; simp at hce
  refine wpAny_setField_rec hz₂ (by simp) fun h₃ _ hs₃ => hE h₃ e (fun c o c1 c3 x => hs₃.extBut _ _ c1 (hs₂ _ _ c3 (hs₁.extBut _ _ c1 x))) ⟨oe, hs₃.extBut _ _ hez hoe, hce⟩
theorem pyNext_zip0 {z TI TO i1 i2 l1 : Addr} {Q : Option Value → Shared → Prop} (hh : A.handled = none) (n1 : i1 ≠ z) (n2 : l1 ≠ z)
    (hz : IsZip s.heap z TI TO .none) (hTI : IsPair s.heap TI (.ref i1) (.ref i2)) (h1 : s.heap.IsTupleIter i1 l1 0) (hl1 : s.heap.IsTuple l1 #[])
    (hQ : ∀ h', (∀ c o, c ≠ z → c ≠ i1 → s.heap.get? c = some o → h'.get? c = some o) → Q none { s with heap := h' }) : wpAny (model prog w) A (pyNext (.ref z)) Q E s := by
  have hT : s.TypeIs (.ref z) "zip" := ⟨_, hz, rfl⟩
  unfold pyNext
  refine wpAny_bind (wpAny_attempt (wpAny_callSpecial?_slot (name := Str.ofString "__next__") hT F.slot_zip_next
    (wpAny_call_entry F.slot_zip_next hT F.entry_zip_next (zip0_next hh n1 n2 hz hTI h1 hl1 fun h' e hk he => ?_) (F.args_zip_next_1 _))))
  obtain ⟨o, ho, hc⟩ := he
  refine wpAny_bind (wpAny_isInstance (T := "StopIteration") (b := true) ⟨o, ho, hc⟩ isSubtype_stop ?_)
  exact wpAny_pure (hQ _ hk)
abbrev zmH1 (h : Heap) (l1 : Addr) : Heap := h.push { cls := .type "tuple_iterator", data := .fields #[.ref l1, .int 0 0] }
abbrev zmH2 (h : Heap) (l1 l2 : Addr) : Heap := (zmH1 h l1).push { cls := .type "list_iterator", data := .fields #[.ref l2, .int 0 0] }
abbrev zmH3 (h : Heap) (l1 l2 : Addr) : Heap := (zmH2 h l1 l2).push { cls := .type "tuple", data := .seq #[.ref h.objs.size, .ref (zmH1 h l1).objs.size] }
abbrev zmH4 (h : Heap) (l1 l2 : Addr) : Heap := (zmH3 h l1 l2).push { cls := .type "tuple", data := .seq #[.none, .none] }
abbrev zmH5 (h : Heap) (l1 l2 : Addr) : Heap := (zmH4 h l1 l2).push { cls := .type "zip", data := .fields #[.none, .bool false, .bool false, .ref (zmH2 h l1 l2).objs.size, .ref (zmH3 h l1 l2).objs.size] }
theorem meets_zipM_new (l1 l2 : Addr) (xs ys : Array Value) :
    Meets (Builtin.«zip.__new__» ⟨[.type "zip", .ref l1, .ref l2], []⟩) (fun _ R s => s.heap.IsTuple l1 xs ∧ s.heap.IsList l2 ys ∧
      R (.ok (.ret (.ref (zmH4 s.heap l1 l2).objs.size))) { s with heap := zmH5 s.heap l1 l2 }) :=
  .of_wp fun prog w A R s h => by
    obtain ⟨hp, g, d, tk, os⟩ := s; obtain ⟨hl1, hl2, h⟩ := h
    have hsub := sub_zip
    have hL1 : Heap.IsTuple (Shared.heap ⟨hp, g, d, tk, os⟩) l1 xs := hl1
    have hL2 : Heap.IsList (Shared.heap ⟨hp.push { cls := .type "tuple_iterator", data := .fields #[.ref l1, .int 0 0] }, g, d, tk, os⟩) l2 ys := Heap.IsList.push hl2 _
    wp_walk using wpAny_pyIter_tuple hL1, wpAny_pyIter_list hL2
    exact ⟨_, rfl, h⟩
theorem call_zipM {l1 l2 : Addr} {xs ys : Array Value} {Q : Value → Shared → Prop} (hl1 : s.heap.IsTuple l1 xs) (hl2 : s.heap.IsList l2 ys)
    (h : ∀ h', IsZip h' (s.heap.objs.size + 4) (s.heap.objs.size + 2) (s.heap.objs.size + 3) .none → IsPair h' (s.heap.objs.size + 2) (.ref s.heap.objs.size) (.ref (s.heap.objs.size + 1)) →
      IsPair h' (s.heap.objs.size + 3) .none .none → h'.IsTupleIter s.heap.objs.size l1 0 → h'.objs.size = s.heap.objs.size + 5 →
      (∀ c o, s.heap.get? c = some o → h'.get? c = some o) → Q (.ref (s.heap.objs.size + 4)) { s with heap := h' }) :
    wpAny (model prog w) A (call (.type "zip") [.ref l1, .ref l2]) Q E s := by
  refine callType_new F.called_zip (by decide) (F.typeCall_zip_2 _ _) (F.newCall_zip_2 _ _) (fun obj => F.args_object_init_3 obj _ _) F.entry_zip_new
    (meets_zipM_new l1 l2 xs ys) ⟨hl1, hl2, ?_⟩
  have z1 : (zmH1 s.heap l1).objs.size = s.heap.objs.size + 1 := Heap.size_push ..
  have z2 : (zmH2 s.heap l1 l2).objs.size = s.heap.objs.size + 2 := by rw [Heap.size_push, z1]
  have z3 : (zmH3 s.heap l1 l2).objs.size = s.heap.objs.size + 3 := by rw [Heap.size_push, z2]
  have z4 : (zmH4 s.heap l1 l2).objs.size = s.heap.objs.size + 4 := by rw [Heap.size_push, z3]
  have z5 : (zmH5 s.heap l1 l2).objs.size = s.heap.objs.size + 5 := by rw [Heap.size_push, z4]
  have g5 : (zmH5 s.heap l1 l2).get? (zmH4 s.heap l1 l2).objs.size = some _ := Heap.get?_push_size _ rfl
  have g4 : (zmH5 s.heap l1 l2).get? (zmH3 s.heap l1 l2).objs.size = some _ := Heap.get?_push_of_some _ (Heap.get?_push_size _ rfl)
  have g3 : (zmH5 s.heap l1 l2).get? (zmH2 s.heap l1 l2).objs.size = some _ := Heap.get?_push_of_some _ (Heap.get?_push_of_some _ (Heap.get?_push_size _ rfl))
  have g1 : (zmH5 s.heap l1 l2).get? s.heap.objs.size = some _ := Heap.get?_push_of_some _ (Heap.get?_push_of_some _ (Heap.get?_push_of_some _ (Heap.get?_push_of_some _ (Heap.get?_push_size _ rfl))))
  show _ ∧ _
  rw [z2, z3, z4] at g5
  rw [z1, z2] at g3
  rw [z3] at g4
  rw [z4]
  exact ⟨⟨_, g5, rfl⟩, h _ g5 g3 g4 ⟨_, g1, rfl, rfl⟩ z5 fun c o x =>
    Heap.get?_push_of_some _ (Heap.get?_push_of_some _ (Heap.get?_push_of_some _ (Heap.get?_push_of_some _ (Heap.get?_push_of_some _ x))))⟩
end
/-- nothing comes -/
def ItZ0 (K : PySem.W.Frag) (a : Addr) : It := ⟨fun _ _ => False, fun _ _ _ _ => False, fun i H => i = 0 ∧ SqT K H a []⟩
theorem turn_zip0 {P : Program} {w : World} {K : PySem.W.Frag} {elts : List Expr} {kk : Nat} {tpos : Pos} {a z TI TO i1 i2 : Addr} (n1 : i1 ≠ z) (n2 : a ≠ z) :
    Turn P w K (.Tuple elts kk tpos) (ItZ0 K a) [z, TI, TO, i1] z (fun i h => IsZip h z TI TO .none ∧ IsPair h TI (.ref i1) (.ref i2) ∧ (∃ x y, IsPair h TO x y) ∧ h.IsTupleIter i1 a i) where
  mem := by simp
  obj := fun i h st c hc => by
    obtain ⟨hz, hTI, ⟨x, y, hTO⟩, ⟨o1, e1, _, d1⟩⟩ := st
    have e' : c = z ∨ c = TI ∨ c = TO ∨ c = i1 := by simpa using hc
    rcases e' with q | q | q | q
    · rw [q]; exact ⟨_, hz, fun v q => nomatch q⟩
    · rw [q]; exact ⟨_, hTI, fun v q => nomatch q⟩
    · rw [q]; exact ⟨_, hTO, fun v q => nomatch q⟩
    · rw [q]; exact ⟨o1, e1, fun v q => by rw [d1] at q; cases q⟩
  keep := fun i h h' st k => by
    obtain ⟨hz, hTI, ⟨x, y, hTO⟩, h1⟩ := st
    exact ⟨k z (by simp) _ hz, k TI (by simp) _ hTI, ⟨x, y, k TO (by simp) _ hTO⟩, h1.at fun o q => k i1 (by simp) o q⟩
  item := by
    intro X hP hw hK hc i pins s σ H E I hf st hg
    exact hg.elim
  done := by
    intro X hP hw hK hc i pins s σ H E I hf st hg
    subst hP hw hK
    obtain ⟨hz, hTI, ⟨x0, y0, hTO⟩, h1⟩ := st
    obtain ⟨rfl, hq⟩ := hg
    obtain ⟨its, rv, p, _⟩ := I.tuple hq
    cases rv
    exact pyNext_zip0 (I.ok.hd hc) n1 n2 hz hTI h1 p fun h' hk => ⟨rfl, I.turnedL (t' := s.toks) (ch := [z, TI, TO, i1]) (fun c o hb q =>
      hk c o (fun q' => hb (by simp [q'])) (fun q' => hb (by simp [q'])) q) hf⟩
  self := fun A i s Q E st h => wpAny_pyIter_zip st.1 h
def iZip0 (K : PySem.W.Frag) (ta : TA) : TI := fun σ H R => ta σ H fun vs H1 => ∃ a b ys, vs = [.ref a, .ref b] ∧ SqT K H1 a [] ∧ SqL K H1 b ys ∧ R (ItZ0 K a) H1
theorem pi_zip0 {X : Cx} {e e2 : Expr} {ta : TA} {p pos tpos : Pos} {elts : List Expr} {kk : Nat} (hg : Gl X "zip") (hm : X.mg "zip" = none) (ha : PA X [e, e2] ta)
    (hs : starEach [e, e2] X.env = (false, eval e X.env) :: starEach [e2] X.env := by rfl) (hpl : (backTo pos (starEach [e2] X.env)).any (·.1) = false := by rfl) :
    PI X (.Tuple elts kk tpos) (.Call (.Name "zip" p) [e, e2] [] pos) (iZip0 X.K ta) := by
  refine ⟨fun pins s σ H R I h => ?_⟩
  refine Call_ (ld_blt I hg hm PyProof.Rows.boot_zip (PyProof.Rows.callWith_type1 (thn (ha.run pos pins s σ H _ I h) fun us s1 ⟨vs, H1, I1, r1, q1⟩ => ?_) hs hpl))
  obtain ⟨a, b, ys, ex, hqx, hqy, q⟩ := q1
  subst ex
  obtain ⟨u1, u2, rfl, r1, r2⟩ := vals2 r1
  cases r1
  cases r2
  have fresh5 : ∀ c, c ∈ [s1.heap.objs.size + 4, s1.heap.objs.size + 2, s1.heap.objs.size + 3, s1.heap.objs.size] → FpOk X pins H1 c := fun c hcm => by
    have e' : c = s1.heap.objs.size + 4 ∨ c = s1.heap.objs.size + 2 ∨ c = s1.heap.objs.size + 3 ∨ c = s1.heap.objs.size := by simpa using hcm
    have hle : s1.heap.objs.size ≤ c := by
      rcases e' with z | z | z | z <;> omega
    exact I1.fpOk hle (I1.hok.fresh hle)
  obtain ⟨its, rv, p1, _⟩ := I1.tuple hqx
  obtain ⟨its2, rv2, p2, _⟩ := I1.list hqy
  obtain ⟨o1, ho1, _⟩ := id p1
  have la : a < s1.heap.objs.size := Heap.lt_size ho1
  refine call_zipM (show s1.heap.IsTuple a its.toArray from p1) p2.isList fun h' hz hTI hTO h1 hsz hk => wpAny_pyIter_zip hz ?_
  have I2 : Inv X pins σ H1 { s1 with heap := h' } := I1.kept (t' := s1.toks) hk
  exact ⟨s1.heap.objs.size + 4, [s1.heap.objs.size + 4, s1.heap.objs.size + 2, s1.heap.objs.size + 3, s1.heap.objs.size], _, _, H1, rfl, I2, turn_zip0 (a := a) (z := s1.heap.objs.size + 4) (TI := s1.heap.objs.size + 2) (TO := s1.heap.objs.size + 3) (i1 := s1.heap.objs.size) (i2 := s1.heap.objs.size + 1) (Nat.ne_of_lt (Nat.lt_add_of_pos_right (by decide))) (Nat.ne_of_lt (Nat.lt_of_lt_of_le la (Nat.le_add_right ..))), ⟨hz, hTI, ⟨_, _, hTO⟩, h1⟩, fresh5, q⟩
theorem asZip0 {X : Cx} {K : PySem.W.Frag} {ta : TA} {tg e : Expr} (eK : X.K = K) (h : PI X tg e (iZip0 X.K ta)) : PI X tg e (iZip0 K ta) := eK ▸ h
theorem tuple_mul1 (l : Addr) (items : Array Value) (n : Nat) (dd : Option Addr) (sl : Array (Option Value)) (u : Tok) :
    Meets (Builtin.«tuple.__mul__» ⟨[.ref l, .int 1 u], []⟩) (fun _ R s => s.heap.get? l = some { cls := .type "tuple", dict := dd, data := .seq items n, slots := sl } ∧ R (.ok (.ret (Value.ref l))) s) :=
  .of_wp fun prog w A R s h => by
    obtain ⟨hp, g, d, tk, os⟩ := s
    obtain ⟨hl, h⟩ := h
    have f1 := AutoSeq1.idx_int
    wp_walk using AutoSeq1.wpAny_loadPart' hl
    exact ⟨_, rfl, h⟩
theorem tuple_mul0 (l : Addr) (items : Array Value) (n : Nat) (dd : Option Addr) (sl : Array (Option Value)) (u : Tok) (c1 : items.isEmpty = false) :
    Meets (Builtin.«tuple.__mul__» ⟨[.ref l, .int 0 u], []⟩) (fun _ R s => s.heap.get? l = some { cls := .type "tuple", dict := dd, data := .seq items n, slots := sl } ∧
      ∀ e s', (∃ hp', s' = { s with heap := hp' } ∧ (∀ b o, s.heap.get? b = some o → hp'.get? b = some o) ∧ hp'.IsTuple e #[] ∧ s.heap.objs.size ≤ e) → R (.ok (.ret (Value.ref e))) s') :=
  .of_wp fun prog w A R s h => by
    obtain ⟨hp, g, d, tk, os⟩ := s
    obtain ⟨hl, h⟩ := h
    have f1 := AutoSeq1.idx_int
    wp_walk using AutoSeq1.wpAny_loadPart' hl
    exact ⟨_, rfl, h _ _ ⟨_, rfl, fun b o e => Heap.get?_push_of_some _ e, ⟨_, Heap.get?_push_size _ rfl, rfl, 0, rfl⟩, Nat.le_refl _⟩⟩
/-- (x,) * k -/
def rRep1 (K : PySem.W.Frag) : R2 := fun x y H Q => ∃ l k v, x = .ref l ∧ y = .int k ∧ H l = some (.tup [v]) ∧ 0 ≤ k ∧ k ≤ 1000 ∧ ∀ H' p, Same H H' → H' p = some (.tup (List.replicate k.toNat v)) → Q (.ref p) H'
theorem op_rep1 {X : Cx} : OpR X (binaryOp .Mult) (rRep1 X.K) := by
  intro pins s σ H x y v u Q I rx ry h
  obtain ⟨l, k, z, rfl, rfl, hT0, h1, h2, q⟩ := h
  have hT : SqT X.K H l [z] := SqT.of hT0
  have flat : ∀ n : Nat, (List.replicate n [z]).flatten = List.replicate n z := fun n => by
    induction n with
    | zero => rfl
    | succ n ih => rw [List.replicate_succ, List.flatten_cons, ih, List.replicate_succ]; rfl
  by_cases h3 : 2 ≤ k
  · exact op_repT pins s σ H _ _ v u Q I rx ry ⟨l, k, [z], rfl, rfl, hT, List.cons_ne_nil _ _, h3, h2, show 1 ≤ 1000 by decide, fun p hp => q _ p ((Same.refl H).at hp _) (by rw [upd_same, flat])⟩
  cases rx
  obtain ⟨t, rfl⟩ := ry
  obtain ⟨its, r, ⟨⟨cls, dd, data, sl⟩, ho, hc, n, hd⟩, hs⟩ := I.tuple hT
  simp only at hc hd
  subst hc hd
  by_cases h4 : k = 1
  · subst h4
    refine wpAny_binaryOp_repeat_ref (T := "tuple") (U := "int") (by decide) ⟨_, ho, rfl⟩ (fun s' => typeIs_int s' 1 t) noFill_tuple_mul F.fills_int_mul F.slot_int_rmul repeat_tuple F.slot_int_index.lookup
      (call_meets F.slot_int_rmul (typeIs_int s 1 t) F.entry_int_rmul (F.args_int_rmul_2 _ _) (int_rmul_tuple 1 t l its.toArray n dd sl)
        ⟨ho, rfl, ⟨_, ho, rfl⟩, call_meets F.slot_tuple_mul ⟨_, ho, rfl⟩ F.entry_tuple_mul (F.args_tuple_mul_2 _ _) (tuple_mul1 l its.toArray n dd sl t) ⟨ho, ?_⟩⟩)
    exact ⟨.ref l, H, I, rfl, q H l (Same.refl H) hT0⟩
  · obtain rfl : k = 0 := by omega
    have hi : its.toArray.isEmpty = false := by
      cases r
      rfl
    refine wpAny_binaryOp_repeat_ref (T := "tuple") (U := "int") (by decide) ⟨_, ho, rfl⟩ (fun s' => typeIs_int s' 0 t) noFill_tuple_mul F.fills_int_mul F.slot_int_rmul repeat_tuple F.slot_int_index.lookup
      (call_meets F.slot_int_rmul (typeIs_int s 0 t) F.entry_int_rmul (F.args_int_rmul_2 _ _) (int_rmul_tuple 0 t l its.toArray n dd sl)
        ⟨ho, rfl, ⟨_, ho, rfl⟩, call_meets F.slot_tuple_mul ⟨_, ho, rfl⟩ F.entry_tuple_mul (F.args_tuple_mul_2 _ _) (tuple_mul0 l its.toArray n dd sl t hi) ⟨ho, ?_⟩⟩)
    rintro e s' ⟨hp', rfl, hk, he, hz⟩
    exact ⟨.ref e, upd H e (.tup []), I.laid (t' := s.toks) hk hz ⟨by decide, [], .nil, he⟩, rfl, q _ e ((Same.refl H).at (I.hok.fresh hz) _) upd_same⟩
end J
namespace J
open PySem PySem.W PySem.Spec PyProof.Rows PyProof.V L2 M
section
variable {X : Cx}
/-- d.items() -/
def rItemsK : V → List V → Hp → VK → Prop := fun x xs H Q => ∃ (a : Addr) (kvs : List (Key × V)), x = .ref a ∧ xs = [] ∧ H a = some (.dK kvs) ∧ ∀ p, H p = none → Q (.ref p) (upd H p (L2.DX.itemsO p a))
theorem mt_itemsK : MtR X "dict.items" rItemsK := by
  intro pins s σ H x xs v us Q I rx rxs h
  obtain ⟨a, kvs, rfl, rfl, ha, q⟩ := h
  cases rx
  cases rxs
  obtain ⟨z, hd, vs, rel, o, es, ep, ho, hx, hdat, _⟩ := dk_of I.hok ha
  refine DT.callItems (es := es) (ep := ep) hd ⟨o, ho, hx, hdat⟩ ?_
  exact ⟨.ref s.heap.objs.size, upd H s.heap.objs.size (L2.DX.itemsO s.heap.objs.size a), I.laid (t' := s.toks) (fun b u e => Heap.get?_push_of_some _ e) (Nat.le_refl _) (L2.DX.itemsO_ok (Heap.get?_push_size _ rfl)), rfl, q _ (I.hok.fresh (Nat.le_refl _))⟩
/-- the pairs of a dict, each a tuple -/
def Prs (H : Hp) (kvs : List (Key × V)) (as : List Addr) : Prop := as.length = kvs.length ∧ ∀ (j : Nat) (a : Addr), as[j]? = some a → ∃ kv, kvs[j]? = some kv ∧ H a = some (.tup [kV kv.1, kv.2])
theorem KV.nth {kvs : List (Key × V)} {vs : List (Key × Value)} (r : KV kvs vs) {j : Nat} {k : Key} {x : Value} (h : vs[j]? = some (k, x)) : ∃ kv, kvs[j]? = some kv ∧ kv.1 = k ∧ RelV kv.2 x := by
  obtain ⟨y, h1, h2⟩ := L2.DX.pget r h
  exact ⟨y, h1, h2.1, h2.2⟩
/-- list(d.items()) -/
def rListIt : List V → Hp → VK → Prop := fun vs H Q => ∃ (p a : Addr) (kvs : List (Key × V)), vs = [.ref p] ∧ H p = some (L2.DX.itemsO p a) ∧ H a = some (.dK kvs) ∧
  ∀ (H' : Hp) (l : Addr) (as : List Addr), Same H H' → H l = none → H' l = some (.lst (as.map V.ref)) → Prs H' kvs as → Q (.ref l) H'
theorem call_listIt (hc : X.calm = true) : CallR X (.type "list") rListIt := by
  intro pins s σ H xs us Q I r h
  obtain ⟨p, a, kvs, rfl, hp, ha, q⟩ := h
  obtain rfl := Vals.ref1 r
  have view : s.heap.IsItemsView p a := (show ObjOk X.prog X.w H s.heap p (L2.DX.itemsO p a) from I.hok p _ hp).1
  obtain ⟨z, hd, vs, rel, dd⟩ := dk_of I.hok ha
  obtain ⟨ep, hat⟩ := dd.dictAt
  have hl : kvs.length = vs.length := KV.length rel
  refine kdx_call (I.ok.hd hc) view hat (by rw [← hl]; exact z) fun h' tk acc c as hk hS lak hG hacc => ?_
  have nd : as.Nodup := List.Pairwise.imp (fun h => Nat.ne_of_lt h) hG.rise
  have pr : ∀ (j : Nat) (b : Addr), as[j]? = some b → ∃ (kv : Key × V) (key x : Value), kvs[j]? = some kv ∧ RelV (kV kv.1) key ∧ RelV kv.2 x ∧ h'.get? b = some { cls := .type "tuple", data := .seq #[key, x] } := by
    intro j b hj
    obtain ⟨key, k, x, hv, his, hg⟩ := hG.pairs j b hj
    obtain ⟨kv, e1, e2, e3⟩ := KV.nth rel hv
    exact ⟨kv, key, x, e1, by rw [e2]; exact keyIs_rel his, e3, hg⟩
  have hn0 : H s.heap.objs.size = none := I.hok.fresh (Nat.le_refl _)
  have hlen : (as.map V.ref).length ≤ sizeLine := by rw [List.length_map, lak, ← hl]; exact z
  have rv : Vals (as.map V.ref) acc.toList := by
    rw [hacc]
    exact vals_refs as
  have I2 : Inv X pins σ (upd H s.heap.objs.size (.lst (as.map V.ref))) { s with heap := h', toks := tk } :=
    I.laid (t' := tk) hk (Nat.le_refl _) ⟨hlen, acc.toList, c, rv, by rw [Array.toArray_toList]; exact hS⟩
  obtain ⟨H2, I3, g, qt⟩ := L2.DX.takeT (P := fun b ws => ∃ (j : Nat) (kv : Key × V), as[j]? = some b ∧ kvs[j]? = some kv ∧ ws = [kV kv.1, kv.2]) I as _ I2 nd fun b hb => by
    obtain ⟨j, hj⟩ := List.mem_iff_getElem?.mp hb
    obtain ⟨kv, key, x, e1, e2, e3, hg⟩ := pr j b hj
    have hbl : s.heap.objs.size < b := hG.above b hb
    refine ⟨Nat.le_of_lt hbl, ?_, [kV kv.1, kv.2], ⟨j, kv, hj, e1, rfl⟩, fun H3 => ⟨(by rw [sizeLine_eq]; show 2 ≤ 16777216; omega), [key, x], .cons e2 (.cons e3 .nil), ⟨_, hg, rfl, 0, rfl⟩⟩⟩
    rw [upd_ne (Nat.ne_of_gt hbl)]
    exact I.hok.fresh (Nat.le_of_lt hbl)
  have gr : Same H H2 := fun b o e => g b o (by rw [upd_ne (ne_of_none e hn0)]; exact e)
  refine ⟨.ref s.heap.objs.size, H2, I3, rfl, q H2 _ as gr hn0 (g _ _ upd_same) ⟨by rw [lak, hl], fun j b hj => ?_⟩⟩
  obtain ⟨ws, ⟨i, kv, i1, i2, ew⟩, hH⟩ := qt b (List.mem_of_getElem? hj)
  have eij : i = j := (List.getElem?_inj (List.getElem?_eq_some_iff.mp i1).1 nd).mp (i1.trans hj.symm)
  subst eij
  exact ⟨kv, i2, by rw [hH, ew]⟩
end
section
variable {prog : Program} {w : World} {A : Around} {E : Value → Shared → Prop} {s : Shared}
/-- a pair of texts -/
def TwoS (h : Heap) (v : Value) (y z : Str) : Prop := ∃ (a : Addr) (t u : Tok), v = .ref a ∧ IsTup h a #[.str y t, .str z u]
def keyT (h : Heap) (v : Value) : Str := DT.txOf (DT.seqAt0 h (DT.refOf (some v)))
theorem TwoS.tx {h : Heap} {v : Value} {y z : Str} (x : TwoS h v y z) : keyT h v = y := by
  obtain ⟨a, t, u, rfl, h1⟩ := x
  show DT.txOf (DT.seqAt0 h a) = y
  rw [DT.seqAt0_of h1]
  rfl
theorem firstsT {h : Heap} : ∀ vs : List Value, (∀ v ∈ vs, ∃ y z, TwoS h v y z) → ∃ fs : List Value, KatTups h vs fs ∧ fs.length = vs.length ∧ ∀ f ∈ fs, ∃ (y : Str) (t : Tok), f = Value.str y t
  | [], _ => ⟨[], KatTups.nil, rfl, fun f hf => by simp at hf⟩
  | v :: vs, x => by
    obtain ⟨fs, k, hl, hi⟩ := firstsT vs fun u hu => x u (List.mem_cons_of_mem _ hu)
    obtain ⟨y, z, a, t, u, rfl, ⟨o, ho, hc, n, hd⟩⟩ := x v (List.mem_cons_self ..)
    refine ⟨.str y t :: fs, KatTups.cons ho hc hd rfl k, by rw [List.length_cons, List.length_cons, hl], fun f hf => ?_⟩
    rcases List.mem_cons.mp hf with rfl | hf
    · exact ⟨y, t, rfl⟩
    · exact hi f hf
theorem kindT {vs : List Value} {ρ : Str → Int} (h2 : 2 ≤ vs.length) (x : ∀ v ∈ vs, ∃ y z, TwoS s.heap v y z) (un : ∀ v ∈ vs, ∀ u ∈ vs, keyT s.heap v = keyT s.heap u → v = u)
    (hρ : ∀ v ∈ vs, ∀ u ∈ vs, decide ((keyT s.heap v).cps.toList < (keyT s.heap u).cps.toList) = decide (ρ (keyT s.heap v) < ρ (keyT s.heap u))) (Q : SortKind → Shared → Prop)
    (h : ∀ κ, TS.Cmp prog w A s κ (pairsOf vs) (fun v => ρ (keyT s.heap v)) → Q κ s) : wpAny (model prog w) A (keyKind' vs.toArray) Q E s := by
  obtain ⟨fs, k, hl, hi⟩ := firstsT vs x
  refine kat_kind (T := Value.type "str") k (by omega) (fun f hf => ?_) rfl (h _ ?_)
  · obtain ⟨y, t, rfl⟩ := hi f hf
    exact .now
  · intro p q hp hq Q' E' hQ
    rw [pairsOf_toList] at hp hq
    have mp := (mem_zip_self hp).2
    have mq := (mem_zip_self hq).2
    obtain ⟨y, y2, py⟩ := x _ mp
    obtain ⟨z, z2, pz⟩ := x _ mq
    have hr := hρ _ mp _ mq
    have hu := un _ mp _ mq
    have hQ' : Q' (decide (y.cps.toList < z.cps.toList)) s := by
      rw [py.tx, pz.tx] at hr
      rw [hr]
      have hQ2 : Q' (decide (ρ (keyT s.heap p.1) < ρ (keyT s.heap q.1))) s := hQ
      rw [py.tx, pz.tx] at hQ2
      exact hQ2
    rw [py.tx, pz.tx] at hu
    obtain ⟨a, t, u, e1, ⟨o, ho, hc, n, hd⟩⟩ := py
    obtain ⟨a', t', u', e2, ⟨o', ho', hc', n', hd'⟩⟩ := pz
    rw [e1, e2]
    refine kat_lt ho hd ho' hd' ?_
    show KatLex prog w A _ false Q' [(Value.str y t, Value.str z t'), (Value.str y2 u, Value.str z2 u')] 0 s
    by_cases e : y = z
    · have irr : decide (y.cps.toList < z.cps.toList) = false := by
        rw [e]
        exact decide_eq_false (List.lt_irrefl _)
      rw [irr] at hQ'
      have ea : a = a' := by
        have := hu e
        rw [e1, e2] at this
        exact Value.ref.inj this
      subst ea
      have eo := ho.symm.trans ho'
      cases eo
      rw [hd] at hd'
      have e5 : y2 = z2 := by
        have := Data.seq.inj hd'
        have := this.1
        simp only [Array.mk.injEq, List.cons.injEq] at this
        exact (Value.str.inj this.2.1).1
      refine kat_cons (wpAny_eqBool_str ?_)
      rw [decide_eq_true e]
      refine kat_yes (kat_cons (wpAny_eqBool_str ?_))
      rw [decide_eq_true e5]
      exact kat_yes (kat_nil hQ')
    · refine kat_cons (wpAny_eqBool_str ?_)
      rw [decide_eq_false e]
      refine kat_no ?_
      exact oneLt_any_str hQ'
end
/-- how many of them stand ahead -/
def rkS (l : List Str) (x : Str) : Int := ((l.filter fun y => decide (y.cps.toList < x.cps.toList)).length : Nat)
theorem rkS_ok {l : List Str} {x y : Str} (hx : x ∈ l) (hy : y ∈ l) : decide (x.cps.toList < y.cps.toList) = decide (rkS l x < rkS l y) := by
  have mono : ∀ {a b : Str}, (∀ c ∈ l, c.cps.toList < a.cps.toList → c.cps.toList < b.cps.toList) → (l.filter fun y => decide (y.cps.toList < a.cps.toList)).Sublist (l.filter fun y => decide (y.cps.toList < b.cps.toList)) := by
    intro a b h
    have : (l.filter fun y => decide (y.cps.toList < a.cps.toList)) = (l.filter fun y => decide (y.cps.toList < b.cps.toList)).filter fun y => decide (y.cps.toList < a.cps.toList) := by
      rw [List.filter_filter]
      refine List.filter_congr fun c hc => ?_
      by_cases e : c.cps.toList < a.cps.toList
      · rw [decide_eq_true e, decide_eq_true (h c hc e)]; rfl
      · rw [decide_eq_false e]; rfl
    rw [this]
    exact List.filter_sublist
  by_cases h : x.cps.toList < y.cps.toList
  · rw [decide_eq_true h]
    have s1 := mono (a := x) (b := y) fun c _ q => List.lt_trans q h
    have le := s1.length_le
    have ne : (l.filter fun c => decide (c.cps.toList < x.cps.toList)).length ≠ (l.filter fun c => decide (c.cps.toList < y.cps.toList)).length := fun e => by
      have e2 := s1.eq_of_length e
      have m : x ∈ l.filter fun c => decide (c.cps.toList < y.cps.toList) := List.mem_filter.mpr ⟨hx, by simpa using h⟩
      rw [← e2] at m
      have := (List.mem_filter.mp m).2
      exact List.lt_irrefl _ (of_decide_eq_true this)
    refine (decide_eq_true ?_).symm
    unfold rkS
    omega
  · rw [decide_eq_false h]
    have s1 := mono (a := y) (b := x) fun c _ q => by
      refine Classical.byContradiction fun n => h ?_
      exact List.lt_of_le_of_lt (List.not_lt.mp n) q
    have le := s1.length_le
    refine (decide_eq_false ?_).symm
    unfold rkS
    omega
/-- pairs of texts, each a tuple -/
def Prs2 (H : Hp) (ts : List (Str × Str)) (as : List Addr) : Prop := as.length = ts.length ∧ ∀ (j : Nat) (a : Addr), as[j]? = some a → ∃ t, ts[j]? = some t ∧ H a = some (.tup [.str t.1, .str t.2])
def entS (t : Str × Str) : Key × V := (Sum.inr t.1, V.str t.2)
def rSortItS : List V → Hp → VK → Prop := fun vs H Q => ∃ (p a : Addr) (ts : List (Str × Str)), vs = [.ref p] ∧ H p = some (L2.DX.itemsO p a) ∧ H a = some (.dK (ts.map entS)) ∧ (ts.map Prod.fst).Nodup ∧ ts.length < 64 ∧
  ∀ (H' : Hp) (l : Addr) (ps : List (Str × Str)) (as : List Addr), Same H H' → H l = none → ps.Perm ts → (ps.map Prod.fst).Pairwise (fun x y => ¬ y.cps.toList < x.cps.toList) → H' l = some (.lst (as.map V.ref)) → Prs2 H' ps as → Q (.ref l) H'
section
variable {X : Cx}
theorem cr_sortItS (hc : X.calm = true) : CallR X (.builtin "sorted") rSortItS := by
  intro pins s σ H xs us Q I r h
  obtain ⟨p, a, ts, rfl, hp, ha, hnd, h64, q⟩ := h
  obtain rfl := Vals.ref1 r
  have view : s.heap.IsItemsView p a := (show ObjOk X.prog X.w H s.heap p (L2.DX.itemsO p a) from I.hok p _ hp).1
  obtain ⟨z, hd, vs, rel, o, es, ep, ho, hx, hdat, hks, hpairs, hn⟩ := dk_of I.hok ha
  have l1 : ts.length = vs.length := by have := KV.length rel; rwa [List.length_map] at this
  have l2 : es.size = vs.length := by have := hpairs.length; rwa [Array.length_toList] at this
  have hh : X.A.handled = none := I.ok.hd hc
  refine DT.sortedI (es := es) (ep := ep) hh view ⟨o, ho, hx, hdat⟩ (by rw [sizeLine_eq]; omega) fun h' tk as hk hlt hl hG => ?_
  have lak : as.length = ts.length := by omega
  have nd : as.Nodup := List.Pairwise.imp (fun h => Nat.ne_of_lt h) hG.rise
  have pr : ∀ (j : Nat) (b : Addr), as[j]? = some b → ∃ (t : Str × Str) (t1 t2 : Tok), ts[j]? = some t ∧ h'.get? b = some { cls := .type "tuple", data := .seq #[Value.str t.1 t1, Value.str t.2 t2] } := by
    intro j b hj
    obtain ⟨en, he, hg⟩ := hG.pairs j b hj
    have he' : es.toList[j]? = some en := by rw [Array.getElem?_toList]; exact he
    have hp2 : ∀ {es' : List DictEntry} {kvs : List (Key × Value)}, Pairs (mixKind X.prog X.w) es' kvs → ∀ {j : Nat} {e : DictEntry}, es'[j]? = some e → ∃ kv, kvs[j]? = some kv ∧ keyIs kv.1 e.key = true ∧ e.val = kv.2 := by
      intro es' kvs P
      induction P with
      | nil => intro j e h; simp at h
      | cons h1 h2 _ ih =>
        intro j e h
        cases j with
        | zero => simp only [List.getElem?_cons_zero] at h; cases h; exact ⟨_, rfl, h1, h2⟩
        | succ j => exact ih (j := j) (by simpa using h)
    obtain ⟨kv, e1, e2, e3⟩ := hp2 hpairs he'
    obtain ⟨kv2, f1, f2, f3⟩ := KV.nth rel (show vs[j]? = some (kv.1, kv.2) from e1)
    rw [List.getElem?_map] at f1
    cases ht : ts[j]? with
    | none => rw [ht] at f1; cases f1
    | some t =>
      rw [ht] at f1
      cases f1
      have f2' : kv.1 = Sum.inr t.1 := f2.symm
      rw [f2'] at e2
      obtain ⟨t1, ht1⟩ : ∃ t1, en.key = Value.str t.1 t1 := by
        rcases keyIs_shape e2 with ⟨i, t, q, _⟩ | ⟨x, t', q, q2⟩
        · exact nomatch q
        · cases q; exact ⟨t', q2⟩
      obtain ⟨t2, ht2⟩ : ∃ t2, kv.2 = Value.str t.2 t2 := f3
      exact ⟨t, t1, t2, rfl, by rw [hg, ht1, e3, ht2]⟩
  have hob : (h'.push { cls := .type "list", data := .seq (as.map Value.ref).toArray }).get? h'.objs.size = some (seqObj "list" (as.map Value.ref).toArray 0) := Heap.get?_push_size _ rfl
  have kb : ∀ b o, s.heap.get? b = some o → (h'.push { cls := .type "list", data := .seq (as.map Value.ref).toArray }).get? b = some o := fun b o e => Heap.get?_push_of_some _ (hk b o e)
  have ne0 : ∀ b o, h'.get? b = some o → b ≠ h'.objs.size := fun b o e => Nat.ne_of_lt (Heap.lt_size e)
  generalize hh2 : h'.push { cls := .type "list", data := .seq (as.map Value.ref).toArray } = h2 at hob kb ⊢
  have ka : ∀ b o, h'.get? b = some o → h2.get? b = some o := fun b o e => by rw [← hh2]; exact Heap.get?_push_of_some _ e
  have pin : ∀ (j : Nat) (b : Addr), as[j]? = some b → ∃ t : Str × Str, ts[j]? = some t ∧ TwoS (TS.midHeap h2 h'.objs.size (as.map Value.ref)) (.ref b) t.1 t.2 := by
    intro j b hj
    obtain ⟨t, t1, t2, he, hg⟩ := pr j b hj
    exact ⟨t, he, b, t1, t2, rfl, ⟨_, TS.midHeap_old (ne0 _ _ hg) (ka _ _ hg), rfl, 0, rfl⟩⟩
  have tx : ∀ (j : Nat) (b : Addr) (e : Str × Str), as[j]? = some b → ts[j]? = some e → keyT (TS.midHeap h2 h'.objs.size (as.map Value.ref)) (.ref b) = e.1 := by
    intro j b e hj he
    obtain ⟨e', he', hp'⟩ := pin j b hj
    have ee : e' = e := Option.some.inj (he'.symm.trans he)
    rw [← ee]
    exact hp'.tx
  have at_ : ∀ v ∈ as.map Value.ref, ∃ (j : Nat) (b : Addr) (e : Str × Str), v = .ref b ∧ as[j]? = some b ∧ ts[j]? = some e := by
    intro v hv'
    obtain ⟨b, hb, rfl⟩ := List.mem_map.mp hv'
    obtain ⟨j, hj⟩ := List.mem_iff_getElem?.mp hb
    obtain ⟨e, _, _, he, _⟩ := pr j b hj
    exact ⟨j, b, e, rfl, hj, he⟩
  refine wpAny_call_entry PyProof.Rows.slot_list_sort ⟨_, hob, rfl⟩ PyProof.Rows.entry_list_sort
    (SK.plain_sort (s := { s with heap := h2, toks := tk }) (r := fun v => rkS (ts.map Prod.fst) (keyT (TS.midHeap h2 h'.objs.size (as.map Value.ref)) v)) hob (by rw [List.length_map]; omega) (fun h2' Qk hQk => ?_) fun ps out o1 o2 o3 => ⟨.none, rfl, ?_⟩) (PyProof.Rows.args_list_sort _)
  · refine kindT (s := { s with heap := TS.midHeap h2 h'.objs.size (as.map Value.ref), toks := tk }) (ρ := rkS (ts.map Prod.fst)) h2' (fun v hv' => ?_) (fun v hv' u hu' e => ?_) (fun v hv' u hu' => ?_) Qk hQk
    · obtain ⟨j, b, e, rfl, hj, he⟩ := at_ v hv'
      obtain ⟨e', _, hp'⟩ := pin j b hj
      exact ⟨e'.1, e'.2, hp'⟩
    · obtain ⟨j, b, e1, rfl, hj, he⟩ := at_ v hv'
      obtain ⟨j2, b2, e2, rfl, hj2, he2⟩ := at_ u hu'
      have e : keyT (TS.midHeap h2 h'.objs.size (as.map Value.ref)) (.ref b) = keyT (TS.midHeap h2 h'.objs.size (as.map Value.ref)) (.ref b2) := e
      rw [tx j b e1 hj he, tx j2 b2 e2 hj2 he2] at e
      have i1 : (ts.map Prod.fst)[j]? = some e1.1 := by rw [List.getElem?_map, he]; rfl
      have i2 : (ts.map Prod.fst)[j2]? = some e2.1 := by rw [List.getElem?_map, he2]; rfl
      have eij : j = j2 := (List.getElem?_inj (List.getElem?_eq_some_iff.mp i1).1 hnd).mp (i1.trans (by rw [i2, e]))
      subst eij
      rw [Option.some.inj (hj.symm.trans hj2)]
    · obtain ⟨j, b, e, rfl, hj, he⟩ := at_ v hv'
      obtain ⟨j2, b2, e2, rfl, hj2, he2⟩ := at_ u hu'
      show decide ((keyT (TS.midHeap h2 h'.objs.size (as.map Value.ref)) (.ref b)).cps.toList < (keyT (TS.midHeap h2 h'.objs.size (as.map Value.ref)) (.ref b2)).cps.toList) = decide (rkS (ts.map Prod.fst) (keyT (TS.midHeap h2 h'.objs.size (as.map Value.ref)) (.ref b)) < rkS (ts.map Prod.fst) (keyT (TS.midHeap h2 h'.objs.size (as.map Value.ref)) (.ref b2)))
      rw [tx j b e hj he, tx j2 b2 e2 hj2 he2]
      exact rkS_ok (List.mem_map_of_mem (List.mem_of_getElem? he)) (List.mem_map_of_mem (List.mem_of_getElem? he2))
  · show EP X pins σ Q (.ref h'.objs.size) { s with heap := sortedHeap h2 h'.objs.size (as.map Value.ref) out, toks := tk }
    obtain ⟨zs, pz, ez⟩ := perm_lift (fun z : Addr × Str × Str => (Value.ref z.1, Value.ref z.1)) o2 (as.zip ts) (L2.DX.zip_self Value.ref as ts lak)
    have idx : ∀ z ∈ zs, ∃ j : Nat, as[j]? = some z.1 ∧ ts[j]? = some z.2 := by
      intro z' hz'
      obtain ⟨j, hj⟩ := List.mem_iff_getElem?.mp (pz.mem_iff.mp hz')
      exact ⟨j, List.getElem?_zip_eq_some.mp hj⟩
    have hout : out.toList = (zs.map Prod.fst).map Value.ref := by
      rw [o1, ← ez, List.map_map, List.map_map]
      all_goals rfl
    have hperm : (zs.map (·.2)).Perm ts := by
      have e := pz.map (·.2)
      have m2 : (as.zip ts).map (·.2) = ts := List.map_snd_zip (by rw [lak]; exact Nat.le_refl _)
      rw [m2] at e
      exact e
    have hsort : ((zs.map (·.2)).map Prod.fst).Pairwise (fun x y => ¬ y.cps.toList < x.cps.toList) := by
      rw [← ez, List.pairwise_map] at o3
      rw [List.map_map, List.pairwise_map]
      refine List.Pairwise.imp_of_mem (fun {x y} hx hy h => ?_) o3
      obtain ⟨j, j1, j2⟩ := idx x hx
      obtain ⟨i, i1, i2⟩ := idx y hy
      have h' : rkS (ts.map Prod.fst) (keyT (TS.midHeap h2 h'.objs.size (as.map Value.ref)) (.ref x.1)) ≤ rkS (ts.map Prod.fst) (keyT (TS.midHeap h2 h'.objs.size (as.map Value.ref)) (.ref y.1)) := h
      rw [tx j _ _ j1 j2, tx i _ _ i1 i2] at h'
      have ok := rkS_ok (l := ts.map Prod.fst) (List.mem_map_of_mem (f := Prod.fst) (List.mem_of_getElem? i2)) (List.mem_map_of_mem (f := Prod.fst) (List.mem_of_getElem? j2))
      intro lt
      rw [decide_eq_true (show y.2.1.cps.toList < x.2.1.cps.toList from lt)] at ok
      have := of_decide_eq_true ok.symm
      omega
    have kF : ∀ b o, b ≠ h'.objs.size → h2.get? b = some o → (sortedHeap h2 h'.objs.size (as.map Value.ref) out).get? b = some o := fun b o hb e => (PyProof.Rows.sortedHeap_old hb (Heap.lt_size e)).trans e
    have kS : ∀ b o, s.heap.get? b = some o → (sortedHeap h2 h'.objs.size (as.map Value.ref) out).get? b = some o := fun b o e => kF b o (ne0 _ _ (hk b o e)) (kb b o e)
    obtain ⟨eF, heF⟩ := PyProof.Rows.sortedHeap_at (vs := as.map Value.ref) (out := out) hob
    have I1 : Inv X pins σ H { s with heap := sortedHeap h2 h'.objs.size (as.map Value.ref) out, toks := tk } := I.kept (t' := tk) kS
    have hn0 : H h'.objs.size = none := I.hok.fresh (Nat.le_of_lt hlt)
    have hlen : ((zs.map Prod.fst).map V.ref).length ≤ sizeLine := by
      have e := hperm.length_eq
      rw [List.length_map] at e
      rw [List.length_map, List.length_map, sizeLine_eq]
      omega
    have rv : Vals ((zs.map Prod.fst).map V.ref) out.toList := by
      rw [hout]
      exact vals_refs _
    have I2 : Inv X pins σ (upd H h'.objs.size (.lst ((zs.map Prod.fst).map V.ref))) { s with heap := sortedHeap h2 h'.objs.size (as.map Value.ref) out, toks := tk } :=
      I1.take (h' := sortedHeap h2 h'.objs.size (as.map Value.ref) out) (t' := tk) (fun b ob _ e => e) (I.fpOk (Nat.le_of_lt hlt) hn0) ⟨hlen, out.toList, eF, rv, heF⟩
    obtain ⟨H2, I3, g, qt⟩ := L2.DX.takeT (P := fun b ws => ∃ (j : Nat) (e : Str × Str), as[j]? = some b ∧ ts[j]? = some e ∧ ws = [.str e.1, .str e.2]) I as _ I2 nd fun b hb => by
      obtain ⟨j, hj⟩ := List.mem_iff_getElem?.mp hb
      obtain ⟨e, t1, t2, he, hg⟩ := pr j b hj
      have hbl : s.heap.objs.size ≤ b := Nat.le_of_lt (hG.above b hb)
      refine ⟨hbl, ?_, [.str e.1, .str e.2], ⟨j, e, hj, he, rfl⟩, fun H3 => ⟨(by rw [sizeLine_eq]; show 2 ≤ 16777216; omega), [.str e.1 t1, .str e.2 t2], .cons ⟨_, rfl⟩ (.cons ⟨_, rfl⟩ .nil), ⟨_, kF _ _ (ne0 _ _ hg) (ka _ _ hg), rfl, 0, rfl⟩⟩⟩
      rw [upd_ne (ne0 _ _ hg)]
      exact I.hok.fresh hbl
    have gr : Same H H2 := fun b o e => g b o (by rw [upd_ne (ne_of_none e hn0)]; exact e)
    refine ⟨.ref h'.objs.size, H2, I3, rfl, q H2 h'.objs.size (zs.map (·.2)) (zs.map Prod.fst) gr hn0 hperm hsort (g _ _ upd_same) ⟨by rw [List.length_map, List.length_map], fun j b hj => ?_⟩⟩
    rw [List.getElem?_map] at hj
    cases hz' : zs[j]? with
    | none => rw [hz'] at hj; cases hj
    | some z' =>
      rw [hz'] at hj
      cases hj
      obtain ⟨i, i1, i2⟩ := idx z' (List.mem_of_getElem? hz')
      obtain ⟨ws, ⟨j', e, j1, j2, ew⟩, hH⟩ := qt z'.1 (List.mem_of_getElem? i1)
      have eij : i = j' := (List.getElem?_inj (List.getElem?_eq_some_iff.mp i1).1 nd).mp (i1.trans j1.symm)
      subst eij
      have ee : e = z'.2 := Option.some.inj (j2.symm.trans i2)
      refine ⟨z'.2, by rw [List.getElem?_map, hz']; rfl, ?_⟩
      rw [hH, ew, ee]
end
end J
namespace PySem
namespace YX
open PySem.W PySem.HandSPX Builtin Builtin.ObjectAttr
section
variable {M : Model} {A : Around} {E : Value → Shared → Prop} {h : Heap} {g : Array GenState} {d : Drawn} {t : Nat} {os : OsState}
variable {nm q : Str} {C N : Addr} {bs bm bmB : List Value} {hdct : Bool} {sn : List Str} {sub : List Value} {ab : Bool} {col : Option Bool} {dd : Option Addr} {k0 k1 k2 k3 k5 : Option Value} {B newId initId : String}
/-- what is asked of the line of classes: the maker's owner is in it, two others are not -/
structure Line (B : String) (bm : List Value) : Prop where
  b : bm.contains (.type B) = true
  a : bm.contains (.type "AttributeError") = false
  n : bm.contains (.type "NameError") = false
theorem newY (F : ExcBaseFacts B newId initId bmB) (T : Line B bm) {rest : List Value} {Q : Unit → Shared → Prop}
    (hC : h.get? C = some (excClassObj nm q C N bs bm hdct sn sub ab col dd k0 k1 k2 k3 k5 newId)) (hq : Q () ⟨h, g, d, t, os⟩) : wpAny M A (checkBuiltinCall newId ⟨.ref C :: rest, []⟩) Q E ⟨h, g, d, t, os⟩ := by
  have hcont : (Value.ref C :: bm).contains (.type B) = true := by rw [List.contains_cons, T.b, Bool.or_true]
  have hstar := F.noStar
  simp only [checkBuiltinCall, F.newKind, F.newSplit, F.newRow]
  repeat (first | refine wpAny_loadPart_at hC ?_ | (refine wpAny_isSubtype_exc hC ?_; rw [hcont]) | refine wpAny_staticBase_exc hC ?_ | refine wpAny_madeBy_exc hC ?_ | simp only [bne_self_eq_false, Bool.false_eq_true, if_false] | wp_step)
  exact hq
end
section
variable {prog : Program} {w : World} {A : Around} {E : Value → Shared → Prop} {R : Result → Shared → Prop} {h : Heap} {g : Array GenState} {d : Drawn} {t : Nat} {os : OsState}
variable {nm q : Str} {C N : Addr} {bs bm bmB : List Value} {hdct : Bool} {sn : List Str} {sub : List Value} {ab : Bool} {col : Option Bool} {dd : Option Addr} {k0 k1 k2 k3 k5 : Option Value} {B newId initId : String}
theorem laidY (F : ExcBaseFacts B newId initId bmB) (T : Line B bm) {rest : List Value} (hC : h.get? C = some (excClassObj nm q C N bs bm hdct sn sub ab col dd k0 k1 k2 k3 k5 newId))
    (hq : R (.ok (.ret (.ref (h.objs.size + 1)))) ⟨(h.push (kdv_tup rest)).push (excO C h.objs.size), g, d, t, os⟩) (hrest : rest.length ≤ sizeLine) :
    codeAny (model prog w) A (.builtin newId ⟨.ref C :: rest, []⟩) R ⟨h, g, d, t, os⟩ := by
  have hends := F.ends
  have hcB : (Value.ref C :: bm).contains (.type B) = true := by rw [List.contains_cons, T.b, Bool.or_true]
  have hcA : (Value.ref C :: bm).contains (.type "AttributeError") = false := by rw [List.contains_cons, T.a]; rfl
  have hcN : (Value.ref C :: bm).contains (.type "NameError") = false := by rw [List.contains_cons, T.n]; rfl
  refine codeAny_builtinAt F.entry ?_
  unfold Builtin.«BaseException.__new__»
  refine wpAt_bind ?_
  show wpAt _ _ _ (stack >>= _) _ _ _
  refine wpAt_bind (wpAt_stack fun p below => wpAt_of_wpAny ?_)
  wp_walk
  refine wpAt_of_wpAny ?_
  rw [F.owner]
  repeat (first | with_reducible refine wpAny_madeHere_exc F.canon hC ?_ | with_reducible refine wpAny_loadPart_at hC ?_ | (with_reducible refine wpAny_isSubtype_exc hC ?_; first | rw [hcB] | rw [hcA] | rw [hcN]) | wp_step)
  show R _ _
  rw [Heap.size_push]
  exact hq
theorem typeY (F : ExcBaseFacts B newId initId bmB) (T : Line B bm) {rest : List Value} {fI : Addr} {Q : Fin → Shared → Prop}
    (hC : h.get? C = some (excClassObj nm q C N bs bm hdct sn sub ab col dd k0 k1 k2 k3 k5 newId))
    (hi : W.Looks (model prog w) h (typeLookup (.ref C) "__init__") (some (.ref fI))) (hb : ∀ self, W.Looks (model prog w) h (bindSpecial (.ref fI) self) (.ref fI, [self])) (hrest : rest.length ≤ sizeLine)
    (hq : codeAny (model prog w) A (.call (.ref fI) ⟨.ref (h.objs.size + 1) :: rest, []⟩)
      (fun r s' => match r with | .ok (.ret v) => v = .none ∧ Q (.done (.ret (.ref (h.objs.size + 1)))) s' | .ok _ => False | .error e => E e s')
      ⟨(h.push (kdv_tup rest)).push (excO C h.objs.size), g, d, t, os⟩) :
    wpAny (model prog w) A (Builtin.«type.__call__» ⟨.ref C :: rest, []⟩) Q E ⟨h, g, d, t, os⟩ := by
  repeat (first | with_reducible refine wpAny_loadPart_at hC ?_ | with_reducible refine wpAny_madeBy_exc hC ?_ | wp_step)
  refine codeAny_call_builtin_code (Code.quiet_builtin _ F.quiet) (newY F T hC ?_)
  refine laidY F T hC ?_ hrest
  show wpAny _ _ _ _ _ _
  have k : ∀ b o, h.get? b = some o → ((h.push (kdv_tup rest)).push (excO C h.objs.size)).get? b = some o := fun b o e => Heap.get?_push_of_some _ (Heap.get?_push_of_some _ e)
  have hC₁ := k _ _ hC
  have hget : ((h.push (kdv_tup rest)).push (excO C h.objs.size)).get? (h.objs.size + 1) = some (excO C h.objs.size) := by heap_get
  have hcC : (Value.ref C :: bm).contains (.ref C) = true := by simp
  have i1 := hi.keeps k
  have b1 := (hb (.ref (h.objs.size + 1))).keeps k
  unfold isInstance
  repeat (first | with_reducible refine wpAny_loadPart_at hget ?_ | (with_reducible refine wpAny_isSubtype_exc hC₁ ?_; rw [hcC]) | wp_step)
  show wpAny _ _ (typeLookup (.ref C) _) _ _ _
  refine i1.at ?_
  refine wpAny_holding (wpAny_bind (b1.at ?_))
  refine wpAny_bind (wpAny_call (codeAny_mono hq fun r s' z => ?_))
  rcases r with e | (v | _ | _ | _) <;> first | exact z | exact z.elim | skip
  obtain ⟨rfl, z⟩ := z
  first
    | exact wpAny_pure (wpAny_pure z)
    | (wp_walk; exact z)
theorem callY (F : ExcBaseFacts B newId initId bmB) (T : Line B bm) {rest : List Value} {fI : Addr}
    (hC : h.get? C = some (excClassObj nm q C N bs bm hdct sn sub ab col dd k0 k1 k2 k3 k5 newId))
    (hi : W.Looks (model prog w) h (typeLookup (.ref C) "__init__") (some (.ref fI))) (hb : ∀ self, W.Looks (model prog w) h (bindSpecial (.ref fI) self) (.ref fI, [self])) (hrest : rest.length ≤ sizeLine)
    (hq : codeAny (model prog w) (A.under (.builtin "type.__call__" ⟨.ref C :: rest, []⟩)) (.call (.ref fI) ⟨.ref (h.objs.size + 1) :: rest, []⟩) (W.InitBack (h.objs.size + 1) R)
      ⟨(h.push (kdv_tup rest)).push (excO C h.objs.size), g, d, t, os⟩) :
    codeAny (model prog w) A (.call (.ref C) ⟨rest, []⟩) R ⟨h, g, d, t, os⟩ := by
  have f1 := tc_lookup
  have f2 := tc_bind (.ref C)
  have hTy : (⟨h, g, d, t, os⟩ : Shared).TypeIs (.ref C) "type" := ⟨_, hC, rfl⟩
  refine codeAny_of_tree ?_
  show wpAny _ _ (callAny (.ref C) _) _ _ _
  repeat (any_goals (first | assumption | with_reducible refine wpAny_loadPart_at hC ?_ | wp_step))
  refine ⟨rfl, ?_⟩
  refine codeAny_call_builtin_at (Code.quiet_builtin _ (by decide +kernel)) entry_typeCall (wpAny_check_type_call_sub hC (typeY F T hC hi hb hrest ?_))
  refine codeAny_mono hq fun r s' z => ?_
  rcases r with e | (v | _ | _ | _) <;> exact z
end
end YX
end PySem
namespace J
open PySem PySem.Spec PyProof.Rows L2  -- own
abbrev keTail : List Value := [.type "KeyError", .type "LookupError", .type "Exception", .type "BaseException", .type "object"]
theorem ke_passes (self : Value) : PySem.refuseLoop self "__setattr__" keTail = pure () := by kernel_rfl
/-- what the written part says of an own class over KeyError -/
structure OexY (K : PySem.W.Frag) (C : Addr) : Prop where
  cls : ∃ nm q N bs bm sn sub ab col dd k0 k1 k2 k3 k5, K.lookup C = some (excClassObj nm q C N bs bm true sn sub ab col dd k0 k1 k2 k3 k5 "LookupError.__new__") ∧ PySem.JX.Over keTail bm
  sa : PySem.W.findIn K (.ref C) "__setattr__" = some (some (.builtin "object.__setattr__"))  -- own
  ex : PySem.W.subIn K (.ref C) (.type "BaseException") = some true
  ty : PySem.W.typeIn K (.ref C) = some (.type "type")
  kp : PySem.W.keepIn K (.ref C) = true  -- own
section
variable {X : Cx} {pins : List (Addr × Obj)} {σ : L2.St} {H : Hp} {s : Shared} {a C : Addr} {f : Str} {y : V} {u : Value} {Q : Unit → Shared → Prop} {E : Value → Shared → Prop} {A : Around}
theorem set_firstY (T : OexY X.K C) (I : Inv X pins σ H s) (ea : H a = some (exo a C none)) (nf : PySem.W.findIn X.K (.ref C) f = some none) (ry : RelV y u)
    (h : ∀ dx s', H dx = none → dx ≠ a → Inv X pins σ (upd (upd H dx (exd dx [(f, y)])) a (exo a C (some dx))) s' → Q () s') : wpAny (model X.prog X.w) A (setAttr (.ref a) f u) Q E s := by  -- own
  obtain ⟨nm, q, N, bs, bm, sn, sub, ab, col, dd, k0, k1, k2, k3, k5, hC, ov⟩ := T.cls
  have cls : PySem.W.clsIn X.K C = some { name := nm, bases := bs, mro := .ref C :: bm, ns := N, qualname := q, hasDict := true, slotNames := sn, subclasses := sub, abstract := ab, collection := col, hasDel := false } := by
    unfold PySem.W.clsIn
    rw [hC]
  obtain ⟨t1, ho⟩ := exo_at I.hok ea
  cases s with
  | mk hp g d t os =>
  refine PySem.W.set_plain I.kIn (od := none) ⟨ho, rfl, rfl, trivial⟩ T.sa ?_
  refine PySem.JX.first_attr I.kIn ho cls rfl (((ov.more C).has "object").trans (by decide +kernel)) ((ov.more C).pass (ke_passes (.ref a))) rfl nf fun h' tk' dx stay big ne hx hn => ?_
  have free : H dx = none := I.hok.fresh big
  have else_ : ∀ {b : Addr} {o : Obj}, hp.get? b = some o → b ≠ dx := fun {b o} z e => by
    have := Heap.lt_size z
    rw [e] at this
    exact Nat.not_le_of_lt this big
  have away : ∀ {b : Addr}, H b = none → b ≠ a := fun {b} z e => by rw [e, ea] at z; cases z
  have un : Un X.fs [] H (upd (upd H dx (exd dx [(f, y)])) a (exo a C (some dx))) hp h' :=
    { keep := fun b o z n _ _ => stay b o (away n) z
      slot := fun b o z n _ _ => ⟨_, stay b o (away n) z⟩
      free := fun b o z n _ => by rw [upd_ne (away n), upd_ne (else_ z)]; exact n
      there := fun b o z _ => (Classical.em (b = a)).elim (fun e => ⟨_, e ▸ hx⟩) fun e => ⟨o, stay b o e z⟩
      tups := fun b xs z => by rw [upd_ne (at_ne ea z exo_tup), upd_ne (ne_of_none z free)]; exact z
      frzs := fun b o v z => by rw [upd_ne (at_ne ea z exo_frz), upd_ne (ne_of_none z free)]; exact z
      tbls := fun b ps z => ⟨#[], by rw [upd_ne (at_ne ea z exo_tbl), upd_ne (ne_of_none z free), z]; simp⟩ }
  refine h dx _ free ne (I.un (t' := tk') un fun b o z => ?_)
  rcases Classical.em (b = a) with e | e
  · subst e
    rw [upd_same] at z
    cases z
    exact exo_ok hx
  rw [upd_ne e] at z
  rcases Classical.em (b = dx) with e2 | e2
  · subst e2
    rw [upd_same] at z
    cases z
    exact exd_ok hn (relO_put (fs := []) ry fun _ => True.intro)
  rw [upd_ne e2] at z
  refine (I.hok b o z).stay (fun c v hc w => stay c v (hc.elim (fun q => q ▸ e) fun q => at_ne ea q exo_own) w) (fun c hc => ?_) fun c xs hc => ?_
  · rw [upd_ne (at_ne ea hc exo_own), upd_ne (ne_of_none hc free)]; exact hc
  · rw [upd_ne (at_ne ea hc exo_tup), upd_ne (ne_of_none hc free)]; exact hc
end
/-- self.f = y, of an exception that has no attribute yet -/
def tOsY (K : PySem.W.Frag) (f : Str) (to te : TE) : TS := fun D σ H => te σ H fun y H1 => to σ H1 fun x H2 => ∃ a C : Addr, x = .ref a ∧ OexY K C ∧ PySem.W.findIn K (.ref C) f = some none ∧
  H2 a = some (exo a C none) ∧ ∀ dx, H2 dx = none → dx ≠ a → D.nx σ (upd (upd H2 dx (exd dx [(f, y)])) a (exo a C (some dx)))
section
variable {X : Cx} {o e : Expr} {es : List Expr} {to te : TE} {ta : TA} {f : Str} {p p' pos : Pos}
theorem ps_osY (ho : PE X o to) (he : PE X e te) (hs : swapsWith e (some (.Attribute o f p')) pos.line X.env = pure false := by rfl) : PS X (.Assign [.Attribute o f p'] e pos) (tOsY X.K f to te) := ⟨fun pins s σ H D I h => by
  refine plainObj_wpAny_Assign_Attribute (thn (he.run pins s σ H _ I h) fun v s1 z => ?_) hs
  obtain ⟨y, H1, I1, r1, q1⟩ := z
  refine thn (ho.run pins s1 σ H1 _ I1 q1) fun u s2 z => ?_
  obtain ⟨x, H2, I2, r2, a, C, ex, T, nf, ea, q⟩ := z
  subst ex
  obtain rfl : u = Value.ref a := r2  -- own
  exact set_firstY T I2 ea nf r1 fun dx s' n ne J => ⟨σ, _, J, q dx n ne⟩⟩
theorem pmk_oexY {CX : CXT} {x : Str} {C fI : Addr} {k : Nat} {fd : FuncData} {ps : List Str} {sp : Sp} {ds : List Value} {dvs : List V} (T : OexY X.K C) (iC : PySem.W.findIn X.K (.ref C) "__init__" = some (some (.ref fI))) (tI : PySem.W.typeIn X.K (.ref fI) = some (.type "function"))
    (G : FnOk X.prog X.w X.K X.mg X.base CX k fI fd ps sp) (hr : Room (k + 1) X.A) (hb : Binds X.K fd ps ds) (hd : Vals dvs ds) (hx : Passes CX X (fun _ _ _ => False)) (hg : Gl X x) (hm : X.mg x = some (.ref C)) (ha : PA X (e :: es) ta)
    (hdb : (x == ("__debug__" : Str)) = false := by decide) (he : starEach (e :: es) X.env = (false, eval e X.env) :: starEach es X.env := by rfl) (hpl : (backTo pos (starEach es X.env)).any (·.1) = false := by rfl) :  -- own
    PMk X (.Call (.Name x p) (e :: es) [] pos) (tMkO C sp dvs ta) := fun pins s σ H Q I h => by
  obtain ⟨nm, q, N, bs, bm, sn, sub, ab, col, dd, k0, k1, k2, k3, k5, hC, ov⟩ := T.cls
  refine wpAny_Call_Name_kw (ld_glob I hg hm ?_ hdb)  -- own
  refine PySem.W.callWith_K (h₀ := X.base) I.ok.mod.kin T.kp (thn (ha.run pos pins s σ H _ I h) fun us s1 z => ?_) he hpl
  obtain ⟨vs, H1, I1, r1, hz, q1⟩ := z
  refine ⟨I1.kIn, ?_⟩
  cases s1 with
  | mk hp g dr tk os =>
  let n := hp.objs.size + 1
  let h2 := (hp.push (PySem.W.kdv_tup us)).push (PySem.HandSPX.excO C hp.objs.size)
  have le : hp.objs.size ≤ n := Nat.le_succ _
  have hq := q1 n (I1.hok.fresh le)
  have there : h2.get? n = some (PySem.HandSPX.excO C hp.objs.size) := by
    show ((hp.push (PySem.W.kdv_tup us)).push (PySem.HandSPX.excO C hp.objs.size)).get? (hp.objs.size + 1) = _
    heap_get
  have I2 : Inv X pins σ (upd H1 n (exo n C none)) ⟨h2, g, dr, tk, os⟩ := I1.laid (t' := tk) (a := n) (o := exo n C none) (h' := h2) (fun b o z => Heap.get?_push_of_some _ (Heap.get?_push_of_some _ z)) le (exo_ok there)
  have r2 : Vals (V.ref n :: (vs ++ dvs)) (Value.ref n :: (us ++ ds)) := .cons rfl (r1.append hd)
  have hl : (Value.ref n :: us ++ ds).length = ps.length := r2.length.symm.trans (G.len _ _ _ _ hq)
  have small : us.length ≤ sizeLine := by
    rw [← Paired.length r1, sizeLine_eq]; omega
  have run := G.run _ X.stack _ _ ⟨Value.ref n :: us, []⟩ (Value.ref n :: (us ++ ds)) _ _ (fun _ _ _ => False) (hr.make C us []) (I2.env0.make C us []) (hb _ (Value.ref n :: us) I2.kIn hl) r2 hq
  refine wpAny_call (PySem.YX.callY PySem.F.excBase_LookupError ⟨(ov.has "LookupError").trans (by decide +kernel), (ov.has "AttributeError").trans (by decide +kernel), (ov.has "NameError").trans (by decide +kernel)⟩ (I1.kIn _ _ hC) (PySem.W.looks_findIn I1.kIn iC) (fun self => PySem.W.bind_fn I1.kIn self tI) small (codeAny_mono run fun r s' hq' => ?_))
  match r, hq' with
  | .error er, z => exact hx pins σ _ _ er s' I2 z
  | .ok .next, z => exact z.elim
  | .ok .brk, z => exact z.elim
  | .ok .cont, z => exact z.elim
  | .ok (.ret u), z =>
    obtain ⟨v, H2, os2, bare2, un2, hok2, rv, ev, d, fs, ea, ed, hd1, q2⟩ := z
    subst ev
    cases s' with
    | mk h3 g2 d2 t2 os' => exact ⟨rv, mk_end (raises_own T.ex T.ty) I1 le (fun b o z => Heap.get?_push_of_some _ (Heap.get?_push_of_some _ z)) un2 hok2 os2 bare2 ea ed hd1 q2⟩
end
def spInitY (K : PySem.W.Frag) (f : Str) : Sp := fun vs H Q _ => ∃ (a C : Addr) (v : V), vs = [.ref a, v] ∧ OexY K C ∧ PySem.W.findIn K (.ref C) f = some none ∧ H a = some (exo a C none) ∧ ∀ dx, H dx = none → dx ≠ a → Q .non (upd (upd H dx (exd dx [(f, v)])) a (exo a C (some dx)))
theorem rz_oneY {K : PySem.W.Frag} {σ : L2.St} {H1 : Hp} {C : Addr} {f : Str} {W : WX} {v : V} (T : OexY K C) (hf : PySem.W.findIn K (.ref C) f = some none) (er : Err C f v H1 (fun cls d H' => W cls d σ H')) : RzQ C (spInitY K f) W σ [v] H1 := by
  refine ⟨show 1 ≤ 1000 by decide, fun a ha => ⟨a, C, v, rfl, T, hf, upd_same, fun dx hd ne => ⟨rfl, dx, [(f, v)], upd_same, by rw [upd_ne ne, upd_same], ?_, ?_⟩⟩⟩
  · rwa [upd_ne ne] at hd
  · rw [upd_ne ne] at hd
    refine er dx _ hd (fun b o hb => ?_) upd_same
    have b1 := ne_of_none hb hd
    have b2 := ne_of_none hb ha
    rw [upd_ne b1, del_ne b2, upd_ne b2, upd_ne b1, upd_ne b2]
    exact hb
theorem asOsY {X : Cx} {K : PySem.W.Frag} {st : Stmt} {f : Str} {to te : TE} (eK : X.K = K) (h : PS X st (tOsY X.K f to te)) : PS X st (tOsY K f to te) := eK ▸ h
theorem r_osY {K : PySem.W.Frag} {σ : L2.St} {H : Hp} {f : Str} {to te : TE} {n : L2.St → Hp → Prop} {rt : VK} {bk ct : L2.St → Hp → Prop} (k : te σ H fun y H1 => to σ H1 fun x H2 => ∃ a C : Addr, x = .ref a ∧ OexY K C ∧ PySem.W.findIn K (.ref C) f = some none ∧
  H2 a = some (exo a C none) ∧ ∀ dx, H2 dx = none → dx ≠ a → n σ (upd (upd H2 dx (exd dx [(f, y)])) a (exo a C (some dx)))) : tOsY K f to te ⟨n, rt, bk, ct⟩ σ H := k
/-- what the written part says of an own error x over KeyError with one field f -/
structure OY (P : Program) (w : World) (K : PySem.W.Frag) (mg : Str → Option Value) (base : Heap) (x f : Str) (C : Addr) : Prop where
  T : OexY K C
  nf : PySem.W.findIn K (.ref C) f = some none
  gl : mg x = some (.ref C)
  ini : ∃ (fI : Addr) (fdI : FuncData), PySem.W.findIn K (.ref C) "__init__" = some (some (.ref fI)) ∧ PySem.W.typeIn K (.ref fI) = some (.type "function") ∧ FnOk P w K mg base CX0 1 fI fdI ["self", f] (spInitY K f) ∧ Binds K fdI ["self", f] []
theorem ps_rzY {X : Cx} {K : PySem.W.Frag} {W : WX} {e : Expr} {C : Addr} {x f : Str} {ta : TA} {p pos pos2 : Pos} (eK : X.K = K) (hc : X.calm = true) (tk : Takes X W) (O : OY X.prog X.w X.K X.mg X.base x f C) (hr : Room 2 X.A) (hg : Gl X x) (ha : PA X [e] ta)
    (hdb : (x == ("__debug__" : Str)) = false := by decide) (he : starEach (e :: []) X.env = (false, eval e X.env) :: starEach [] X.env := by rfl) (hpl : (backTo pos (starEach [] X.env)).any (·.1) = false := by rfl) :
    PS X (.Raise (some (.Call (.Name x p) [e] [] pos)) none pos2) (tRz C (spInitY K f) ta W) := by
  subst eK
  obtain ⟨fI, fdI, i1, i2, i3, i4⟩ := O.ini
  exact ps_rz hc tk (pmk_oexY O.T i1 i2 i3 hr i4 .nil pass0 hg O.gl ha hdb he hpl)
end J
namespace J
open PySem PySem.Spec PyProof.Rows L2 M
/-- a def at f that keeps sp -/
structure HeldX (P : Program) (w : World) (K : PySem.W.Frag) (mg : Str → Option Value) (base : Heap) (CX : CXT) (k : Nat) (f : Addr) (sp : Sp) : Prop where
  ex : ∃ (fd : FuncData) (ps : List Str), FnOk P w K mg base CX k f fd ps sp ∧ PySem.W.keepIn K (.ref f) = true ∧ Binds K fd ps []
def tCallV (S : Addr → Sp → Prop) (E : L2.St → XK) (tf : TE) (t : TA) : TE := fun σ H Q => tf σ H fun v H1 => ∃ f sp, v = .ref f ∧ S f sp ∧ t σ H1 fun vs H2 => sp vs H2 Q (E σ)
theorem pe_callVS {X : Cx} {CX : CXT} {k : Nat} {E : L2.St → XK} {fe e : Expr} {es : List Expr} {pos : Pos} {tf : TE} {t : TA} {S : Addr → Sp → Prop} (A : ∀ f sp, S f sp → HeldX X.prog X.w X.K X.mg X.base CX k f sp) (hr : Room k X.A) (hx : ∀ σ, PassesAt CX X σ (E σ)) (hf : PE X fe tf) (ha : PA X (e :: es) t)
    (hev : eval (.Call fe (e :: es) [] pos) X.env = (do callWith pos (← eval fe X.env) [] (backTo pos (starEach (e :: es) X.env)) (backToKw pos (keywordEach [] X.env))) := by rfl)
    (he : starEach (e :: es) X.env = (false, eval e X.env) :: starEach es X.env := by rfl) (hpl : (backTo pos (starEach es X.env)).any (·.1) = false := by rfl) : PE X (.Call fe (e :: es) [] pos) (tCallV S E tf t) := by
  refine ⟨fun pins s σ H Q I h => ?_⟩
  rw [hev]
  refine wpAny_bind (thn (hf.run pins s σ H _ I h) fun u s1 ⟨v, H1, I1, rv, q1⟩ => ?_)
  obtain ⟨f, sp, rfl, hS, q2⟩ := q1
  cases rv
  obtain ⟨fd, ps, F, hk, hb⟩ := (A f sp hS).ex
  refine PySem.W.callWith_K (h₀ := X.base) I1.ok.mod.kin hk (thn (ha.run pos pins s1 σ _ _ I1 q2) fun us s2 ⟨vs, H2, I2, r, q⟩ => ⟨I2.kIn, ?_⟩) he hpl
  exact run_fnS F hr hb (hx σ) I2 r q
theorem r_callV {S : Addr → Sp → Prop} {E : L2.St → XK} {tf : TE} {t : TA} {σ : L2.St} {H : Hp} {Q : VK} (k : tf σ H fun v H1 => ∃ f sp, v = .ref f ∧ S f sp ∧ t σ H1 fun vs H2 => sp vs H2 Q (E σ)) : tCallV S E tf t σ H Q := k
/-- t reads as n -/
def Due (ns : List (List Nat)) (t n : List Nat) : Prop := n ∈ ns ∧ t ≠ [] ∧ t <+: n ∧ (t = n ∨ (t ∉ ns ∧ ∀ m ∈ ns, t <+: m → m = n))
abbrev Bg : Type := List Nat × List Nat
/-- in order, just what reads -/
structure IsBegs (ns : List (List Nat)) (D : List Bg) : Prop where
  up : (D.map Prod.fst).Pairwise (· < ·)
  iff : ∀ t n, (t, n) ∈ D ↔ Due ns t n
theorem IsBegs.uniq {ns : List (List Nat)} {D D' : List Bg} (h : IsBegs ns D) (h' : IsBegs ns D') : D = D' := by
  have key : ∀ {A B : List Bg}, (A.map Prod.fst).Pairwise (· < ·) → (B.map Prod.fst).Pairwise (· < ·) → (∀ p, p ∈ A ↔ p ∈ B) → A = B := by
    intro A
    induction A with
    | nil =>
      intro B _ _ e
      cases B with
      | nil => rfl
      | cons b B => exact absurd ((e b).mpr (List.mem_cons_self ..)) (List.not_mem_nil)
    | cons a A ih =>
      intro B hA hB e
      cases B with
      | nil => exact absurd ((e a).mp (List.mem_cons_self ..)) (List.not_mem_nil)
      | cons b B =>
        rw [List.map_cons, List.pairwise_cons] at hA hB
        have ab : a = b := by
          rcases List.mem_cons.mp ((e a).mp (List.mem_cons_self ..)) with q | q
          · exact q
          · rcases List.mem_cons.mp ((e b).mpr (List.mem_cons_self ..)) with q2 | q2
            · exact q2.symm
            · have l1 := hB.1 _ (List.mem_map_of_mem (f := Prod.fst) q)
              have l2 := hA.1 _ (List.mem_map_of_mem (f := Prod.fst) q2)
              exact absurd (List.lt_trans l1 l2) (List.lt_irrefl _)
        subst ab
        rw [ih hA.2 hB.2 fun p => ?_]
        constructor
        · intro hp
          rcases List.mem_cons.mp ((e p).mp (List.mem_cons_of_mem _ hp)) with q | q
          · subst q; exact absurd (hA.1 _ (List.mem_map_of_mem (f := Prod.fst) hp)) (List.lt_irrefl _)
          · exact q
        · intro hp
          rcases List.mem_cons.mp ((e p).mpr (List.mem_cons_of_mem _ hp)) with q | q
          · subst q; exact absurd (hB.1 _ (List.mem_map_of_mem (f := Prod.fst) hp)) (List.lt_irrefl _)
          · exact q
  exact key h.up h'.up fun p => (h.iff p.1 p.2).trans (h'.iff p.1 p.2).symm
def begE (p : Bg) : Key × V := (Sum.inr (S p.1), V.str (S p.2))
/-- names: one to eight letters, none twice, six at most -/
def NmsOk (ns : List (List Nat)) : Prop := ns.length ≤ 6 ∧ ns.Nodup ∧ ∀ n ∈ ns, Nm n
def spBegs : Sp := fun vs H Q _ => ∃ (l : Addr) (ns : List (List Nat)), vs = [.ref l] ∧ H l = some (.lst (ns.map fun n => V.str (S n))) ∧ NmsOk ns ∧
  ∀ H' d D, Same H H' → H d = none → IsBegs ns D → H' d = some (.dK (D.map begE)) → Q (.ref d) H'
structure NodeC (K : PySem.W.Frag) (C : Addr) : Prop where
  cls : Cls K C
  way : NoAttr K C "way"
  options : NoAttr K C "options"
  groups : NoAttr K C "groups"
  place_parts : NoAttr K C "place_parts"
  beneath : NoAttr K C "beneath"
  nothing : NoAttr K C "nothing"
  numbers : NoAttr K C "numbers"
  letters : NoAttr K C "letters"
  owns : NoAttr K C "owns"
  place_owns : NoAttr K C "place_owns"
  fitting : NoAttr K C "fitting"
  needed : NoAttr K C "needed"
  leads_free : NoAttr K C "leads_free"
  leads_bare : NoAttr K C "leads_bare"
  goes : NoAttr K C "goes"
  goes_bare : NoAttr K C "goes_bare"
  known_fits : NoAttr K C "known_fits"
  known_sets : NoAttr K C "known_sets"
  known_texts : NoAttr K C "known_texts"
  known_shortest : NoAttr K C "known_shortest"
  known_rows : NoAttr K C "known_rows"
  known_form : NoAttr K C "known_form"
/-- a node's fields -/
def nodeF (p oa ga pa b no nu le ow po fi kf : Addr) (kt : V) : List (Str × V) := [("way", .ref p), ("options", .ref oa), ("groups", .ref ga), ("place_parts", .ref pa), ("beneath", .ref b), ("nothing", .ref no), ("numbers", .ref nu), ("letters", .ref le), ("owns", .ref ow), ("place_owns", .ref po),
  ("fitting", .ref fi), ("needed", .int 0), ("leads_free", .bl true), ("leads_bare", .bl true), ("goes", .bl true), ("goes_bare", .bl true), ("known_fits", .ref kf), ("known_sets", .non), ("known_texts", kt), ("known_shortest", .non), ("known_rows", .non), ("known_form", .non)]
/-- a node is at x -/
def IsNode (C : Addr) (H : Hp) (x : V) : Prop := ∃ (m dx p oa ga pa b no nu le ow po fi kf : Addr) (kt : V), x = .ref m ∧ H m = some (.ins C dx (nodeF p oa ga pa b no nu le ow po fi kf kt))
/-- the number of each option -/
def numK (os : List Op) : List (Key × V) := os.zipIdx.map fun p => (Sum.inr (S p.1.1), V.int (p.2 : Nat))
def spHasW (C : Addr) : Sp := fun vs H Q _ => ∃ (n dx pa po : Addr) (fs : List (Str × V)), vs = [.ref n] ∧ H n = some (.ins C dx fs) ∧ fs.lookup ("place_parts" : Str) = some (.ref pa) ∧ fs.lookup ("needed" : Str) = some (.int 0) ∧ fs.lookup ("place_owns" : Str) = some (.ref po) ∧ H pa = some (.tup []) ∧ H po = some (.lst []) ∧ ∀ H', Same H H' → Q (.bl true) H'
def spNode (C : Addr) : Sp := fun vs H Q _ => ∃ (n p a w b dx : Addr) (nm : Str) (os : List Op) (cs : List V) (kvs : List (Key × V)), vs = [.ref n, .ref p, .ref a, .ref w, .ref b] ∧ H n = some (.ins C dx []) ∧ CmdAt H a nm os cs ∧ OpsOk os ∧ H b = some (.dK kvs) ∧ kvs.length ≤ 6 ∧ (∀ kv ∈ kvs, IsNode C H kv.2) ∧
  ∀ H' oa ga pa no nu le ow po fi kf xs, KeepB n H H' → H nu = none → H oa = some (.tup xs) → OptsAt H xs os → H' n = some (.ins C dx (nodeF p oa ga pa b no nu le ow po fi kf .non)) → H' nu = some (.dK (numK os)) → Q .non H'
theorem numK_take {os : List Op} {i : Nat} {o : Op} (h : os[i]? = some o) : numK (os.take (i + 1)) = numK (os.take i) ++ [(Sum.inr (S o.1), V.int (i : Nat))] := by
  unfold numK
  have l : i < os.length := (List.getElem?_eq_some_iff.mp h).1
  rw [List.take_succ, h, Option.toList_some, List.zipIdx_append, List.map_append, List.length_take, Nat.min_eq_left (Nat.le_of_lt l), Nat.zero_add]
  rfl
theorem nd_take {α : Type} {l : List α} (nd : l.Nodup) {i : Nat} {a : α} (h : l[i]? = some a) : a ∉ l.take i := fun m => by
  obtain ⟨j, hj⟩ := List.mem_iff_getElem?.mp m
  rw [List.getElem?_take] at hj
  split at hj
  · rename_i lt
    have := (List.getElem?_inj (List.getElem?_eq_some_iff.mp hj).1 nd).mp (hj.trans h.symm)
    omega
  · cases hj
theorem numK_put {os : List Op} {i : Nat} {o : Op} (nd : (os.map Prod.fst).Nodup) (h : os[i]? = some o) : putK (numK (os.take i)) (.inr (S o.1)) (.int (i : Nat)) = numK (os.take (i + 1)) := by
  rw [numK_take h]
  refine putK_new _ (valV_of fun e he => ?_)
  unfold numK at he
  obtain ⟨q, hq, rfl⟩ := List.mem_map.mp he
  intro e1
  have e2 : q.1.1 = o.1 := S_inj.mp (Sum.inr.inj e1)
  have m : q.1 ∈ os.take i := List.fst_mem_of_mem_zipIdx hq
  have m2 : o.1 ∈ (os.map Prod.fst).take i := by
    rw [← List.map_take, ← e2]
    exact List.mem_map_of_mem m
  exact nd_take nd (by rw [List.getElem?_map, h]; rfl) m2
theorem numK_len (os : List Op) : (numK os).length = os.length := by unfold numK; rw [List.length_map, List.length_zipIdx]
end J
namespace J
open PySem PySem.Spec PyProof.Rows L2 M
section
variable {K : PySem.W.Frag} {σ : L2.St} {H : Hp} {Q : VK}
theorem r_lcZ0 {ta : TA} {te' : TE} {g : TG} {tt : TT} {vs : List Nat} (k : ta σ H fun ws H1 => ∃ a b ys, ws = [.ref a, .ref b] ∧ SqT K H1 a [] ∧ SqL K H1 b ys ∧ ∀ E, H1 E = none → CompQ (ItZ0 K a) g tt te' vs σ H1 E fun H => Q (.ref E) H) : tLc (iZip0 K ta) g tt te' vs σ H Q := k
theorem comp_z0 {a : Addr} {g : TG} {tt : TT} {te : TE} {vs : List Nat} {D : Addr} {Z : Hp → Prop} (hT : SqT K H a []) (hs : ∀ H', Same H H' → SqT K H' a []) (hD : H D = none) (fin : ∀ H', Same H H' → H' D = some (.lst []) → Z H') : CompQ (ItZ0 K a) g tt te vs σ H D Z :=
  comp_of 0 (fun _ H' => Same H H' ∧ H' D = some (.lst [])) ⟨(Same.refl H).at hD _, upd_same⟩ (fun i _ hi => absurd hi (Nat.not_lt_zero i)) (fun H' w => ⟨rfl, hs _ w.1⟩) (fun i _ _ _ hi => absurd hi (Nat.not_lt_zero i)) (fun H' w => fin H' w.1 w.2)
theorem r_slA0 {a : Addr} (h : SqT K H a []) (k : Q (.ref a) H) : L2.rSlA K (.ref a) none (some 0) H Q := ⟨a, [], rfl, h, fun _ => k, fun n => (n (by decide)).elim⟩
theorem KeepB.nd {g : Addr} {H H' : Hp} {C dx : Addr} {fs : List (Str × V)} (k : KeepB g H H') (h : H g = some (.ins C dx fs)) {p : Addr} {o : HO} (e : H p = some o) (no : ∀ C dx fs, o ≠ .ins C dx fs) : H' p = some o :=
  k p o (fun q => by subst q; rw [h] at e; exact no _ _ _ (Option.some.inj e).symm) e
end
def rLenD : List V → Hp → VK → Prop := fun xs H Q => ∃ a kvs, xs = [V.ref a] ∧ H a = some (.dK kvs) ∧ Q (.int kvs.length) H
theorem allBits_pos (n : Nat) : 0 < (allBits n).length := by
  unfold allBits
  rw [List.length_map, List.length_range]
  exact Nat.two_pow_pos n
theorem allBits_zero (n : Nat) : (valV (allBits n) (.inl 0)).isSome = true := by
  have h : ∃ m, 2 ^ n = m + 1 := ⟨2 ^ n - 1, by have := Nat.two_pow_pos n; omega⟩
  obtain ⟨m, hm⟩ := h
  unfold allBits
  rw [hm, List.range_succ_eq_map, List.map_cons]
  rfl
/-- the goal of a method's call -/
theorem r_meth {C : Addr} {m : Str} {sp : Sp} {E : XK} {ta : TE} {t : TA} {σ : L2.St} {H : Hp} {Q : VK} (k : ta σ H fun x H1 => ∃ a dx fs, x = .ref a ∧ H1 a = some (.ins C dx fs) ∧ fs.lookup m = none ∧ t σ H1 fun vs H2 => sp (x :: (vs ++ [])) H2 Q E) : tMeth C m sp [] E ta t σ H Q := k
theorem r_lcVals {td te' : TE} {g : TG} {tt : TT} {vs : List Nat} {σ : L2.St} {H : Hp} {Q : VK} (k : td σ H fun x H1 => ∃ d o kvs, x = .ref d ∧ H1 d = some (.frz o (.dK kvs)) ∧ ∀ E, H1 E = none → CompQ (Itd d o kvs) g tt te' vs σ H1 E fun H => Q (.ref E) H) : tLc (iVals td) g tt te' vs σ H Q := k
/-- a method, where it stands -/
structure MAt (K : PySem.W.Frag) (C : Addr) (m qual : Str) (st : Stmt) (ps : List Str) (f : Addr) (fd : FuncData) : Prop where
  fn : Fun K m qual st f fd
  me : Meth K C m f
  bd : Binds K fd ps []
theorem r_din {ty td : TE} {σ : L2.St} {H : Hp} {Q : VK} (k : ty σ H fun y H1 => td σ H1 fun x H2 => ∃ a ov, x = .ref a ∧ DGet H2 a y ov ∧ Q (.bl ov.isSome) H2) : tDIn ty td σ H Q := k
end J
namespace K16
open PySem PySem.Spec PyProof.Rows L2 J M
local macro_rules | `(tactic| walk_at "hp") => `(tactic| first | assumption | exact upd_same | (rw [upd_ne (by assumption)]; walk_at "hp") | (rw [upd_ne (Ne.symm (by assumption))]; walk_at "hp"))
local macro_rules | `(tactic| walk_at "s") => `(tactic| first
  | ((with_reducible refine' r_var ?h ?k); (case h => exact rfl))
  | (with_reducible refine r_c ?_)
  | (with_reducible refine r_op ?_)
  | (with_reducible refine r_un ?_)
  | (with_reducible refine r_seq ?_)
  | (with_reducible refine r_next ?_)
  | (with_reducible refine r_sets ?_)
  | (with_reducible refine r_gname ?_)
  | (with_reducible refine r_ifS ?_)
  | (with_reducible refine r_gsub ?_)
  | (with_reducible refine r_test ?_)
  | (with_reducible refine r_tb ?_)
  | (with_reducible refine r_not ?_)
  | (with_reducible refine r_and ?_)
  | (with_reducible refine r_or ?_)
  | (with_reducible refine r_andV ?_)
  | (with_reducible refine r_orV ?_)
  | (with_reducible refine r_notV ?_)
  | (with_reducible refine r_ifE ?_)
  | (with_reducible refine r_chain ?_)
  | (with_reducible refine r_cb ?_)
  | (with_reducible refine r_cons ?_)
  | (with_reducible refine r_nil ?_)
  | (with_reducible refine r_call ?_)
  | (with_reducible refine r_lst ?_)
  | (with_reducible refine r_tup ?_)
  | (with_reducible refine r_slice ?_)
  | (with_reducible refine r_nop ?_)
  | (with_reducible refine r_part ?_)
  | (with_reducible refine r_bm ?_)
  | (with_reducible refine r_m1 ?_)
  | (with_reducible refine r_m0 ?_)
  | (with_reducible refine r_is ?_)
  | (with_reducible refine r_maxD ?_)
  | (with_reducible refine r_orT ?_)
  | (with_reducible refine r_truN ?_)
  | (with_reducible refine r_intI ?_)
  | (with_reducible refine r_intB ?_)
  | (with_reducible refine r_max2 ?_)
  | (with_reducible refine r_min2 ?_)
  | (with_reducible refine r_yes ?_)
  | (with_reducible refine r_bl ?_)
  | (with_reducible refine iteT ?_)
  | (with_reducible refine iteF ?_)
  | (with_reducible refine r_iteNT ?_)
  | (with_reducible refine r_iteNF ?_)
  | (with_reducible refine r_minL ?_)
  | (with_reducible refine r_gcons ?_)
  | (with_reducible refine r_gnil ?_)
  | (with_reducible refine r_par ?_)
  | (with_reducible refine r_par3 ?_)
  | (with_reducible refine r_is2 ?_)
  | (with_reducible refine r_is3 ?_)
  | (with_reducible refine r_dget ?_)
  | (with_reducible refine r_callS ?_)
  | (with_reducible refine r_rz ?_)
  | (with_reducible refine r_rev ?_)
  | (with_reducible refine r_isI ?_)
  | (with_reducible refine r_isStr ?_)
  | (with_reducible refine r_ret ?_)
  | (with_reducible refine r_drop ?_)
  | (with_reducible refine r_rI0 ?_)
  | (with_reducible refine r_addI ?_)
  | ((with_reducible show rI (fun _ j => 0 < j) _ (.int _) (.int _) _ _); refine r_rI (by first | omega | decide) ?_)
  | ((with_reducible show rI CDiv _ (.int _) (.int _) _ _); refine r_rI (by constructor <;> omega) ?_)
  | ((with_reducible show rI CPow _ (.int _) (.int _) _ _); refine r_rI (by refine ⟨by decide, by decide, ?_⟩; omega) ?_)
  | ((with_reducible show rMul (.int _) (.int _) _ _); refine r_mulI (cmulW (by omega) (by omega)) ?_)
  | (with_reducible refine r_cmpI ?_)
  | (with_reducible refine r_cmpS ?_)
  | (with_reducible refine r_eqI ?_)
  | (with_reducible refine r_neI ?_)
  | (with_reducible refine r_eqS ?_)
  | (with_reducible refine r_neS ?_)
  | (with_reducible refine r_inSF ?_)
  | (with_reducible refine r_inST ?_)
  | (with_reducible refine r_isiStr ?_)
  | ((with_reducible show rIx _ (.ref _) (.int _) _ _); refine' r_ixL (SqL.of ?h) ?e ?_; (case h => walk_at "hp"); (case e => rfl))
  | ((with_reducible show rSetL (.ref _) (.int _) _ _ _); refine' r_setL ?h ?e ?_; (case h => walk_at "hp"); (case e => rfl)))
local macro_rules | `(tactic| walk_at "g") => `(tactic| repeat walk_at "s")
local macro_rules | `(tactic| walk_at "x") => `(tactic| first | omega | decide +kernel | (simp only [List.length_cons, List.length_nil]; omega))
local macro_rules | `(tactic| walk_at "T1") => `(tactic| (first
  | walk_at "s"
  | ((with_reducible show rIx _ (.ref _) (.int _) _ _); refine' r_ixTu (SqT.of ?h) ?e ?_; (case h => first | assumption | walk_at "hp"); (case e => rfl))
  | (with_reducible refine r_lenSet ?_)
  | (with_reducible refine r_asg2 ?_)
  | (with_reducible refine iteDT (by walk_at "x") ?_)
  | (with_reducible refine iteDF (by walk_at "x") ?_)
  | (with_reducible refine iteNT (by walk_at "x") ?_)
  | (with_reducible refine iteNF (by walk_at "x") ?_)))
local macro_rules | `(tactic| walk_at "T") => `(tactic| repeat (first
  | walk_at "s"
  | ((with_reducible show rIx _ (.ref _) (.int _) _ _); refine' r_ixTu (SqT.of ?h) ?e ?_; (case h => first | assumption | walk_at "hp"); (case e => rfl))
  | (with_reducible refine r_lenSet ?_)
  | (with_reducible refine r_asg2 ?_)
  | (with_reducible refine iteDT (by walk_at "x") ?_)
  | (with_reducible refine iteDF (by walk_at "x") ?_)
  | (with_reducible refine iteNT (by walk_at "x") ?_)
  | (with_reducible refine iteNF (by walk_at "x") ?_)))
local macro_rules | `(tactic| walk_at "g") => `(tactic| repeat (first | walk_at "T1" | (with_reducible refine r_fld ?_) | (with_reducible refine r_sfl ?_) | (with_reducible refine r_ifT ?_) | (with_reducible refine r_nn ?_)))
section
variable {P : Program} {w : World} {K : PySem.W.Frag} {mg : Str → Option Value} {base : Heap}
theorem ok_has_worths (T : Tx K mg) {C : Addr} (NC : NodeC K C) {f : Addr} {fd : FuncData} (F : Fun K "has_worths" "Node.has_worths" s_Node_has_worths f fd) : FnOk P w K mg base CX0 1 f fd P_Node_has_worths (spHasW C) := by
  refine F.ok sc_Node_has_worths (fun vs H Q E h => ?_) (fun cdv A outer s H vs Q E hr h => ?_)
  · obtain ⟨n, dx, pa, po, fs, rfl, _⟩ := h
    rfl
  · obtain ⟨n, dx, pa, po, fs, rfl, hn, f1, f2, f3, hpa, hpo, k⟩ := h
    refine ⟨_, (pss_one (ps_ret (pe_callB ((L2.cr_all rfl) : CallR _ _ (rAll K)) (by rfl) T.z_all (by decide +kernel) (pa_cons (pe_lc (own := [("place", 1), ("own", 2)]) (g := (gTup K 2 (gCons (gName 1) (gCons (gName 2) gNil)))) rfl sc_Node_has_worths.nd (asZip0 (K := K) rfl (pi_zip0 rfl T.z_zip (pa_cons (pe_slice (L2.sl_tupA : L2.SlR _ (L2.rSlA K)) (asFld (K := K) rfl (pe_fld (pv 0) rfl)) po_none (po_some (asFld (K := K) rfl (pe_fld (pv 0) rfl)))) (pa_cons (asFld (K := K) rfl (pe_fld (pv 0) rfl)) pa_nil)))) (blkOk_by (N := N_Node_has_worths) (sc := defScope s_Node_has_worths) (by decide +kernel)) (fun _ _ _ _ _ => (asGTup (K := K) rfl (pg_tup rfl (pgs_cons (pg_name (i := 1) sc_Node_has_worths.nd rfl (Or.inl rfl)) (pgs_cons (pg_name (i := 2) sc_Node_has_worths.nd rfl (Or.inl rfl)) pgs_nil))))) (fun _ _ _ _ _ => pts_nil) (fun _ _ _ _ _ => pe_false)) pa_nil)))), ?_⟩
    walk_at "g"
    refine r_lcZ0 ?_
    walk_at "g"
    refine ⟨n, C, dx, fs, _, rfl, hn, NC.cls, NC.place_parts, f1, ?_⟩
    walk_at "g"
    refine ⟨n, C, dx, fs, _, rfl, hn, NC.cls, NC.needed, f2, ?_⟩
    walk_at "g"
    refine r_slA0 (SqT.of hpa) ?_
    walk_at "g"
    refine ⟨n, C, dx, fs, _, rfl, hn, NC.cls, NC.place_owns, f3, ?_⟩
    walk_at "g"
    refine ⟨pa, po, [], rfl, SqT.of hpa, SqL.of hpo, fun D hD => ?_⟩
    refine comp_z0 (SqT.of hpa) (fun H' s' => SqT.of (s' _ _ hpa)) hD fun H1 s1 hl1 => ?_
    walk_at "g"
    refine ⟨D, ([] : List Bool), rfl, SqL.of hl1, ?_⟩
    rw [show ([] : List Bool).all id = true from rfl]
    walk_at "g"
    exact k _ s1
theorem ok_node (T : Tx K mg) {C : Addr} (NC : NodeC K C) {f f_own_name f_own_words f_has_none f_fitting f_Node_has_worths : Addr} {fd fd_own_name fd_own_words fd_has_none fd_fitting fd_Node_has_worths : FuncData} (F : Fun K "__init__" "Node.__init__" s_Node_init f fd)
    (D_own_name : DAt K mg "own_name" s_own_name P_own_name f_own_name fd_own_name)
    (D_own_words : DAt K mg "_own_words" s_own_words P_own_words f_own_words fd_own_words)
    (D_has_none : DAt K mg "_has_none" s_has_none P_has_none f_has_none fd_has_none)
    (D_fitting : DAt K mg "_fitting" s_fitting P_fitting f_fitting fd_fitting)
    (D_Node_has_worths : MAt K C "has_worths" "Node.has_worths" s_Node_has_worths P_Node_has_worths f_Node_has_worths fd_Node_has_worths) : FnOk P w K mg base CX0 3 f fd P_Node_init (spNode C) := by
  have M_Node_has_worths := D_Node_has_worths.me
  have B_Node_has_worths := D_Node_has_worths.bd
  have G_own_words : FnOk P w K mg base CX0 2 f_own_words fd_own_words P_own_words spOwnW := ok_own_words T D_own_words.fn D_own_name
  have G_fitting : FnOk P w K mg base CX0 2 f_fitting fd_fitting P_fitting spFitting := ok_fitting T D_fitting.fn D_has_none
  have G_Node_has_worths : FnOk P w K mg base CX0 1 f_Node_has_worths fd_Node_has_worths P_Node_has_worths (spHasW C) := ok_has_worths T NC D_Node_has_worths.fn
  refine F.ok sc_Node_init (fun vs H Q E h => ?_) (fun cdv A outer s H vs Q E hr h => ?_)
  · obtain ⟨n, p, a, w, b, dx, nm, os, cs, kvs, rfl, _⟩ := h
    rfl
  · obtain ⟨n, p, a, w, b, dx, nm, os, cs, kvs, rfl, n0, hc, ho, be0, h6, hk, k⟩ := h
    obtain ⟨oa, pa, ga, ca, xs, c0, o0, hxo, pl0, gr0, ch0⟩ := hc.ex
    have l0 : xs.length = os.length := hxo.len
    have l6 := ho.1
    generalize H = H0 at *
    have C_Node := NC.cls
    obtain ⟨qN, hq_NEEDED, sN⟩ := T.c_NEEDED
    refine ⟨_, (pss_cons (asSFld (K := K) rfl (ps_fld (pv 0) (pv 1) rfl)) (pss_cons (asSFld (K := K) rfl (ps_fld (pv 0) (pe_ix (ix_seq : IxR _ (rIx K)) (pv 2) (pe_gI T.c_OPTIONS rfl) (fun _ _ => rfl)) rfl)) (pss_cons (asSFld (K := K) rfl (ps_fld (pv 0) (pe_ix (ix_seq : IxR _ (rIx K)) (pv 2) (pe_gI T.c_GROUPS rfl) (fun _ _ => rfl)) rfl)) (pss_cons (asSFld (K := K) rfl (ps_fld (pv 0) (pe_ix (ix_seq : IxR _ (rIx K)) (pv 2) (pe_gI T.c_PLACES rfl) (fun _ _ => rfl)) rfl)) (pss_cons (asSFld (K := K) rfl (ps_fld (pv 0) (pv 4) rfl)) (pss_cons (asSFld (K := K) rfl (ps_fld (pv 0) (pe_op (op_rep1 : OpR _ _ (rRep1 K)) (pe_tup (pa_cons pe_non pa_nil)) (pe_callB (call_lenA : CallR _ _ (J.rLen K)) (by rfl) T.z_len (by decide +kernel) (pa_cons (asFld (K := K) rfl (pe_fld (pv 0) rfl)) pa_nil))) rfl)) (pss_cons (asSFld (K := K) rfl (ps_fld (pv 0) (pe_dc (own := [("number", 5), ("option", 6)]) (g := gTup K 2 (gCons (gName 5) (gCons (gName 6) gNil))) rfl sc_Node_init.nd (asEnumT (K := K) rfl (pi_enumT rfl T.z_enumerate (pa_cons (asFld (K := K) rfl (pe_fld (pv 0) rfl)) pa_nil))) (blkOk_by (N := N_Node_init) (sc := defScope s_Node_init) (by decide +kernel)) (fun _ _ _ _ _ => (asGTup (K := K) rfl (pg_tup rfl (pgs_cons (pg_name (i := 5) sc_Node_init.nd rfl (Or.inl rfl)) (pgs_cons (pg_name (i := 6) sc_Node_init.nd rfl (Or.inl rfl)) pgs_nil))))) (fun _ _ _ _ _ => pts_nil) (fun _ _ _ _ _ => (pe_ix (ix_seq : IxR _ (rIx K)) (pv 6) (pe_gI T.c_NAME rfl) (fun _ _ => rfl))) (fun _ _ _ _ _ => (pv 5))) rfl)) (pss_cons (asSFld (K := K) rfl (ps_fld (pv 0) (pe_dc (own := [("number", 5), ("part", 7)]) (g := gTup K 2 (gCons (gName 5) (gCons (gName 7) gNil))) rfl sc_Node_init.nd (asEnumT (K := K) rfl (pi_enumT rfl T.z_enumerate (pa_cons (asFld (K := K) rfl (pe_fld (pv 0) rfl)) pa_nil))) (blkOk_by (N := N_Node_init) (sc := defScope s_Node_init) (by decide +kernel)) (fun _ _ _ _ _ => (asGTup (K := K) rfl (pg_tup rfl (pgs_cons (pg_name (i := 5) sc_Node_init.nd rfl (Or.inl rfl)) (pgs_cons (pg_name (i := 7) sc_Node_init.nd rfl (Or.inl rfl)) pgs_nil))))) (fun _ _ _ _ _ => (pts_one (pt_cmpR L2.op_notN (pe_ix (ix_seq : IxR _ (rIx K)) (pv 7) (pe_gI T.c_SHORT rfl) (fun _ _ => rfl)) pe_non (nomark _)))) (fun _ _ _ _ _ => (pe_ix (ix_seq : IxR _ (rIx K)) (pv 7) (pe_gI T.c_SHORT rfl) (fun _ _ => rfl))) (fun _ _ _ _ _ => (pv 5))) rfl)) (pss_cons (asSFld (K := K) rfl (ps_fld (pv 0) (pe_lc (own := [("option", 6)]) (g := (gName 6)) rfl sc_Node_init.nd (asSeq (K := K) rfl (pi_seq (asFld (K := K) rfl (pe_fld (pv 0) rfl)))) (blkOk_by (N := N_Node_init) (sc := defScope s_Node_init) (by decide +kernel)) (fun _ _ _ _ _ => (pg_name (i := 6) sc_Node_init.nd rfl (Or.inl rfl))) (fun _ _ _ _ _ => pts_nil) (fun _ _ _ _ _ => (pe_call G_own_words (hr.mono (by decide)) rfl D_own_words.gl D_own_words.fn.kp D_own_words.bd .nil pass0 (pa_cons (pe_ix (ix_seq : IxR _ (rIx K)) (pv 6) (pe_gI T.c_KIND rfl) (fun _ _ => rfl)) (pa_cons (pv 3) pa_nil))))) rfl)) (pss_cons (asSFld (K := K) rfl (ps_fld (pv 0) (pe_lc (own := [("place", 8)]) (g := (gName 8)) rfl sc_Node_init.nd (asSeq (K := K) rfl (pi_seq (asFld (K := K) rfl (pe_fld (pv 0) rfl)))) (blkOk_by (N := N_Node_init) (sc := defScope s_Node_init) (by decide +kernel)) (fun _ _ _ _ _ => (pg_name (i := 8) sc_Node_init.nd rfl (Or.inl rfl))) (fun _ _ _ _ _ => pts_nil) (fun _ _ _ _ _ => (pe_call G_own_words (hr.mono (by decide)) rfl D_own_words.gl D_own_words.fn.kp D_own_words.bd .nil pass0 (pa_cons (pe_ix (ix_seq : IxR _ (rIx K)) (pv 8) pe_int (fun _ _ => rfl)) (pa_cons (pv 3) pa_nil))))) rfl)) (pss_cons (asSFld (K := K) rfl (ps_fld (pv 0) (pe_call G_fitting (hr.mono (by decide)) rfl D_fitting.gl D_fitting.fn.kp D_fitting.bd .nil pass0 (pa_cons (asFld (K := K) rfl (pe_fld (pv 0) rfl)) (pa_cons (asFld (K := K) rfl (pe_fld (pv 0) rfl)) (pa_cons (asFld (K := K) rfl (pe_fld (pv 0) rfl)) (pa_cons (asFld (K := K) rfl (pe_fld (pv 0) rfl)) pa_nil))))) rfl)) (pss_cons (asSFld (K := K) rfl (ps_fld (pv 0) (pe_callB (call_lenA : CallR _ _ (J.rLen K)) (by rfl) T.z_len (by decide +kernel) (pa_cons (pe_lc (own := [("_", 9), ("times", 10)]) (g := (gTup K 3 (gCons (gName 9) (gCons (gName 9) (gCons (gName 10) gNil))))) rfl sc_Node_init.nd (asSeq (K := K) rfl (pi_seq (asFld (K := K) rfl (pe_fld (pv 0) rfl)))) (blkOk_by (N := N_Node_init) (sc := defScope s_Node_init) (by decide +kernel)) (fun _ _ _ _ _ => (asGTup (K := K) rfl (pg_tup rfl (pgs_cons (pg_name (i := 9) sc_Node_init.nd rfl (Or.inl rfl)) (pgs_cons (pg_name (i := 9) sc_Node_init.nd rfl (Or.inl rfl)) (pgs_cons (pg_name (i := 10) sc_Node_init.nd rfl (Or.inl rfl)) pgs_nil)))))) (fun _ _ _ _ _ => (pts_one (pt_cmpR (op_inA : OpR _ _ (rInA K false)) (pv 10) (pe_gR hq_NEEDED rfl) (by rfl)))) (fun _ _ _ _ _ => (pv 10))) pa_nil)) rfl)) (pss_cons (ps_asg2 (pe_meth0 (pv 0) C_Node M_Node_has_worths G_Node_has_worths (hr.mono (by decide)) B_Node_has_worths .nil pass0) (asGFld (K := K) rfl (pg_fld (pv 0))) (asGFld (K := K) rfl (pg_fld (pv 0)))) (pss_cons (ps_if (pt_truth (pv 4) (by intro _; rfl)) (pss_cons (asSFld (K := K) rfl (ps_fld (pv 0) (pe_callB ((L2.cr_any rfl) : CallR _ _ (rAny K)) (by rfl) T.z_any (by decide +kernel) (pa_cons (pe_lock (pe_lc (own := [("node", 11)]) (g := (gName 11)) rfl sc_Node_init.nd (pi_values (pv 4)) (blkOk_by (N := N_Node_init) (sc := defScope s_Node_init) (by decide +kernel)) (fun _ _ _ _ _ => (pg_name (i := 11) sc_Node_init.nd rfl (Or.inl rfl))) (fun _ _ _ _ _ => pts_nil) (fun _ _ _ _ _ => (asFld (K := K) rfl (pe_fld (pv 11) rfl))))) pa_nil)) rfl)) (pss_one (asSFld (K := K) rfl (ps_fld (pv 0) (pe_callB ((L2.cr_any rfl) : CallR _ _ (rAny K)) (by rfl) T.z_any (by decide +kernel) (pa_cons (pe_lock (pe_lc (own := [("node", 11)]) (g := (gName 11)) rfl sc_Node_init.nd (pi_values (pv 4)) (blkOk_by (N := N_Node_init) (sc := defScope s_Node_init) (by decide +kernel)) (fun _ _ _ _ _ => (pg_name (i := 11) sc_Node_init.nd rfl (Or.inl rfl))) (fun _ _ _ _ _ => pts_nil) (fun _ _ _ _ _ => (asFld (K := K) rfl (pe_fld (pv 11) rfl))))) pa_nil)) rfl)))) pss_nil) (pss_cons (asSFld (K := K) rfl (ps_fld (pv 0) (pe_and (asFld (K := K) rfl (pe_fld (pv 0) rfl)) (pe_one (pe_cmpR op_gtA (pe_callB (L2.call_lenD : CallR _ _ rLenD) (by rfl) T.z_len (by decide +kernel) (pa_cons (asFld (K := K) rfl (pe_fld (pv 0) rfl)) pa_nil)) pe_int (nomark _)))) rfl)) (pss_cons (asSFld (K := K) rfl (ps_fld (pv 0) (pe_and (asFld (K := K) rfl (pe_fld (pv 0) rfl)) (pe_one (pe_cmp (pc_din (hu_of hr) pe_int (asFld (K := K) rfl (pe_fld (pv 0) rfl))) rfl))) rfl)) (pss_cons (asSFld (K := K) rfl (ps_fld (pv 0) pe_dnewK rfl)) (pss_cons (asSFld (K := K) rfl (ps_fld (pv 0) pe_non rfl)) (pss_cons (asSFld (K := K) rfl (ps_fld (pv 0) pe_non rfl)) (pss_cons (asSFld (K := K) rfl (ps_fld (pv 0) pe_non rfl)) (pss_cons (asSFld (K := K) rfl (ps_fld (pv 0) pe_non rfl)) (pss_one (asSFld (K := K) rfl (ps_fld (pv 0) pe_non rfl)))))))))))))))))))))))), ?_⟩
    have k0 : KeepB n H0 H0 := fun _ _ _ h => h
    walk_at "g"
    refine ⟨n, C, dx, _, rfl, n0, NC.cls, NC.way, by simp only [List.length_cons, List.length_nil]; omega, ?_⟩
    rw [show putF "way" (V.ref p) ([] : List (Str × V)) = ([("way", V.ref p)] : List (Str × V)) from rfl]
    have k1 : KeepB n H0 (upd H0 n (.ins C dx ([("way", V.ref p)] : List (Str × V)))) := k0.trans (KeepB.upd _)
    have c1 : (upd H0 n (.ins C dx ([("way", V.ref p)] : List (Str × V)))) a = some (HO.tup [.str nm, .ref oa, .ref pa, .ref ga, .ref ca]) := (KeepB.upd _).nd n0 c0 (fun _ _ _ z => nomatch z)
    have o1 : (upd H0 n (.ins C dx ([("way", V.ref p)] : List (Str × V)))) oa = some (HO.tup xs) := (KeepB.upd _).nd n0 o0 (fun _ _ _ z => nomatch z)
    have pl1 : (upd H0 n (.ins C dx ([("way", V.ref p)] : List (Str × V)))) pa = some (HO.tup []) := (KeepB.upd _).nd n0 pl0 (fun _ _ _ z => nomatch z)
    have gr1 : (upd H0 n (.ins C dx ([("way", V.ref p)] : List (Str × V)))) ga = some (HO.tup []) := (KeepB.upd _).nd n0 gr0 (fun _ _ _ z => nomatch z)
    have be1 : (upd H0 n (.ins C dx ([("way", V.ref p)] : List (Str × V)))) b = some (HO.dK kvs) := (KeepB.upd _).nd n0 be0 (fun _ _ _ z => nomatch z)
    have n1 : (upd H0 n (.ins C dx ([("way", V.ref p)] : List (Str × V)))) n = some (.ins C dx ([("way", V.ref p)] : List (Str × V))) := upd_same
    generalize upd H0 n (.ins C dx ([("way", V.ref p)] : List (Str × V))) = H1 at k1 n1 c1 o1 pl1 gr1 be1 ⊢
    walk_at "g"
    refine ⟨n, C, dx, _, rfl, n1, NC.cls, NC.options, by simp only [List.length_cons, List.length_nil]; omega, ?_⟩
    rw [show putF "options" (V.ref oa) ([("way", V.ref p)] : List (Str × V)) = ([("way", V.ref p), ("options", V.ref oa)] : List (Str × V)) from rfl]
    have k2 : KeepB n H0 (upd H1 n (.ins C dx ([("way", V.ref p), ("options", V.ref oa)] : List (Str × V)))) := k1.trans (KeepB.upd _)
    have c2 : (upd H1 n (.ins C dx ([("way", V.ref p), ("options", V.ref oa)] : List (Str × V)))) a = some (HO.tup [.str nm, .ref oa, .ref pa, .ref ga, .ref ca]) := (KeepB.upd _).nd n1 c1 (fun _ _ _ z => nomatch z)
    have o2 : (upd H1 n (.ins C dx ([("way", V.ref p), ("options", V.ref oa)] : List (Str × V)))) oa = some (HO.tup xs) := (KeepB.upd _).nd n1 o1 (fun _ _ _ z => nomatch z)
    have pl2 : (upd H1 n (.ins C dx ([("way", V.ref p), ("options", V.ref oa)] : List (Str × V)))) pa = some (HO.tup []) := (KeepB.upd _).nd n1 pl1 (fun _ _ _ z => nomatch z)
    have gr2 : (upd H1 n (.ins C dx ([("way", V.ref p), ("options", V.ref oa)] : List (Str × V)))) ga = some (HO.tup []) := (KeepB.upd _).nd n1 gr1 (fun _ _ _ z => nomatch z)
    have be2 : (upd H1 n (.ins C dx ([("way", V.ref p), ("options", V.ref oa)] : List (Str × V)))) b = some (HO.dK kvs) := (KeepB.upd _).nd n1 be1 (fun _ _ _ z => nomatch z)
    have n2 : (upd H1 n (.ins C dx ([("way", V.ref p), ("options", V.ref oa)] : List (Str × V)))) n = some (.ins C dx ([("way", V.ref p), ("options", V.ref oa)] : List (Str × V))) := upd_same
    generalize upd H1 n (.ins C dx ([("way", V.ref p), ("options", V.ref oa)] : List (Str × V))) = H2 at k2 n2 c2 o2 pl2 gr2 be2 ⊢
    walk_at "g"
    refine ⟨n, C, dx, _, rfl, n2, NC.cls, NC.groups, by simp only [List.length_cons, List.length_nil]; omega, ?_⟩
    rw [show putF "groups" (V.ref ga) ([("way", V.ref p), ("options", V.ref oa)] : List (Str × V)) = ([("way", V.ref p), ("options", V.ref oa), ("groups", V.ref ga)] : List (Str × V)) from rfl]
    have k3 : KeepB n H0 (upd H2 n (.ins C dx ([("way", V.ref p), ("options", V.ref oa), ("groups", V.ref ga)] : List (Str × V)))) := k2.trans (KeepB.upd _)
    have c3 : (upd H2 n (.ins C dx ([("way", V.ref p), ("options", V.ref oa), ("groups", V.ref ga)] : List (Str × V)))) a = some (HO.tup [.str nm, .ref oa, .ref pa, .ref ga, .ref ca]) := (KeepB.upd _).nd n2 c2 (fun _ _ _ z => nomatch z)
    have o3 : (upd H2 n (.ins C dx ([("way", V.ref p), ("options", V.ref oa), ("groups", V.ref ga)] : List (Str × V)))) oa = some (HO.tup xs) := (KeepB.upd _).nd n2 o2 (fun _ _ _ z => nomatch z)
    have pl3 : (upd H2 n (.ins C dx ([("way", V.ref p), ("options", V.ref oa), ("groups", V.ref ga)] : List (Str × V)))) pa = some (HO.tup []) := (KeepB.upd _).nd n2 pl2 (fun _ _ _ z => nomatch z)
    have gr3 : (upd H2 n (.ins C dx ([("way", V.ref p), ("options", V.ref oa), ("groups", V.ref ga)] : List (Str × V)))) ga = some (HO.tup []) := (KeepB.upd _).nd n2 gr2 (fun _ _ _ z => nomatch z)
    have be3 : (upd H2 n (.ins C dx ([("way", V.ref p), ("options", V.ref oa), ("groups", V.ref ga)] : List (Str × V)))) b = some (HO.dK kvs) := (KeepB.upd _).nd n2 be2 (fun _ _ _ z => nomatch z)
    have n3 : (upd H2 n (.ins C dx ([("way", V.ref p), ("options", V.ref oa), ("groups", V.ref ga)] : List (Str × V)))) n = some (.ins C dx ([("way", V.ref p), ("options", V.ref oa), ("groups", V.ref ga)] : List (Str × V))) := upd_same
    generalize upd H2 n (.ins C dx ([("way", V.ref p), ("options", V.ref oa), ("groups", V.ref ga)] : List (Str × V))) = H3 at k3 n3 c3 o3 pl3 gr3 be3 ⊢
    walk_at "g"
    refine ⟨n, C, dx, _, rfl, n3, NC.cls, NC.place_parts, by simp only [List.length_cons, List.length_nil]; omega, ?_⟩
    rw [show putF "place_parts" (V.ref pa) ([("way", V.ref p), ("options", V.ref oa), ("groups", V.ref ga)] : List (Str × V)) = ([("way", V.ref p), ("options", V.ref oa), ("groups", V.ref ga), ("place_parts", V.ref pa)] : List (Str × V)) from rfl]
    have k4 : KeepB n H0 (upd H3 n (.ins C dx ([("way", V.ref p), ("options", V.ref oa), ("groups", V.ref ga), ("place_parts", V.ref pa)] : List (Str × V)))) := k3.trans (KeepB.upd _)
    have c4 : (upd H3 n (.ins C dx ([("way", V.ref p), ("options", V.ref oa), ("groups", V.ref ga), ("place_parts", V.ref pa)] : List (Str × V)))) a = some (HO.tup [.str nm, .ref oa, .ref pa, .ref ga, .ref ca]) := (KeepB.upd _).nd n3 c3 (fun _ _ _ z => nomatch z)
    have o4 : (upd H3 n (.ins C dx ([("way", V.ref p), ("options", V.ref oa), ("groups", V.ref ga), ("place_parts", V.ref pa)] : List (Str × V)))) oa = some (HO.tup xs) := (KeepB.upd _).nd n3 o3 (fun _ _ _ z => nomatch z)
    have pl4 : (upd H3 n (.ins C dx ([("way", V.ref p), ("options", V.ref oa), ("groups", V.ref ga), ("place_parts", V.ref pa)] : List (Str × V)))) pa = some (HO.tup []) := (KeepB.upd _).nd n3 pl3 (fun _ _ _ z => nomatch z)
    have gr4 : (upd H3 n (.ins C dx ([("way", V.ref p), ("options", V.ref oa), ("groups", V.ref ga), ("place_parts", V.ref pa)] : List (Str × V)))) ga = some (HO.tup []) := (KeepB.upd _).nd n3 gr3 (fun _ _ _ z => nomatch z)
    have be4 : (upd H3 n (.ins C dx ([("way", V.ref p), ("options", V.ref oa), ("groups", V.ref ga), ("place_parts", V.ref pa)] : List (Str × V)))) b = some (HO.dK kvs) := (KeepB.upd _).nd n3 be3 (fun _ _ _ z => nomatch z)
    have n4 : (upd H3 n (.ins C dx ([("way", V.ref p), ("options", V.ref oa), ("groups", V.ref ga), ("place_parts", V.ref pa)] : List (Str × V)))) n = some (.ins C dx ([("way", V.ref p), ("options", V.ref oa), ("groups", V.ref ga), ("place_parts", V.ref pa)] : List (Str × V))) := upd_same
    generalize upd H3 n (.ins C dx ([("way", V.ref p), ("options", V.ref oa), ("groups", V.ref ga), ("place_parts", V.ref pa)] : List (Str × V))) = H4 at k4 n4 c4 o4 pl4 gr4 be4 ⊢
    walk_at "g"
    refine ⟨n, C, dx, _, rfl, n4, NC.cls, NC.beneath, by simp only [List.length_cons, List.length_nil]; omega, ?_⟩
    rw [show putF "beneath" (V.ref b) ([("way", V.ref p), ("options", V.ref oa), ("groups", V.ref ga), ("place_parts", V.ref pa)] : List (Str × V)) = ([("way", V.ref p), ("options", V.ref oa), ("groups", V.ref ga), ("place_parts", V.ref pa), ("beneath", V.ref b)] : List (Str × V)) from rfl]
    have k5 : KeepB n H0 (upd H4 n (.ins C dx ([("way", V.ref p), ("options", V.ref oa), ("groups", V.ref ga), ("place_parts", V.ref pa), ("beneath", V.ref b)] : List (Str × V)))) := k4.trans (KeepB.upd _)
    have c5 : (upd H4 n (.ins C dx ([("way", V.ref p), ("options", V.ref oa), ("groups", V.ref ga), ("place_parts", V.ref pa), ("beneath", V.ref b)] : List (Str × V)))) a = some (HO.tup [.str nm, .ref oa, .ref pa, .ref ga, .ref ca]) := (KeepB.upd _).nd n4 c4 (fun _ _ _ z => nomatch z)
    have o5 : (upd H4 n (.ins C dx ([("way", V.ref p), ("options", V.ref oa), ("groups", V.ref ga), ("place_parts", V.ref pa), ("beneath", V.ref b)] : List (Str × V)))) oa = some (HO.tup xs) := (KeepB.upd _).nd n4 o4 (fun _ _ _ z => nomatch z)
    have pl5 : (upd H4 n (.ins C dx ([("way", V.ref p), ("options", V.ref oa), ("groups", V.ref ga), ("place_parts", V.ref pa), ("beneath", V.ref b)] : List (Str × V)))) pa = some (HO.tup []) := (KeepB.upd _).nd n4 pl4 (fun _ _ _ z => nomatch z)
    have gr5 : (upd H4 n (.ins C dx ([("way", V.ref p), ("options", V.ref oa), ("groups", V.ref ga), ("place_parts", V.ref pa), ("beneath", V.ref b)] : List (Str × V)))) ga = some (HO.tup []) := (KeepB.upd _).nd n4 gr4 (fun _ _ _ z => nomatch z)
    have be5 : (upd H4 n (.ins C dx ([("way", V.ref p), ("options", V.ref oa), ("groups", V.ref ga), ("place_parts", V.ref pa), ("beneath", V.ref b)] : List (Str × V)))) b = some (HO.dK kvs) := (KeepB.upd _).nd n4 be4 (fun _ _ _ z => nomatch z)
    have n5 : (upd H4 n (.ins C dx ([("way", V.ref p), ("options", V.ref oa), ("groups", V.ref ga), ("place_parts", V.ref pa), ("beneath", V.ref b)] : List (Str × V)))) n = some (.ins C dx ([("way", V.ref p), ("options", V.ref oa), ("groups", V.ref ga), ("place_parts", V.ref pa), ("beneath", V.ref b)] : List (Str × V))) := upd_same
    generalize upd H4 n (.ins C dx ([("way", V.ref p), ("options", V.ref oa), ("groups", V.ref ga), ("place_parts", V.ref pa), ("beneath", V.ref b)] : List (Str × V))) = H5 at k5 n5 c5 o5 pl5 gr5 be5 ⊢
    walk_at "g"
    refine ⟨show 1 ≤ sizeLine by decide, fun no1 hno1 => ?_⟩
    have s6 := (Same.refl H5).at hno1 (HO.tup [.non])
    have k6 := k5.trans (KeepB.of s6)
    have n6 := s6 _ _ n5
    have c6 := s6 _ _ c5
    have o6 := s6 _ _ o5
    have pl6 := s6 _ _ pl5
    have gr6 := s6 _ _ gr5
    have be6 := s6 _ _ be5
    have e6 : upd H5 no1 (HO.tup [.non]) no1 = some (HO.tup [.non]) := upd_same
    generalize upd H5 no1 (HO.tup [.non]) = H6 at s6 k6 n6 c6 o6 pl6 gr6 be6 e6 ⊢
    walk_at "g"
    refine ⟨n, C, dx, _, _, rfl, n6, NC.cls, NC.options, rfl, ?_⟩
    walk_at "g"
    refine r_lenT (SqT.of o6) ?_
    walk_at "g"
    refine ⟨no1, _, _, rfl, rfl, e6, by omega, by rw [l0]; omega, fun H7 no sN hno => ?_⟩
    have k7 := k6.trans (KeepB.of sN)
    have n7 := sN _ _ n6
    have c7 := sN _ _ c6
    have o7 := sN _ _ o6
    have pl7 := sN _ _ pl6
    have gr7 := sN _ _ gr6
    have be7 := sN _ _ be6
    have e7 := sN _ _ e6
    walk_at "g"
    refine ⟨n, C, dx, _, rfl, n7, NC.cls, NC.nothing, by simp only [List.length_cons, List.length_nil]; omega, ?_⟩
    rw [show putF "nothing" (V.ref no) ([("way", V.ref p), ("options", V.ref oa), ("groups", V.ref ga), ("place_parts", V.ref pa), ("beneath", V.ref b)] : List (Str × V)) = ([("way", V.ref p), ("options", V.ref oa), ("groups", V.ref ga), ("place_parts", V.ref pa), ("beneath", V.ref b), ("nothing", V.ref no)] : List (Str × V)) from rfl]
    have k8 : KeepB n H0 (upd H7 n (.ins C dx ([("way", V.ref p), ("options", V.ref oa), ("groups", V.ref ga), ("place_parts", V.ref pa), ("beneath", V.ref b), ("nothing", V.ref no)] : List (Str × V)))) := k7.trans (KeepB.upd _)
    have c8 : (upd H7 n (.ins C dx ([("way", V.ref p), ("options", V.ref oa), ("groups", V.ref ga), ("place_parts", V.ref pa), ("beneath", V.ref b), ("nothing", V.ref no)] : List (Str × V)))) a = some (HO.tup [.str nm, .ref oa, .ref pa, .ref ga, .ref ca]) := (KeepB.upd _).nd n7 c7 (fun _ _ _ z => nomatch z)
    have o8 : (upd H7 n (.ins C dx ([("way", V.ref p), ("options", V.ref oa), ("groups", V.ref ga), ("place_parts", V.ref pa), ("beneath", V.ref b), ("nothing", V.ref no)] : List (Str × V)))) oa = some (HO.tup xs) := (KeepB.upd _).nd n7 o7 (fun _ _ _ z => nomatch z)
    have pl8 : (upd H7 n (.ins C dx ([("way", V.ref p), ("options", V.ref oa), ("groups", V.ref ga), ("place_parts", V.ref pa), ("beneath", V.ref b), ("nothing", V.ref no)] : List (Str × V)))) pa = some (HO.tup []) := (KeepB.upd _).nd n7 pl7 (fun _ _ _ z => nomatch z)
    have gr8 : (upd H7 n (.ins C dx ([("way", V.ref p), ("options", V.ref oa), ("groups", V.ref ga), ("place_parts", V.ref pa), ("beneath", V.ref b), ("nothing", V.ref no)] : List (Str × V)))) ga = some (HO.tup []) := (KeepB.upd _).nd n7 gr7 (fun _ _ _ z => nomatch z)
    have be8 : (upd H7 n (.ins C dx ([("way", V.ref p), ("options", V.ref oa), ("groups", V.ref ga), ("place_parts", V.ref pa), ("beneath", V.ref b), ("nothing", V.ref no)] : List (Str × V)))) b = some (HO.dK kvs) := (KeepB.upd _).nd n7 be7 (fun _ _ _ z => nomatch z)
    have n8 : (upd H7 n (.ins C dx ([("way", V.ref p), ("options", V.ref oa), ("groups", V.ref ga), ("place_parts", V.ref pa), ("beneath", V.ref b), ("nothing", V.ref no)] : List (Str × V)))) n = some (.ins C dx ([("way", V.ref p), ("options", V.ref oa), ("groups", V.ref ga), ("place_parts", V.ref pa), ("beneath", V.ref b), ("nothing", V.ref no)] : List (Str × V))) := upd_same
    generalize upd H7 n (.ins C dx ([("way", V.ref p), ("options", V.ref oa), ("groups", V.ref ga), ("place_parts", V.ref pa), ("beneath", V.ref b), ("nothing", V.ref no)] : List (Str × V))) = H8 at k8 n8 c8 o8 pl8 gr8 be8 ⊢
    walk_at "g"
    refine r_dc ?_
    refine r_enumT ?_
    walk_at "g"
    refine ⟨n, C, dx, _, _, rfl, n8, NC.cls, NC.options, rfl, ?_⟩
    walk_at "g"
    refine ⟨oa, xs, rfl, SqT.of o8, fun nu hnu => ?_⟩
    refine dc_of os.length (fun i H' => Same H8 H' ∧ H' nu = some (.dK (numK (os.take i)))) ⟨(Same.refl _).at hnu _, upd_same⟩ (fun i H' hi w => ⟨SqT.of (w.1 _ _ o8), by rw [l0]; exact hi⟩) (fun H' w => ⟨SqT.of (w.1 _ _ o8), l0.symm⟩) (fun i H' x H'' hi w y => ?_) fun H9 w => ?_
    · obtain ⟨tp, x, rfl, htp, rfl, hxx⟩ := y
      obtain ⟨q, o, rfl, eo, hq⟩ := hxo.get hxx
      have sT := w.1.trans ((Same.refl H').at htp (.tup [.int (i : Nat), .ref q]))
      have eT : upd H' tp (.tup [.int (i : Nat), .ref q]) tp = some (.tup [.int (i : Nat), .ref q]) := upd_same
      have dT := ((Same.refl H').at htp (.tup [.int (i : Nat), .ref q])) _ _ w.2
      generalize upd H' tp (.tup [.int (i : Nat), .ref q]) = HT at sT eT dT ⊢
      have hq' : HT q = some (.tup [.str (S o.1), .non, .str (fmS o.2), .non, .int 0, .bl false, .non]) := sT _ _ ((k8.tup n0) _ _ hq)
      refine r_gtup (SqT.of eT) rfl ?_
      walk_at "g"
      refine ⟨rfl, ?_⟩
      walk_at "g"
      refine ⟨_, .inr (S o.1), rfl, dT, by rw [numK_len, List.length_take]; exact Nat.lt_of_le_of_lt (Nat.le_trans (Nat.min_le_right ..) l6) (by decide), sT.at hnu _, by rw [upd_same, numK_put ho.2.2 eo]⟩
    obtain ⟨sNU, nu9⟩ := w
    rw [List.take_of_length_le (Nat.le_refl os.length)] at nu9
    have hnu0 : H0 nu = none := k8.non n8 hnu
    have k9 := k8.trans (KeepB.of sNU)
    have n9 := sNU _ _ n8
    have c9 := sNU _ _ c8
    have o9 := sNU _ _ o8
    have pl9 := sNU _ _ pl8
    have gr9 := sNU _ _ gr8
    have be9 := sNU _ _ be8
    clear sNU
    walk_at "g"
    refine ⟨n, C, dx, _, rfl, n9, NC.cls, NC.numbers, by simp only [List.length_cons, List.length_nil]; omega, ?_⟩
    rw [show putF "numbers" (V.ref nu) ([("way", V.ref p), ("options", V.ref oa), ("groups", V.ref ga), ("place_parts", V.ref pa), ("beneath", V.ref b), ("nothing", V.ref no)] : List (Str × V)) = ([("way", V.ref p), ("options", V.ref oa), ("groups", V.ref ga), ("place_parts", V.ref pa), ("beneath", V.ref b), ("nothing", V.ref no), ("numbers", V.ref nu)] : List (Str × V)) from rfl]
    have k10 : KeepB n H0 (upd H9 n (.ins C dx ([("way", V.ref p), ("options", V.ref oa), ("groups", V.ref ga), ("place_parts", V.ref pa), ("beneath", V.ref b), ("nothing", V.ref no), ("numbers", V.ref nu)] : List (Str × V)))) := k9.trans (KeepB.upd _)
    have c10 : (upd H9 n (.ins C dx ([("way", V.ref p), ("options", V.ref oa), ("groups", V.ref ga), ("place_parts", V.ref pa), ("beneath", V.ref b), ("nothing", V.ref no), ("numbers", V.ref nu)] : List (Str × V)))) a = some (HO.tup [.str nm, .ref oa, .ref pa, .ref ga, .ref ca]) := (KeepB.upd _).nd n9 c9 (fun _ _ _ z => nomatch z)
    have o10 : (upd H9 n (.ins C dx ([("way", V.ref p), ("options", V.ref oa), ("groups", V.ref ga), ("place_parts", V.ref pa), ("beneath", V.ref b), ("nothing", V.ref no), ("numbers", V.ref nu)] : List (Str × V)))) oa = some (HO.tup xs) := (KeepB.upd _).nd n9 o9 (fun _ _ _ z => nomatch z)
    have pl10 : (upd H9 n (.ins C dx ([("way", V.ref p), ("options", V.ref oa), ("groups", V.ref ga), ("place_parts", V.ref pa), ("beneath", V.ref b), ("nothing", V.ref no), ("numbers", V.ref nu)] : List (Str × V)))) pa = some (HO.tup []) := (KeepB.upd _).nd n9 pl9 (fun _ _ _ z => nomatch z)
    have gr10 : (upd H9 n (.ins C dx ([("way", V.ref p), ("options", V.ref oa), ("groups", V.ref ga), ("place_parts", V.ref pa), ("beneath", V.ref b), ("nothing", V.ref no), ("numbers", V.ref nu)] : List (Str × V)))) ga = some (HO.tup []) := (KeepB.upd _).nd n9 gr9 (fun _ _ _ z => nomatch z)
    have be10 : (upd H9 n (.ins C dx ([("way", V.ref p), ("options", V.ref oa), ("groups", V.ref ga), ("place_parts", V.ref pa), ("beneath", V.ref b), ("nothing", V.ref no), ("numbers", V.ref nu)] : List (Str × V)))) b = some (HO.dK kvs) := (KeepB.upd _).nd n9 be9 (fun _ _ _ z => nomatch z)
    have nu10 : (upd H9 n (.ins C dx ([("way", V.ref p), ("options", V.ref oa), ("groups", V.ref ga), ("place_parts", V.ref pa), ("beneath", V.ref b), ("nothing", V.ref no), ("numbers", V.ref nu)] : List (Str × V)))) nu = some (HO.dK (numK os)) := (KeepB.upd _).nd n9 nu9 (fun _ _ _ z => nomatch z)
    have n10 : (upd H9 n (.ins C dx ([("way", V.ref p), ("options", V.ref oa), ("groups", V.ref ga), ("place_parts", V.ref pa), ("beneath", V.ref b), ("nothing", V.ref no), ("numbers", V.ref nu)] : List (Str × V)))) n = some (.ins C dx ([("way", V.ref p), ("options", V.ref oa), ("groups", V.ref ga), ("place_parts", V.ref pa), ("beneath", V.ref b), ("nothing", V.ref no), ("numbers", V.ref nu)] : List (Str × V))) := upd_same
    generalize upd H9 n (.ins C dx ([("way", V.ref p), ("options", V.ref oa), ("groups", V.ref ga), ("place_parts", V.ref pa), ("beneath", V.ref b), ("nothing", V.ref no), ("numbers", V.ref nu)] : List (Str × V))) = H10 at k10 n10 c10 o10 pl10 gr10 be10 nu10 ⊢
    walk_at "g"
    refine r_dc ?_
    refine r_enumT ?_
    walk_at "g"
    refine ⟨n, C, dx, _, _, rfl, n10, NC.cls, NC.options, rfl, ?_⟩
    walk_at "g"
    refine ⟨oa, xs, rfl, SqT.of o10, fun le hle => ?_⟩
    refine dc_of os.length (fun i H' => Same H10 H' ∧ H' le = some (.dK [])) ⟨(Same.refl _).at hle _, upd_same⟩ (fun i H' hi w => ⟨SqT.of (w.1 _ _ o10), by rw [l0]; exact hi⟩) (fun H' w => ⟨SqT.of (w.1 _ _ o10), l0.symm⟩) (fun i H' x H'' hi w y => ?_) fun H11 w => ?_
    · obtain ⟨tp, x, rfl, htp, rfl, hxx⟩ := y
      obtain ⟨q, o, rfl, eo, hq⟩ := hxo.get hxx
      have sT := w.1.trans ((Same.refl H').at htp (.tup [.int (i : Nat), .ref q]))
      have eT : upd H' tp (.tup [.int (i : Nat), .ref q]) tp = some (.tup [.int (i : Nat), .ref q]) := upd_same
      have dT := ((Same.refl H').at htp (.tup [.int (i : Nat), .ref q])) _ _ w.2
      generalize upd H' tp (.tup [.int (i : Nat), .ref q]) = HT at sT eT dT ⊢
      have hq' : HT q = some (.tup [.str (S o.1), .non, .str (fmS o.2), .non, .int 0, .bl false, .non]) := sT _ _ ((k10.tup n0) _ _ hq)
      refine r_gtup (SqT.of eT) rfl ?_
      walk_at "g"
      refine ⟨rfl, ?_⟩
      walk_at "g"
      exact ⟨sT, dT⟩
    obtain ⟨sLE, _⟩ := w
    have k11 := k10.trans (KeepB.of sLE)
    have n11 := sLE _ _ n10
    have c11 := sLE _ _ c10
    have o11 := sLE _ _ o10
    have pl11 := sLE _ _ pl10
    have gr11 := sLE _ _ gr10
    have be11 := sLE _ _ be10
    have nu11 := sLE _ _ nu10
    clear sLE
    walk_at "g"
    refine ⟨n, C, dx, _, rfl, n11, NC.cls, NC.letters, by simp only [List.length_cons, List.length_nil]; omega, ?_⟩
    rw [show putF "letters" (V.ref le) ([("way", V.ref p), ("options", V.ref oa), ("groups", V.ref ga), ("place_parts", V.ref pa), ("beneath", V.ref b), ("nothing", V.ref no), ("numbers", V.ref nu)] : List (Str × V)) = ([("way", V.ref p), ("options", V.ref oa), ("groups", V.ref ga), ("place_parts", V.ref pa), ("beneath", V.ref b), ("nothing", V.ref no), ("numbers", V.ref nu), ("letters", V.ref le)] : List (Str × V)) from rfl]
    have k12 : KeepB n H0 (upd H11 n (.ins C dx ([("way", V.ref p), ("options", V.ref oa), ("groups", V.ref ga), ("place_parts", V.ref pa), ("beneath", V.ref b), ("nothing", V.ref no), ("numbers", V.ref nu), ("letters", V.ref le)] : List (Str × V)))) := k11.trans (KeepB.upd _)
    have c12 : (upd H11 n (.ins C dx ([("way", V.ref p), ("options", V.ref oa), ("groups", V.ref ga), ("place_parts", V.ref pa), ("beneath", V.ref b), ("nothing", V.ref no), ("numbers", V.ref nu), ("letters", V.ref le)] : List (Str × V)))) a = some (HO.tup [.str nm, .ref oa, .ref pa, .ref ga, .ref ca]) := (KeepB.upd _).nd n11 c11 (fun _ _ _ z => nomatch z)
    have o12 : (upd H11 n (.ins C dx ([("way", V.ref p), ("options", V.ref oa), ("groups", V.ref ga), ("place_parts", V.ref pa), ("beneath", V.ref b), ("nothing", V.ref no), ("numbers", V.ref nu), ("letters", V.ref le)] : List (Str × V)))) oa = some (HO.tup xs) := (KeepB.upd _).nd n11 o11 (fun _ _ _ z => nomatch z)
    have pl12 : (upd H11 n (.ins C dx ([("way", V.ref p), ("options", V.ref oa), ("groups", V.ref ga), ("place_parts", V.ref pa), ("beneath", V.ref b), ("nothing", V.ref no), ("numbers", V.ref nu), ("letters", V.ref le)] : List (Str × V)))) pa = some (HO.tup []) := (KeepB.upd _).nd n11 pl11 (fun _ _ _ z => nomatch z)
    have gr12 : (upd H11 n (.ins C dx ([("way", V.ref p), ("options", V.ref oa), ("groups", V.ref ga), ("place_parts", V.ref pa), ("beneath", V.ref b), ("nothing", V.ref no), ("numbers", V.ref nu), ("letters", V.ref le)] : List (Str × V)))) ga = some (HO.tup []) := (KeepB.upd _).nd n11 gr11 (fun _ _ _ z => nomatch z)
    have be12 : (upd H11 n (.ins C dx ([("way", V.ref p), ("options", V.ref oa), ("groups", V.ref ga), ("place_parts", V.ref pa), ("beneath", V.ref b), ("nothing", V.ref no), ("numbers", V.ref nu), ("letters", V.ref le)] : List (Str × V)))) b = some (HO.dK kvs) := (KeepB.upd _).nd n11 be11 (fun _ _ _ z => nomatch z)
    have nu12 : (upd H11 n (.ins C dx ([("way", V.ref p), ("options", V.ref oa), ("groups", V.ref ga), ("place_parts", V.ref pa), ("beneath", V.ref b), ("nothing", V.ref no), ("numbers", V.ref nu), ("letters", V.ref le)] : List (Str × V)))) nu = some (HO.dK (numK os)) := (KeepB.upd _).nd n11 nu11 (fun _ _ _ z => nomatch z)
    have n12 : (upd H11 n (.ins C dx ([("way", V.ref p), ("options", V.ref oa), ("groups", V.ref ga), ("place_parts", V.ref pa), ("beneath", V.ref b), ("nothing", V.ref no), ("numbers", V.ref nu), ("letters", V.ref le)] : List (Str × V)))) n = some (.ins C dx ([("way", V.ref p), ("options", V.ref oa), ("groups", V.ref ga), ("place_parts", V.ref pa), ("beneath", V.ref b), ("nothing", V.ref no), ("numbers", V.ref nu), ("letters", V.ref le)] : List (Str × V))) := upd_same
    generalize upd H11 n (.ins C dx ([("way", V.ref p), ("options", V.ref oa), ("groups", V.ref ga), ("place_parts", V.ref pa), ("beneath", V.ref b), ("nothing", V.ref no), ("numbers", V.ref nu), ("letters", V.ref le)] : List (Str × V))) = H12 at k12 n12 c12 o12 pl12 gr12 be12 nu12 ⊢
    walk_at "g"
    refine r_lcQ ?_
    walk_at "g"
    refine ⟨n, C, dx, _, _, rfl, n12, NC.cls, NC.options, rfl, ?_⟩
    walk_at "g"
    refine r_seqZ (.inr (SqT.of o12)) fun J SI ow how => ?_
    refine comp_of os.length (fun i H' => Same H12 H' ∧ ∃ ys : List V, H' ow = some (.lst ys) ∧ ys.length = i) ⟨(Same.refl _).at how _, [], upd_same, rfl⟩ (fun i H' hi w => SI.go i H' w.1 (by rw [l0]; exact hi)) (fun H' w => by have := SI.stop H' w.1; rwa [l0] at this) (fun i H' x H'' hi w y => ?_) fun H13 w => ?_
    · obtain ⟨rfl, hxx⟩ := SI.yld i H' x H'' w.1 y
      obtain ⟨q, o, rfl, eo, hq⟩ := hxo.get hxx
      obtain ⟨sT, ys, dT, ly⟩ := w
      have hq' : H'' q = some (.tup [.str (S o.1), .non, .str (fmS o.2), .non, .int 0, .bl false, .non]) := sT _ _ ((k12.tup n0) _ _ hq)
      walk_at "g"
      refine ⟨rfl, ?_⟩
      walk_at "g"
      refine ⟨_, rfl, fun H2 t2 s2 ht2 => ?_⟩
      exact ⟨ys, s2 _ _ dT, by rw [ly]; exact Nat.lt_of_lt_of_le hi (Nat.le_trans l6 (by decide)), (sT.trans s2).at how _, ys ++ [.ref t2], upd_same, by rw [List.length_append, ly]; rfl⟩
    obtain ⟨sOW, ys, ow13, ly⟩ := w
    have k13 := k12.trans (KeepB.of sOW)
    have n13 := sOW _ _ n12
    have c13 := sOW _ _ c12
    have o13 := sOW _ _ o12
    have pl13 := sOW _ _ pl12
    have gr13 := sOW _ _ gr12
    have be13 := sOW _ _ be12
    have nu13 := sOW _ _ nu12
    clear sOW
    walk_at "g"
    refine ⟨n, C, dx, _, rfl, n13, NC.cls, NC.owns, by simp only [List.length_cons, List.length_nil]; omega, ?_⟩
    rw [show putF "owns" (V.ref ow) ([("way", V.ref p), ("options", V.ref oa), ("groups", V.ref ga), ("place_parts", V.ref pa), ("beneath", V.ref b), ("nothing", V.ref no), ("numbers", V.ref nu), ("letters", V.ref le)] : List (Str × V)) = ([("way", V.ref p), ("options", V.ref oa), ("groups", V.ref ga), ("place_parts", V.ref pa), ("beneath", V.ref b), ("nothing", V.ref no), ("numbers", V.ref nu), ("letters", V.ref le), ("owns", V.ref ow)] : List (Str × V)) from rfl]
    have k14 : KeepB n H0 (upd H13 n (.ins C dx ([("way", V.ref p), ("options", V.ref oa), ("groups", V.ref ga), ("place_parts", V.ref pa), ("beneath", V.ref b), ("nothing", V.ref no), ("numbers", V.ref nu), ("letters", V.ref le), ("owns", V.ref ow)] : List (Str × V)))) := k13.trans (KeepB.upd _)
    have c14 : (upd H13 n (.ins C dx ([("way", V.ref p), ("options", V.ref oa), ("groups", V.ref ga), ("place_parts", V.ref pa), ("beneath", V.ref b), ("nothing", V.ref no), ("numbers", V.ref nu), ("letters", V.ref le), ("owns", V.ref ow)] : List (Str × V)))) a = some (HO.tup [.str nm, .ref oa, .ref pa, .ref ga, .ref ca]) := (KeepB.upd _).nd n13 c13 (fun _ _ _ z => nomatch z)
    have o14 : (upd H13 n (.ins C dx ([("way", V.ref p), ("options", V.ref oa), ("groups", V.ref ga), ("place_parts", V.ref pa), ("beneath", V.ref b), ("nothing", V.ref no), ("numbers", V.ref nu), ("letters", V.ref le), ("owns", V.ref ow)] : List (Str × V)))) oa = some (HO.tup xs) := (KeepB.upd _).nd n13 o13 (fun _ _ _ z => nomatch z)
    have pl14 : (upd H13 n (.ins C dx ([("way", V.ref p), ("options", V.ref oa), ("groups", V.ref ga), ("place_parts", V.ref pa), ("beneath", V.ref b), ("nothing", V.ref no), ("numbers", V.ref nu), ("letters", V.ref le), ("owns", V.ref ow)] : List (Str × V)))) pa = some (HO.tup []) := (KeepB.upd _).nd n13 pl13 (fun _ _ _ z => nomatch z)
    have gr14 : (upd H13 n (.ins C dx ([("way", V.ref p), ("options", V.ref oa), ("groups", V.ref ga), ("place_parts", V.ref pa), ("beneath", V.ref b), ("nothing", V.ref no), ("numbers", V.ref nu), ("letters", V.ref le), ("owns", V.ref ow)] : List (Str × V)))) ga = some (HO.tup []) := (KeepB.upd _).nd n13 gr13 (fun _ _ _ z => nomatch z)
    have be14 : (upd H13 n (.ins C dx ([("way", V.ref p), ("options", V.ref oa), ("groups", V.ref ga), ("place_parts", V.ref pa), ("beneath", V.ref b), ("nothing", V.ref no), ("numbers", V.ref nu), ("letters", V.ref le), ("owns", V.ref ow)] : List (Str × V)))) b = some (HO.dK kvs) := (KeepB.upd _).nd n13 be13 (fun _ _ _ z => nomatch z)
    have nu14 : (upd H13 n (.ins C dx ([("way", V.ref p), ("options", V.ref oa), ("groups", V.ref ga), ("place_parts", V.ref pa), ("beneath", V.ref b), ("nothing", V.ref no), ("numbers", V.ref nu), ("letters", V.ref le), ("owns", V.ref ow)] : List (Str × V)))) nu = some (HO.dK (numK os)) := (KeepB.upd _).nd n13 nu13 (fun _ _ _ z => nomatch z)
    have ow14 : (upd H13 n (.ins C dx ([("way", V.ref p), ("options", V.ref oa), ("groups", V.ref ga), ("place_parts", V.ref pa), ("beneath", V.ref b), ("nothing", V.ref no), ("numbers", V.ref nu), ("letters", V.ref le), ("owns", V.ref ow)] : List (Str × V)))) ow = some (HO.lst ys) := (KeepB.upd _).nd n13 ow13 (fun _ _ _ z => nomatch z)
    have n14 : (upd H13 n (.ins C dx ([("way", V.ref p), ("options", V.ref oa), ("groups", V.ref ga), ("place_parts", V.ref pa), ("beneath", V.ref b), ("nothing", V.ref no), ("numbers", V.ref nu), ("letters", V.ref le), ("owns", V.ref ow)] : List (Str × V)))) n = some (.ins C dx ([("way", V.ref p), ("options", V.ref oa), ("groups", V.ref ga), ("place_parts", V.ref pa), ("beneath", V.ref b), ("nothing", V.ref no), ("numbers", V.ref nu), ("letters", V.ref le), ("owns", V.ref ow)] : List (Str × V))) := upd_same
    generalize upd H13 n (.ins C dx ([("way", V.ref p), ("options", V.ref oa), ("groups", V.ref ga), ("place_parts", V.ref pa), ("beneath", V.ref b), ("nothing", V.ref no), ("numbers", V.ref nu), ("letters", V.ref le), ("owns", V.ref ow)] : List (Str × V))) = H14 at k14 n14 c14 o14 pl14 gr14 be14 nu14 ow14 ⊢
    walk_at "g"
    refine r_lcQ ?_
    walk_at "g"
    refine ⟨n, C, dx, _, _, rfl, n14, NC.cls, NC.place_parts, rfl, ?_⟩
    walk_at "g"
    refine r_seqZ (.inr (SqT.of pl14)) fun J SI po hpo => ?_
    refine comp_nil SI hpo fun H15 sPO po15 => ?_
    have k15 := k14.trans (KeepB.of sPO)
    have n15 := sPO _ _ n14
    have c15 := sPO _ _ c14
    have o15 := sPO _ _ o14
    have pl15 := sPO _ _ pl14
    have gr15 := sPO _ _ gr14
    have be15 := sPO _ _ be14
    have nu15 := sPO _ _ nu14
    have ow15 := sPO _ _ ow14
    clear sPO
    walk_at "g"
    refine ⟨n, C, dx, _, rfl, n15, NC.cls, NC.place_owns, by simp only [List.length_cons, List.length_nil]; omega, ?_⟩
    rw [show putF "place_owns" (V.ref po) ([("way", V.ref p), ("options", V.ref oa), ("groups", V.ref ga), ("place_parts", V.ref pa), ("beneath", V.ref b), ("nothing", V.ref no), ("numbers", V.ref nu), ("letters", V.ref le), ("owns", V.ref ow)] : List (Str × V)) = ([("way", V.ref p), ("options", V.ref oa), ("groups", V.ref ga), ("place_parts", V.ref pa), ("beneath", V.ref b), ("nothing", V.ref no), ("numbers", V.ref nu), ("letters", V.ref le), ("owns", V.ref ow), ("place_owns", V.ref po)] : List (Str × V)) from rfl]
    have k16 : KeepB n H0 (upd H15 n (.ins C dx ([("way", V.ref p), ("options", V.ref oa), ("groups", V.ref ga), ("place_parts", V.ref pa), ("beneath", V.ref b), ("nothing", V.ref no), ("numbers", V.ref nu), ("letters", V.ref le), ("owns", V.ref ow), ("place_owns", V.ref po)] : List (Str × V)))) := k15.trans (KeepB.upd _)
    have c16 : (upd H15 n (.ins C dx ([("way", V.ref p), ("options", V.ref oa), ("groups", V.ref ga), ("place_parts", V.ref pa), ("beneath", V.ref b), ("nothing", V.ref no), ("numbers", V.ref nu), ("letters", V.ref le), ("owns", V.ref ow), ("place_owns", V.ref po)] : List (Str × V)))) a = some (HO.tup [.str nm, .ref oa, .ref pa, .ref ga, .ref ca]) := (KeepB.upd _).nd n15 c15 (fun _ _ _ z => nomatch z)
    have o16 : (upd H15 n (.ins C dx ([("way", V.ref p), ("options", V.ref oa), ("groups", V.ref ga), ("place_parts", V.ref pa), ("beneath", V.ref b), ("nothing", V.ref no), ("numbers", V.ref nu), ("letters", V.ref le), ("owns", V.ref ow), ("place_owns", V.ref po)] : List (Str × V)))) oa = some (HO.tup xs) := (KeepB.upd _).nd n15 o15 (fun _ _ _ z => nomatch z)
    have pl16 : (upd H15 n (.ins C dx ([("way", V.ref p), ("options", V.ref oa), ("groups", V.ref ga), ("place_parts", V.ref pa), ("beneath", V.ref b), ("nothing", V.ref no), ("numbers", V.ref nu), ("letters", V.ref le), ("owns", V.ref ow), ("place_owns", V.ref po)] : List (Str × V)))) pa = some (HO.tup []) := (KeepB.upd _).nd n15 pl15 (fun _ _ _ z => nomatch z)
    have gr16 : (upd H15 n (.ins C dx ([("way", V.ref p), ("options", V.ref oa), ("groups", V.ref ga), ("place_parts", V.ref pa), ("beneath", V.ref b), ("nothing", V.ref no), ("numbers", V.ref nu), ("letters", V.ref le), ("owns", V.ref ow), ("place_owns", V.ref po)] : List (Str × V)))) ga = some (HO.tup []) := (KeepB.upd _).nd n15 gr15 (fun _ _ _ z => nomatch z)
    have be16 : (upd H15 n (.ins C dx ([("way", V.ref p), ("options", V.ref oa), ("groups", V.ref ga), ("place_parts", V.ref pa), ("beneath", V.ref b), ("nothing", V.ref no), ("numbers", V.ref nu), ("letters", V.ref le), ("owns", V.ref ow), ("place_owns", V.ref po)] : List (Str × V)))) b = some (HO.dK kvs) := (KeepB.upd _).nd n15 be15 (fun _ _ _ z => nomatch z)
    have nu16 : (upd H15 n (.ins C dx ([("way", V.ref p), ("options", V.ref oa), ("groups", V.ref ga), ("place_parts", V.ref pa), ("beneath", V.ref b), ("nothing", V.ref no), ("numbers", V.ref nu), ("letters", V.ref le), ("owns", V.ref ow), ("place_owns", V.ref po)] : List (Str × V)))) nu = some (HO.dK (numK os)) := (KeepB.upd _).nd n15 nu15 (fun _ _ _ z => nomatch z)
    have ow16 : (upd H15 n (.ins C dx ([("way", V.ref p), ("options", V.ref oa), ("groups", V.ref ga), ("place_parts", V.ref pa), ("beneath", V.ref b), ("nothing", V.ref no), ("numbers", V.ref nu), ("letters", V.ref le), ("owns", V.ref ow), ("place_owns", V.ref po)] : List (Str × V)))) ow = some (HO.lst ys) := (KeepB.upd _).nd n15 ow15 (fun _ _ _ z => nomatch z)
    have po16 : (upd H15 n (.ins C dx ([("way", V.ref p), ("options", V.ref oa), ("groups", V.ref ga), ("place_parts", V.ref pa), ("beneath", V.ref b), ("nothing", V.ref no), ("numbers", V.ref nu), ("letters", V.ref le), ("owns", V.ref ow), ("place_owns", V.ref po)] : List (Str × V)))) po = some (HO.lst []) := (KeepB.upd _).nd n15 po15 (fun _ _ _ z => nomatch z)
    have n16 : (upd H15 n (.ins C dx ([("way", V.ref p), ("options", V.ref oa), ("groups", V.ref ga), ("place_parts", V.ref pa), ("beneath", V.ref b), ("nothing", V.ref no), ("numbers", V.ref nu), ("letters", V.ref le), ("owns", V.ref ow), ("place_owns", V.ref po)] : List (Str × V)))) n = some (.ins C dx ([("way", V.ref p), ("options", V.ref oa), ("groups", V.ref ga), ("place_parts", V.ref pa), ("beneath", V.ref b), ("nothing", V.ref no), ("numbers", V.ref nu), ("letters", V.ref le), ("owns", V.ref ow), ("place_owns", V.ref po)] : List (Str × V))) := upd_same
    generalize upd H15 n (.ins C dx ([("way", V.ref p), ("options", V.ref oa), ("groups", V.ref ga), ("place_parts", V.ref pa), ("beneath", V.ref b), ("nothing", V.ref no), ("numbers", V.ref nu), ("letters", V.ref le), ("owns", V.ref ow), ("place_owns", V.ref po)] : List (Str × V))) = H16 at k16 n16 c16 o16 pl16 gr16 be16 nu16 ow16 po16 ⊢
    walk_at "g"
    refine ⟨n, C, dx, _, _, rfl, n16, NC.cls, NC.options, rfl, ?_⟩
    walk_at "g"
    refine ⟨n, C, dx, _, _, rfl, n16, NC.cls, NC.owns, rfl, ?_⟩
    walk_at "g"
    refine ⟨n, C, dx, _, _, rfl, n16, NC.cls, NC.groups, rfl, ?_⟩
    walk_at "g"
    refine ⟨n, C, dx, _, _, rfl, n16, NC.cls, NC.numbers, rfl, ?_⟩
    walk_at "g"
    refine ⟨oa, ow, ga, _, xs, ys, os, rfl, o16, hxo.keep (k16.tup n0), l6, ow16, ly, gr16, fun H17 fi sFI hfi fi17 => ?_⟩
    have k17 := k16.trans (KeepB.of sFI)
    have n17 := sFI _ _ n16
    have c17 := sFI _ _ c16
    have o17 := sFI _ _ o16
    have pl17 := sFI _ _ pl16
    have gr17 := sFI _ _ gr16
    have be17 := sFI _ _ be16
    have nu17 := sFI _ _ nu16
    have ow17 := sFI _ _ ow16
    have po17 := sFI _ _ po16
    clear sFI
    walk_at "g"
    refine ⟨n, C, dx, _, rfl, n17, NC.cls, NC.fitting, by simp only [List.length_cons, List.length_nil]; omega, ?_⟩
    rw [show putF "fitting" (V.ref fi) ([("way", V.ref p), ("options", V.ref oa), ("groups", V.ref ga), ("place_parts", V.ref pa), ("beneath", V.ref b), ("nothing", V.ref no), ("numbers", V.ref nu), ("letters", V.ref le), ("owns", V.ref ow), ("place_owns", V.ref po)] : List (Str × V)) = ([("way", V.ref p), ("options", V.ref oa), ("groups", V.ref ga), ("place_parts", V.ref pa), ("beneath", V.ref b), ("nothing", V.ref no), ("numbers", V.ref nu), ("letters", V.ref le), ("owns", V.ref ow), ("place_owns", V.ref po), ("fitting", V.ref fi)] : List (Str × V)) from rfl]
    have k18 : KeepB n H0 (upd H17 n (.ins C dx ([("way", V.ref p), ("options", V.ref oa), ("groups", V.ref ga), ("place_parts", V.ref pa), ("beneath", V.ref b), ("nothing", V.ref no), ("numbers", V.ref nu), ("letters", V.ref le), ("owns", V.ref ow), ("place_owns", V.ref po), ("fitting", V.ref fi)] : List (Str × V)))) := k17.trans (KeepB.upd _)
    have c18 : (upd H17 n (.ins C dx ([("way", V.ref p), ("options", V.ref oa), ("groups", V.ref ga), ("place_parts", V.ref pa), ("beneath", V.ref b), ("nothing", V.ref no), ("numbers", V.ref nu), ("letters", V.ref le), ("owns", V.ref ow), ("place_owns", V.ref po), ("fitting", V.ref fi)] : List (Str × V)))) a = some (HO.tup [.str nm, .ref oa, .ref pa, .ref ga, .ref ca]) := (KeepB.upd _).nd n17 c17 (fun _ _ _ z => nomatch z)
    have o18 : (upd H17 n (.ins C dx ([("way", V.ref p), ("options", V.ref oa), ("groups", V.ref ga), ("place_parts", V.ref pa), ("beneath", V.ref b), ("nothing", V.ref no), ("numbers", V.ref nu), ("letters", V.ref le), ("owns", V.ref ow), ("place_owns", V.ref po), ("fitting", V.ref fi)] : List (Str × V)))) oa = some (HO.tup xs) := (KeepB.upd _).nd n17 o17 (fun _ _ _ z => nomatch z)
    have pl18 : (upd H17 n (.ins C dx ([("way", V.ref p), ("options", V.ref oa), ("groups", V.ref ga), ("place_parts", V.ref pa), ("beneath", V.ref b), ("nothing", V.ref no), ("numbers", V.ref nu), ("letters", V.ref le), ("owns", V.ref ow), ("place_owns", V.ref po), ("fitting", V.ref fi)] : List (Str × V)))) pa = some (HO.tup []) := (KeepB.upd _).nd n17 pl17 (fun _ _ _ z => nomatch z)
    have gr18 : (upd H17 n (.ins C dx ([("way", V.ref p), ("options", V.ref oa), ("groups", V.ref ga), ("place_parts", V.ref pa), ("beneath", V.ref b), ("nothing", V.ref no), ("numbers", V.ref nu), ("letters", V.ref le), ("owns", V.ref ow), ("place_owns", V.ref po), ("fitting", V.ref fi)] : List (Str × V)))) ga = some (HO.tup []) := (KeepB.upd _).nd n17 gr17 (fun _ _ _ z => nomatch z)
    have be18 : (upd H17 n (.ins C dx ([("way", V.ref p), ("options", V.ref oa), ("groups", V.ref ga), ("place_parts", V.ref pa), ("beneath", V.ref b), ("nothing", V.ref no), ("numbers", V.ref nu), ("letters", V.ref le), ("owns", V.ref ow), ("place_owns", V.ref po), ("fitting", V.ref fi)] : List (Str × V)))) b = some (HO.dK kvs) := (KeepB.upd _).nd n17 be17 (fun _ _ _ z => nomatch z)
    have nu18 : (upd H17 n (.ins C dx ([("way", V.ref p), ("options", V.ref oa), ("groups", V.ref ga), ("place_parts", V.ref pa), ("beneath", V.ref b), ("nothing", V.ref no), ("numbers", V.ref nu), ("letters", V.ref le), ("owns", V.ref ow), ("place_owns", V.ref po), ("fitting", V.ref fi)] : List (Str × V)))) nu = some (HO.dK (numK os)) := (KeepB.upd _).nd n17 nu17 (fun _ _ _ z => nomatch z)
    have ow18 : (upd H17 n (.ins C dx ([("way", V.ref p), ("options", V.ref oa), ("groups", V.ref ga), ("place_parts", V.ref pa), ("beneath", V.ref b), ("nothing", V.ref no), ("numbers", V.ref nu), ("letters", V.ref le), ("owns", V.ref ow), ("place_owns", V.ref po), ("fitting", V.ref fi)] : List (Str × V)))) ow = some (HO.lst ys) := (KeepB.upd _).nd n17 ow17 (fun _ _ _ z => nomatch z)
    have po18 : (upd H17 n (.ins C dx ([("way", V.ref p), ("options", V.ref oa), ("groups", V.ref ga), ("place_parts", V.ref pa), ("beneath", V.ref b), ("nothing", V.ref no), ("numbers", V.ref nu), ("letters", V.ref le), ("owns", V.ref ow), ("place_owns", V.ref po), ("fitting", V.ref fi)] : List (Str × V)))) po = some (HO.lst []) := (KeepB.upd _).nd n17 po17 (fun _ _ _ z => nomatch z)
    have fi18 : (upd H17 n (.ins C dx ([("way", V.ref p), ("options", V.ref oa), ("groups", V.ref ga), ("place_parts", V.ref pa), ("beneath", V.ref b), ("nothing", V.ref no), ("numbers", V.ref nu), ("letters", V.ref le), ("owns", V.ref ow), ("place_owns", V.ref po), ("fitting", V.ref fi)] : List (Str × V)))) fi = some (HO.dK (allBits os.length)) := (KeepB.upd _).nd n17 fi17 (fun _ _ _ z => nomatch z)
    have n18 : (upd H17 n (.ins C dx ([("way", V.ref p), ("options", V.ref oa), ("groups", V.ref ga), ("place_parts", V.ref pa), ("beneath", V.ref b), ("nothing", V.ref no), ("numbers", V.ref nu), ("letters", V.ref le), ("owns", V.ref ow), ("place_owns", V.ref po), ("fitting", V.ref fi)] : List (Str × V)))) n = some (.ins C dx ([("way", V.ref p), ("options", V.ref oa), ("groups", V.ref ga), ("place_parts", V.ref pa), ("beneath", V.ref b), ("nothing", V.ref no), ("numbers", V.ref nu), ("letters", V.ref le), ("owns", V.ref ow), ("place_owns", V.ref po), ("fitting", V.ref fi)] : List (Str × V))) := upd_same
    generalize upd H17 n (.ins C dx ([("way", V.ref p), ("options", V.ref oa), ("groups", V.ref ga), ("place_parts", V.ref pa), ("beneath", V.ref b), ("nothing", V.ref no), ("numbers", V.ref nu), ("letters", V.ref le), ("owns", V.ref ow), ("place_owns", V.ref po), ("fitting", V.ref fi)] : List (Str × V))) = H18 at k18 n18 c18 o18 pl18 gr18 be18 nu18 ow18 po18 fi18 ⊢
    walk_at "g"
    refine r_lcQ ?_
    walk_at "g"
    refine ⟨n, C, dx, _, _, rfl, n18, NC.cls, NC.place_parts, rfl, ?_⟩
    walk_at "g"
    refine r_seqZ (.inr (SqT.of pl18)) fun J SI ne hne => ?_
    refine comp_nil SI hne fun H19 sNE ne19 => ?_
    have k19 := k18.trans (KeepB.of sNE)
    have n19 := sNE _ _ n18
    have c19 := sNE _ _ c18
    have o19 := sNE _ _ o18
    have pl19 := sNE _ _ pl18
    have gr19 := sNE _ _ gr18
    have be19 := sNE _ _ be18
    have nu19 := sNE _ _ nu18
    have ow19 := sNE _ _ ow18
    have po19 := sNE _ _ po18
    have fi19 := sNE _ _ fi18
    clear sNE
    walk_at "g"
    refine r_lenL (SqL.of ne19) ?_
    walk_at "g"
    rw [show (([] : List V).length : Int) = 0 from rfl]
    refine ⟨n, C, dx, _, rfl, n19, NC.cls, NC.needed, by simp only [List.length_cons, List.length_nil]; omega, ?_⟩
    rw [show putF "needed" (V.int 0) ([("way", V.ref p), ("options", V.ref oa), ("groups", V.ref ga), ("place_parts", V.ref pa), ("beneath", V.ref b), ("nothing", V.ref no), ("numbers", V.ref nu), ("letters", V.ref le), ("owns", V.ref ow), ("place_owns", V.ref po), ("fitting", V.ref fi)] : List (Str × V)) = ([("way", V.ref p), ("options", V.ref oa), ("groups", V.ref ga), ("place_parts", V.ref pa), ("beneath", V.ref b), ("nothing", V.ref no), ("numbers", V.ref nu), ("letters", V.ref le), ("owns", V.ref ow), ("place_owns", V.ref po), ("fitting", V.ref fi), ("needed", V.int 0)] : List (Str × V)) from rfl]
    have k20 : KeepB n H0 (upd H19 n (.ins C dx ([("way", V.ref p), ("options", V.ref oa), ("groups", V.ref ga), ("place_parts", V.ref pa), ("beneath", V.ref b), ("nothing", V.ref no), ("numbers", V.ref nu), ("letters", V.ref le), ("owns", V.ref ow), ("place_owns", V.ref po), ("fitting", V.ref fi), ("needed", V.int 0)] : List (Str × V)))) := k19.trans (KeepB.upd _)
    have c20 : (upd H19 n (.ins C dx ([("way", V.ref p), ("options", V.ref oa), ("groups", V.ref ga), ("place_parts", V.ref pa), ("beneath", V.ref b), ("nothing", V.ref no), ("numbers", V.ref nu), ("letters", V.ref le), ("owns", V.ref ow), ("place_owns", V.ref po), ("fitting", V.ref fi), ("needed", V.int 0)] : List (Str × V)))) a = some (HO.tup [.str nm, .ref oa, .ref pa, .ref ga, .ref ca]) := (KeepB.upd _).nd n19 c19 (fun _ _ _ z => nomatch z)
    have o20 : (upd H19 n (.ins C dx ([("way", V.ref p), ("options", V.ref oa), ("groups", V.ref ga), ("place_parts", V.ref pa), ("beneath", V.ref b), ("nothing", V.ref no), ("numbers", V.ref nu), ("letters", V.ref le), ("owns", V.ref ow), ("place_owns", V.ref po), ("fitting", V.ref fi), ("needed", V.int 0)] : List (Str × V)))) oa = some (HO.tup xs) := (KeepB.upd _).nd n19 o19 (fun _ _ _ z => nomatch z)
    have pl20 : (upd H19 n (.ins C dx ([("way", V.ref p), ("options", V.ref oa), ("groups", V.ref ga), ("place_parts", V.ref pa), ("beneath", V.ref b), ("nothing", V.ref no), ("numbers", V.ref nu), ("letters", V.ref le), ("owns", V.ref ow), ("place_owns", V.ref po), ("fitting", V.ref fi), ("needed", V.int 0)] : List (Str × V)))) pa = some (HO.tup []) := (KeepB.upd _).nd n19 pl19 (fun _ _ _ z => nomatch z)
    have gr20 : (upd H19 n (.ins C dx ([("way", V.ref p), ("options", V.ref oa), ("groups", V.ref ga), ("place_parts", V.ref pa), ("beneath", V.ref b), ("nothing", V.ref no), ("numbers", V.ref nu), ("letters", V.ref le), ("owns", V.ref ow), ("place_owns", V.ref po), ("fitting", V.ref fi), ("needed", V.int 0)] : List (Str × V)))) ga = some (HO.tup []) := (KeepB.upd _).nd n19 gr19 (fun _ _ _ z => nomatch z)
    have be20 : (upd H19 n (.ins C dx ([("way", V.ref p), ("options", V.ref oa), ("groups", V.ref ga), ("place_parts", V.ref pa), ("beneath", V.ref b), ("nothing", V.ref no), ("numbers", V.ref nu), ("letters", V.ref le), ("owns", V.ref ow), ("place_owns", V.ref po), ("fitting", V.ref fi), ("needed", V.int 0)] : List (Str × V)))) b = some (HO.dK kvs) := (KeepB.upd _).nd n19 be19 (fun _ _ _ z => nomatch z)
    have nu20 : (upd H19 n (.ins C dx ([("way", V.ref p), ("options", V.ref oa), ("groups", V.ref ga), ("place_parts", V.ref pa), ("beneath", V.ref b), ("nothing", V.ref no), ("numbers", V.ref nu), ("letters", V.ref le), ("owns", V.ref ow), ("place_owns", V.ref po), ("fitting", V.ref fi), ("needed", V.int 0)] : List (Str × V)))) nu = some (HO.dK (numK os)) := (KeepB.upd _).nd n19 nu19 (fun _ _ _ z => nomatch z)
    have ow20 : (upd H19 n (.ins C dx ([("way", V.ref p), ("options", V.ref oa), ("groups", V.ref ga), ("place_parts", V.ref pa), ("beneath", V.ref b), ("nothing", V.ref no), ("numbers", V.ref nu), ("letters", V.ref le), ("owns", V.ref ow), ("place_owns", V.ref po), ("fitting", V.ref fi), ("needed", V.int 0)] : List (Str × V)))) ow = some (HO.lst ys) := (KeepB.upd _).nd n19 ow19 (fun _ _ _ z => nomatch z)
    have po20 : (upd H19 n (.ins C dx ([("way", V.ref p), ("options", V.ref oa), ("groups", V.ref ga), ("place_parts", V.ref pa), ("beneath", V.ref b), ("nothing", V.ref no), ("numbers", V.ref nu), ("letters", V.ref le), ("owns", V.ref ow), ("place_owns", V.ref po), ("fitting", V.ref fi), ("needed", V.int 0)] : List (Str × V)))) po = some (HO.lst []) := (KeepB.upd _).nd n19 po19 (fun _ _ _ z => nomatch z)
    have fi20 : (upd H19 n (.ins C dx ([("way", V.ref p), ("options", V.ref oa), ("groups", V.ref ga), ("place_parts", V.ref pa), ("beneath", V.ref b), ("nothing", V.ref no), ("numbers", V.ref nu), ("letters", V.ref le), ("owns", V.ref ow), ("place_owns", V.ref po), ("fitting", V.ref fi), ("needed", V.int 0)] : List (Str × V)))) fi = some (HO.dK (allBits os.length)) := (KeepB.upd _).nd n19 fi19 (fun _ _ _ z => nomatch z)
    have n20 : (upd H19 n (.ins C dx ([("way", V.ref p), ("options", V.ref oa), ("groups", V.ref ga), ("place_parts", V.ref pa), ("beneath", V.ref b), ("nothing", V.ref no), ("numbers", V.ref nu), ("letters", V.ref le), ("owns", V.ref ow), ("place_owns", V.ref po), ("fitting", V.ref fi), ("needed", V.int 0)] : List (Str × V)))) n = some (.ins C dx ([("way", V.ref p), ("options", V.ref oa), ("groups", V.ref ga), ("place_parts", V.ref pa), ("beneath", V.ref b), ("nothing", V.ref no), ("numbers", V.ref nu), ("letters", V.ref le), ("owns", V.ref ow), ("place_owns", V.ref po), ("fitting", V.ref fi), ("needed", V.int 0)] : List (Str × V))) := upd_same
    generalize upd H19 n (.ins C dx ([("way", V.ref p), ("options", V.ref oa), ("groups", V.ref ga), ("place_parts", V.ref pa), ("beneath", V.ref b), ("nothing", V.ref no), ("numbers", V.ref nu), ("letters", V.ref le), ("owns", V.ref ow), ("place_owns", V.ref po), ("fitting", V.ref fi), ("needed", V.int 0)] : List (Str × V))) = H20 at k20 n20 c20 o20 pl20 gr20 be20 nu20 ow20 po20 fi20 ⊢
    walk_at "g"
    refine r_meth ?_
    walk_at "g"
    refine ⟨n, dx, _, rfl, n20, rfl, ?_⟩
    walk_at "g"
    refine ⟨n, dx, pa, po, _, rfl, n20, rfl, rfl, rfl, pl20, po20, fun H21 sW => ?_⟩
    have k21 := k20.trans (KeepB.of sW)
    have n21 := sW _ _ n20
    have c21 := sW _ _ c20
    have o21 := sW _ _ o20
    have pl21 := sW _ _ pl20
    have gr21 := sW _ _ gr20
    have be21 := sW _ _ be20
    have nu21 := sW _ _ nu20
    have ow21 := sW _ _ ow20
    have po21 := sW _ _ po20
    have fi21 := sW _ _ fi20
    clear sW
    refine r_gfld ?_
    walk_at "g"
    refine ⟨n, C, dx, _, rfl, n21, NC.cls, NC.leads_free, by simp only [List.length_cons, List.length_nil]; omega, ?_⟩
    rw [show putF "leads_free" (V.bl true) ([("way", V.ref p), ("options", V.ref oa), ("groups", V.ref ga), ("place_parts", V.ref pa), ("beneath", V.ref b), ("nothing", V.ref no), ("numbers", V.ref nu), ("letters", V.ref le), ("owns", V.ref ow), ("place_owns", V.ref po), ("fitting", V.ref fi), ("needed", V.int 0)] : List (Str × V)) = ([("way", V.ref p), ("options", V.ref oa), ("groups", V.ref ga), ("place_parts", V.ref pa), ("beneath", V.ref b), ("nothing", V.ref no), ("numbers", V.ref nu), ("letters", V.ref le), ("owns", V.ref ow), ("place_owns", V.ref po), ("fitting", V.ref fi), ("needed", V.int 0), ("leads_free", V.bl true)] : List (Str × V)) from rfl]
    have k22 : KeepB n H0 (upd H21 n (.ins C dx ([("way", V.ref p), ("options", V.ref oa), ("groups", V.ref ga), ("place_parts", V.ref pa), ("beneath", V.ref b), ("nothing", V.ref no), ("numbers", V.ref nu), ("letters", V.ref le), ("owns", V.ref ow), ("place_owns", V.ref po), ("fitting", V.ref fi), ("needed", V.int 0), ("leads_free", V.bl true)] : List (Str × V)))) := k21.trans (KeepB.upd _)
    have c22 : (upd H21 n (.ins C dx ([("way", V.ref p), ("options", V.ref oa), ("groups", V.ref ga), ("place_parts", V.ref pa), ("beneath", V.ref b), ("nothing", V.ref no), ("numbers", V.ref nu), ("letters", V.ref le), ("owns", V.ref ow), ("place_owns", V.ref po), ("fitting", V.ref fi), ("needed", V.int 0), ("leads_free", V.bl true)] : List (Str × V)))) a = some (HO.tup [.str nm, .ref oa, .ref pa, .ref ga, .ref ca]) := (KeepB.upd _).nd n21 c21 (fun _ _ _ z => nomatch z)
    have o22 : (upd H21 n (.ins C dx ([("way", V.ref p), ("options", V.ref oa), ("groups", V.ref ga), ("place_parts", V.ref pa), ("beneath", V.ref b), ("nothing", V.ref no), ("numbers", V.ref nu), ("letters", V.ref le), ("owns", V.ref ow), ("place_owns", V.ref po), ("fitting", V.ref fi), ("needed", V.int 0), ("leads_free", V.bl true)] : List (Str × V)))) oa = some (HO.tup xs) := (KeepB.upd _).nd n21 o21 (fun _ _ _ z => nomatch z)
    have pl22 : (upd H21 n (.ins C dx ([("way", V.ref p), ("options", V.ref oa), ("groups", V.ref ga), ("place_parts", V.ref pa), ("beneath", V.ref b), ("nothing", V.ref no), ("numbers", V.ref nu), ("letters", V.ref le), ("owns", V.ref ow), ("place_owns", V.ref po), ("fitting", V.ref fi), ("needed", V.int 0), ("leads_free", V.bl true)] : List (Str × V)))) pa = some (HO.tup []) := (KeepB.upd _).nd n21 pl21 (fun _ _ _ z => nomatch z)
    have gr22 : (upd H21 n (.ins C dx ([("way", V.ref p), ("options", V.ref oa), ("groups", V.ref ga), ("place_parts", V.ref pa), ("beneath", V.ref b), ("nothing", V.ref no), ("numbers", V.ref nu), ("letters", V.ref le), ("owns", V.ref ow), ("place_owns", V.ref po), ("fitting", V.ref fi), ("needed", V.int 0), ("leads_free", V.bl true)] : List (Str × V)))) ga = some (HO.tup []) := (KeepB.upd _).nd n21 gr21 (fun _ _ _ z => nomatch z)
    have be22 : (upd H21 n (.ins C dx ([("way", V.ref p), ("options", V.ref oa), ("groups", V.ref ga), ("place_parts", V.ref pa), ("beneath", V.ref b), ("nothing", V.ref no), ("numbers", V.ref nu), ("letters", V.ref le), ("owns", V.ref ow), ("place_owns", V.ref po), ("fitting", V.ref fi), ("needed", V.int 0), ("leads_free", V.bl true)] : List (Str × V)))) b = some (HO.dK kvs) := (KeepB.upd _).nd n21 be21 (fun _ _ _ z => nomatch z)
    have nu22 : (upd H21 n (.ins C dx ([("way", V.ref p), ("options", V.ref oa), ("groups", V.ref ga), ("place_parts", V.ref pa), ("beneath", V.ref b), ("nothing", V.ref no), ("numbers", V.ref nu), ("letters", V.ref le), ("owns", V.ref ow), ("place_owns", V.ref po), ("fitting", V.ref fi), ("needed", V.int 0), ("leads_free", V.bl true)] : List (Str × V)))) nu = some (HO.dK (numK os)) := (KeepB.upd _).nd n21 nu21 (fun _ _ _ z => nomatch z)
    have ow22 : (upd H21 n (.ins C dx ([("way", V.ref p), ("options", V.ref oa), ("groups", V.ref ga), ("place_parts", V.ref pa), ("beneath", V.ref b), ("nothing", V.ref no), ("numbers", V.ref nu), ("letters", V.ref le), ("owns", V.ref ow), ("place_owns", V.ref po), ("fitting", V.ref fi), ("needed", V.int 0), ("leads_free", V.bl true)] : List (Str × V)))) ow = some (HO.lst ys) := (KeepB.upd _).nd n21 ow21 (fun _ _ _ z => nomatch z)
    have po22 : (upd H21 n (.ins C dx ([("way", V.ref p), ("options", V.ref oa), ("groups", V.ref ga), ("place_parts", V.ref pa), ("beneath", V.ref b), ("nothing", V.ref no), ("numbers", V.ref nu), ("letters", V.ref le), ("owns", V.ref ow), ("place_owns", V.ref po), ("fitting", V.ref fi), ("needed", V.int 0), ("leads_free", V.bl true)] : List (Str × V)))) po = some (HO.lst []) := (KeepB.upd _).nd n21 po21 (fun _ _ _ z => nomatch z)
    have fi22 : (upd H21 n (.ins C dx ([("way", V.ref p), ("options", V.ref oa), ("groups", V.ref ga), ("place_parts", V.ref pa), ("beneath", V.ref b), ("nothing", V.ref no), ("numbers", V.ref nu), ("letters", V.ref le), ("owns", V.ref ow), ("place_owns", V.ref po), ("fitting", V.ref fi), ("needed", V.int 0), ("leads_free", V.bl true)] : List (Str × V)))) fi = some (HO.dK (allBits os.length)) := (KeepB.upd _).nd n21 fi21 (fun _ _ _ z => nomatch z)
    have n22 : (upd H21 n (.ins C dx ([("way", V.ref p), ("options", V.ref oa), ("groups", V.ref ga), ("place_parts", V.ref pa), ("beneath", V.ref b), ("nothing", V.ref no), ("numbers", V.ref nu), ("letters", V.ref le), ("owns", V.ref ow), ("place_owns", V.ref po), ("fitting", V.ref fi), ("needed", V.int 0), ("leads_free", V.bl true)] : List (Str × V)))) n = some (.ins C dx ([("way", V.ref p), ("options", V.ref oa), ("groups", V.ref ga), ("place_parts", V.ref pa), ("beneath", V.ref b), ("nothing", V.ref no), ("numbers", V.ref nu), ("letters", V.ref le), ("owns", V.ref ow), ("place_owns", V.ref po), ("fitting", V.ref fi), ("needed", V.int 0), ("leads_free", V.bl true)] : List (Str × V))) := upd_same
    generalize upd H21 n (.ins C dx ([("way", V.ref p), ("options", V.ref oa), ("groups", V.ref ga), ("place_parts", V.ref pa), ("beneath", V.ref b), ("nothing", V.ref no), ("numbers", V.ref nu), ("letters", V.ref le), ("owns", V.ref ow), ("place_owns", V.ref po), ("fitting", V.ref fi), ("needed", V.int 0), ("leads_free", V.bl true)] : List (Str × V))) = H22 at k22 n22 c22 o22 pl22 gr22 be22 nu22 ow22 po22 fi22 ⊢
    refine r_gfld ?_
    walk_at "g"
    refine ⟨n, C, dx, _, rfl, n22, NC.cls, NC.leads_bare, by simp only [List.length_cons, List.length_nil]; omega, ?_⟩
    rw [show putF "leads_bare" (V.bl true) ([("way", V.ref p), ("options", V.ref oa), ("groups", V.ref ga), ("place_parts", V.ref pa), ("beneath", V.ref b), ("nothing", V.ref no), ("numbers", V.ref nu), ("letters", V.ref le), ("owns", V.ref ow), ("place_owns", V.ref po), ("fitting", V.ref fi), ("needed", V.int 0), ("leads_free", V.bl true)] : List (Str × V)) = ([("way", V.ref p), ("options", V.ref oa), ("groups", V.ref ga), ("place_parts", V.ref pa), ("beneath", V.ref b), ("nothing", V.ref no), ("numbers", V.ref nu), ("letters", V.ref le), ("owns", V.ref ow), ("place_owns", V.ref po), ("fitting", V.ref fi), ("needed", V.int 0), ("leads_free", V.bl true), ("leads_bare", V.bl true)] : List (Str × V)) from rfl]
    have k23 : KeepB n H0 (upd H22 n (.ins C dx ([("way", V.ref p), ("options", V.ref oa), ("groups", V.ref ga), ("place_parts", V.ref pa), ("beneath", V.ref b), ("nothing", V.ref no), ("numbers", V.ref nu), ("letters", V.ref le), ("owns", V.ref ow), ("place_owns", V.ref po), ("fitting", V.ref fi), ("needed", V.int 0), ("leads_free", V.bl true), ("leads_bare", V.bl true)] : List (Str × V)))) := k22.trans (KeepB.upd _)
    have c23 : (upd H22 n (.ins C dx ([("way", V.ref p), ("options", V.ref oa), ("groups", V.ref ga), ("place_parts", V.ref pa), ("beneath", V.ref b), ("nothing", V.ref no), ("numbers", V.ref nu), ("letters", V.ref le), ("owns", V.ref ow), ("place_owns", V.ref po), ("fitting", V.ref fi), ("needed", V.int 0), ("leads_free", V.bl true), ("leads_bare", V.bl true)] : List (Str × V)))) a = some (HO.tup [.str nm, .ref oa, .ref pa, .ref ga, .ref ca]) := (KeepB.upd _).nd n22 c22 (fun _ _ _ z => nomatch z)
    have o23 : (upd H22 n (.ins C dx ([("way", V.ref p), ("options", V.ref oa), ("groups", V.ref ga), ("place_parts", V.ref pa), ("beneath", V.ref b), ("nothing", V.ref no), ("numbers", V.ref nu), ("letters", V.ref le), ("owns", V.ref ow), ("place_owns", V.ref po), ("fitting", V.ref fi), ("needed", V.int 0), ("leads_free", V.bl true), ("leads_bare", V.bl true)] : List (Str × V)))) oa = some (HO.tup xs) := (KeepB.upd _).nd n22 o22 (fun _ _ _ z => nomatch z)
    have pl23 : (upd H22 n (.ins C dx ([("way", V.ref p), ("options", V.ref oa), ("groups", V.ref ga), ("place_parts", V.ref pa), ("beneath", V.ref b), ("nothing", V.ref no), ("numbers", V.ref nu), ("letters", V.ref le), ("owns", V.ref ow), ("place_owns", V.ref po), ("fitting", V.ref fi), ("needed", V.int 0), ("leads_free", V.bl true), ("leads_bare", V.bl true)] : List (Str × V)))) pa = some (HO.tup []) := (KeepB.upd _).nd n22 pl22 (fun _ _ _ z => nomatch z)
    have gr23 : (upd H22 n (.ins C dx ([("way", V.ref p), ("options", V.ref oa), ("groups", V.ref ga), ("place_parts", V.ref pa), ("beneath", V.ref b), ("nothing", V.ref no), ("numbers", V.ref nu), ("letters", V.ref le), ("owns", V.ref ow), ("place_owns", V.ref po), ("fitting", V.ref fi), ("needed", V.int 0), ("leads_free", V.bl true), ("leads_bare", V.bl true)] : List (Str × V)))) ga = some (HO.tup []) := (KeepB.upd _).nd n22 gr22 (fun _ _ _ z => nomatch z)
    have be23 : (upd H22 n (.ins C dx ([("way", V.ref p), ("options", V.ref oa), ("groups", V.ref ga), ("place_parts", V.ref pa), ("beneath", V.ref b), ("nothing", V.ref no), ("numbers", V.ref nu), ("letters", V.ref le), ("owns", V.ref ow), ("place_owns", V.ref po), ("fitting", V.ref fi), ("needed", V.int 0), ("leads_free", V.bl true), ("leads_bare", V.bl true)] : List (Str × V)))) b = some (HO.dK kvs) := (KeepB.upd _).nd n22 be22 (fun _ _ _ z => nomatch z)
    have nu23 : (upd H22 n (.ins C dx ([("way", V.ref p), ("options", V.ref oa), ("groups", V.ref ga), ("place_parts", V.ref pa), ("beneath", V.ref b), ("nothing", V.ref no), ("numbers", V.ref nu), ("letters", V.ref le), ("owns", V.ref ow), ("place_owns", V.ref po), ("fitting", V.ref fi), ("needed", V.int 0), ("leads_free", V.bl true), ("leads_bare", V.bl true)] : List (Str × V)))) nu = some (HO.dK (numK os)) := (KeepB.upd _).nd n22 nu22 (fun _ _ _ z => nomatch z)
    have ow23 : (upd H22 n (.ins C dx ([("way", V.ref p), ("options", V.ref oa), ("groups", V.ref ga), ("place_parts", V.ref pa), ("beneath", V.ref b), ("nothing", V.ref no), ("numbers", V.ref nu), ("letters", V.ref le), ("owns", V.ref ow), ("place_owns", V.ref po), ("fitting", V.ref fi), ("needed", V.int 0), ("leads_free", V.bl true), ("leads_bare", V.bl true)] : List (Str × V)))) ow = some (HO.lst ys) := (KeepB.upd _).nd n22 ow22 (fun _ _ _ z => nomatch z)
    have po23 : (upd H22 n (.ins C dx ([("way", V.ref p), ("options", V.ref oa), ("groups", V.ref ga), ("place_parts", V.ref pa), ("beneath", V.ref b), ("nothing", V.ref no), ("numbers", V.ref nu), ("letters", V.ref le), ("owns", V.ref ow), ("place_owns", V.ref po), ("fitting", V.ref fi), ("needed", V.int 0), ("leads_free", V.bl true), ("leads_bare", V.bl true)] : List (Str × V)))) po = some (HO.lst []) := (KeepB.upd _).nd n22 po22 (fun _ _ _ z => nomatch z)
    have fi23 : (upd H22 n (.ins C dx ([("way", V.ref p), ("options", V.ref oa), ("groups", V.ref ga), ("place_parts", V.ref pa), ("beneath", V.ref b), ("nothing", V.ref no), ("numbers", V.ref nu), ("letters", V.ref le), ("owns", V.ref ow), ("place_owns", V.ref po), ("fitting", V.ref fi), ("needed", V.int 0), ("leads_free", V.bl true), ("leads_bare", V.bl true)] : List (Str × V)))) fi = some (HO.dK (allBits os.length)) := (KeepB.upd _).nd n22 fi22 (fun _ _ _ z => nomatch z)
    have n23 : (upd H22 n (.ins C dx ([("way", V.ref p), ("options", V.ref oa), ("groups", V.ref ga), ("place_parts", V.ref pa), ("beneath", V.ref b), ("nothing", V.ref no), ("numbers", V.ref nu), ("letters", V.ref le), ("owns", V.ref ow), ("place_owns", V.ref po), ("fitting", V.ref fi), ("needed", V.int 0), ("leads_free", V.bl true), ("leads_bare", V.bl true)] : List (Str × V)))) n = some (.ins C dx ([("way", V.ref p), ("options", V.ref oa), ("groups", V.ref ga), ("place_parts", V.ref pa), ("beneath", V.ref b), ("nothing", V.ref no), ("numbers", V.ref nu), ("letters", V.ref le), ("owns", V.ref ow), ("place_owns", V.ref po), ("fitting", V.ref fi), ("needed", V.int 0), ("leads_free", V.bl true), ("leads_bare", V.bl true)] : List (Str × V))) := upd_same
    generalize upd H22 n (.ins C dx ([("way", V.ref p), ("options", V.ref oa), ("groups", V.ref ga), ("place_parts", V.ref pa), ("beneath", V.ref b), ("nothing", V.ref no), ("numbers", V.ref nu), ("letters", V.ref le), ("owns", V.ref ow), ("place_owns", V.ref po), ("fitting", V.ref fi), ("needed", V.int 0), ("leads_free", V.bl true), ("leads_bare", V.bl true)] : List (Str × V))) = H23 at k23 n23 c23 o23 pl23 gr23 be23 nu23 ow23 po23 fi23 ⊢
    dsimp only
    refine r_seqJ (fun σ' H' => σ' = [some (.ref n), some (.ref p), some (.ref a), some (.ref w), some (.ref b), none, none, none, none, none, none, none] ∧ KeepB n H0 H' ∧ H' n = some (.ins C dx ([("way", V.ref p), ("options", V.ref oa), ("groups", V.ref ga), ("place_parts", V.ref pa), ("beneath", V.ref b), ("nothing", V.ref no), ("numbers", V.ref nu), ("letters", V.ref le), ("owns", V.ref ow), ("place_owns", V.ref po), ("fitting", V.ref fi), ("needed", V.int 0), ("leads_free", V.bl true), ("leads_bare", V.bl true)] : List (Str × V))) ∧ H' nu = some (.dK (numK os)) ∧ H' fi = some (.dK (allBits os.length))) (fun N hN => ?_) fun σ' H24 w => ?_
    · walk_at "g"
      by_cases ek : kvs = []
      · refine ⟨false, .inr (.inr ⟨kvs, be23, by rw [ek]; rfl⟩), ?_⟩
        walk_at "g"
        exact hN _ _ ⟨rfl, k23, n23, nu23, fi23⟩
      · refine ⟨true, .inr (.inr ⟨kvs, be23, by cases kvs with | nil => exact absurd rfl ek | cons _ _ => rfl⟩), ?_⟩
        walk_at "g"
        refine r_lockE be23 trivial fun od => ?_
        refine r_lcVals ?_
        walk_at "g"
        refine ⟨b, od, kvs, rfl, upd_same, fun Dgoes hDgoes => ?_⟩
        refine comp_same (seqIt_vals upd_same) hDgoes (kvs.map fun _ => V.bl true) (by rw [List.length_map, List.length_map]) (by rw [List.length_map]; exact Nat.lt_of_le_of_lt h6 (by decide)) (fun i x H' N' hx s' hN' => ?_) fun HX sX lX => ?_
        · rw [List.getElem?_map] at hx
          obtain ⟨kv, ekv, rfl⟩ := Option.map_eq_some_iff.mp hx
          obtain ⟨m, dm, q1, q2, q3, q4, q5, q6, q7, q8, q9, q10, q11, q12, q13, em, hm⟩ := hk kv (List.mem_of_getElem? ekv)
          have nm' : m ≠ n := fun e => by subst e; exact nomatch n0.symm.trans hm
          have mb : m ≠ b := fun e => by subst e; exact nomatch be0.symm.trans hm
          have hm1 := k23 _ _ nm' hm
          have hm2 : (upd H23 b (.frz od (.dK kvs))) m = _ := (upd_ne mb).trans hm1
          have hm3 := s' _ _ hm2
          rw [em]
          walk_at "g"
          refine ⟨rfl, ?_⟩
          walk_at "g"
          refine ⟨m, C, dm, _, _, rfl, hm3, NC.cls, NC.goes, rfl, ?_⟩
          exact hN' _ _ (by rw [List.getElem?_map, ekv]; rfl) (Same.refl _)
        refine ⟨sX _ _ upd_same, ?_⟩
        have sU := unlock_same be23 sX
        have lU : upd HX b (.dK kvs) Dgoes = some (.lst (kvs.map fun _ => V.bl true)) := by
          rw [upd_ne (fun e => by subst e; exact nomatch hDgoes.symm.trans upd_same)]; exact lX
        generalize upd HX b (.dK kvs) = H24 at sU lU ⊢
        have k24 := k23.trans (KeepB.of sU)
        have n24 := sU _ _ n23
        have o24 := sU _ _ o23
        have be24 := sU _ _ be23
        have nu24 := sU _ _ nu23
        have fi24 := sU _ _ fi23
        clear sU
        walk_at "g"
        refine ⟨Dgoes, kvs.map fun _ => true, rfl, SqL.of (by rw [lU, List.map_map]; rfl), ?_⟩
        rw [show (kvs.map fun _ => true).any id = true from by cases kvs with | nil => exact absurd rfl ek | cons _ _ => rfl]
        walk_at "g"
        refine ⟨n, C, dx, _, rfl, n24, NC.cls, NC.leads_free, by simp only [List.length_cons, List.length_nil]; omega, ?_⟩
        rw [show putF "leads_free" (V.bl true) ([("way", V.ref p), ("options", V.ref oa), ("groups", V.ref ga), ("place_parts", V.ref pa), ("beneath", V.ref b), ("nothing", V.ref no), ("numbers", V.ref nu), ("letters", V.ref le), ("owns", V.ref ow), ("place_owns", V.ref po), ("fitting", V.ref fi), ("needed", V.int 0), ("leads_free", V.bl true), ("leads_bare", V.bl true)] : List (Str × V)) = ([("way", V.ref p), ("options", V.ref oa), ("groups", V.ref ga), ("place_parts", V.ref pa), ("beneath", V.ref b), ("nothing", V.ref no), ("numbers", V.ref nu), ("letters", V.ref le), ("owns", V.ref ow), ("place_owns", V.ref po), ("fitting", V.ref fi), ("needed", V.int 0), ("leads_free", V.bl true), ("leads_bare", V.bl true)] : List (Str × V)) from rfl]
        have k25 : KeepB n H0 (upd H24 n (.ins C dx ([("way", V.ref p), ("options", V.ref oa), ("groups", V.ref ga), ("place_parts", V.ref pa), ("beneath", V.ref b), ("nothing", V.ref no), ("numbers", V.ref nu), ("letters", V.ref le), ("owns", V.ref ow), ("place_owns", V.ref po), ("fitting", V.ref fi), ("needed", V.int 0), ("leads_free", V.bl true), ("leads_bare", V.bl true)] : List (Str × V)))) := k24.trans (KeepB.upd _)
        have o25 : (upd H24 n (.ins C dx ([("way", V.ref p), ("options", V.ref oa), ("groups", V.ref ga), ("place_parts", V.ref pa), ("beneath", V.ref b), ("nothing", V.ref no), ("numbers", V.ref nu), ("letters", V.ref le), ("owns", V.ref ow), ("place_owns", V.ref po), ("fitting", V.ref fi), ("needed", V.int 0), ("leads_free", V.bl true), ("leads_bare", V.bl true)] : List (Str × V)))) oa = some (HO.tup xs) := (KeepB.upd _).nd n24 o24 (fun _ _ _ z => nomatch z)
        have be25 : (upd H24 n (.ins C dx ([("way", V.ref p), ("options", V.ref oa), ("groups", V.ref ga), ("place_parts", V.ref pa), ("beneath", V.ref b), ("nothing", V.ref no), ("numbers", V.ref nu), ("letters", V.ref le), ("owns", V.ref ow), ("place_owns", V.ref po), ("fitting", V.ref fi), ("needed", V.int 0), ("leads_free", V.bl true), ("leads_bare", V.bl true)] : List (Str × V)))) b = some (HO.dK kvs) := (KeepB.upd _).nd n24 be24 (fun _ _ _ z => nomatch z)
        have nu25 : (upd H24 n (.ins C dx ([("way", V.ref p), ("options", V.ref oa), ("groups", V.ref ga), ("place_parts", V.ref pa), ("beneath", V.ref b), ("nothing", V.ref no), ("numbers", V.ref nu), ("letters", V.ref le), ("owns", V.ref ow), ("place_owns", V.ref po), ("fitting", V.ref fi), ("needed", V.int 0), ("leads_free", V.bl true), ("leads_bare", V.bl true)] : List (Str × V)))) nu = some (HO.dK (numK os)) := (KeepB.upd _).nd n24 nu24 (fun _ _ _ z => nomatch z)
        have fi25 : (upd H24 n (.ins C dx ([("way", V.ref p), ("options", V.ref oa), ("groups", V.ref ga), ("place_parts", V.ref pa), ("beneath", V.ref b), ("nothing", V.ref no), ("numbers", V.ref nu), ("letters", V.ref le), ("owns", V.ref ow), ("place_owns", V.ref po), ("fitting", V.ref fi), ("needed", V.int 0), ("leads_free", V.bl true), ("leads_bare", V.bl true)] : List (Str × V)))) fi = some (HO.dK (allBits os.length)) := (KeepB.upd _).nd n24 fi24 (fun _ _ _ z => nomatch z)
        have n25 : (upd H24 n (.ins C dx ([("way", V.ref p), ("options", V.ref oa), ("groups", V.ref ga), ("place_parts", V.ref pa), ("beneath", V.ref b), ("nothing", V.ref no), ("numbers", V.ref nu), ("letters", V.ref le), ("owns", V.ref ow), ("place_owns", V.ref po), ("fitting", V.ref fi), ("needed", V.int 0), ("leads_free", V.bl true), ("leads_bare", V.bl true)] : List (Str × V)))) n = some (.ins C dx ([("way", V.ref p), ("options", V.ref oa), ("groups", V.ref ga), ("place_parts", V.ref pa), ("beneath", V.ref b), ("nothing", V.ref no), ("numbers", V.ref nu), ("letters", V.ref le), ("owns", V.ref ow), ("place_owns", V.ref po), ("fitting", V.ref fi), ("needed", V.int 0), ("leads_free", V.bl true), ("leads_bare", V.bl true)] : List (Str × V))) := upd_same
        generalize upd H24 n (.ins C dx ([("way", V.ref p), ("options", V.ref oa), ("groups", V.ref ga), ("place_parts", V.ref pa), ("beneath", V.ref b), ("nothing", V.ref no), ("numbers", V.ref nu), ("letters", V.ref le), ("owns", V.ref ow), ("place_owns", V.ref po), ("fitting", V.ref fi), ("needed", V.int 0), ("leads_free", V.bl true), ("leads_bare", V.bl true)] : List (Str × V))) = H25 at k25 n25 o25 be25 nu25 fi25 ⊢
        walk_at "g"
        refine r_lockE be25 trivial fun od => ?_
        refine r_lcVals ?_
        walk_at "g"
        refine ⟨b, od, kvs, rfl, upd_same, fun Dgoes_bare hDgoes_bare => ?_⟩
        refine comp_same (seqIt_vals upd_same) hDgoes_bare (kvs.map fun _ => V.bl true) (by rw [List.length_map, List.length_map]) (by rw [List.length_map]; exact Nat.lt_of_le_of_lt h6 (by decide)) (fun i x H' N' hx s' hN' => ?_) fun HX sX lX => ?_
        · rw [List.getElem?_map] at hx
          obtain ⟨kv, ekv, rfl⟩ := Option.map_eq_some_iff.mp hx
          obtain ⟨m, dm, q1, q2, q3, q4, q5, q6, q7, q8, q9, q10, q11, q12, q13, em, hm⟩ := hk kv (List.mem_of_getElem? ekv)
          have nm' : m ≠ n := fun e => by subst e; exact nomatch n0.symm.trans hm
          have mb : m ≠ b := fun e => by subst e; exact nomatch be0.symm.trans hm
          have hm1 := k25 _ _ nm' hm
          have hm2 : (upd H25 b (.frz od (.dK kvs))) m = _ := (upd_ne mb).trans hm1
          have hm3 := s' _ _ hm2
          rw [em]
          walk_at "g"
          refine ⟨rfl, ?_⟩
          walk_at "g"
          refine ⟨m, C, dm, _, _, rfl, hm3, NC.cls, NC.goes_bare, rfl, ?_⟩
          exact hN' _ _ (by rw [List.getElem?_map, ekv]; rfl) (Same.refl _)
        refine ⟨sX _ _ upd_same, ?_⟩
        have sU := unlock_same be25 sX
        have lU : upd HX b (.dK kvs) Dgoes_bare = some (.lst (kvs.map fun _ => V.bl true)) := by
          rw [upd_ne (fun e => by subst e; exact nomatch hDgoes_bare.symm.trans upd_same)]; exact lX
        generalize upd HX b (.dK kvs) = H26 at sU lU ⊢
        have k26 := k25.trans (KeepB.of sU)
        have n26 := sU _ _ n25
        have o26 := sU _ _ o25
        have be26 := sU _ _ be25
        have nu26 := sU _ _ nu25
        have fi26 := sU _ _ fi25
        clear sU
        walk_at "g"
        refine ⟨Dgoes_bare, kvs.map fun _ => true, rfl, SqL.of (by rw [lU, List.map_map]; rfl), ?_⟩
        rw [show (kvs.map fun _ => true).any id = true from by cases kvs with | nil => exact absurd rfl ek | cons _ _ => rfl]
        walk_at "g"
        refine ⟨n, C, dx, _, rfl, n26, NC.cls, NC.leads_bare, by simp only [List.length_cons, List.length_nil]; omega, ?_⟩
        rw [show putF "leads_bare" (V.bl true) ([("way", V.ref p), ("options", V.ref oa), ("groups", V.ref ga), ("place_parts", V.ref pa), ("beneath", V.ref b), ("nothing", V.ref no), ("numbers", V.ref nu), ("letters", V.ref le), ("owns", V.ref ow), ("place_owns", V.ref po), ("fitting", V.ref fi), ("needed", V.int 0), ("leads_free", V.bl true), ("leads_bare", V.bl true)] : List (Str × V)) = ([("way", V.ref p), ("options", V.ref oa), ("groups", V.ref ga), ("place_parts", V.ref pa), ("beneath", V.ref b), ("nothing", V.ref no), ("numbers", V.ref nu), ("letters", V.ref le), ("owns", V.ref ow), ("place_owns", V.ref po), ("fitting", V.ref fi), ("needed", V.int 0), ("leads_free", V.bl true), ("leads_bare", V.bl true)] : List (Str × V)) from rfl]
        have k27 : KeepB n H0 (upd H26 n (.ins C dx ([("way", V.ref p), ("options", V.ref oa), ("groups", V.ref ga), ("place_parts", V.ref pa), ("beneath", V.ref b), ("nothing", V.ref no), ("numbers", V.ref nu), ("letters", V.ref le), ("owns", V.ref ow), ("place_owns", V.ref po), ("fitting", V.ref fi), ("needed", V.int 0), ("leads_free", V.bl true), ("leads_bare", V.bl true)] : List (Str × V)))) := k26.trans (KeepB.upd _)
        have o27 : (upd H26 n (.ins C dx ([("way", V.ref p), ("options", V.ref oa), ("groups", V.ref ga), ("place_parts", V.ref pa), ("beneath", V.ref b), ("nothing", V.ref no), ("numbers", V.ref nu), ("letters", V.ref le), ("owns", V.ref ow), ("place_owns", V.ref po), ("fitting", V.ref fi), ("needed", V.int 0), ("leads_free", V.bl true), ("leads_bare", V.bl true)] : List (Str × V)))) oa = some (HO.tup xs) := (KeepB.upd _).nd n26 o26 (fun _ _ _ z => nomatch z)
        have be27 : (upd H26 n (.ins C dx ([("way", V.ref p), ("options", V.ref oa), ("groups", V.ref ga), ("place_parts", V.ref pa), ("beneath", V.ref b), ("nothing", V.ref no), ("numbers", V.ref nu), ("letters", V.ref le), ("owns", V.ref ow), ("place_owns", V.ref po), ("fitting", V.ref fi), ("needed", V.int 0), ("leads_free", V.bl true), ("leads_bare", V.bl true)] : List (Str × V)))) b = some (HO.dK kvs) := (KeepB.upd _).nd n26 be26 (fun _ _ _ z => nomatch z)
        have nu27 : (upd H26 n (.ins C dx ([("way", V.ref p), ("options", V.ref oa), ("groups", V.ref ga), ("place_parts", V.ref pa), ("beneath", V.ref b), ("nothing", V.ref no), ("numbers", V.ref nu), ("letters", V.ref le), ("owns", V.ref ow), ("place_owns", V.ref po), ("fitting", V.ref fi), ("needed", V.int 0), ("leads_free", V.bl true), ("leads_bare", V.bl true)] : List (Str × V)))) nu = some (HO.dK (numK os)) := (KeepB.upd _).nd n26 nu26 (fun _ _ _ z => nomatch z)
        have fi27 : (upd H26 n (.ins C dx ([("way", V.ref p), ("options", V.ref oa), ("groups", V.ref ga), ("place_parts", V.ref pa), ("beneath", V.ref b), ("nothing", V.ref no), ("numbers", V.ref nu), ("letters", V.ref le), ("owns", V.ref ow), ("place_owns", V.ref po), ("fitting", V.ref fi), ("needed", V.int 0), ("leads_free", V.bl true), ("leads_bare", V.bl true)] : List (Str × V)))) fi = some (HO.dK (allBits os.length)) := (KeepB.upd _).nd n26 fi26 (fun _ _ _ z => nomatch z)
        have n27 : (upd H26 n (.ins C dx ([("way", V.ref p), ("options", V.ref oa), ("groups", V.ref ga), ("place_parts", V.ref pa), ("beneath", V.ref b), ("nothing", V.ref no), ("numbers", V.ref nu), ("letters", V.ref le), ("owns", V.ref ow), ("place_owns", V.ref po), ("fitting", V.ref fi), ("needed", V.int 0), ("leads_free", V.bl true), ("leads_bare", V.bl true)] : List (Str × V)))) n = some (.ins C dx ([("way", V.ref p), ("options", V.ref oa), ("groups", V.ref ga), ("place_parts", V.ref pa), ("beneath", V.ref b), ("nothing", V.ref no), ("numbers", V.ref nu), ("letters", V.ref le), ("owns", V.ref ow), ("place_owns", V.ref po), ("fitting", V.ref fi), ("needed", V.int 0), ("leads_free", V.bl true), ("leads_bare", V.bl true)] : List (Str × V))) := upd_same
        generalize upd H26 n (.ins C dx ([("way", V.ref p), ("options", V.ref oa), ("groups", V.ref ga), ("place_parts", V.ref pa), ("beneath", V.ref b), ("nothing", V.ref no), ("numbers", V.ref nu), ("letters", V.ref le), ("owns", V.ref ow), ("place_owns", V.ref po), ("fitting", V.ref fi), ("needed", V.int 0), ("leads_free", V.bl true), ("leads_bare", V.bl true)] : List (Str × V))) = H27 at k27 n27 o27 be27 nu27 fi27 ⊢
        walk_at "g"
        exact hN _ _ ⟨rfl, k27, n27, nu27, fi27⟩
    obtain ⟨rfl, k24, n24, nu24, fi24⟩ := w
    walk_at "g"
    refine ⟨n, C, dx, _, _, rfl, n24, NC.cls, NC.leads_free, rfl, ?_⟩
    walk_at "g"
    refine ⟨n, C, dx, _, _, rfl, n24, NC.cls, NC.fitting, rfl, ?_⟩
    walk_at "g"
    refine ⟨fi, _, rfl, fi24, ?_⟩
    walk_at "g"
    rw [decide_eq_true (show (0 : Int) < ((allBits os.length).length : Nat) by have := allBits_pos os.length; omega)]
    refine ⟨n, C, dx, _, rfl, n24, NC.cls, NC.goes, by simp only [List.length_cons, List.length_nil]; omega, ?_⟩
    rw [show putF "goes" (V.bl true) ([("way", V.ref p), ("options", V.ref oa), ("groups", V.ref ga), ("place_parts", V.ref pa), ("beneath", V.ref b), ("nothing", V.ref no), ("numbers", V.ref nu), ("letters", V.ref le), ("owns", V.ref ow), ("place_owns", V.ref po), ("fitting", V.ref fi), ("needed", V.int 0), ("leads_free", V.bl true), ("leads_bare", V.bl true)] : List (Str × V)) = ([("way", V.ref p), ("options", V.ref oa), ("groups", V.ref ga), ("place_parts", V.ref pa), ("beneath", V.ref b), ("nothing", V.ref no), ("numbers", V.ref nu), ("letters", V.ref le), ("owns", V.ref ow), ("place_owns", V.ref po), ("fitting", V.ref fi), ("needed", V.int 0), ("leads_free", V.bl true), ("leads_bare", V.bl true), ("goes", V.bl true)] : List (Str × V)) from rfl]
    have k25 : KeepB n H0 (upd H24 n (.ins C dx ([("way", V.ref p), ("options", V.ref oa), ("groups", V.ref ga), ("place_parts", V.ref pa), ("beneath", V.ref b), ("nothing", V.ref no), ("numbers", V.ref nu), ("letters", V.ref le), ("owns", V.ref ow), ("place_owns", V.ref po), ("fitting", V.ref fi), ("needed", V.int 0), ("leads_free", V.bl true), ("leads_bare", V.bl true), ("goes", V.bl true)] : List (Str × V)))) := k24.trans (KeepB.upd _)
    have nu25 : (upd H24 n (.ins C dx ([("way", V.ref p), ("options", V.ref oa), ("groups", V.ref ga), ("place_parts", V.ref pa), ("beneath", V.ref b), ("nothing", V.ref no), ("numbers", V.ref nu), ("letters", V.ref le), ("owns", V.ref ow), ("place_owns", V.ref po), ("fitting", V.ref fi), ("needed", V.int 0), ("leads_free", V.bl true), ("leads_bare", V.bl true), ("goes", V.bl true)] : List (Str × V)))) nu = some (HO.dK (numK os)) := (KeepB.upd _).nd n24 nu24 (fun _ _ _ z => nomatch z)
    have fi25 : (upd H24 n (.ins C dx ([("way", V.ref p), ("options", V.ref oa), ("groups", V.ref ga), ("place_parts", V.ref pa), ("beneath", V.ref b), ("nothing", V.ref no), ("numbers", V.ref nu), ("letters", V.ref le), ("owns", V.ref ow), ("place_owns", V.ref po), ("fitting", V.ref fi), ("needed", V.int 0), ("leads_free", V.bl true), ("leads_bare", V.bl true), ("goes", V.bl true)] : List (Str × V)))) fi = some (HO.dK (allBits os.length)) := (KeepB.upd _).nd n24 fi24 (fun _ _ _ z => nomatch z)
    have n25 : (upd H24 n (.ins C dx ([("way", V.ref p), ("options", V.ref oa), ("groups", V.ref ga), ("place_parts", V.ref pa), ("beneath", V.ref b), ("nothing", V.ref no), ("numbers", V.ref nu), ("letters", V.ref le), ("owns", V.ref ow), ("place_owns", V.ref po), ("fitting", V.ref fi), ("needed", V.int 0), ("leads_free", V.bl true), ("leads_bare", V.bl true), ("goes", V.bl true)] : List (Str × V)))) n = some (.ins C dx ([("way", V.ref p), ("options", V.ref oa), ("groups", V.ref ga), ("place_parts", V.ref pa), ("beneath", V.ref b), ("nothing", V.ref no), ("numbers", V.ref nu), ("letters", V.ref le), ("owns", V.ref ow), ("place_owns", V.ref po), ("fitting", V.ref fi), ("needed", V.int 0), ("leads_free", V.bl true), ("leads_bare", V.bl true), ("goes", V.bl true)] : List (Str × V))) := upd_same
    generalize upd H24 n (.ins C dx ([("way", V.ref p), ("options", V.ref oa), ("groups", V.ref ga), ("place_parts", V.ref pa), ("beneath", V.ref b), ("nothing", V.ref no), ("numbers", V.ref nu), ("letters", V.ref le), ("owns", V.ref ow), ("place_owns", V.ref po), ("fitting", V.ref fi), ("needed", V.int 0), ("leads_free", V.bl true), ("leads_bare", V.bl true), ("goes", V.bl true)] : List (Str × V))) = H25 at k25 n25 nu25 fi25 ⊢
    walk_at "g"
    refine ⟨n, C, dx, _, _, rfl, n25, NC.cls, NC.leads_bare, rfl, ?_⟩
    walk_at "g"
    refine r_din ?_
    walk_at "g"
    refine ⟨n, C, dx, _, _, rfl, n25, NC.cls, NC.fitting, rfl, ?_⟩
    walk_at "g"
    refine ⟨fi, _, rfl, DGet.k (k := .inl 0) fi25, ?_⟩
    rw [allBits_zero]
    walk_at "g"
    refine ⟨n, C, dx, _, rfl, n25, NC.cls, NC.goes_bare, by simp only [List.length_cons, List.length_nil]; omega, ?_⟩
    rw [show putF "goes_bare" (V.bl true) ([("way", V.ref p), ("options", V.ref oa), ("groups", V.ref ga), ("place_parts", V.ref pa), ("beneath", V.ref b), ("nothing", V.ref no), ("numbers", V.ref nu), ("letters", V.ref le), ("owns", V.ref ow), ("place_owns", V.ref po), ("fitting", V.ref fi), ("needed", V.int 0), ("leads_free", V.bl true), ("leads_bare", V.bl true), ("goes", V.bl true)] : List (Str × V)) = ([("way", V.ref p), ("options", V.ref oa), ("groups", V.ref ga), ("place_parts", V.ref pa), ("beneath", V.ref b), ("nothing", V.ref no), ("numbers", V.ref nu), ("letters", V.ref le), ("owns", V.ref ow), ("place_owns", V.ref po), ("fitting", V.ref fi), ("needed", V.int 0), ("leads_free", V.bl true), ("leads_bare", V.bl true), ("goes", V.bl true), ("goes_bare", V.bl true)] : List (Str × V)) from rfl]
    have k26 : KeepB n H0 (upd H25 n (.ins C dx ([("way", V.ref p), ("options", V.ref oa), ("groups", V.ref ga), ("place_parts", V.ref pa), ("beneath", V.ref b), ("nothing", V.ref no), ("numbers", V.ref nu), ("letters", V.ref le), ("owns", V.ref ow), ("place_owns", V.ref po), ("fitting", V.ref fi), ("needed", V.int 0), ("leads_free", V.bl true), ("leads_bare", V.bl true), ("goes", V.bl true), ("goes_bare", V.bl true)] : List (Str × V)))) := k25.trans (KeepB.upd _)
    have nu26 : (upd H25 n (.ins C dx ([("way", V.ref p), ("options", V.ref oa), ("groups", V.ref ga), ("place_parts", V.ref pa), ("beneath", V.ref b), ("nothing", V.ref no), ("numbers", V.ref nu), ("letters", V.ref le), ("owns", V.ref ow), ("place_owns", V.ref po), ("fitting", V.ref fi), ("needed", V.int 0), ("leads_free", V.bl true), ("leads_bare", V.bl true), ("goes", V.bl true), ("goes_bare", V.bl true)] : List (Str × V)))) nu = some (HO.dK (numK os)) := (KeepB.upd _).nd n25 nu25 (fun _ _ _ z => nomatch z)
    have fi26 : (upd H25 n (.ins C dx ([("way", V.ref p), ("options", V.ref oa), ("groups", V.ref ga), ("place_parts", V.ref pa), ("beneath", V.ref b), ("nothing", V.ref no), ("numbers", V.ref nu), ("letters", V.ref le), ("owns", V.ref ow), ("place_owns", V.ref po), ("fitting", V.ref fi), ("needed", V.int 0), ("leads_free", V.bl true), ("leads_bare", V.bl true), ("goes", V.bl true), ("goes_bare", V.bl true)] : List (Str × V)))) fi = some (HO.dK (allBits os.length)) := (KeepB.upd _).nd n25 fi25 (fun _ _ _ z => nomatch z)
    have n26 : (upd H25 n (.ins C dx ([("way", V.ref p), ("options", V.ref oa), ("groups", V.ref ga), ("place_parts", V.ref pa), ("beneath", V.ref b), ("nothing", V.ref no), ("numbers", V.ref nu), ("letters", V.ref le), ("owns", V.ref ow), ("place_owns", V.ref po), ("fitting", V.ref fi), ("needed", V.int 0), ("leads_free", V.bl true), ("leads_bare", V.bl true), ("goes", V.bl true), ("goes_bare", V.bl true)] : List (Str × V)))) n = some (.ins C dx ([("way", V.ref p), ("options", V.ref oa), ("groups", V.ref ga), ("place_parts", V.ref pa), ("beneath", V.ref b), ("nothing", V.ref no), ("numbers", V.ref nu), ("letters", V.ref le), ("owns", V.ref ow), ("place_owns", V.ref po), ("fitting", V.ref fi), ("needed", V.int 0), ("leads_free", V.bl true), ("leads_bare", V.bl true), ("goes", V.bl true), ("goes_bare", V.bl true)] : List (Str × V))) := upd_same
    generalize upd H25 n (.ins C dx ([("way", V.ref p), ("options", V.ref oa), ("groups", V.ref ga), ("place_parts", V.ref pa), ("beneath", V.ref b), ("nothing", V.ref no), ("numbers", V.ref nu), ("letters", V.ref le), ("owns", V.ref ow), ("place_owns", V.ref po), ("fitting", V.ref fi), ("needed", V.int 0), ("leads_free", V.bl true), ("leads_bare", V.bl true), ("goes", V.bl true), ("goes_bare", V.bl true)] : List (Str × V))) = H26 at k26 n26 nu26 fi26 ⊢
    walk_at "g"
    intro kf hkf
    have s27 := (Same.refl H26).at hkf (HO.dK [])
    have k27 := k26.trans (KeepB.of s27)
    have n27 := s27 _ _ n26
    have nu27 := s27 _ _ nu26
    have fi27 := s27 _ _ fi26
    generalize upd H26 kf (HO.dK []) = H27 at s27 k27 n27 nu27 fi27 ⊢
    walk_at "g"
    refine ⟨n, C, dx, _, rfl, n27, NC.cls, NC.known_fits, by simp only [List.length_cons, List.length_nil]; omega, ?_⟩
    rw [show putF "known_fits" (V.ref kf) ([("way", V.ref p), ("options", V.ref oa), ("groups", V.ref ga), ("place_parts", V.ref pa), ("beneath", V.ref b), ("nothing", V.ref no), ("numbers", V.ref nu), ("letters", V.ref le), ("owns", V.ref ow), ("place_owns", V.ref po), ("fitting", V.ref fi), ("needed", V.int 0), ("leads_free", V.bl true), ("leads_bare", V.bl true), ("goes", V.bl true), ("goes_bare", V.bl true)] : List (Str × V)) = ([("way", V.ref p), ("options", V.ref oa), ("groups", V.ref ga), ("place_parts", V.ref pa), ("beneath", V.ref b), ("nothing", V.ref no), ("numbers", V.ref nu), ("letters", V.ref le), ("owns", V.ref ow), ("place_owns", V.ref po), ("fitting", V.ref fi), ("needed", V.int 0), ("leads_free", V.bl true), ("leads_bare", V.bl true), ("goes", V.bl true), ("goes_bare", V.bl true), ("known_fits", V.ref kf)] : List (Str × V)) from rfl]
    have k28 : KeepB n H0 (upd H27 n (.ins C dx ([("way", V.ref p), ("options", V.ref oa), ("groups", V.ref ga), ("place_parts", V.ref pa), ("beneath", V.ref b), ("nothing", V.ref no), ("numbers", V.ref nu), ("letters", V.ref le), ("owns", V.ref ow), ("place_owns", V.ref po), ("fitting", V.ref fi), ("needed", V.int 0), ("leads_free", V.bl true), ("leads_bare", V.bl true), ("goes", V.bl true), ("goes_bare", V.bl true), ("known_fits", V.ref kf)] : List (Str × V)))) := k27.trans (KeepB.upd _)
    have nu28 : (upd H27 n (.ins C dx ([("way", V.ref p), ("options", V.ref oa), ("groups", V.ref ga), ("place_parts", V.ref pa), ("beneath", V.ref b), ("nothing", V.ref no), ("numbers", V.ref nu), ("letters", V.ref le), ("owns", V.ref ow), ("place_owns", V.ref po), ("fitting", V.ref fi), ("needed", V.int 0), ("leads_free", V.bl true), ("leads_bare", V.bl true), ("goes", V.bl true), ("goes_bare", V.bl true), ("known_fits", V.ref kf)] : List (Str × V)))) nu = some (HO.dK (numK os)) := (KeepB.upd _).nd n27 nu27 (fun _ _ _ z => nomatch z)
    have fi28 : (upd H27 n (.ins C dx ([("way", V.ref p), ("options", V.ref oa), ("groups", V.ref ga), ("place_parts", V.ref pa), ("beneath", V.ref b), ("nothing", V.ref no), ("numbers", V.ref nu), ("letters", V.ref le), ("owns", V.ref ow), ("place_owns", V.ref po), ("fitting", V.ref fi), ("needed", V.int 0), ("leads_free", V.bl true), ("leads_bare", V.bl true), ("goes", V.bl true), ("goes_bare", V.bl true), ("known_fits", V.ref kf)] : List (Str × V)))) fi = some (HO.dK (allBits os.length)) := (KeepB.upd _).nd n27 fi27 (fun _ _ _ z => nomatch z)
    have n28 : (upd H27 n (.ins C dx ([("way", V.ref p), ("options", V.ref oa), ("groups", V.ref ga), ("place_parts", V.ref pa), ("beneath", V.ref b), ("nothing", V.ref no), ("numbers", V.ref nu), ("letters", V.ref le), ("owns", V.ref ow), ("place_owns", V.ref po), ("fitting", V.ref fi), ("needed", V.int 0), ("leads_free", V.bl true), ("leads_bare", V.bl true), ("goes", V.bl true), ("goes_bare", V.bl true), ("known_fits", V.ref kf)] : List (Str × V)))) n = some (.ins C dx ([("way", V.ref p), ("options", V.ref oa), ("groups", V.ref ga), ("place_parts", V.ref pa), ("beneath", V.ref b), ("nothing", V.ref no), ("numbers", V.ref nu), ("letters", V.ref le), ("owns", V.ref ow), ("place_owns", V.ref po), ("fitting", V.ref fi), ("needed", V.int 0), ("leads_free", V.bl true), ("leads_bare", V.bl true), ("goes", V.bl true), ("goes_bare", V.bl true), ("known_fits", V.ref kf)] : List (Str × V))) := upd_same
    generalize upd H27 n (.ins C dx ([("way", V.ref p), ("options", V.ref oa), ("groups", V.ref ga), ("place_parts", V.ref pa), ("beneath", V.ref b), ("nothing", V.ref no), ("numbers", V.ref nu), ("letters", V.ref le), ("owns", V.ref ow), ("place_owns", V.ref po), ("fitting", V.ref fi), ("needed", V.int 0), ("leads_free", V.bl true), ("leads_bare", V.bl true), ("goes", V.bl true), ("goes_bare", V.bl true), ("known_fits", V.ref kf)] : List (Str × V))) = H28 at k28 n28 nu28 fi28 ⊢
    walk_at "g"
    refine ⟨n, C, dx, _, rfl, n28, NC.cls, NC.known_sets, by simp only [List.length_cons, List.length_nil]; omega, ?_⟩
    rw [show putF "known_sets" (V.non) ([("way", V.ref p), ("options", V.ref oa), ("groups", V.ref ga), ("place_parts", V.ref pa), ("beneath", V.ref b), ("nothing", V.ref no), ("numbers", V.ref nu), ("letters", V.ref le), ("owns", V.ref ow), ("place_owns", V.ref po), ("fitting", V.ref fi), ("needed", V.int 0), ("leads_free", V.bl true), ("leads_bare", V.bl true), ("goes", V.bl true), ("goes_bare", V.bl true), ("known_fits", V.ref kf)] : List (Str × V)) = ([("way", V.ref p), ("options", V.ref oa), ("groups", V.ref ga), ("place_parts", V.ref pa), ("beneath", V.ref b), ("nothing", V.ref no), ("numbers", V.ref nu), ("letters", V.ref le), ("owns", V.ref ow), ("place_owns", V.ref po), ("fitting", V.ref fi), ("needed", V.int 0), ("leads_free", V.bl true), ("leads_bare", V.bl true), ("goes", V.bl true), ("goes_bare", V.bl true), ("known_fits", V.ref kf), ("known_sets", V.non)] : List (Str × V)) from rfl]
    have k29 : KeepB n H0 (upd H28 n (.ins C dx ([("way", V.ref p), ("options", V.ref oa), ("groups", V.ref ga), ("place_parts", V.ref pa), ("beneath", V.ref b), ("nothing", V.ref no), ("numbers", V.ref nu), ("letters", V.ref le), ("owns", V.ref ow), ("place_owns", V.ref po), ("fitting", V.ref fi), ("needed", V.int 0), ("leads_free", V.bl true), ("leads_bare", V.bl true), ("goes", V.bl true), ("goes_bare", V.bl true), ("known_fits", V.ref kf), ("known_sets", V.non)] : List (Str × V)))) := k28.trans (KeepB.upd _)
    have nu29 : (upd H28 n (.ins C dx ([("way", V.ref p), ("options", V.ref oa), ("groups", V.ref ga), ("place_parts", V.ref pa), ("beneath", V.ref b), ("nothing", V.ref no), ("numbers", V.ref nu), ("letters", V.ref le), ("owns", V.ref ow), ("place_owns", V.ref po), ("fitting", V.ref fi), ("needed", V.int 0), ("leads_free", V.bl true), ("leads_bare", V.bl true), ("goes", V.bl true), ("goes_bare", V.bl true), ("known_fits", V.ref kf), ("known_sets", V.non)] : List (Str × V)))) nu = some (HO.dK (numK os)) := (KeepB.upd _).nd n28 nu28 (fun _ _ _ z => nomatch z)
    have fi29 : (upd H28 n (.ins C dx ([("way", V.ref p), ("options", V.ref oa), ("groups", V.ref ga), ("place_parts", V.ref pa), ("beneath", V.ref b), ("nothing", V.ref no), ("numbers", V.ref nu), ("letters", V.ref le), ("owns", V.ref ow), ("place_owns", V.ref po), ("fitting", V.ref fi), ("needed", V.int 0), ("leads_free", V.bl true), ("leads_bare", V.bl true), ("goes", V.bl true), ("goes_bare", V.bl true), ("known_fits", V.ref kf), ("known_sets", V.non)] : List (Str × V)))) fi = some (HO.dK (allBits os.length)) := (KeepB.upd _).nd n28 fi28 (fun _ _ _ z => nomatch z)
    have n29 : (upd H28 n (.ins C dx ([("way", V.ref p), ("options", V.ref oa), ("groups", V.ref ga), ("place_parts", V.ref pa), ("beneath", V.ref b), ("nothing", V.ref no), ("numbers", V.ref nu), ("letters", V.ref le), ("owns", V.ref ow), ("place_owns", V.ref po), ("fitting", V.ref fi), ("needed", V.int 0), ("leads_free", V.bl true), ("leads_bare", V.bl true), ("goes", V.bl true), ("goes_bare", V.bl true), ("known_fits", V.ref kf), ("known_sets", V.non)] : List (Str × V)))) n = some (.ins C dx ([("way", V.ref p), ("options", V.ref oa), ("groups", V.ref ga), ("place_parts", V.ref pa), ("beneath", V.ref b), ("nothing", V.ref no), ("numbers", V.ref nu), ("letters", V.ref le), ("owns", V.ref ow), ("place_owns", V.ref po), ("fitting", V.ref fi), ("needed", V.int 0), ("leads_free", V.bl true), ("leads_bare", V.bl true), ("goes", V.bl true), ("goes_bare", V.bl true), ("known_fits", V.ref kf), ("known_sets", V.non)] : List (Str × V))) := upd_same
    generalize upd H28 n (.ins C dx ([("way", V.ref p), ("options", V.ref oa), ("groups", V.ref ga), ("place_parts", V.ref pa), ("beneath", V.ref b), ("nothing", V.ref no), ("numbers", V.ref nu), ("letters", V.ref le), ("owns", V.ref ow), ("place_owns", V.ref po), ("fitting", V.ref fi), ("needed", V.int 0), ("leads_free", V.bl true), ("leads_bare", V.bl true), ("goes", V.bl true), ("goes_bare", V.bl true), ("known_fits", V.ref kf), ("known_sets", V.non)] : List (Str × V))) = H29 at k29 n29 nu29 fi29 ⊢
    walk_at "g"
    refine ⟨n, C, dx, _, rfl, n29, NC.cls, NC.known_texts, by simp only [List.length_cons, List.length_nil]; omega, ?_⟩
    rw [show putF "known_texts" (V.non) ([("way", V.ref p), ("options", V.ref oa), ("groups", V.ref ga), ("place_parts", V.ref pa), ("beneath", V.ref b), ("nothing", V.ref no), ("numbers", V.ref nu), ("letters", V.ref le), ("owns", V.ref ow), ("place_owns", V.ref po), ("fitting", V.ref fi), ("needed", V.int 0), ("leads_free", V.bl true), ("leads_bare", V.bl true), ("goes", V.bl true), ("goes_bare", V.bl true), ("known_fits", V.ref kf), ("known_sets", V.non)] : List (Str × V)) = ([("way", V.ref p), ("options", V.ref oa), ("groups", V.ref ga), ("place_parts", V.ref pa), ("beneath", V.ref b), ("nothing", V.ref no), ("numbers", V.ref nu), ("letters", V.ref le), ("owns", V.ref ow), ("place_owns", V.ref po), ("fitting", V.ref fi), ("needed", V.int 0), ("leads_free", V.bl true), ("leads_bare", V.bl true), ("goes", V.bl true), ("goes_bare", V.bl true), ("known_fits", V.ref kf), ("known_sets", V.non), ("known_texts", V.non)] : List (Str × V)) from rfl]
    have k30 : KeepB n H0 (upd H29 n (.ins C dx ([("way", V.ref p), ("options", V.ref oa), ("groups", V.ref ga), ("place_parts", V.ref pa), ("beneath", V.ref b), ("nothing", V.ref no), ("numbers", V.ref nu), ("letters", V.ref le), ("owns", V.ref ow), ("place_owns", V.ref po), ("fitting", V.ref fi), ("needed", V.int 0), ("leads_free", V.bl true), ("leads_bare", V.bl true), ("goes", V.bl true), ("goes_bare", V.bl true), ("known_fits", V.ref kf), ("known_sets", V.non), ("known_texts", V.non)] : List (Str × V)))) := k29.trans (KeepB.upd _)
    have nu30 : (upd H29 n (.ins C dx ([("way", V.ref p), ("options", V.ref oa), ("groups", V.ref ga), ("place_parts", V.ref pa), ("beneath", V.ref b), ("nothing", V.ref no), ("numbers", V.ref nu), ("letters", V.ref le), ("owns", V.ref ow), ("place_owns", V.ref po), ("fitting", V.ref fi), ("needed", V.int 0), ("leads_free", V.bl true), ("leads_bare", V.bl true), ("goes", V.bl true), ("goes_bare", V.bl true), ("known_fits", V.ref kf), ("known_sets", V.non), ("known_texts", V.non)] : List (Str × V)))) nu = some (HO.dK (numK os)) := (KeepB.upd _).nd n29 nu29 (fun _ _ _ z => nomatch z)
    have fi30 : (upd H29 n (.ins C dx ([("way", V.ref p), ("options", V.ref oa), ("groups", V.ref ga), ("place_parts", V.ref pa), ("beneath", V.ref b), ("nothing", V.ref no), ("numbers", V.ref nu), ("letters", V.ref le), ("owns", V.ref ow), ("place_owns", V.ref po), ("fitting", V.ref fi), ("needed", V.int 0), ("leads_free", V.bl true), ("leads_bare", V.bl true), ("goes", V.bl true), ("goes_bare", V.bl true), ("known_fits", V.ref kf), ("known_sets", V.non), ("known_texts", V.non)] : List (Str × V)))) fi = some (HO.dK (allBits os.length)) := (KeepB.upd _).nd n29 fi29 (fun _ _ _ z => nomatch z)
    have n30 : (upd H29 n (.ins C dx ([("way", V.ref p), ("options", V.ref oa), ("groups", V.ref ga), ("place_parts", V.ref pa), ("beneath", V.ref b), ("nothing", V.ref no), ("numbers", V.ref nu), ("letters", V.ref le), ("owns", V.ref ow), ("place_owns", V.ref po), ("fitting", V.ref fi), ("needed", V.int 0), ("leads_free", V.bl true), ("leads_bare", V.bl true), ("goes", V.bl true), ("goes_bare", V.bl true), ("known_fits", V.ref kf), ("known_sets", V.non), ("known_texts", V.non)] : List (Str × V)))) n = some (.ins C dx ([("way", V.ref p), ("options", V.ref oa), ("groups", V.ref ga), ("place_parts", V.ref pa), ("beneath", V.ref b), ("nothing", V.ref no), ("numbers", V.ref nu), ("letters", V.ref le), ("owns", V.ref ow), ("place_owns", V.ref po), ("fitting", V.ref fi), ("needed", V.int 0), ("leads_free", V.bl true), ("leads_bare", V.bl true), ("goes", V.bl true), ("goes_bare", V.bl true), ("known_fits", V.ref kf), ("known_sets", V.non), ("known_texts", V.non)] : List (Str × V))) := upd_same
    generalize upd H29 n (.ins C dx ([("way", V.ref p), ("options", V.ref oa), ("groups", V.ref ga), ("place_parts", V.ref pa), ("beneath", V.ref b), ("nothing", V.ref no), ("numbers", V.ref nu), ("letters", V.ref le), ("owns", V.ref ow), ("place_owns", V.ref po), ("fitting", V.ref fi), ("needed", V.int 0), ("leads_free", V.bl true), ("leads_bare", V.bl true), ("goes", V.bl true), ("goes_bare", V.bl true), ("known_fits", V.ref kf), ("known_sets", V.non), ("known_texts", V.non)] : List (Str × V))) = H30 at k30 n30 nu30 fi30 ⊢
    walk_at "g"
    refine ⟨n, C, dx, _, rfl, n30, NC.cls, NC.known_shortest, by simp only [List.length_cons, List.length_nil]; omega, ?_⟩
    rw [show putF "known_shortest" (V.non) ([("way", V.ref p), ("options", V.ref oa), ("groups", V.ref ga), ("place_parts", V.ref pa), ("beneath", V.ref b), ("nothing", V.ref no), ("numbers", V.ref nu), ("letters", V.ref le), ("owns", V.ref ow), ("place_owns", V.ref po), ("fitting", V.ref fi), ("needed", V.int 0), ("leads_free", V.bl true), ("leads_bare", V.bl true), ("goes", V.bl true), ("goes_bare", V.bl true), ("known_fits", V.ref kf), ("known_sets", V.non), ("known_texts", V.non)] : List (Str × V)) = ([("way", V.ref p), ("options", V.ref oa), ("groups", V.ref ga), ("place_parts", V.ref pa), ("beneath", V.ref b), ("nothing", V.ref no), ("numbers", V.ref nu), ("letters", V.ref le), ("owns", V.ref ow), ("place_owns", V.ref po), ("fitting", V.ref fi), ("needed", V.int 0), ("leads_free", V.bl true), ("leads_bare", V.bl true), ("goes", V.bl true), ("goes_bare", V.bl true), ("known_fits", V.ref kf), ("known_sets", V.non), ("known_texts", V.non), ("known_shortest", V.non)] : List (Str × V)) from rfl]
    have k31 : KeepB n H0 (upd H30 n (.ins C dx ([("way", V.ref p), ("options", V.ref oa), ("groups", V.ref ga), ("place_parts", V.ref pa), ("beneath", V.ref b), ("nothing", V.ref no), ("numbers", V.ref nu), ("letters", V.ref le), ("owns", V.ref ow), ("place_owns", V.ref po), ("fitting", V.ref fi), ("needed", V.int 0), ("leads_free", V.bl true), ("leads_bare", V.bl true), ("goes", V.bl true), ("goes_bare", V.bl true), ("known_fits", V.ref kf), ("known_sets", V.non), ("known_texts", V.non), ("known_shortest", V.non)] : List (Str × V)))) := k30.trans (KeepB.upd _)
    have nu31 : (upd H30 n (.ins C dx ([("way", V.ref p), ("options", V.ref oa), ("groups", V.ref ga), ("place_parts", V.ref pa), ("beneath", V.ref b), ("nothing", V.ref no), ("numbers", V.ref nu), ("letters", V.ref le), ("owns", V.ref ow), ("place_owns", V.ref po), ("fitting", V.ref fi), ("needed", V.int 0), ("leads_free", V.bl true), ("leads_bare", V.bl true), ("goes", V.bl true), ("goes_bare", V.bl true), ("known_fits", V.ref kf), ("known_sets", V.non), ("known_texts", V.non), ("known_shortest", V.non)] : List (Str × V)))) nu = some (HO.dK (numK os)) := (KeepB.upd _).nd n30 nu30 (fun _ _ _ z => nomatch z)
    have fi31 : (upd H30 n (.ins C dx ([("way", V.ref p), ("options", V.ref oa), ("groups", V.ref ga), ("place_parts", V.ref pa), ("beneath", V.ref b), ("nothing", V.ref no), ("numbers", V.ref nu), ("letters", V.ref le), ("owns", V.ref ow), ("place_owns", V.ref po), ("fitting", V.ref fi), ("needed", V.int 0), ("leads_free", V.bl true), ("leads_bare", V.bl true), ("goes", V.bl true), ("goes_bare", V.bl true), ("known_fits", V.ref kf), ("known_sets", V.non), ("known_texts", V.non), ("known_shortest", V.non)] : List (Str × V)))) fi = some (HO.dK (allBits os.length)) := (KeepB.upd _).nd n30 fi30 (fun _ _ _ z => nomatch z)
    have n31 : (upd H30 n (.ins C dx ([("way", V.ref p), ("options", V.ref oa), ("groups", V.ref ga), ("place_parts", V.ref pa), ("beneath", V.ref b), ("nothing", V.ref no), ("numbers", V.ref nu), ("letters", V.ref le), ("owns", V.ref ow), ("place_owns", V.ref po), ("fitting", V.ref fi), ("needed", V.int 0), ("leads_free", V.bl true), ("leads_bare", V.bl true), ("goes", V.bl true), ("goes_bare", V.bl true), ("known_fits", V.ref kf), ("known_sets", V.non), ("known_texts", V.non), ("known_shortest", V.non)] : List (Str × V)))) n = some (.ins C dx ([("way", V.ref p), ("options", V.ref oa), ("groups", V.ref ga), ("place_parts", V.ref pa), ("beneath", V.ref b), ("nothing", V.ref no), ("numbers", V.ref nu), ("letters", V.ref le), ("owns", V.ref ow), ("place_owns", V.ref po), ("fitting", V.ref fi), ("needed", V.int 0), ("leads_free", V.bl true), ("leads_bare", V.bl true), ("goes", V.bl true), ("goes_bare", V.bl true), ("known_fits", V.ref kf), ("known_sets", V.non), ("known_texts", V.non), ("known_shortest", V.non)] : List (Str × V))) := upd_same
    generalize upd H30 n (.ins C dx ([("way", V.ref p), ("options", V.ref oa), ("groups", V.ref ga), ("place_parts", V.ref pa), ("beneath", V.ref b), ("nothing", V.ref no), ("numbers", V.ref nu), ("letters", V.ref le), ("owns", V.ref ow), ("place_owns", V.ref po), ("fitting", V.ref fi), ("needed", V.int 0), ("leads_free", V.bl true), ("leads_bare", V.bl true), ("goes", V.bl true), ("goes_bare", V.bl true), ("known_fits", V.ref kf), ("known_sets", V.non), ("known_texts", V.non), ("known_shortest", V.non)] : List (Str × V))) = H31 at k31 n31 nu31 fi31 ⊢
    walk_at "g"
    refine ⟨n, C, dx, _, rfl, n31, NC.cls, NC.known_rows, by simp only [List.length_cons, List.length_nil]; omega, ?_⟩
    rw [show putF "known_rows" (V.non) ([("way", V.ref p), ("options", V.ref oa), ("groups", V.ref ga), ("place_parts", V.ref pa), ("beneath", V.ref b), ("nothing", V.ref no), ("numbers", V.ref nu), ("letters", V.ref le), ("owns", V.ref ow), ("place_owns", V.ref po), ("fitting", V.ref fi), ("needed", V.int 0), ("leads_free", V.bl true), ("leads_bare", V.bl true), ("goes", V.bl true), ("goes_bare", V.bl true), ("known_fits", V.ref kf), ("known_sets", V.non), ("known_texts", V.non), ("known_shortest", V.non)] : List (Str × V)) = ([("way", V.ref p), ("options", V.ref oa), ("groups", V.ref ga), ("place_parts", V.ref pa), ("beneath", V.ref b), ("nothing", V.ref no), ("numbers", V.ref nu), ("letters", V.ref le), ("owns", V.ref ow), ("place_owns", V.ref po), ("fitting", V.ref fi), ("needed", V.int 0), ("leads_free", V.bl true), ("leads_bare", V.bl true), ("goes", V.bl true), ("goes_bare", V.bl true), ("known_fits", V.ref kf), ("known_sets", V.non), ("known_texts", V.non), ("known_shortest", V.non), ("known_rows", V.non)] : List (Str × V)) from rfl]
    have k32 : KeepB n H0 (upd H31 n (.ins C dx ([("way", V.ref p), ("options", V.ref oa), ("groups", V.ref ga), ("place_parts", V.ref pa), ("beneath", V.ref b), ("nothing", V.ref no), ("numbers", V.ref nu), ("letters", V.ref le), ("owns", V.ref ow), ("place_owns", V.ref po), ("fitting", V.ref fi), ("needed", V.int 0), ("leads_free", V.bl true), ("leads_bare", V.bl true), ("goes", V.bl true), ("goes_bare", V.bl true), ("known_fits", V.ref kf), ("known_sets", V.non), ("known_texts", V.non), ("known_shortest", V.non), ("known_rows", V.non)] : List (Str × V)))) := k31.trans (KeepB.upd _)
    have nu32 : (upd H31 n (.ins C dx ([("way", V.ref p), ("options", V.ref oa), ("groups", V.ref ga), ("place_parts", V.ref pa), ("beneath", V.ref b), ("nothing", V.ref no), ("numbers", V.ref nu), ("letters", V.ref le), ("owns", V.ref ow), ("place_owns", V.ref po), ("fitting", V.ref fi), ("needed", V.int 0), ("leads_free", V.bl true), ("leads_bare", V.bl true), ("goes", V.bl true), ("goes_bare", V.bl true), ("known_fits", V.ref kf), ("known_sets", V.non), ("known_texts", V.non), ("known_shortest", V.non), ("known_rows", V.non)] : List (Str × V)))) nu = some (HO.dK (numK os)) := (KeepB.upd _).nd n31 nu31 (fun _ _ _ z => nomatch z)
    have fi32 : (upd H31 n (.ins C dx ([("way", V.ref p), ("options", V.ref oa), ("groups", V.ref ga), ("place_parts", V.ref pa), ("beneath", V.ref b), ("nothing", V.ref no), ("numbers", V.ref nu), ("letters", V.ref le), ("owns", V.ref ow), ("place_owns", V.ref po), ("fitting", V.ref fi), ("needed", V.int 0), ("leads_free", V.bl true), ("leads_bare", V.bl true), ("goes", V.bl true), ("goes_bare", V.bl true), ("known_fits", V.ref kf), ("known_sets", V.non), ("known_texts", V.non), ("known_shortest", V.non), ("known_rows", V.non)] : List (Str × V)))) fi = some (HO.dK (allBits os.length)) := (KeepB.upd _).nd n31 fi31 (fun _ _ _ z => nomatch z)
    have n32 : (upd H31 n (.ins C dx ([("way", V.ref p), ("options", V.ref oa), ("groups", V.ref ga), ("place_parts", V.ref pa), ("beneath", V.ref b), ("nothing", V.ref no), ("numbers", V.ref nu), ("letters", V.ref le), ("owns", V.ref ow), ("place_owns", V.ref po), ("fitting", V.ref fi), ("needed", V.int 0), ("leads_free", V.bl true), ("leads_bare", V.bl true), ("goes", V.bl true), ("goes_bare", V.bl true), ("known_fits", V.ref kf), ("known_sets", V.non), ("known_texts", V.non), ("known_shortest", V.non), ("known_rows", V.non)] : List (Str × V)))) n = some (.ins C dx ([("way", V.ref p), ("options", V.ref oa), ("groups", V.ref ga), ("place_parts", V.ref pa), ("beneath", V.ref b), ("nothing", V.ref no), ("numbers", V.ref nu), ("letters", V.ref le), ("owns", V.ref ow), ("place_owns", V.ref po), ("fitting", V.ref fi), ("needed", V.int 0), ("leads_free", V.bl true), ("leads_bare", V.bl true), ("goes", V.bl true), ("goes_bare", V.bl true), ("known_fits", V.ref kf), ("known_sets", V.non), ("known_texts", V.non), ("known_shortest", V.non), ("known_rows", V.non)] : List (Str × V))) := upd_same
    generalize upd H31 n (.ins C dx ([("way", V.ref p), ("options", V.ref oa), ("groups", V.ref ga), ("place_parts", V.ref pa), ("beneath", V.ref b), ("nothing", V.ref no), ("numbers", V.ref nu), ("letters", V.ref le), ("owns", V.ref ow), ("place_owns", V.ref po), ("fitting", V.ref fi), ("needed", V.int 0), ("leads_free", V.bl true), ("leads_bare", V.bl true), ("goes", V.bl true), ("goes_bare", V.bl true), ("known_fits", V.ref kf), ("known_sets", V.non), ("known_texts", V.non), ("known_shortest", V.non), ("known_rows", V.non)] : List (Str × V))) = H32 at k32 n32 nu32 fi32 ⊢
    walk_at "g"
    refine ⟨n, C, dx, _, rfl, n32, NC.cls, NC.known_form, by simp only [List.length_cons, List.length_nil]; omega, ?_⟩
    rw [show putF "known_form" (V.non) ([("way", V.ref p), ("options", V.ref oa), ("groups", V.ref ga), ("place_parts", V.ref pa), ("beneath", V.ref b), ("nothing", V.ref no), ("numbers", V.ref nu), ("letters", V.ref le), ("owns", V.ref ow), ("place_owns", V.ref po), ("fitting", V.ref fi), ("needed", V.int 0), ("leads_free", V.bl true), ("leads_bare", V.bl true), ("goes", V.bl true), ("goes_bare", V.bl true), ("known_fits", V.ref kf), ("known_sets", V.non), ("known_texts", V.non), ("known_shortest", V.non), ("known_rows", V.non)] : List (Str × V)) = ([("way", V.ref p), ("options", V.ref oa), ("groups", V.ref ga), ("place_parts", V.ref pa), ("beneath", V.ref b), ("nothing", V.ref no), ("numbers", V.ref nu), ("letters", V.ref le), ("owns", V.ref ow), ("place_owns", V.ref po), ("fitting", V.ref fi), ("needed", V.int 0), ("leads_free", V.bl true), ("leads_bare", V.bl true), ("goes", V.bl true), ("goes_bare", V.bl true), ("known_fits", V.ref kf), ("known_sets", V.non), ("known_texts", V.non), ("known_shortest", V.non), ("known_rows", V.non), ("known_form", V.non)] : List (Str × V)) from rfl]
    have k33 : KeepB n H0 (upd H32 n (.ins C dx ([("way", V.ref p), ("options", V.ref oa), ("groups", V.ref ga), ("place_parts", V.ref pa), ("beneath", V.ref b), ("nothing", V.ref no), ("numbers", V.ref nu), ("letters", V.ref le), ("owns", V.ref ow), ("place_owns", V.ref po), ("fitting", V.ref fi), ("needed", V.int 0), ("leads_free", V.bl true), ("leads_bare", V.bl true), ("goes", V.bl true), ("goes_bare", V.bl true), ("known_fits", V.ref kf), ("known_sets", V.non), ("known_texts", V.non), ("known_shortest", V.non), ("known_rows", V.non), ("known_form", V.non)] : List (Str × V)))) := k32.trans (KeepB.upd _)
    have nu33 : (upd H32 n (.ins C dx ([("way", V.ref p), ("options", V.ref oa), ("groups", V.ref ga), ("place_parts", V.ref pa), ("beneath", V.ref b), ("nothing", V.ref no), ("numbers", V.ref nu), ("letters", V.ref le), ("owns", V.ref ow), ("place_owns", V.ref po), ("fitting", V.ref fi), ("needed", V.int 0), ("leads_free", V.bl true), ("leads_bare", V.bl true), ("goes", V.bl true), ("goes_bare", V.bl true), ("known_fits", V.ref kf), ("known_sets", V.non), ("known_texts", V.non), ("known_shortest", V.non), ("known_rows", V.non), ("known_form", V.non)] : List (Str × V)))) nu = some (HO.dK (numK os)) := (KeepB.upd _).nd n32 nu32 (fun _ _ _ z => nomatch z)
    have fi33 : (upd H32 n (.ins C dx ([("way", V.ref p), ("options", V.ref oa), ("groups", V.ref ga), ("place_parts", V.ref pa), ("beneath", V.ref b), ("nothing", V.ref no), ("numbers", V.ref nu), ("letters", V.ref le), ("owns", V.ref ow), ("place_owns", V.ref po), ("fitting", V.ref fi), ("needed", V.int 0), ("leads_free", V.bl true), ("leads_bare", V.bl true), ("goes", V.bl true), ("goes_bare", V.bl true), ("known_fits", V.ref kf), ("known_sets", V.non), ("known_texts", V.non), ("known_shortest", V.non), ("known_rows", V.non), ("known_form", V.non)] : List (Str × V)))) fi = some (HO.dK (allBits os.length)) := (KeepB.upd _).nd n32 fi32 (fun _ _ _ z => nomatch z)
    have n33 : (upd H32 n (.ins C dx ([("way", V.ref p), ("options", V.ref oa), ("groups", V.ref ga), ("place_parts", V.ref pa), ("beneath", V.ref b), ("nothing", V.ref no), ("numbers", V.ref nu), ("letters", V.ref le), ("owns", V.ref ow), ("place_owns", V.ref po), ("fitting", V.ref fi), ("needed", V.int 0), ("leads_free", V.bl true), ("leads_bare", V.bl true), ("goes", V.bl true), ("goes_bare", V.bl true), ("known_fits", V.ref kf), ("known_sets", V.non), ("known_texts", V.non), ("known_shortest", V.non), ("known_rows", V.non), ("known_form", V.non)] : List (Str × V)))) n = some (.ins C dx ([("way", V.ref p), ("options", V.ref oa), ("groups", V.ref ga), ("place_parts", V.ref pa), ("beneath", V.ref b), ("nothing", V.ref no), ("numbers", V.ref nu), ("letters", V.ref le), ("owns", V.ref ow), ("place_owns", V.ref po), ("fitting", V.ref fi), ("needed", V.int 0), ("leads_free", V.bl true), ("leads_bare", V.bl true), ("goes", V.bl true), ("goes_bare", V.bl true), ("known_fits", V.ref kf), ("known_sets", V.non), ("known_texts", V.non), ("known_shortest", V.non), ("known_rows", V.non), ("known_form", V.non)] : List (Str × V))) := upd_same
    generalize upd H32 n (.ins C dx ([("way", V.ref p), ("options", V.ref oa), ("groups", V.ref ga), ("place_parts", V.ref pa), ("beneath", V.ref b), ("nothing", V.ref no), ("numbers", V.ref nu), ("letters", V.ref le), ("owns", V.ref ow), ("place_owns", V.ref po), ("fitting", V.ref fi), ("needed", V.int 0), ("leads_free", V.bl true), ("leads_bare", V.bl true), ("goes", V.bl true), ("goes_bare", V.bl true), ("known_fits", V.ref kf), ("known_sets", V.non), ("known_texts", V.non), ("known_shortest", V.non), ("known_rows", V.non), ("known_form", V.non)] : List (Str × V))) = H33 at k33 n33 nu33 fi33 ⊢
    walk_at "g"
    exact k _ oa ga pa no nu le ow po fi kf xs k33 hnu0 o0 hxo n33 nu33
end
end K16
namespace J
open PySem PySem.Spec PyProof.Rows L2 M
theorem begP_mem {ns : List (List Nat)} {t m : List Nat} : (t, m) ∈ begP ns ↔ m ∈ ns ∧ t ≠ [] ∧ t <+: m ∧ t ≠ m := by
  unfold begP
  simp only [List.mem_flatMap, List.mem_map, List.mem_range, Prod.mk.injEq]
  constructor
  · rintro ⟨n, hn, i, hi, rfl, rfl⟩
    refine ⟨hn, fun e => ?_, List.take_prefix _ _, fun e => ?_⟩
    · have := congrArg List.length e
      rw [List.length_take, List.length_nil] at this
      omega
    · have := congrArg List.length e
      rw [List.length_take] at this
      omega
  · rintro ⟨hm, h0, hp, hne⟩
    have l0 : 0 < t.length := List.length_pos_iff.mpr h0
    have l1 := hp.length_le
    have l2 : t.length ≠ m.length := fun e => hne (hp.eq_of_length e)
    refine ⟨m, hm, t.length - 1, by omega, ?_, rfl⟩
    rw [Nat.sub_add_cancel l0]
    exact (List.prefix_iff_eq_take.mp hp).symm
theorem begP_nd {ns : List (List Nat)} (h : ns.Nodup) : (begP ns).Nodup := by
  unfold begP
  rw [List.Nodup, List.pairwise_flatMap]
  refine ⟨fun n _ => ?_, ?_⟩
  · rw [List.pairwise_map]
    refine List.Pairwise.imp_of_mem (fun {a b} ha hb lt e => ?_) (List.pairwise_lt_range (n := n.length - 1))
    have e1 := congrArg List.length (Prod.mk.inj e).1
    have ha := List.mem_range.mp ha
    have hb := List.mem_range.mp hb
    rw [List.length_take, List.length_take] at e1
    omega
  · refine List.Pairwise.imp (fun {a b} ne => ?_) h
    intro p h1 q h2
    obtain ⟨i, _, rfl⟩ := List.mem_map.mp h1
    obtain ⟨j, _, rfl⟩ := List.mem_map.mp h2
    exact fun e => ne (Prod.mk.inj e).2
/-- whose a text is -/
def own1 (ns : List (List Nat)) (t : List Nat) : Option Bg := if t ∈ ns then some (t, t) else match (begP ns).filter (fun p => decide (p.1 = t)) with
  | [p] => some (t, p.2)
  | _ => none
theorem own1_fst {ns : List (List Nat)} {t : List Nat} {p : Bg} (h : own1 ns t = some p) : p.1 = t := by
  unfold own1 at h
  split at h
  · cases h; rfl
  · split at h
    · cases h; rfl
    · cases h
theorem all_one {α : Type} {l : List α} {a : α} (nd : l.Nodup) (ha : a ∈ l) (h : ∀ x ∈ l, x = a) : l = [a] := by
  cases l with
  | nil => exact (List.not_mem_nil ha).elim
  | cons x r =>
    obtain rfl := h x (List.mem_cons_self ..)
    cases r with
    | nil => rfl
    | cons y s =>
      obtain rfl := h y (List.mem_cons_of_mem _ (List.mem_cons_self ..))
      exact ((List.nodup_cons.mp nd).1 (List.mem_cons_self ..)).elim
theorem own1_due {ns : List (List Nat)} (ok : NmsOk ns) {t n : List Nat} : own1 ns t = some (t, n) ↔ Due ns t n := by
  have ne0 : ∀ m ∈ ns, m ≠ [] := fun m hm e => by have := (ok.2.2 m hm).1; rw [e] at this; exact absurd this (by decide)
  unfold own1
  by_cases h : t ∈ ns
  · rw [if_pos h]
    constructor
    · intro e
      cases e
      exact ⟨h, ne0 _ h, List.prefix_refl _, .inl rfl⟩
    · rintro ⟨_, _, _, e | ⟨e, _⟩⟩
      · rw [e]
      · exact (e h).elim
  · rw [if_neg h]
    constructor
    · intro e
      split at e
      · rename_i p hp
        cases e
        have mp : p ∈ begP ns ∧ p.1 = t := by
          have : p ∈ (begP ns).filter (fun p => decide (p.1 = t)) := by rw [hp]; exact List.mem_singleton.mpr rfl
          obtain ⟨a, b⟩ := List.mem_filter.mp this
          exact ⟨a, of_decide_eq_true b⟩
        obtain ⟨t', m⟩ := p
        obtain ⟨m1, rfl⟩ := mp
        obtain ⟨a, b, c, d⟩ := begP_mem.mp m1
        refine ⟨a, b, c, .inr ⟨h, fun m2 h2 hp2 => ?_⟩⟩
        have : (t', m2) ∈ (begP ns).filter (fun p => decide (p.1 = t')) := List.mem_filter.mpr ⟨begP_mem.mpr ⟨h2, b, hp2, fun e => h (e ▸ h2)⟩, by simp⟩
        rw [hp] at this
        exact (Prod.mk.inj (List.mem_singleton.mp this)).2
      · cases e
    · rintro ⟨a, b, c, e | ⟨_, u⟩⟩
      · exact (h (e ▸ a)).elim
      · have key : (begP ns).filter (fun p => decide (p.1 = t)) = [(t, n)] := by
          refine all_one ((begP_nd ok.2.1).filter _) (List.mem_filter.mpr ⟨begP_mem.mpr ⟨a, b, c, fun e => h (e ▸ a)⟩, by simp⟩) fun p hp => ?_
          obtain ⟨h1, h2⟩ := List.mem_filter.mp hp
          have h2 := of_decide_eq_true h2
          obtain ⟨t', m⟩ := p
          obtain rfl : t' = t := h2
          obtain ⟨a', b', c', d'⟩ := begP_mem.mp h1
          rw [u m a' c']
        rw [key]
theorem Due.fn {ns : List (List Nat)} {t n n' : List Nat} (h : Due ns t n) (h' : Due ns t n') : n = n' := by
  obtain ⟨a, _, c, e⟩ := h
  obtain ⟨a', _, c', e'⟩ := h'
  rcases e with e | ⟨e, u⟩
  · rcases e' with e' | ⟨e', _⟩
    · rw [← e, ← e']
    · exact (e' (e ▸ a)).elim
  · exact (u n' a' c').symm
def ownE (kvs : List (Key × V)) (n : List Nat) : List (Key × V) := putK kvs (.inr (S n)) (.str (S n))
def owners (ns : List (List Nat)) : List (Key × V) := ns.foldl ownE ((begP ns).foldl putO [])
/-- keys are texts, none twice -/
def Txk (kvs : List (Key × V)) : Prop := ∃ zs : List (List Nat), kvs.map Prod.fst = zs.map (fun z => (Sum.inr (S z) : Key)) ∧ zs.Nodup
theorem Txk.put {kvs : List (Key × V)} (h : Txk kvs) (t : List Nat) (v : V) : Txk (putK kvs (.inr (S t)) v) := by
  obtain ⟨zs, e, nd⟩ := h
  cases hv : valV kvs (.inr (S t)) with
  | none =>
    rw [putK_new v hv, Txk]
    refine ⟨zs ++ [t], by rw [List.map_append, List.map_append, e]; rfl, ?_⟩
    rw [List.nodup_append]
    refine ⟨nd, List.nodup_cons.mpr ⟨List.not_mem_nil, List.nodup_nil⟩, fun a ha b hb => ?_⟩
    obtain rfl := List.mem_singleton.mp hb
    rintro rfl
    have m : (Sum.inr (S a) : Key) ∈ kvs.map Prod.fst := by rw [e]; exact List.mem_map.mpr ⟨a, ha, rfl⟩
    obtain ⟨kv, m1, m2⟩ := List.mem_map.mp m
    unfold valV at hv
    rw [Option.map_eq_none_iff, List.find?_eq_none] at hv
    exact hv kv m1 (by simp [m2])
  | some x =>
    refine ⟨zs, ?_, nd⟩
    unfold putK
    rw [if_pos (by rw [valV_any, hv]; rfl), List.map_map, ← e]
    refine List.map_congr_left fun kv hkv => ?_
    show (if kv.1 = Sum.inr (S t) then (kv.1, v) else kv).1 = kv.1
    split <;> rfl
theorem Txk.mem {kvs : List (Key × V)} {zs : List (List Nat)} (e : kvs.map Prod.fst = zs.map (fun z => (Sum.inr (S z) : Key))) (t : List Nat) : t ∈ zs ↔ (valV kvs (.inr (S t))).isSome = true := by
  rw [← valV_any]
  constructor
  · intro h
    have m : (Sum.inr (S t) : Key) ∈ kvs.map Prod.fst := by rw [e]; exact List.mem_map.mpr ⟨t, h, rfl⟩
    obtain ⟨kv, m1, m2⟩ := List.mem_map.mp m
    exact List.any_eq_true.mpr ⟨kv, m1, by simp [m2]⟩
  · intro h
    obtain ⟨kv, m1, m2⟩ := List.any_eq_true.mp h
    have m : kv.1 ∈ kvs.map Prod.fst := List.mem_map_of_mem m1
    rw [of_decide_eq_true m2, e] at m
    obtain ⟨z, hz, ez⟩ := List.mem_map.mp m
    rw [← S_inj.mp (Sum.inr.inj ez)]
    exact hz
theorem txk_fold1 : ∀ (P : List Bg) (kvs : List (Key × V)), Txk kvs → Txk (P.foldl putO kvs) ∧ (P.foldl putO kvs).length ≤ kvs.length + P.length
  | [], _, h => ⟨h, Nat.le_refl _⟩
  | p :: P, kvs, h => by
    obtain ⟨a, b⟩ := txk_fold1 P _ (h.put p.1 (if (valV kvs (.inr (S p.1))).isSome = true then .non else .str (S p.2)))
    have := length_putK kvs (.inr (S p.1)) (if (valV kvs (.inr (S p.1))).isSome = true then V.non else .str (S p.2))
    rw [List.foldl_cons, List.length_cons]
    exact ⟨a, Nat.le_trans b (by omega)⟩
theorem txk_fold2 : ∀ (ns : List (List Nat)) (kvs : List (Key × V)), Txk kvs → Txk (ns.foldl ownE kvs) ∧ (ns.foldl ownE kvs).length ≤ kvs.length + ns.length
  | [], _, h => ⟨h, Nat.le_refl _⟩
  | n :: ns, kvs, h => by
    obtain ⟨a, b⟩ := txk_fold2 ns _ (h.put n (.str (S n)))
    have := length_putK kvs (.inr (S n)) (V.str (S n))
    rw [List.foldl_cons, List.length_cons]
    exact ⟨a, Nat.le_trans b (by omega)⟩
theorem begP_len {ns : List (List Nat)} (h : ∀ n ∈ ns, Nm n) : (begP ns).length ≤ 7 * ns.length := by
  induction ns with
  | nil => exact Nat.le_refl _
  | cons n ns ih =>
    have i := ih fun m hm => h m (List.mem_cons_of_mem _ hm)
    have l := (h n (List.mem_cons_self ..)).2.1
    show (((List.range (n.length - 1)).map _) ++ begP ns).length ≤ _
    rw [List.length_append, List.length_map, List.length_range, List.length_cons]
    omega
theorem val_own2 : ∀ (ns : List (List Nat)) (kvs : List (Key × V)) (t : List Nat), valV (ns.foldl ownE kvs) (.inr (S t)) = if t ∈ ns then some (.str (S t)) else valV kvs (.inr (S t))
  | [], _, _ => rfl
  | n :: ns, kvs, t => by
    rw [List.foldl_cons, val_own2 ns, ownE, valV_put]
    by_cases h : t ∈ ns
    · rw [if_pos h, if_pos (List.mem_cons_of_mem _ h)]
    · rw [if_neg h]
      by_cases e : t = n
      · subst e; rw [if_pos rfl, if_pos (List.mem_cons_self ..)]
      · rw [if_neg fun q => e (S_inj.mp (Sum.inr.inj q)), if_neg fun q => (List.mem_cons.mp q).elim e h]
theorem val_owners (ns : List (List Nat)) (t : List Nat) : valV (owners ns) (.inr (S t)) = if t ∈ ns then some (.str (S t)) else seen (begP ns) t := by
  unfold owners
  rw [val_own2, seen_fold]
theorem owners_txk (ns : List (List Nat)) : Txk (owners ns) := (txk_fold2 _ _ (txk_fold1 _ _ ⟨[], rfl, List.nodup_nil⟩).1).1
theorem owners_len {ns : List (List Nat)} (ok : NmsOk ns) : (owners ns).length ≤ 48 := by
  have a := (txk_fold2 ns _ (txk_fold1 (begP ns) [] ⟨[], rfl, List.nodup_nil⟩).1).2
  have b := (txk_fold1 (begP ns) [] ⟨[], rfl, List.nodup_nil⟩).2
  have c := begP_len ok.2.2
  have d := ok.1
  rw [List.length_nil] at b
  unfold owners
  omega
/-- what a text that is there leads to -/
theorem val_own1 (ns : List (List Nat)) {t : List Nat} (h : (valV (owners ns) (.inr (S t))).isSome = true) : (∃ n, own1 ns t = some (t, n) ∧ valV (owners ns) (.inr (S t)) = some (.str (S n))) ∨ (own1 ns t = none ∧ valV (owners ns) (.inr (S t)) = some .non) := by
  rw [val_owners] at h ⊢
  unfold own1
  by_cases m : t ∈ ns
  · rw [if_pos m, if_pos m]
    exact .inl ⟨t, rfl, rfl⟩
  · rw [if_neg m] at h ⊢
    rw [if_neg m]
    unfold seen at h ⊢
    cases e : (begP ns).filter (fun p => decide (p.1 = t)) with
    | nil => rw [e] at h; cases h
    | cons p r =>
      cases r with
      | nil => exact .inl ⟨p.2, rfl, rfl⟩
      | cons q r => exact .inr ⟨rfl, rfl⟩
theorem own_some {ns : List (List Nat)} {t : List Nat} {p : Bg} (h : own1 ns t = some p) : (valV (owners ns) (.inr (S t))).isSome = true := by
  rw [val_owners]
  unfold own1 at h
  by_cases m : t ∈ ns
  · rw [if_pos m]; rfl
  · rw [if_neg m] at h ⊢
    unfold seen
    split at h
    · rename_i p' hp; rw [hp]; rfl
    · cases h
theorem begs_of {ns us : List (List Nat)} (ok : NmsOk ns) (up : us.Pairwise (· < ·)) (all : ∀ t, t ∈ us ↔ (valV (owners ns) (.inr (S t))).isSome = true) : IsBegs ns (us.filterMap (own1 ns)) where
  up := by
    rw [List.pairwise_map]
    exact List.Pairwise.filterMap (own1 ns) (fun a a' lt b hb b' hb' => by rw [own1_fst hb, own1_fst hb']; exact lt) up
  iff := fun t n => by
    rw [List.mem_filterMap, ← own1_due ok]
    constructor
    · rintro ⟨u, _, h⟩
      have : t = u := own1_fst h
      rw [this] at h ⊢
      exact h
    · intro h
      exact ⟨t, (all t).mpr (own_some h), h⟩
theorem sorted_le : ∀ {ys : List Str}, sortedS ys = true → ys.Pairwise fun a b => ¬ b.cps.toList < a.cps.toList
  | [], _ => .nil
  | y :: ys, h => by
    have key : ∀ (ys : List Str) (p : Str), risingS p ys = true → (p :: ys).Pairwise fun a b => ¬ b.cps.toList < a.cps.toList := by
      intro ys
      induction ys with
      | nil => intro p _; exact List.pairwise_singleton _ _
      | cons x r ih =>
        intro p h
        rw [risingS, Bool.and_eq_true, Bool.not_eq_true'] at h
        have i := ih x h.2
        have px : ¬ x.cps.toList < p.cps.toList := fun lt => by
          have := lt_meets x p
          rw [h.1, decide_eq_true lt] at this
          cases this
        refine List.pairwise_cons.mpr ⟨fun b hb => ?_, i⟩
        rcases List.mem_cons.mp hb with rfl | hb
        · exact px
        · have xb := (List.pairwise_cons.mp i).1 b hb
          exact List.not_lt.mpr (List.le_trans (List.not_lt.mp px) (List.not_lt.mp xb))
    exact key ys y h
theorem sorted_lt {us : List (List Nat)} (nd : us.Nodup) (h : (us.map S).Pairwise fun a b => ¬ b.cps.toList < a.cps.toList) : us.Pairwise (· < ·) := by
  rw [List.pairwise_map] at h
  refine List.Pairwise.imp_of_mem (fun {a b} _ _ hab => ?_) (h.and nd)
  obtain ⟨h1, h2⟩ := hab
  rw [S_cps, S_cps] at h1
  exact Std.lt_of_le_of_ne (List.not_lt.mp h1) h2
theorem perm_S {ys : List Str} {zs : List (List Nat)} (h : ys.Perm (zs.map S)) : ∃ us : List (List Nat), ys = us.map S ∧ us.Perm zs := by
  refine ⟨ys.map cd, ?_, ?_⟩
  · rw [List.map_map]
    exact (List.map_id' ys).symm.trans (List.map_congr_left fun y _ => (S_of y).symm)
  · have := h.map cd
    rw [List.map_map] at this
    rwa [show (cd ∘ S) = id from funext fun z => cd_S z, List.map_id] at this
section
variable {K : PySem.W.Frag} {σ : L2.St} {H : Hp} {Q : VK} {g : TG} {tb : TS} {n' : L2.St → Hp → Prop} {rt : VK} {bk ct : L2.St → Hp → Prop}
theorem loop_rngL {lo : Int} {q : Nat} (I : Nat → L2.St → Hp → Prop) (start : I 0 σ H)
    (turn : ∀ (j : Nat) σ1 H1, j < q → I j σ1 H1 → g (.int (lo + (j : Nat))) σ1 H1 fun σ2 H2 => tb ⟨I (j + 1), rt, n', I (j + 1)⟩ σ2 H2)
    (fin : ∀ σ1 H1, I q σ1 H1 → n' σ1 H1) : LoopQ (Itr lo q) g tb ⟨n', rt, bk, ct⟩ σ H :=
  loop_of (D := ⟨n', rt, bk, ct⟩) q I start (fun j _ _ hj _ => hj) (fun _ _ _ => Nat.le_refl _) (fun j σ1 H1 x H' hj w y => by
    obtain ⟨rfl, rfl⟩ := y
    exact turn j σ1 H' hj w) fin
end
def rowB (n : List Nat) (q : Nat) : List Bg := (List.range q).map fun i => (n.take (i + 1), n)
theorem rowB_succ (n : List Nat) (j : Nat) : rowB n (j + 1) = rowB n j ++ [(n.take (j + 1), n)] := by
  unfold rowB
  rw [List.range_succ, List.map_append]
  rfl
theorem begP_take {ns : List (List Nat)} {i : Nat} {n : List Nat} (h : ns[i]? = some n) : begP (ns.take (i + 1)) = begP (ns.take i) ++ rowB n (n.length - 1) := by
  unfold begP
  rw [List.take_succ, h, Option.toList_some, List.flatMap_append]
  simp [rowB]
theorem begE_len {D : List Bg} : (D.map begE).length = D.length := List.length_map ..
theorem filt_take {us : List (List Nat)} {i : Nat} {u : List Nat} {f : List Nat → Option Bg} (h : us[i]? = some u) : (us.take (i + 1)).filterMap f = (us.take i).filterMap f ++ (f u).toList := by
  rw [List.take_succ, h, Option.toList_some, List.filterMap_append]
  cases e : f u with
  | none => rw [List.filterMap_cons_none e]; rfl
  | some p => rw [List.filterMap_cons_some e]; rfl
theorem begE_put {D : List Bg} {p : Bg} (h : ∀ q ∈ D, q.1 ≠ p.1) : putK (D.map begE) (.inr (S p.1)) (.str (S p.2)) = (D ++ [p]).map begE := by
  rw [putK_new, List.map_append]
  · rfl
  · refine valV_of fun e he => ?_
    obtain ⟨q, hq, rfl⟩ := List.mem_map.mp he
    exact fun e1 => h q hq (S_inj.mp (Sum.inr.inj e1))
end J
namespace K16
open PySem PySem.Spec PyProof.Rows L2 J M
local macro_rules | `(tactic| walk_at "hp") => `(tactic| first | assumption | exact upd_same | (rw [upd_ne (by assumption)]; walk_at "hp") | (rw [upd_ne (Ne.symm (by assumption))]; walk_at "hp"))
local macro_rules | `(tactic| walk_at "s") => `(tactic| first
  | ((with_reducible refine' r_var ?h ?k); (case h => exact rfl))
  | (with_reducible refine r_c ?_)
  | (with_reducible refine r_op ?_)
  | (with_reducible refine r_un ?_)
  | (with_reducible refine r_seq ?_)
  | (with_reducible refine r_next ?_)
  | (with_reducible refine r_sets ?_)
  | (with_reducible refine r_gname ?_)
  | (with_reducible refine r_ifS ?_)
  | (with_reducible refine r_gsub ?_)
  | (with_reducible refine r_test ?_)
  | (with_reducible refine r_tb ?_)
  | (with_reducible refine r_not ?_)
  | (with_reducible refine r_and ?_)
  | (with_reducible refine r_or ?_)
  | (with_reducible refine r_andV ?_)
  | (with_reducible refine r_orV ?_)
  | (with_reducible refine r_notV ?_)
  | (with_reducible refine r_ifE ?_)
  | (with_reducible refine r_chain ?_)
  | (with_reducible refine r_cb ?_)
  | (with_reducible refine r_cons ?_)
  | (with_reducible refine r_nil ?_)
  | (with_reducible refine r_call ?_)
  | (with_reducible refine r_lst ?_)
  | (with_reducible refine r_tup ?_)
  | (with_reducible refine r_slice ?_)
  | (with_reducible refine r_nop ?_)
  | (with_reducible refine r_part ?_)
  | (with_reducible refine r_bm ?_)
  | (with_reducible refine r_m1 ?_)
  | (with_reducible refine r_m0 ?_)
  | (with_reducible refine r_is ?_)
  | (with_reducible refine r_maxD ?_)
  | (with_reducible refine r_orT ?_)
  | (with_reducible refine r_truN ?_)
  | (with_reducible refine r_intI ?_)
  | (with_reducible refine r_intB ?_)
  | (with_reducible refine r_max2 ?_)
  | (with_reducible refine r_min2 ?_)
  | (with_reducible refine r_yes ?_)
  | (with_reducible refine r_bl ?_)
  | (with_reducible refine iteT ?_)
  | (with_reducible refine iteF ?_)
  | (with_reducible refine r_iteNT ?_)
  | (with_reducible refine r_iteNF ?_)
  | (with_reducible refine r_minL ?_)
  | (with_reducible refine r_gcons ?_)
  | (with_reducible refine r_gnil ?_)
  | (with_reducible refine r_par ?_)
  | (with_reducible refine r_par3 ?_)
  | (with_reducible refine r_is2 ?_)
  | (with_reducible refine r_is3 ?_)
  | (with_reducible refine r_dget ?_)
  | (with_reducible refine r_callS ?_)
  | (with_reducible refine r_rz ?_)
  | (with_reducible refine r_rev ?_)
  | (with_reducible refine r_isI ?_)
  | (with_reducible refine r_isStr ?_)
  | (with_reducible refine r_ret ?_)
  | (with_reducible refine r_drop ?_)
  | (with_reducible refine r_rI0 ?_)
  | (with_reducible refine r_addI ?_)
  | ((with_reducible show rI (fun _ j => 0 < j) _ (.int _) (.int _) _ _); refine r_rI (by first | omega | decide) ?_)
  | ((with_reducible show rI CDiv _ (.int _) (.int _) _ _); refine r_rI (by constructor <;> omega) ?_)
  | ((with_reducible show rI CPow _ (.int _) (.int _) _ _); refine r_rI (by refine ⟨by decide, by decide, ?_⟩; omega) ?_)
  | ((with_reducible show rMul (.int _) (.int _) _ _); refine r_mulI (cmulW (by omega) (by omega)) ?_)
  | (with_reducible refine r_cmpI ?_)
  | (with_reducible refine r_cmpS ?_)
  | (with_reducible refine r_eqI ?_)
  | (with_reducible refine r_neI ?_)
  | (with_reducible refine r_eqS ?_)
  | (with_reducible refine r_neS ?_)
  | (with_reducible refine r_inSF ?_)
  | (with_reducible refine r_inST ?_)
  | (with_reducible refine r_isiStr ?_)
  | ((with_reducible show rIx _ (.ref _) (.int _) _ _); refine' r_ixL (SqL.of ?h) ?e ?_; (case h => walk_at "hp"); (case e => rfl))
  | ((with_reducible show rSetL (.ref _) (.int _) _ _ _); refine' r_setL ?h ?e ?_; (case h => walk_at "hp"); (case e => rfl)))
local macro_rules | `(tactic| walk_at "g") => `(tactic| repeat walk_at "s")
local macro_rules | `(tactic| walk_at "x") => `(tactic| first | omega | decide +kernel | (simp only [List.length_cons, List.length_nil]; omega))
local macro_rules | `(tactic| walk_at "T1") => `(tactic| (first
  | walk_at "s"
  | ((with_reducible show rIx _ (.ref _) (.int _) _ _); refine' r_ixTu (SqT.of ?h) ?e ?_; (case h => first | assumption | walk_at "hp"); (case e => rfl))
  | (with_reducible refine r_lenSet ?_)
  | (with_reducible refine r_asg2 ?_)
  | (with_reducible refine iteDT (by walk_at "x") ?_)
  | (with_reducible refine iteDF (by walk_at "x") ?_)
  | (with_reducible refine iteNT (by walk_at "x") ?_)
  | (with_reducible refine iteNF (by walk_at "x") ?_)))
local macro_rules | `(tactic| walk_at "T") => `(tactic| repeat (first
  | walk_at "s"
  | ((with_reducible show rIx _ (.ref _) (.int _) _ _); refine' r_ixTu (SqT.of ?h) ?e ?_; (case h => first | assumption | walk_at "hp"); (case e => rfl))
  | (with_reducible refine r_lenSet ?_)
  | (with_reducible refine r_asg2 ?_)
  | (with_reducible refine iteDT (by walk_at "x") ?_)
  | (with_reducible refine iteDF (by walk_at "x") ?_)
  | (with_reducible refine iteNT (by walk_at "x") ?_)
  | (with_reducible refine iteNF (by walk_at "x") ?_)))
local macro_rules | `(tactic| walk_at "g") => `(tactic| repeat (first | walk_at "T1" | (with_reducible refine r_fld ?_) | (with_reducible refine r_sfl ?_) | (with_reducible refine r_ifT ?_) | (with_reducible refine r_nn ?_)))
section
variable {P : Program} {w : World} {K : PySem.W.Frag} {mg : Str → Option Value} {base : Heap}
theorem ok_begs (T : Tx K mg) {f : Addr} {fd : FuncData} (F : Fun K "beginnings_of" "beginnings_of" s_beginnings_of f fd) : FnOk P w K mg base CX0 1 f fd P_beginnings_of spBegs := by
  refine F.ok sc_beginnings_of (fun vs H Q E h => ?_) (fun cdv A outer s H vs Q E hr h => ?_)
  · obtain ⟨l, ns, rfl, _⟩ := h
    rfl
  · obtain ⟨l, ns, rfl, hl, ok, k⟩ := h
    refine ⟨_, (pss_cons (ps_set (i := 1) sc_beginnings_of.nd rfl (Or.inr rfl) pe_dnewK) (pss_cons (ps_for (PassesOwn.never) rfl (asSeq (K := K) rfl (pi_seq (pv 0))) (pg_name (i := 2) sc_beginnings_of.nd rfl (Or.inl rfl)) (pss_one (ps_for (PassesOwn.never) rfl (pi_range2 rfl T.z_range (pa_cons pe_int (pa_cons (pe_callB (call_lenA : CallR _ _ (J.rLen K)) (by rfl) T.z_len (by decide +kernel) (pa_cons (pv 2) pa_nil)) pa_nil))) (pg_name (i := 3) sc_beginnings_of.nd rfl (Or.inl rfl)) (pss_cons (ps_set (i := 4) sc_beginnings_of.nd rfl (Or.inl rfl) (pe_slice (sl_any : SlR _ (rSl K)) (pv 2) po_none (po_some (pv 3)))) (pss_one (ps_dput (hu_of hr) (pv 1) (pv 4) (pe_ifExp (pt_cmp (pc_din (hu_of hr) (pv 4) (pv 1))) pe_non (pv 2)) rfl)))))) (pss_cons (ps_for (PassesOwn.never) rfl (asSeq (K := K) rfl (pi_seq (pv 0))) (pg_name (i := 2) sc_beginnings_of.nd rfl (Or.inl rfl)) (pss_one (ps_dput (hu_of hr) (pv 1) (pv 2) (pv 2) rfl))) (pss_one (ps_ret (pe_dc (own := [("text", 4)]) (g := gName 4) rfl sc_beginnings_of.nd (asSeq (K := K) rfl (pi_seq (pe_callB (L2.cr_sortedS : CallR _ _ (L2.rSortedS K)) (by rfl) T.z_sorted (by decide +kernel) (pa_cons (pe_callTy (L2.call_list_dK rfl : CallR _ _ L2.rListD) (by rfl) T.z_list (by decide +kernel) (pa_cons (pv 1) pa_nil)) pa_nil)))) (blkOk_by (N := N_beginnings_of) (sc := defScope s_beginnings_of) (by decide +kernel)) (fun _ _ _ _ _ => (pg_name (i := 4) sc_beginnings_of.nd rfl (Or.inl rfl))) (fun _ _ _ _ _ => (pts_one (pt_cmpR L2.op_notN (pe_dget (hu_of hr) (pv 1) (pv 4) (fun _ _ => rfl)) pe_non (nomark _)))) (fun _ _ _ _ _ => (pv 4)) (fun _ _ _ _ _ => (pe_dget (hu_of hr) (pv 1) (pv 4) (fun _ _ => rfl))))))))), ?_⟩
    walk_at "g"
    intro d hd
    have s1 := (Same.refl H).at hd (.dK [])
    have d1 : upd H d (.dK []) d = some (.dK []) := upd_same
    generalize upd H d (.dK []) = H1 at s1 d1 ⊢
    walk_at "g"
    refine r_for ?_
    refine r_isq ?_
    walk_at "g"
    have hl1 := s1 _ _ hl
    refine ⟨l, _, rfl, .inl ⟨SqL.of hl1, ?_⟩⟩
    refine loop_lst (fun i σ' H' => ∃ o2 o3 o4 : Option V, σ' = [some (.ref l), some (.ref d), o2, o3, o4] ∧ Same H H' ∧ H' d = some (.dK ((begP (ns.take i)).foldl putO []))) (fun i σ' H' w => by obtain ⟨_, _, _, _, s, _⟩ := w; exact s _ _ hl) ⟨_, _, _, rfl, s1, d1⟩ (fun i x σ2 H2 hx w => ?_) fun σ2 H2 w => ?_
    · obtain ⟨o2, o3, o4, rfl, s2, d2⟩ := w
      rw [List.getElem?_map] at hx
      obtain ⟨n, en, rfl⟩ := Option.map_eq_some_iff.mp hx
      have nm := ok.2.2 n (List.mem_of_getElem? en)
      have l8 := nm.2.1
      have i6 : i < 6 := Nat.lt_of_lt_of_le (List.getElem?_eq_some_iff.mp en).1 ok.1
      have bl : (begP (ns.take i)).length ≤ 42 := by
        have := begP_len (ns := ns.take i) fun m hm => ok.2.2 m (List.mem_of_mem_take hm)
        rw [List.length_take] at this
        omega
      walk_at "g"
      refine r_for ?_
      refine r_irng2 ?_
      walk_at "g"
      refine r_len (by rw [S_len]; exact Nat.le_trans l8 (by decide)) ?_
      rw [S_len]
      walk_at "g"
      refine ⟨1, (n.length : Nat), rfl, ⟨by decide, by decide, by omega, by omega⟩, ?_⟩
      rw [show (((n.length : Nat) : Int) - 1).toNat = n.length - 1 by omega]
      refine loop_rngL (fun j σ' H' => ∃ o3 o4 : Option V, σ' = [some (.ref l), some (.ref d), some (.str (S n)), o3, o4] ∧ Same H H' ∧ H' d = some (.dK ((rowB n j).foldl putO ((begP (ns.take i)).foldl putO [])))) ⟨_, _, rfl, s2, d2⟩ (fun j σ3 H3 hj w => ?_) fun σ3 H3 w => ?_
      · obtain ⟨o3, o4, rfl, s3, d3⟩ := w
        have c1 := (txk_fold1 (begP (ns.take i)) [] ⟨[], rfl, List.nodup_nil⟩)
        have c2 := (txk_fold1 (rowB n j) _ c1.1).2
        have c3 := c1.2
        have c4 : (rowB n j).length = j := by unfold rowB; rw [List.length_map, List.length_range]
        rw [List.length_nil] at c3
        walk_at "g"
        refine r_slS (by rw [S_len]; exact Nat.le_trans l8 (by decide)) ?_
        rw [show (1 + ((j : Nat) : Int)) = ((j + 1 : Nat) : Int) by omega, cutS_take, cd_S]
        walk_at "g"
        refine r_sdput ?_
        walk_at "g"
        refine r_din ?_
        walk_at "g"
        refine ⟨d, _, rfl, DGet.k (k := .inr (S (n.take (j + 1)))) d3, ?_⟩
        have fin : ∀ v, v = (if (valV ((rowB n j).foldl putO ((begP (ns.take i)).foldl putO [])) (.inr (S (n.take (j + 1))))).isSome = true then V.non else .str (S n)) →
            Same H (upd H3 d (.dK (putK ((rowB n j).foldl putO ((begP (ns.take i)).foldl putO [])) (.inr (S (n.take (j + 1)))) v))) ∧ (upd H3 d (.dK (putK ((rowB n j).foldl putO ((begP (ns.take i)).foldl putO [])) (.inr (S (n.take (j + 1)))) v))) d = some (.dK ((rowB n (j + 1)).foldl putO ((begP (ns.take i)).foldl putO []))) := fun v hv => by
          refine ⟨s3.at hd _, ?_⟩
          rw [upd_same, rowB_succ, List.foldl_append, hv]
          rfl
        by_cases q : (valV ((rowB n j).foldl putO ((begP (ns.take i)).foldl putO [])) (.inr (S (n.take (j + 1))))).isSome = true
        · rw [q]
          walk_at "g"
          refine ⟨d, _, rfl, DPut.k (k := .inr (S (n.take (j + 1)))) d3 (Nat.lt_of_le_of_lt c2 (Nat.lt_of_le_of_lt (show _ ≤ 100 by omega) (by decide))), ?_⟩
          exact ⟨_, _, rfl, fin _ (by rw [if_pos q])⟩
        · rw [Bool.not_eq_true] at q
          rw [q]
          walk_at "g"
          refine ⟨d, _, rfl, DPut.k (k := .inr (S (n.take (j + 1)))) d3 (Nat.lt_of_le_of_lt c2 (Nat.lt_of_le_of_lt (show _ ≤ 100 by omega) (by decide))), ?_⟩
          exact ⟨_, _, rfl, fin _ (by rw [q]; rfl)⟩
      · obtain ⟨o3, o4, rfl, s3, d3⟩ := w
        refine ⟨_, _, _, rfl, s3, ?_⟩
        rw [begP_take en, List.foldl_append]
        exact d3
    · obtain ⟨o2, o3, o4, rfl, s2, d2⟩ := w
      rw [List.length_map, List.take_of_length_le (Nat.le_refl _)] at d2
      walk_at "g"
      refine r_for ?_
      refine r_isq ?_
      walk_at "g"
      refine ⟨l, _, rfl, .inl ⟨SqL.of (s2 _ _ hl), ?_⟩⟩
      refine loop_lst (fun i σ' H' => ∃ o2 o3 o4 : Option V, σ' = [some (.ref l), some (.ref d), o2, o3, o4] ∧ Same H H' ∧ H' d = some (.dK ((ns.take i).foldl ownE ((begP ns).foldl putO [])))) (fun i σ' H' w => by obtain ⟨_, _, _, _, s, _⟩ := w; exact s _ _ hl) ⟨_, _, _, rfl, s2, d2⟩ (fun i x σ3 H3 hx w => ?_) fun σ3 H3 w => ?_
      · obtain ⟨o2, o3, o4, rfl, s3, d3⟩ := w
        rw [List.getElem?_map] at hx
        obtain ⟨n, en, rfl⟩ := Option.map_eq_some_iff.mp hx
        have i6 : i < 6 := Nat.lt_of_lt_of_le (List.getElem?_eq_some_iff.mp en).1 ok.1
        have c1 := (txk_fold1 (begP ns) [] ⟨[], rfl, List.nodup_nil⟩)
        have c2 := (txk_fold2 (ns.take i) _ c1.1).2
        have c3 := c1.2
        have c4 := begP_len ok.2.2
        have c5 := ok.1
        rw [List.length_nil] at c3
        rw [List.length_take] at c2
        walk_at "g"
        refine r_sdput ?_
        walk_at "g"
        refine ⟨d, _, rfl, DPut.k (k := .inr (S n)) d3 (Nat.lt_of_le_of_lt c2 (Nat.lt_of_le_of_lt (show _ ≤ 100 by omega) (by decide))), ?_⟩
        refine ⟨_, _, _, rfl, s3.at hd _, ?_⟩
        rw [upd_same, List.take_succ, en, Option.toList_some, List.foldl_append]
        rfl
      · obtain ⟨o2, o3, o4, rfl, s3, d3⟩ := w
        rw [List.length_map, List.take_of_length_le (Nat.le_refl _)] at d3
        have d3 : H3 d = some (.dK (owners ns)) := d3
        obtain ⟨zs, ez, ndz⟩ := owners_txk ns
        have zl : zs.length ≤ 48 := by
          have := congrArg List.length ez
          rw [List.length_map, List.length_map] at this
          rw [← this]; exact owners_len ok
        walk_at "g"
        refine r_dc ?_
        refine r_isq ?_
        walk_at "g"
        refine ⟨d, _, rfl, d3, fun q hq => ?_⟩
        have s4 := (Same.refl H3).at hq (.lst ((owners ns).map fun kv => kV kv.1))
        have e4 : upd H3 q (.lst ((owners ns).map fun kv => kV kv.1)) q = some (.lst ((zs.map S).map V.str)) := by
          rw [upd_same]
          have : ((owners ns).map fun kv => kV kv.1) = ((owners ns).map Prod.fst).map kV := by rw [List.map_map]; rfl
          rw [this, ez, List.map_map, List.map_map]
          rfl
        generalize upd H3 q (.lst ((owners ns).map fun kv => kV kv.1)) = H4 at s4 e4 ⊢
        walk_at "g"
        refine ⟨q, zs.map S, rfl, SqL.of e4, by rw [List.length_map]; omega, fun ys r hp hs hr => ?_⟩
        obtain ⟨us, rfl, hu⟩ := perm_S hp
        have up : us.Pairwise (· < ·) := sorted_lt (hu.nodup_iff.mpr ndz) (sorted_le hs)
        have all : ∀ t, t ∈ us ↔ (valV (owners ns) (.inr (S t))).isSome = true := fun t => hu.mem_iff.trans (Txk.mem ez t)
        have s5 := (Same.refl H4).at hr (.lst ((us.map S).map V.str))
        have e5 : upd H4 r (.lst ((us.map S).map V.str)) r = some (.lst ((us.map S).map V.str)) := upd_same
        generalize upd H4 r (.lst ((us.map S).map V.str)) = H5 at s5 e5 ⊢
        have d5 := s5 _ _ (s4 _ _ d3)
        have s05 := (s3.trans s4).trans s5
        have lu : us.length ≤ 48 := by rw [hu.length_eq]; exact zl
        have hq5 := SqL.of (K := K) e5
        have lr : ((us.map S).map V.str).length = us.length := by rw [List.length_map, List.length_map]
        refine ⟨r, _, rfl, .inl ⟨hq5, fun D hD => ?_⟩⟩
        refine dc_of us.length (fun i H' => Same H5 H' ∧ H' D = some (.dK (((us.take i).filterMap (own1 ns)).map begE))) ⟨(Same.refl _).at hD _, upd_same⟩ (fun i H' hi w => (seqIt_l hq5).go i H' w.1 (by rw [lr]; exact hi)) (fun H' w => by have := (seqIt_l hq5).stop H' w.1; rwa [lr] at this) (fun i H' x H'' hi w y => ?_) fun H' w => ?_
        · obtain ⟨rfl, hx⟩ := (seqIt_l hq5).yld i H' x H'' w.1 y
          rw [List.getElem?_map, List.getElem?_map] at hx
          obtain ⟨u1, hu1, rfl⟩ := Option.map_eq_some_iff.mp hx
          obtain ⟨u, eu, rfl⟩ := Option.map_eq_some_iff.mp hu1
          have d6 := w.1 _ _ d5
          have pres := (all u).mp (List.mem_of_getElem? eu)
          walk_at "g"
          refine ⟨rfl, ?_⟩
          walk_at "g"
          rcases val_own1 ns pres with ⟨n, o1, hv⟩ | ⟨o1, hv⟩
          · refine ⟨d, _, rfl, by rw [← hv]; exact DGet.k (k := .inr (S u)) d6, ?_⟩
            walk_at "g"
            rw [show (!decide (V.str (S n) = V.non)) = true by rw [decide_eq_false (fun e => nomatch e)]; rfl]
            walk_at "g"
            refine ⟨d, _, rfl, by rw [← hv]; exact DGet.k (k := .inr (S u)) d6, ?_⟩
            have lt : (((us.take i).filterMap (own1 ns)).map begE).length ≤ 48 := by
              rw [begE_len]
              exact Nat.le_trans (List.length_filterMap_le ..) (Nat.le_trans (List.length_take_le' ..) lu)
            refine ⟨_, .inr (S u), rfl, w.2, Nat.lt_of_le_of_lt lt (by decide), w.1.at hD _, ?_⟩
            rw [upd_same, filt_take eu, o1, Option.toList_some]
            rw [show (V.str (S n)) = V.str (S ((u, n) : Bg).2) from rfl, show (Sum.inr (S u) : Key) = Sum.inr (S ((u, n) : Bg).1) from rfl, begE_put fun p hp => ?_]
            obtain ⟨v, hv1, hv2⟩ := List.mem_filterMap.mp hp
            have e1 := own1_fst hv2
            intro e
            have e : p.1 = u := e
            rw [e1] at e
            subst e
            have nd2 : us.Nodup := hu.nodup_iff.mpr ndz
            exact nd_take nd2 eu hv1
          · refine ⟨d, _, rfl, by rw [← hv]; exact DGet.k (k := .inr (S u)) d6, ?_⟩
            walk_at "g"
            refine ⟨w.1, ?_⟩
            rw [filt_take eu, o1]
            simpa using w.2
        · rw [List.take_of_length_le (Nat.le_refl _)] at w
          exact k _ D _ (s05.trans w.1) (Same.non s05 hD) (begs_of ok up all) w.2
end
end K16
namespace J
open PySem PySem.Spec PyProof.Rows L2 M
abbrev Kid : Type := List Nat × Addr
def kidE (k : Kid) : Key × V := (Sum.inr (S k.1), V.ref k.2)
/-- a text leads to what its name leads to -/
def leadE (tbl : List (Key × V)) (p : Bg) : Key × V := (Sum.inr (S p.1), (valV tbl (.inr (S p.2))).getD .non)
def flagN (os : List Op) : List (List Nat) := (os.filter fun o => o.2).map Prod.fst
/-- what a node knows of its texts -/
def TxAt (H : Hp) (F : List Addr) (kt : V) (os : List Op) (kids : List Kid) : Prop := kt = .non ∨ ∃ (t d1 d2 d3 : Addr) (D1 D2 D3 : List Bg), kt = .ref t ∧ H t = some (.tup [.ref d1, .ref d2, .ref d3]) ∧ IsBegs (os.map Prod.fst) D1 ∧ H d1 = some (.dK (D1.map (leadE (numK os)))) ∧ d1 ∈ F ∧
  IsBegs (flagN os) D2 ∧ H d2 = some (.dK (D2.map (leadE (numK os)))) ∧ d2 ∈ F ∧ IsBegs (kids.map Prod.fst) D3 ∧ H d3 = some (.dK (D3.map (leadE (kids.map kidE)))) ∧ d3 ∈ F
/-- what stands at the places of F stays -/
def KeepF (F : List Addr) (H H' : Hp) : Prop := ∀ q ∈ F, ∀ o, H q = some o → H' q = some o
theorem TxAt.keep {H H' : Hp} {F F' : List Addr} {kt : V} {os : List Op} {kids : List Kid} (h : TxAt H F kt os kids) (k : KeepF F H H') (t : TupK H H') (sub : ∀ q ∈ F, q ∈ F') : TxAt H' F' kt os kids := by
  rcases h with h | ⟨a, d1, d2, d3, D1, D2, D3, e, h0, b1, h1, f1, b2, h2, f2, b3, h3, f3⟩
  · exact .inl h
  · exact .inr ⟨a, d1, d2, d3, D1, D2, D3, e, t _ _ h0, b1, k _ f1 _ h1, sub _ f1, b2, k _ f2 _ h2, sub _ f2, b3, k _ f3 _ h3, sub _ f3⟩
structure NodeAt (C : Addr) (H : Hp) (F : List Addr) (n : Addr) (ps : List Str) (os : List Op) (kids : List Kid) : Prop where
  ex : ∃ (dx p oa ga pa b no nu le ow po fi kf : Addr) (kt : V) (xs : List V), H n = some (.ins C dx (nodeF p oa ga pa b no nu le ow po fi kf kt)) ∧ n ∈ F ∧ H p = some (.tup (ps.map V.str)) ∧ H oa = some (.tup xs) ∧ OptsAt H xs os ∧ H b = some (.dK (kids.map kidE)) ∧ b ∈ F ∧ H nu = some (.dK (numK os)) ∧ nu ∈ F ∧ TxAt H F kt os kids
theorem NodeAt.keep {C : Addr} {H H' : Hp} {F F' : List Addr} {n : Addr} {ps : List Str} {os : List Op} {kids : List Kid} (h : NodeAt C H F n ps os kids) (k : KeepF F H H') (t : TupK H H') (sub : ∀ q ∈ F, q ∈ F') : NodeAt C H' F' n ps os kids := by
  obtain ⟨dx, p, oa, ga, pa, b, no, nu, le, ow, po, fi, kf, kt, xs, h1, f1, h2, h3, h4, h5, f5, h6, f6, h7⟩ := h.ex
  exact ⟨dx, p, oa, ga, pa, b, no, nu, le, ow, po, fi, kf, kt, xs, k _ f1 _ h1, sub _ f1, t _ _ h2, t _ _ h3, h4.keep t, k _ f5 _ h5, sub _ f5, k _ f6 _ h6, sub _ f6, h7.keep k t sub⟩
theorem NodeAt.is {C : Addr} {H : Hp} {F : List Addr} {n : Addr} {ps : List Str} {os : List Op} {kids : List Kid} (h : NodeAt C H F n ps os kids) : IsNode C H (.ref n) := by
  obtain ⟨dx, p, oa, ga, pa, b, no, nu, le, ow, po, fi, kf, kt, xs, h1, _⟩ := h.ex
  exact ⟨n, dx, p, oa, ga, pa, b, no, nu, le, ow, po, fi, kf, kt, rfl, h1⟩
def kidT (k : Kid) : List Key × V := ([Sum.inr (S k.1)], V.ref k.2)
structure NodesAt (C : Addr) (H : Hp) (F : List Addr) (N : Addr) (us : List (List Nat)) (os os' : List Op) : Prop where
  ex : ∃ (kvs : List (List Key × V)) (rn : Addr) (ks : List Kid), H N = some (.dT kvs) ∧ N ∈ F ∧ ks.map Prod.fst = us ∧ valV kvs [] = some (.ref rn) ∧ (∀ k ∈ ks, valV kvs [.inr (S k.1)] = some (.ref k.2) ∧ NodeAt C H F k.2 [S k.1] os' []) ∧ NodeAt C H F rn [] os ks
theorem NodesAt.keep {C : Addr} {H H' : Hp} {F F' : List Addr} {N : Addr} {us : List (List Nat)} {os os' : List Op} (h : NodesAt C H F N us os os') (k : KeepF F H H') (t : TupK H H') (sub : ∀ q ∈ F, q ∈ F') : NodesAt C H' F' N us os os' := by
  obtain ⟨kvs, rn, ks, h1, f1, h2, h3, h4, h5⟩ := h.ex
  exact ⟨kvs, rn, ks, k _ f1 _ h1, sub _ f1, h2, h3, fun x hx => ⟨(h4 x hx).1, (h4 x hx).2.keep k t sub⟩, h5.keep k t sub⟩
def spNodes (C : Addr) : Sp := fun vs H Q _ => ∃ (r dc dw : Addr) (nm : Str) (os os' : List Op) (cs : List V) (us : List (List Nat)), vs = [.ref dc, .ref dw] ∧ H dc = some (.dT ((allC (.ref r) us cs).map keyE)) ∧ CmdAt H r nm os cs ∧ OpsOk os ∧ Subs H cs us os' ∧ OpsOk os' ∧ us.Nodup ∧ cs.length ≤ 6 ∧
  ∀ H' F N, Same H H' → (∀ q ∈ F, H q = none) → NodesAt C H' F N us os os' → Q (.ref N) H'
def rListDT : List V → Hp → VK → Prop := fun xs H Q => ∃ d kvs, xs = [V.ref d] ∧ Rd H d (.dT kvs) ∧ ∀ p bs, H p = none → IsKeys H kvs bs → Q (.ref p) (upd H p (.lst (bs.map V.ref)))
theorem isKeys_at {H : Hp} {kvs : List (List Key × V)} {bs : List Addr} (h : IsKeys H kvs bs) : bs.length = kvs.length ∧ ∀ (i : Nat) (b : Addr), bs[i]? = some b → ∃ e, kvs[i]? = some e ∧ H b = some (.tup (e.1.map kV)) := by
  unfold IsKeys at h
  exact ⟨(Paired.length h).symm, fun i b hb => by obtain ⟨e, h1, h2⟩ := L2.DX.pget h hb; exact ⟨e, h1, h2⟩⟩
section
variable {K : PySem.W.Frag} {σ : L2.St} {H : Hp} {Q : VK} {g : TG} {tb : TS} {n' : L2.St → Hp → Prop} {rt : VK} {bk ct : L2.St → Hp → Prop}
theorem loop_revL {a : Addr} {xs : List V} (I : Nat → L2.St → Hp → Prop) (at_ : ∀ i σ H, I i σ H → SqL K H a xs) (start : I 0 σ H)
    (turn : ∀ (i : Nat) (x : V) σ1 H1, xs.reverse[i]? = some x → I i σ1 H1 → g x σ1 H1 fun σ2 H2 => tb ⟨I (i + 1), rt, n', I (i + 1)⟩ σ2 H2)
    (fin : ∀ σ1 H1, I xs.length σ1 H1 → n' σ1 H1) : LoopQ (Itv K a xs.length) g tb ⟨n', rt, bk, ct⟩ σ H :=
  loop_of (D := ⟨n', rt, bk, ct⟩) xs.length I start (fun i σ H hi w => ⟨hi, xs, _, at_ i σ H w, List.getElem?_eq_getElem (by omega)⟩) (fun σ H w => Nat.le_refl _) (fun i σ1 H1 x H' hi w y => by
    obtain ⟨rfl, hx⟩ := y
    have hx := hx xs (at_ i σ1 H' w)
    refine turn i x σ1 H' ?_ w
    rw [List.getElem?_reverse hi]
    exact hx) fin
end
/-- a class, where it stands, and how its instances are made -/
structure IAt (K : PySem.W.Frag) (mg : Str → Option Value) (x : Str) (C : Addr) (qual : Str) (st : Stmt) (ps : List Str) (ds : List Value) (f : Addr) (fd : FuncData) : Prop where
  fn : Fun K "__init__" qual st f fd
  mak : Mk K C f
  gl : mg x = some (.ref C)
  bd : Binds K fd ps ds
theorem r_make {C : Addr} {sp : Sp} {dvs : List V} {E : XK} {t : TA} {σ : L2.St} {H : Hp} {Q : VK} (k : t σ H fun vs H1 => ∀ x dx, H1 x = none → H1 dx = none → dx ≠ x → sp (.ref x :: (vs ++ dvs)) (upd (upd H1 dx (.own x)) x (.ins C dx [])) (fun v H2 => v = .non ∧ Q (.ref x) H2) E) : tMake C sp dvs E t σ H Q := k
end J
namespace J
open PySem PySem.Spec PyProof.Rows L2 M
theorem sw_trueD {kx vx : Expr} {gs : List Comprehension} {scope : Scope} {pos py : Pos} {y : Str} {l : Nat} {env : Env} (hk : env.scope.kind = .function) (hy : env.scope.names.lookup y = some .local) (hl : (py.line == pos.line) = true)
    (ha : (scope.names.any fun (n, k) => n == y && (k == .local || k == .cell)) = false) : swapsWith (.DictComp kx vx gs scope pos) (some (.Name y py)) l env = pure true := by
  have ky : env.kindOf y = some .local := hy
  have hb : env.blockKind = .function := by unfold Env.blockKind; rw [hk]; rfl
  unfold swapsWith
  simp only [hb, ky, ha, Expr.pos, hl]
  rfl
theorem ps_setDc {X : Cx} {i : Nat} {y : Str} {py : Pos} {kx vx tg iter : Expr} {ifs : List Expr} {scope : Scope} {own : List (Str × Nat)} {pos spos : Pos} {wi : TI} {g : TG} {tt : TT} {tk tv : TE} (hc : X.calm = true) (hN : X.N.Nodup) (hy : X.N[i]? = some y) (hyl : X.env.scope.names.lookup y = some .local)
    (hsw : swapsWith (.DictComp kx vx [⟨tg, iter, ifs, 0⟩] scope pos) (some (.Name y py)) spos.line X.env = pure true) (hi : PI X tg iter wi) (ok : BlkOk X.N X.env.scope scope own)
    (hg : ∀ (s : Shared) (H : Hp) (C : Addr) (cl : List (Str × Addr)) (fp : List Addr), PG (X.blk s H scope (compEnvC scope cl C X.env) fp) tg g) (ht : ∀ (s : Shared) (H : Hp) (C : Addr) (cl : List (Str × Addr)) (fp : List Addr), PTs (X.blk s H scope (compEnvC scope cl C X.env) fp) ifs tt)
    (hk : ∀ (s : Shared) (H : Hp) (C : Addr) (cl : List (Str × Addr)) (fp : List Addr), PE (X.blk s H scope (compEnvC scope cl C X.env) fp) kx tk)
    (he : ∀ (s : Shared) (H : Hp) (C : Addr) (cl : List (Str × Addr)) (fp : List Addr), PE (X.blk s H scope (compEnvC scope cl C X.env) fp) vx tv) (hs : ∀ x, foldedSetIterable iter X.env x = pure x := by intro _; rfl) :
    PS X (.Assign [.Name y py] (.DictComp kx vx [⟨tg, iter, ifs, 0⟩] scope pos) spos) (tAsg (tDc wi g tt tk tv (own.map (·.2))) (gName i)) := by
  refine ⟨fun pins s σ H D I h => ?_⟩
  rw [exec_Assign_Name_used _ _ _ _ hsw]
  refine wpAny_bind (wpAny_standAt (wpAny_bind ?_))
  show wpAny _ X.A (do let _ ← comprehension (.DictComp kx vx [⟨tg, iter, ifs, 0⟩] scope pos) scope X.env (firstIterPos [⟨tg, iter, ifs, 0⟩] pos) newDict false (eval iter X.env) (some (assign (.Name y py) X.env))) _ _ s
  have h : tDc wi g tt tk tv (own.map (·.2)) σ H (fun x H1 => gName i x σ H1 D.nx) := h
  refine wpAny_bind (thn (dc_core (Qf := fun _ s' => SP X pins D .next s') hc hN I hi ok hg ht hk he hs h fun L C s' m H' I' q hn f => ?_) fun _ s' hq => wpAny_pure (wpAny_pure hq))
  show wpAny _ _ (assign (.Name y py) X.env (.ref L)) _ _ _
  refine wpAny_assign_Name (store_ok2 (v := V.ref L) I' hN hy (.inl hyl) rfl (fun s2 I2 ⟨a, sb, ha⟩ => ?_) (.inr hyl))
  obtain ⟨f0, f1, f2, f3, f4, f5⟩ := f
  have haC : C ≠ a := by
    rcases ha with z | z
    · rw [z]; exact f1
    · exact fun e => f4 y a z e.symm
  refine ⟨m, hn.sameBut sb haC, fun h3 sb3 => ?_⟩
  exact ⟨_, H', I2.turned (t' := s2.toks) (fun b o hb e => (sb3.2 b hb).trans e) f0 f1 f3 f4 f5, q⟩
end J
namespace J
open PySem PySem.Spec PyProof.Rows L2 M
theorem valV_at {κ : Type} [DecidableEq κ] {kvs : List (κ × V)} (nd : (kvs.map Prod.fst).Nodup) {i : Nat} {k : κ} {v : V} (h : kvs[i]? = some (k, v)) : valV kvs k = some v := by
  induction kvs generalizing i with
  | nil => cases h
  | cons p r ih =>
    rw [List.map_cons, List.nodup_cons] at nd
    cases i with
    | zero =>
      cases h
      unfold valV
      rw [List.find?_cons_of_pos (by simp)]
      rfl
    | succ i =>
      have h : r[i]? = some (k, v) := h
      have ne : p.1 ≠ k := fun e => nd.1 (by rw [e]; exact List.mem_map.mpr ⟨(k, v), List.mem_of_getElem? h, rfl⟩)
      have := ih nd.2 h
      unfold valV at this ⊢
      rw [List.find?_cons_of_neg (by simp [ne])]
      exact this
theorem valV_mem {κ : Type} [DecidableEq κ] {kvs : List (κ × V)} (nd : (kvs.map Prod.fst).Nodup) {k : κ} {v : V} (h : (k, v) ∈ kvs) : valV kvs k = some v := by
  obtain ⟨i, hi⟩ := List.mem_iff_getElem?.mp h
  exact valV_at nd hi
theorem nd_map {α β : Type} {f : α → β} {l : List α} (inj : ∀ a b, f a = f b → a = b) (h : l.Nodup) : (l.map f).Nodup := by
  rw [List.Nodup, List.pairwise_map]
  exact List.Pairwise.imp (fun {a b} ne e => ne (inj a b e)) h
theorem allE_nd {r : V} {us : List (List Nat)} (hu : us.Nodup) (cs : List V) : (((allC r us cs).map keyE).map Prod.fst).Nodup := by
  have : ((allC r us cs).map keyE).map Prod.fst = ((allC r us cs).map Prod.fst).map (fun ns => ns.map Sum.inr) := by
    rw [List.map_map, List.map_map]; rfl
  rw [this]
  exact nd_map (fun a b e => inr_inj e) (allC_nodup hu cs)
theorem kidT_nd {ks : List Kid} (h : (ks.map Prod.fst).Nodup) : ((ks.map kidT).map Prod.fst).Nodup := by
  have : (ks.map kidT).map Prod.fst = (ks.map Prod.fst).map (fun u => [(Sum.inr (S u) : Key)]) := by
    rw [List.map_map, List.map_map]; rfl
  rw [this]
  exact nd_map (fun a b e => S_inj.mp (Sum.inr.inj (List.cons.inj e).1)) h
theorem kidE_nd {ks : List Kid} (h : (ks.map Prod.fst).Nodup) : ((ks.map kidE).map Prod.fst).Nodup := by
  have : (ks.map kidE).map Prod.fst = (ks.map Prod.fst).map (fun u => (Sum.inr (S u) : Key)) := by
    rw [List.map_map, List.map_map]; rfl
  rw [this]
  exact nd_map (fun a b e => S_inj.mp (Sum.inr.inj e)) h
theorem allC_len2 {r : V} {us : List (List Nat)} {cs : List V} (h : cs.length = us.length) : (allC r us cs).length = us.length + 1 := by
  unfold allC
  rw [List.length_cons, List.length_zipWith, h, Nat.min_self]
theorem kidE_put {ks : List Kid} {i : Nat} {k : Kid} (nd : (ks.map Prod.fst).Nodup) (h : ks[i]? = some k) : putK ((ks.take i).map kidE) (.inr (S k.1)) (.ref k.2) = (ks.take (i + 1)).map kidE := by
  rw [putK_new, List.take_succ, h, Option.toList_some, List.map_append]
  · rfl
  · refine valV_of fun e he => ?_
    obtain ⟨q, hq, rfl⟩ := List.mem_map.mp he
    intro e1
    have e2 : q.1 = k.1 := S_inj.mp (Sum.inr.inj e1)
    refine nd_take nd (i := i) (a := k.1) (by rw [List.getElem?_map, h]; rfl) ?_
    rw [← List.map_take, ← e2]
    exact List.mem_map_of_mem hq
theorem r_irev {K : PySem.W.Frag} {ta : TA} {σ : L2.St} {H : Hp} {R : It → Hp → Prop} (k : ta σ H fun vs H1 => ∃ (a : Addr) (xs : List V), vs = [.ref a] ∧ SqL K H1 a xs ∧ R (Itv K a xs.length) H1) : iRev K ta σ H R := k
end J
namespace K16
open PySem PySem.Spec PyProof.Rows L2 J M
local macro_rules | `(tactic| walk_at "hp") => `(tactic| first | assumption | exact upd_same | (rw [upd_ne (by assumption)]; walk_at "hp") | (rw [upd_ne (Ne.symm (by assumption))]; walk_at "hp"))
local macro_rules | `(tactic| walk_at "s") => `(tactic| first
  | ((with_reducible refine' r_var ?h ?k); (case h => exact rfl))
  | (with_reducible refine r_c ?_)
  | (with_reducible refine r_op ?_)
  | (with_reducible refine r_un ?_)
  | (with_reducible refine r_seq ?_)
  | (with_reducible refine r_next ?_)
  | (with_reducible refine r_sets ?_)
  | (with_reducible refine r_gname ?_)
  | (with_reducible refine r_ifS ?_)
  | (with_reducible refine r_gsub ?_)
  | (with_reducible refine r_test ?_)
  | (with_reducible refine r_tb ?_)
  | (with_reducible refine r_not ?_)
  | (with_reducible refine r_and ?_)
  | (with_reducible refine r_or ?_)
  | (with_reducible refine r_andV ?_)
  | (with_reducible refine r_orV ?_)
  | (with_reducible refine r_notV ?_)
  | (with_reducible refine r_ifE ?_)
  | (with_reducible refine r_chain ?_)
  | (with_reducible refine r_cb ?_)
  | (with_reducible refine r_cons ?_)
  | (with_reducible refine r_nil ?_)
  | (with_reducible refine r_call ?_)
  | (with_reducible refine r_lst ?_)
  | (with_reducible refine r_tup ?_)
  | (with_reducible refine r_slice ?_)
  | (with_reducible refine r_nop ?_)
  | (with_reducible refine r_part ?_)
  | (with_reducible refine r_bm ?_)
  | (with_reducible refine r_m1 ?_)
  | (with_reducible refine r_m0 ?_)
  | (with_reducible refine r_is ?_)
  | (with_reducible refine r_maxD ?_)
  | (with_reducible refine r_orT ?_)
  | (with_reducible refine r_truN ?_)
  | (with_reducible refine r_intI ?_)
  | (with_reducible refine r_intB ?_)
  | (with_reducible refine r_max2 ?_)
  | (with_reducible refine r_min2 ?_)
  | (with_reducible refine r_yes ?_)
  | (with_reducible refine r_bl ?_)
  | (with_reducible refine iteT ?_)
  | (with_reducible refine iteF ?_)
  | (with_reducible refine r_iteNT ?_)
  | (with_reducible refine r_iteNF ?_)
  | (with_reducible refine r_minL ?_)
  | (with_reducible refine r_gcons ?_)
  | (with_reducible refine r_gnil ?_)
  | (with_reducible refine r_par ?_)
  | (with_reducible refine r_par3 ?_)
  | (with_reducible refine r_is2 ?_)
  | (with_reducible refine r_is3 ?_)
  | (with_reducible refine r_dget ?_)
  | (with_reducible refine r_callS ?_)
  | (with_reducible refine r_rz ?_)
  | (with_reducible refine r_rev ?_)
  | (with_reducible refine r_isI ?_)
  | (with_reducible refine r_isStr ?_)
  | (with_reducible refine r_ret ?_)
  | (with_reducible refine r_drop ?_)
  | (with_reducible refine r_rI0 ?_)
  | (with_reducible refine r_addI ?_)
  | ((with_reducible show rI (fun _ j => 0 < j) _ (.int _) (.int _) _ _); refine r_rI (by first | omega | decide) ?_)
  | ((with_reducible show rI CDiv _ (.int _) (.int _) _ _); refine r_rI (by constructor <;> omega) ?_)
  | ((with_reducible show rI CPow _ (.int _) (.int _) _ _); refine r_rI (by refine ⟨by decide, by decide, ?_⟩; omega) ?_)
  | ((with_reducible show rMul (.int _) (.int _) _ _); refine r_mulI (cmulW (by omega) (by omega)) ?_)
  | (with_reducible refine r_cmpI ?_)
  | (with_reducible refine r_cmpS ?_)
  | (with_reducible refine r_eqI ?_)
  | (with_reducible refine r_neI ?_)
  | (with_reducible refine r_eqS ?_)
  | (with_reducible refine r_neS ?_)
  | (with_reducible refine r_inSF ?_)
  | (with_reducible refine r_inST ?_)
  | (with_reducible refine r_isiStr ?_)
  | ((with_reducible show rIx _ (.ref _) (.int _) _ _); refine' r_ixL (SqL.of ?h) ?e ?_; (case h => walk_at "hp"); (case e => rfl))
  | ((with_reducible show rSetL (.ref _) (.int _) _ _ _); refine' r_setL ?h ?e ?_; (case h => walk_at "hp"); (case e => rfl)))
local macro_rules | `(tactic| walk_at "g") => `(tactic| repeat walk_at "s")
local macro_rules | `(tactic| walk_at "x") => `(tactic| first | omega | decide +kernel | (simp only [List.length_cons, List.length_nil]; omega))
local macro_rules | `(tactic| walk_at "T1") => `(tactic| (first
  | walk_at "s"
  | ((with_reducible show rIx _ (.ref _) (.int _) _ _); refine' r_ixTu (SqT.of ?h) ?e ?_; (case h => first | assumption | walk_at "hp"); (case e => rfl))
  | (with_reducible refine r_lenSet ?_)
  | (with_reducible refine r_asg2 ?_)
  | (with_reducible refine iteDT (by walk_at "x") ?_)
  | (with_reducible refine iteDF (by walk_at "x") ?_)
  | (with_reducible refine iteNT (by walk_at "x") ?_)
  | (with_reducible refine iteNF (by walk_at "x") ?_)))
local macro_rules | `(tactic| walk_at "T") => `(tactic| repeat (first
  | walk_at "s"
  | ((with_reducible show rIx _ (.ref _) (.int _) _ _); refine' r_ixTu (SqT.of ?h) ?e ?_; (case h => first | assumption | walk_at "hp"); (case e => rfl))
  | (with_reducible refine r_lenSet ?_)
  | (with_reducible refine r_asg2 ?_)
  | (with_reducible refine iteDT (by walk_at "x") ?_)
  | (with_reducible refine iteDF (by walk_at "x") ?_)
  | (with_reducible refine iteNT (by walk_at "x") ?_)
  | (with_reducible refine iteNF (by walk_at "x") ?_)))
local macro_rules | `(tactic| walk_at "g") => `(tactic| repeat (first | walk_at "T1" | (with_reducible refine r_fld ?_) | (with_reducible refine r_sfl ?_) | (with_reducible refine r_ifT ?_) | (with_reducible refine r_nn ?_)))
section
variable {P : Program} {w : World} {K : PySem.W.Frag} {mg : Str → Option Value} {base : Heap}
theorem ok_nodes (T : Tx K mg) {C : Addr} (NC : NodeC K C) {f f_own_name f_own_words f_has_none f_fitting f_Node_has_worths f_Node_init : Addr} {fd fd_own_name fd_own_words fd_has_none fd_fitting fd_Node_has_worths fd_Node_init : FuncData} (F : Fun K "nodes_of" "nodes_of" s_nodes_of f fd)
    (D_own_name : DAt K mg "own_name" s_own_name P_own_name f_own_name fd_own_name)
    (D_own_words : DAt K mg "_own_words" s_own_words P_own_words f_own_words fd_own_words)
    (D_has_none : DAt K mg "_has_none" s_has_none P_has_none f_has_none fd_has_none)
    (D_fitting : DAt K mg "_fitting" s_fitting P_fitting f_fitting fd_fitting)
    (D_Node_init : IAt K mg "Node" C "Node.__init__" s_Node_init P_Node_init [] f_Node_init fd_Node_init)
    (D_Node_has_worths : MAt K C "has_worths" "Node.has_worths" s_Node_has_worths P_Node_has_worths f_Node_has_worths fd_Node_has_worths) : FnOk P w K mg base CX0 5 f fd P_nodes_of (spNodes C) := by
  have M_Node_has_worths := D_Node_has_worths.me
  have B_Node_has_worths := D_Node_has_worths.bd
  have K_Node := D_Node_init.mak
  have L_Node := D_Node_init.gl
  have B_Node_init := D_Node_init.bd
  have V_Node_init : Vals [] [] := .nil
  have G_Node_init : FnOk P w K mg base CX0 3 f_Node_init fd_Node_init P_Node_init (spNode C) := ok_node T NC D_Node_init.fn D_own_name D_own_words D_has_none D_fitting D_Node_has_worths
  refine F.ok sc_nodes_of (fun vs H Q E h => ?_) (fun cdv A outer s H vs Q E hr h => ?_)
  · obtain ⟨r, dc, dw, nm, os, os', cs, us, rfl, _⟩ := h
    rfl
  · obtain ⟨r, dc, dw, nm, os, os', cs, us, rfl, hdc, hc, ho, hs, ho', hu, h6, k⟩ := h
    have lcu := hs.1
    refine ⟨_, (pss_cons (ps_set (i := 2) sc_nodes_of.nd rfl (Or.inr rfl) pe_dnewT) (pss_cons (ps_for (PassesOwn.never) rfl (pi_reversed rfl T.z_reversed (pa_cons (pe_callTy (L2.call_list_dT rfl : CallR _ _ rListDT) (by rfl) T.z_list (by decide +kernel) (pa_cons (pv 0) pa_nil)) pa_nil)) (pg_name (i := 3) sc_nodes_of.nd rfl (Or.inr rfl)) (pss_cons (ps_setDc (i := 4) (own := [("below", 5)]) (g := gName 5) rfl sc_nodes_of.nd rfl rfl (sw_trueD rfl rfl rfl (by decide +kernel)) (asSeq (K := K) rfl (pi_seq (pe_ix (ix_seq : IxR _ (rIx K)) (pe_dget (hu_of hr) (pv 0) (pv 3) (fun _ _ => rfl)) (pe_gI T.c_COMMANDS rfl) (fun _ _ => rfl)))) (blkOk_by (N := N_nodes_of) (sc := defScope s_nodes_of) (by decide +kernel)) (fun _ _ _ _ _ => (pg_name (i := 5) sc_nodes_of.nd rfl (Or.inl rfl))) (fun _ _ _ _ _ => pts_nil) (fun _ _ _ _ _ => (pe_ix (ix_seq : IxR _ (rIx K)) (pv 5) (pe_gI T.c_NAME rfl) (fun _ _ => rfl))) (fun _ _ _ _ _ => (pe_dget (hu_of hr) (pv 2) (pe_op (oAdd : OpR _ _ (J.rAdd K)) (pv 3) (pe_tup (pa_cons (pe_ix (ix_seq : IxR _ (rIx K)) (pv 5) (pe_gI T.c_NAME rfl) (fun _ _ => rfl)) pa_nil))) (fun _ _ => rfl)))) (pss_one (ps_dput (hu_of hr) (pv 2) (pv 3) (pe_make K_Node G_Node_init (hr.mono (by decide)) rfl L_Node B_Node_init V_Node_init pass0 (pa_cons (pv 3) (pa_cons (pe_dget (hu_of hr) (pv 0) (pv 3) (fun _ _ => rfl)) (pa_cons (pv 1) (pa_cons (pv 4) pa_nil))))) rfl)))) (pss_one (ps_ret (pv 2))))), ?_⟩
    walk_at "g"
    intro N hN
    have s1 := (Same.refl H).at hN (.dT [])
    have d1 : upd H N (.dT []) N = some (.dT []) := upd_same
    generalize upd H N (.dT []) = H1 at s1 d1 ⊢
    walk_at "g"
    refine r_for ?_
    refine r_irev (K := K) ?_
    walk_at "g"
    refine ⟨dc, _, rfl, .inl (s1 _ _ hdc), fun q bs hq hks => ?_⟩
    obtain ⟨lb, kb⟩ := isKeys_at hks
    rw [List.length_map, allC_len2 lcu] at lb
    have s12 := (Same.refl H1).at hq (.lst (bs.map V.ref))
    have s2 := s1.trans s12
    have e2 : upd H1 q (.lst (bs.map V.ref)) q = some (.lst (bs.map V.ref)) := upd_same
    have d2 := s12 _ _ d1
    generalize upd H1 q (.lst (bs.map V.ref)) = H2 at s12 s2 e2 d2 ⊢
    have qN : q ≠ N := fun e => by subst e; exact nomatch hq.symm.trans d1
    walk_at "g"
    refine ⟨q, bs.map V.ref, rfl, SqL.of e2, ?_⟩
    refine loop_revL (fun i σ' H' => ∃ (o3 o4 o5 : Option V) (F : List Addr), σ' = [some (.ref dc), some (.ref dw), some (.ref N), o3, o4, o5] ∧ Same H H' ∧ H' q = some (.lst (bs.map V.ref)) ∧ TupK H2 H' ∧ (∀ z ∈ F, H z = none) ∧ N ∉ F ∧
      ((i ≤ us.length ∧ ∃ done : List Kid, done.map Prod.fst = us.reverse.take i ∧ H' N = some (.dT (done.map kidT)) ∧ ∀ z ∈ done, NodeAt C H' F z.2 [S z.1] os' []) ∨ (i = us.length + 1 ∧ NodesAt C H' (N :: F) N us os os'))) (fun i σ' H' w => by obtain ⟨_, _, _, _, _, _, h, _⟩ := w; exact SqL.of h)
      ⟨_, _, _, [], rfl, s2, e2, TupK.refl _, (fun _ h => nomatch h), (List.not_mem_nil), .inl ⟨Nat.zero_le _, [], rfl, d2, fun _ h => nomatch h⟩⟩ (fun i x σ1 H3 hx w => ?_) fun σ1 H3 w => ?_
    · obtain ⟨o3, o4, o5, F, rfl, s3, q3, t3, hF, nF, st⟩ := w
      have hi : i < (bs.map V.ref).length := by
        have := (List.getElem?_eq_some_iff.mp hx).1
        rwa [List.length_reverse] at this
      rw [List.getElem?_reverse hi, List.getElem?_map, List.length_map] at hx
      rw [List.length_map] at hi
      obtain ⟨bb, eb, rfl⟩ := Option.map_eq_some_iff.mp hx
      obtain ⟨e, ee, hb1⟩ := kb _ _ eb
      obtain ⟨hi2, done, hd, dN, hk⟩ := st.resolve_right fun z => by have := z.1; omega
      have kind : ∃ (ns : List Str) (a : Addr) (nm1 : Str) (os1 : List Op) (cs1 : List V) (us1 : List (List Nat)) (kl : List Kid), e = (ns.map Sum.inr, V.ref a) ∧ CmdAt H a nm1 os1 cs1 ∧ OpsOk os1 ∧ Subs H cs1 us1 os' ∧ cs1.length ≤ 6 ∧ us1.Nodup ∧ kl.map Prod.fst = us1 ∧ (∀ z ∈ kl, z ∈ done) ∧ (us1 ≠ [] → ns = []) ∧ ns.length ≤ 1 ∧
          ((i = us.length ∧ ns = [] ∧ os1 = os ∧ us1 = us) ∨ (∃ u, us.reverse[i]? = some u ∧ ns = [S u] ∧ os1 = os' ∧ kl = [])) := by
        by_cases c : i = us.length
        · subst c
          rw [show bs.length - 1 - us.length = 0 by omega] at ee
          cases ee
          refine ⟨[], r, nm, os, cs, us, done.reverse, rfl, hc, ho, hs, h6, hu, ?_, fun z hz => List.mem_reverse.mp hz, fun _ => rfl, Nat.zero_le _, .inl ⟨rfl, rfl, rfl, rfl⟩⟩
          rw [List.map_reverse, hd, List.take_of_length_le (by rw [List.length_reverse]; exact Nat.le_refl _), List.reverse_reverse]
        · have ci : i < us.length := by omega
          rw [show bs.length - 1 - i = (us.length - 1 - i) + 1 by omega, List.getElem?_map] at ee
          obtain ⟨e', ee', rfl⟩ := Option.map_eq_some_iff.mp ee
          have ee' : (kidsC us cs)[us.length - 1 - i]? = some e' := ee'
          unfold kidsC at ee'
          rw [List.getElem?_zipWith] at ee'
          cases hu1 : us[us.length - 1 - i]? with
          | none => rw [hu1] at ee'; cases ee'
          | some u =>
            cases hc1 : cs[us.length - 1 - i]? with
            | none => rw [hu1, hc1] at ee'; cases ee'
            | some x =>
              rw [hu1, hc1] at ee'
              cases ee'
              obtain ⟨c, u', rfl, eu', nm', cm⟩ := hs.2 _ _ hc1
              obtain rfl : u = u' := Option.some.inj (hu1.symm.trans eu')
              exact ⟨[S u], c, S u, os', [], [], [], rfl, cm, ho', ⟨rfl, fun _ _ h => nomatch h⟩, by decide, List.nodup_nil, rfl, (fun _ h => nomatch h), (fun n => (n rfl).elim), Nat.le_refl _, .inr ⟨u, by rw [List.getElem?_reverse ci]; exact hu1, rfl, rfl, rfl⟩⟩
      obtain ⟨ns, a, nm1, os1, cs1, us1, kl, rfl, cm, ok1, sb1, l6, nd1, hkl, kld, nsE, nl, kind⟩ := kind
      have vE := valV_at (allE_nd hu cs) ee
      have ndd : (done.map Prod.fst).Nodup := by
        rw [hd]
        exact ((List.reverse_perm us).nodup_iff.mpr hu).sublist (List.take_sublist ..)
      have dlen : done.length = i := by
        have := congrArg List.length hd
        rw [List.length_map, List.length_take, List.length_reverse] at this
        omega
      have vK : ∀ z ∈ done, valV (done.map kidT) [.inr (S z.1)] = some (.ref z.2) := fun z hz => valV_mem (kidT_nd ndd) (List.mem_map.mpr ⟨z, hz, rfl⟩)
      rw [show ((ns.map Sum.inr, V.ref a) : List Key × V).1 = ns.map Sum.inr from rfl, kV_inr] at hb1
      have hb3 := t3 _ _ (s12 _ _ hb1)
      have lku : kl.length = us1.length := by rw [← hkl, List.length_map]
      have l1 := sb1.1
      obtain ⟨oa1, pa1, ga1, ca1, xs1, c1, c2, c3, c4, c5, c7⟩ := (cm.keep (TupK.of s3)).ex
      have hdc3 := s3 _ _ hdc
      walk_at "g"
      refine r_dc ?_
      refine r_isq ?_
      walk_at "g"
      refine ⟨dc, _, rfl, by rw [← vE]; exact DGet.t (k := ns.map Sum.inr) hdc3 (by rw [kV_inr]; exact hb3), ?_⟩
      walk_at "g"
      refine ⟨ca1, cs1, rfl, .inr ⟨SqT.of c7, fun D hD => ?_⟩⟩
      have DN : D ≠ N := fun e => by subst e; exact nomatch hD.symm.trans dN
      refine dc_of us1.length (fun j H' => Same H3 H' ∧ H' D = some (.dK ((kl.take j).map kidE))) ⟨(Same.refl _).at hD _, upd_same⟩ (fun j H' hj w => (seqIt_t (SqT.of (K := K) c7)).go j H' w.1 (by rw [l1]; exact hj)) (fun H' w => by have := (seqIt_t (SqT.of (K := K) c7)).stop H' w.1; rwa [l1] at this) (fun j H' x H'' hj w y => ?_) fun H4 w => ?_
      · obtain ⟨rfl, hx2⟩ := (seqIt_t (SqT.of (K := K) c7)).yld j H' x H'' w.1 y
        obtain ⟨c, u, rfl, eu, nmu, cmu⟩ := sb1.2 j x hx2
        obtain ⟨kd, hkd⟩ : ∃ kd, kl[j]? = some kd := ⟨_, List.getElem?_eq_getElem (by rw [lku]; exact hj)⟩
        have ku : kd.1 = u := by
          have : (kl.map Prod.fst)[j]? = some kd.1 := by rw [List.getElem?_map, hkd]; rfl
          rw [hkl, eu] at this
          exact (Option.some.inj this).symm
        subst ku
        obtain rfl : ns = [] := nsE fun e => by rw [e] at hj; exact absurd hj (Nat.not_lt_zero _)
        obtain ⟨oa2, pa2, ga2, ca2, xs2, u1, _⟩ := (cmu.keep (TupK.of (s3.trans w.1))).ex
        have hb4 := w.1 _ _ hb3
        walk_at "g"
        refine ⟨rfl, ?_⟩
        walk_at "g"
        refine ⟨show 1 ≤ sizeLine by decide, fun tq htq => ?_⟩
        have s5 := (Same.refl H'').at htq (.tup [.str (S kd.1)])
        have e5 : upd H'' tq (.tup [.str (S kd.1)]) tq = some (.tup [.str (S kd.1)]) := upd_same
        generalize upd H'' tq (.tup [.str (S kd.1)]) = H5 at s5 e5 ⊢
        refine r_catT2 (s5 _ _ hb4) e5 (by simp) fun tc H6 s6 htc => ?_
        have dN6 := s6 _ _ (s5 _ _ (w.1 _ _ dN))
        refine ⟨N, _, rfl, by rw [← vK kd (kld kd (List.mem_of_getElem? hkd))]; exact DGet.t (k := [.inr (S kd.1)]) dN6 htc, ?_⟩
        refine ⟨_, .inr (S kd.1), rfl, s6 _ _ (s5 _ _ w.2), ?_, ((w.1.trans s5).trans s6).at hD _, ?_⟩
        · rw [List.length_map, List.length_take]
          exact Nat.lt_of_le_of_lt (show _ ≤ 6 by omega) (by decide)
        · rw [upd_same, kidE_put (by rw [hkl]; exact nd1) hkd]
      · obtain ⟨s4, d4⟩ := w
        rw [List.take_of_length_le (by rw [lku]; exact Nat.le_refl _)] at d4
        have s34 := s3.trans s4
        have dN4 := s4 _ _ dN
        have hb4 := s4 _ _ hb3
        walk_at "g"
        refine r_sdput ?_
        refine r_make ?_
        walk_at "g"
        refine ⟨dc, _, rfl, by rw [← vE]; exact DGet.t (k := ns.map Sum.inr) (s4 _ _ hdc3) (by rw [kV_inr]; exact hb4), ?_⟩
        walk_at "g"
        intro x dx hx0 hdx hne
        have s45 : Same H4 (upd (upd H4 dx (.own x)) x (.ins C dx [])) := ((Same.refl H4).at hdx _).at hx0 _
        have x5 : upd (upd H4 dx (.own x)) x (.ins C dx []) x = some (.ins C dx []) := upd_same
        generalize upd (upd H4 dx (.own x)) x (.ins C dx []) = H5 at s45 x5 ⊢
        have s05 := s34.trans s45
        refine ⟨x, bb, a, dw, D, dx, nm1, os1, cs1, kl.map kidE, rfl, x5, cm.keep (TupK.of s05), ok1, s45 _ _ d4, by rw [List.length_map, lku]; omega, fun kv hkv => ?_, fun H6 oa6 ga6 pa6 no6 nu6 le6 ow6 po6 fi6 kf6 xs6 kb6 hnu6 hoa6 hxs6 hx6 hnu6' => ?_⟩
        · obtain ⟨z, hz, rfl⟩ := List.mem_map.mp hkv
          exact ((hk z (kld z hz)).keep (fun p _ o h => s45 _ _ (s4 _ _ h)) (TupK.of (s4.trans s45)) fun p h => h).is
        · refine ⟨rfl, ?_⟩
          have s46 : Same H4 H6 := fun p o h => kb6 p o (fun e => by subst e; exact nomatch hx0.symm.trans h) (s45 _ _ h)
          have xN : x ≠ N := fun e => by subst e; exact nomatch hx0.symm.trans dN4
          have xD : x ≠ D := fun e => by subst e; exact nomatch hx0.symm.trans d4
          have nuN : nu6 ≠ N := fun e => by subst e; exact nomatch hnu6.symm.trans (s45 _ _ dN4)
          have nuD : nu6 ≠ D := fun e => by subst e; exact nomatch hnu6.symm.trans (s45 _ _ d4)
          have dN6 := s46 _ _ dN4
          have s06 := s34.trans s46
          walk_at "g"
          refine ⟨N, _, rfl, DPut.t (k := ns.map Sum.inr) dN6 (by rw [kV_inr]; exact s46 _ _ hb4) (by rw [List.length_map, dlen]; exact Nat.lt_of_le_of_lt (show _ ≤ 6 by omega) (by decide)), ?_⟩
          have T67 : ∀ v, TupK H6 (upd H6 N (.dT (putK (done.map kidT) (ns.map Sum.inr) v))) := fun v => TupK.upd (fun xs h => by rw [dN6] at h; cases h)
          have F67 : ∀ v (G : List Addr), N ∉ G → KeepF G H6 (upd H6 N (.dT (putK (done.map kidT) (ns.map Sum.inr) v))) := fun v G hG p hp o h => by
            rw [upd_ne (fun e => hG (by rw [← e]; exact hp))]; exact h
          have fx : H x = none := Same.non s34 hx0
          have fD : H D = none := Same.non s3 hD
          have fnu : H nu6 = none := Same.non s05 hnu6
          have nF' : N ∉ x :: D :: nu6 :: F := by
            simp only [List.mem_cons, not_or]
            exact ⟨Ne.symm xN, Ne.symm DN, Ne.symm nuN, nF⟩
          have node : NodeAt C H6 (x :: D :: nu6 :: F) x ns os1 kl := ⟨dx, bb, oa6, ga6, pa6, D, no6, nu6, le6, ow6, po6, fi6, kf6, .non, xs6, hx6, List.mem_cons_self .., s46 _ _ hb4, kb6.tup x5 _ _ hoa6, hxs6.keep (kb6.tup x5), s46 _ _ d4, List.mem_cons_of_mem _ (List.mem_cons_self ..), hnu6', List.mem_cons_of_mem _ (List.mem_cons_of_mem _ (List.mem_cons_self ..)), .inl rfl⟩
          have sub : ∀ z ∈ F, z ∈ x :: D :: nu6 :: F := fun z hz => List.mem_cons_of_mem _ (List.mem_cons_of_mem _ (List.mem_cons_of_mem _ hz))
          have olds : ∀ z ∈ done, NodeAt C H6 (x :: D :: nu6 :: F) z.2 [S z.1] os' [] := fun z hz => (hk z hz).keep (fun p _ o h => s46 _ _ (s4 _ _ h)) (TupK.of (s4.trans s46)) sub
          refine ⟨_, _, _, x :: D :: nu6 :: F, rfl, s06.at hN _, ?_, ?_, ?_, nF', ?_⟩
          · rw [upd_ne qN]; exact s46 _ _ (s4 _ _ q3)
          · exact (t3.trans (TupK.of (s4.trans s46))).trans (T67 _)
          · intro z hz
            rcases List.mem_cons.mp hz with rfl | hz
            · exact fx
            · rcases List.mem_cons.mp hz with rfl | hz
              · exact fD
              · rcases List.mem_cons.mp hz with rfl | hz
                · exact fnu
                · exact hF z hz
          · rcases kind with ⟨ei, rfl, rfl, rfl⟩ | ⟨u, hur, rfl, rfl, rfl⟩
            · refine .inr ⟨by rw [ei], ⟨putK (done.map kidT) [] (.ref x), x, kl, upd_same, List.mem_cons_self .., hkl, ?_, fun z hz => ⟨?_, ?_⟩, ?_⟩⟩
              · rw [valV_put, if_pos rfl]
              · rw [valV_put, if_neg (fun e => nomatch e)]
                exact vK z (kld z hz)
              · exact (olds z (kld z hz)).keep (F67 _ _ nF') (T67 _) fun p h => List.mem_cons_of_mem _ h
              · exact node.keep (F67 _ _ nF') (T67 _) fun p h => List.mem_cons_of_mem _ h
            · have ci : i < us.length := by
                have := (List.getElem?_eq_some_iff.mp hur).1
                rwa [List.length_reverse] at this
              refine .inl ⟨ci, done ++ [(u, x)], ?_, ?_, fun z hz => ?_⟩
              · rw [List.map_append, hd, List.take_succ, hur]; rfl
              · rw [upd_same, List.map_append]
                rw [putK_new]
                · rfl
                · refine valV_of fun e he => ?_
                  obtain ⟨z, hz, rfl⟩ := List.mem_map.mp he
                  intro e1
                  have e1 : z.1 = u := S_inj.mp (Sum.inr.inj (List.cons.inj e1).1)
                  refine nd_take ((List.reverse_perm us).nodup_iff.mpr hu) hur ?_
                  rw [← hd, ← e1]
                  exact List.mem_map_of_mem hz
              · rcases List.mem_append.mp hz with hz | hz
                · exact (olds z hz).keep (F67 _ _ nF') (T67 _) fun p h => h
                · obtain rfl := List.mem_singleton.mp hz
                  exact node.keep (F67 _ _ nF') (T67 _) fun p h => h
    · obtain ⟨o3, o4, o5, F, rfl, s3, q3, t3, hF, nF, st⟩ := w
      rw [List.length_map, lb] at st
      have nodes := (st.resolve_left fun z => by have := z.1; omega).2
      walk_at "g"
      exact k _ (N :: F) N s3 (fun z hz => (List.mem_cons.mp hz).elim (fun e => e ▸ hN) (hF z)) nodes
end
end K16
namespace J
open PySem PySem.Spec PyProof.Rows L2 M
theorem KeepB.of_nd {g : Addr} {H H' : Hp} {C dx : Addr} {fs : List (Str × V)} (k : KeepB g H H') (h : H g = some (.ins C dx fs)) {p : Addr} {kvs : List (Key × V)} (e : H p = some (.dK kvs)) : H' p = some (.dK kvs) := k.nd h e (fun _ _ _ z => nomatch z)
theorem TxAt.keepB {H H' : Hp} {F F' : List Addr} {kt : V} {os : List Op} {kids : List Kid} {g C dx : Addr} {fs : List (Str × V)} (h : TxAt H F kt os kids) (k : KeepB g H H') (hg : H g = some (.ins C dx fs)) (sub : ∀ q ∈ F, q ∈ F') : TxAt H' F' kt os kids := by
  rcases h with h | ⟨a, d1, d2, d3, D1, D2, D3, e, h0, b1, h1, f1, b2, h2, f2, b3, h3, f3⟩
  · exact .inl h
  · exact .inr ⟨a, d1, d2, d3, D1, D2, D3, e, k.tup hg _ _ h0, b1, k.of_nd hg h1, sub _ f1, b2, k.of_nd hg h2, sub _ f2, b3, k.of_nd hg h3, sub _ f3⟩
theorem NodeAt.keepB {C : Addr} {H H' : Hp} {F F' : List Addr} {n : Addr} {ps : List Str} {os : List Op} {kids : List Kid} {g C' dx' : Addr} {fs : List (Str × V)} (h : NodeAt C H F n ps os kids) (k : KeepB g H H') (hg : H g = some (.ins C' dx' fs)) (ne : n ≠ g) (sub : ∀ q ∈ F, q ∈ F') : NodeAt C H' F' n ps os kids := by
  obtain ⟨dx, p, oa, ga, pa, b, no, nu, le, ow, po, fi, kf, kt, xs, h1, f1, h2, h3, h4, h5, f5, h6, f6, h7⟩ := h.ex
  exact ⟨dx, p, oa, ga, pa, b, no, nu, le, ow, po, fi, kf, kt, xs, k _ _ ne h1, sub _ f1, k.tup hg _ _ h2, k.tup hg _ _ h3, h4.keep (k.tup hg), k.of_nd hg h5, sub _ f5, k.of_nd hg h6, sub _ f6, h7.keepB k hg sub⟩
theorem str_inj {a b : List Str} (h : a.map V.str = b.map V.str) : a = b := by
  induction a generalizing b with
  | nil => cases b with
    | nil => rfl
    | cons _ _ => cases h
  | cons x r ih => cases b with
    | nil => cases h
    | cons y t =>
      rw [List.map_cons, List.map_cons, List.cons.injEq] at h
      rw [V.str.inj h.1, ih h.2]
theorem NodeAt.path {C : Addr} {H : Hp} {F F' : List Addr} {n : Addr} {ps ps' : List Str} {os os' : List Op} {kids kids' : List Kid} (h : NodeAt C H F n ps os kids) (h' : NodeAt C H F' n ps' os' kids') : ps = ps' := by
  obtain ⟨dx, p, oa, ga, pa, b, no, nu, le, ow, po, fi, kf, kt, xs, h1, f1, h2, _⟩ := h.ex
  obtain ⟨dx', p', oa', ga', pa', b', no', nu', le', ow', po', fi', kf', kt', xs', h1', f1', h2', _⟩ := h'.ex
  have e := h1.symm.trans h1'
  have e := HO.ins.inj (Option.some.inj e)
  have e := e.2.2
  unfold nodeF at e
  have e := (List.cons.inj e).1
  have ep : p = p' := V.ref.inj (Prod.mk.inj e).2
  subst ep
  have e2 := h2.symm.trans h2'
  exact str_inj (HO.tup.inj (Option.some.inj e2))
theorem NodeAt.ins {C : Addr} {H : Hp} {F : List Addr} {n : Addr} {ps : List Str} {os : List Op} {kids : List Kid} (h : NodeAt C H F n ps os kids) : ∃ dx fs, H n = some (.ins C dx fs) := by
  obtain ⟨dx, p, oa, ga, pa, b, no, nu, le, ow, po, fi, kf, kt, xs, h1, _⟩ := h.ex
  exact ⟨_, _, h1⟩
theorem NodeAt.inF {C : Addr} {H : Hp} {F : List Addr} {n : Addr} {ps : List Str} {os : List Op} {kids : List Kid} (h : NodeAt C H F n ps os kids) : n ∈ F := by
  obtain ⟨dx, p, oa, ga, pa, b, no, nu, le, ow, po, fi, kf, kt, xs, h1, f1, _⟩ := h.ex
  exact f1
/-- one of the nodes has changed -/
theorem NodesAt.root {C : Addr} {H H' : Hp} {F F' : List Addr} {N rn : Addr} {us : List (List Nat)} {os os' : List Op} {kvs : List (List Key × V)} {ks : List Kid} (h1 : H N = some (.dT kvs)) (f1 : N ∈ F) (h2 : ks.map Prod.fst = us) (h3 : valV kvs [] = some (.ref rn)) (h4 : ∀ k ∈ ks, valV kvs [.inr (S k.1)] = some (.ref k.2) ∧ NodeAt C H F k.2 [S k.1] os' [])
    (h5 : NodeAt C H F rn [] os ks) (k : KeepB rn H H') (sub : ∀ q ∈ F, q ∈ F') (new : NodeAt C H' F' rn [] os ks) : NodesAt C H' F' N us os os' := by
  obtain ⟨dx, fs, hi⟩ := h5.ins
  refine ⟨kvs, rn, ks, k.nd hi h1 (fun _ _ _ z => nomatch z), sub _ f1, h2, h3, fun x hx => ⟨(h4 x hx).1, (h4 x hx).2.keepB k hi (fun e => ?_) sub⟩, new⟩
  have a := (h4 x hx).2
  rw [e] at a
  exact nomatch a.path h5
theorem NodesAt.kid {C : Addr} {H H' : Hp} {F F' : List Addr} {N rn : Addr} {us : List (List Nat)} {os os' : List Op} {kvs : List (List Key × V)} {ks : List Kid} (h1 : H N = some (.dT kvs)) (f1 : N ∈ F) (h2 : ks.map Prod.fst = us) (hu : us.Nodup) (h3 : valV kvs [] = some (.ref rn)) (h4 : ∀ k ∈ ks, valV kvs [.inr (S k.1)] = some (.ref k.2) ∧ NodeAt C H F k.2 [S k.1] os' [])
    (h5 : NodeAt C H F rn [] os ks) {x : Kid} (hx : x ∈ ks) (k : KeepB x.2 H H') (sub : ∀ q ∈ F, q ∈ F') (new : NodeAt C H' F' x.2 [S x.1] os' []) : NodesAt C H' F' N us os os' := by
  obtain ⟨dx, fs, hi⟩ := (h4 x hx).2.ins
  refine ⟨kvs, rn, ks, k.nd hi h1 (fun _ _ _ z => nomatch z), sub _ f1, h2, h3, fun y hy => ⟨(h4 y hy).1, ?_⟩, h5.keepB k hi (fun e => ?_) sub⟩
  · by_cases e : y.2 = x.2
    · have a := (h4 y hy).2
      rw [e] at a
      have e1 := (List.cons.inj (a.path (h4 x hx).2)).1
      rw [e, e1]
      exact new
    · exact (h4 y hy).2.keepB k hi e sub
  · have a := (h4 x hx).2
    rw [← e] at a
    exact nomatch a.path h5
def spTextsN (C : Addr) : Sp := fun vs H Q _ => ∃ (n : Addr) (F : List Addr) (ps : List Str) (os : List Op) (kids : List Kid), vs = [.ref n] ∧ NodeAt C H F n ps os kids ∧ OpsOk os ∧ NmsOk (kids.map Prod.fst) ∧
  ∀ H' F' t d1 d2 d3 D1 D2 D3, KeepB n H H' → (∀ z ∈ F', z ∈ F ∨ H z = none) → (∀ z ∈ F, z ∈ F') → NodeAt C H' F' n ps os kids → H' t = some (.tup [.ref d1, .ref d2, .ref d3]) → IsBegs (os.map Prod.fst) D1 → H' d1 = some (.dK (D1.map (leadE (numK os)))) → d1 ∈ F' →
    IsBegs (flagN os) D2 → H' d2 = some (.dK (D2.map (leadE (numK os)))) → d2 ∈ F' → IsBegs (kids.map Prod.fst) D3 → H' d3 = some (.dK (D3.map (leadE (kids.map kidE)))) → d3 ∈ F' → Q (.ref t) H'
theorem opsNms {os : List Op} (h : OpsOk os) : NmsOk (os.map Prod.fst) := ⟨by rw [List.length_map]; exact h.1, h.2.2, fun n hn => by
  obtain ⟨o, ho, rfl⟩ := List.mem_map.mp hn
  exact (h.2.1 o ho).1⟩
theorem flagNms {os : List Op} (h : OpsOk os) : NmsOk (flagN os) := by
  have s : (flagN os).Sublist (os.map Prod.fst) := List.Sublist.map _ List.filter_sublist
  obtain ⟨a, b, c⟩ := opsNms h
  exact ⟨Nat.le_trans s.length_le a, b.sublist s, fun n hn => c n (s.subset hn)⟩
theorem numK_keys (os : List Op) : ((numK os).map fun kv => kV kv.1) = (os.map Prod.fst).map fun n => V.str (S n) := by
  unfold numK
  rw [List.map_map, List.map_map]
  show os.zipIdx.map ((fun o : Op => V.str (S o.1)) ∘ Prod.fst) = _
  rw [← List.map_map, List.zipIdx_map_fst]
  rfl
theorem kidE_keys (ks : List Kid) : ((ks.map kidE).map fun kv => kV kv.1) = (ks.map Prod.fst).map fun n => V.str (S n) := by
  rw [List.map_map, List.map_map]; rfl
theorem IsBegs.nd {ns : List (List Nat)} {D : List Bg} (h : IsBegs ns D) : (D.map Prod.fst).Nodup := by
  refine List.Pairwise.imp (fun {a b} lt => ?_) h.up
  rintro rfl
  exact List.lt_irrefl _ lt
theorem nd_len {α : Type} [DecidableEq α] {l m : List α} (nd : l.Nodup) (h : ∀ x ∈ l, x ∈ m) : l.length ≤ m.length := by
  induction l generalizing m with
  | nil => exact Nat.zero_le _
  | cons a l ih =>
    obtain ⟨n1, n2⟩ := List.nodup_cons.mp nd
    have ha := h a (List.mem_cons_self ..)
    have := ih (m := m.erase a) n2 fun x hx => (List.mem_erase_of_ne fun e => n1 (by rw [← e]; exact hx)).mpr (h x (List.mem_cons_of_mem _ hx))
    rw [List.length_erase_of_mem ha] at this
    have p := List.length_pos_of_mem ha
    rw [List.length_cons]
    omega
theorem begE_nd {D : List Bg} (h : (D.map Prod.fst).Nodup) : ((D.map begE).map Prod.fst).Nodup := by
  have : (D.map begE).map Prod.fst = (D.map Prod.fst).map (fun u => (Sum.inr (S u) : Key)) := by
    rw [List.map_map, List.map_map]; rfl
  rw [this]
  exact nd_map (fun a b e => S_inj.mp (Sum.inr.inj e)) h
theorem leadE_put {tbl : List (Key × V)} {D : List Bg} {i : Nat} {p : Bg} (nd : (D.map Prod.fst).Nodup) (h : D[i]? = some p) {v : V} (hv : valV tbl (.inr (S p.2)) = some v) : putK ((D.take i).map (leadE tbl)) (.inr (S p.1)) v = (D.take (i + 1)).map (leadE tbl) := by
  rw [putK_new, List.take_succ, h, Option.toList_some, List.map_append]
  · show _ ++ [_] = _ ++ [leadE tbl p]
    unfold leadE
    rw [hv]
    rfl
  · refine valV_of fun e he => ?_
    obtain ⟨q, hq, rfl⟩ := List.mem_map.mp he
    intro e1
    have e2 : q.1 = p.1 := S_inj.mp (Sum.inr.inj e1)
    refine nd_take nd (i := i) (a := p.1) (by rw [List.getElem?_map, h]; rfl) ?_
    rw [← List.map_take, ← e2]
    exact List.mem_map_of_mem hq
theorem begs_len {ns : List (List Nat)} (ok : NmsOk ns) {D : List Bg} (h : IsBegs ns D) : D.length ≤ 48 := by
  obtain ⟨zs, ez, ndz⟩ := owners_txk ns
  have sub : ∀ t ∈ D.map Prod.fst, t ∈ zs := fun t ht => by
    obtain ⟨p, hp, rfl⟩ := List.mem_map.mp ht
    have := (own1_due ok).mpr ((h.iff p.1 p.2).mp hp)
    exact (Txk.mem ez p.1).mpr (own_some this)
  have l := nd_len h.nd sub
  have zl := owners_len ok
  have e := congrArg List.length ez
  rw [List.length_map, List.length_map] at e
  rw [List.length_map] at l
  omega
theorem numK_nd {os : List Op} (h : (os.map Prod.fst).Nodup) : ((numK os).map Prod.fst).Nodup := by
  have : (numK os).map Prod.fst = (os.map Prod.fst).map (fun u => (Sum.inr (S u) : Key)) := by
    unfold numK
    rw [List.map_map, List.map_map]
    show os.zipIdx.map ((fun o : Op => (Sum.inr (S o.1) : Key)) ∘ Prod.fst) = _
    rw [← List.map_map, List.zipIdx_map_fst]
    rfl
  rw [this]
  exact nd_map (fun a b e => S_inj.mp (Sum.inr.inj e)) h
theorem num_at {os : List Op} (h : (os.map Prod.fst).Nodup) {n : List Nat} (hn : n ∈ os.map Prod.fst) : ∃ (i : Nat) (o : Op), os[i]? = some o ∧ o.1 = n ∧ valV (numK os) (.inr (S n)) = some (.int (i : Nat)) := by
  obtain ⟨i, hi⟩ := List.mem_iff_getElem?.mp hn
  rw [List.getElem?_map] at hi
  obtain ⟨o, ho, rfl⟩ := Option.map_eq_some_iff.mp hi
  refine ⟨i, o, ho, rfl, valV_at (numK_nd h) (i := i) ?_⟩
  unfold numK
  rw [List.getElem?_map, List.getElem?_zipIdx, ho]
  simp
theorem kid_at {ks : List Kid} (h : (ks.map Prod.fst).Nodup) {n : List Nat} (hn : n ∈ ks.map Prod.fst) : ∃ k ∈ ks, k.1 = n ∧ valV (ks.map kidE) (.inr (S n)) = some (.ref k.2) := by
  obtain ⟨k, hk, rfl⟩ := List.mem_map.mp hn
  exact ⟨k, hk, rfl, valV_mem (kidE_nd h) (List.mem_map.mpr ⟨k, hk, rfl⟩)⟩
theorem IsBegs.src {ns : List (List Nat)} {D : List Bg} (h : IsBegs ns D) {p : Bg} (hp : p ∈ D) : p.2 ∈ ns := ((h.iff p.1 p.2).mp hp).1
theorem flag_in {os : List Op} {n : List Nat} (h : n ∈ flagN os) : n ∈ os.map Prod.fst := (List.Sublist.map _ List.filter_sublist).subset h
theorem flag_take {os : List Op} {i : Nat} {o : Op} (h : os[i]? = some o) : flagN (os.take (i + 1)) = flagN (os.take i) ++ (if o.2 = true then [o.1] else []) := by
  unfold flagN
  rw [List.take_succ, h, Option.toList_some, List.filter_append, List.map_append]
  cases e : o.2 with
  | true => rw [List.filter_cons_of_pos (by simp [e])]; rfl
  | false => rw [List.filter_cons_of_neg (by simp [e])]; rfl
end J
namespace K16
open PySem PySem.Spec PyProof.Rows L2 J M
local macro_rules | `(tactic| walk_at "hp") => `(tactic| first | assumption | exact upd_same | (rw [upd_ne (by assumption)]; walk_at "hp") | (rw [upd_ne (Ne.symm (by assumption))]; walk_at "hp"))
local macro_rules | `(tactic| walk_at "s") => `(tactic| first
  | ((with_reducible refine' r_var ?h ?k); (case h => exact rfl))
  | (with_reducible refine r_c ?_)
  | (with_reducible refine r_op ?_)
  | (with_reducible refine r_un ?_)
  | (with_reducible refine r_seq ?_)
  | (with_reducible refine r_next ?_)
  | (with_reducible refine r_sets ?_)
  | (with_reducible refine r_gname ?_)
  | (with_reducible refine r_ifS ?_)
  | (with_reducible refine r_gsub ?_)
  | (with_reducible refine r_test ?_)
  | (with_reducible refine r_tb ?_)
  | (with_reducible refine r_not ?_)
  | (with_reducible refine r_and ?_)
  | (with_reducible refine r_or ?_)
  | (with_reducible refine r_andV ?_)
  | (with_reducible refine r_orV ?_)
  | (with_reducible refine r_notV ?_)
  | (with_reducible refine r_ifE ?_)
  | (with_reducible refine r_chain ?_)
  | (with_reducible refine r_cb ?_)
  | (with_reducible refine r_cons ?_)
  | (with_reducible refine r_nil ?_)
  | (with_reducible refine r_call ?_)
  | (with_reducible refine r_lst ?_)
  | (with_reducible refine r_tup ?_)
  | (with_reducible refine r_slice ?_)
  | (with_reducible refine r_nop ?_)
  | (with_reducible refine r_part ?_)
  | (with_reducible refine r_bm ?_)
  | (with_reducible refine r_m1 ?_)
  | (with_reducible refine r_m0 ?_)
  | (with_reducible refine r_is ?_)
  | (with_reducible refine r_maxD ?_)
  | (with_reducible refine r_orT ?_)
  | (with_reducible refine r_truN ?_)
  | (with_reducible refine r_intI ?_)
  | (with_reducible refine r_intB ?_)
  | (with_reducible refine r_max2 ?_)
  | (with_reducible refine r_min2 ?_)
  | (with_reducible refine r_yes ?_)
  | (with_reducible refine r_bl ?_)
  | (with_reducible refine iteT ?_)
  | (with_reducible refine iteF ?_)
  | (with_reducible refine r_iteNT ?_)
  | (with_reducible refine r_iteNF ?_)
  | (with_reducible refine r_minL ?_)
  | (with_reducible refine r_gcons ?_)
  | (with_reducible refine r_gnil ?_)
  | (with_reducible refine r_par ?_)
  | (with_reducible refine r_par3 ?_)
  | (with_reducible refine r_is2 ?_)
  | (with_reducible refine r_is3 ?_)
  | (with_reducible refine r_dget ?_)
  | (with_reducible refine r_callS ?_)
  | (with_reducible refine r_rz ?_)
  | (with_reducible refine r_rev ?_)
  | (with_reducible refine r_isI ?_)
  | (with_reducible refine r_isStr ?_)
  | (with_reducible refine r_ret ?_)
  | (with_reducible refine r_drop ?_)
  | (with_reducible refine r_rI0 ?_)
  | (with_reducible refine r_addI ?_)
  | ((with_reducible show rI (fun _ j => 0 < j) _ (.int _) (.int _) _ _); refine r_rI (by first | omega | decide) ?_)
  | ((with_reducible show rI CDiv _ (.int _) (.int _) _ _); refine r_rI (by constructor <;> omega) ?_)
  | ((with_reducible show rI CPow _ (.int _) (.int _) _ _); refine r_rI (by refine ⟨by decide, by decide, ?_⟩; omega) ?_)
  | ((with_reducible show rMul (.int _) (.int _) _ _); refine r_mulI (cmulW (by omega) (by omega)) ?_)
  | (with_reducible refine r_cmpI ?_)
  | (with_reducible refine r_cmpS ?_)
  | (with_reducible refine r_eqI ?_)
  | (with_reducible refine r_neI ?_)
  | (with_reducible refine r_eqS ?_)
  | (with_reducible refine r_neS ?_)
  | (with_reducible refine r_inSF ?_)
  | (with_reducible refine r_inST ?_)
  | (with_reducible refine r_isiStr ?_)
  | ((with_reducible show rIx _ (.ref _) (.int _) _ _); refine' r_ixL (SqL.of ?h) ?e ?_; (case h => walk_at "hp"); (case e => rfl))
  | ((with_reducible show rSetL (.ref _) (.int _) _ _ _); refine' r_setL ?h ?e ?_; (case h => walk_at "hp"); (case e => rfl)))
local macro_rules | `(tactic| walk_at "g") => `(tactic| repeat walk_at "s")
local macro_rules | `(tactic| walk_at "x") => `(tactic| first | omega | decide +kernel | (simp only [List.length_cons, List.length_nil]; omega))
local macro_rules | `(tactic| walk_at "T1") => `(tactic| (first
  | walk_at "s"
  | ((with_reducible show rIx _ (.ref _) (.int _) _ _); refine' r_ixTu (SqT.of ?h) ?e ?_; (case h => first | assumption | walk_at "hp"); (case e => rfl))
  | (with_reducible refine r_lenSet ?_)
  | (with_reducible refine r_asg2 ?_)
  | (with_reducible refine iteDT (by walk_at "x") ?_)
  | (with_reducible refine iteDF (by walk_at "x") ?_)
  | (with_reducible refine iteNT (by walk_at "x") ?_)
  | (with_reducible refine iteNF (by walk_at "x") ?_)))
local macro_rules | `(tactic| walk_at "T") => `(tactic| repeat (first
  | walk_at "s"
  | ((with_reducible show rIx _ (.ref _) (.int _) _ _); refine' r_ixTu (SqT.of ?h) ?e ?_; (case h => first | assumption | walk_at "hp"); (case e => rfl))
  | (with_reducible refine r_lenSet ?_)
  | (with_reducible refine r_asg2 ?_)
  | (with_reducible refine iteDT (by walk_at "x") ?_)
  | (with_reducible refine iteDF (by walk_at "x") ?_)
  | (with_reducible refine iteNT (by walk_at "x") ?_)
  | (with_reducible refine iteNF (by walk_at "x") ?_)))
local macro_rules | `(tactic| walk_at "g") => `(tactic| repeat (first | walk_at "T1" | (with_reducible refine r_fld ?_) | (with_reducible refine r_sfl ?_) | (with_reducible refine r_ifT ?_) | (with_reducible refine r_nn ?_)))
section
variable {P : Program} {w : World} {K : PySem.W.Frag} {mg : Str → Option Value} {base : Heap}
theorem ok_texts (T : Tx K mg) {C : Addr} (NC : NodeC K C) {f f_beginnings_of : Addr} {fd fd_beginnings_of : FuncData} (F : Fun K "texts" "Node.texts" s_Node_texts f fd)
    (D_beginnings_of : DAt K mg "beginnings_of" s_beginnings_of P_beginnings_of f_beginnings_of fd_beginnings_of) : FnOk P w K mg base CX0 2 f fd P_Node_texts (spTextsN C) := by
  have G_beginnings_of : FnOk P w K mg base CX0 1 f_beginnings_of fd_beginnings_of P_beginnings_of spBegs := ok_begs T D_beginnings_of.fn
  refine F.ok sc_Node_texts (fun vs H Q E h => ?_) (fun cdv A outer s H vs Q E hr h => ?_)
  · obtain ⟨n, F, ps, os, kids, rfl, _⟩ := h
    rfl
  · obtain ⟨n, F, ps, os, kids, rfl, nd, ho, hkn, k⟩ := h
    obtain ⟨dx, p, oa, ga, pa, b, no, nu, le, ow, po, fi, kf, kt, xs, n0, f1, hp, hoa, hxs, b0, fb, nu0, fnu, tx⟩ := nd.ex
    generalize H = H0 at *
    have tx0 := tx
    have o0 := hoa
    have lx := hxs.len
    refine ⟨_, (pss_cons (ps_if (pt_cmpR L2.op_isN (asFld (K := K) rfl (pe_fld (pv 0) rfl)) pe_non (nomark _)) (pss_cons (ps_set (i := 1) sc_Node_texts.nd rfl (Or.inr rfl) (pe_lc (own := [("option", 4)]) (g := (gName 4)) rfl sc_Node_texts.nd (asSeq (K := K) rfl (pi_seq (asFld (K := K) rfl (pe_fld (pv 0) rfl)))) (blkOk_by (N := N_Node_texts) (sc := defScope s_Node_texts) (by decide +kernel)) (fun _ _ _ _ _ => (pg_name (i := 4) sc_Node_texts.nd rfl (Or.inl rfl))) (fun _ _ _ _ _ => (pts_one (pt_cmpR ((op_eqA hr.units) : OpR _ _ (rEqA K)) (pe_ix (ix_seq : IxR _ (rIx K)) (pv 4) (pe_gI T.c_FORM rfl) (fun _ _ => rfl)) pe_str (nomark _)))) (fun _ _ _ _ _ => (pe_ix (ix_seq : IxR _ (rIx K)) (pv 4) (pe_gI T.c_NAME rfl) (fun _ _ => rfl))))) (pss_cons (ps_set (i := 2) sc_Node_texts.nd rfl (Or.inr rfl) (pe_call G_beginnings_of (hr.mono (by decide)) rfl D_beginnings_of.gl D_beginnings_of.fn.kp D_beginnings_of.bd .nil pass0 (pa_cons (pe_callTy (L2.call_list_dK rfl : CallR _ _ L2.rListD) (by rfl) T.z_list (by decide +kernel) (pa_cons (asFld (K := K) rfl (pe_fld (pv 0) rfl)) pa_nil)) pa_nil))) (pss_cons (ps_asg (pe_tup (pa_cons (pe_call G_beginnings_of (hr.mono (by decide)) rfl D_beginnings_of.gl D_beginnings_of.fn.kp D_beginnings_of.bd .nil pass0 (pa_cons (pe_callTy (L2.call_list_dK rfl : CallR _ _ L2.rListD) (by rfl) T.z_list (by decide +kernel) (pa_cons (asFld (K := K) rfl (pe_fld (pv 0) rfl)) pa_nil)) pa_nil)) (pa_cons (pe_call G_beginnings_of (hr.mono (by decide)) rfl D_beginnings_of.gl D_beginnings_of.fn.kp D_beginnings_of.bd .nil pass0 (pa_cons (pv 1) pa_nil)) pa_nil))) (asGTup (K := K) rfl (pg_tup rfl (pgs_cons (pg_name (i := 3) sc_Node_texts.nd rfl (Or.inr rfl)) (pgs_cons (pg_name (i := 1) sc_Node_texts.nd rfl (Or.inr rfl)) pgs_nil))))) (pss_one (asSFld (K := K) rfl (ps_fld (pv 0) (pe_tup (pa_cons (pe_lock (pe_dc (own := [("text", 5)]) (g := gName 5) rfl sc_Node_texts.nd (pi_keys (pv 3)) (blkOk_by (N := N_Node_texts) (sc := defScope s_Node_texts) (by decide +kernel)) (fun _ _ _ _ _ => (pg_name (i := 5) sc_Node_texts.nd rfl (Or.inl rfl))) (fun _ _ _ _ _ => pts_nil) (fun _ _ _ _ _ => (pv 5)) (fun _ _ _ _ _ => (pe_dget (hu_of hr) (asFld (K := K) rfl (pe_fld (pv 0) rfl)) (pe_dget (hu_of hr) (pv 3) (pv 5) (fun _ _ => rfl)) (fun _ _ => rfl))))) (pa_cons (pe_lock (pe_dc (own := [("text", 5)]) (g := gName 5) rfl sc_Node_texts.nd (pi_keys (pv 1)) (blkOk_by (N := N_Node_texts) (sc := defScope s_Node_texts) (by decide +kernel)) (fun _ _ _ _ _ => (pg_name (i := 5) sc_Node_texts.nd rfl (Or.inl rfl))) (fun _ _ _ _ _ => pts_nil) (fun _ _ _ _ _ => (pv 5)) (fun _ _ _ _ _ => (pe_dget (hu_of hr) (asFld (K := K) rfl (pe_fld (pv 0) rfl)) (pe_dget (hu_of hr) (pv 1) (pv 5) (fun _ _ => rfl)) (fun _ _ => rfl))))) (pa_cons (pe_lock (pe_dc (own := [("text", 5)]) (g := gName 5) rfl sc_Node_texts.nd (pi_keys (pv 2)) (blkOk_by (N := N_Node_texts) (sc := defScope s_Node_texts) (by decide +kernel)) (fun _ _ _ _ _ => (pg_name (i := 5) sc_Node_texts.nd rfl (Or.inl rfl))) (fun _ _ _ _ _ => pts_nil) (fun _ _ _ _ _ => (pv 5)) (fun _ _ _ _ _ => (pe_dget (hu_of hr) (asFld (K := K) rfl (pe_fld (pv 0) rfl)) (pe_dget (hu_of hr) (pv 2) (pv 5) (fun _ _ => rfl)) (fun _ _ => rfl))))) pa_nil)))) rfl)))))) pss_nil) (pss_one (ps_ret (asFld (K := K) rfl (pe_fld (pv 0) rfl))))), ?_⟩
    rcases tx with rfl | ⟨t, d1, d2, d3, D1, D2, D3, rfl, t0, b1, e1, g1, b2, e2, g2, b3, e3, g3⟩
    rotate_left
    · walk_at "g"
      refine ⟨n, C, dx, _, _, rfl, n0, NC.cls, NC.known_texts, rfl, ?_⟩
      walk_at "g"
      rw [decide_eq_false (fun e => nomatch e), if_neg (by decide)]
      walk_at "g"
      refine ⟨n, C, dx, _, _, rfl, n0, NC.cls, NC.known_texts, rfl, ?_⟩
      walk_at "g"
      exact k H0 F t d1 d2 d3 D1 D2 D3 (fun _ _ _ h => h) (fun z hz => .inl hz) (fun z hz => hz) nd t0 b1 e1 g1 b2 e2 g2 b3 e3 g3
    have k0 : KeepB n H0 H0 := fun _ _ _ h => h
    walk_at "g"
    refine ⟨n, C, dx, _, _, rfl, n0, NC.cls, NC.known_texts, rfl, ?_⟩
    walk_at "g"
    refine r_lcQ ?_
    walk_at "g"
    refine ⟨n, C, dx, _, _, rfl, n0, NC.cls, NC.options, rfl, ?_⟩
    refine r_seqZ (.inr (SqT.of o0)) fun J SI fl hfl => ?_
    refine comp_of os.length (fun i H' => Same H0 H' ∧ H' fl = some (.lst ((flagN (os.take i)).map fun n => V.str (S n)))) ⟨(Same.refl _).at hfl _, upd_same⟩ (fun i H' hi w => SI.go i H' w.1 (by rw [lx]; exact hi)) (fun H' w => by have := SI.stop H' w.1; rwa [lx] at this) (fun i H' x H'' hi w y => ?_) fun H1 w => ?_
    · obtain ⟨rfl, hxx⟩ := SI.yld i H' x H'' w.1 y
      obtain ⟨q, o, rfl, eo, hq⟩ := hxs.get hxx
      obtain ⟨sT, dT⟩ := w
      have hq' : H'' q = some (.tup [.str (S o.1), .non, .str (fmS o.2), .non, .int 0, .bl false, .non]) := sT _ _ ((k0.tup n0) _ _ hq)
      have lf : ((flagN (os.take i)).map fun n => V.str (S n)).length ≤ 6 := by
        have := (flagNms ho).1
        rw [List.length_map]
        exact Nat.le_trans (List.Sublist.length_le (by unfold flagN; exact (List.Sublist.filter _ (List.take_sublist ..)).map _)) this
      cases ob : o.2 with
      | true =>
        rw [ob] at hq'
        walk_at "g"
        refine ⟨rfl, ?_⟩
        walk_at "g"
        refine ⟨_, dT, Nat.lt_of_le_of_lt lf (by decide), sT.at hfl _, ?_⟩
        rw [upd_same, flag_take eo, ob, if_pos rfl, List.map_append]
        rfl
      | false =>
        rw [ob] at hq'
        walk_at "g"
        refine ⟨rfl, ?_⟩
        walk_at "g"
        refine ⟨sT, ?_⟩
        rw [flag_take eo, ob]
        simpa using dT
    obtain ⟨sFL, fl1⟩ := w
    rw [List.take_of_length_le (Nat.le_refl os.length)] at fl1
    have k1 := k0.trans (KeepB.of sFL)
    have n1 := sFL _ _ n0
    have o1 := sFL _ _ o0
    have b1 := sFL _ _ b0
    have nu1 := sFL _ _ nu0
    clear sFL
    walk_at "g"
    refine ⟨n, C, dx, _, _, rfl, n1, NC.cls, NC.beneath, rfl, ?_⟩
    walk_at "g"
    refine ⟨b, _, rfl, b1, fun q1 hq1 => ?_⟩
    rw [kidE_keys]
    have s2 := (Same.refl H1).at hq1 (HO.lst ((kids.map Prod.fst).map fun n => V.str (S n)))
    have k2 := k1.trans (KeepB.of s2)
    have n2 := s2 _ _ n1
    have o2 := s2 _ _ o1
    have b2 := s2 _ _ b1
    have nu2 := s2 _ _ nu1
    have fl2 := s2 _ _ fl1
    have qq12 : upd H1 q1 (HO.lst ((kids.map Prod.fst).map fun n => V.str (S n))) q1 = some (HO.lst ((kids.map Prod.fst).map fun n => V.str (S n))) := upd_same
    generalize upd H1 q1 (HO.lst ((kids.map Prod.fst).map fun n => V.str (S n))) = H2 at s2 k2 n2 o2 b2 nu2 fl2 qq12 ⊢
    walk_at "g"
    refine ⟨q1, kids.map Prod.fst, rfl, qq12, hkn, fun H3 cm Dcm sB hcm bcm cm3 => ?_⟩
    have ntcm : b ≠ cm := fun e => nomatch (e ▸ hcm : H2 b = none).symm.trans b2
    have k3 := k2.trans (KeepB.of sB)
    have n3 := sB _ _ n2
    have o3 := sB _ _ o2
    have b3 := sB _ _ b2
    have nu3 := sB _ _ nu2
    have fl3 := sB _ _ fl2
    have qq13 := sB _ _ qq12
    clear sB
    walk_at "g"
    refine ⟨n, C, dx, _, _, rfl, n3, NC.cls, NC.numbers, rfl, ?_⟩
    walk_at "g"
    refine ⟨nu, _, rfl, nu3, fun q2 hq2 => ?_⟩
    rw [numK_keys]
    have s4 := (Same.refl H3).at hq2 (HO.lst ((os.map Prod.fst).map fun n => V.str (S n)))
    have k4 := k3.trans (KeepB.of s4)
    have n4 := s4 _ _ n3
    have o4 := s4 _ _ o3
    have b4 := s4 _ _ b3
    have nu4 := s4 _ _ nu3
    have fl4 := s4 _ _ fl3
    have cm4 := s4 _ _ cm3
    have qq24 : upd H3 q2 (HO.lst ((os.map Prod.fst).map fun n => V.str (S n))) q2 = some (HO.lst ((os.map Prod.fst).map fun n => V.str (S n))) := upd_same
    generalize upd H3 q2 (HO.lst ((os.map Prod.fst).map fun n => V.str (S n))) = H4 at s4 k4 n4 o4 b4 nu4 fl4 cm4 qq24 ⊢
    walk_at "g"
    refine ⟨q2, os.map Prod.fst, rfl, qq24, (opsNms ho), fun H5 op Dop sB hop bop op5 => ?_⟩
    have ntop : nu ≠ op := fun e => nomatch (e ▸ hop : H4 nu = none).symm.trans nu4
    have k5 := k4.trans (KeepB.of sB)
    have n5 := sB _ _ n4
    have o5 := sB _ _ o4
    have b5 := sB _ _ b4
    have nu5 := sB _ _ nu4
    have fl5 := sB _ _ fl4
    have cm5 := sB _ _ cm4
    have qq25 := sB _ _ qq24
    clear sB
    walk_at "g"
    refine ⟨fl, flagN os, rfl, fl5, (flagNms ho), fun H6 ft Dft sB hft bft ft6 => ?_⟩
    have ntft : nu ≠ ft := fun e => nomatch (e ▸ hft : H5 nu = none).symm.trans nu5
    have k6 := k5.trans (KeepB.of sB)
    have n6 := sB _ _ n5
    have o6 := sB _ _ o5
    have b6 := sB _ _ b5
    have nu6 := sB _ _ nu5
    have fl6 := sB _ _ fl5
    have cm6 := sB _ _ cm5
    have op6 := sB _ _ op5
    clear sB
    walk_at "g"
    refine ⟨show 2 ≤ sizeLine by decide, fun tp htp => ?_⟩
    have s7 := (Same.refl H6).at htp (HO.tup [.ref op, .ref ft])
    have k7 := k6.trans (KeepB.of s7)
    have n7 := s7 _ _ n6
    have o7 := s7 _ _ o6
    have b7 := s7 _ _ b6
    have nu7 := s7 _ _ nu6
    have fl7 := s7 _ _ fl6
    have cm7 := s7 _ _ cm6
    have op7 := s7 _ _ op6
    have ft7 := s7 _ _ ft6
    have tp7 : upd H6 tp (HO.tup [.ref op, .ref ft]) tp = some (HO.tup [.ref op, .ref ft]) := upd_same
    generalize upd H6 tp (HO.tup [.ref op, .ref ft]) = H7 at s7 k7 n7 o7 b7 nu7 fl7 cm7 op7 ft7 tp7 ⊢
    refine r_gtup (SqT.of tp7) rfl ?_
    walk_at "g"
    refine r_lockE op7 trivial fun od => ?_
    refine r_dc ?_
    refine r_iky ?_
    walk_at "g"
    refine ⟨op, od, rfl, .inl ⟨_, upd_same, fun d1 hd1 => ?_⟩⟩
    have lnd1 : (Dop.map begE).length = Dop.length := List.length_map ..
    refine dc_of Dop.length (fun j H' => Same (upd H7 op (.frz od (.dK (Dop.map begE)))) H' ∧ H' d1 = some (.dK ((Dop.take j).map (leadE (numK os))))) ⟨(Same.refl _).at hd1 _, upd_same⟩ (fun j H' hj w => (seqIt_keys (kvs := Dop.map begE) upd_same).go j H' w.1 (by rw [List.length_map, lnd1]; exact hj)) (fun H' w => by have := (seqIt_keys (kvs := Dop.map begE) upd_same).stop H' w.1; rwa [List.length_map, lnd1] at this) (fun j H' x H'' hj w y => ?_) fun HX w => ?_
    · obtain ⟨rfl, hx⟩ := (seqIt_keys (kvs := Dop.map begE) upd_same).yld j H' x H'' w.1 y
      rw [List.map_map, List.getElem?_map] at hx
      obtain ⟨p, ep, rfl⟩ := Option.map_eq_some_iff.mp hx
      have pin := List.mem_of_getElem? ep
      have n1 := w.1 _ _ ((upd_ne (fun e => by subst e; exact nomatch n7.symm.trans op7)).trans n7)
      have t1 := w.1 _ _ ((upd_ne ntop).trans nu7)
      have s1 := w.1 _ _ (upd_same (a := op))
      obtain ⟨v, hv⟩ : ∃ v, valV (numK os) (.inr (S p.2)) = some v := by obtain ⟨i, o, _, _, e⟩ := num_at ho.2.2 (bop.src pin); exact ⟨_, e⟩
      have hb : valV (Dop.map begE) (.inr (S p.1)) = some (.str (S p.2)) := valV_mem (begE_nd bop.nd) (List.mem_map.mpr ⟨p, pin, rfl⟩)
      walk_at "g"
      refine ⟨rfl, ?_⟩
      walk_at "g"
      refine ⟨n, C, dx, _, _, rfl, n1, NC.cls, NC.numbers, rfl, ?_⟩
      walk_at "g"
      refine ⟨op, _, rfl, .inl ⟨_, .inr (S p.1), .inr ⟨od, s1⟩, rfl, hb.symm⟩, ?_⟩
      refine ⟨nu, _, rfl, .inl ⟨_, .inr (S p.2), .inl t1, rfl, hv.symm⟩, ?_⟩
      refine ⟨_, .inr (S p.1), rfl, w.2, ?_, w.1.at hd1 _, ?_⟩
      · rw [List.length_map]
        exact Nat.lt_of_le_of_lt (Nat.le_trans (List.length_take_le' ..) (begs_len (opsNms ho) bop)) (by decide)
      · rw [upd_same, leadE_put bop.nd ep hv]
    rw [List.take_of_length_le (Nat.le_refl Dop.length)] at w
    refine ⟨w.1 _ _ upd_same, ?_⟩
    have sU := unlock_same op7 w.1
    have hd1b : H7 d1 = none := by
      have e : d1 ≠ op := fun e => by subst e; exact nomatch hd1.symm.trans upd_same
      rw [upd_ne e] at hd1; exact hd1
    have fd1 := k7.non n7 hd1b
    have d18 : upd HX op (.dK (Dop.map begE)) d1 = some (.dK (Dop.map (leadE (numK os)))) := by
      rw [upd_ne (fun e => by subst e; exact nomatch hd1b.symm.trans op7)]; exact w.2
    generalize upd HX op (.dK (Dop.map begE)) = H8 at sU d18 ⊢
    have k8 := k7.trans (KeepB.of sU)
    have n8 := sU _ _ n7
    have b8 := sU _ _ b7
    have nu8 := sU _ _ nu7
    have cm8 := sU _ _ cm7
    have op8 := sU _ _ op7
    have ft8 := sU _ _ ft7
    clear sU w
    walk_at "g"
    refine r_lockE ft8 trivial fun od => ?_
    refine r_dc ?_
    refine r_iky ?_
    walk_at "g"
    refine ⟨ft, od, rfl, .inl ⟨_, upd_same, fun d2 hd2 => ?_⟩⟩
    have lnd2 : (Dft.map begE).length = Dft.length := List.length_map ..
    refine dc_of Dft.length (fun j H' => Same (upd H8 ft (.frz od (.dK (Dft.map begE)))) H' ∧ H' d2 = some (.dK ((Dft.take j).map (leadE (numK os))))) ⟨(Same.refl _).at hd2 _, upd_same⟩ (fun j H' hj w => (seqIt_keys (kvs := Dft.map begE) upd_same).go j H' w.1 (by rw [List.length_map, lnd2]; exact hj)) (fun H' w => by have := (seqIt_keys (kvs := Dft.map begE) upd_same).stop H' w.1; rwa [List.length_map, lnd2] at this) (fun j H' x H'' hj w y => ?_) fun HX w => ?_
    · obtain ⟨rfl, hx⟩ := (seqIt_keys (kvs := Dft.map begE) upd_same).yld j H' x H'' w.1 y
      rw [List.map_map, List.getElem?_map] at hx
      obtain ⟨p, ep, rfl⟩ := Option.map_eq_some_iff.mp hx
      have pin := List.mem_of_getElem? ep
      have n1 := w.1 _ _ ((upd_ne (fun e => by subst e; exact nomatch n8.symm.trans ft8)).trans n8)
      have t1 := w.1 _ _ ((upd_ne ntft).trans nu8)
      have s1 := w.1 _ _ (upd_same (a := ft))
      obtain ⟨v, hv⟩ : ∃ v, valV (numK os) (.inr (S p.2)) = some v := by obtain ⟨i, o, _, _, e⟩ := num_at ho.2.2 (flag_in (bft.src pin)); exact ⟨_, e⟩
      have hb : valV (Dft.map begE) (.inr (S p.1)) = some (.str (S p.2)) := valV_mem (begE_nd bft.nd) (List.mem_map.mpr ⟨p, pin, rfl⟩)
      walk_at "g"
      refine ⟨rfl, ?_⟩
      walk_at "g"
      refine ⟨n, C, dx, _, _, rfl, n1, NC.cls, NC.numbers, rfl, ?_⟩
      walk_at "g"
      refine ⟨ft, _, rfl, .inl ⟨_, .inr (S p.1), .inr ⟨od, s1⟩, rfl, hb.symm⟩, ?_⟩
      refine ⟨nu, _, rfl, .inl ⟨_, .inr (S p.2), .inl t1, rfl, hv.symm⟩, ?_⟩
      refine ⟨_, .inr (S p.1), rfl, w.2, ?_, w.1.at hd2 _, ?_⟩
      · rw [List.length_map]
        exact Nat.lt_of_le_of_lt (Nat.le_trans (List.length_take_le' ..) (begs_len (flagNms ho) bft)) (by decide)
      · rw [upd_same, leadE_put bft.nd ep hv]
    rw [List.take_of_length_le (Nat.le_refl Dft.length)] at w
    refine ⟨w.1 _ _ upd_same, ?_⟩
    have sU := unlock_same ft8 w.1
    have hd2b : H8 d2 = none := by
      have e : d2 ≠ ft := fun e => by subst e; exact nomatch hd2.symm.trans upd_same
      rw [upd_ne e] at hd2; exact hd2
    have fd2 := k8.non n8 hd2b
    have d29 : upd HX ft (.dK (Dft.map begE)) d2 = some (.dK (Dft.map (leadE (numK os)))) := by
      rw [upd_ne (fun e => by subst e; exact nomatch hd2b.symm.trans ft8)]; exact w.2
    generalize upd HX ft (.dK (Dft.map begE)) = H9 at sU d29 ⊢
    have k9 := k8.trans (KeepB.of sU)
    have n9 := sU _ _ n8
    have b9 := sU _ _ b8
    have nu9 := sU _ _ nu8
    have cm9 := sU _ _ cm8
    have op9 := sU _ _ op8
    have ft9 := sU _ _ ft8
    have d19 := sU _ _ d18
    clear sU w
    walk_at "g"
    refine r_lockE cm9 trivial fun od => ?_
    refine r_dc ?_
    refine r_iky ?_
    walk_at "g"
    refine ⟨cm, od, rfl, .inl ⟨_, upd_same, fun d3 hd3 => ?_⟩⟩
    have lnd3 : (Dcm.map begE).length = Dcm.length := List.length_map ..
    refine dc_of Dcm.length (fun j H' => Same (upd H9 cm (.frz od (.dK (Dcm.map begE)))) H' ∧ H' d3 = some (.dK ((Dcm.take j).map (leadE (kids.map kidE))))) ⟨(Same.refl _).at hd3 _, upd_same⟩ (fun j H' hj w => (seqIt_keys (kvs := Dcm.map begE) upd_same).go j H' w.1 (by rw [List.length_map, lnd3]; exact hj)) (fun H' w => by have := (seqIt_keys (kvs := Dcm.map begE) upd_same).stop H' w.1; rwa [List.length_map, lnd3] at this) (fun j H' x H'' hj w y => ?_) fun HX w => ?_
    · obtain ⟨rfl, hx⟩ := (seqIt_keys (kvs := Dcm.map begE) upd_same).yld j H' x H'' w.1 y
      rw [List.map_map, List.getElem?_map] at hx
      obtain ⟨p, ep, rfl⟩ := Option.map_eq_some_iff.mp hx
      have pin := List.mem_of_getElem? ep
      have n1 := w.1 _ _ ((upd_ne (fun e => by subst e; exact nomatch n9.symm.trans cm9)).trans n9)
      have t1 := w.1 _ _ ((upd_ne ntcm).trans b9)
      have s1 := w.1 _ _ (upd_same (a := cm))
      obtain ⟨v, hv⟩ : ∃ v, valV (kids.map kidE) (.inr (S p.2)) = some v := by obtain ⟨kd, _, _, e⟩ := kid_at hkn.2.1 (bcm.src pin); exact ⟨_, e⟩
      have hb : valV (Dcm.map begE) (.inr (S p.1)) = some (.str (S p.2)) := valV_mem (begE_nd bcm.nd) (List.mem_map.mpr ⟨p, pin, rfl⟩)
      walk_at "g"
      refine ⟨rfl, ?_⟩
      walk_at "g"
      refine ⟨n, C, dx, _, _, rfl, n1, NC.cls, NC.beneath, rfl, ?_⟩
      walk_at "g"
      refine ⟨cm, _, rfl, .inl ⟨_, .inr (S p.1), .inr ⟨od, s1⟩, rfl, hb.symm⟩, ?_⟩
      refine ⟨b, _, rfl, .inl ⟨_, .inr (S p.2), .inl t1, rfl, hv.symm⟩, ?_⟩
      refine ⟨_, .inr (S p.1), rfl, w.2, ?_, w.1.at hd3 _, ?_⟩
      · rw [List.length_map]
        exact Nat.lt_of_le_of_lt (Nat.le_trans (List.length_take_le' ..) (begs_len hkn bcm)) (by decide)
      · rw [upd_same, leadE_put bcm.nd ep hv]
    rw [List.take_of_length_le (Nat.le_refl Dcm.length)] at w
    refine ⟨w.1 _ _ upd_same, ?_⟩
    have sU := unlock_same cm9 w.1
    have hd3b : H9 d3 = none := by
      have e : d3 ≠ cm := fun e => by subst e; exact nomatch hd3.symm.trans upd_same
      rw [upd_ne e] at hd3; exact hd3
    have fd3 := k9.non n9 hd3b
    have d310 : upd HX cm (.dK (Dcm.map begE)) d3 = some (.dK (Dcm.map (leadE (kids.map kidE)))) := by
      rw [upd_ne (fun e => by subst e; exact nomatch hd3b.symm.trans cm9)]; exact w.2
    generalize upd HX cm (.dK (Dcm.map begE)) = H10 at sU d310 ⊢
    have k10 := k9.trans (KeepB.of sU)
    have n10 := sU _ _ n9
    have b10 := sU _ _ b9
    have nu10 := sU _ _ nu9
    have cm10 := sU _ _ cm9
    have op10 := sU _ _ op9
    have ft10 := sU _ _ ft9
    have d110 := sU _ _ d19
    have d210 := sU _ _ d29
    clear sU w
    walk_at "g"
    refine ⟨show 3 ≤ sizeLine by decide, fun tt htt => ?_⟩
    have s11 := (Same.refl H10).at htt (HO.tup [.ref d1, .ref d2, .ref d3])
    have k11 := k10.trans (KeepB.of s11)
    have n11 := s11 _ _ n10
    have b11 := s11 _ _ b10
    have nu11 := s11 _ _ nu10
    have cm11 := s11 _ _ cm10
    have op11 := s11 _ _ op10
    have ft11 := s11 _ _ ft10
    have d111 := s11 _ _ d110
    have d211 := s11 _ _ d210
    have d311 := s11 _ _ d310
    have tt11 : upd H10 tt (HO.tup [.ref d1, .ref d2, .ref d3]) tt = some (HO.tup [.ref d1, .ref d2, .ref d3]) := upd_same
    generalize upd H10 tt (HO.tup [.ref d1, .ref d2, .ref d3]) = H11 at s11 k11 n11 b11 nu11 cm11 op11 ft11 d111 d211 d311 tt11 ⊢
    walk_at "g"
    refine ⟨n, C, dx, _, rfl, n11, NC.cls, NC.known_texts, show 22 < 1000 by decide, ?_⟩
    rw [show putF "known_texts" (V.ref tt) (nodeF p oa ga pa b no nu le ow po fi kf .non) = nodeF p oa ga pa b no nu le ow po fi kf (.ref tt) from rfl]
    have k12 : KeepB n H0 (upd H11 n (.ins C dx (nodeF p oa ga pa b no nu le ow po fi kf (.ref tt)))) := k11.trans (KeepB.upd _)
    have d112 : (upd H11 n (.ins C dx (nodeF p oa ga pa b no nu le ow po fi kf (.ref tt)))) d1 = some (HO.dK (Dop.map (leadE (numK os)))) := (KeepB.upd _).nd n11 d111 (fun _ _ _ z => nomatch z)
    have d212 : (upd H11 n (.ins C dx (nodeF p oa ga pa b no nu le ow po fi kf (.ref tt)))) d2 = some (HO.dK (Dft.map (leadE (numK os)))) := (KeepB.upd _).nd n11 d211 (fun _ _ _ z => nomatch z)
    have d312 : (upd H11 n (.ins C dx (nodeF p oa ga pa b no nu le ow po fi kf (.ref tt)))) d3 = some (HO.dK (Dcm.map (leadE (kids.map kidE)))) := (KeepB.upd _).nd n11 d311 (fun _ _ _ z => nomatch z)
    have tt12 : (upd H11 n (.ins C dx (nodeF p oa ga pa b no nu le ow po fi kf (.ref tt)))) tt = some (HO.tup [.ref d1, .ref d2, .ref d3]) := (KeepB.upd _).nd n11 tt11 (fun _ _ _ z => nomatch z)
    have n12 : (upd H11 n (.ins C dx (nodeF p oa ga pa b no nu le ow po fi kf (.ref tt)))) n = some (.ins C dx (nodeF p oa ga pa b no nu le ow po fi kf (.ref tt))) := upd_same
    generalize upd H11 n (.ins C dx (nodeF p oa ga pa b no nu le ow po fi kf (.ref tt))) = H12 at k12 n12 d112 d212 d312 tt12 ⊢
    walk_at "g"
    refine ⟨n, C, dx, _, _, rfl, n12, NC.cls, NC.known_texts, rfl, ?_⟩
    walk_at "g"
    have tk := k12.tup n0
    refine k _ (d1 :: d2 :: d3 :: F) tt d1 d2 d3 Dop Dft Dcm k12 (fun z hz => ?_) (fun z hz => List.mem_cons_of_mem _ (List.mem_cons_of_mem _ (List.mem_cons_of_mem _ hz))) ⟨dx, p, oa, ga, pa, b, no, nu, le, ow, po, fi, kf, _, xs, n12, List.mem_cons_of_mem _ (List.mem_cons_of_mem _ (List.mem_cons_of_mem _ f1)), tk _ _ hp, tk _ _ hoa, hxs.keep tk, k12.of_nd n0 b0, List.mem_cons_of_mem _ (List.mem_cons_of_mem _ (List.mem_cons_of_mem _ fb)), k12.of_nd n0 nu0, List.mem_cons_of_mem _ (List.mem_cons_of_mem _ (List.mem_cons_of_mem _ fnu)), .inr ⟨tt, d1, d2, d3, Dop, Dft, Dcm, rfl, tt12, bop, d112, List.mem_cons_self .., bft, d212, List.mem_cons_of_mem _ (List.mem_cons_self ..), bcm, d312, List.mem_cons_of_mem _ (List.mem_cons_of_mem _ (List.mem_cons_self ..))⟩⟩ tt12 bop d112 (List.mem_cons_self ..) bft d212 (List.mem_cons_of_mem _ (List.mem_cons_self ..)) bcm d312 (List.mem_cons_of_mem _ (List.mem_cons_of_mem _ (List.mem_cons_self ..)))
    rcases List.mem_cons.mp hz with rfl | hz
    · exact .inr fd1
    rcases List.mem_cons.mp hz with rfl | hz
    · exact .inr fd2
    rcases List.mem_cons.mp hz with rfl | hz
    · exact .inr fd3
    exact .inl hz
end
end K16
namespace J
open PySem PySem.Spec PyProof.Rows L2 M
/-- all but F stays, and all tuples -/
def OutF (F : List Addr) (H H' : Hp) : Prop := (∀ q o, q ∉ F → H q = some o → H' q = some o) ∧ TupK H H'
/-- what has come to F was free -/
def NewF (F F' : List Addr) (H : Hp) : Prop := (∀ z ∈ F, z ∈ F') ∧ ∀ z ∈ F', z ∈ F ∨ H z = none
theorem NewF.refl (F : List Addr) (H : Hp) : NewF F F H := ⟨fun _ h => h, fun _ h => .inl h⟩
theorem OutF.same {F : List Addr} {H H' : Hp} (s : Same H H') : OutF F H H' := ⟨fun q o _ h => s q o h, TupK.of s⟩
theorem NewF.trans {F F1 F2 : List Addr} {H H1 : Hp} (a : NewF F F1 H) (o : OutF F H H1) (b : NewF F1 F2 H1) : NewF F F2 H := ⟨fun z h => b.1 z (a.1 z h), fun z h => by
  rcases b.2 z h with h1 | h1
  · exact a.2 z h1
  · by_cases hz : z ∈ F
    · exact .inl hz
    · right
      cases e : H z with
      | none => rfl
      | some x => exact nomatch h1.symm.trans (o.1 z x hz e)⟩
theorem OutF.trans {F F1 : List Addr} {H H1 H2 : Hp} (n : NewF F F1 H) (a : OutF F H H1) (b : OutF F1 H1 H2) : OutF F H H2 := ⟨fun q o hq h => b.1 q o (fun h1 => by
  rcases n.2 q h1 with h2 | h2
  · exact hq h2
  · exact nomatch h2.symm.trans h) (a.1 q o hq h), a.2.trans b.2⟩
theorem OutF.keepB {F : List Addr} {g C dx : Addr} {fs : List (Str × V)} {H H' : Hp} (k : KeepB g H H') (hg : H g = some (.ins C dx fs)) (f : g ∈ F) : OutF F H H' := ⟨fun q o hq h => k q o (fun e => hq (e ▸ f)) h, k.tup hg⟩
theorem OutF.non {F : List Addr} {H H' : Hp} (a : OutF F H H') {z : Addr} (h : H' z = none) (f : z ∉ F) : H z = none := by
  cases e : H z with
  | none => rfl
  | some x => exact nomatch h.symm.trans (a.1 z x f e)
/-- a grammar but for its nodes -/
structure GrP (CG : Addr) (H : Hp) (F : List Addr) (g : Addr) (us : List (List Nat)) (os os' : List Op) (n : V) : Prop where
  ex : ∃ (dx t r dc dw : Addr) (nm : Str) (cs : List V), H g = some (.ins CG dx (grF t r dc dw n)) ∧ g ∈ F ∧ H dc = some (.dT ((allC (.ref r) us cs).map keyE)) ∧ dc ∈ F ∧ CmdAt H r nm os cs ∧ OpsOk os ∧ Subs H cs us os' ∧ OpsOk os' ∧ us.Nodup ∧ cs.length ≤ 6
theorem GrP.keep {CG : Addr} {H H' : Hp} {F F' : List Addr} {g : Addr} {us : List (List Nat)} {os os' : List Op} {n : V} (h : GrP CG H F g us os os' n) (k : KeepF F H H') (t : TupK H H') (sub : ∀ q ∈ F, q ∈ F') : GrP CG H' F' g us os os' n := by
  obtain ⟨dx, a, r, dc, dw, nm, cs, h1, f1, h2, f2, h3, h4, h5, h6, h7, h8⟩ := h.ex
  exact ⟨dx, a, r, dc, dw, nm, cs, k _ f1 _ h1, sub _ f1, k _ f2 _ h2, sub _ f2, h3.keep t, h4, h5.keep t, h6, h7, h8⟩
theorem GrP.keepB {CG : Addr} {H H' : Hp} {F F' : List Addr} {g : Addr} {us : List (List Nat)} {os os' : List Op} {n : V} {x C' dx' : Addr} {fs : List (Str × V)} (h : GrP CG H F g us os os' n) (k : KeepB x H H') (hx : H x = some (.ins C' dx' fs)) (ne : g ≠ x) (sub : ∀ q ∈ F, q ∈ F') : GrP CG H' F' g us os os' n := by
  obtain ⟨dx, a, r, dc, dw, nm, cs, h1, f1, h2, f2, h3, h4, h5, h6, h7, h8⟩ := h.ex
  exact ⟨dx, a, r, dc, dw, nm, cs, k _ _ ne h1, sub _ f1, k.nd hx h2 (fun _ _ _ z => nomatch z), sub _ f2, h3.keep (k.tup hx), h4, h5.keep (k.tup hx), h6, h7, h8⟩
structure GrAt (CG CN : Addr) (H : Hp) (F : List Addr) (g : Addr) (us : List (List Nat)) (os os' : List Op) : Prop where
  ex : ∃ n : V, GrP CG H F g us os os' n ∧ (n = .non ∨ ∃ N, n = .ref N ∧ NodesAt CN H F N us os os')
theorem GrAt.keep {CG CN : Addr} {H H' : Hp} {F F' : List Addr} {g : Addr} {us : List (List Nat)} {os os' : List Op} (h : GrAt CG CN H F g us os os') (k : KeepF F H H') (t : TupK H H') (sub : ∀ q ∈ F, q ∈ F') : GrAt CG CN H' F' g us os os' := by
  obtain ⟨n, a, b⟩ := h.ex
  exact ⟨n, a.keep k t sub, b.imp id fun ⟨N, e, x⟩ => ⟨N, e, x.keep k t sub⟩⟩
theorem GrAt.same {CG CN : Addr} {H H' : Hp} {F : List Addr} {g : Addr} {us : List (List Nat)} {os os' : List Op} (h : GrAt CG CN H F g us os os') (s : Same H H') : GrAt CG CN H' F g us os os' := h.keep (fun q _ o e => s q o e) (TupK.of s) fun _ h => h
/-- n is the node of the path ns -/
structure NodeIn (CN : Addr) (H : Hp) (F : List Addr) (N : Addr) (us : List (List Nat)) (os os' : List Op) (ns : List Str) (n : Addr) (os1 : List Op) (kids : List Kid) : Prop where
  ex : ∃ (kvs : List (List Key × V)) (rn : Addr) (ks : List Kid), H N = some (.dT kvs) ∧ N ∈ F ∧ ks.map Prod.fst = us ∧ valV kvs [] = some (.ref rn) ∧ (∀ k ∈ ks, valV kvs [.inr (S k.1)] = some (.ref k.2) ∧ NodeAt CN H F k.2 [S k.1] os' []) ∧ NodeAt CN H F rn [] os ks ∧
    ((ns = [] ∧ n = rn ∧ os1 = os ∧ kids = ks) ∨ ∃ k ∈ ks, ns = [S k.1] ∧ n = k.2 ∧ os1 = os' ∧ kids = [])
theorem NodeIn.node {CN : Addr} {H : Hp} {F : List Addr} {N : Addr} {us : List (List Nat)} {os os' : List Op} {ns : List Str} {n : Addr} {os1 : List Op} {kids : List Kid} (h : NodeIn CN H F N us os os' ns n os1 kids) : NodeAt CN H F n ns os1 kids := by
  obtain ⟨kvs, rn, ks, h1, f1, h2, h3, h4, h5, ⟨rfl, rfl, rfl, rfl⟩ | ⟨k, hk, rfl, rfl, rfl, rfl⟩⟩ := h.ex
  · exact h5
  · exact (h4 k hk).2
theorem NodeIn.val {CN : Addr} {H : Hp} {F : List Addr} {N : Addr} {us : List (List Nat)} {os os' : List Op} {ns : List Str} {n : Addr} {os1 : List Op} {kids : List Kid} (h : NodeIn CN H F N us os os' ns n os1 kids) : ∃ kvs, H N = some (.dT kvs) ∧ valV kvs (ns.map Sum.inr) = some (.ref n) := by
  obtain ⟨kvs, rn, ks, h1, f1, h2, h3, h4, h5, ⟨rfl, rfl, rfl, rfl⟩ | ⟨k, hk, rfl, rfl, rfl, rfl⟩⟩ := h.ex
  · exact ⟨kvs, h1, h3⟩
  · exact ⟨kvs, h1, (h4 k hk).1⟩
/-- a path that is there -/
def Here (us : List (List Nat)) (ns : List Str) : Prop := ns = [] ∨ ∃ u ∈ us, ns = [S u]
theorem NodesAt.find {CN : Addr} {H : Hp} {F : List Addr} {N : Addr} {us : List (List Nat)} {os os' : List Op} (h : NodesAt CN H F N us os os') {ns : List Str} (w : Here us ns) : ∃ n os1 kids, NodeIn CN H F N us os os' ns n os1 kids := by
  obtain ⟨kvs, rn, ks, h1, f1, h2, h3, h4, h5⟩ := h.ex
  rcases w with rfl | ⟨u, hu, rfl⟩
  · exact ⟨rn, os, ks, kvs, rn, ks, h1, f1, h2, h3, h4, h5, .inl ⟨rfl, rfl, rfl, rfl⟩⟩
  · rw [← h2] at hu
    obtain ⟨k, hk, rfl⟩ := List.mem_map.mp hu
    exact ⟨k.2, os', [], kvs, rn, ks, h1, f1, h2, h3, h4, h5, .inr ⟨k, hk, rfl, rfl, rfl, rfl⟩⟩
/-- that node has changed -/
theorem NodeIn.step {CN : Addr} {H H' : Hp} {F F' : List Addr} {N : Addr} {us : List (List Nat)} {os os' : List Op} {ns : List Str} {n : Addr} {os1 : List Op} {kids : List Kid} (h : NodeIn CN H F N us os os' ns n os1 kids) (hu : us.Nodup) (k : KeepB n H H') (sub : ∀ q ∈ F, q ∈ F') (new : NodeAt CN H' F' n ns os1 kids) : NodesAt CN H' F' N us os os' := by
  obtain ⟨kvs, rn, ks, h1, f1, h2, h3, h4, h5, ⟨rfl, rfl, rfl, rfl⟩ | ⟨x, hx, rfl, rfl, rfl, rfl⟩⟩ := h.ex
  · exact NodesAt.root h1 f1 h2 h3 h4 h5 k sub new
  · exact NodesAt.kid h1 f1 h2 hu h3 h4 h5 hx k sub new
theorem NodeIn.ofs {CN : Addr} {H : Hp} {F : List Addr} {N : Addr} {us : List (List Nat)} {os os' : List Op} {ns : List Str} {n : Addr} {os1 : List Op} {kids : List Kid} (h : NodeIn CN H F N us os os' ns n os1 kids) : (os1 = os ∧ kids.map Prod.fst = us ∧ ns = []) ∨ (os1 = os' ∧ kids = [] ∧ ns ≠ []) := by
  obtain ⟨kvs, rn, ks, h1, f1, h2, h3, h4, h5, ⟨rfl, rfl, rfl, rfl⟩ | ⟨x, hx, rfl, rfl, rfl, rfl⟩⟩ := h.ex
  · exact .inl ⟨rfl, h2, rfl⟩
  · exact .inr ⟨rfl, rfl, List.cons_ne_nil _ _⟩
theorem NodeIn.kidsAt {CN : Addr} {H : Hp} {F : List Addr} {N : Addr} {us : List (List Nat)} {os os' : List Op} {ns : List Str} {n : Addr} {os1 : List Op} {kids : List Kid} (h : NodeIn CN H F N us os os' ns n os1 kids) : ∀ k ∈ kids, NodeAt CN H F k.2 [S k.1] os' [] := by
  obtain ⟨kvs, rn, ks, h1, f1, h2, h3, h4, h5, ⟨rfl, rfl, rfl, rfl⟩ | ⟨x, hx, rfl, rfl, rfl, rfl⟩⟩ := h.ex
  · exact fun k hk => (h4 k hk).2
  · exact fun k hk => nomatch hk
theorem node_ne_gr {CG CN : Addr} {H : Hp} {F F' : List Addr} {g n : Addr} {us : List (List Nat)} {os os' : List Op} {v : V} {ns : List Str} {os1 : List Op} {kids : List Kid} (a : GrP CG H F g us os os' v) (b : NodeAt CN H F' n ns os1 kids) : g ≠ n := by
  rintro rfl
  obtain ⟨dx, t, r, dc, dw, nm, cs, h1, _⟩ := a.ex
  obtain ⟨dx', p, oa, ga, pa, b', no, nu, le, ow, po, fi, kf, kt, xs, h2, _⟩ := b.ex
  have e := (HO.ins.inj (Option.some.inj (h1.symm.trans h2))).2.2
  unfold grF nodeF at e
  have e := congrArg List.length e
  exact absurd e (show ¬ (5 = 22) by decide)
def OddP (K : PySem.W.Frag) (H : Hp) (us : List (List Nat)) (x : V) : Prop := Pa K H x false ∨ ∃ (a : Addr) (ns : List Str), x = .ref a ∧ H a = some (.tup (ns.map V.str)) ∧ (∀ z ∈ ns, Nm (cd z)) ∧ ns.length ≤ 60 ∧ ¬ Here us ns
structure GIs (K : PySem.W.Frag) (CG : Addr) : Prop where
  ins : C8.InsC K CG
  non : PySem.W.kitOne K (.type "NoneType") (.ref CG) = some false
  int : PySem.W.kitOne K (.type "int") (.ref CG) = some false
  str : PySem.W.kitOne K (.type "str") (.ref CG) = some false
  dict : PySem.W.kitOne K (.type "dict") (.ref CG) = some false
def NotG (K : PySem.W.Frag) (CG : Addr) (H : Hp) (x : V) : Prop := ∃ t, TyX K H x t ∧ PySem.W.kitOne K t (.ref CG) = some false
def PathIs (H : Hp) (us : List (List Nat)) (x : V) (ns : List Str) : Prop := ∃ a, x = .ref a ∧ H a = some (.tup (ns.map V.str)) ∧ Here us ns
def spThere (K : PySem.W.Frag) (CG CN : Addr) : Sp := fun vs H Q _ => ∃ (g : Addr) (x : V) (F : List Addr) (us : List (List Nat)) (os os' : List Op), vs = [.ref g, x] ∧ GrAt CG CN H F g us os os' ∧
  ((∃ ns, PathIs H us x ns ∧ ∀ H', Same H H' → Q (.bl true) H') ∨ (OddP K H us x ∧ ∀ H', Same H H' → Q (.bl false) H'))
def spCommand (K : PySem.W.Frag) (CG CN CT : Addr) : Sp := fun vs H Q E => ∃ (g : Addr) (x : V) (F : List Addr) (us : List (List Nat)) (os os' : List Op), vs = [.ref g, x] ∧ GrAt CG CN H F g us os os' ∧
  ((∃ ns, PathIs H us x ns ∧ ∀ v H', Same H H' → Q v H') ∨ (OddP K H us x ∧ Err CT "found" x H E))
def spCmdAt (K : PySem.W.Frag) (CG CN CT CX : Addr) : Sp := fun vs H Q E => ∃ (y x : V), vs = [y, x] ∧ ((NotG K CG H y ∧ Err CX "found" y H E) ∨ ∃ (g : Addr) (F : List Addr) (us : List (List Nat)) (os os' : List Op), y = .ref g ∧ GrAt CG CN H F g us os os' ∧
  ((∃ ns, PathIs H us x ns ∧ ∀ v H', Same H H' → Q v H') ∨ (OddP K H us x ∧ Err CT "found" x H E)))
/-- a grammar with nodes, one of them told -/
def GrN (CG CN : Addr) (H : Hp) (F : List Addr) (g : Addr) (us : List (List Nat)) (os os' : List Op) (ns : List Str) (n : Addr) (os1 : List Op) (kids : List Kid) : Prop := ∃ N, GrP CG H F g us os os' (.ref N) ∧ NodeIn CN H F N us os os' ns n os1 kids
def spNodeOf (CG CN : Addr) : Sp := fun vs H Q _ => ∃ (g : Addr) (x : V) (F : List Addr) (us : List (List Nat)) (os os' : List Op) (ns : List Str), vs = [.ref g, x] ∧ GrAt CG CN H F g us os os' ∧ PathIs H us x ns ∧
  ∀ H' F' n os1 kids, OutF F H H' → NewF F F' H → GrN CG CN H' F' g us os os' ns n os1 kids → Q (.ref n) H'
def spNodeAt (K : PySem.W.Frag) (CG CN CT CX : Addr) : Sp := fun vs H Q E => ∃ (y x : V), vs = [y, x] ∧ ((NotG K CG H y ∧ Err CX "found" y H E) ∨ ∃ (g : Addr) (F : List Addr) (us : List (List Nat)) (os os' : List Op), y = .ref g ∧ GrAt CG CN H F g us os os' ∧
  ((∃ ns, PathIs H us x ns ∧ ∀ H' F' n os1 kids, OutF F H H' → NewF F F' H → GrN CG CN H' F' g us os os' ns n os1 kids → Q (.ref n) H') ∨ (OddP K H us x ∧ Err CT "found" x H E)))
end J
namespace J
open PySem PySem.Spec PyProof.Rows L2 M
theorem names_pa {K : PySem.W.Frag} {H : Hp} {a : Addr} {ns : List Str} (h : H a = some (.tup (ns.map V.str))) (nm : ∀ z ∈ ns, Nm (cd z)) (l : ns.length ≤ 60) : Pa K H (.ref a) true := by
  have e : (ns.map fun z => ((V.str z, PyData.str z) : V × PyData)).map Prod.fst = ns.map V.str := by rw [List.map_map]; rfl
  have p := Pa.tup (K := K) (H := H) (a := a) (es := ns.map fun z => (V.str z, PyData.str z)) (by rw [e]; exact h) (fun e he => by
    obtain ⟨z, hz, rfl⟩ := List.mem_map.mp he
    exact .str z (by rw [len_cd]; have := (nm z hz).2.1; omega) fun c hc => by have := (nm z hz).2.2 c hc; omega) (by rw [List.length_map]; exact l)
  have t : ((ns.map fun z => ((V.str z, PyData.str z) : V × PyData)).all fun e => nmD e.2) = true := by
    rw [List.all_eq_true]
    intro e he
    obtain ⟨z, hz, rfl⟩ := List.mem_map.mp he
    exact isNm_iff.mpr (nm z hz)
  rw [t] at p
  exact p
theorem here_nm {H : Hp} {cs : List V} {us : List (List Nat)} {os : List Op} (s : Subs H cs us os) {ns : List Str} (w : Here us ns) : (∀ z ∈ ns, Nm (cd z)) ∧ ns.length ≤ 1 := by
  rcases w with rfl | ⟨u, hu, rfl⟩
  · exact ⟨(fun _ h => nomatch h), Nat.zero_le _⟩
  · refine ⟨fun z hz => ?_, Nat.le_refl _⟩
    obtain rfl := List.mem_singleton.mp hz
    obtain ⟨i, hi⟩ := List.mem_iff_getElem?.mp hu
    have lt : i < cs.length := by rw [s.1]; exact (List.getElem?_eq_some_iff.mp hi).1
    obtain ⟨c, u', _, e, nm, _⟩ := s.2 i _ (List.getElem?_eq_getElem lt)
    obtain rfl : u = u' := Option.some.inj (hi.symm.trans e)
    rw [cd_S]
    exact nm
theorem here_val {r : V} {cs : List V} {us : List (List Nat)} (hu : us.Nodup) (l : cs.length = us.length) {ns : List Str} (w : Here us ns) : ∃ v, valV ((allC r us cs).map keyE) (ns.map Sum.inr) = some v := by
  rcases w with rfl | ⟨u, hm, rfl⟩
  · exact ⟨r, valV_at (allE_nd hu cs) (i := 0) rfl⟩
  · obtain ⟨i, hi⟩ := List.mem_iff_getElem?.mp hm
    have lt : i < cs.length := by rw [l]; exact (List.getElem?_eq_some_iff.mp hi).1
    refine ⟨cs[i], valV_at (allE_nd hu cs) (i := i + 1) ?_⟩
    show ((kidsC us cs).map keyE)[i]? = _
    rw [List.getElem?_map, kidsC_get hi (List.getElem?_eq_getElem lt)]
    rfl
theorem odd_val {r : V} {cs : List V} {us : List (List Nat)} {ns : List Str} (w : ¬ Here us ns) : valV ((allC r us cs).map keyE) (ns.map Sum.inr) = none := by
  refine valV_of fun e he => ?_
  obtain ⟨p, hp, rfl⟩ := List.mem_map.mp he
  intro e1
  have e2 : p.1 = ns := inr_inj e1
  rcases List.mem_cons.mp hp with rfl | h
  · exact w (.inl e2.symm)
  · obtain ⟨i, u, h1, h2, h3⟩ := kidsC_mem h
    exact w (.inr ⟨u, List.mem_of_getElem? h1, by rw [← e2, h3]⟩)
end J
namespace K16
open PySem PySem.Spec PyProof.Rows L2 J M
local macro_rules | `(tactic| walk_at "hp") => `(tactic| first | assumption | exact upd_same | (rw [upd_ne (by assumption)]; walk_at "hp") | (rw [upd_ne (Ne.symm (by assumption))]; walk_at "hp"))
local macro_rules | `(tactic| walk_at "s") => `(tactic| first
  | ((with_reducible refine' r_var ?h ?k); (case h => exact rfl))
  | (with_reducible refine r_c ?_)
  | (with_reducible refine r_op ?_)
  | (with_reducible refine r_un ?_)
  | (with_reducible refine r_seq ?_)
  | (with_reducible refine r_next ?_)
  | (with_reducible refine r_sets ?_)
  | (with_reducible refine r_gname ?_)
  | (with_reducible refine r_ifS ?_)
  | (with_reducible refine r_gsub ?_)
  | (with_reducible refine r_test ?_)
  | (with_reducible refine r_tb ?_)
  | (with_reducible refine r_not ?_)
  | (with_reducible refine r_and ?_)
  | (with_reducible refine r_or ?_)
  | (with_reducible refine r_andV ?_)
  | (with_reducible refine r_orV ?_)
  | (with_reducible refine r_notV ?_)
  | (with_reducible refine r_ifE ?_)
  | (with_reducible refine r_chain ?_)
  | (with_reducible refine r_cb ?_)
  | (with_reducible refine r_cons ?_)
  | (with_reducible refine r_nil ?_)
  | (with_reducible refine r_call ?_)
  | (with_reducible refine r_lst ?_)
  | (with_reducible refine r_tup ?_)
  | (with_reducible refine r_slice ?_)
  | (with_reducible refine r_nop ?_)
  | (with_reducible refine r_part ?_)
  | (with_reducible refine r_bm ?_)
  | (with_reducible refine r_m1 ?_)
  | (with_reducible refine r_m0 ?_)
  | (with_reducible refine r_is ?_)
  | (with_reducible refine r_maxD ?_)
  | (with_reducible refine r_orT ?_)
  | (with_reducible refine r_truN ?_)
  | (with_reducible refine r_intI ?_)
  | (with_reducible refine r_intB ?_)
  | (with_reducible refine r_max2 ?_)
  | (with_reducible refine r_min2 ?_)
  | (with_reducible refine r_yes ?_)
  | (with_reducible refine r_bl ?_)
  | (with_reducible refine iteT ?_)
  | (with_reducible refine iteF ?_)
  | (with_reducible refine r_iteNT ?_)
  | (with_reducible refine r_iteNF ?_)
  | (with_reducible refine r_minL ?_)
  | (with_reducible refine r_gcons ?_)
  | (with_reducible refine r_gnil ?_)
  | (with_reducible refine r_par ?_)
  | (with_reducible refine r_par3 ?_)
  | (with_reducible refine r_is2 ?_)
  | (with_reducible refine r_is3 ?_)
  | (with_reducible refine r_dget ?_)
  | (with_reducible refine r_callS ?_)
  | (with_reducible refine r_rz ?_)
  | (with_reducible refine r_rev ?_)
  | (with_reducible refine r_isI ?_)
  | (with_reducible refine r_isStr ?_)
  | (with_reducible refine r_ret ?_)
  | (with_reducible refine r_drop ?_)
  | (with_reducible refine r_rI0 ?_)
  | (with_reducible refine r_addI ?_)
  | ((with_reducible show rI (fun _ j => 0 < j) _ (.int _) (.int _) _ _); refine r_rI (by first | omega | decide) ?_)
  | ((with_reducible show rI CDiv _ (.int _) (.int _) _ _); refine r_rI (by constructor <;> omega) ?_)
  | ((with_reducible show rI CPow _ (.int _) (.int _) _ _); refine r_rI (by refine ⟨by decide, by decide, ?_⟩; omega) ?_)
  | ((with_reducible show rMul (.int _) (.int _) _ _); refine r_mulI (cmulW (by omega) (by omega)) ?_)
  | (with_reducible refine r_cmpI ?_)
  | (with_reducible refine r_cmpS ?_)
  | (with_reducible refine r_eqI ?_)
  | (with_reducible refine r_neI ?_)
  | (with_reducible refine r_eqS ?_)
  | (with_reducible refine r_neS ?_)
  | (with_reducible refine r_inSF ?_)
  | (with_reducible refine r_inST ?_)
  | (with_reducible refine r_isiStr ?_)
  | ((with_reducible show rIx _ (.ref _) (.int _) _ _); refine' r_ixL (SqL.of ?h) ?e ?_; (case h => walk_at "hp"); (case e => rfl))
  | ((with_reducible show rSetL (.ref _) (.int _) _ _ _); refine' r_setL ?h ?e ?_; (case h => walk_at "hp"); (case e => rfl)))
local macro_rules | `(tactic| walk_at "g") => `(tactic| repeat walk_at "s")
local macro_rules | `(tactic| walk_at "x") => `(tactic| first | omega | decide +kernel | (simp only [List.length_cons, List.length_nil]; omega))
local macro_rules | `(tactic| walk_at "T1") => `(tactic| (first
  | walk_at "s"
  | ((with_reducible show rIx _ (.ref _) (.int _) _ _); refine' r_ixTu (SqT.of ?h) ?e ?_; (case h => first | assumption | walk_at "hp"); (case e => rfl))
  | (with_reducible refine r_lenSet ?_)
  | (with_reducible refine r_asg2 ?_)
  | (with_reducible refine iteDT (by walk_at "x") ?_)
  | (with_reducible refine iteDF (by walk_at "x") ?_)
  | (with_reducible refine iteNT (by walk_at "x") ?_)
  | (with_reducible refine iteNF (by walk_at "x") ?_)))
local macro_rules | `(tactic| walk_at "T") => `(tactic| repeat (first
  | walk_at "s"
  | ((with_reducible show rIx _ (.ref _) (.int _) _ _); refine' r_ixTu (SqT.of ?h) ?e ?_; (case h => first | assumption | walk_at "hp"); (case e => rfl))
  | (with_reducible refine r_lenSet ?_)
  | (with_reducible refine r_asg2 ?_)
  | (with_reducible refine iteDT (by walk_at "x") ?_)
  | (with_reducible refine iteDF (by walk_at "x") ?_)
  | (with_reducible refine iteNT (by walk_at "x") ?_)
  | (with_reducible refine iteNF (by walk_at "x") ?_)))
local macro_rules | `(tactic| walk_at "g") => `(tactic| repeat (first | walk_at "T1" | (with_reducible refine r_fld ?_) | (with_reducible refine r_sfl ?_) | (with_reducible refine r_ifT ?_) | (with_reducible refine r_nn ?_)))
section
variable {P : Program} {w : World} {K : PySem.W.Frag} {mg : Str → Option Value} {base : Heap}
theorem ok_there (T : Tx K mg) {CG CN : Addr} (GC : GrC K CG) {f f_is_name f_is_path : Addr} {fd fd_is_name fd_is_path : FuncData} (F : Fun K "is_there" "Grammar.is_there" s_Grammar_is_there f fd)
    (D_is_name : DAt K mg "is_name" s_is_name P_is_name f_is_name fd_is_name)
    (D_is_path : DAt K mg "is_path" s_is_path P_is_path f_is_path fd_is_path) : FnOk P w K mg base CX0 3 f fd P_Grammar_is_there (spThere K CG CN) := by
  have G_is_path : FnOk P w K mg base CX0 2 f_is_path fd_is_path P_is_path (spPath K) := ok_is_path T D_is_path.fn D_is_name
  refine F.ok sc_Grammar_is_there (fun vs H Q E h => ?_) (fun cdv A outer s H vs Q E hr h => ?_)
  · obtain ⟨g, x, F, us, os, os', rfl, _⟩ := h
    rfl
  · obtain ⟨g, x, F, us, os, os', rfl, gr, k⟩ := h
    refine ⟨_, (pss_one (ps_ret (pe_and (pe_call G_is_path (hr.mono (by decide)) rfl D_is_path.gl D_is_path.fn.kp D_is_path.bd .nil pass0 (pa_cons (pv 1) pa_nil)) (pe_one (pe_cmp (pc_din (hu_of hr) (pv 1) (asFld (K := K) rfl (pe_fld (pv 0) rfl))) rfl))))), ?_⟩
    obtain ⟨n, gp, _⟩ := gr.ex
    obtain ⟨dx, t, r, dc, dw, nm, cs, h1, f1, h2, f2, h3, h4, h5, h6, h7, h8⟩ := gp.ex
    rcases k with ⟨ns, ⟨a, rfl, ha, hw⟩, k⟩ | ⟨od, k⟩
    · obtain ⟨v, hv⟩ := here_val (r := .ref r) h7 h5.1 hw
      obtain ⟨q1, q2⟩ := here_nm h5 hw
      walk_at "g"
      refine ⟨.ref a, true, rfl, names_pa ha q1 (by omega), fun H1 s1 => ?_⟩
      walk_at "g"
      refine r_din ?_
      walk_at "g"
      refine ⟨g, CG, dx, _, _, rfl, s1 _ _ h1, GC.cls, GC.commands, rfl, ?_⟩
      refine ⟨dc, _, rfl, DGet.t (k := ns.map Sum.inr) (s1 _ _ h2) (by rw [kV_inr]; exact s1 _ _ ha), ?_⟩
      rw [hv]
      exact k _ s1
    · rcases od with hp | ⟨a, ns, rfl, ha, hnm, hl, hw⟩
      · walk_at "g"
        refine ⟨x, false, rfl, hp, fun H1 s1 => ?_⟩
        walk_at "g"
        exact k _ s1
      · walk_at "g"
        refine ⟨.ref a, true, rfl, names_pa ha hnm hl, fun H1 s1 => ?_⟩
        walk_at "g"
        refine r_din ?_
        walk_at "g"
        refine ⟨g, CG, dx, _, _, rfl, s1 _ _ h1, GC.cls, GC.commands, rfl, ?_⟩
        refine ⟨dc, _, rfl, DGet.t (k := ns.map Sum.inr) (s1 _ _ h2) (by rw [kV_inr]; exact s1 _ _ ha), ?_⟩
        rw [odd_val hw]
        exact k _ s1
theorem ok_command (T : Tx K mg) {CG CN CT : Addr} (GC : GrC K CG) (O_NotThere : OY P w K mg base "NotThere" "found" CT) {f f_is_name f_is_path f_Grammar_is_there : Addr} {fd fd_is_name fd_is_path fd_Grammar_is_there : FuncData} (F : Fun K "command" "Grammar.command" s_Grammar_command f fd)
    (D_is_name : DAt K mg "is_name" s_is_name P_is_name f_is_name fd_is_name)
    (D_is_path : DAt K mg "is_path" s_is_path P_is_path f_is_path fd_is_path)
    (D_Grammar_is_there : MAt K CG "is_there" "Grammar.is_there" s_Grammar_is_there P_Grammar_is_there f_Grammar_is_there fd_Grammar_is_there) : FnOk P w K mg base (L2.CX P w) 4 f fd P_Grammar_command (spCommand K CG CN CT) := by
  have M_Grammar_is_there := D_Grammar_is_there.me
  have B_Grammar_is_there := D_Grammar_is_there.bd
  have G_Grammar_is_there : FnOk P w K mg base CX0 3 f_Grammar_is_there fd_Grammar_is_there P_Grammar_is_there (spThere K CG CN) := ok_there T GC D_Grammar_is_there.fn D_is_name D_is_path
  refine F.okX sc_Grammar_command (fun vs H Q E h => ?_) (fun cdv A outer s H vs Q E hr h => ?_)
  · obtain ⟨g, x, F, us, os, os', rfl, _⟩ := h
    rfl
  · obtain ⟨g, x, F, us, os, os', rfl, gr, k⟩ := h
    have C_Grammar := GC.cls
    refine ⟨_, (pss_cons (ps_if (pt_not (pt_val (pe_meth (pv 0) C_Grammar M_Grammar_is_there G_Grammar_is_there (hr.mono (by decide)) B_Grammar_is_there .nil pass0 (pa_cons (pv 1) pa_nil)))) (pss_one (ps_rzY (K := K) (W := (fun cls d _ H' => E cls d H')) rfl rfl (takes_of rfl rfl rfl rfl) O_NotThere (hr.mono (by decide)) rfl (by exact (pa_cons (pv 1) pa_nil)))) pss_nil) (pss_one (ps_ret (pe_dget (hu_of hr) (asFld (K := K) rfl (pe_fld (pv 0) rfl)) (pv 1) (fun _ _ => rfl))))), ?_⟩
    obtain ⟨n, gp, _⟩ := gr.ex
    obtain ⟨dx, t, r, dc, dw, nm, cs, h1, f1, h2, f2, h3, h4, h5, h6, h7, h8⟩ := gp.ex
    rcases k with ⟨ns, hpi, k⟩ | ⟨od, k⟩
    · obtain ⟨a, rfl, ha, hw⟩ := id hpi
      obtain ⟨v, hv⟩ := here_val (r := .ref r) h7 h5.1 hw
      walk_at "g"
      refine r_meth ?_
      walk_at "g"
      refine ⟨g, dx, _, rfl, h1, rfl, ?_⟩
      walk_at "g"
      refine ⟨g, .ref a, F, us, os, os', rfl, gr, .inl ⟨ns, hpi, fun H1 s1 => ?_⟩⟩
      walk_at "g"
      refine ⟨g, CG, dx, _, _, rfl, s1 _ _ h1, GC.cls, GC.commands, rfl, ?_⟩
      walk_at "g"
      refine ⟨dc, v, rfl, by rw [← hv]; exact DGet.t (k := ns.map Sum.inr) (s1 _ _ h2) (by rw [kV_inr]; exact s1 _ _ ha), ?_⟩
      exact k _ _ s1
    · walk_at "g"
      refine r_meth ?_
      walk_at "g"
      refine ⟨g, dx, _, rfl, h1, rfl, ?_⟩
      walk_at "g"
      refine ⟨g, x, F, us, os, os', rfl, gr, .inr ⟨od, fun H1 s1 => ?_⟩⟩
      walk_at "g"
      exact rz_oneY O_NotThere.T O_NotThere.nf (k.at s1)
theorem ok_command_at (T : Tx K mg) {CG CN CT CX : Addr} (GI : GIs K CG) (GC : GrC K CG) (L_Grammar : mg "Grammar" = some (.ref CG)) (O_NotThere : OY P w K mg base "NotThere" "found" CT) (O_NoGrammar : OE P w K mg base "NoGrammar" "found" CX) {f f_is_name f_is_path f_Grammar_is_there f_Grammar_command : Addr} {fd fd_is_name fd_is_path fd_Grammar_is_there fd_Grammar_command : FuncData} (F : Fun K "command_at" "command_at" s_command_at f fd)
    (D_is_name : DAt K mg "is_name" s_is_name P_is_name f_is_name fd_is_name)
    (D_is_path : DAt K mg "is_path" s_is_path P_is_path f_is_path fd_is_path)
    (D_Grammar_is_there : MAt K CG "is_there" "Grammar.is_there" s_Grammar_is_there P_Grammar_is_there f_Grammar_is_there fd_Grammar_is_there)
    (D_Grammar_command : MAt K CG "command" "Grammar.command" s_Grammar_command P_Grammar_command f_Grammar_command fd_Grammar_command) : FnOk P w K mg base (L2.CX P w) 5 f fd P_command_at (spCmdAt K CG CN CT CX) := by
  have M_Grammar_is_there := D_Grammar_is_there.me
  have B_Grammar_is_there := D_Grammar_is_there.bd
  have M_Grammar_command := D_Grammar_command.me
  have B_Grammar_command := D_Grammar_command.bd
  have G_Grammar_command : FnOk P w K mg base (L2.CX P w) 4 f_Grammar_command fd_Grammar_command P_Grammar_command (spCommand K CG CN CT) := ok_command T GC O_NotThere D_Grammar_command.fn D_is_name D_is_path D_Grammar_is_there
  refine F.okX sc_command_at (fun vs H Q E h => ?_) (fun cdv A outer s H vs Q E hr h => ?_)
  · obtain ⟨y, x, rfl, _⟩ := h
    rfl
  · obtain ⟨y, x, rfl, k⟩ := h
    have C_Grammar := GC.cls
    refine ⟨_, (pss_cons (ps_if (pt_not (pt_val (pe_callB (L2.call_isi : CallR _ _ (rIsi K)) (by rfl) T.z_isinstance (by decide +kernel) (pa_cons (pv 0) (pa_cons (pe_gR L_Grammar rfl) pa_nil))))) (pss_one (ps_rzK (K := K) (W := (fun cls d _ H' => E cls d H')) rfl rfl (takes_of rfl rfl rfl rfl) O_NoGrammar (hr.mono (by decide)) rfl (by exact (pa_cons (pv 0) pa_nil)))) pss_nil) (pss_one (ps_ret (pe_meth (E := E) (pv 0) C_Grammar M_Grammar_command G_Grammar_command (hr.mono (by decide)) B_Grammar_command .nil (passes_call (takes_of rfl rfl rfl rfl) fun _ _ _ _ h => h) (pa_cons (pv 1) pa_nil))))), ?_⟩
    rcases k with ⟨⟨t, ht, hk⟩, k⟩ | ⟨g, F, us, os, os', rfl, gr, k⟩
    · walk_at "g"
      refine ⟨y, .ref CG, t, .ref CG, false, rfl, .own CG, ht, hk, ?_⟩
      walk_at "g"
      exact rz_one O_NoGrammar.T O_NoGrammar.nf k
    · obtain ⟨n, gp, _⟩ := gr.ex
      obtain ⟨dx, t, r, dc, dw, nm, cs, h1, f1, h2, f2, h3, h4, h5, h6, h7, h8⟩ := gp.ex
      walk_at "g"
      refine ⟨.ref g, .ref CG, .ref CG, .ref CG, true, rfl, .own CG, .base (.ins h1 GI.ins.cl GI.ins.ha GI.ins.hn GI.ins.htk GI.ins.hm), GI.ins.me, ?_⟩
      walk_at "g"
      refine r_meth ?_
      walk_at "g"
      refine ⟨g, dx, _, rfl, h1, rfl, ?_⟩
      walk_at "g"
      exact ⟨g, x, F, us, os, os', rfl, gr, k⟩
theorem ok_node_of (T : Tx K mg) {CG CN : Addr} (GC : GrC K CG) (NC : NodeC K CN) {f f_own_name f_own_words f_has_none f_fitting f_nodes_of f_Node_has_worths f_Node_init : Addr} {fd fd_own_name fd_own_words fd_has_none fd_fitting fd_nodes_of fd_Node_has_worths fd_Node_init : FuncData} (F : Fun K "node_of" "Grammar.node_of" s_Grammar_node_of f fd)
    (D_own_name : DAt K mg "own_name" s_own_name P_own_name f_own_name fd_own_name)
    (D_own_words : DAt K mg "_own_words" s_own_words P_own_words f_own_words fd_own_words)
    (D_has_none : DAt K mg "_has_none" s_has_none P_has_none f_has_none fd_has_none)
    (D_fitting : DAt K mg "_fitting" s_fitting P_fitting f_fitting fd_fitting)
    (D_nodes_of : DAt K mg "nodes_of" s_nodes_of P_nodes_of f_nodes_of fd_nodes_of)
    (D_Node_init : IAt K mg "Node" CN "Node.__init__" s_Node_init P_Node_init [] f_Node_init fd_Node_init)
    (D_Node_has_worths : MAt K CN "has_worths" "Node.has_worths" s_Node_has_worths P_Node_has_worths f_Node_has_worths fd_Node_has_worths) : FnOk P w K mg base CX0 6 f fd P_Grammar_node_of (spNodeOf CG CN) := by
  have M_Node_has_worths := D_Node_has_worths.me
  have B_Node_has_worths := D_Node_has_worths.bd
  have K_Node := D_Node_init.mak
  have L_Node := D_Node_init.gl
  have B_Node_init := D_Node_init.bd
  have V_Node_init : Vals [] [] := .nil
  have G_nodes_of : FnOk P w K mg base CX0 5 f_nodes_of fd_nodes_of P_nodes_of (spNodes CN) := ok_nodes T NC D_nodes_of.fn D_own_name D_own_words D_has_none D_fitting D_Node_init D_Node_has_worths
  refine F.ok sc_Grammar_node_of (fun vs H Q E h => ?_) (fun cdv A outer s H vs Q E hr h => ?_)
  · obtain ⟨g, x, F, us, os, os', ns, rfl, _⟩ := h
    rfl
  · obtain ⟨g, x, F, us, os, os', ns, rfl, gr, ⟨a, rfl, ha, hw⟩, k⟩ := h
    refine ⟨_, (pss_cons (ps_if (pt_cmpR L2.op_isN (asFld (K := K) rfl (pe_fld (pv 0) rfl)) pe_non (nomark _)) (pss_one (asSFld (K := K) rfl (ps_fld (pv 0) (pe_call G_nodes_of (hr.mono (by decide)) rfl D_nodes_of.gl D_nodes_of.fn.kp D_nodes_of.bd .nil pass0 (pa_cons (asFld (K := K) rfl (pe_fld (pv 0) rfl)) (pa_cons (asFld (K := K) rfl (pe_fld (pv 0) rfl)) pa_nil))) rfl))) pss_nil) (pss_one (ps_ret (pe_dget (hu_of hr) (asFld (K := K) rfl (pe_fld (pv 0) rfl)) (pv 1) (fun _ _ => rfl))))), ?_⟩
    obtain ⟨n, gp, hn⟩ := gr.ex
    have gp0 := gp
    obtain ⟨dx, t, r, dc, dw, nm, cs, h1, f1, h2, f2, h3, h4, h5, h6, h7, h8⟩ := gp.ex
    rcases hn with rfl | ⟨N, rfl, nds⟩
    · walk_at "g"
      refine ⟨g, CG, dx, _, _, rfl, h1, GC.cls, GC.nodes, rfl, ?_⟩
      walk_at "g"
      refine ⟨g, CG, dx, _, _, rfl, h1, GC.cls, GC.commands, rfl, ?_⟩
      walk_at "g"
      refine ⟨g, CG, dx, _, _, rfl, h1, GC.cls, GC.words, rfl, ?_⟩
      walk_at "g"
      refine ⟨r, dc, dw, nm, os, os', cs, us, rfl, h2, h3, h4, h5, h6, h7, h8, fun H1 F1 N s1 hF1 nds => ?_⟩
      have g1 := s1 _ _ h1
      walk_at "g"
      refine ⟨g, CG, dx, _, rfl, g1, GC.cls, GC.nodes, show 5 < 1000 by decide, ?_⟩
      rw [show putF "_nodes" (V.ref N) (grF t r dc dw .non) = grF t r dc dw (.ref N) from rfl]
      have k2 : KeepB g H1 (upd H1 g (.ins CG dx (grF t r dc dw (.ref N)))) := KeepB.upd _
      have g2 : upd H1 g (.ins CG dx (grF t r dc dw (.ref N))) g = some (.ins CG dx (grF t r dc dw (.ref N))) := upd_same
      have gF : g ∉ F1 := fun e => nomatch (hF1 g e).symm.trans h1
      generalize upd H1 g (.ins CG dx (grF t r dc dw (.ref N))) = H2 at k2 g2 ⊢
      have kF : KeepF F1 H1 H2 := fun q hq o e => k2 q o (fun e' => gF (e' ▸ hq)) e
      have t2 := k2.tup g1
      have nds2 : NodesAt CN H2 (F ++ F1) N us os os' := nds.keep kF t2 fun z hz => List.mem_append_right _ hz
      have new : NewF F (F ++ F1) H := ⟨fun z hz => List.mem_append_left _ hz, fun z hz => (List.mem_append.mp hz).imp id (hF1 z)⟩
      have out : OutF F H H2 := ⟨fun q o hq h => k2 q o (fun e => hq (e ▸ f1)) (s1 _ _ h), (TupK.of s1).trans t2⟩
      have gp2 : GrP CG H2 (F ++ F1) g us os os' (.ref N) := ⟨dx, t, r, dc, dw, nm, cs, g2, new.1 _ f1, k2.nd g1 (s1 _ _ h2) (fun _ _ _ z => nomatch z), new.1 _ f2, h3.keep out.2, h4, h5.keep out.2, h6, h7, h8⟩
      obtain ⟨n1, os1, kids, ni⟩ := nds2.find hw
      obtain ⟨kvs, hN, hv⟩ := ni.val
      walk_at "g"
      refine ⟨g, CG, dx, _, _, rfl, g2, GC.cls, GC.nodes, rfl, ?_⟩
      walk_at "g"
      refine ⟨N, _, rfl, by rw [← hv]; exact DGet.t (k := ns.map Sum.inr) hN (by rw [kV_inr]; exact out.2 _ _ ha), ?_⟩
      exact k _ _ _ _ _ out new ⟨N, gp2, ni⟩
    · obtain ⟨n1, os1, kids, ni⟩ := nds.find hw
      obtain ⟨kvs, hN, hv⟩ := ni.val
      walk_at "g"
      refine ⟨g, CG, dx, _, _, rfl, h1, GC.cls, GC.nodes, rfl, ?_⟩
      walk_at "g"
      rw [decide_eq_false (fun e => nomatch e), if_neg (by decide)]
      walk_at "g"
      refine ⟨g, CG, dx, _, _, rfl, h1, GC.cls, GC.nodes, rfl, ?_⟩
      walk_at "g"
      refine ⟨N, _, rfl, by rw [← hv]; exact DGet.t (k := ns.map Sum.inr) hN (by rw [kV_inr]; exact ha), ?_⟩
      exact k _ _ _ _ _ (OutF.same (Same.refl _)) (NewF.refl _ _) ⟨N, gp0, ni⟩
theorem ok_node_at (T : Tx K mg) {CG CN CT CX : Addr} (GI : GIs K CG) (GC : GrC K CG) (NC : NodeC K CN) (L_Grammar : mg "Grammar" = some (.ref CG)) (O_NotThere : OY P w K mg base "NotThere" "found" CT) (O_NoGrammar : OE P w K mg base "NoGrammar" "found" CX) {f f_is_name f_is_path f_own_name f_own_words f_has_none f_fitting f_nodes_of f_command_at f_Grammar_is_there f_Grammar_command f_Grammar_node_of f_Node_has_worths f_Node_init : Addr} {fd fd_is_name fd_is_path fd_own_name fd_own_words fd_has_none fd_fitting fd_nodes_of fd_command_at fd_Grammar_is_there fd_Grammar_command fd_Grammar_node_of fd_Node_has_worths fd_Node_init : FuncData} (F : Fun K "node_at" "node_at" s_node_at f fd)
    (D_is_name : DAt K mg "is_name" s_is_name P_is_name f_is_name fd_is_name)
    (D_is_path : DAt K mg "is_path" s_is_path P_is_path f_is_path fd_is_path)
    (D_own_name : DAt K mg "own_name" s_own_name P_own_name f_own_name fd_own_name)
    (D_own_words : DAt K mg "_own_words" s_own_words P_own_words f_own_words fd_own_words)
    (D_has_none : DAt K mg "_has_none" s_has_none P_has_none f_has_none fd_has_none)
    (D_fitting : DAt K mg "_fitting" s_fitting P_fitting f_fitting fd_fitting)
    (D_nodes_of : DAt K mg "nodes_of" s_nodes_of P_nodes_of f_nodes_of fd_nodes_of)
    (D_command_at : DAt K mg "command_at" s_command_at P_command_at f_command_at fd_command_at)
    (D_Node_init : IAt K mg "Node" CN "Node.__init__" s_Node_init P_Node_init [] f_Node_init fd_Node_init)
    (D_Grammar_is_there : MAt K CG "is_there" "Grammar.is_there" s_Grammar_is_there P_Grammar_is_there f_Grammar_is_there fd_Grammar_is_there)
    (D_Grammar_command : MAt K CG "command" "Grammar.command" s_Grammar_command P_Grammar_command f_Grammar_command fd_Grammar_command)
    (D_Grammar_node_of : MAt K CG "node_of" "Grammar.node_of" s_Grammar_node_of P_Grammar_node_of f_Grammar_node_of fd_Grammar_node_of)
    (D_Node_has_worths : MAt K CN "has_worths" "Node.has_worths" s_Node_has_worths P_Node_has_worths f_Node_has_worths fd_Node_has_worths) : FnOk P w K mg base (L2.CX P w) 7 f fd P_node_at (spNodeAt K CG CN CT CX) := by
  have M_Grammar_is_there := D_Grammar_is_there.me
  have B_Grammar_is_there := D_Grammar_is_there.bd
  have M_Grammar_command := D_Grammar_command.me
  have B_Grammar_command := D_Grammar_command.bd
  have M_Grammar_node_of := D_Grammar_node_of.me
  have B_Grammar_node_of := D_Grammar_node_of.bd
  have M_Node_has_worths := D_Node_has_worths.me
  have B_Node_has_worths := D_Node_has_worths.bd
  have K_Node := D_Node_init.mak
  have L_Node := D_Node_init.gl
  have B_Node_init := D_Node_init.bd
  have V_Node_init : Vals [] [] := .nil
  have G_command_at : FnOk P w K mg base (L2.CX P w) 5 f_command_at fd_command_at P_command_at (spCmdAt K CG CN CT CX) := ok_command_at T GI GC L_Grammar O_NotThere O_NoGrammar D_command_at.fn D_is_name D_is_path D_Grammar_is_there D_Grammar_command
  have G_Grammar_node_of : FnOk P w K mg base CX0 6 f_Grammar_node_of fd_Grammar_node_of P_Grammar_node_of (spNodeOf CG CN) := ok_node_of T GC NC D_Grammar_node_of.fn D_own_name D_own_words D_has_none D_fitting D_nodes_of D_Node_init D_Node_has_worths
  refine F.okX sc_node_at (fun vs H Q E h => ?_) (fun cdv A outer s H vs Q E hr h => ?_)
  · obtain ⟨y, x, rfl, _⟩ := h
    rfl
  · obtain ⟨y, x, rfl, k⟩ := h
    have C_Grammar := GC.cls
    refine ⟨_, (pss_cons (ps_expr (pe_callS (E := WE (fun cls d _ H' => E cls d H')) G_command_at (hr.mono (by decide)) rfl D_command_at.gl D_command_at.fn.kp D_command_at.bd (fun σ => passAt (takes_of rfl rfl rfl rfl) σ) (by exact (pa_cons (pv 0) (pa_cons (pv 1) pa_nil))))) (pss_one (ps_ret (pe_meth (pv 0) C_Grammar M_Grammar_node_of G_Grammar_node_of (hr.mono (by decide)) B_Grammar_node_of .nil pass0 (pa_cons (pv 1) pa_nil))))), ?_⟩
    rcases k with ⟨ng, k⟩ | ⟨g, F, us, os, os', rfl, gr, ⟨ns, hpi, k⟩ | ⟨od, k⟩⟩
    · walk_at "g"
      exact ⟨y, x, rfl, .inl ⟨ng, k⟩⟩
    · walk_at "g"
      refine ⟨.ref g, x, rfl, .inr ⟨g, F, us, os, os', rfl, gr, .inl ⟨ns, hpi, fun v H1 s1 => ?_⟩⟩⟩
      have gr1 := gr.same s1
      obtain ⟨n, gp, _⟩ := gr1.ex
      obtain ⟨dx, t, r, dc, dw, nm, cs, h1, _⟩ := gp.ex
      obtain ⟨a, rfl, ha, hw⟩ := hpi
      walk_at "g"
      refine r_meth ?_
      walk_at "g"
      refine ⟨g, dx, _, rfl, h1, rfl, ?_⟩
      walk_at "g"
      exact ⟨g, .ref a, F, us, os, os', ns, rfl, gr1, ⟨a, rfl, s1 _ _ ha, hw⟩, fun H2 F2 n os1 kids o2 n2 gn => k H2 F2 n os1 kids (OutF.trans (NewF.refl _ _) (OutF.same s1) o2) ((NewF.refl _ _).trans (OutF.same s1) n2) gn⟩
    · walk_at "g"
      exact ⟨.ref g, x, rfl, .inr ⟨g, F, us, os, os', rfl, gr, .inr ⟨od, k⟩⟩⟩
end
end K16
namespace J
open PySem PySem.Spec PyProof.Rows L2 M
def trimF (H : Hp) (F : List Addr) : List Addr := F.filter fun z => (H z).isSome
theorem in_trim {H : Hp} {F : List Addr} {z : Addr} {o : HO} (h : H z = some o) (f : z ∈ F) : z ∈ trimF H F := List.mem_filter.mpr ⟨f, by rw [h]; rfl⟩
theorem trim_none {H : Hp} {F : List Addr} {z : Addr} (h : H z = none) : z ∉ trimF H F := fun m => by
  have := (List.mem_filter.mp m).2
  rw [h] at this
  cases this
theorem TxAt.trim {H : Hp} {F : List Addr} {kt : V} {os : List Op} {kids : List Kid} (h : TxAt H F kt os kids) : TxAt H (trimF H F) kt os kids := by
  rcases h with h | ⟨a, d1, d2, d3, D1, D2, D3, e, h0, b1, h1, f1, b2, h2, f2, b3, h3, f3⟩
  · exact .inl h
  · exact .inr ⟨a, d1, d2, d3, D1, D2, D3, e, h0, b1, h1, in_trim h1 f1, b2, h2, in_trim h2 f2, b3, h3, in_trim h3 f3⟩
theorem NodeAt.trim {C : Addr} {H : Hp} {F : List Addr} {n : Addr} {ps : List Str} {os : List Op} {kids : List Kid} (h : NodeAt C H F n ps os kids) : NodeAt C H (trimF H F) n ps os kids := by
  obtain ⟨dx, p, oa, ga, pa, b, no, nu, le, ow, po, fi, kf, kt, xs, h1, f1, h2, h3, h4, h5, f5, h6, f6, h7⟩ := h.ex
  exact ⟨dx, p, oa, ga, pa, b, no, nu, le, ow, po, fi, kf, kt, xs, h1, in_trim h1 f1, h2, h3, h4, h5, in_trim h5 f5, h6, in_trim h6 f6, h7.trim⟩
theorem NodesAt.trim {C : Addr} {H : Hp} {F : List Addr} {N : Addr} {us : List (List Nat)} {os os' : List Op} (h : NodesAt C H F N us os os') : NodesAt C H (trimF H F) N us os os' := by
  obtain ⟨kvs, rn, ks, h1, f1, h2, h3, h4, h5⟩ := h.ex
  exact ⟨kvs, rn, ks, h1, in_trim h1 f1, h2, h3, fun x hx => ⟨(h4 x hx).1, (h4 x hx).2.trim⟩, h5.trim⟩
theorem GrAt.trim {CG CN : Addr} {H : Hp} {F : List Addr} {g : Addr} {us : List (List Nat)} {os os' : List Op} (h : GrAt CG CN H F g us os os') : GrAt CG CN H (trimF H F) g us os os' := by
  obtain ⟨n, a, b⟩ := h.ex
  obtain ⟨dx, t, r, dc, dw, nm, cs, h1, f1, h2, f2, h3, h4, h5, h6, h7, h8⟩ := a.ex
  exact ⟨n, ⟨dx, t, r, dc, dw, nm, cs, h1, in_trim h1 f1, h2, in_trim h2 f2, h3, h4, h5, h6, h7, h8⟩, b.imp id fun ⟨N, e, x⟩ => ⟨N, e, x.trim⟩⟩
/-- what has come was free -/
def NewW (F F' : List Addr) (H : Hp) : Prop := ∀ z ∈ F', z ∈ F ∨ H z = none
theorem NewW.trans {F F1 F2 : List Addr} {H H1 : Hp} (a : NewW F F1 H) (o : OutF F H H1) (b : NewW F1 F2 H1) : NewW F F2 H := fun z h => by
  rcases b z h with h1 | h1
  · exact a z h1
  · by_cases hz : z ∈ F
    · exact .inl hz
    · right
      cases e : H z with
      | none => rfl
      | some x => exact nomatch h1.symm.trans (o.1 z x hz e)
theorem OutF.transW {F F1 : List Addr} {H H1 H2 : Hp} (n : NewW F F1 H) (a : OutF F H H1) (b : OutF F1 H1 H2) : OutF F H H2 := ⟨fun q o hq h => b.1 q o (fun h1 => by
  rcases n q h1 with h2 | h2
  · exact hq h2
  · exact nomatch h2.symm.trans h) (a.1 q o hq h), a.2.trans b.2⟩
theorem NewF.w {F F' : List Addr} {H : Hp} (h : NewF F F' H) : NewW F F' H := h.2
theorem NewW.trim {F F' : List Addr} {H H1 : Hp} (h : NewW F F' H) : NewW F (trimF H1 F') H := fun z hz => h z (List.mem_filter.mp hz).1
theorem GrN.at {CG CN : Addr} {H : Hp} {F : List Addr} {g : Addr} {us : List (List Nat)} {os os' : List Op} {ns : List Str} {n : Addr} {os1 : List Op} {kids : List Kid} {N : Addr} (gp : GrP CG H F g us os os' (.ref N)) (ni : NodeIn CN H F N us os os' ns n os1 kids) {H' : Hp} {F' : List Addr} (k : KeepB n H H') (sub : ∀ q ∈ F, q ∈ F') (new : NodeAt CN H' F' n ns os1 kids) : GrAt CG CN H' F' g us os os' := by
  obtain ⟨dx, fs, hn⟩ := ni.node.ins
  obtain ⟨_, _, _, _, _, _, _, _, _, _, _, _, _, _, _, hu, _⟩ := gp.ex
  exact ⟨.ref N, gp.keepB k hn (node_ne_gr gp ni.node) sub, .inr ⟨N, rfl, ni.step hu k sub new⟩⟩
theorem grN_ok {CG CN : Addr} {H : Hp} {F : List Addr} {g : Addr} {us : List (List Nat)} {os os' : List Op} {ns : List Str} {n : Addr} {os1 : List Op} {kids : List Kid} {N : Addr} (gp : GrP CG H F g us os os' (.ref N)) (ni : NodeIn CN H F N us os os' ns n os1 kids) : OpsOk os1 ∧ NmsOk (kids.map Prod.fst) := by
  obtain ⟨dx, t, r, dc, dw, nm, cs, h1, f1, h2, f2, h3, h4, h5, h6, h7, h8⟩ := gp.ex
  rcases ni.ofs with ⟨rfl, e, _⟩ | ⟨rfl, e, _⟩
  · refine ⟨h4, ?_⟩
    rw [e]
    refine ⟨by rw [← h5.1]; exact h8, h7, fun u hu => ?_⟩
    have := (here_nm h5 (.inr ⟨u, hu, rfl⟩)).1 (S u) (List.mem_singleton.mpr rfl)
    rwa [cd_S] at this
  · rw [e]
    exact ⟨h6, Nat.zero_le _, List.nodup_nil, fun _ h => nomatch h⟩
def optS (us : List (List Nat)) (os os' : List Op) (ns : List Str) : List (List Nat) := (if ns = [] then os else os').map Prod.fst
def flagS (us : List (List Nat)) (os os' : List Op) (ns : List Str) : List (List Nat) := flagN (if ns = [] then os else os')
def cmdS (us : List (List Nat)) (os os' : List Op) (ns : List Str) : List (List Nat) := if ns = [] then us else []
theorem sel_ops {os os1 os' : List Op} {us : List (List Nat)} {ns : List Str} {kids : List Kid} (h : (os1 = os ∧ kids.map Prod.fst = us ∧ ns = []) ∨ (os1 = os' ∧ kids = [] ∧ ns ≠ [])) : os1.map Prod.fst = optS us os os' ns ∧ flagN os1 = flagS us os os' ns ∧ kids.map Prod.fst = cmdS us os os' ns := by
  rcases h with ⟨rfl, e, rfl⟩ | ⟨rfl, rfl, e⟩
  · exact ⟨rfl, rfl, e⟩
  · unfold optS flagS cmdS
    rw [if_neg e, if_neg e]
    exact ⟨rfl, rfl, rfl⟩
def spWords (K : PySem.W.Frag) (CG CN CT CX : Addr) (sel : List (List Nat) → List Op → List Op → List Str → List (List Nat)) : Sp := fun vs H Q E => ∃ (y x : V), vs = [y, x] ∧ ((NotG K CG H y ∧ Err CX "found" y H E) ∨ ∃ (g : Addr) (F : List Addr) (us : List (List Nat)) (os os' : List Op), y = .ref g ∧ GrAt CG CN H F g us os os' ∧
  ((∃ ns, PathIs H us x ns ∧ ∀ H' F' d D, OutF F H H' → NewW F F' H → GrAt CG CN H' F' g us os os' → IsBegs (sel us os os' ns) D → H' d = some (.dK (D.map begE)) → (d ∉ F → H d = none) → d ∉ F' → Q (.ref d) H') ∨ (OddP K H us x ∧ Err CT "found" x H E)))
def spGoes (K : PySem.W.Frag) (CG CN CT CX : Addr) : Sp := fun vs H Q E => ∃ (y x : V), vs = [y, x] ∧ ((NotG K CG H y ∧ Err CX "found" y H E) ∨ ∃ (g : Addr) (F : List Addr) (us : List (List Nat)) (os os' : List Op), y = .ref g ∧ GrAt CG CN H F g us os os' ∧ OddP K H us x ∧ Err CT "found" x H E)
def spNamedT (C : Addr) : Sp := fun vs H Q _ => ∃ (n d : Addr) (F : List Addr) (ns : List Str) (os : List Op) (kids : List Kid) (nms : List (List Nat)) (D : List Bg), vs = [.ref n, .ref d] ∧ NodeAt C H F n ns os kids ∧ OpsOk os ∧ H d = some (.dK (D.map (leadE (numK os)))) ∧ IsBegs nms D ∧ NmsOk nms ∧ (∀ m ∈ nms, m ∈ os.map Prod.fst) ∧
  ∀ H' e, Same H H' → H e = none → H' e = some (.dK (D.map begE)) → Q (.ref e) H'
theorem leadE_val {tbl : List (Key × V)} {D : List Bg} (nd : (D.map Prod.fst).Nodup) {p : Bg} (hp : p ∈ D) {v : V} (hv : valV tbl (.inr (S p.2)) = some v) : valV (D.map (leadE tbl)) (.inr (S p.1)) = some v := by
  have e : leadE tbl p = (Sum.inr (S p.1), v) := by unfold leadE; rw [hv]; rfl
  refine valV_mem ?_ (by rw [← e]; exact List.mem_map_of_mem hp)
  have : (D.map (leadE tbl)).map Prod.fst = (D.map Prod.fst).map (fun u => (Sum.inr (S u) : Key)) := by
    rw [List.map_map, List.map_map]; rfl
  rw [this]
  exact nd_map (fun a b e => S_inj.mp (Sum.inr.inj e)) nd
theorem begE_put2 {D : List Bg} {i : Nat} {p : Bg} (nd : (D.map Prod.fst).Nodup) (h : D[i]? = some p) : putK ((D.take i).map begE) (.inr (S p.1)) (.str (S p.2)) = (D.take (i + 1)).map begE := by
  rw [List.take_succ, h, Option.toList_some]
  refine begE_put fun q hq e => nd_take nd (i := i) (a := p.1) (by rw [List.getElem?_map, h]; rfl) ?_
  rw [← List.map_take, ← e]
  exact List.mem_map_of_mem hq
end J
namespace K16
open PySem PySem.Spec PyProof.Rows L2 J M
local macro_rules | `(tactic| walk_at "hp") => `(tactic| first | assumption | exact upd_same | (rw [upd_ne (by assumption)]; walk_at "hp") | (rw [upd_ne (Ne.symm (by assumption))]; walk_at "hp"))
local macro_rules | `(tactic| walk_at "s") => `(tactic| first
  | ((with_reducible refine' r_var ?h ?k); (case h => exact rfl))
  | (with_reducible refine r_c ?_)
  | (with_reducible refine r_op ?_)
  | (with_reducible refine r_un ?_)
  | (with_reducible refine r_seq ?_)
  | (with_reducible refine r_next ?_)
  | (with_reducible refine r_sets ?_)
  | (with_reducible refine r_gname ?_)
  | (with_reducible refine r_ifS ?_)
  | (with_reducible refine r_gsub ?_)
  | (with_reducible refine r_test ?_)
  | (with_reducible refine r_tb ?_)
  | (with_reducible refine r_not ?_)
  | (with_reducible refine r_and ?_)
  | (with_reducible refine r_or ?_)
  | (with_reducible refine r_andV ?_)
  | (with_reducible refine r_orV ?_)
  | (with_reducible refine r_notV ?_)
  | (with_reducible refine r_ifE ?_)
  | (with_reducible refine r_chain ?_)
  | (with_reducible refine r_cb ?_)
  | (with_reducible refine r_cons ?_)
  | (with_reducible refine r_nil ?_)
  | (with_reducible refine r_call ?_)
  | (with_reducible refine r_lst ?_)
  | (with_reducible refine r_tup ?_)
  | (with_reducible refine r_slice ?_)
  | (with_reducible refine r_nop ?_)
  | (with_reducible refine r_part ?_)
  | (with_reducible refine r_bm ?_)
  | (with_reducible refine r_m1 ?_)
  | (with_reducible refine r_m0 ?_)
  | (with_reducible refine r_is ?_)
  | (with_reducible refine r_maxD ?_)
  | (with_reducible refine r_orT ?_)
  | (with_reducible refine r_truN ?_)
  | (with_reducible refine r_intI ?_)
  | (with_reducible refine r_intB ?_)
  | (with_reducible refine r_max2 ?_)
  | (with_reducible refine r_min2 ?_)
  | (with_reducible refine r_yes ?_)
  | (with_reducible refine r_bl ?_)
  | (with_reducible refine iteT ?_)
  | (with_reducible refine iteF ?_)
  | (with_reducible refine r_iteNT ?_)
  | (with_reducible refine r_iteNF ?_)
  | (with_reducible refine r_minL ?_)
  | (with_reducible refine r_gcons ?_)
  | (with_reducible refine r_gnil ?_)
  | (with_reducible refine r_par ?_)
  | (with_reducible refine r_par3 ?_)
  | (with_reducible refine r_is2 ?_)
  | (with_reducible refine r_is3 ?_)
  | (with_reducible refine r_dget ?_)
  | (with_reducible refine r_callS ?_)
  | (with_reducible refine r_rz ?_)
  | (with_reducible refine r_rev ?_)
  | (with_reducible refine r_isI ?_)
  | (with_reducible refine r_isStr ?_)
  | (with_reducible refine r_ret ?_)
  | (with_reducible refine r_drop ?_)
  | (with_reducible refine r_rI0 ?_)
  | (with_reducible refine r_addI ?_)
  | ((with_reducible show rI (fun _ j => 0 < j) _ (.int _) (.int _) _ _); refine r_rI (by first | omega | decide) ?_)
  | ((with_reducible show rI CDiv _ (.int _) (.int _) _ _); refine r_rI (by constructor <;> omega) ?_)
  | ((with_reducible show rI CPow _ (.int _) (.int _) _ _); refine r_rI (by refine ⟨by decide, by decide, ?_⟩; omega) ?_)
  | ((with_reducible show rMul (.int _) (.int _) _ _); refine r_mulI (cmulW (by omega) (by omega)) ?_)
  | (with_reducible refine r_cmpI ?_)
  | (with_reducible refine r_cmpS ?_)
  | (with_reducible refine r_eqI ?_)
  | (with_reducible refine r_neI ?_)
  | (with_reducible refine r_eqS ?_)
  | (with_reducible refine r_neS ?_)
  | (with_reducible refine r_inSF ?_)
  | (with_reducible refine r_inST ?_)
  | (with_reducible refine r_isiStr ?_)
  | ((with_reducible show rIx _ (.ref _) (.int _) _ _); refine' r_ixL (SqL.of ?h) ?e ?_; (case h => walk_at "hp"); (case e => rfl))
  | ((with_reducible show rSetL (.ref _) (.int _) _ _ _); refine' r_setL ?h ?e ?_; (case h => walk_at "hp"); (case e => rfl)))
local macro_rules | `(tactic| walk_at "g") => `(tactic| repeat walk_at "s")
local macro_rules | `(tactic| walk_at "x") => `(tactic| first | omega | decide +kernel | (simp only [List.length_cons, List.length_nil]; omega))
local macro_rules | `(tactic| walk_at "T1") => `(tactic| (first
  | walk_at "s"
  | ((with_reducible show rIx _ (.ref _) (.int _) _ _); refine' r_ixTu (SqT.of ?h) ?e ?_; (case h => first | assumption | walk_at "hp"); (case e => rfl))
  | (with_reducible refine r_lenSet ?_)
  | (with_reducible refine r_asg2 ?_)
  | (with_reducible refine iteDT (by walk_at "x") ?_)
  | (with_reducible refine iteDF (by walk_at "x") ?_)
  | (with_reducible refine iteNT (by walk_at "x") ?_)
  | (with_reducible refine iteNF (by walk_at "x") ?_)))
local macro_rules | `(tactic| walk_at "T") => `(tactic| repeat (first
  | walk_at "s"
  | ((with_reducible show rIx _ (.ref _) (.int _) _ _); refine' r_ixTu (SqT.of ?h) ?e ?_; (case h => first | assumption | walk_at "hp"); (case e => rfl))
  | (with_reducible refine r_lenSet ?_)
  | (with_reducible refine r_asg2 ?_)
  | (with_reducible refine iteDT (by walk_at "x") ?_)
  | (with_reducible refine iteDF (by walk_at "x") ?_)
  | (with_reducible refine iteNT (by walk_at "x") ?_)
  | (with_reducible refine iteNF (by walk_at "x") ?_)))
local macro_rules | `(tactic| walk_at "g") => `(tactic| repeat (first | walk_at "T1" | (with_reducible refine r_fld ?_) | (with_reducible refine r_sfl ?_) | (with_reducible refine r_ifT ?_) | (with_reducible refine r_nn ?_)))
abbrev s_goes_bare : Stmt := topS 97
abbrev N_goes_bare : List Str := ["grammar", "path"]
abbrev P_goes_bare : List Str := ["grammar", "path"]
theorem sc_goes_bare : FnScope N_goes_bare P_goes_bare (defScope s_goes_bare) := ⟨rfl, rfl, rfl, by decide +kernel, rfl, by decide +kernel, by decide +kernel⟩
abbrev s_goes : Stmt := topS 98
abbrev N_goes : List Str := ["grammar", "path"]
abbrev P_goes : List Str := ["grammar", "path"]
theorem sc_goes : FnScope N_goes P_goes (defScope s_goes) := ⟨rfl, rfl, rfl, by decide +kernel, rfl, by decide +kernel, by decide +kernel⟩
section
variable {P : Program} {w : World} {K : PySem.W.Frag} {mg : Str → Option Value} {base : Heap}
theorem ok_named_texts (T : Tx K mg) {C : Addr} (NC : NodeC K C) {f : Addr} {fd : FuncData} (F : Fun K "_named_texts" "_named_texts" s_named_texts f fd) : FnOk P w K mg base CX0 1 f fd P_named_texts (spNamedT C) := by
  refine F.ok sc_named_texts (fun vs H Q E h => ?_) (fun cdv A outer s H vs Q E hr h => ?_)
  · obtain ⟨n, d, F, ns, os, kids, nms, D, rfl, _⟩ := h
    rfl
  · obtain ⟨n, d, F, ns, os, kids, nms, D, rfl, nd, ho, hd, hD, hok, hsub, k⟩ := h
    obtain ⟨dx, p0, oa, ga, pa, b, no, nu, le, ow, po, fi, kf, kt, xs, n0, f1, hp, hoa, hxs, b0, fb, nu0, fnu, tx⟩ := nd.ex
    refine ⟨_, (pss_one (ps_ret (pe_lock (pe_dc (own := [("text", 2)]) (g := gName 2) rfl sc_named_texts.nd (pi_keys (pv 1)) (blkOk_by (N := N_named_texts) (sc := defScope s_named_texts) (by decide +kernel)) (fun _ _ _ _ _ => (pg_name (i := 2) sc_named_texts.nd rfl (Or.inl rfl))) (fun _ _ _ _ _ => pts_nil) (fun _ _ _ _ _ => (pv 2)) (fun _ _ _ _ _ => (pe_ix (ix_seq : IxR _ (rIx K)) (pe_ix (ix_seq : IxR _ (rIx K)) (asFld (K := K) rfl (pe_fld (pv 0) rfl)) (pe_dget (hu_of hr) (pv 1) (pv 2) (fun _ _ => rfl)) (fun _ _ => rfl)) (pe_gI T.c_NAME rfl) (fun _ _ => rfl))))))), ?_⟩
    walk_at "g"
    refine r_lockE hd trivial fun od => ?_
    refine r_dc ?_
    refine r_iky ?_
    walk_at "g"
    refine ⟨d, od, rfl, .inl ⟨_, upd_same, fun e he => ?_⟩⟩
    have ln : (D.map (leadE (numK os))).length = D.length := List.length_map ..
    refine dc_of D.length (fun j H' => Same (upd H d (.frz od (.dK (D.map (leadE (numK os)))))) H' ∧ H' e = some (.dK ((D.take j).map begE))) ⟨(Same.refl _).at he _, upd_same⟩ (fun j H' hj w => (seqIt_keys (kvs := D.map (leadE (numK os))) upd_same).go j H' w.1 (by rw [List.length_map, ln]; exact hj)) (fun H' w => by have := (seqIt_keys (kvs := D.map (leadE (numK os))) upd_same).stop H' w.1; rwa [List.length_map, ln] at this) (fun j H' x H'' hj w y => ?_) fun HX w => ?_
    · obtain ⟨rfl, hx⟩ := (seqIt_keys (kvs := D.map (leadE (numK os))) upd_same).yld j H' x H'' w.1 y
      rw [List.map_map, List.getElem?_map] at hx
      obtain ⟨p, ep, rfl⟩ := Option.map_eq_some_iff.mp hx
      have pin := List.mem_of_getElem? ep
      obtain ⟨i, o, eo, e1, hv⟩ := num_at ho.2.2 (hsub _ (hD.src pin))
      have n1 := w.1 _ _ ((upd_ne (fun e => by subst e; exact nomatch n0.symm.trans hd)).trans n0)
      have o1 := w.1 _ _ ((upd_ne (fun e => by subst e; exact nomatch hoa.symm.trans hd)).trans hoa)
      have s1 := w.1 _ _ (upd_same (a := d))
      obtain ⟨x, hx⟩ : ∃ x, xs[i]? = some x := ⟨_, List.getElem?_eq_getElem (by rw [hxs.len]; exact (List.getElem?_eq_some_iff.mp eo).1)⟩
      obtain ⟨q, o', rfl, eo', hq⟩ := hxs.get hx
      obtain rfl : o = o' := Option.some.inj (eo.symm.trans eo')
      have hq' : H'' q = some (.tup [.str (S o.1), .non, .str (fmS o.2), .non, .int 0, .bl false, .non]) := w.1 _ _ ((upd_ne (fun e => by subst e; exact nomatch hq.symm.trans hd)).trans hq)
      have lv := leadE_val (tbl := numK os) hD.nd pin hv
      walk_at "g"
      refine ⟨rfl, ?_⟩
      walk_at "g"
      refine ⟨n, C, dx, _, _, rfl, n1, NC.cls, NC.options, rfl, ?_⟩
      walk_at "g"
      refine ⟨d, _, rfl, .inl ⟨_, .inr (S p.1), .inr ⟨od, s1⟩, rfl, lv.symm⟩, ?_⟩
      refine r_ixTu (SqT.of o1) (atI_nat hx) ?_
      walk_at "g"
      refine ⟨_, .inr (S p.1), rfl, w.2, ?_, w.1.at he _, ?_⟩
      · rw [List.length_map]
        exact Nat.lt_of_le_of_lt (Nat.le_trans (List.length_take_le' ..) (begs_len hok hD)) (by decide)
      · rw [upd_same, e1, begE_put2 hD.nd ep]
    · rw [List.take_of_length_le (Nat.le_refl D.length)] at w
      refine ⟨w.1 _ _ upd_same, ?_⟩
      have sU := unlock_same hd w.1
      have eb : H e = none := by
        have ne : e ≠ d := fun e => by subst e; exact nomatch he.symm.trans upd_same
        rw [upd_ne ne] at he; exact he
      refine k _ e sU eb ?_
      rw [upd_ne (fun q => by subst q; exact nomatch eb.symm.trans hd)]
      exact w.2
theorem ok_option_words (T : Tx K mg) {CG CN CT CX : Addr} (GI : GIs K CG) (GC : GrC K CG) (NC : NodeC K CN) (L_Grammar : mg "Grammar" = some (.ref CG)) (O_NotThere : OY P w K mg base "NotThere" "found" CT) (O_NoGrammar : OE P w K mg base "NoGrammar" "found" CX) {f f_is_name f_is_path f_own_name f_own_words f_has_none f_fitting f_nodes_of f_command_at f_node_at f_beginnings_of f_named_texts f_Grammar_is_there f_Grammar_command f_Grammar_node_of f_Node_has_worths f_Node_init f_Node_texts : Addr} {fd fd_is_name fd_is_path fd_own_name fd_own_words fd_has_none fd_fitting fd_nodes_of fd_command_at fd_node_at fd_beginnings_of fd_named_texts fd_Grammar_is_there fd_Grammar_command fd_Grammar_node_of fd_Node_has_worths fd_Node_init fd_Node_texts : FuncData} (F : Fun K "option_words" "option_words" s_option_words f fd)
    (D_is_name : DAt K mg "is_name" s_is_name P_is_name f_is_name fd_is_name)
    (D_is_path : DAt K mg "is_path" s_is_path P_is_path f_is_path fd_is_path)
    (D_own_name : DAt K mg "own_name" s_own_name P_own_name f_own_name fd_own_name)
    (D_own_words : DAt K mg "_own_words" s_own_words P_own_words f_own_words fd_own_words)
    (D_has_none : DAt K mg "_has_none" s_has_none P_has_none f_has_none fd_has_none)
    (D_fitting : DAt K mg "_fitting" s_fitting P_fitting f_fitting fd_fitting)
    (D_nodes_of : DAt K mg "nodes_of" s_nodes_of P_nodes_of f_nodes_of fd_nodes_of)
    (D_command_at : DAt K mg "command_at" s_command_at P_command_at f_command_at fd_command_at)
    (D_node_at : DAt K mg "node_at" s_node_at P_node_at f_node_at fd_node_at)
    (D_beginnings_of : DAt K mg "beginnings_of" s_beginnings_of P_beginnings_of f_beginnings_of fd_beginnings_of)
    (D_named_texts : DAt K mg "_named_texts" s_named_texts P_named_texts f_named_texts fd_named_texts)
    (D_Node_init : IAt K mg "Node" CN "Node.__init__" s_Node_init P_Node_init [] f_Node_init fd_Node_init)
    (D_Grammar_is_there : MAt K CG "is_there" "Grammar.is_there" s_Grammar_is_there P_Grammar_is_there f_Grammar_is_there fd_Grammar_is_there)
    (D_Grammar_command : MAt K CG "command" "Grammar.command" s_Grammar_command P_Grammar_command f_Grammar_command fd_Grammar_command)
    (D_Grammar_node_of : MAt K CG "node_of" "Grammar.node_of" s_Grammar_node_of P_Grammar_node_of f_Grammar_node_of fd_Grammar_node_of)
    (D_Node_has_worths : MAt K CN "has_worths" "Node.has_worths" s_Node_has_worths P_Node_has_worths f_Node_has_worths fd_Node_has_worths)
    (D_Node_texts : MAt K CN "texts" "Node.texts" s_Node_texts P_Node_texts f_Node_texts fd_Node_texts) : FnOk P w K mg base (L2.CX P w) 8 f fd P_option_words (spWords K CG CN CT CX optS) := by
  have M_Grammar_is_there := D_Grammar_is_there.me
  have B_Grammar_is_there := D_Grammar_is_there.bd
  have M_Grammar_command := D_Grammar_command.me
  have B_Grammar_command := D_Grammar_command.bd
  have M_Grammar_node_of := D_Grammar_node_of.me
  have B_Grammar_node_of := D_Grammar_node_of.bd
  have M_Node_has_worths := D_Node_has_worths.me
  have B_Node_has_worths := D_Node_has_worths.bd
  have K_Node := D_Node_init.mak
  have L_Node := D_Node_init.gl
  have B_Node_init := D_Node_init.bd
  have V_Node_init : Vals [] [] := .nil
  have M_Node_texts := D_Node_texts.me
  have B_Node_texts := D_Node_texts.bd
  have G_node_at : FnOk P w K mg base (L2.CX P w) 7 f_node_at fd_node_at P_node_at (spNodeAt K CG CN CT CX) := ok_node_at T GI GC NC L_Grammar O_NotThere O_NoGrammar D_node_at.fn D_is_name D_is_path D_own_name D_own_words D_has_none D_fitting D_nodes_of D_command_at D_Node_init D_Grammar_is_there D_Grammar_command D_Grammar_node_of D_Node_has_worths
  have G_Node_texts : FnOk P w K mg base CX0 2 f_Node_texts fd_Node_texts P_Node_texts (spTextsN CN) := ok_texts T NC D_Node_texts.fn D_beginnings_of
  have G_named_texts : FnOk P w K mg base CX0 1 f_named_texts fd_named_texts P_named_texts (spNamedT CN) := ok_named_texts T NC D_named_texts.fn
  refine F.okX sc_option_words (fun vs H Q E h => ?_) (fun cdv A outer s H vs Q E hr h => ?_)
  · obtain ⟨y, x, rfl, _⟩ := h
    rfl
  · obtain ⟨y, x, rfl, k⟩ := h
    have C_Node := NC.cls
    refine ⟨_, (pss_cons (ps_set (i := 2) sc_option_words.nd rfl (Or.inl rfl) (pe_callS (E := WE (fun cls d _ H' => E cls d H')) G_node_at (hr.mono (by decide)) rfl D_node_at.gl D_node_at.fn.kp D_node_at.bd (fun σ => passAt (takes_of rfl rfl rfl rfl) σ) (by exact (pa_cons (pv 0) (pa_cons (pv 1) pa_nil))))) (pss_one (ps_ret (pe_call G_named_texts (hr.mono (by decide)) rfl D_named_texts.gl D_named_texts.fn.kp D_named_texts.bd .nil pass0 (pa_cons (pv 2) (pa_cons (pe_ix (ix_seq : IxR _ (rIx K)) (pe_meth0 (pv 2) C_Node M_Node_texts G_Node_texts (hr.mono (by decide)) B_Node_texts .nil pass0) pe_int (fun _ _ => rfl)) pa_nil)))))), ?_⟩
    rcases k with ⟨ng, k⟩ | ⟨g, F, us, os, os', rfl, gr, ⟨ns, hpi, k⟩ | ⟨od, k⟩⟩
    · walk_at "g"
      exact ⟨y, x, rfl, .inl ⟨ng, k⟩⟩
    · walk_at "g"
      refine ⟨.ref g, x, rfl, .inr ⟨g, F, us, os, os', rfl, gr, .inl ⟨ns, hpi, fun H1 F1 n os1 kids o1 n1 gn => ?_⟩⟩⟩
      obtain ⟨N, gp, ni⟩ := gn
      obtain ⟨ok1, ok2⟩ := grN_ok gp ni
      have hsel := sel_ops (us := us) (os := os) (os' := os') ni.ofs
      obtain ⟨dx, fs, hn⟩ := ni.node.ins
      obtain ⟨dx', p0, oa, ga, pa, b, no, nu, le, ow, po, fi, kf, kt, xs, hn', _⟩ := ni.node.ex
      walk_at "g"
      refine r_meth ?_
      walk_at "g"
      refine ⟨n, dx', _, rfl, hn', rfl, ?_⟩
      walk_at "g"
      refine ⟨n, F1, ns, os1, kids, rfl, ni.node, ok1, ok2, fun H2 F2 t d1 d2 d3 D1 D2 D3 k2 nw2 sub new ht b1 e1 g1 b2 e2 g2 b3 e3 g3 => ?_⟩
      walk_at "g"
      have gr2 := GrN.at gp ni k2 sub new
      have o2 : OutF F1 H1 H2 := OutF.keepB k2 hn' ni.node.inF
      refine ⟨n, d1, F2, ns, os1, kids, _, D1, rfl, new, ok1, e1, b1, opsNms ok1, (fun m hm => hm), fun H3 e s3 he he3 => ?_⟩
      have gr3 := gr2.trim.same s3
      have nw : NewW F (trimF H2 F2) H := (NewW.trans n1.w o1 nw2).trim
      refine k H3 (trimF H2 F2) e D1 (OutF.transW n1.w o1 (OutF.transW (fun z hz => nw2 z hz) o2 (OutF.same s3))) nw gr3 ?_ he3 ?_ (trim_none he)
      · rw [← hsel.1]
        exact b1
      · intro hF
        cases q : H e with
        | none => rfl
        | some v =>
          exact nomatch he.symm.trans (k2 e v (fun e2 => by subst e2; exact nomatch he.symm.trans new.ins.choose_spec.choose_spec) (o1.1 e v hF q))
    · walk_at "g"
      exact ⟨.ref g, x, rfl, .inr ⟨g, F, us, os, os', rfl, gr, .inr ⟨od, k⟩⟩⟩
theorem ok_flag_words (T : Tx K mg) {CG CN CT CX : Addr} (GI : GIs K CG) (GC : GrC K CG) (NC : NodeC K CN) (L_Grammar : mg "Grammar" = some (.ref CG)) (O_NotThere : OY P w K mg base "NotThere" "found" CT) (O_NoGrammar : OE P w K mg base "NoGrammar" "found" CX) {f f_is_name f_is_path f_own_name f_own_words f_has_none f_fitting f_nodes_of f_command_at f_node_at f_beginnings_of f_named_texts f_Grammar_is_there f_Grammar_command f_Grammar_node_of f_Node_has_worths f_Node_init f_Node_texts : Addr} {fd fd_is_name fd_is_path fd_own_name fd_own_words fd_has_none fd_fitting fd_nodes_of fd_command_at fd_node_at fd_beginnings_of fd_named_texts fd_Grammar_is_there fd_Grammar_command fd_Grammar_node_of fd_Node_has_worths fd_Node_init fd_Node_texts : FuncData} (F : Fun K "flag_words" "flag_words" s_flag_words f fd)
    (D_is_name : DAt K mg "is_name" s_is_name P_is_name f_is_name fd_is_name)
    (D_is_path : DAt K mg "is_path" s_is_path P_is_path f_is_path fd_is_path)
    (D_own_name : DAt K mg "own_name" s_own_name P_own_name f_own_name fd_own_name)
    (D_own_words : DAt K mg "_own_words" s_own_words P_own_words f_own_words fd_own_words)
    (D_has_none : DAt K mg "_has_none" s_has_none P_has_none f_has_none fd_has_none)
    (D_fitting : DAt K mg "_fitting" s_fitting P_fitting f_fitting fd_fitting)
    (D_nodes_of : DAt K mg "nodes_of" s_nodes_of P_nodes_of f_nodes_of fd_nodes_of)
    (D_command_at : DAt K mg "command_at" s_command_at P_command_at f_command_at fd_command_at)
    (D_node_at : DAt K mg "node_at" s_node_at P_node_at f_node_at fd_node_at)
    (D_beginnings_of : DAt K mg "beginnings_of" s_beginnings_of P_beginnings_of f_beginnings_of fd_beginnings_of)
    (D_named_texts : DAt K mg "_named_texts" s_named_texts P_named_texts f_named_texts fd_named_texts)
    (D_Node_init : IAt K mg "Node" CN "Node.__init__" s_Node_init P_Node_init [] f_Node_init fd_Node_init)
    (D_Grammar_is_there : MAt K CG "is_there" "Grammar.is_there" s_Grammar_is_there P_Grammar_is_there f_Grammar_is_there fd_Grammar_is_there)
    (D_Grammar_command : MAt K CG "command" "Grammar.command" s_Grammar_command P_Grammar_command f_Grammar_command fd_Grammar_command)
    (D_Grammar_node_of : MAt K CG "node_of" "Grammar.node_of" s_Grammar_node_of P_Grammar_node_of f_Grammar_node_of fd_Grammar_node_of)
    (D_Node_has_worths : MAt K CN "has_worths" "Node.has_worths" s_Node_has_worths P_Node_has_worths f_Node_has_worths fd_Node_has_worths)
    (D_Node_texts : MAt K CN "texts" "Node.texts" s_Node_texts P_Node_texts f_Node_texts fd_Node_texts) : FnOk P w K mg base (L2.CX P w) 8 f fd P_flag_words (spWords K CG CN CT CX flagS) := by
  have M_Grammar_is_there := D_Grammar_is_there.me
  have B_Grammar_is_there := D_Grammar_is_there.bd
  have M_Grammar_command := D_Grammar_command.me
  have B_Grammar_command := D_Grammar_command.bd
  have M_Grammar_node_of := D_Grammar_node_of.me
  have B_Grammar_node_of := D_Grammar_node_of.bd
  have M_Node_has_worths := D_Node_has_worths.me
  have B_Node_has_worths := D_Node_has_worths.bd
  have K_Node := D_Node_init.mak
  have L_Node := D_Node_init.gl
  have B_Node_init := D_Node_init.bd
  have V_Node_init : Vals [] [] := .nil
  have M_Node_texts := D_Node_texts.me
  have B_Node_texts := D_Node_texts.bd
  have G_node_at : FnOk P w K mg base (L2.CX P w) 7 f_node_at fd_node_at P_node_at (spNodeAt K CG CN CT CX) := ok_node_at T GI GC NC L_Grammar O_NotThere O_NoGrammar D_node_at.fn D_is_name D_is_path D_own_name D_own_words D_has_none D_fitting D_nodes_of D_command_at D_Node_init D_Grammar_is_there D_Grammar_command D_Grammar_node_of D_Node_has_worths
  have G_Node_texts : FnOk P w K mg base CX0 2 f_Node_texts fd_Node_texts P_Node_texts (spTextsN CN) := ok_texts T NC D_Node_texts.fn D_beginnings_of
  have G_named_texts : FnOk P w K mg base CX0 1 f_named_texts fd_named_texts P_named_texts (spNamedT CN) := ok_named_texts T NC D_named_texts.fn
  refine F.okX sc_flag_words (fun vs H Q E h => ?_) (fun cdv A outer s H vs Q E hr h => ?_)
  · obtain ⟨y, x, rfl, _⟩ := h
    rfl
  · obtain ⟨y, x, rfl, k⟩ := h
    have C_Node := NC.cls
    refine ⟨_, (pss_cons (ps_set (i := 2) sc_flag_words.nd rfl (Or.inl rfl) (pe_callS (E := WE (fun cls d _ H' => E cls d H')) G_node_at (hr.mono (by decide)) rfl D_node_at.gl D_node_at.fn.kp D_node_at.bd (fun σ => passAt (takes_of rfl rfl rfl rfl) σ) (by exact (pa_cons (pv 0) (pa_cons (pv 1) pa_nil))))) (pss_one (ps_ret (pe_call G_named_texts (hr.mono (by decide)) rfl D_named_texts.gl D_named_texts.fn.kp D_named_texts.bd .nil pass0 (pa_cons (pv 2) (pa_cons (pe_ix (ix_seq : IxR _ (rIx K)) (pe_meth0 (pv 2) C_Node M_Node_texts G_Node_texts (hr.mono (by decide)) B_Node_texts .nil pass0) pe_int (fun _ _ => rfl)) pa_nil)))))), ?_⟩
    rcases k with ⟨ng, k⟩ | ⟨g, F, us, os, os', rfl, gr, ⟨ns, hpi, k⟩ | ⟨od, k⟩⟩
    · walk_at "g"
      exact ⟨y, x, rfl, .inl ⟨ng, k⟩⟩
    · walk_at "g"
      refine ⟨.ref g, x, rfl, .inr ⟨g, F, us, os, os', rfl, gr, .inl ⟨ns, hpi, fun H1 F1 n os1 kids o1 n1 gn => ?_⟩⟩⟩
      obtain ⟨N, gp, ni⟩ := gn
      obtain ⟨ok1, ok2⟩ := grN_ok gp ni
      have hsel := sel_ops (us := us) (os := os) (os' := os') ni.ofs
      obtain ⟨dx, fs, hn⟩ := ni.node.ins
      obtain ⟨dx', p0, oa, ga, pa, b, no, nu, le, ow, po, fi, kf, kt, xs, hn', _⟩ := ni.node.ex
      walk_at "g"
      refine r_meth ?_
      walk_at "g"
      refine ⟨n, dx', _, rfl, hn', rfl, ?_⟩
      walk_at "g"
      refine ⟨n, F1, ns, os1, kids, rfl, ni.node, ok1, ok2, fun H2 F2 t d1 d2 d3 D1 D2 D3 k2 nw2 sub new ht b1 e1 g1 b2 e2 g2 b3 e3 g3 => ?_⟩
      walk_at "g"
      have gr2 := GrN.at gp ni k2 sub new
      have o2 : OutF F1 H1 H2 := OutF.keepB k2 hn' ni.node.inF
      refine ⟨n, d2, F2, ns, os1, kids, _, D2, rfl, new, ok1, e2, b2, flagNms ok1, (fun m hm => flag_in hm), fun H3 e s3 he he3 => ?_⟩
      have gr3 := gr2.trim.same s3
      have nw : NewW F (trimF H2 F2) H := (NewW.trans n1.w o1 nw2).trim
      refine k H3 (trimF H2 F2) e D2 (OutF.transW n1.w o1 (OutF.transW (fun z hz => nw2 z hz) o2 (OutF.same s3))) nw gr3 ?_ he3 ?_ (trim_none he)
      · rw [← hsel.2.1]
        exact b2
      · intro hF
        cases q : H e with
        | none => rfl
        | some v =>
          exact nomatch he.symm.trans (k2 e v (fun e2 => by subst e2; exact nomatch he.symm.trans new.ins.choose_spec.choose_spec) (o1.1 e v hF q))
    · walk_at "g"
      exact ⟨.ref g, x, rfl, .inr ⟨g, F, us, os, os', rfl, gr, .inr ⟨od, k⟩⟩⟩
theorem ok_command_words (T : Tx K mg) {CG CN CT CX : Addr} (GI : GIs K CG) (GC : GrC K CG) (NC : NodeC K CN) (L_Grammar : mg "Grammar" = some (.ref CG)) (O_NotThere : OY P w K mg base "NotThere" "found" CT) (O_NoGrammar : OE P w K mg base "NoGrammar" "found" CX) {f f_is_name f_is_path f_own_name f_own_words f_has_none f_fitting f_nodes_of f_command_at f_node_at f_beginnings_of f_Grammar_is_there f_Grammar_command f_Grammar_node_of f_Node_has_worths f_Node_init f_Node_texts : Addr} {fd fd_is_name fd_is_path fd_own_name fd_own_words fd_has_none fd_fitting fd_nodes_of fd_command_at fd_node_at fd_beginnings_of fd_Grammar_is_there fd_Grammar_command fd_Grammar_node_of fd_Node_has_worths fd_Node_init fd_Node_texts : FuncData} (F : Fun K "command_words" "command_words" s_command_words f fd)
    (D_is_name : DAt K mg "is_name" s_is_name P_is_name f_is_name fd_is_name)
    (D_is_path : DAt K mg "is_path" s_is_path P_is_path f_is_path fd_is_path)
    (D_own_name : DAt K mg "own_name" s_own_name P_own_name f_own_name fd_own_name)
    (D_own_words : DAt K mg "_own_words" s_own_words P_own_words f_own_words fd_own_words)
    (D_has_none : DAt K mg "_has_none" s_has_none P_has_none f_has_none fd_has_none)
    (D_fitting : DAt K mg "_fitting" s_fitting P_fitting f_fitting fd_fitting)
    (D_nodes_of : DAt K mg "nodes_of" s_nodes_of P_nodes_of f_nodes_of fd_nodes_of)
    (D_command_at : DAt K mg "command_at" s_command_at P_command_at f_command_at fd_command_at)
    (D_node_at : DAt K mg "node_at" s_node_at P_node_at f_node_at fd_node_at)
    (D_beginnings_of : DAt K mg "beginnings_of" s_beginnings_of P_beginnings_of f_beginnings_of fd_beginnings_of)
    (D_Node_init : IAt K mg "Node" CN "Node.__init__" s_Node_init P_Node_init [] f_Node_init fd_Node_init)
    (D_Grammar_is_there : MAt K CG "is_there" "Grammar.is_there" s_Grammar_is_there P_Grammar_is_there f_Grammar_is_there fd_Grammar_is_there)
    (D_Grammar_command : MAt K CG "command" "Grammar.command" s_Grammar_command P_Grammar_command f_Grammar_command fd_Grammar_command)
    (D_Grammar_node_of : MAt K CG "node_of" "Grammar.node_of" s_Grammar_node_of P_Grammar_node_of f_Grammar_node_of fd_Grammar_node_of)
    (D_Node_has_worths : MAt K CN "has_worths" "Node.has_worths" s_Node_has_worths P_Node_has_worths f_Node_has_worths fd_Node_has_worths)
    (D_Node_texts : MAt K CN "texts" "Node.texts" s_Node_texts P_Node_texts f_Node_texts fd_Node_texts) : FnOk P w K mg base (L2.CX P w) 8 f fd P_command_words (spWords K CG CN CT CX cmdS) := by
  have M_Grammar_is_there := D_Grammar_is_there.me
  have B_Grammar_is_there := D_Grammar_is_there.bd
  have M_Grammar_command := D_Grammar_command.me
  have B_Grammar_command := D_Grammar_command.bd
  have M_Grammar_node_of := D_Grammar_node_of.me
  have B_Grammar_node_of := D_Grammar_node_of.bd
  have M_Node_has_worths := D_Node_has_worths.me
  have B_Node_has_worths := D_Node_has_worths.bd
  have K_Node := D_Node_init.mak
  have L_Node := D_Node_init.gl
  have B_Node_init := D_Node_init.bd
  have V_Node_init : Vals [] [] := .nil
  have M_Node_texts := D_Node_texts.me
  have B_Node_texts := D_Node_texts.bd
  have G_node_at : FnOk P w K mg base (L2.CX P w) 7 f_node_at fd_node_at P_node_at (spNodeAt K CG CN CT CX) := ok_node_at T GI GC NC L_Grammar O_NotThere O_NoGrammar D_node_at.fn D_is_name D_is_path D_own_name D_own_words D_has_none D_fitting D_nodes_of D_command_at D_Node_init D_Grammar_is_there D_Grammar_command D_Grammar_node_of D_Node_has_worths
  have G_Node_texts : FnOk P w K mg base CX0 2 f_Node_texts fd_Node_texts P_Node_texts (spTextsN CN) := ok_texts T NC D_Node_texts.fn D_beginnings_of
  refine F.okX sc_command_words (fun vs H Q E h => ?_) (fun cdv A outer s H vs Q E hr h => ?_)
  · obtain ⟨y, x, rfl, _⟩ := h
    rfl
  · obtain ⟨y, x, rfl, k⟩ := h
    have C_Node := NC.cls
    refine ⟨_, (pss_cons (ps_asg (pe_meth0 (pe_callS (E := WE (fun cls d _ H' => E cls d H')) G_node_at (hr.mono (by decide)) rfl D_node_at.gl D_node_at.fn.kp D_node_at.bd (fun σ => passAt (takes_of rfl rfl rfl rfl) σ) (by exact (pa_cons (pv 0) (pa_cons (pv 1) pa_nil)))) C_Node M_Node_texts G_Node_texts (hr.mono (by decide)) B_Node_texts .nil pass0) (asGTup (K := K) rfl (pg_tup rfl (pgs_cons (pg_name (i := 2) sc_command_words.nd rfl (Or.inl rfl)) (pgs_cons (pg_name (i := 2) sc_command_words.nd rfl (Or.inl rfl)) (pgs_cons (pg_name (i := 3) sc_command_words.nd rfl (Or.inr rfl)) pgs_nil)))))) (pss_one (ps_ret (pe_lock (pe_dc (own := [("text", 4)]) (g := gName 4) rfl sc_command_words.nd (pi_keys (pv 3)) (blkOk_by (N := N_command_words) (sc := defScope s_command_words) (by decide +kernel)) (fun _ _ _ _ _ => (pg_name (i := 4) sc_command_words.nd rfl (Or.inl rfl))) (fun _ _ _ _ _ => pts_nil) (fun _ _ _ _ _ => (pv 4)) (fun _ _ _ _ _ => (pe_ix (ix_seq : IxR _ (rIx K)) (asFld (K := K) rfl (pe_fld (pe_dget (hu_of hr) (pv 3) (pv 4) (fun _ _ => rfl)) rfl)) (pe_un L2.un_neg pe_int) (fun _ _ => rfl)))))))), ?_⟩
    rcases k with ⟨ng, k⟩ | ⟨g, F, us, os, os', rfl, gr, ⟨ns, hpi, k⟩ | ⟨od, k⟩⟩
    · walk_at "g"
      refine r_meth ?_
      walk_at "g"
      exact ⟨y, x, rfl, .inl ⟨ng, k⟩⟩
    · walk_at "g"
      refine r_meth ?_
      walk_at "g"
      refine ⟨.ref g, x, rfl, .inr ⟨g, F, us, os, os', rfl, gr, .inl ⟨ns, hpi, fun H1 F1 n os1 kids o1 n1 gn => ?_⟩⟩⟩
      obtain ⟨N, gp, ni⟩ := gn
      obtain ⟨ok1, ok2⟩ := grN_ok gp ni
      have hsel := sel_ops (us := us) (os := os) (os' := os') ni.ofs
      obtain ⟨dx', p0, oa, ga, pa, b, no, nu, le, ow, po, fi, kf, kt, xs, hn', _⟩ := ni.node.ex
      walk_at "g"
      refine ⟨n, dx', _, rfl, hn', rfl, ?_⟩
      walk_at "g"
      refine ⟨n, F1, ns, os1, kids, rfl, ni.node, ok1, ok2, fun H2 F2 t d1 d2 d3 D1 D2 D3 k2 nw2 sub new ht b1 e1 g1 b2 e2 g2 b3 e3 g3 => ?_⟩
      have gr2 := GrN.at gp ni k2 sub new
      have o2 : OutF F1 H1 H2 := OutF.keepB k2 hn' ni.node.inF
      have kidN : ∀ z ∈ kids, NodeAt CN H2 F2 z.2 [S z.1] os' [] := fun z hz => by
        refine (ni.kidsAt z hz).keepB k2 hn' (fun e => ?_) sub
        rcases ni.ofs with ⟨_, _, e2⟩ | ⟨_, e2, _⟩
        · have a := (ni.kidsAt z hz)
          rw [e] at a
          have := a.path ni.node
          rw [e2] at this
          exact nomatch this
        · rw [e2] at hz; exact nomatch hz
      refine r_gtup (SqT.of ht) rfl ?_
      walk_at "g"
      refine r_lockE e3 trivial fun od => ?_
      refine r_dc ?_
      refine r_iky ?_
      walk_at "g"
      refine ⟨d3, od, rfl, .inl ⟨_, upd_same, fun e he => ?_⟩⟩
      have ln : (D3.map (leadE (kids.map kidE))).length = D3.length := List.length_map ..
      refine dc_of D3.length (fun j H' => Same (upd H2 d3 (.frz od (.dK (D3.map (leadE (kids.map kidE)))))) H' ∧ H' e = some (.dK ((D3.take j).map begE))) ⟨(Same.refl _).at he _, upd_same⟩ (fun j H' hj w => (seqIt_keys (kvs := D3.map (leadE (kids.map kidE))) upd_same).go j H' w.1 (by rw [List.length_map, ln]; exact hj)) (fun H' w => by have := (seqIt_keys (kvs := D3.map (leadE (kids.map kidE))) upd_same).stop H' w.1; rwa [List.length_map, ln] at this) (fun j H' x H'' hj w y => ?_) fun HX w => ?_
      · obtain ⟨rfl, hx⟩ := (seqIt_keys (kvs := D3.map (leadE (kids.map kidE))) upd_same).yld j H' x H'' w.1 y
        rw [List.map_map, List.getElem?_map] at hx
        obtain ⟨p, ep, rfl⟩ := Option.map_eq_some_iff.mp hx
        have pin := List.mem_of_getElem? ep
        obtain ⟨kd, hkd, ek, hv⟩ := kid_at ok2.2.1 (b3.src pin)
        obtain ⟨dk, p1, oa1, ga1, pa1, bb1, no1, nu1, le1, ow1, po1, fi1, kf1, kt1, xs1, k1, _, kp, _⟩ := (kidN kd hkd).ex
        have k1' := w.1 _ _ ((upd_ne (fun e => by subst e; exact nomatch k1.symm.trans e3)).trans k1)
        have kp' := w.1 _ _ ((upd_ne (fun e => by subst e; exact nomatch kp.symm.trans e3)).trans kp)
        have s1 := w.1 _ _ (upd_same (a := d3))
        have lv := leadE_val (tbl := kids.map kidE) b3.nd pin hv
        walk_at "g"
        refine ⟨rfl, ?_⟩
        walk_at "g"
        refine ⟨d3, _, rfl, .inl ⟨_, .inr (S p.1), .inr ⟨od, s1⟩, rfl, lv.symm⟩, ?_⟩
        refine ⟨kd.2, CN, dk, _, _, rfl, k1', NC.cls, NC.way, rfl, ?_⟩
        walk_at "g"
        refine ⟨1, rfl, ?_⟩
        refine r_ixTu (SqT.of kp') (show atI ([S kd.1].map V.str) (-1) = some (.str (S kd.1)) from rfl) ?_
        refine ⟨_, .inr (S p.1), rfl, w.2, ?_, w.1.at he _, ?_⟩
        · rw [List.length_map]
          exact Nat.lt_of_le_of_lt (Nat.le_trans (List.length_take_le' ..) (begs_len ok2 b3)) (by decide)
        · rw [upd_same, ek, begE_put2 b3.nd ep]
      · rw [List.take_of_length_le (Nat.le_refl D3.length)] at w
        refine ⟨w.1 _ _ upd_same, ?_⟩
        have s3 := unlock_same e3 w.1
        have eb : H2 e = none := by
          have ne : e ≠ d3 := fun e => by subst e; exact nomatch he.symm.trans upd_same
          rw [upd_ne ne] at he; exact he
        have gr3 := gr2.trim.same s3
        have nw : NewW F (trimF H2 F2) H := (NewW.trans n1.w o1 nw2).trim
        refine k _ (trimF H2 F2) e D3 (OutF.transW n1.w o1 (OutF.transW (fun z hz => nw2 z hz) o2 (OutF.same s3))) nw gr3 ?_ ?_ ?_ (trim_none eb)
        · rw [← hsel.2.2]
          exact b3
        · rw [upd_ne (fun q => by subst q; exact nomatch eb.symm.trans e3)]
          exact w.2
        · intro hF
          cases q : H e with
          | none => rfl
          | some v =>
            exact nomatch eb.symm.trans (k2 e v (fun e2 => by subst e2; exact nomatch eb.symm.trans new.ins.choose_spec.choose_spec) (o1.1 e v hF q))
    · walk_at "g"
      refine r_meth ?_
      walk_at "g"
      exact ⟨.ref g, x, rfl, .inr ⟨g, F, us, os, os', rfl, gr, .inr ⟨od, k⟩⟩⟩
theorem ok_goes (T : Tx K mg) {CG CN CT CX : Addr} (GI : GIs K CG) (GC : GrC K CG) (NC : NodeC K CN) (L_Grammar : mg "Grammar" = some (.ref CG)) (O_NotThere : OY P w K mg base "NotThere" "found" CT) (O_NoGrammar : OE P w K mg base "NoGrammar" "found" CX) {f f_is_name f_is_path f_own_name f_own_words f_has_none f_fitting f_nodes_of f_command_at f_node_at f_Grammar_is_there f_Grammar_command f_Grammar_node_of f_Node_has_worths f_Node_init : Addr} {fd fd_is_name fd_is_path fd_own_name fd_own_words fd_has_none fd_fitting fd_nodes_of fd_command_at fd_node_at fd_Grammar_is_there fd_Grammar_command fd_Grammar_node_of fd_Node_has_worths fd_Node_init : FuncData} (F : Fun K "goes" "goes" s_goes f fd)
    (D_is_name : DAt K mg "is_name" s_is_name P_is_name f_is_name fd_is_name)
    (D_is_path : DAt K mg "is_path" s_is_path P_is_path f_is_path fd_is_path)
    (D_own_name : DAt K mg "own_name" s_own_name P_own_name f_own_name fd_own_name)
    (D_own_words : DAt K mg "_own_words" s_own_words P_own_words f_own_words fd_own_words)
    (D_has_none : DAt K mg "_has_none" s_has_none P_has_none f_has_none fd_has_none)
    (D_fitting : DAt K mg "_fitting" s_fitting P_fitting f_fitting fd_fitting)
    (D_nodes_of : DAt K mg "nodes_of" s_nodes_of P_nodes_of f_nodes_of fd_nodes_of)
    (D_command_at : DAt K mg "command_at" s_command_at P_command_at f_command_at fd_command_at)
    (D_node_at : DAt K mg "node_at" s_node_at P_node_at f_node_at fd_node_at)
    (D_Node_init : IAt K mg "Node" CN "Node.__init__" s_Node_init P_Node_init [] f_Node_init fd_Node_init)
    (D_Grammar_is_there : MAt K CG "is_there" "Grammar.is_there" s_Grammar_is_there P_Grammar_is_there f_Grammar_is_there fd_Grammar_is_there)
    (D_Grammar_command : MAt K CG "command" "Grammar.command" s_Grammar_command P_Grammar_command f_Grammar_command fd_Grammar_command)
    (D_Grammar_node_of : MAt K CG "node_of" "Grammar.node_of" s_Grammar_node_of P_Grammar_node_of f_Grammar_node_of fd_Grammar_node_of)
    (D_Node_has_worths : MAt K CN "has_worths" "Node.has_worths" s_Node_has_worths P_Node_has_worths f_Node_has_worths fd_Node_has_worths) : FnOk P w K mg base (L2.CX P w) 8 f fd P_goes (spGoes K CG CN CT CX) := by
  have M_Grammar_is_there := D_Grammar_is_there.me
  have B_Grammar_is_there := D_Grammar_is_there.bd
  have M_Grammar_command := D_Grammar_command.me
  have B_Grammar_command := D_Grammar_command.bd
  have M_Grammar_node_of := D_Grammar_node_of.me
  have B_Grammar_node_of := D_Grammar_node_of.bd
  have M_Node_has_worths := D_Node_has_worths.me
  have B_Node_has_worths := D_Node_has_worths.bd
  have K_Node := D_Node_init.mak
  have L_Node := D_Node_init.gl
  have B_Node_init := D_Node_init.bd
  have V_Node_init : Vals [] [] := .nil
  have G_node_at : FnOk P w K mg base (L2.CX P w) 7 f_node_at fd_node_at P_node_at (spNodeAt K CG CN CT CX) := ok_node_at T GI GC NC L_Grammar O_NotThere O_NoGrammar D_node_at.fn D_is_name D_is_path D_own_name D_own_words D_has_none D_fitting D_nodes_of D_command_at D_Node_init D_Grammar_is_there D_Grammar_command D_Grammar_node_of D_Node_has_worths
  refine F.okX sc_goes (fun vs H Q E h => ?_) (fun cdv A outer s H vs Q E hr h => ?_)
  · obtain ⟨y, x, rfl, _⟩ := h
    rfl
  · obtain ⟨y, x, rfl, k⟩ := h
    refine ⟨_, (pss_one (ps_ret (asFld (K := K) rfl (pe_fld (pe_callS (E := WE (fun cls d _ H' => E cls d H')) G_node_at (hr.mono (by decide)) rfl D_node_at.gl D_node_at.fn.kp D_node_at.bd (fun σ => passAt (takes_of rfl rfl rfl rfl) σ) (by exact (pa_cons (pv 0) (pa_cons (pv 1) pa_nil)))) rfl)))), ?_⟩
    rcases k with ⟨ng, k⟩ | ⟨g, F, us, os, os', rfl, gr, od, k⟩
    · walk_at "g"
      exact ⟨y, x, rfl, .inl ⟨ng, k⟩⟩
    · walk_at "g"
      exact ⟨.ref g, x, rfl, .inr ⟨g, F, us, os, os', rfl, gr, .inr ⟨od, k⟩⟩⟩
theorem ok_goes_bare (T : Tx K mg) {CG CN CT CX : Addr} (GI : GIs K CG) (GC : GrC K CG) (NC : NodeC K CN) (L_Grammar : mg "Grammar" = some (.ref CG)) (O_NotThere : OY P w K mg base "NotThere" "found" CT) (O_NoGrammar : OE P w K mg base "NoGrammar" "found" CX) {f f_is_name f_is_path f_own_name f_own_words f_has_none f_fitting f_nodes_of f_command_at f_node_at f_Grammar_is_there f_Grammar_command f_Grammar_node_of f_Node_has_worths f_Node_init : Addr} {fd fd_is_name fd_is_path fd_own_name fd_own_words fd_has_none fd_fitting fd_nodes_of fd_command_at fd_node_at fd_Grammar_is_there fd_Grammar_command fd_Grammar_node_of fd_Node_has_worths fd_Node_init : FuncData} (F : Fun K "goes_bare" "goes_bare" s_goes_bare f fd)
    (D_is_name : DAt K mg "is_name" s_is_name P_is_name f_is_name fd_is_name)
    (D_is_path : DAt K mg "is_path" s_is_path P_is_path f_is_path fd_is_path)
    (D_own_name : DAt K mg "own_name" s_own_name P_own_name f_own_name fd_own_name)
    (D_own_words : DAt K mg "_own_words" s_own_words P_own_words f_own_words fd_own_words)
    (D_has_none : DAt K mg "_has_none" s_has_none P_has_none f_has_none fd_has_none)
    (D_fitting : DAt K mg "_fitting" s_fitting P_fitting f_fitting fd_fitting)
    (D_nodes_of : DAt K mg "nodes_of" s_nodes_of P_nodes_of f_nodes_of fd_nodes_of)
    (D_command_at : DAt K mg "command_at" s_command_at P_command_at f_command_at fd_command_at)
    (D_node_at : DAt K mg "node_at" s_node_at P_node_at f_node_at fd_node_at)
    (D_Node_init : IAt K mg "Node" CN "Node.__init__" s_Node_init P_Node_init [] f_Node_init fd_Node_init)
    (D_Grammar_is_there : MAt K CG "is_there" "Grammar.is_there" s_Grammar_is_there P_Grammar_is_there f_Grammar_is_there fd_Grammar_is_there)
    (D_Grammar_command : MAt K CG "command" "Grammar.command" s_Grammar_command P_Grammar_command f_Grammar_command fd_Grammar_command)
    (D_Grammar_node_of : MAt K CG "node_of" "Grammar.node_of" s_Grammar_node_of P_Grammar_node_of f_Grammar_node_of fd_Grammar_node_of)
    (D_Node_has_worths : MAt K CN "has_worths" "Node.has_worths" s_Node_has_worths P_Node_has_worths f_Node_has_worths fd_Node_has_worths) : FnOk P w K mg base (L2.CX P w) 8 f fd P_goes_bare (spGoes K CG CN CT CX) := by
  have M_Grammar_is_there := D_Grammar_is_there.me
  have B_Grammar_is_there := D_Grammar_is_there.bd
  have M_Grammar_command := D_Grammar_command.me
  have B_Grammar_command := D_Grammar_command.bd
  have M_Grammar_node_of := D_Grammar_node_of.me
  have B_Grammar_node_of := D_Grammar_node_of.bd
  have M_Node_has_worths := D_Node_has_worths.me
  have B_Node_has_worths := D_Node_has_worths.bd
  have K_Node := D_Node_init.mak
  have L_Node := D_Node_init.gl
  have B_Node_init := D_Node_init.bd
  have V_Node_init : Vals [] [] := .nil
  have G_node_at : FnOk P w K mg base (L2.CX P w) 7 f_node_at fd_node_at P_node_at (spNodeAt K CG CN CT CX) := ok_node_at T GI GC NC L_Grammar O_NotThere O_NoGrammar D_node_at.fn D_is_name D_is_path D_own_name D_own_words D_has_none D_fitting D_nodes_of D_command_at D_Node_init D_Grammar_is_there D_Grammar_command D_Grammar_node_of D_Node_has_worths
  refine F.okX sc_goes_bare (fun vs H Q E h => ?_) (fun cdv A outer s H vs Q E hr h => ?_)
  · obtain ⟨y, x, rfl, _⟩ := h
    rfl
  · obtain ⟨y, x, rfl, k⟩ := h
    refine ⟨_, (pss_one (ps_ret (asFld (K := K) rfl (pe_fld (pe_callS (E := WE (fun cls d _ H' => E cls d H')) G_node_at (hr.mono (by decide)) rfl D_node_at.gl D_node_at.fn.kp D_node_at.bd (fun σ => passAt (takes_of rfl rfl rfl rfl) σ) (by exact (pa_cons (pv 0) (pa_cons (pv 1) pa_nil)))) rfl)))), ?_⟩
    rcases k with ⟨ng, k⟩ | ⟨g, F, us, os, os', rfl, gr, od, k⟩
    · walk_at "g"
      exact ⟨y, x, rfl, .inl ⟨ng, k⟩⟩
    · walk_at "g"
      exact ⟨.ref g, x, rfl, .inr ⟨g, F, us, os, os', rfl, gr, .inr ⟨od, k⟩⟩⟩
end
end K16
namespace J
open PySem PySem.Spec PyProof.Rows L2 M
/-- as drawn: of a size, letters, at most seven -/
def Drawn (sz : Nat) (m : List Nat) : Prop := sz ≤ m.length ∧ m.length ≤ 7 ∧ ∀ c ∈ m, 97 ≤ c ∧ c ≤ 122
/-- the j-th name: drawn so, or of eight letters, the first its number's, the second a q -/
def NameJ (sz : Nat) (j : Nat) (m : List Nat) : Prop := Drawn sz m ∨ (m.length = 8 ∧ (∀ c ∈ m, 97 ≤ c ∧ c ≤ 122) ∧ m[0]? = some (97 + j) ∧ m[1]? = some 113)
def zzN : List Nat := List.replicate 8 122
/-- six unlike names -/
def Six (sz : Nat) (ns : List (List Nat)) : Prop := ns.length = 6 ∧ ns.Nodup ∧ (∀ m ∈ ns, Nm m ∧ sz ≤ m.length ∧ m ≠ zzN)
def spNamesL : Sp := fun vs H Q _ => ∃ (b : Addr) (sz n : Nat), vs = [.ref b, .int 6, .int (sz : Nat)] ∧ (sz = 1 ∨ sz = 2) ∧ Bx H b n ∧ n ≤ 100000 ∧ ∀ H' p ns, Keep b H H' → Bx H' b (n + 40) → H p = none → H' p = some (.lst (ns.map fun m => V.str (S m))) → Six sz ns → Q (.ref p) H'
theorem NameJ.ok {sz j : Nat} {m : List Nat} (h1 : 1 ≤ sz) (h2 : sz ≤ 8) (h : NameJ sz j m) : Nm m ∧ sz ≤ m.length ∧ m ≠ zzN := by
  rcases h with ⟨a, b, c⟩ | ⟨a, b, c, d⟩
  · exact ⟨⟨by omega, by omega, c⟩, a, fun e => by rw [e] at b; exact absurd b (by decide)⟩
  · exact ⟨⟨by omega, by omega, b⟩, by omega, fun e => by rw [e] at d; exact absurd d (by decide)⟩
/-- a fresh one stands beside the others -/
theorem other_new {sz : Nat} {ss : List (List Nat)} (h : ∀ (j : Nat) (m : List Nat), ss[j]? = some m → NameJ sz j m) {o : List Nat} (h8 : o.length = 8) (h0 : o[0]? = some (97 + ss.length)) : o ∉ ss := fun hm => by
  obtain ⟨j, hj⟩ := List.mem_iff_getElem?.mp hm
  have lt := (List.getElem?_eq_some_iff.mp hj).1
  rcases h j o hj with ⟨_, b, _⟩ | ⟨_, _, c, _⟩
  · omega
  · rw [h0] at c
    have := Option.some.inj c
    omega
end J
namespace J
open PySem PySem.Spec PyProof.Rows L2 M
def PrB (H : Hp) (D : List Bg) (as : List Addr) : Prop := as.length = D.length ∧ ∀ (j : Nat) (a : Addr), as[j]? = some a → ∃ p, D[j]? = some p ∧ H a = some (.tup [.str (S p.1), .str (S p.2)])
def spDueB : Sp := fun vs H Q _ => ∃ (l : Addr) (ns : List (List Nat)), vs = [.ref l] ∧ H l = some (.lst (ns.map fun m => V.str (S m))) ∧ NmsOk ns ∧ ∀ H' p as D, Same H H' → H p = none → IsBegs ns D → H' p = some (.lst (as.map V.ref)) → PrB H' D as → Q (.ref p) H'
/-- just due ones, none twice -/
def DueD (ns : List (List Nat)) (D : List Bg) : Prop := (∀ p ∈ D, Due ns p.1 p.2) ∧ (D.map Prod.fst).Nodup
def addB (D : List Bg) (p : Bg) : List Bg := if p ∈ D then D else D ++ [p]
theorem addB_mem {D : List Bg} {p q : Bg} : q ∈ addB D p ↔ q ∈ D ∨ q = p := by
  unfold addB
  split
  · rename_i h
    exact ⟨.inl, fun x => x.elim id fun e => e ▸ h⟩
  · rw [List.mem_append, List.mem_singleton]
theorem addB_len (D : List Bg) (p : Bg) : (addB D p).length ≤ D.length + 1 := by
  unfold addB
  split
  · omega
  · rw [List.length_append]; exact Nat.le_refl _
theorem DueD.add {ns : List (List Nat)} {D : List Bg} (h : DueD ns D) {p : Bg} (hp : Due ns p.1 p.2) : DueD ns (addB D p) ∧ putK (D.map begE) (.inr (S p.1)) (.str (S p.2)) = (addB D p).map begE := by
  by_cases m : p ∈ D
  · have e : addB D p = D := if_pos m
    rw [e]
    refine ⟨h, ?_⟩
    unfold putK
    rw [if_pos (List.any_eq_true.mpr ⟨begE p, List.mem_map_of_mem m, by simp [begE]⟩)]
    refine (List.map_congr_left fun kv hkv => ?_).trans (List.map_id' _)
    obtain ⟨q, hq, rfl⟩ := List.mem_map.mp hkv
    by_cases e1 : (begE q).1 = Sum.inr (S p.1)
    · rw [if_pos e1]
      have e2 : q.1 = p.1 := S_inj.mp (Sum.inr.inj e1)
      have d := h.1 q hq
      rw [e2] at d
      have e3 := d.fn hp
      show (_, V.str (S p.2)) = begE q
      unfold begE
      rw [e3]
    · rw [if_neg e1]
  · have e : addB D p = D ++ [p] := if_neg m
    have ne : ∀ q ∈ D, q.1 ≠ p.1 := fun q hq e1 => m (by
      have d := h.1 q hq
      rw [e1] at d
      have e3 := d.fn hp
      have : q = p := by cases q; cases p; simp_all
      rw [← this]; exact hq)
    rw [e]
    refine ⟨⟨fun q hq => ?_, ?_⟩, begE_put ne⟩
    · rcases List.mem_append.mp hq with h1 | h1
      · exact h.1 q h1
      · rw [List.mem_singleton.mp h1]; exact hp
    · rw [List.map_append, List.nodup_append]
      refine ⟨h.2, List.nodup_cons.mpr ⟨List.not_mem_nil, List.nodup_nil⟩, fun a ha b hb => ?_⟩
      obtain rfl := List.mem_singleton.mp hb
      rintro rfl
      obtain ⟨q, hq, e1⟩ := List.mem_map.mp ha
      exact ne q hq e1
theorem take_pre {n m : List Nat} {q : Nat} (hq : q ≤ n.length) : n.take q <+: m ↔ m.take q = n.take q := by
  rw [List.prefix_iff_eq_take, List.length_take, Nat.min_eq_left hq]
  exact ⟨Eq.symm, Eq.symm⟩
/-- a beginning that is itself a name -/
theorem due_self {ns : List (List Nat)} {t : List Nat} (h : t ∈ ns) (h0 : t ≠ []) : Due ns t t := ⟨h, h0, List.prefix_refl _, .inl rfl⟩
/-- the only one that begins so -/
theorem due_only {ns : List (List Nat)} {n : List Nat} {q : Nat} (hn : n ∈ ns) (q1 : 1 ≤ q) (q2 : q ≤ n.length) (no : n.take q ∉ ns) (h : ns.filter (fun m => decide (m.take q = n.take q)) = [n]) : Due ns (n.take q) n := by
  refine ⟨hn, fun e => ?_, List.take_prefix _ _, .inr ⟨no, fun m hm hp => ?_⟩⟩
  · have := congrArg List.length e
    rw [List.length_take, List.length_nil] at this
    omega
  · have : m ∈ ns.filter (fun m => decide (m.take q = n.take q)) := List.mem_filter.mpr ⟨hm, by simp [(take_pre q2).mp hp]⟩
    rw [h] at this
    exact List.mem_singleton.mp this
theorem due_none {ns : List (List Nat)} (nd : ns.Nodup) {n : List Nat} {q : Nat} (hn : n ∈ ns) (q2 : q ≤ n.length) (no : n.take q ∉ ns) (h : ns.filter (fun m => decide (m.take q = n.take q)) ≠ [n]) (m : List Nat) : ¬ Due ns (n.take q) m := by
  rintro ⟨hm, h0, hp, e | ⟨_, u⟩⟩
  · exact no (e ▸ hm)
  · refine h (all_one (nd.filter _) (List.mem_filter.mpr ⟨hn, by simp⟩) fun x hx => ?_)
    obtain ⟨h1, h2⟩ := List.mem_filter.mp hx
    have h2 := of_decide_eq_true h2
    rw [u x h1 ((take_pre q2).mpr h2), u n hn (List.take_prefix _ _)]
/-- all that are due are there -/
theorem due_all {ns : List (List Nat)} {D : List Bg} (h : DueD ns D) (all : ∀ n ∈ ns, ∀ q, 1 ≤ q → q ≤ n.length → ∀ m, Due ns (n.take q) m → (n.take q, m) ∈ D) {t n : List Nat} : (t, n) ∈ D ↔ Due ns t n := by
  refine ⟨fun hp => h.1 _ hp, fun hd => ?_⟩
  obtain ⟨hn, h0, hp, _⟩ := id hd
  have e := List.prefix_iff_eq_take.mp hp
  have l := List.length_pos_iff.mpr h0
  have := all n hn t.length l hp.length_le n (by rw [← e]; exact hd)
  rw [← e] at this
  exact this
theorem due_begs {ns : List (List Nat)} {D : List Bg} (h : DueD ns D) (all : ∀ n ∈ ns, ∀ q, 1 ≤ q → q ≤ n.length → ∀ m, Due ns (n.take q) m → (n.take q, m) ∈ D) {ps : List (Str × Str)} (pm : ps.Perm (D.map fun p => (S p.1, S p.2))) (up : (ps.map Prod.fst).Pairwise fun x y => ¬ y.cps.toList < x.cps.toList) :
    ∃ D' : List Bg, ps = D'.map (fun p => (S p.1, S p.2)) ∧ IsBegs ns D' := by
  let f : Str × Str → Bg := fun t => (cd t.1, cd t.2)
  have fg : ∀ t : Str × Str, (S (f t).1, S (f t).2) = t := fun t => by
    show (S (cd t.1), S (cd t.2)) = t
    rw [show S (cd t.1) = t.1 from S_of t.1, show S (cd t.2) = t.2 from S_of t.2]
  have e : ps = (ps.map f).map (fun p => (S p.1, S p.2)) := by
    rw [List.map_map]
    exact ((List.map_congr_left fun t _ => fg t).trans (List.map_id' _)).symm
  have pm2 : (ps.map f).Perm D := by
    have := pm.map f
    rw [List.map_map] at this
    have i : (D.map (f ∘ fun p => (S p.1, S p.2))) = D := (List.map_congr_left fun p _ => by
      show (cd (S p.1), cd (S p.2)) = p
      rw [cd_S, cd_S]).trans (List.map_id' _)
    rw [i] at this
    exact this
  refine ⟨ps.map f, e, ⟨?_, fun t n => ?_⟩⟩
  · have nd : ((ps.map f).map Prod.fst).Nodup := (pm2.map Prod.fst).nodup_iff.mpr h.2
    refine sorted_lt nd ?_
    have : ((ps.map f).map Prod.fst).map S = ps.map Prod.fst := by
      rw [List.map_map, List.map_map]
      exact List.map_congr_left fun t _ => S_of t.1
    rw [this]
    exact up
  · rw [pm2.mem_iff]
    exact due_all h all
theorem r_tyD {K : PySem.W.Frag} {H : Hp} {d : Addr} {kvs : List (Key × V)} {B : Prop} (h : H d = some (.dK kvs)) (k : B) : tyV K "dict" (.ref d) H ∧ B := ⟨.inr (.inr (.inl ⟨rfl, .inl ⟨kvs, h⟩⟩)), k⟩
end J
namespace J
open PySem PySem.Spec PyProof.Rows L2 M
inductive NotGr (H : Hp) : V → Prop where
  | non : NotGr H .non
  | int (i : Int) : NotGr H (.int i)
  | str (z : Str) : NotGr H (.str z)
  | dict {a : Addr} {kvs : List (Key × V)} (h : H a = some (.dK kvs)) : NotGr H (.ref a)
theorem NotGr.same {H H' : Hp} {y : V} (h : NotGr H y) (s : Same H H') : NotGr H' y := by
  cases h with
  | non => exact .non
  | int i => exact .int i
  | str z => exact .str z
  | dict h => exact .dict (s _ _ h)
theorem NotGr.no {K : PySem.W.Frag} {CG : Addr} (G : GIs K CG) {H : Hp} {y : V} (h : NotGr H y) : NotG K CG H y := by
  cases h with
  | non => exact ⟨_, .base .non, G.non⟩
  | int i => exact ⟨_, .base (.int i), G.int⟩
  | str z => exact ⟨_, .base (.str z), G.str⟩
  | dict h => exact ⟨_, .base (.dK h), G.dict⟩
inductive OddC (H : Hp) (us : List (List Nat)) : V → Prop where
  | non : OddC H us .non
  | str (z : Str) : OddC H us (.str z)
  | lst {a : Addr} {xs : List V} (h : H a = some (.lst xs)) : OddC H us (.ref a)
  | int {a : Addr} (h : H a = some (.tup [.int 5])) : OddC H us (.ref a)
  | zz {a : Addr} (h : H a = some (.tup [.str (S zzN)])) (no : ∀ u ∈ us, u ≠ zzN) : OddC H us (.ref a)
theorem OddC.same {H H' : Hp} {us : List (List Nat)} {x : V} (h : OddC H us x) (s : Same H H') : OddC H' us x := by
  cases h with
  | non => exact .non
  | str z => exact .str z
  | lst h => exact .lst (s _ _ h)
  | int h => exact .int (s _ _ h)
  | zz h no => exact .zz (s _ _ h) no
theorem OddC.odd {K : PySem.W.Frag} {H : Hp} {us : List (List Nat)} {x : V} (h : OddC H us x) : OddP K H us x := by
  cases h with
  | non => exact .inl .non
  | str z => exact .inl (.str z)
  | lst h => exact .inl (.lst h)
  | int h =>
    refine .inl ?_
    have := Pa.tup (K := K) (H := H) (es := [(V.int 5, PyData.int 5)]) h (fun e he => by
      obtain rfl := List.mem_singleton.mp he
      exact .int 5 (by decide)) (by decide)
    exact this
  | @zz a h no =>
    refine .inr ⟨a, [S zzN], rfl, h, fun z hz => ?_, by decide, ?_⟩
    · rw [List.mem_singleton.mp hz, cd_S]
      exact ⟨by decide, by decide, fun c hc => by have := List.eq_of_mem_replicate hc; omega⟩
    · rintro (e | ⟨u, hu, e⟩)
      · exact nomatch e
      · exact no u hu (S_inj.mp (List.cons.inj e).1).symm
def spCaught (CG CN : Addr) : Sp := fun vs H Q _ => ∃ (q : Nat) (y x : V), vs = [.int (q : Nat), y, x] ∧ q < 5 ∧ ((NotGr H y ∧ ∀ H' p, Same H H' → H p = none → H' p = some (.lst [.str "grammar", y]) → Q (.ref p) H') ∨
  ∃ (g : Addr) (F : List Addr) (us : List (List Nat)) (os os' : List Op), y = .ref g ∧ GrAt CG CN H F g us os os' ∧ OddC H us x ∧ ∀ H' p, Same H H' → H p = none → H' p = some (.lst [.str "there", x]) → Q (.ref p) H')
structure TQ16 (K : PySem.W.Frag) (CT CX : Addr) : Prop where
  xx : PySem.W.exmOne K (.ref CX) (.ref CX) = some true
  tx : PySem.W.exmOne K (.ref CT) (.ref CX) = some false
  tt : PySem.W.exmOne K (.ref CT) (.ref CT) = some true
  fx : XfC K CX
  ft : XfC K CT
end J
namespace K16
open PySem PySem.Spec PyProof.Rows L2 J M
local macro_rules | `(tactic| walk_at "hp") => `(tactic| first | assumption | exact upd_same | (rw [upd_ne (by assumption)]; walk_at "hp") | (rw [upd_ne (Ne.symm (by assumption))]; walk_at "hp"))
local macro_rules | `(tactic| walk_at "s") => `(tactic| first
  | ((with_reducible refine' r_var ?h ?k); (case h => exact rfl))
  | (with_reducible refine r_c ?_)
  | (with_reducible refine r_op ?_)
  | (with_reducible refine r_un ?_)
  | (with_reducible refine r_seq ?_)
  | (with_reducible refine r_next ?_)
  | (with_reducible refine r_sets ?_)
  | (with_reducible refine r_gname ?_)
  | (with_reducible refine r_ifS ?_)
  | (with_reducible refine r_gsub ?_)
  | (with_reducible refine r_test ?_)
  | (with_reducible refine r_tb ?_)
  | (with_reducible refine r_not ?_)
  | (with_reducible refine r_and ?_)
  | (with_reducible refine r_or ?_)
  | (with_reducible refine r_andV ?_)
  | (with_reducible refine r_orV ?_)
  | (with_reducible refine r_notV ?_)
  | (with_reducible refine r_ifE ?_)
  | (with_reducible refine r_chain ?_)
  | (with_reducible refine r_cb ?_)
  | (with_reducible refine r_cons ?_)
  | (with_reducible refine r_nil ?_)
  | (with_reducible refine r_call ?_)
  | (with_reducible refine r_lst ?_)
  | (with_reducible refine r_tup ?_)
  | (with_reducible refine r_slice ?_)
  | (with_reducible refine r_nop ?_)
  | (with_reducible refine r_part ?_)
  | (with_reducible refine r_bm ?_)
  | (with_reducible refine r_m1 ?_)
  | (with_reducible refine r_m0 ?_)
  | (with_reducible refine r_is ?_)
  | (with_reducible refine r_maxD ?_)
  | (with_reducible refine r_orT ?_)
  | (with_reducible refine r_truN ?_)
  | (with_reducible refine r_intI ?_)
  | (with_reducible refine r_intB ?_)
  | (with_reducible refine r_max2 ?_)
  | (with_reducible refine r_min2 ?_)
  | (with_reducible refine r_yes ?_)
  | (with_reducible refine r_bl ?_)
  | (with_reducible refine iteT ?_)
  | (with_reducible refine iteF ?_)
  | (with_reducible refine r_iteNT ?_)
  | (with_reducible refine r_iteNF ?_)
  | (with_reducible refine r_minL ?_)
  | (with_reducible refine r_gcons ?_)
  | (with_reducible refine r_gnil ?_)
  | (with_reducible refine r_par ?_)
  | (with_reducible refine r_par3 ?_)
  | (with_reducible refine r_is2 ?_)
  | (with_reducible refine r_is3 ?_)
  | (with_reducible refine r_dget ?_)
  | (with_reducible refine r_callS ?_)
  | (with_reducible refine r_rz ?_)
  | (with_reducible refine r_rev ?_)
  | (with_reducible refine r_isI ?_)
  | (with_reducible refine r_isStr ?_)
  | (with_reducible refine r_ret ?_)
  | (with_reducible refine r_drop ?_)
  | (with_reducible refine r_rI0 ?_)
  | (with_reducible refine r_addI ?_)
  | ((with_reducible show rI (fun _ j => 0 < j) _ (.int _) (.int _) _ _); refine r_rI (by first | omega | decide) ?_)
  | ((with_reducible show rI CDiv _ (.int _) (.int _) _ _); refine r_rI (by constructor <;> omega) ?_)
  | ((with_reducible show rI CPow _ (.int _) (.int _) _ _); refine r_rI (by refine ⟨by decide, by decide, ?_⟩; omega) ?_)
  | ((with_reducible show rMul (.int _) (.int _) _ _); refine r_mulI (cmulW (by omega) (by omega)) ?_)
  | (with_reducible refine r_cmpI ?_)
  | (with_reducible refine r_cmpS ?_)
  | (with_reducible refine r_eqI ?_)
  | (with_reducible refine r_neI ?_)
  | (with_reducible refine r_eqS ?_)
  | (with_reducible refine r_neS ?_)
  | (with_reducible refine r_inSF ?_)
  | (with_reducible refine r_inST ?_)
  | (with_reducible refine r_isiStr ?_)
  | ((with_reducible show rIx _ (.ref _) (.int _) _ _); refine' r_ixL (SqL.of ?h) ?e ?_; (case h => walk_at "hp"); (case e => rfl))
  | ((with_reducible show rSetL (.ref _) (.int _) _ _ _); refine' r_setL ?h ?e ?_; (case h => walk_at "hp"); (case e => rfl)))
local macro_rules | `(tactic| walk_at "g") => `(tactic| repeat walk_at "s")
local macro_rules | `(tactic| walk_at "x") => `(tactic| first | omega | decide +kernel | (simp only [List.length_cons, List.length_nil]; omega))
local macro_rules | `(tactic| walk_at "T1") => `(tactic| (first
  | walk_at "s"
  | ((with_reducible show rIx _ (.ref _) (.int _) _ _); refine' r_ixTu (SqT.of ?h) ?e ?_; (case h => first | assumption | walk_at "hp"); (case e => rfl))
  | (with_reducible refine r_lenSet ?_)
  | (with_reducible refine r_asg2 ?_)
  | (with_reducible refine iteDT (by walk_at "x") ?_)
  | (with_reducible refine iteDF (by walk_at "x") ?_)
  | (with_reducible refine iteNT (by walk_at "x") ?_)
  | (with_reducible refine iteNF (by walk_at "x") ?_)))
local macro_rules | `(tactic| walk_at "T") => `(tactic| repeat (first
  | walk_at "s"
  | ((with_reducible show rIx _ (.ref _) (.int _) _ _); refine' r_ixTu (SqT.of ?h) ?e ?_; (case h => first | assumption | walk_at "hp"); (case e => rfl))
  | (with_reducible refine r_lenSet ?_)
  | (with_reducible refine r_asg2 ?_)
  | (with_reducible refine iteDT (by walk_at "x") ?_)
  | (with_reducible refine iteDF (by walk_at "x") ?_)
  | (with_reducible refine iteNT (by walk_at "x") ?_)
  | (with_reducible refine iteNF (by walk_at "x") ?_)))
local macro_rules | `(tactic| walk_at "g") => `(tactic| repeat (first | walk_at "T1" | (with_reducible refine r_fld ?_) | (with_reducible refine r_sfl ?_) | (with_reducible refine r_ifT ?_) | (with_reducible refine r_nn ?_)))
section
variable {P : Program} {w : World} {K : PySem.W.Frag} {mg : Str → Option Value} {base : Heap}
theorem ok_caught (T : Tx K mg) {CG CN CT CX : Addr} (TQ : TQ16 K CT CX) (GI : GIs K CG) (GC : GrC K CG) (NC : NodeC K CN) (L_Grammar : mg "Grammar" = some (.ref CG)) (O_NotThere : OY P w K mg base "NotThere" "found" CT) (O_NoGrammar : OE P w K mg base "NoGrammar" "found" CX) {f f_is_name f_is_path f_own_name f_own_words f_has_none f_fitting f_nodes_of f_command_at f_node_at f_beginnings_of f_named_texts f_command_words f_option_words f_flag_words f_goes f_goes_bare f_Grammar_is_there f_Grammar_command f_Grammar_node_of f_Node_has_worths f_Node_init f_Node_texts : Addr} {fd fd_is_name fd_is_path fd_own_name fd_own_words fd_has_none fd_fitting fd_nodes_of fd_command_at fd_node_at fd_beginnings_of fd_named_texts fd_command_words fd_option_words fd_flag_words fd_goes fd_goes_bare fd_Grammar_is_there fd_Grammar_command fd_Grammar_node_of fd_Node_has_worths fd_Node_init fd_Node_texts : FuncData} (F : Fun K "_law_caught" "_law_caught" s_law_caught f fd)
    (D_is_name : DAt K mg "is_name" s_is_name P_is_name f_is_name fd_is_name)
    (D_is_path : DAt K mg "is_path" s_is_path P_is_path f_is_path fd_is_path)
    (D_own_name : DAt K mg "own_name" s_own_name P_own_name f_own_name fd_own_name)
    (D_own_words : DAt K mg "_own_words" s_own_words P_own_words f_own_words fd_own_words)
    (D_has_none : DAt K mg "_has_none" s_has_none P_has_none f_has_none fd_has_none)
    (D_fitting : DAt K mg "_fitting" s_fitting P_fitting f_fitting fd_fitting)
    (D_nodes_of : DAt K mg "nodes_of" s_nodes_of P_nodes_of f_nodes_of fd_nodes_of)
    (D_command_at : DAt K mg "command_at" s_command_at P_command_at f_command_at fd_command_at)
    (D_node_at : DAt K mg "node_at" s_node_at P_node_at f_node_at fd_node_at)
    (D_beginnings_of : DAt K mg "beginnings_of" s_beginnings_of P_beginnings_of f_beginnings_of fd_beginnings_of)
    (D_named_texts : DAt K mg "_named_texts" s_named_texts P_named_texts f_named_texts fd_named_texts)
    (D_command_words : DAt K mg "command_words" s_command_words P_command_words f_command_words fd_command_words)
    (D_option_words : DAt K mg "option_words" s_option_words P_option_words f_option_words fd_option_words)
    (D_flag_words : DAt K mg "flag_words" s_flag_words P_flag_words f_flag_words fd_flag_words)
    (D_goes : DAt K mg "goes" s_goes P_goes f_goes fd_goes)
    (D_goes_bare : DAt K mg "goes_bare" s_goes_bare P_goes_bare f_goes_bare fd_goes_bare)
    (D_Node_init : IAt K mg "Node" CN "Node.__init__" s_Node_init P_Node_init [] f_Node_init fd_Node_init)
    (D_Grammar_is_there : MAt K CG "is_there" "Grammar.is_there" s_Grammar_is_there P_Grammar_is_there f_Grammar_is_there fd_Grammar_is_there)
    (D_Grammar_command : MAt K CG "command" "Grammar.command" s_Grammar_command P_Grammar_command f_Grammar_command fd_Grammar_command)
    (D_Grammar_node_of : MAt K CG "node_of" "Grammar.node_of" s_Grammar_node_of P_Grammar_node_of f_Grammar_node_of fd_Grammar_node_of)
    (D_Node_has_worths : MAt K CN "has_worths" "Node.has_worths" s_Node_has_worths P_Node_has_worths f_Node_has_worths fd_Node_has_worths)
    (D_Node_texts : MAt K CN "texts" "Node.texts" s_Node_texts P_Node_texts f_Node_texts fd_Node_texts) : FnOk P w K mg base CX0 9 f fd P_law_caught (spCaught CG CN) := by
  have M_Grammar_is_there := D_Grammar_is_there.me
  have B_Grammar_is_there := D_Grammar_is_there.bd
  have M_Grammar_command := D_Grammar_command.me
  have B_Grammar_command := D_Grammar_command.bd
  have M_Grammar_node_of := D_Grammar_node_of.me
  have B_Grammar_node_of := D_Grammar_node_of.bd
  have M_Node_has_worths := D_Node_has_worths.me
  have B_Node_has_worths := D_Node_has_worths.bd
  have K_Node := D_Node_init.mak
  have L_Node := D_Node_init.gl
  have B_Node_init := D_Node_init.bd
  have V_Node_init : Vals [] [] := .nil
  have M_Node_texts := D_Node_texts.me
  have B_Node_texts := D_Node_texts.bd
  have G_command_words : FnOk P w K mg base (L2.CX P w) 8 f_command_words fd_command_words P_command_words (spWords K CG CN CT CX cmdS) := ok_command_words T GI GC NC L_Grammar O_NotThere O_NoGrammar D_command_words.fn D_is_name D_is_path D_own_name D_own_words D_has_none D_fitting D_nodes_of D_command_at D_node_at D_beginnings_of D_Node_init D_Grammar_is_there D_Grammar_command D_Grammar_node_of D_Node_has_worths D_Node_texts
  have G_option_words : FnOk P w K mg base (L2.CX P w) 8 f_option_words fd_option_words P_option_words (spWords K CG CN CT CX optS) := ok_option_words T GI GC NC L_Grammar O_NotThere O_NoGrammar D_option_words.fn D_is_name D_is_path D_own_name D_own_words D_has_none D_fitting D_nodes_of D_command_at D_node_at D_beginnings_of D_named_texts D_Node_init D_Grammar_is_there D_Grammar_command D_Grammar_node_of D_Node_has_worths D_Node_texts
  have G_flag_words : FnOk P w K mg base (L2.CX P w) 8 f_flag_words fd_flag_words P_flag_words (spWords K CG CN CT CX flagS) := ok_flag_words T GI GC NC L_Grammar O_NotThere O_NoGrammar D_flag_words.fn D_is_name D_is_path D_own_name D_own_words D_has_none D_fitting D_nodes_of D_command_at D_node_at D_beginnings_of D_named_texts D_Node_init D_Grammar_is_there D_Grammar_command D_Grammar_node_of D_Node_has_worths D_Node_texts
  have G_goes : FnOk P w K mg base (L2.CX P w) 8 f_goes fd_goes P_goes (spGoes K CG CN CT CX) := ok_goes T GI GC NC L_Grammar O_NotThere O_NoGrammar D_goes.fn D_is_name D_is_path D_own_name D_own_words D_has_none D_fitting D_nodes_of D_command_at D_node_at D_Node_init D_Grammar_is_there D_Grammar_command D_Grammar_node_of D_Node_has_worths
  have G_goes_bare : FnOk P w K mg base (L2.CX P w) 8 f_goes_bare fd_goes_bare P_goes_bare (spGoes K CG CN CT CX) := ok_goes_bare T GI GC NC L_Grammar O_NotThere O_NoGrammar D_goes_bare.fn D_is_name D_is_path D_own_name D_own_words D_has_none D_fitting D_nodes_of D_command_at D_node_at D_Node_init D_Grammar_is_there D_Grammar_command D_Grammar_node_of D_Node_has_worths
  refine F.ok sc_law_caught (fun vs H Q E h => ?_) (fun cdv A outer s H vs Q E hr h => ?_)
  · obtain ⟨q, y, x, rfl, _⟩ := h
    rfl
  · obtain ⟨q, y, x, rfl, hq, k⟩ := h
    refine ⟨_, pss_cons (ps_tryN (l := [(.ref CX, 3, fun a cls d => tRet (tLst (tCons (tC (.str "grammar")) (tCons (tXf a cls d CX "found" (tVar 3)) tNil)))), (.ref CT, 3, fun a cls d => tRet (tLst (tCons (tC (.str "there")) (tCons (tXf a cls d CT "found" (tVar 3)) tNil))))])
      (tb := fun W => tDrop (tCallV (fun f sp => HeldX P w K mg base (L2.CX P w) 8 f sp) (WE W) (tOp (rIx K) (tLst (tCons (tC (.ref f_command_words)) (tCons (tC (.ref f_option_words)) (tCons (tC (.ref f_flag_words)) (tCons (tC (.ref f_goes)) (tCons (tC (.ref f_goes_bare)) tNil)))))) (tVar 0)) (tCons (tVar 1) (tCons (tVar 2) tNil)))) rfl rfl sc_law_caught.nd
      (fun W pn xe tk _ => pss_one (ps_expr (by exact (pe_callVS (E := WE W) (fun _ _ h => h) (hr.mono (by decide)) (fun σ => passAt tk σ) (pe_ix (ix_seq : IxR _ (rIx K)) (pe_lst (pa_cons (pe_gR D_command_words.gl rfl) (pa_cons (pe_gR D_option_words.gl rfl) (pa_cons (pe_gR D_flag_words.gl rfl) (pa_cons (pe_gR D_goes.gl rfl) (pa_cons (pe_gR D_goes_bare.gl rfl) pa_nil)))))) (pv 0) (fun _ _ => rfl)) (by exact (pa_cons (pv 1) (pa_cons (pv 2) pa_nil)))))))
      (HN.cons rfl rfl ⟨rfl, by decide, Or.inl O_NoGrammar.gl⟩ (fun a oe cls d pn hz hf => pss_one (ps_ret (by exact (pe_lst (pa_cons pe_str (pa_cons (pe_xf TQ.fx O_NoGrammar.nf hz hf (pv 3)) pa_nil)))))) (HN.cons rfl rfl ⟨rfl, by decide, Or.inl O_NotThere.gl⟩ (fun a oe cls d pn hz hf => pss_one (ps_ret (by exact (pe_lst (pa_cons pe_str (pa_cons (pe_xf TQ.ft O_NotThere.nf hz hf (pv 3)) pa_nil)))))) (HN.any _)))) (pss_one (ps_ret (pe_lst (pa_cons pe_str (pa_cons pe_non pa_nil))))), ?_⟩
    have held : ∀ {f : Addr} {fd : FuncData} {ps : List Str} {sp : Sp}, FnOk P w K mg base (L2.CX P w) 8 f fd ps sp → PySem.W.keepIn K (.ref f) = true → Binds K fd ps [] → HeldX P w K mg base (L2.CX P w) 8 f sp := fun F a b => ⟨_, _, F, a, b⟩
    walk_at "g"
    refine r_callV ?_
    walk_at "g"
    refine ⟨show 5 ≤ sizeLine by decide, fun fa hfa => ?_⟩
    have s1 := (Same.refl H).at hfa (.lst [V.ref f_command_words, V.ref f_option_words, V.ref f_flag_words, V.ref f_goes, V.ref f_goes_bare])
    have e1 : upd H fa (.lst [V.ref f_command_words, V.ref f_option_words, V.ref f_flag_words, V.ref f_goes, V.ref f_goes_bare]) fa = some (.lst [V.ref f_command_words, V.ref f_option_words, V.ref f_flag_words, V.ref f_goes, V.ref f_goes_bare]) := upd_same
    generalize upd H fa (.lst [V.ref f_command_words, V.ref f_option_words, V.ref f_flag_words, V.ref f_goes, V.ref f_goes_bare]) = H1 at s1 e1 ⊢
    have out : ∀ (W : WX) (σ : L2.St), (∀ H', Same H H' → ∀ dd, H' dd = some (.xd [("found", y)]) → NotGr H y → W (.ref CX) (some dd) σ H') → (∀ H', Same H H' → ∀ dd, H' dd = some (.xd [("found", x)]) → ¬ NotGr H y → W (.ref CT) (some dd) σ H') → True := fun _ _ _ _ => trivial
    refine Exists.elim (show ∃ f sp, [V.ref f_command_words, V.ref f_option_words, V.ref f_flag_words, V.ref f_goes, V.ref f_goes_bare][q]? = some (V.ref f) ∧ HeldX P w K mg base (L2.CX P w) 8 f sp ∧ ∀ Q' E', ((NotG K CG H1 y ∧ Err CX "found" y H1 E') ∨ ∃ (g : Addr) (F : List Addr) (us : List (List Nat)) (os os' : List Op), y = .ref g ∧ GrAt CG CN H1 F g us os os' ∧ OddP K H1 us x ∧ Err CT "found" x H1 E') → sp [y, x] H1 Q' E' from ?_) fun f hf => Exists.elim hf fun sp ⟨i1, hh, hs⟩ => ?_
    · have w1 : ∀ sel, ∀ Q' E', ((NotG K CG H1 y ∧ Err CX "found" y H1 E') ∨ ∃ (g : Addr) (F : List Addr) (us : List (List Nat)) (os os' : List Op), y = .ref g ∧ GrAt CG CN H1 F g us os os' ∧ OddP K H1 us x ∧ Err CT "found" x H1 E') → spWords K CG CN CT CX sel [y, x] H1 Q' E' := fun sel Q' E' h => ⟨y, x, rfl, h.imp id fun ⟨g, F, us, os, os', a, b, c, d⟩ => ⟨g, F, us, os, os', a, b, .inr ⟨c, d⟩⟩⟩
      have w2 : ∀ Q' E', ((NotG K CG H1 y ∧ Err CX "found" y H1 E') ∨ ∃ (g : Addr) (F : List Addr) (us : List (List Nat)) (os os' : List Op), y = .ref g ∧ GrAt CG CN H1 F g us os os' ∧ OddP K H1 us x ∧ Err CT "found" x H1 E') → spGoes K CG CN CT CX [y, x] H1 Q' E' := fun Q' E' h => ⟨y, x, rfl, h⟩
      match q, hq with
      | 0, _ => exact ⟨_, _, rfl, held G_command_words D_command_words.fn.kp D_command_words.bd, w1 _⟩
      | 1, _ => exact ⟨_, _, rfl, held G_option_words D_option_words.fn.kp D_option_words.bd, w1 _⟩
      | 2, _ => exact ⟨_, _, rfl, held G_flag_words D_flag_words.fn.kp D_flag_words.bd, w1 _⟩
      | 3, _ => exact ⟨_, _, rfl, held G_goes D_goes.fn.kp D_goes.bd, w2⟩
      | 4, _ => exact ⟨_, _, rfl, held G_goes_bare D_goes_bare.fn.kp D_goes_bare.bd, w2⟩
    clear out
    walk_at "g"
    refine r_ixL (SqL.of e1) (atI_nat i1) ?_
    refine ⟨f, sp, rfl, hh, ?_⟩
    walk_at "g"
    refine hs _ _ ?_
    rcases k with ⟨ng, k⟩ | ⟨g, F, us, os, os', rfl, gr, od, k⟩
    · refine .inl ⟨(ng.same s1).no GI, fun dd H2 hd sd hx' => ?_⟩
      refine ⟨true, TQ.xx, fun _ a ha => ?_, fun h => nomatch h⟩
      show tRet _ ⟨_, _, _, _⟩ _ _
      walk_at "g"
      refine r_xf (v := y) rfl rfl rfl hx' ?_
      walk_at "g"
      refine ⟨show 2 ≤ sizeLine by decide, fun p hp => ?_⟩
      have s2 := s1.trans sd
      exact k _ p (s2.at (Same.non s2 hp) _) (Same.non s2 hp) upd_same
    · refine .inr ⟨g, F, us, os, os', rfl, gr.same s1, (od.same s1).odd, fun dd H2 hd sd hx' => ?_⟩
      refine ⟨false, TQ.tx, (fun h => nomatch h), fun _ => ⟨true, TQ.tt, fun _ a ha => ?_, fun h => nomatch h⟩⟩
      show tRet _ ⟨_, _, _, _⟩ _ _
      walk_at "g"
      refine r_xf (v := x) rfl rfl rfl hx' ?_
      walk_at "g"
      refine ⟨show 2 ≤ sizeLine by decide, fun p hp => ?_⟩
      have s2 := s1.trans sd
      exact k _ p (s2.at (Same.non s2 hp) _) (Same.non s2 hp) upd_same
end
end K16
namespace K16
open PySem PySem.Spec PyProof.Rows L2 J M
local macro_rules | `(tactic| walk_at "hp") => `(tactic| first | assumption | exact upd_same | (rw [upd_ne (by assumption)]; walk_at "hp") | (rw [upd_ne (Ne.symm (by assumption))]; walk_at "hp"))
local macro_rules | `(tactic| walk_at "s") => `(tactic| first
  | ((with_reducible refine' r_var ?h ?k); (case h => exact rfl))
  | (with_reducible refine r_c ?_)
  | (with_reducible refine r_op ?_)
  | (with_reducible refine r_un ?_)
  | (with_reducible refine r_seq ?_)
  | (with_reducible refine r_next ?_)
  | (with_reducible refine r_sets ?_)
  | (with_reducible refine r_gname ?_)
  | (with_reducible refine r_ifS ?_)
  | (with_reducible refine r_gsub ?_)
  | (with_reducible refine r_test ?_)
  | (with_reducible refine r_tb ?_)
  | (with_reducible refine r_not ?_)
  | (with_reducible refine r_and ?_)
  | (with_reducible refine r_or ?_)
  | (with_reducible refine r_andV ?_)
  | (with_reducible refine r_orV ?_)
  | (with_reducible refine r_notV ?_)
  | (with_reducible refine r_ifE ?_)
  | (with_reducible refine r_chain ?_)
  | (with_reducible refine r_cb ?_)
  | (with_reducible refine r_cons ?_)
  | (with_reducible refine r_nil ?_)
  | (with_reducible refine r_call ?_)
  | (with_reducible refine r_lst ?_)
  | (with_reducible refine r_tup ?_)
  | (with_reducible refine r_slice ?_)
  | (with_reducible refine r_nop ?_)
  | (with_reducible refine r_part ?_)
  | (with_reducible refine r_bm ?_)
  | (with_reducible refine r_m1 ?_)
  | (with_reducible refine r_m0 ?_)
  | (with_reducible refine r_is ?_)
  | (with_reducible refine r_maxD ?_)
  | (with_reducible refine r_orT ?_)
  | (with_reducible refine r_truN ?_)
  | (with_reducible refine r_intI ?_)
  | (with_reducible refine r_intB ?_)
  | (with_reducible refine r_max2 ?_)
  | (with_reducible refine r_min2 ?_)
  | (with_reducible refine r_yes ?_)
  | (with_reducible refine r_bl ?_)
  | (with_reducible refine iteT ?_)
  | (with_reducible refine iteF ?_)
  | (with_reducible refine r_iteNT ?_)
  | (with_reducible refine r_iteNF ?_)
  | (with_reducible refine r_minL ?_)
  | (with_reducible refine r_gcons ?_)
  | (with_reducible refine r_gnil ?_)
  | (with_reducible refine r_par ?_)
  | (with_reducible refine r_par3 ?_)
  | (with_reducible refine r_is2 ?_)
  | (with_reducible refine r_is3 ?_)
  | (with_reducible refine r_dget ?_)
  | (with_reducible refine r_callS ?_)
  | (with_reducible refine r_rz ?_)
  | (with_reducible refine r_rev ?_)
  | (with_reducible refine r_isI ?_)
  | (with_reducible refine r_isStr ?_)
  | (with_reducible refine r_ret ?_)
  | (with_reducible refine r_drop ?_)
  | (with_reducible refine r_rI0 ?_)
  | (with_reducible refine r_addI ?_)
  | ((with_reducible show rI (fun _ j => 0 < j) _ (.int _) (.int _) _ _); refine r_rI (by first | omega | decide) ?_)
  | ((with_reducible show rI CDiv _ (.int _) (.int _) _ _); refine r_rI (by constructor <;> omega) ?_)
  | ((with_reducible show rI CPow _ (.int _) (.int _) _ _); refine r_rI (by refine ⟨by decide, by decide, ?_⟩; omega) ?_)
  | ((with_reducible show rMul (.int _) (.int _) _ _); refine r_mulI (cmulW (by omega) (by omega)) ?_)
  | (with_reducible refine r_cmpI ?_)
  | (with_reducible refine r_cmpS ?_)
  | (with_reducible refine r_eqI ?_)
  | (with_reducible refine r_neI ?_)
  | (with_reducible refine r_eqS ?_)
  | (with_reducible refine r_neS ?_)
  | (with_reducible refine r_inSF ?_)
  | (with_reducible refine r_inST ?_)
  | (with_reducible refine r_isiStr ?_)
  | ((with_reducible show rIx _ (.ref _) (.int _) _ _); refine' r_ixL (SqL.of ?h) ?e ?_; (case h => walk_at "hp"); (case e => rfl))
  | ((with_reducible show rSetL (.ref _) (.int _) _ _ _); refine' r_setL ?h ?e ?_; (case h => walk_at "hp"); (case e => rfl)))
local macro_rules | `(tactic| walk_at "g") => `(tactic| repeat walk_at "s")
local macro_rules | `(tactic| walk_at "x") => `(tactic| first | omega | decide +kernel | (simp only [List.length_cons, List.length_nil]; omega))
local macro_rules | `(tactic| walk_at "T1") => `(tactic| (first
  | walk_at "s"
  | ((with_reducible show rIx _ (.ref _) (.int _) _ _); refine' r_ixTu (SqT.of ?h) ?e ?_; (case h => first | assumption | walk_at "hp"); (case e => rfl))
  | (with_reducible refine r_lenSet ?_)
  | (with_reducible refine r_asg2 ?_)
  | (with_reducible refine iteDT (by walk_at "x") ?_)
  | (with_reducible refine iteDF (by walk_at "x") ?_)
  | (with_reducible refine iteNT (by walk_at "x") ?_)
  | (with_reducible refine iteNF (by walk_at "x") ?_)))
local macro_rules | `(tactic| walk_at "T") => `(tactic| repeat (first
  | walk_at "s"
  | ((with_reducible show rIx _ (.ref _) (.int _) _ _); refine' r_ixTu (SqT.of ?h) ?e ?_; (case h => first | assumption | walk_at "hp"); (case e => rfl))
  | (with_reducible refine r_lenSet ?_)
  | (with_reducible refine r_asg2 ?_)
  | (with_reducible refine iteDT (by walk_at "x") ?_)
  | (with_reducible refine iteDF (by walk_at "x") ?_)
  | (with_reducible refine iteNT (by walk_at "x") ?_)
  | (with_reducible refine iteNF (by walk_at "x") ?_)))
local macro_rules | `(tactic| walk_at "g") => `(tactic| repeat (first | walk_at "T1" | (with_reducible refine r_fld ?_) | (with_reducible refine r_sfl ?_) | (with_reducible refine r_ifT ?_) | (with_reducible refine r_nn ?_)))
section
variable {P : Program} {w : World} {K : PySem.W.Frag} {mg : Str → Option Value} {base : Heap}
theorem ok_due (T : Tx K mg) {f : Addr} {fd : FuncData} (F : Fun K "_law_due" "_law_due" s_law_due f fd) : FnOk P w K mg base CX0 1 f fd P_law_due spDueB := by
  refine F.ok sc_law_due (fun vs H Q E h => ?_) (fun cdv A outer s H vs Q E hr h => ?_)
  · obtain ⟨l, ns, rfl, _⟩ := h
    rfl
  · obtain ⟨l, ns, rfl, hl, ok, k⟩ := h
    refine ⟨_, (pss_cons (ps_set (i := 1) sc_law_due.nd rfl (Or.inl rfl) pe_dnewK) (pss_cons (ps_for (PassesOwn.never) rfl (asSeq (K := K) rfl (pi_seq (pv 0))) (pg_name (i := 2) sc_law_due.nd rfl (Or.inl rfl)) (pss_one (ps_for (PassesOwn.never) rfl (pi_range2 rfl T.z_range (pa_cons pe_int (pa_cons (pe_op (oAdd : OpR _ _ (J.rAdd K)) (pe_callB (call_lenA : CallR _ _ (J.rLen K)) (by rfl) T.z_len (by decide +kernel) (pa_cons (pv 2) pa_nil)) pe_int) pa_nil))) (pg_name (i := 3) sc_law_due.nd rfl (Or.inr rfl)) (pss_cons (ps_set (i := 4) sc_law_due.nd rfl (Or.inr rfl) (pe_slice (sl_any : SlR _ (rSl K)) (pv 2) po_none (po_some (pv 3)))) (pss_cons (ps_setLc (i := 5) (own := [("_law_one", 6)]) (g := (gName 6)) rfl sc_law_due.nd rfl rfl (sw_true rfl rfl rfl (by decide +kernel)) (asSeq (K := K) rfl (pi_seq (pv 0))) (blkOk_by (N := N_law_due) (sc := defScope s_law_due) (by decide +kernel)) (fun _ _ _ _ _ => (pg_name (i := 6) sc_law_due.nd rfl (Or.inl rfl))) (fun _ _ _ _ _ => (pts_one (pt_cmpR ((op_eqA hr.units) : OpR _ _ (rEqA K)) (pe_slice (sl_any : SlR _ (rSl K)) (pv 6) po_none (po_some (pv 3))) (pv 4) (nomark _)))) (fun _ _ _ _ _ => (pv 6))) (pss_one (ps_if (pt_cmpR (op_inA : OpR _ _ (rInA K false)) (pv 4) (pv 0) (by rfl)) (pss_one (ps_dput (hu_of hr) (pv 1) (pv 4) (pv 4) rfl)) (pss_one (ps_if (pt_cmpR ((op_eqA hr.units) : OpR _ _ (rEqA K)) (pv 5) (pe_lst (pa_cons (pv 2) pa_nil)) (nomark _)) (pss_one (ps_dput (hu_of hr) (pv 1) (pv 4) (pv 2) rfl)) pss_nil))))))))) (pss_one (ps_ret (pe_callB (cr_sortItS rfl : CallR _ _ rSortItS) (by rfl) T.z_sorted (by decide +kernel) (pa_cons (asBM0 (K := K) rfl (pe_bm0 PySem.F.plainAttrs_dict PySem.F.slot_dict_items PySem.F.type_dict_items mt_itemsK (pv 1))) pa_nil)))))), ?_⟩
    have hlw : H l = some (.lst (ns.map wV)) := hl
    have hls : H l = some (.lst ((ns.map S).map V.str)) := by rw [List.map_map]; exact hl
    have c126 : ∀ m ∈ ns, ∀ c ∈ m, c ≤ 126 := fun m hm c hc => by have := (ok.2.2 m hm).2.2 c hc; omega
    have inS : ∀ m : List Nat, S m ∈ ns.map S ↔ m ∈ ns := fun m => ⟨fun h => by obtain ⟨a, ha, e⟩ := List.mem_map.mp h; rw [← S_inj.mp e]; exact ha, fun h => List.mem_map_of_mem h⟩
    walk_at "g"
    intro d hd
    have s1 := (Same.refl H).at hd (.dK [])
    have d1 : upd H d (.dK []) d = some (.dK []) := upd_same
    generalize upd H d (.dK []) = H1 at s1 d1 ⊢
    walk_at "g"
    refine r_for ?_
    refine r_isq ?_
    walk_at "g"
    refine ⟨l, _, rfl, .inl ⟨SqL.of (s1 _ _ hl), ?_⟩⟩
    refine loop_lst (fun i σ' H' => ∃ (o2 o3 o4 o5 o6 : Option V) (D : List Bg), σ' = [some (.ref l), some (.ref d), o2, o3, o4, o5, o6] ∧ Same H H' ∧ H' d = some (.dK (D.map begE)) ∧ DueD ns D ∧ D.length ≤ 8 * i ∧ ∀ n ∈ ns.take i, ∀ q, 1 ≤ q → q ≤ n.length → ∀ m, Due ns (n.take q) m → (n.take q, m) ∈ D) (fun i σ' H' w => by obtain ⟨_, _, _, _, _, _, _, s, _⟩ := w; exact s _ _ hl) ⟨_, _, _, _, _, [], rfl, s1, d1, ⟨(fun _ h => nomatch h), List.nodup_nil⟩, Nat.zero_le _, fun _ h => nomatch h⟩ (fun i x σ2 H2 hx w => ?_) fun σ2 H2 w => ?_
    · obtain ⟨o2, o3, o4, o5, o6, D, rfl, s2, d2, dd, ld, al⟩ := w
      rw [List.getElem?_map] at hx
      obtain ⟨n, en, rfl⟩ := Option.map_eq_some_iff.mp hx
      have nin := List.mem_of_getElem? en
      have l8 := (ok.2.2 n nin).2.1
      have i6 : i < 6 := Nat.lt_of_lt_of_le (List.getElem?_eq_some_iff.mp en).1 ok.1
      walk_at "g"
      refine r_for ?_
      refine r_irng2 ?_
      walk_at "g"
      refine r_len (by rw [S_len]; exact Nat.le_trans l8 (by decide)) ?_
      rw [S_len]
      walk_at "g"
      refine ⟨1, (n.length : Nat) + 1, rfl, ⟨by decide, by decide, by omega, by omega⟩, ?_⟩
      rw [show (((n.length : Nat) : Int) + 1 - 1).toNat = n.length by omega]
      refine loop_rngL (fun j σ' H' => ∃ (o3 o4 o5 o6 : Option V) (D : List Bg), σ' = [some (.ref l), some (.ref d), some (.str (S n)), o3, o4, o5, o6] ∧ Same H H' ∧ H' d = some (.dK (D.map begE)) ∧ DueD ns D ∧ D.length ≤ 8 * i + j ∧ (∀ n ∈ ns.take i, ∀ q, 1 ≤ q → q ≤ n.length → ∀ m, Due ns (n.take q) m → (n.take q, m) ∈ D) ∧ ∀ q, 1 ≤ q → q ≤ j → ∀ m, Due ns (n.take q) m → (n.take q, m) ∈ D) ⟨_, _, _, _, D, rfl, s2, d2, dd, ld, al, fun q h1 h2 => by omega⟩ (fun j σ3 H3 hj w => ?_) fun σ3 H3 w => ?_
      · obtain ⟨o3, o4, o5, o6, D, rfl, s3, d3, dd, ld, al, aj⟩ := w
        have tl : (n.take (j + 1)).length = j + 1 := by rw [List.length_take]; omega
        have t0 : n.take (j + 1) ≠ [] := fun e => by rw [e] at tl; exact absurd tl (by simp)
        walk_at "g"
        refine r_slS (by rw [S_len]; exact Nat.le_trans l8 (by decide)) ?_
        rw [show (1 + ((j : Nat) : Int)) = ((j + 1 : Nat) : Int) by omega, cutS_take, cd_S]
        walk_at "g"
        refine r_lcQ ?_
        walk_at "g"
        refine r_seqZ (.inl (SqL.of (s3 _ _ hl))) fun J SI sa hsa => ?_
        refine comp_of ns.length (fun r H' => Same H3 H' ∧ H' sa = some (.lst (((ns.take r).filter (fun m => decide (m.take (j + 1) = n.take (j + 1)))).map wV))) ⟨(Same.refl _).at hsa _, upd_same⟩ (fun r H' hr w => SI.go r H' w.1 (by rw [List.length_map]; exact hr)) (fun H' w => by have := SI.stop H' w.1; rwa [List.length_map] at this) (fun r H' x H'' hr w y => ?_) fun H4 w => ?_
        · obtain ⟨rfl, hx2⟩ := SI.yld r H' x H'' w.1 y
          rw [List.getElem?_map] at hx2
          obtain ⟨m, em, rfl⟩ := Option.map_eq_some_iff.mp hx2
          have m8 := (ok.2.2 m (List.mem_of_getElem? em)).2.1
          have lf : (((ns.take r).filter (fun m => decide (m.take (j + 1) = n.take (j + 1)))).map wV).length ≤ 6 := by
            rw [List.length_map]
            exact Nat.le_trans (List.length_filter_le ..) (Nat.le_trans (List.length_take_le' ..) ok.1)
          walk_at "g"
          refine ⟨rfl, ?_⟩
          walk_at "g"
          refine r_slS (by rw [S_len]; exact Nat.le_trans m8 (by decide)) ?_
          rw [cutS_take, cd_S]
          walk_at "g"
          by_cases q : m.take (j + 1) = n.take (j + 1)
          · rw [decide_eq_true (show S (m.take (j + 1)) = S (n.take (j + 1)) by rw [q])]
            walk_at "g"
            refine ⟨_, w.2, Nat.lt_of_le_of_lt lf (by decide), w.1.at hsa _, ?_⟩
            rw [upd_same, show ns.take (r + 1) = ns.take r ++ [m] by rw [List.take_succ, em]; rfl, List.filter_append, List.map_append, List.filter_cons_of_pos (by simp [q])]
            rfl
          · rw [decide_eq_false (show ¬ S (m.take (j + 1)) = S (n.take (j + 1)) from fun e => q (S_inj.mp e))]
            walk_at "g"
            refine ⟨w.1, ?_⟩
            rw [show ns.take (r + 1) = ns.take r ++ [m] by rw [List.take_succ, em]; rfl, List.filter_append, List.filter_cons_of_neg (by simp [q])]
            simpa using w.2
        · obtain ⟨s34, e4⟩ := w
          rw [List.take_of_length_le (Nat.le_refl ns.length)] at e4
          have s4 := s3.trans s34
          have d4 := s34 _ _ d3
          have put : ∀ m, Due ns (n.take (j + 1)) m → ∀ H5, Same H4 H5 → ∃ (D' : List Bg), Same H (upd H5 d (.dK (putK (D.map begE) (.inr (S (n.take (j + 1)))) (.str (S m))))) ∧ (upd H5 d (.dK (putK (D.map begE) (.inr (S (n.take (j + 1)))) (.str (S m))))) d = some (.dK (D'.map begE)) ∧ DueD ns D' ∧ D'.length ≤ 8 * i + (j + 1) ∧ (∀ n ∈ ns.take i, ∀ q, 1 ≤ q → q ≤ n.length → ∀ m, Due ns (n.take q) m → (n.take q, m) ∈ D') ∧ ∀ q, 1 ≤ q → q ≤ j + 1 → ∀ m, Due ns (n.take q) m → (n.take q, m) ∈ D' := fun m hm H5 s45 => by
            obtain ⟨a1, a2⟩ := dd.add (p := (n.take (j + 1), m)) hm
            refine ⟨addB D (n.take (j + 1), m), (s4.trans s45).at hd _, by rw [upd_same, a2], a1, ?_, fun n' h1 q h2 h3 m' h4 => addB_mem.mpr (.inl (al n' h1 q h2 h3 m' h4)), fun q h2 h3 m' h4 => addB_mem.mpr ?_⟩
            · have := addB_len D (n.take (j + 1), m)
              omega
            · by_cases e : q ≤ j
              · exact .inl (aj q h2 e m' h4)
              · obtain rfl : q = j + 1 := by omega
                exact .inr (by rw [h4.fn hm])
          have lD : (D.map begE).length < sizeLine := by
            rw [begE_len]
            exact Nat.lt_of_le_of_lt (show _ ≤ 100 by omega) (by decide)
          walk_at "g"
          refine r_inTx (ws := ns.map S) (.inl (SqL.of (s4 _ _ hls))) ?_
          by_cases c : n.take (j + 1) ∈ ns
          · rw [decide_eq_true ((inS _).mpr c)]
            walk_at "g"
            refine r_sdput ?_
            walk_at "g"
            refine ⟨d, _, rfl, DPut.k (k := .inr (S (n.take (j + 1)))) d4 lD, ?_⟩
            obtain ⟨D', p1⟩ := put _ (due_self c t0) H4 (Same.refl _)
            exact ⟨_, _, _, _, D', rfl, p1⟩
          · rw [decide_eq_false (fun h => c ((inS _).mp h))]
            walk_at "g"
            refine ⟨show 1 ≤ sizeLine by decide, fun na hna => ?_⟩
            have s45 := (Same.refl H4).at hna (.lst [.str (S n)])
            have e5 := s45 _ _ e4
            have n5 : upd H4 na (.lst [.str (S n)]) na = some (.lst ([n].map wV)) := upd_same
            generalize upd H4 na (.lst [.str (S n)]) = H5 at s45 e5 n5 ⊢
            refine r_eqWW (SqL.of e5) (SqL.of n5) (fun m hm => c126 m (List.mem_filter.mp hm).1) (fun m hm => by rw [List.mem_singleton.mp hm]; exact c126 n nin) ?_
            by_cases c2 : ns.filter (fun m => decide (m.take (j + 1) = n.take (j + 1))) = [n]
            · rw [decide_eq_true c2]
              walk_at "g"
              refine r_sdput ?_
              walk_at "g"
              refine ⟨d, _, rfl, DPut.k (k := .inr (S (n.take (j + 1)))) (s45 _ _ d4) lD, ?_⟩
              obtain ⟨D', p1⟩ := put _ (due_only nin (by omega) (by omega) c c2) H5 s45
              exact ⟨_, _, _, _, D', rfl, p1⟩
            · rw [decide_eq_false c2]
              walk_at "g"
              refine ⟨_, _, _, _, D, rfl, s4.trans s45, s45 _ _ d4, dd, by omega, al, fun q h2 h3 m h4 => ?_⟩
              by_cases e : q ≤ j
              · exact aj q h2 e m h4
              · obtain rfl : q = j + 1 := by omega
                exact absurd h4 (due_none ok.2.1 nin (by omega) c c2 m)
      · obtain ⟨o3, o4, o5, o6, D, rfl, s3, d3, dd, ld, al, aj⟩ := w
        refine ⟨_, _, _, _, _, D, rfl, s3, d3, dd, by omega, fun n' hn' q h2 h3 m h4 => ?_⟩
        rw [List.take_succ, en, Option.toList_some] at hn'
        rcases List.mem_append.mp hn' with h | h
        · exact al n' h q h2 h3 m h4
        · obtain rfl := List.mem_singleton.mp h
          exact aj q h2 h3 m h4
    · obtain ⟨o2, o3, o4, o5, o6, D, rfl, s2, d2, dd, ld, al⟩ := w
      rw [List.length_map, List.take_of_length_le (Nat.le_refl ns.length)] at al
      rw [List.length_map] at ld
      have := ok.1
      walk_at "g"
      refine r_bm0 ?_
      walk_at "g"
      refine r_tyD d2 ?_
      refine ⟨d, _, rfl, rfl, d2, fun v hv => ?_⟩
      have s3 := (Same.refl H2).at hv (L2.DX.itemsO v d)
      have v3 : upd H2 v (L2.DX.itemsO v d) v = some (L2.DX.itemsO v d) := upd_same
      generalize upd H2 v (L2.DX.itemsO v d) = H3 at s3 v3 ⊢
      have eE : D.map begE = (D.map fun p => ((S p.1, S p.2) : Str × Str)).map entS := by rw [List.map_map]; rfl
      refine ⟨v, d, D.map fun p => (S p.1, S p.2), rfl, v3, by rw [← eE]; exact s3 _ _ d2, ?_, by rw [List.length_map]; omega, fun H4 r ps as s4 hr pm up hr4 prs => ?_⟩
      · rw [List.map_map]
        have : (D.map (Prod.fst ∘ fun p : Bg => ((S p.1, S p.2) : Str × Str))) = (D.map Prod.fst).map S := by rw [List.map_map]; rfl
        rw [this]
        exact nd_map (fun a b e => S_inj.mp e) dd.2
      · obtain ⟨D', rfl, hD'⟩ := due_begs dd al pm up
        refine k H4 r as D' ((s2.trans s3).trans s4) (Same.non (s2.trans s3) hr) hD' hr4 ⟨by rw [prs.1, List.length_map], fun j a ha => ?_⟩
        obtain ⟨t, ht, h1⟩ := prs.2 j a ha
        rw [List.getElem?_map] at ht
        obtain ⟨p, hp, rfl⟩ := Option.map_eq_some_iff.mp ht
        exact ⟨p, hp, h1⟩
end
end K16
namespace K16
open PySem PySem.Spec PyProof.Rows L2 J M
local macro_rules | `(tactic| walk_at "hp") => `(tactic| first | assumption | exact upd_same | (rw [upd_ne (by assumption)]; walk_at "hp") | (rw [upd_ne (Ne.symm (by assumption))]; walk_at "hp"))
local macro_rules | `(tactic| walk_at "s") => `(tactic| first
  | ((with_reducible refine' r_var ?h ?k); (case h => exact rfl))
  | (with_reducible refine r_c ?_)
  | (with_reducible refine r_op ?_)
  | (with_reducible refine r_un ?_)
  | (with_reducible refine r_seq ?_)
  | (with_reducible refine r_next ?_)
  | (with_reducible refine r_sets ?_)
  | (with_reducible refine r_gname ?_)
  | (with_reducible refine r_ifS ?_)
  | (with_reducible refine r_gsub ?_)
  | (with_reducible refine r_test ?_)
  | (with_reducible refine r_tb ?_)
  | (with_reducible refine r_not ?_)
  | (with_reducible refine r_and ?_)
  | (with_reducible refine r_or ?_)
  | (with_reducible refine r_andV ?_)
  | (with_reducible refine r_orV ?_)
  | (with_reducible refine r_notV ?_)
  | (with_reducible refine r_ifE ?_)
  | (with_reducible refine r_chain ?_)
  | (with_reducible refine r_cb ?_)
  | (with_reducible refine r_cons ?_)
  | (with_reducible refine r_nil ?_)
  | (with_reducible refine r_call ?_)
  | (with_reducible refine r_lst ?_)
  | (with_reducible refine r_tup ?_)
  | (with_reducible refine r_slice ?_)
  | (with_reducible refine r_nop ?_)
  | (with_reducible refine r_part ?_)
  | (with_reducible refine r_bm ?_)
  | (with_reducible refine r_m1 ?_)
  | (with_reducible refine r_m0 ?_)
  | (with_reducible refine r_is ?_)
  | (with_reducible refine r_maxD ?_)
  | (with_reducible refine r_orT ?_)
  | (with_reducible refine r_truN ?_)
  | (with_reducible refine r_intI ?_)
  | (with_reducible refine r_intB ?_)
  | (with_reducible refine r_max2 ?_)
  | (with_reducible refine r_min2 ?_)
  | (with_reducible refine r_yes ?_)
  | (with_reducible refine r_bl ?_)
  | (with_reducible refine iteT ?_)
  | (with_reducible refine iteF ?_)
  | (with_reducible refine r_iteNT ?_)
  | (with_reducible refine r_iteNF ?_)
  | (with_reducible refine r_minL ?_)
  | (with_reducible refine r_gcons ?_)
  | (with_reducible refine r_gnil ?_)
  | (with_reducible refine r_par ?_)
  | (with_reducible refine r_par3 ?_)
  | (with_reducible refine r_is2 ?_)
  | (with_reducible refine r_is3 ?_)
  | (with_reducible refine r_dget ?_)
  | (with_reducible refine r_callS ?_)
  | (with_reducible refine r_rz ?_)
  | (with_reducible refine r_rev ?_)
  | (with_reducible refine r_isI ?_)
  | (with_reducible refine r_isStr ?_)
  | (with_reducible refine r_ret ?_)
  | (with_reducible refine r_drop ?_)
  | (with_reducible refine r_rI0 ?_)
  | (with_reducible refine r_addI ?_)
  | ((with_reducible show rI (fun _ j => 0 < j) _ (.int _) (.int _) _ _); refine r_rI (by first | omega | decide) ?_)
  | ((with_reducible show rI CDiv _ (.int _) (.int _) _ _); refine r_rI (by constructor <;> omega) ?_)
  | ((with_reducible show rI CPow _ (.int _) (.int _) _ _); refine r_rI (by refine ⟨by decide, by decide, ?_⟩; omega) ?_)
  | ((with_reducible show rMul (.int _) (.int _) _ _); refine r_mulI (cmulW (by omega) (by omega)) ?_)
  | (with_reducible refine r_cmpI ?_)
  | (with_reducible refine r_cmpS ?_)
  | (with_reducible refine r_eqI ?_)
  | (with_reducible refine r_neI ?_)
  | (with_reducible refine r_eqS ?_)
  | (with_reducible refine r_neS ?_)
  | (with_reducible refine r_inSF ?_)
  | (with_reducible refine r_inST ?_)
  | (with_reducible refine r_isiStr ?_)
  | ((with_reducible show rIx _ (.ref _) (.int _) _ _); refine' r_ixL (SqL.of ?h) ?e ?_; (case h => walk_at "hp"); (case e => rfl))
  | ((with_reducible show rSetL (.ref _) (.int _) _ _ _); refine' r_setL ?h ?e ?_; (case h => walk_at "hp"); (case e => rfl)))
local macro_rules | `(tactic| walk_at "g") => `(tactic| repeat walk_at "s")
local macro_rules | `(tactic| walk_at "x") => `(tactic| first | omega | decide +kernel | (simp only [List.length_cons, List.length_nil]; omega))
local macro_rules | `(tactic| walk_at "T1") => `(tactic| (first
  | walk_at "s"
  | ((with_reducible show rIx _ (.ref _) (.int _) _ _); refine' r_ixTu (SqT.of ?h) ?e ?_; (case h => first | assumption | walk_at "hp"); (case e => rfl))
  | (with_reducible refine r_lenSet ?_)
  | (with_reducible refine r_asg2 ?_)
  | (with_reducible refine iteDT (by walk_at "x") ?_)
  | (with_reducible refine iteDF (by walk_at "x") ?_)
  | (with_reducible refine iteNT (by walk_at "x") ?_)
  | (with_reducible refine iteNF (by walk_at "x") ?_)))
local macro_rules | `(tactic| walk_at "T") => `(tactic| repeat (first
  | walk_at "s"
  | ((with_reducible show rIx _ (.ref _) (.int _) _ _); refine' r_ixTu (SqT.of ?h) ?e ?_; (case h => first | assumption | walk_at "hp"); (case e => rfl))
  | (with_reducible refine r_lenSet ?_)
  | (with_reducible refine r_asg2 ?_)
  | (with_reducible refine iteDT (by walk_at "x") ?_)
  | (with_reducible refine iteDF (by walk_at "x") ?_)
  | (with_reducible refine iteNT (by walk_at "x") ?_)
  | (with_reducible refine iteNF (by walk_at "x") ?_)))
local macro_rules | `(tactic| walk_at "g") => `(tactic| repeat (first | walk_at "T1" | (with_reducible refine r_fld ?_) | (with_reducible refine r_sfl ?_) | (with_reducible refine r_ifT ?_) | (with_reducible refine r_nn ?_)))
section
variable {P : Program} {w : World} {K : PySem.W.Frag} {mg : Str → Option Value} {base : Heap}
theorem ok_take {f : Addr} {fd : FuncData} (F : Fun K "_law_take" "_law_take" s_law_take f fd) : FnOk P w K mg base CX0 1 f fd P_law_take spTake := by
  refine F.ok sc_law_take (fun vs H Q E h => ?_) (fun cdv A outer s H vs Q E hr h => ?_)
  · obtain ⟨b, m, n, rfl, _⟩ := h
    rfl
  · obtain ⟨b, m, n, rfl, ⟨x, y, z, hb, x0, y0, y1, z0, z1⟩, hn, m0, m1, k⟩ := h
    refine ⟨_, (pss_cons (ps_if (pt_cmpR op_gtA (pe_ix (ix_seq : IxR _ (rIx K)) (pv 0) pe_int (fun _ _ => rfl)) pe_int (nomark _)) (pss_cons (ps_set (i := 2) sc_law_take.nd rfl (Or.inl rfl) (pe_op L2.op_mod (pe_ix (ix_seq : IxR _ (rIx K)) (pv 0) pe_int (fun _ _ => rfl)) (pv 1))) (pss_cons (ps_asg (pe_op L2.op_fdiv (pe_ix (ix_seq : IxR _ (rIx K)) (pv 0) pe_int (fun _ _ => rfl)) (pv 1)) (pg_sub (pv 0) pe_int set_list)) (pss_one (ps_ret (pv 2))))) pss_nil) (pss_cons (ps_asg (pe_op (oAdd : OpR _ _ (J.rAdd K)) (pe_ix (ix_seq : IxR _ (rIx K)) (pv 0) pe_int (fun _ _ => rfl)) pe_int) (pg_sub (pv 0) pe_int set_list)) (pss_cons (ps_set (i := 3) sc_law_take.nd rfl (Or.inl rfl) (pe_op L2.op_mod (pe_op L2.op_pow (pe_op (oAdd : OpR _ _ (J.rAdd K)) (pe_op (oAdd : OpR _ _ (J.rAdd K)) (pe_ix (ix_seq : IxR _ (rIx K)) (pv 0) pe_int (fun _ _ => rfl)) (pe_op oMul pe_int (pe_ix (ix_seq : IxR _ (rIx K)) (pv 0) pe_int (fun _ _ => rfl)))) pe_int) pe_int) pe_int)) (pss_cons (ps_set (i := 3) sc_law_take.nd rfl (Or.inl rfl) (pe_op L2.op_mod (pe_op L2.op_pow (pe_op (oAdd : OpR _ _ (J.rAdd K)) (pe_op L2.op_fdiv (pv 3) pe_int) (pe_op oMul pe_int (pe_ix (ix_seq : IxR _ (rIx K)) (pv 0) pe_int (fun _ _ => rfl)))) pe_int) pe_int)) (pss_one (ps_ret (pe_op L2.op_mod (pe_op L2.op_fdiv (pv 3) pe_int) (pv 1)))))))), ?_⟩
    walk_at "g"
    refine r_iteD (fun c => ?_) fun c => ?_
    · walk_at "g"
      exact k _ _ (Int.emod_nonneg _ (by omega)) (Int.emod_lt_of_pos _ (by omega)) (Keep.upd _ _ _) ⟨x / m, y, z, upd_same, Int.ediv_nonneg x0 (by omega), y0, y1, z0, by omega⟩
    · walk_at "g"
      have u0 := Int.emod_nonneg ((y + 130363 * (z + 1) + 439) ^ Int.toNat 5) (b := 2147483647) (by decide)
      have u1 := Int.emod_lt_of_pos ((y + 130363 * (z + 1) + 439) ^ Int.toNat 5) (b := 2147483647) (by decide)
      generalize (y + 130363 * (z + 1) + 439) ^ Int.toNat 5 % 2147483647 = u at u0 u1 ⊢
      walk_at "g"
      exact k _ _ (Int.emod_nonneg _ (by omega)) (Int.emod_lt_of_pos _ (by omega)) (Keep.upd _ _ _) ⟨x, y, z + 1, upd_same, x0, y0, y1, by omega, by omega⟩
theorem ok_box (T : Tx K mg) {f : Addr} {fd : FuncData} (F : Fun K "_law_box" "_law_box" s_law_box f fd) : FnOk P w K mg base CX0 1 f fd P_law_box spBox := by
  refine F.ok sc_law_box (fun vs H Q E h => ?_) (fun cdv A outer s H vs Q E hr h => ?_)
  · obtain ⟨c, rfl, _⟩ := h
    rfl
  · obtain ⟨c, rfl, k⟩ := h
    refine ⟨_, (pss_one (ps_ret (pe_lst (pa_cons (pe_callB (call_maxA rfl) (by rfl) T.z_max (by decide +kernel) (pa_cons pe_int (pa_cons (pe_op L2.op_sub (pv 0) (pe_op L2.op_pow pe_int pe_int)) pa_nil))) (pa_cons (pe_op L2.op_mod (pv 0) pe_int) (pa_cons pe_int pa_nil)))))), ?_⟩
    walk_at "g"
    refine ⟨show 3 ≤ sizeLine by decide, fun p hp => k p _ hp ((Same.refl H).at hp _) ⟨_, _, _, upd_same, ?_, Int.emod_nonneg _ (by decide), Int.emod_lt_of_pos _ (by decide), Int.le_refl _, Int.le_refl _⟩⟩
    split <;> omega
theorem ok_cell (T : Tx K mg) {f : Addr} {fd : FuncData} (F : Fun K "_law_cell" "_law_cell" s_law_cell f fd) : FnOk P w K mg base CX0 1 f fd P_law_cell (_root_.J.spCell K) := by
  refine F.ok sc_law_cell (fun vs H Q E h => ?_) (fun cdv A outer s H vs Q E hr h => ?_)
  · obtain ⟨a, ns, i, rfl, _⟩ := h
    rfl
  · obtain ⟨a, ns, i, rfl, ha, hi, k⟩ := h
    refine ⟨_, (pss_cons (ps_if (pt_cmpR op_ltA (pv 1) (pe_callB (call_lenA : CallR _ _ (J.rLen K)) (by rfl) T.z_len (by decide +kernel) (pa_cons (pv 0) pa_nil)) (nomark _)) (pss_one (ps_ret (pe_ix (ix_seq : IxR _ (rIx K)) (pv 0) (pv 1) (fun _ _ => rfl)))) pss_nil) (pss_one (ps_ret (pe_op (oAdd : OpR _ _ (J.rAdd K)) (pe_op oMul pe_int (pv 1)) pe_int)))), ?_⟩
    walk_at "g"
    refine r_lenL ha ?_
    walk_at "g"
    rw [List.length_map]
    refine r_iteD (fun c => ?_) fun c => ?_
    · walk_at "g"
      have li : i < ns.length := by omega
      refine r_ixL ha (v := .int ns[i]) ?_ (k _)
      rw [atI_nat]
      rw [List.getElem?_map, List.getElem?_eq_getElem li]; rfl
    · walk_at "g"
      exact k _
theorem ok_names (T : Tx K mg) {f f_law_take : Addr} {fd fd_law_take : FuncData} (F : Fun K "_law_names" "_law_names" s_law_names f fd)
    (D_law_take : DAt K mg "_law_take" s_law_take P_law_take f_law_take fd_law_take) : FnOk P w K mg base CX0 2 f fd P_law_names spNamesL := by
  have G_law_take : FnOk P w K mg base CX0 1 f_law_take fd_law_take P_law_take spTake := ok_take D_law_take.fn
  refine F.ok sc_law_names (fun vs H Q E h => ?_) (fun cdv A outer s H vs Q E hr h => ?_)
  · obtain ⟨b, sz, n, rfl, _⟩ := h
    rfl
  · obtain ⟨b, sz, n, rfl, hsz, hb, hn, k⟩ := h
    refine ⟨_, (pss_cons (ps_set (i := 3) sc_law_names.nd rfl (Or.inr rfl) pe_str) (pss_cons (ps_set (i := 5) sc_law_names.nd rfl (Or.inl rfl) (asJoin (K := K) rfl (pe_join pe_str (pe_lc (own := [("_law_k", 4)]) (g := (gName 4)) rfl sc_law_names.nd (pi_range1 rfl T.z_range (pa_cons pe_int pa_nil)) (blkOk_by (N := N_law_names) (sc := defScope s_law_names) (by decide +kernel)) (fun _ _ _ _ _ => (pg_name (i := 4) sc_law_names.nd rfl (Or.inl rfl))) (fun _ _ _ _ _ => pts_nil) (fun _ _ _ _ _ => (pe_ix (ix_seq : IxR _ (rIx K)) (pv 3) (pe_call G_law_take (hr.mono (by decide)) rfl D_law_take.gl D_law_take.fn.kp D_law_take.bd .nil pass0 (pa_cons (pv 0) (pa_cons pe_int pa_nil))) (fun _ _ => rfl))))))) (pss_cons (ps_par (i := 6) (j := 7) rfl sc_law_names.nd rfl rfl (by decide) rfl rfl (pa_cons (pe_call G_law_take (hr.mono (by decide)) rfl D_law_take.gl D_law_take.fn.kp D_law_take.bd .nil pass0 (pa_cons (pv 0) (pa_cons pe_int pa_nil))) (pa_cons (pe_call G_law_take (hr.mono (by decide)) rfl D_law_take.gl D_law_take.fn.kp D_law_take.bd .nil pass0 (pa_cons (pv 0) (pa_cons pe_int pa_nil))) pa_nil)) rfl) (pss_cons (ps_set (i := 8) sc_law_names.nd rfl (Or.inl rfl) (pe_lst pa_nil)) (pss_cons (ps_for (PassesOwn.never) rfl (pi_range1 rfl T.z_range (pa_cons (pv 1) pa_nil)) (pg_name (i := 4) sc_law_names.nd rfl (Or.inl rfl)) (pss_cons (ps_set (i := 9) sc_law_names.nd rfl (Or.inl rfl) (pe_ix (ix_seq : IxR _ (rIx K)) (pv 3) (pe_op L2.op_mod (pe_op (oAdd : OpR _ _ (J.rAdd K)) (pv 6) (pe_op oMul pe_int (pv 4))) pe_int) (fun _ _ => rfl))) (pss_one (ps_if (pt_cmpR ((op_eqA hr.units) : OpR _ _ (rEqA K)) (pv 7) pe_int (nomark _)) (pss_one (ps_expr (asBM (K := K) rfl (pe_bm PySem.F.plainAttrs_list PySem.F.slot_list_append PySem.F.type_list_append mt_append (pv 8) (pa_cons (pe_op (oAdd : OpR _ _ (J.rAdd K)) (pe_slice (sl_any : SlR _ (rSl K)) (pv 5) po_none (po_some (pe_op (oAdd : OpR _ _ (J.rAdd K)) (pv 2) (pe_op L2.op_mod (pv 4) (pe_op L2.op_sub pe_int (pv 2)))))) (pe_op oMul (pv 9) (pe_callTy call_intA (by rfl) T.z_int (by decide +kernel) (pa_cons (pe_cmpR op_gtA (pv 4) pe_int (nomark _)) pa_nil)))) pa_nil))))) (pss_one (ps_if (pt_cmpR ((op_eqA hr.units) : OpR _ _ (rEqA K)) (pv 7) pe_int (nomark _)) (pss_one (ps_expr (asBM (K := K) rfl (pe_bm PySem.F.plainAttrs_list PySem.F.slot_list_append PySem.F.type_list_append mt_append (pv 8) (pa_cons (pe_op (oAdd : OpR _ _ (J.rAdd K)) (pe_op oMul (pv 9) (pe_op L2.op_sub (pv 2) pe_int)) (pe_slice (sl_any : SlR _ (rSl K)) (pv 5) po_none (po_some (pe_op (oAdd : OpR _ _ (J.rAdd K)) pe_int (pe_op L2.op_mod (pv 4) pe_int))))) pa_nil))))) (pss_one (ps_expr (asBM (K := K) rfl (pe_bm PySem.F.plainAttrs_list PySem.F.slot_list_append PySem.F.type_list_append mt_append (pv 8) (pa_cons (pe_op (oAdd : OpR _ _ (J.rAdd K)) (pe_slice (sl_any : SlR _ (rSl K)) (pv 5) po_none (po_some (pe_op (oAdd : OpR _ _ (J.rAdd K)) (pe_op L2.op_sub (pv 2) pe_int) (pe_call G_law_take (hr.mono (by decide)) rfl D_law_take.gl D_law_take.fn.kp D_law_take.bd .nil pass0 (pa_cons (pv 0) (pa_cons pe_int pa_nil)))))) (pv 9)) pa_nil))))))))))) (pss_cons (ps_set (i := 10) sc_law_names.nd rfl (Or.inl rfl) (pe_lst pa_nil)) (pss_cons (ps_for (PassesOwn.never) rfl (asEnum (K := K) rfl (pi_enum rfl T.z_enumerate (pa_cons (pv 8) pa_nil))) (asGTup (K := K) rfl (pg_tup rfl (pgs_cons (pg_name (i := 4) sc_law_names.nd rfl (Or.inl rfl)) (pgs_cons (pg_name (i := 11) sc_law_names.nd rfl (Or.inl rfl)) pgs_nil)))) (pss_cons (ps_set (i := 12) sc_law_names.nd rfl (Or.inl rfl) (pe_op (oAdd : OpR _ _ (J.rAdd K)) (pe_op (oAdd : OpR _ _ (J.rAdd K)) (pe_op (oAdd : OpR _ _ (J.rAdd K)) (pe_ix (ix_seq : IxR _ (rIx K)) (pv 3) (pv 4) (fun _ _ => rfl)) pe_str) (pe_ix (ix_seq : IxR _ (rIx K)) (pv 3) (pe_op L2.op_mod (pe_op (oAdd : OpR _ _ (J.rAdd K)) (pv 6) (pv 4)) pe_int) (fun _ _ => rfl))) (pv 5))) (pss_one (ps_expr (asBM (K := K) rfl (pe_bm PySem.F.plainAttrs_list PySem.F.slot_list_append PySem.F.type_list_append mt_append (pv 10) (pa_cons (pe_ifExp (pt_cmpR (op_notInA : OpR _ _ (rInA K true)) (pv 11) (pv 10) (by rfl)) (pv 11) (pe_slice (sl_any : SlR _ (rSl K)) (pv 12) po_none (po_some pe_int))) pa_nil))))))) (pss_one (ps_ret (pv 10)))))))))), ?_⟩
    walk_at "g"
    refine r_lcRG ?_
    walk_at "g"
    refine ⟨7, rfl, by decide, by decide, fun D hD => ?_⟩
    refine comp_draw hD hb (show 7 < sizeLine by decide) (fun c => 97 ≤ c ∧ c ≤ 122) (fun j H2 N hj kp2 hb2 hN => ?_) fun st H1 hst hsc kp1 hb1 hd => ?_
    · walk_at "g"
      refine ⟨rfl, ?_⟩
      walk_at "g"
      refine ⟨b, _, n + j, rfl, hb2, by omega, by omega, by omega, fun u H3 u0 u1 kp3 hb3 => ?_⟩
      obtain ⟨v, rfl, hv⟩ : ∃ v : Nat, u = v ∧ v < 26 := ⟨u.toNat, by omega, by omega⟩
      refine r_ixS (by rw [let_len]; decide) (c := 97 + v) (by rw [atI_nat]; exact let_at v hv) ?_
      exact hN _ _ ⟨by omega, by omega⟩ kp3 hb3
    · refine r_joinC hd (by omega) ?_
      have hst : st.length = 7 := hst
      walk_at "g"
      refine ⟨b, _, _, rfl, hb1, by omega, by omega, by omega, fun fi H2 f0 f1 kp2 hb2 => ?_⟩
      walk_at "g"
      refine ⟨b, _, _, rfl, hb2, by omega, by omega, by omega, fun wy H3 w0 w1 kp3 hb3 => ?_⟩
      have kp03 := (kp1.trans kp2).trans kp3
      walk_at "g"
      refine ⟨show 0 ≤ sizeLine by decide, fun fa hfa => ?_⟩
      have kp4 := kp03.at (kp03.free (hb3.ne hfa) hfa) (.lst [])
      have hb4 := hb3.at (hb3.ne hfa) (.lst [])
      have e4 : upd H3 fa (.lst []) fa = some (.lst []) := upd_same
      have fab : fa ≠ b := hb3.ne hfa
      have hfa0 : H fa = none := kp03.free fab hfa
      generalize upd H3 fa (.lst []) = H4 at kp4 hb4 e4 ⊢
      walk_at "g"
      refine r_for ?_
      refine r_irng1 ?_
      walk_at "g"
      refine ⟨6, rfl, by decide, by decide, ?_⟩
      refine loop_rng (q := 6) (fun i σ' H' => ∃ (o4 o9 o10 o11 o12 : Option V) (fs : List (List Nat)), σ' = [some (.ref b), some (.int 6), some (.int (sz : Nat)), some (.str "abcdefghijklmnopqrstuvwxyz"), o4, some (.str (S st)), some (.int fi), some (.int wy), some (.ref fa), o9, o10, o11, o12] ∧ Keep b H H' ∧ Bx H' b (n + 9 + i) ∧ H' fa = some (.lst (fs.map fun m => V.str (S m))) ∧ fs.length = i ∧ ∀ m ∈ fs, Drawn sz m) ⟨_, _, _, _, _, [], rfl, kp4, hb4.mono (by omega), e4, rfl, fun _ h => nomatch h⟩ (fun i σ5 H5 hi w => ?_) fun σ5 H5 w => ?_
      · obtain ⟨o4, o9, o10, o11, o12, fs, rfl, kp5, hb5, e5, l5, d5⟩ := w
        walk_at "g"
        obtain ⟨v, hv1, hv⟩ : ∃ v : Nat, (fi + 7 * (i : Int)) % 26 = v ∧ v < 26 := ⟨((fi + 7 * (i : Int)) % 26).toNat, by omega, by omega⟩
        rw [hv1]
        refine r_ixS (by rw [let_len]; decide) (c := 97 + v) (by rw [atI_nat]; exact let_at v hv) ?_
        walk_at "g"
        have fin : ∀ (z : Str) (H6 : Hp), Drawn sz (cd z) → Keep b H H6 → Bx H6 b (n + 9 + (i + 1)) → H6 fa = some (.lst (fs.map fun m => V.str (S m))) → Keep b H (upd H6 fa (.lst ((fs.map fun m => V.str (S m)) ++ [.str z]))) ∧ Bx (upd H6 fa (.lst ((fs.map fun m => V.str (S m)) ++ [.str z]))) b (n + 9 + (i + 1)) ∧ (upd H6 fa (.lst ((fs.map fun m => V.str (S m)) ++ [.str z]))) fa = some (.lst ((fs ++ [cd z]).map fun m => V.str (S m))) ∧ (fs ++ [cd z]).length = i + 1 ∧ ∀ m ∈ fs ++ [cd z], Drawn sz m := fun z H6 hz kp6 hb6 e6 => by
          refine ⟨kp6.at hfa0 _, hb6.at fab _, ?_, by rw [List.length_append, l5]; rfl, fun m hm => ?_⟩
          · rw [upd_same, List.map_append]
            show some (HO.lst (_ ++ [V.str z])) = some (HO.lst (_ ++ [V.str (S (cd z))]))
            rw [show S (cd z) = z from S_of z]
          · rcases List.mem_append.mp hm with h | h
            · exact d5 m h
            · rw [List.mem_singleton.mp h]; exact hz
        have lfs : (fs.map fun m => V.str (S m)).length < sizeLine := by
          rw [List.length_map]
          exact Nat.lt_of_le_of_lt (show _ ≤ 6 by omega) (by decide)
        have im : ∀ q : Int, 5 < q → (i : Int) % q = (i : Int) := fun q hq => Int.emod_eq_of_lt (by omega) (by omega)
        have tk : ∀ q, ∀ c ∈ st.take q, 97 ≤ c ∧ c ≤ 122 := fun q c hc => hsc c (List.mem_of_mem_take hc)
        have cs : cd (⟨#[97 + v]⟩ : Str) = [97 + v] := cd_one _
        have sl : (⟨#[97 + v]⟩ : Str).length = 1 := rfl
        refine r_iteD (fun c => ?_) fun c => ?_
        · walk_at "g"
          refine r_tyL e5 ?_
          walk_at "g"
          rw [im _ (by omega)]
          refine r_slS (by rw [S_len, hst]; decide) ?_
          rw [show ((sz : Nat) : Int) + (i : Int) = ((sz + i : Nat) : Int) by omega, cutS_take, cd_S]
          walk_at "g"
          rw [show (if decide ((i : Int) > 5) = true then (1 : Int) else 0) = ((0 : Nat) : Int) by rw [decide_eq_false (by omega)]; rfl]
          refine r_mulS (mul_ok (by rw [sl]; decide) (by decide)) ?_
          have dr : Drawn sz (cd (S (st.take (sz + i)) ++ Txt.mul ⟨#[97 + v]⟩ ((0 : Nat) : Int))) := by
            rw [cd_app, cd_S, mul_cd, cs, List.replicate_zero, List.flatten_nil, List.append_nil]
            exact ⟨by rw [List.length_take]; omega, by rw [List.length_take]; omega, tk _⟩
          refine r_addS (le_line (show _ ≤ 16777216 by rw [S_len, len_cd, mul_cd, cs, List.length_take]; simp; omega)) ?_
          walk_at "g"
          refine r_app e5 lfs ?_
          walk_at "g"
          exact ⟨_, _, _, _, _, _, rfl, fin _ H5 dr kp5 (hb5.mono (by omega)) e5⟩
        · walk_at "g"
          refine r_iteD (fun c2 => ?_) fun c2 => ?_
          · walk_at "g"
            refine r_tyL e5 ?_
            walk_at "g"
            rw [show ((sz : Nat) : Int) - 1 = ((sz - 1 : Nat) : Int) by omega]
            refine r_mulS (mul_ok (by rw [sl]; decide) (by omega)) ?_
            walk_at "g"
            rw [im _ (by decide)]
            refine r_slS (by rw [S_len, hst]; decide) ?_
            rw [show (1 : Int) + (i : Int) = ((1 + i : Nat) : Int) by omega, cutS_take, cd_S]
            have rp : cd (Txt.mul (⟨#[97 + v]⟩ : Str) ((sz - 1 : Nat) : Int)) = List.replicate (sz - 1) (97 + v) := by
              rw [mul_cd, cs]
              rcases hsz with rfl | rfl <;> rfl
            have dr : Drawn sz (cd (Txt.mul ⟨#[97 + v]⟩ ((sz - 1 : Nat) : Int) ++ S (st.take (1 + i)))) := by
              rw [cd_app, cd_S, rp]
              refine ⟨by rw [List.length_append, List.length_replicate, List.length_take]; omega, by rw [List.length_append, List.length_replicate, List.length_take]; omega, fun c hc => ?_⟩
              rcases List.mem_append.mp hc with h | h
              · have := List.eq_of_mem_replicate h; omega
              · exact tk _ c h
            refine r_addS (le_line (show _ ≤ 16777216 by rw [S_len, len_cd, rp, List.length_replicate, List.length_take]; omega)) ?_
            walk_at "g"
            refine r_app e5 lfs ?_
            walk_at "g"
            exact ⟨_, _, _, _, _, _, rfl, fin _ H5 dr kp5 (hb5.mono (by omega)) e5⟩
          · walk_at "g"
            refine r_tyL e5 ?_
            walk_at "g"
            refine ⟨b, _, _, rfl, hb5, by omega, by omega, by omega, fun u H6 u0 u1 kp6 hb6 => ?_⟩
            obtain ⟨w2, rfl, hw2⟩ : ∃ w2 : Nat, u = w2 ∧ w2 < 2 := ⟨u.toNat, by omega, by omega⟩
            have e6 := kp6 _ _ e5 fab
            walk_at "g"
            refine r_slS (by rw [S_len, hst]; decide) ?_
            rw [show ((sz : Nat) : Int) - 1 + (w2 : Int) = ((sz - 1 + w2 : Nat) : Int) by omega, cutS_take, cd_S]
            walk_at "g"
            have dr : Drawn sz (cd (S (st.take (sz - 1 + w2)) ++ (⟨#[97 + v]⟩ : Str))) := by
              rw [cd_app, cd_S, cs]
              refine ⟨by rw [List.length_append, List.length_take]; simp; omega, by rw [List.length_append, List.length_take]; simp; omega, fun c hc => ?_⟩
              rcases List.mem_append.mp hc with h | h
              · exact tk _ c h
              · have := List.mem_singleton.mp h; omega
            refine r_addS (le_line (show _ ≤ 16777216 by rw [S_len, sl, List.length_take]; omega)) ?_
            walk_at "g"
            refine r_app e6 lfs ?_
            walk_at "g"
            exact ⟨_, _, _, _, _, _, rfl, fin _ H6 dr (kp5.trans kp6) (hb6.mono (by omega)) e6⟩
      · obtain ⟨o4, o9, o10, o11, o12, fs, rfl, kp5, hb5, e5, l5, d5⟩ := w
        walk_at "g"
        refine ⟨show 0 ≤ sizeLine by decide, fun sa hsa => ?_⟩
        have sab : sa ≠ b := hb5.ne hsa
        have saf : sa ≠ fa := fun e => by subst e; exact nomatch hsa.symm.trans e5
        have hsa0 : H sa = none := kp5.free sab hsa
        have kp6 := kp5.at hsa0 (.lst [])
        have hb6 := hb5.at sab (.lst [])
        have e6 : upd H5 sa (.lst []) sa = some (.lst []) := upd_same
        have f6 : upd H5 sa (.lst []) fa = some (.lst (fs.map fun m => V.str (S m))) := by rw [upd_ne (Ne.symm saf)]; exact e5
        generalize upd H5 sa (.lst []) = H6 at kp6 hb6 e6 f6 ⊢
        walk_at "g"
        refine r_forEnumL (K := K) (a := fa) (xs := fs.map fun m => V.str (S m)) rfl (fun i σ' H' => ∃ (o4 o11 o12 : Option V) (ss : List (List Nat)), σ' = [some (.ref b), some (.int 6), some (.int (sz : Nat)), some (.str "abcdefghijklmnopqrstuvwxyz"), o4, some (.str (S st)), some (.int fi), some (.int wy), some (.ref fa), o9, some (.ref sa), o11, o12] ∧ Keep b H H' ∧ Bx H' b (n + 40) ∧ H' fa = some (.lst (fs.map fun m => V.str (S m))) ∧ H' sa = some (.lst (ss.map fun m => V.str (S m))) ∧ ss.length = i ∧ ss.Nodup ∧ ∀ (j : Nat) (m : List Nat), ss[j]? = some m → NameJ sz j m) (fun j σ1 H1 w => by obtain ⟨_, _, _, _, _, _, _, h, _⟩ := w; exact SqL.of h) ⟨_, _, _, [], rfl, kp6, hb6.mono (by omega), f6, e6, rfl, List.nodup_nil, fun _ _ h => nomatch h⟩ (fun j σ7 H7 T x hx w hT => ?_) fun σ7 H7 w => ?_
        · obtain ⟨o4, o11, o12, ss, rfl, kp7, hb7, f7, e7, l7, nd7, n7⟩ := w
          rw [List.getElem?_map] at hx
          obtain ⟨m, em, rfl⟩ := Option.map_eq_some_iff.mp hx
          have j6 : j < 6 := by have := (List.getElem?_eq_some_iff.mp em).1; omega
          have Tb := hb7.ne hT
          have kp8 := kp7.at (kp7.free Tb hT) (.tup [.int (j : Nat), .str (S m)])
          have hb8 := hb7.at Tb (.tup [.int (j : Nat), .str (S m)])
          have t8 : upd H7 T (.tup [.int (j : Nat), .str (S m)]) T = some (.tup [.int (j : Nat), .str (S m)]) := upd_same
          have f8 := ((Same.refl H7).at hT (.tup [.int (j : Nat), .str (S m)])) _ _ f7
          have e8 := ((Same.refl H7).at hT (.tup [.int (j : Nat), .str (S m)])) _ _ e7
          generalize upd H7 T (.tup [.int (j : Nat), .str (S m)]) = H8 at kp8 hb8 t8 f8 e8 ⊢
          refine r_gtup (SqT.of t8) rfl ?_
          walk_at "g"
          refine r_ixS (by rw [let_len]; decide) (c := 97 + j) (by rw [atI_nat]; exact let_at j (by omega)) ?_
          walk_at "g"
          refine r_addS (le_line (show 1 + 1 ≤ 16777216 by decide)) ?_
          walk_at "g"
          obtain ⟨v, hv1, hv⟩ : ∃ v : Nat, (fi + (j : Int)) % 26 = v ∧ v < 26 := ⟨((fi + (j : Int)) % 26).toNat, by omega, by omega⟩
          rw [hv1]
          refine r_ixS (by rw [let_len]; decide) (c := 97 + v) (by rw [atI_nat]; exact let_at v hv) ?_
          refine r_addS (le_line (show 2 + 1 ≤ 16777216 by decide)) ?_
          walk_at "g"
          have co : cd ((⟨#[97 + j]⟩ ++ "q" : Str) ++ (⟨#[97 + v]⟩ : Str) ++ S st) = [97 + j, 113, 97 + v] ++ st := by
            rw [cd_app, cd_app, cd_app, cd_S]; rfl
          refine r_addS (le_line (show _ ≤ 16777216 by rw [S_len, hst]; exact (show 3 + 7 ≤ 16777216 by decide))) ?_
          generalize ((⟨#[97 + j]⟩ ++ "q" : Str) ++ (⟨#[97 + v]⟩ : Str) ++ S st) = oth at co ⊢
          walk_at "g"
          refine r_tyL e8 ?_
          walk_at "g"
          have sm : (ss.map fun m => V.str (S m)) = (ss.map S).map V.str := by rw [List.map_map]; rfl
          refine r_ninTx (ws := ss.map S) (.inl (SqL.of (by rw [← sm]; exact e8))) ?_
          have lss : (ss.map fun m => V.str (S m)).length < sizeLine := by
            rw [List.length_map]
            exact Nat.lt_of_le_of_lt (show _ ≤ 6 by omega) (by decide)
          have fin : ∀ l : List Nat, l ∉ ss → NameJ sz j l → Keep b H (upd H8 sa (.lst ((ss.map fun m => V.str (S m)) ++ [.str (S l)]))) ∧ Bx (upd H8 sa (.lst ((ss.map fun m => V.str (S m)) ++ [.str (S l)]))) b (n + 40) ∧ (upd H8 sa (.lst ((ss.map fun m => V.str (S m)) ++ [.str (S l)]))) fa = some (.lst (fs.map fun m => V.str (S m))) ∧ (upd H8 sa (.lst ((ss.map fun m => V.str (S m)) ++ [.str (S l)]))) sa = some (.lst ((ss ++ [l]).map fun m => V.str (S m))) ∧ (ss ++ [l]).length = j + 1 ∧ (ss ++ [l]).Nodup ∧ ∀ (q : Nat) (m : List Nat), (ss ++ [l])[q]? = some m → NameJ sz q m := fun l hl hj => by
            refine ⟨kp8.at hsa0 _, hb8.at sab _, by rw [upd_ne (Ne.symm saf)]; exact f8, by rw [upd_same, List.map_append]; rfl, by rw [List.length_append, l7]; rfl, ?_, fun q m hm => ?_⟩
            · rw [List.nodup_append]
              exact ⟨nd7, List.nodup_cons.mpr ⟨List.not_mem_nil, List.nodup_nil⟩, fun a ha c hc => by rw [List.mem_singleton.mp hc]; exact fun e => hl (e ▸ ha)⟩
            · by_cases hq : q < ss.length
              · rw [List.getElem?_append_left hq] at hm
                exact n7 q m hm
              · rw [List.getElem?_append_right (by omega)] at hm
                have : q - ss.length = 0 := by
                  have := (List.getElem?_eq_some_iff.mp hm).1
                  simp at this; omega
                rw [this] at hm
                cases hm
                rw [show q = j by omega]
                exact hj
          have inS : S m ∈ ss.map S ↔ m ∈ ss := ⟨fun h => by obtain ⟨a, ha, e⟩ := List.mem_map.mp h; rw [← S_inj.mp e]; exact ha, fun h => List.mem_map_of_mem h⟩
          by_cases hin : m ∈ ss
          · rw [decide_eq_true (inS.mpr hin)]
            walk_at "g"
            refine r_slS (by rw [len_cd, co]; simp; omega) ?_
            rw [show (8 : Int) = ((8 : Nat) : Int) from rfl, cutS_take, co]
            have l8 : ([97 + j, 113, 97 + v] ++ st).take 8 = [97 + j, 113, 97 + v] ++ st.take 5 := rfl
            rw [l8]
            walk_at "g"
            refine r_app e8 lss ?_
            walk_at "g"
            refine ⟨_, _, _, _, rfl, fin _ (other_new n7 (by simp; omega) (by rw [l7]; rfl)) (.inr ⟨by simp; omega, fun c hc => ?_, rfl, rfl⟩)⟩
            rcases List.mem_append.mp hc with h | h
            · simp only [List.mem_cons, List.not_mem_nil, or_false] at h; omega
            · exact hsc c (List.mem_of_mem_take h)
          · rw [decide_eq_false (fun h => hin (inS.mp h))]
            walk_at "g"
            walk_at "g"
            refine r_app e8 lss ?_
            walk_at "g"
            exact ⟨_, _, _, _, rfl, fin _ hin (.inl (d5 m (List.mem_of_getElem? em)))⟩
        · obtain ⟨o4, o11, o12, ss, rfl, kp7, hb7, f7, e7, l7, nd7, n7⟩ := w
          rw [List.length_map, l5] at l7
          walk_at "g"
          refine k _ sa ss kp7 hb7 hsa0 e7 ⟨l7, nd7, fun m hm => ?_⟩
          obtain ⟨j, hj⟩ := List.mem_iff_getElem?.mp hm
          exact (n7 j m hj).ok (by omega) (by omega)
end
end K16
namespace J
open PySem PySem.Spec PyProof.Rows L2 M
mutual
/-- x is d, all of it tracked -/
inductive Dd (b : Addr) (H : Hp) : V → PyData → Prop where
  | non : Dd b H .non .none
  | bl (v : Bool) : Dd b H (.bl v) (.bool v)
  | int (i : Int) (h : i.natAbs ≤ 10 ^ 60) : Dd b H (.int i) (.int i)
  | str (z : Str) (h : z.length ≤ 1000) (c : ∀ c ∈ cd z, c ≤ 126) : Dd b H (.str z) (.str z)
  | lst {a : Addr} {xs : List V} {ds : List PyData} (h : H a = some (.lst xs)) (n : a ≠ b) (t : DdAll b H xs ds) : Dd b H (.ref a) (.list ds)
  | tup {a : Addr} {xs : List V} {ds : List PyData} (h : H a = some (.tup xs)) (t : DdAll b H xs ds) : Dd b H (.ref a) (.tuple ds)
  | dct {a : Addr} (h : H a = some (.dK [])) : Dd b H (.ref a) (.dict [])
inductive DdAll (b : Addr) (H : Hp) : List V → List PyData → Prop where
  | nil : DdAll b H [] []
  | cons {x : V} {xs : List V} {d : PyData} {ds : List PyData} (h : Dd b H x d) (t : DdAll b H xs ds) : DdAll b H (x :: xs) (d :: ds)
end
mutual
theorem Dd.same {b : Addr} {H H' : Hp} (s : Same H H') : ∀ {x : V} {d : PyData}, Dd b H x d → Dd b H' x d
  | _, _, .non => .non
  | _, _, .bl b => .bl b
  | _, _, .int i h => .int i h
  | _, _, .str z h c => .str z h c
  | _, _, .lst h n t => .lst (s _ _ h) n (DdAll.same s t)
  | _, _, .tup h t => .tup (s _ _ h) (DdAll.same s t)
  | _, _, .dct h => .dct (s _ _ h)
theorem DdAll.same {b : Addr} {H H' : Hp} (s : Same H H') : ∀ {xs : List V} {ds : List PyData}, DdAll b H xs ds → DdAll b H' xs ds
  | _, _, .nil => .nil
  | _, _, .cons h t => .cons (Dd.same s h) (DdAll.same s t)
end
theorem box_lst {b a : Addr} {n : Nat} {H : Hp} {o : HO} (hb : Bx H b n) (h : H a = some o) (ne : ∀ xs, o ≠ .lst xs) : a ≠ b := fun e => by
  obtain ⟨x, y, z, g, _⟩ := hb
  rw [e, g] at h
  injection h with h
  exact ne _ h.symm
mutual
theorem Dd.keep {b : Addr} {n : Nat} {H H' : Hp} (hb : Bx H b n) (s : Keep b H H') : ∀ {x : V} {d : PyData}, Dd b H x d → Dd b H' x d
  | _, _, .non => .non
  | _, _, .bl v => .bl v
  | _, _, .int i h => .int i h
  | _, _, .str z h c => .str z h c
  | _, _, .lst h ne t => .lst (s _ _ h ne) ne (DdAll.keep hb s t)
  | _, _, .tup h t => .tup (s _ _ h (box_lst hb h fun _ e => nomatch e)) (DdAll.keep hb s t)
  | _, _, .dct h => .dct (s _ _ h (box_lst hb h fun _ e => nomatch e))
theorem DdAll.keep {b : Addr} {n : Nat} {H H' : Hp} (hb : Bx H b n) (s : Keep b H H') : ∀ {xs : List V} {ds : List PyData}, DdAll b H xs ds → DdAll b H' xs ds
  | _, _, .nil => .nil
  | _, _, .cons h t => .cons (Dd.keep hb s h) (DdAll.keep hb s t)
end
theorem DdAll.of {b : Addr} {H : Hp} : ∀ {es : List (V × PyData)}, (∀ e ∈ es, Dd b H e.1 e.2) → DdAll b H (es.map Prod.fst) (es.map Prod.snd)
  | [], _ => .nil
  | e :: es, h => .cons (h e (List.mem_cons_self ..)) (DdAll.of fun x hx => h x (List.mem_cons_of_mem _ hx))
theorem DdAll.pairs {b : Addr} {H : Hp} : ∀ {xs : List V} {ds : List PyData}, DdAll b H xs ds → ∃ es : List (V × PyData), xs = es.map Prod.fst ∧ ds = es.map Prod.snd ∧ ∀ e ∈ es, Dd b H e.1 e.2
  | _, _, .nil => ⟨[], rfl, rfl, fun _ h => (List.not_mem_nil h).elim⟩
  | _, _, .cons (x := x) (d := d) h t => by
    obtain ⟨es, rfl, rfl, k⟩ := DdAll.pairs t
    refine ⟨(x, d) :: es, rfl, rfl, fun e he => ?_⟩
    rcases List.mem_cons.mp he with rfl | he
    · exact h
    · exact k e he
mutual
def wt : PyData → Nat
  | .none => 4
  | .bool _ => 5
  | .int _ => 201
  | .str z => 10 * z.length + 2
  | .list xs => wtAll xs + 3
  | .tuple xs => wtAll xs + 3
  | .dict _ => 2
def wtAll : List PyData → Nat
  | [] => 0
  | x :: xs => wt x + 2 + wtAll xs
end
mutual
theorem Dd.short {b : Addr} {H : Hp} : ∀ {x : V} {d : PyData}, Dd b H x d → d.shown.length ≤ wt d ∧ d.showable = true
  | _, _, .non => ⟨by rw [wt]; decide +kernel, rfl⟩
  | _, _, .bl v => ⟨by cases v <;> (rw [wt]; decide +kernel), rfl⟩
  | _, _, .int i h => ⟨show_i60 h, decide_eq_true (Nat.lt_trans (log60 h) (by decide))⟩
  | _, _, .str z h c => by
    refine ⟨?_, rfl⟩
    have := PySem.StrLaws.reprText_len z (fun y q => by have := c y q; exact Nat.lt_of_le_of_lt this (by decide))
    exact this
  | _, _, .lst (ds := ds) h _ t => by
    obtain ⟨a, b, c⟩ := DdAll.short t
    refine ⟨?_, c⟩
    have := listText_len_le (PyData.shownAll ds)
    rw [wt]
    show (listText (PyData.shownAll ds)).length ≤ _
    omega
  | _, _, .tup (ds := ds) h t => by
    obtain ⟨a, b, c⟩ := DdAll.short t
    refine ⟨?_, c⟩
    have := tupleText_len_le (PyData.shownAll ds)
    rw [wt]
    show (tupleText (PyData.shownAll ds)).length ≤ _
    omega
  | _, _, .dct h => ⟨by rw [wt]; decide +kernel, rfl⟩
theorem DdAll.short {b : Addr} {H : Hp} : ∀ {xs : List V} {ds : List PyData}, DdAll b H xs ds → ((PyData.shownAll ds).map (·.length)).sum + 2 * ds.length ≤ wtAll ds ∧ (PyData.shownAll ds).length = ds.length ∧ PyData.showableAll ds = true
  | _, _, .nil => ⟨Nat.le_refl _, rfl, rfl⟩
  | _, _, .cons (d := d) (ds := ds) h t => by
    obtain ⟨a, b, c⟩ := DdAll.short t
    obtain ⟨e, f⟩ := Dd.short h
    refine ⟨?_, by rw [PyData.shownAll, List.length_cons, b, List.length_cons], ?_⟩
    · rw [PyData.shownAll, List.map_cons, List.sum_cons, List.length_cons, wtAll]; omega
    · show (PyData.showable d && PyData.showableAll ds) = true
      rw [f, c]; rfl
end
theorem wt_big {d : PyData} (h : wt d ≤ 1000000) : wt d ≤ sizeLine := Nat.le_trans h (by decide)
section
variable {X : Cx} {pins : List (Addr × Obj)} {σ : L2.St} {H : Hp} {s : Shared}
/-- what can be asked for its repr where d layers stand around -/
abbrev Rp (X : Cx) (h : Heap) (u : Value) (d : PyData) : Prop := ∃ as bs, Reads h u d as ∧ ReadAtMost h d.depth bs ∧ ReprK X.prog X.w bs h d.depth u d.shown
abbrev RpAll (X : Cx) (h : Heap) (us : List Value) (ds : List PyData) : Prop := ∃ as bs, ReadsAll h us ds as ∧ ReadAtMost h (PyData.depthAll ds) bs ∧ ReprAllK X.prog X.w bs h (PyData.depthAll ds) us (PyData.shownAll ds)
theorem Rp.leaf {h : Heap} {u : Value} {d : PyData} (r : Reads h u d []) (q : ReprIs X.prog X.w u d.shown) : Rp X h u d := ⟨[], [], r, fun _ z => (List.not_mem_nil z).elim, .of_is q _ _ _⟩
theorem RpAll.cons {h : Heap} {u : Value} {us : List Value} {d : PyData} {ds : List PyData} (a : Rp X h u d) (b : RpAll X h us ds) : RpAll X h (u :: us) (d :: ds) := by
  obtain ⟨as, bs, r, m, k⟩ := a
  obtain ⟨cs, es, r', m', k'⟩ := b
  have l : d.depth ≤ PyData.depthAll (d :: ds) := Nat.le_max_left _ _
  have l' : PyData.depthAll ds ≤ PyData.depthAll (d :: ds) := Nat.le_max_right _ _
  exact ⟨as ++ cs, bs ++ es, .cons r r', (m.mono l).append (m'.mono l'), .cons ((k.more fun b hb => List.mem_append_left _ hb).level_le l) (k'.more_le (fun b hb => List.mem_append_right _ hb) l')⟩
theorem Rp.lst {h : Heap} {a : Addr} {us : List Value} {n : Nat} {ds : List PyData} (g : h.get? a = some { cls := .type "list", data := .seq us.toArray n }) (b : RpAll X h us ds) : Rp X h (.ref a) (.list ds) := by
  obtain ⟨as, bs, r, m, k⟩ := b
  have rd : Reads h (.ref a) (.list ds) (a :: as) := .list g rfl rfl (by rw [List.toList_toArray]; exact r)
  refine ⟨_, a :: bs, rd, ReadAtMost.cons rd (Nat.le_succ _) m, ?_⟩
  cases us with
  | nil =>
    cases r
    exact ReprK.listEmpty g rfl rfl
  | cons u us => exact ReprK.list g rfl rfl (not_mem_of_deeper rd (Nat.lt_succ_self _) m) (by rw [k.length_eq, List.size_toArray]) fun i y e => k.item i y (by simpa using e)
theorem Rp.tup {h : Heap} {a : Addr} {us : List Value} {ds : List PyData} (g : IsTup h a us.toArray) (b : RpAll X h us ds) : Rp X h (.ref a) (.tuple ds) := by
  obtain ⟨as, bs, r, m, k⟩ := b
  obtain ⟨o, g1, g2, n, g3⟩ := g
  have rd : Reads h (.ref a) (.tuple ds) as := .tuple g1 g2 g3 (by rw [List.toList_toArray]; exact r)
  exact ⟨_, a :: bs, rd, ReadAtMost.cons rd (Nat.le_succ _) m, ReprK.tuple g1 g2 g3 (not_mem_of_deeper rd (Nat.lt_succ_self _) m) (by rw [List.toList_toArray]; exact k)⟩
theorem empty_dict (I : Inv X pins σ H s) {a : Addr} (ha : H a = some (.dK [])) : (a == sysModules) = false ∧ ∃ o es n, s.heap.get? a = some o ∧ o.cls = .type "dict" ∧ o.data = .dict es n ∧ es.toList = [] := by
  obtain ⟨_, hsm, vs, r0, o, es, ep, g1, g2, g3, g4⟩ := (show ObjOk X.prog X.w H s.heap a (.dK []) from I.hok a _ ha)
  cases r0
  refine ⟨hsm, o, es, ep, g1, g2.1, g3, ?_⟩
  cases h : es.toList with
  | nil => rfl
  | cons y r =>
    have g5 := g4.2.1
    rw [h] at g5
    cases g5
theorem Rp.dct (I : Inv X pins σ H s) {a : Addr} (ha : H a = some (.dK [])) : Rp X s.heap (.ref a) (.dict []) := by
  obtain ⟨hsm, o, es, n, g1, g2, g3, e0⟩ := empty_dict I ha
  have rd : Reads s.heap (.ref a) (.dict []) [a] := Reads.dict (as := []) (bs := []) g1 g2 g3 (by rw [e0]; exact .nil) (by rw [e0]; exact .nil)
  exact ⟨_, _, rd, (ReprK.of_reads (prog := X.prog) (w := X.w) rd rfl (fun _ h => by
    rw [List.mem_singleton] at h
    rw [h] at hsm
    simp at hsm) (by decide +kernel)).choose_spec⟩
mutual
theorem Dd.rp {b : Addr} (I : Inv X pins σ H s) : ∀ {x : V} {d : PyData}, Dd b H x d → d.shown.length ≤ sizeLine → ∀ {u : Value}, RelV x u → Rp X s.heap u d
  | _, _, .non, _, u, r => by
    cases (show u = Value.none from r)
    exact .leaf .none ReprIs.none
  | _, _, .bl b, _, u, r => by
    cases (show u = Value.bool b from r)
    exact .leaf (.bool b) (ReprIs.bool b)
  | _, _, .int i h, _, u, r => by
    obtain ⟨t, e⟩ := (show ∃ t, u = Value.int i t from r)
    subst e
    exact .leaf (.int i t) (ReprIs.int t (Nat.lt_trans (log60 h) (by decide)))
  | _, _, .str z h c, q, u, r => by
    obtain ⟨t, e⟩ := (show ∃ t, u = Value.str z t from r)
    subst e
    exact .leaf (.str z t) (ReprIs.str z t q)
  | _, _, .lst (a := a) (xs := xs) (ds := ds) h _ t, q, u, r => by
    cases (show u = Value.ref a from r)
    obtain ⟨_, us, n, rv, g⟩ := (show ObjOk X.prog X.w H s.heap a (.lst xs) from I.hok a _ h)
    exact .lst g (DdAll.rp I t (fun z hz => Nat.le_trans (listText_mem_le hz) q) rv)
  | _, _, .tup (a := a) (xs := xs) (ds := ds) h t, q, u, r => by
    cases (show u = Value.ref a from r)
    obtain ⟨_, us, rv, g⟩ := (show ObjOk X.prog X.w H s.heap a (.tup xs) from I.hok a _ h)
    exact .tup g (DdAll.rp I t (fun z hz => Nat.le_trans (tupleText_mem_le hz) q) rv)
  | _, _, .dct (a := a) h, _, u, r => by
    cases (show u = Value.ref a from r)
    exact .dct I h
theorem DdAll.rp {b : Addr} (I : Inv X pins σ H s) : ∀ {xs : List V} {ds : List PyData}, DdAll b H xs ds → (∀ z ∈ PyData.shownAll ds, z.length ≤ sizeLine) → ∀ {us : List Value}, Vals xs us → RpAll X s.heap us ds
  | _, _, .nil, _, _, .nil => ⟨[], [], .nil, fun _ z => (List.not_mem_nil z).elim, .nil⟩
  | _, _, .cons (d := d) (ds := ds) h t, q, _, .cons r rs => .cons (Dd.rp I h (q _ (by rw [PyData.shownAll]; exact List.mem_cons_self ..)) r) (DdAll.rp I t (fun z hz => q z (by rw [PyData.shownAll]; exact List.mem_cons_of_mem _ hz)) rs)
end
def rReprD : List V → Hp → VK → Prop := fun xs H Q => ∃ (b : Addr) (x : V) (d : PyData), xs = [x] ∧ Dd b H x d ∧ wt d ≤ 1000000 ∧ d.depth ≤ 60 ∧ Q (.str d.shown) H
theorem call_reprD (hg : X.A.guards = some []) (hu : X.A.units + 64 < cLine) : CallR X (.builtin "repr") rReprD := by
  intro pins s σ H xs us Q I r h
  obtain ⟨b, x, d, ex, hd, hw, hdp, q⟩ := h
  have hz : d.shown.length ≤ sizeLine := Nat.le_trans hd.short.1 (wt_big hw)
  have hs := hd.short.2
  have fin : ∀ (h' : Heap) (u : Tok) (tk : Nat), (∀ b o, s.heap.get? b = some o → h'.get? b = some o) → EP X pins σ Q (.str d.shown u) { s with heap := h', toks := tk } := fun h' u tk hk => ⟨.str _, H, I.kept hk, ⟨_, rfl⟩, q⟩
  have easy : Dp X.K H x d → d.hasDict = false → wpAny (model X.prog X.w) X.A (call (.builtin "repr") us) (EP X pins σ Q) X.xe s := fun z n => J.call_repr hg hu pins s σ H xs us Q I r ⟨x, d, ex, z, hs, hdp, n, hz, q⟩
  subst ex
  obtain ⟨u, rfl, ru⟩ := vals1 r
  cases hd with
  | non => exact easy .non rfl
  | bl v => exact easy (.bl v) rfl
  | int i h => exact easy (.int i) rfl
  | str z h c => exact easy (.str z) rfl
  | @lst a xs ds h _ t =>
    cases (show u = Value.ref a from ru)
    obtain ⟨_, us, n, rv, g⟩ := (show ObjOk X.prog X.w H s.heap a (.lst xs) from I.hok a _ h)
    have hz' : (listText (PyData.shownAll ds)).length ≤ sizeLine := hz
    have hdp : PyData.depthAll ds + 1 ≤ 60 := hdp
    obtain ⟨as, bs, rd, m, k⟩ := DdAll.rp I t (fun z hz => Nat.le_trans (listText_mem_le hz) hz') rv
    have ra : Reads s.heap (.ref a) (.list ds) (a :: as) := .list g rfl rfl (by rw [List.toList_toArray]; exact rd)
    refine call_repr_slot (by omega) ⟨_, g, rfl⟩ F.slot_list_repr.toG ?_
    cases us with
    | nil =>
      cases rd
      exact call_list_repr_empty ⟨_, g, rfl⟩ g rfl ⟨_, _, rfl, fin s.heap _ _ fun _ _ e => e⟩
    | cons y us => exact call_list_reprK g rfl rfl (not_mem_of_deeper ra (Nat.lt_succ_self _) m) (by rw [k.length_eq, List.size_toArray]) (fun i y e => k.item i y (by simpa using e)) hg (fun b _ => Clear.nil b) (by show X.A.units + 1 + (PyData.depthAll ds + 1) < cLine; omega) (fun _ _ e => e) (fun h' u tk hk => ⟨_, _, rfl, fin h' u tk hk⟩) hz'
  | @tup a xs ds h t =>
    cases (show u = Value.ref a from ru)
    obtain ⟨_, us, rv, o, g1, g2, n, g3⟩ := (show ObjOk X.prog X.w H s.heap a (.tup xs) from I.hok a _ h)
    have hz' : (tupleText (PyData.shownAll ds)).length ≤ sizeLine := hz
    have hdp : PyData.depthAll ds + 1 ≤ 60 := hdp
    obtain ⟨as, bs, rd, m, k⟩ := DdAll.rp I t (fun z hz => Nat.le_trans (tupleText_mem_le hz) hz') rv
    have ra : Reads s.heap (.ref a) (.tuple ds) as := .tuple g1 g2 g3 (by rw [List.toList_toArray]; exact rd)
    refine call_repr_slot (by omega) ⟨_, g1, g2⟩ F.slot_tuple_repr ?_
    exact call_tuple_reprK g1 g2 g3 (not_mem_of_deeper ra (Nat.lt_succ_self _) m) (by rw [List.toList_toArray]; exact k) hg (fun b _ => Clear.nil b) (by show X.A.units + 1 + (PyData.depthAll ds + 1) < cLine; omega) (fun _ _ e => e) (fun h' u tk hk => ⟨_, _, rfl, fin h' u tk hk⟩) hz'
  | @dct a h =>
    cases (show u = Value.ref a from ru)
    obtain ⟨hsm, o, es, n, g1, g2, g3, e0⟩ := empty_dict I h
    have rd : Reads s.heap (.ref a) (.dict []) [a] := Reads.dict (as := []) (bs := []) g1 g2 g3 (by rw [e0]; exact .nil) (by rw [e0]; exact .nil)
    exact repr_of_reads' rd rfl (fun _ h => by
      rw [List.mem_singleton] at h
      rw [h] at hsm
      simp at hsm) hg (by show X.A.units + (1 + 1) < cLine; omega) (fun _ _ e => e) fin (by decide +kernel)
end
end J
namespace J
open PySem PySem.Spec PyProof.Rows L2 M
/-- nothing is raised -/
def NoX : L2.St → XK := fun _ _ _ _ => False
theorem noX_at {X : Cx} (σ : L2.St) : PassesAt (L2.CX X.prog X.w) X σ (NoX σ) := fun _ _ _ _ _ _ ⟨_, _, _, _, _, h⟩ => by
  obtain ⟨_, _, _, _, _, _, _, q⟩ := h
  exact q.elim
/-- since H0: the box at b, a grammar's own F, and what else stands -/
structure Stand (H0 H : Hp) (b : Addr) (n : Nat) (F : List Addr) (L : List (Addr × HO)) : Prop where
  same : Same H0 H
  b0 : H0 b = none
  bx : Bx H b n
  F0 : ∀ z ∈ F, H0 z = none
  dom : ∀ z ∈ F, H z ≠ none
  bF : b ∉ F
  kp : ∀ e ∈ L, H e.1 = some e.2 ∧ e.1 ∉ F ∧ e.1 ≠ b ∧ H0 e.1 = none
  nd : (L.map Prod.fst).Nodup
variable {H0 H H' : Hp} {b : Addr} {n m : Nat} {F F' : List Addr} {L : List (Addr × HO)}
theorem Stand.at (st : Stand H0 H b n F L) {a : Addr} {o : HO} (i : Nat) (h : L[i]? = some (a, o)) : H a = some o := (st.kp _ (List.mem_of_getElem? h)).1
theorem Stand.step (st : Stand H0 H b n F L) (s : Same H H') : Stand H0 H' b n F L := by
  obtain ⟨x, y, z, hb, r⟩ := st.bx
  exact ⟨st.same.trans s, st.b0, ⟨x, y, z, s _ _ hb, r⟩, st.F0, fun z hz => by
    cases e : H z with
    | none => exact absurd e (st.dom z hz)
    | some o => rw [s _ _ e]; exact fun q => (nomatch q), st.bF, fun e he => by
    obtain ⟨h1, h2⟩ := st.kp e he
    exact ⟨s _ _ h1, h2⟩, st.nd⟩
theorem Stand.draw (st : Stand H0 H b n F L) (k : Keep b H H') (bx : Bx H' b m) : Stand H0 H' b m F L :=
  ⟨fun p o h => k p o (st.same p o h) (fun e => by subst e; exact nomatch st.b0.symm.trans h), st.b0, bx, st.F0, fun z hz => by
    cases e : H z with
    | none => exact absurd e (st.dom z hz)
    | some o => rw [k _ _ e (fun q => by subst q; exact st.bF hz)]; exact fun q => (nomatch q), st.bF, fun e he => by
    obtain ⟨h1, h2, h3, h4⟩ := st.kp e he
    exact ⟨k _ _ h1 h3, h2, h3, h4⟩, st.nd⟩
theorem Stand.free (st : Stand H0 H b n F L) {a : Addr} (ha : H a = none) : H0 a = none := by
  cases e : H0 a with
  | none => rfl
  | some o => exact nomatch ha.symm.trans (st.same _ _ e)
theorem Stand.put (st : Stand H0 H b n F L) {a : Addr} {o : HO} (s : Same H H') (ha : H a = none) (h' : H' a = some o) : Stand H0 H' b n F ((a, o) :: L) := by
  have s1 := st.step s
  refine ⟨s1.same, s1.b0, s1.bx, s1.F0, s1.dom, s1.bF, fun e he => ?_, ?_⟩
  · rcases List.mem_cons.mp he with rfl | he
    · exact ⟨h', fun q => st.dom _ q ha, fun q => by
        obtain ⟨x, y, z, hb, _⟩ := st.bx
        have q : a = b := q
        subst q
        exact (nomatch ha.symm.trans hb), st.free ha⟩
    · exact s1.kp e he
  · rw [List.map_cons, List.nodup_cons]
    exact ⟨fun q => by
      obtain ⟨e, he, ea⟩ := List.mem_map.mp q
      have h1 := (st.kp e he).1
      rw [ea] at h1
      exact (nomatch ha.symm.trans h1), st.nd⟩
theorem Stand.new (st : Stand H0 H b n F L) {a : Addr} (ha : H a = none) (o : HO) : Stand H0 (upd H a o) b n F ((a, o) :: L) := st.put ((Same.refl H).at ha o) ha upd_same
theorem Stand.add (st : Stand H0 H b n F L) {a : Addr} {o : HO} (k : Keep b H H') (bx : Bx H' b m) (ha : H a = none) (h' : H' a = some o) : Stand H0 H' b m F ((a, o) :: L) := by
  have s1 := st.draw k bx
  refine ⟨s1.same, s1.b0, s1.bx, s1.F0, s1.dom, s1.bF, fun e he => ?_, ?_⟩
  · rcases List.mem_cons.mp he with rfl | he
    · exact ⟨h', fun q => st.dom _ q ha, fun q => by
        obtain ⟨x, y, z, hb, _⟩ := st.bx
        have q : a = b := q
        subst q
        exact (nomatch ha.symm.trans hb), st.free ha⟩
    · exact s1.kp e he
  · rw [List.map_cons, List.nodup_cons]
    exact ⟨fun q => by
      obtain ⟨e, he, ea⟩ := List.mem_map.mp q
      have h1 := (st.kp e he).1
      rw [ea] at h1
      exact (nomatch ha.symm.trans h1), st.nd⟩
theorem Stand.drop (st : Stand H0 H b n F L) {e : Addr × HO} {L' : List (Addr × HO)} (h : L = e :: L') : Stand H0 H b n F L' := by
  subst h
  exact ⟨st.same, st.b0, st.bx, st.F0, st.dom, st.bF, fun e he => st.kp e (List.mem_cons_of_mem _ he), (List.nodup_cons.mp st.nd).2⟩
theorem Stand.box (st : Stand H0 H b n F L) (l : n ≤ m) : Stand H0 H b m F L := ⟨st.same, st.b0, st.bx.mono l, st.F0, st.dom, st.bF, st.kp, st.nd⟩
/-- what was put there is put anew -/
theorem Stand.set (st : Stand H0 H b n F L) {a : Addr} {o o' : HO} (i : Nat) (h : L[i]? = some (a, o)) : Stand H0 (upd H a o') b n F (L.set i (a, o')) := by
  have ha := st.kp _ (List.mem_of_getElem? h)
  refine ⟨fun p q e => by rw [upd_ne (fun z => by subst z; exact nomatch ha.2.2.2.symm.trans e)]; exact st.same _ _ e, st.b0, ?_, st.F0, fun z hz => ?_, st.bF, fun e he => ?_, ?_⟩
  · obtain ⟨x, y, z, hb, r⟩ := st.bx
    exact ⟨x, y, z, by rw [upd_ne (fun q => ha.2.2.1 q.symm)]; exact hb, r⟩
  · rw [upd_ne (fun q => by subst q; exact ha.2.1 hz)]
    exact st.dom z hz
  · obtain ⟨j, hj⟩ := List.mem_iff_getElem?.mp he
    by_cases q : i = j
    · subst q
      rw [List.getElem?_set_self (List.getElem?_eq_some_iff.mp h).1] at hj
      cases hj
      exact ⟨upd_same, ha.2⟩
    · rw [List.getElem?_set_ne q] at hj
      have he := st.kp e (List.mem_of_getElem? hj)
      refine ⟨?_, he.2⟩
      rw [upd_ne fun z => q ?_]
      · exact he.1
      · have e1 : (L.map Prod.fst)[i]? = some a := by rw [List.getElem?_map, h]; rfl
        have e2 : (L.map Prod.fst)[j]? = some e.1 := by rw [List.getElem?_map, hj]; rfl
        rw [z] at e2
        exact (List.getElem?_inj (List.getElem?_eq_some_iff.mp e1).1 st.nd).mp (e1.trans e2.symm)
  · have : (L.set i (a, o')).map Prod.fst = L.map Prod.fst := by
      rw [List.map_set]
      refine List.ext_getElem? fun j => ?_
      by_cases q : i = j
      · subst q
        rw [List.getElem?_set_self (by rw [List.length_map]; exact (List.getElem?_eq_some_iff.mp h).1), List.getElem?_map, h]; rfl
      · rw [List.getElem?_set_ne q]
    rw [this]; exact st.nd
theorem Stand.out (st : Stand H0 H b n F L) (o : OutF F H H') (w : NewW F F' H) : Stand H0 H' b n (trimF H' F') L := by
  have nF : ∀ {a : Addr} {x : HO}, H a = some x → a ∉ F → a ∉ trimF H' F' := fun h f q => by
    rcases w _ (List.mem_filter.mp q).1 with q | q
    · exact f q
    · exact nomatch q.symm.trans h
  refine ⟨fun p q e => ?_, st.b0, ?_, fun z hz => ?_, fun z hz => ?_, ?_, fun e he => ?_, st.nd⟩
  · exact o.1 p q (fun f => nomatch (st.F0 p f).symm.trans e) (st.same _ _ e)
  · obtain ⟨x, y, z, hb, r⟩ := st.bx
    exact ⟨x, y, z, o.1 _ _ st.bF hb, r⟩
  · rcases w z (List.mem_filter.mp hz).1 with q | q
    · exact st.F0 z q
    · exact st.free q
  · have := (List.mem_filter.mp hz).2
    intro q
    rw [q] at this
    cases this
  · obtain ⟨x, y, z, hb, _⟩ := st.bx
    exact nF hb st.bF
  · obtain ⟨h1, h2, h3⟩ := st.kp e he
    exact ⟨o.1 _ _ h2 h1, nF h1 h2, h3⟩
/-- and a dict that was told -/
theorem Stand.told (st : Stand H0 H b n F L) (o : OutF F H H') (w : NewW F F' H) {d : Addr} {kvs : List (Key × V)} (hd : H' d = some (.dK kvs)) (f1 : d ∉ F → H d = none) (f2 : d ∉ F') : Stand H0 H' b n (trimF H' F') ((d, .dK kvs) :: L) := by
  have s1 := st.out o w
  have hne : ∀ {a : Addr} {x : HO}, H a = some x → a ∉ F → a ≠ d := fun h f q => by
    subst q
    exact nomatch (f1 f).symm.trans h
  refine ⟨s1.same, s1.b0, s1.bx, s1.F0, s1.dom, s1.bF, fun e he => ?_, ?_⟩
  · rcases List.mem_cons.mp he with rfl | he
    · refine ⟨hd, fun q => f2 (List.mem_filter.mp q).1, fun q => ?_, ?_⟩
      · obtain ⟨x, y, z, hb, _⟩ := st.bx
        exact hne hb st.bF q.symm
      · by_cases q : d ∈ F
        · exact st.F0 d q
        · exact st.free (f1 q)
    · exact s1.kp e he
  · rw [List.map_cons, List.nodup_cons]
    exact ⟨fun q => by
      obtain ⟨e, he, ea⟩ := List.mem_map.mp q
      have h1 := st.kp e he
      exact hne h1.1 h1.2.1 ea, st.nd⟩
theorem Stand.gr (st : Stand H0 H b n [] L) (s : Same H H') (f : ∀ z ∈ F, H z = none ∧ H' z ≠ none) : Stand H0 H' b n F L := by
  have s1 := st.step s
  have nF : ∀ {a : Addr} {x : HO}, H a = some x → a ∉ F := fun h q => nomatch (f _ q).1.symm.trans h
  refine ⟨s1.same, s1.b0, s1.bx, fun z hz => st.free (f z hz).1, fun z hz => (f z hz).2, ?_, fun e he => ?_, s1.nd⟩
  · obtain ⟨x, y, z, hb, _⟩ := st.bx
    exact nF hb
  · obtain ⟨h1, _, h3⟩ := st.kp e he
    exact ⟨s _ _ h1, nF h1, h3⟩
section
variable {CG CN g : Addr} {us : List (List Nat)} {os os' : List Op}
theorem box_keep (hb : Bx H b n) (k : Keep b H H') : TupK H H' := fun p xs h => k p _ h fun e => by
  subst e
  obtain ⟨x, y, z, hb, _⟩ := hb
  rw [hb] at h
  cases h
theorem Stand.grDraw (st : Stand H0 H b n F L) (gr : GrAt CG CN H F g us os os') (k : Keep b H H') : GrAt CG CN H' F g us os os' :=
  gr.keep (fun q hq o h => k q o h fun e => st.bF (e ▸ hq)) (box_keep st.bx k) fun _ h => h
theorem Stand.grSet (st : Stand H0 H b n F L) (gr : GrAt CG CN H F g us os os') {a : Addr} {o o' : HO} (i : Nat) (h : L[i]? = some (a, o)) (nt : ∀ xs, o ≠ .tup xs) : GrAt CG CN (upd H a o') F g us os os' :=
  gr.keep (fun q hq x e => by
    rw [upd_ne (fun z => by subst z; exact (st.kp _ (List.mem_of_getElem? h)).2.1 hq)]
    exact e) (TupK.upd fun xs e => nt xs (Option.some.inj ((st.at i h).symm.trans e))) fun _ h => h
end
theorem OptsAt.snoc {H : Hp} {a : Addr} {o : Op} (h : H a = some (.tup (opV o))) : ∀ {xs : List V} {os : List Op}, OptsAt H xs os → OptsAt H (xs ++ [.ref a]) (os ++ [o])
  | _, _, .nil => .cons h .nil
  | _, _, .cons g t => .cons g (OptsAt.snoc h t)
/-- one y for each x, of which R is told -/
theorem comp_rel {J : It} {g : TG} {te : TE} {vs : List Nat} {σ : L2.St} {H1 : Hp} {D : Addr} {Z : Hp → Prop} {xs : List V} (SI : SeqIt J xs H1) (hD : H1 D = none) (hs : xs.length < sizeLine) (R : Nat → V → Hp → Prop)
    (mono : ∀ i y H H', R i y H → (∃ zs, H D = some (.lst zs)) → (∀ p o, p ≠ D → H p = some o → H' p = some o) → R i y H')
    (turn : ∀ (i : Nat) (x : V) (H : Hp) (N : V → Hp → Prop), xs[i]? = some x → Same H1 H → (∃ zs, H D = some (.lst zs)) → (∀ y H4, Same H H4 → R i y H4 → N y H4) → g x (wipe σ vs) H fun σ2 H2 => wipe σ2 vs = wipe σ vs ∧ te σ2 H2 N)
    (fin : ∀ H ys, Same H1 H → H D = some (.lst ys) → ys.length = xs.length → (∀ i y, ys[i]? = some y → R i y H) → Z H) : CompQ J g tYes te vs σ H1 D Z := by
  refine comp_of xs.length (fun i H => Same H1 H ∧ ∃ ys, H D = some (.lst ys) ∧ ys.length = i ∧ ∀ k y, ys[k]? = some y → R k y H) ⟨(Same.refl H1).at hD _, [], upd_same, rfl, fun k y h => by cases h⟩ (fun i H hi w => SI.go i H w.1 hi) (fun H w => SI.stop H w.1) (fun i H x H' hi w y => ?_) (fun H w => ?_)
  · obtain ⟨rfl, hx⟩ := SI.yld i H x H' w.1 y
    obtain ⟨s1, ys, e, l, r⟩ := w
    refine turn i x H' _ hx s1 ⟨_, e⟩ fun y H4 s ry => ⟨ys, s _ _ e, by rw [l]; exact Nat.lt_trans hi hs, (s1.trans s).at hD _, ys ++ [y], upd_same, by rw [List.length_append, l]; rfl, fun k z hz => ?_⟩
    have kp : ∀ p o, p ≠ D → H4 p = some o → (upd H4 D (.lst (ys ++ [y]))) p = some o := fun p o n h => by rw [upd_ne n]; exact h
    have e4 : ∃ zs, H4 D = some (.lst zs) := ⟨_, s _ _ e⟩
    by_cases q : k < ys.length
    · rw [List.getElem?_append_left q] at hz
      exact mono k z H4 _ (mono k z H' _ (r k z hz) ⟨_, e⟩ fun p o _ h => s p o h) e4 kp
    · rw [List.getElem?_append_right (by omega)] at hz
      have k0 : k - ys.length = 0 := by
        have := (List.getElem?_eq_some_iff.mp hz).1
        simp at this
        omega
      rw [k0] at hz
      cases hz
      obtain rfl : k = i := by omega
      exact mono _ _ H4 _ ry e4 kp
  · obtain ⟨s1, ys, e, l, r⟩ := w
    exact fin H ys s1 e l r
theorem CmdAt.keepD {H H' : Hp} {D a : Addr} {nm : Str} {os : List Op} {cs : List V} (h : CmdAt H a nm os cs) (e : ∃ zs, H D = some (.lst zs)) (k : ∀ p o, p ≠ D → H p = some o → H' p = some o) : CmdAt H' a nm os cs :=
  h.keep fun p xs hp => k p _ (fun q => by subst q; obtain ⟨zs, e⟩ := e; rw [hp] at e; cases e) hp
def bgD (D : List Bg) : PyData := .list (D.map fun p => .tuple [.str (S p.1), .str (S p.2)])
theorem wt_bg : ∀ {D : List Bg} {k : Nat}, D.length ≤ k → (∀ p ∈ D, p.1.length ≤ 8 ∧ p.2.length ≤ 8) → wtAll (D.map fun p => .tuple [.str (S p.1), .str (S p.2)]) ≤ 200 * k := by
  intro D
  induction D with
  | nil => intro k _ _; exact Nat.zero_le _
  | cons p D ih =>
    intro k hk h
    obtain ⟨k, rfl⟩ : ∃ j, k = j + 1 := ⟨k - 1, by rw [List.length_cons] at hk; omega⟩
    have a := ih (k := k) (by rw [List.length_cons] at hk; omega) fun q hq => h q (List.mem_cons_of_mem _ hq)
    have := h p (List.mem_cons_self ..)
    rw [List.map_cons, wtAll, wt, wtAll, wtAll, wtAll, wt, wt, S_len, S_len]
    omega
/-- texts that are short and plain -/
def Okd (D : List Bg) : Prop := D.length ≤ 48 ∧ ∀ p ∈ D, p.1.length ≤ 8 ∧ p.2.length ≤ 8 ∧ (∀ c ∈ p.1, c ≤ 126) ∧ ∀ c ∈ p.2, c ≤ 126
theorem okd_begs {ns : List (List Nat)} (ok : NmsOk ns) {D : List Bg} (h : IsBegs ns D) : Okd D := ⟨begs_len ok h, fun p hp => by
  obtain ⟨h1, h2, h3, h4⟩ := (h.iff p.1 p.2).mp hp
  have nm := ok.2.2 _ h1
  have c2 : ∀ c ∈ p.2, c ≤ 126 := fun c hc => by have := nm.2.2 c hc; omega
  exact ⟨Nat.le_trans h3.length_le nm.2.1, nm.2.1, fun c hc => c2 c (h3.subset hc), c2⟩⟩
theorem prB_of {H : Hp} {D : List Bg} {as : List Addr} (h : Prs H (D.map begE) as) : PrB H D as := ⟨by rw [h.1, List.length_map], fun j a hj => by
  obtain ⟨kv, e1, e2⟩ := h.2 j a hj
  rw [List.getElem?_map] at e1
  obtain ⟨p, ep, rfl⟩ := Option.map_eq_some_iff.mp e1
  exact ⟨p, ep, e2⟩⟩
theorem dd_at {b : Addr} {H : Hp} : ∀ {xs : List V} {ds : List PyData}, xs.length = ds.length → (∀ (i : Nat) (x : V), xs[i]? = some x → ∃ d, ds[i]? = some d ∧ Dd b H x d) → DdAll b H xs ds
  | [], [], _, _ => .nil
  | [], d :: ds, l, _ => by cases l
  | x :: xs, [], l, _ => by cases l
  | x :: xs, d :: ds, l, h => by
    obtain ⟨d', e, q⟩ := h 0 x rfl
    cases e
    exact .cons q (dd_at (by simpa using l) fun i x hx => h (i + 1) x (by simpa using hx))
theorem dd_bg {g : Addr} {H : Hp} (hg : ∀ xs, H g ≠ some (.lst xs)) {l : Addr} {as : List Addr} {D : List Bg} (hl : H l = some (.lst (as.map V.ref))) (pr : PrB H D as) (ok : Okd D) : Dd g H (.ref l) (bgD D) := by
  refine .lst hl (fun e => hg _ (e ▸ hl)) (dd_at (by rw [List.length_map, List.length_map, pr.1]) fun i x hx => ?_)
  rw [List.getElem?_map] at hx
  obtain ⟨a, ea, rfl⟩ := Option.map_eq_some_iff.mp hx
  obtain ⟨p, ep, ha⟩ := pr.2 i a ea
  obtain ⟨h1, h2, h3, h4⟩ := ok.2 p (List.mem_of_getElem? ep)
  exact ⟨_, by rw [List.getElem?_map, ep]; rfl, .tup ha (.cons (.str _ (by rw [S_len]; omega) (by rw [cd_S]; exact h3)) (.cons (.str _ (by rw [S_len]; omega) (by rw [cd_S]; exact h4)) .nil))⟩
/-- a list of told pairs -/
def RB (cl : Addr) (Ds : List (List Bg)) (i : Nat) (y : V) (H : Hp) : Prop := ∃ l as D, y = V.ref l ∧ l ≠ cl ∧ Ds[i]? = some D ∧ H l = some (.lst (as.map V.ref)) ∧ PrB H D as
theorem RB.mono {cl : Addr} {Ds : List (List Bg)} (i : Nat) (y : V) (H H' : Hp) (r : RB cl Ds i y H) (e : ∃ zs, H cl = some (.lst zs)) (k : ∀ p o, p ≠ cl → H p = some o → H' p = some o) : RB cl Ds i y H' := by
  obtain ⟨l, as, D, e1, e2, e3, e4, e5, e6⟩ := r
  refine ⟨l, as, D, e1, e2, e3, k _ _ e2 e4, e5, fun j a hj => ?_⟩
  obtain ⟨p, ep, ha⟩ := e6 j a hj
  exact ⟨p, ep, k _ _ (fun q => by subst q; obtain ⟨zs, e⟩ := e; rw [ha] at e; cases e) ha⟩
theorem RB.same {cl : Addr} {Ds : List (List Bg)} {i : Nat} {y : V} {H H' : Hp} (r : RB cl Ds i y H) (s : Same H H') : RB cl Ds i y H' := by
  obtain ⟨l, as, D, e1, e2, e3, e4, e5, e6⟩ := r
  refine ⟨l, as, D, e1, e2, e3, s _ _ e4, e5, fun j a hj => ?_⟩
  obtain ⟨p, ep, ha⟩ := e6 j a hj
  exact ⟨p, ep, s _ _ ha⟩
theorem dd_rb {g : Addr} {H : Hp} (hg : ∀ xs, H g ≠ some (.lst xs)) {cl : Addr} {ys : List V} {Ds : List (List Bg)} (hl : H cl = some (.lst ys)) (ly : ys.length = Ds.length) (r : ∀ i y, ys[i]? = some y → RB cl Ds i y H) (ok : ∀ D ∈ Ds, Okd D) : Dd g H (.ref cl) (.list (Ds.map bgD)) := by
  refine .lst hl (fun e => hg _ (e ▸ hl)) (dd_at (by rw [List.length_map, ly]) fun i x hx => ?_)
  obtain ⟨l, as, D, rfl, _, e3, e4, e5⟩ := r i x hx
  exact ⟨_, by rw [List.getElem?_map, e3]; rfl, dd_bg hg e4 e5 (ok D (List.mem_of_getElem? e3))⟩
theorem wt_rb : ∀ {Ds : List (List Bg)} {k : Nat}, Ds.length ≤ k → (∀ D ∈ Ds, Okd D) → wtAll (Ds.map bgD) ≤ 10000 * k := by
  intro Ds
  induction Ds with
  | nil => intro k _ _; exact Nat.zero_le _
  | cons D Ds ih =>
    intro k hk h
    obtain ⟨k, rfl⟩ : ∃ j, k = j + 1 := ⟨k - 1, by rw [List.length_cons] at hk; omega⟩
    have a := ih (k := k) (by rw [List.length_cons] at hk; omega) fun q hq => h q (List.mem_cons_of_mem _ hq)
    have ⟨l, o⟩ := h D (List.mem_cons_self ..)
    have := wt_bg l fun p hp => ⟨(o p hp).1, (o p hp).2.1⟩
    rw [List.map_cons, wtAll, show bgD D = .list (D.map fun p => .tuple [.str (S p.1), .str (S p.2)]) from rfl, wt]
    omega
theorem depth_all {n : Nat} : ∀ {ds : List PyData}, (∀ d ∈ ds, d.depth ≤ n) → PyData.depthAll ds ≤ n
  | [], _ => Nat.zero_le _
  | d :: ds, h => Nat.max_le.mpr ⟨h d (List.mem_cons_self ..), depth_all fun e he => h e (List.mem_cons_of_mem _ he)⟩
theorem depth_bg (D : List Bg) : (bgD D).depth ≤ 4 := by
  show PyData.depthAll _ + 1 ≤ 4
  have : PyData.depthAll (D.map fun p => PyData.tuple [.str (S p.1), .str (S p.2)]) ≤ 2 := depth_all fun d hd => by
    obtain ⟨p, _, rfl⟩ := List.mem_map.mp hd
    refine Nat.succ_le_succ (depth_all fun e he => ?_)
    rcases List.mem_cons.mp he with rfl | he
    · first | exact Nat.zero_le _ | exact Nat.le_refl _
    · rw [List.mem_singleton.mp he]
      first | exact Nat.zero_le _ | exact Nat.le_refl _
  omega
theorem depth_rb (Ds : List (List Bg)) : (PyData.list (Ds.map bgD)).depth ≤ 60 := by
  show PyData.depthAll _ + 1 ≤ 60
  have : PyData.depthAll (Ds.map bgD) ≤ 4 := depth_all fun d hd => by
    obtain ⟨p, _, rfl⟩ := List.mem_map.mp hd
    exact depth_bg p
  omega
theorem GrAt.noLst {CG CN : Addr} {H : Hp} {F : List Addr} {g : Addr} {us : List (List Nat)} {os os' : List Op} (h : GrAt CG CN H F g us os os') : ∀ xs, H g ≠ some (.lst xs) := fun xs e => by
  obtain ⟨n, gp, _⟩ := h.ex
  obtain ⟨dx, t, r, dc, dw, nm, cs, h1, _⟩ := gp.ex
  rw [h1] at e
  cases e
theorem putK_le (kvs : List (Key × V)) (k : Key) (v : V) : (putK kvs k v).length ≤ kvs.length + 1 := by
  unfold putK
  split
  · rw [List.length_map]; omega
  · rw [List.length_append]; exact Nat.le_refl _
theorem dp_at {K : PySem.W.Frag} {H : Hp} : ∀ {xs : List V} {ds : List PyData}, xs.length = ds.length → (∀ (i : Nat) (x : V), xs[i]? = some x → ∃ d, ds[i]? = some d ∧ Dp K H x d) → DpAll K H xs ds
  | [], [], _, _ => .nil
  | [], d :: ds, l, _ => by cases l
  | x :: xs, [], l, _ => by cases l
  | x :: xs, d :: ds, l, h => by
    obtain ⟨d', e, q⟩ := h 0 x rfl
    cases e
    exact .cons q (dp_at (by simpa using l) fun i x hx => h (i + 1) x (by simpa using hx))
theorem dp_bg {K : PySem.W.Frag} {H : Hp} {l : Addr} {as : List Addr} {D : List Bg} (hl : H l = some (.lst (as.map V.ref))) (pr : PrB H D as) : Dp K H (.ref l) (bgD D) := by
  refine .lst (SqL.of hl) (dp_at (by rw [List.length_map, List.length_map, pr.1]) fun i x hx => ?_)
  rw [List.getElem?_map] at hx
  obtain ⟨a, ea, rfl⟩ := Option.map_eq_some_iff.mp hx
  obtain ⟨p, ep, ha⟩ := pr.2 i a ea
  exact ⟨_, by rw [List.getElem?_map, ep]; rfl, .tup (SqT.of ha) (.cons (.str _) (.cons (.str _) .nil))⟩
theorem lay_all : ∀ {ds : List PyData}, (∀ d ∈ ds, PyData.canLay0 d = true) → PyData.canLayAll0 ds = true
  | [], _ => rfl
  | d :: ds, h => by
    show (PyData.canLay0 d && PyData.canLayAll0 ds) = true
    rw [h d (List.mem_cons_self ..), lay_all fun e he => h e (List.mem_cons_of_mem _ he)]; rfl
theorem lay_S {m : List Nat} (h : ∀ c ∈ m, c ≤ 126) : PyData.canLay0 (.str (S m)) = true := can_w h
theorem sh_bg {D : List Bg} (ok : Okd D) : SeqAt.shaped (bgD D) = true := by
  show (PyData.canLayAll0 _ && decide ((bgD D).depth ≤ 64)) = true
  rw [decide_eq_true (Nat.le_trans (depth_bg D) (by decide)), lay_all fun d hd => ?_]
  · rfl
  · obtain ⟨p, hp, rfl⟩ := List.mem_map.mp hd
    obtain ⟨_, _, h3, h4⟩ := ok.2 p hp
    show (PyData.canLay0 (.str (S p.1)) && (PyData.canLay0 (.str (S p.2)) && true)) = true
    rw [lay_S h3, lay_S h4]; rfl
theorem ne_bg {K : PySem.W.Frag} {H : Hp} {Q : VK} {l p : Addr} {as bs : List Addr} {D : List Bg} (ok : Okd D) (hl : H l = some (.lst (as.map V.ref))) (pl : PrB H D as) (hp : H p = some (.lst (bs.map V.ref))) (pp : PrB H D bs) (k : Q (.bl false) H) : rNeA K (.ref l) (.ref p) H Q :=
  r_neD0 (dp_bg hl pl) (dp_bg hp pp) (sh_bg ok) (sh_bg ok) (SeqAt.eqv_refl _ (SeqAt.canLay_of_shaped (sh_bg ok))) k
theorem PrB.same {H H' : Hp} {D : List Bg} {as : List Addr} (h : PrB H D as) (s : Same H H') : PrB H' D as := ⟨h.1, fun j a hj => by
  obtain ⟨p, e, q⟩ := h.2 j a hj
  exact ⟨p, e, s _ _ q⟩⟩
theorem atI_m1 {us : List (List Nat)} (h : us ≠ []) : ∃ u ∈ us, atI (us.map fun m => V.str (S m)) (-1) = some (V.str (S u)) := by
  have l : 0 < us.length := List.length_pos_iff.mpr h
  refine ⟨us[us.length - 1], List.getElem_mem .., ?_⟩
  unfold atI ixN
  rw [List.length_map, if_neg (by decide), if_pos (by omega)]
  show (us.map _)[_]? = _
  rw [show (-1 + (us.length : Int)).toNat = us.length - 1 by omega, List.getElem?_map, List.getElem?_eq_getElem (by omega)]
  rfl
/-- what is shown shortly -/
def Shy (g : Addr) (H : Hp) (y : V) (d : PyData) : Prop := Dd g H y d ∧ wt d ≤ 500 ∧ d.depth ≤ 3
theorem dd_two {g : Addr} {H : Hp} (hg : ∀ xs, H g ≠ some (.lst xs)) {l p q : Addr} {y x : V} {d e : PyData} (hl : H l = some (.lst [.ref p, .ref q])) (hp : H p = some (.lst [.str "grammar", y])) (hq : H q = some (.lst [.str "there", x])) (hy : Shy g H y d) (hx : Shy g H x e) :
    Dd g H (.ref l) (.list [.list [.str "grammar", d], .list [.str "there", e]]) ∧ wt (.list [.list [.str "grammar", d], .list [.str "there", e]]) ≤ 1000000 ∧ (PyData.list [.list [.str "grammar", d], .list [.str "there", e]]).depth ≤ 60 := by
  have ne : ∀ {a : Addr} {zs : List V}, H a = some (.lst zs) → a ≠ g := fun h e => hg _ (e ▸ h)
  refine ⟨.lst hl (ne hl) (.cons (.lst hp (ne hp) (.cons (.str _ (by decide) (by decide +kernel)) (.cons hy.1 .nil))) (.cons (.lst hq (ne hq) (.cons (.str _ (by decide) (by decide +kernel)) (.cons hx.1 .nil))) .nil)), ?_, ?_⟩
  · have h1 := hy.2.1
    have h2 := hx.2.1
    rw [wt, wtAll, wtAll, wtAll, wt, wt, wtAll, wtAll, wtAll, wtAll, wtAll, wtAll, wt, wt, show ("grammar" : Str).length = 7 from rfl, show ("there" : Str).length = 5 from rfl]
    omega
  · show PyData.depthAll _ + 1 ≤ 60
    have : PyData.depthAll [PyData.list [.str "grammar", d], .list [.str "there", e]] ≤ 6 := depth_all fun u hu => by
      have s0 : ∀ z : Str, (PyData.str z).depth ≤ 3 := fun z => by first | exact Nat.zero_le _ | exact Nat.le_succ_of_le (Nat.le_succ_of_le (Nat.le_refl _))
      rcases List.mem_cons.mp hu with rfl | hu
      · show PyData.depthAll _ + 1 ≤ 6
        have : PyData.depthAll [PyData.str "grammar", d] ≤ 3 := depth_all fun v hv => by
          rcases List.mem_cons.mp hv with rfl | hv
          · exact s0 _
          · rw [List.mem_singleton.mp hv]; exact hy.2.2
        omega
      · rw [List.mem_singleton.mp hu]
        show PyData.depthAll _ + 1 ≤ 6
        have : PyData.depthAll [PyData.str "there", e] ≤ 3 := depth_all fun v hv => by
          rcases List.mem_cons.mp hv with rfl | hv
          · exact s0 _
          · rw [List.mem_singleton.mp hv]; exact hx.2.2
        omega
    omega
theorem Shy.same {g : Addr} {H H' : Hp} {y : V} {d : PyData} (h : Shy g H y d) (s : Same H H') : Shy g H' y d := ⟨h.1.same s, h.2⟩
end J
namespace K16
open PySem PySem.Spec PyProof.Rows L2 J M
local macro_rules | `(tactic| walk_at "hp") => `(tactic| first | assumption | exact upd_same | (rw [upd_ne (by assumption)]; walk_at "hp") | (rw [upd_ne (Ne.symm (by assumption))]; walk_at "hp"))
local macro_rules | `(tactic| walk_at "s") => `(tactic| first
  | ((with_reducible refine' r_var ?h ?k); (case h => exact rfl))
  | (with_reducible refine r_c ?_)
  | (with_reducible refine r_op ?_)
  | (with_reducible refine r_un ?_)
  | (with_reducible refine r_seq ?_)
  | (with_reducible refine r_next ?_)
  | (with_reducible refine r_sets ?_)
  | (with_reducible refine r_gname ?_)
  | (with_reducible refine r_ifS ?_)
  | (with_reducible refine r_gsub ?_)
  | (with_reducible refine r_test ?_)
  | (with_reducible refine r_tb ?_)
  | (with_reducible refine r_not ?_)
  | (with_reducible refine r_and ?_)
  | (with_reducible refine r_or ?_)
  | (with_reducible refine r_andV ?_)
  | (with_reducible refine r_orV ?_)
  | (with_reducible refine r_notV ?_)
  | (with_reducible refine r_ifE ?_)
  | (with_reducible refine r_chain ?_)
  | (with_reducible refine r_cb ?_)
  | (with_reducible refine r_cons ?_)
  | (with_reducible refine r_nil ?_)
  | (with_reducible refine r_call ?_)
  | (with_reducible refine r_lst ?_)
  | (with_reducible refine r_tup ?_)
  | (with_reducible refine r_slice ?_)
  | (with_reducible refine r_nop ?_)
  | (with_reducible refine r_part ?_)
  | (with_reducible refine r_bm ?_)
  | (with_reducible refine r_m1 ?_)
  | (with_reducible refine r_m0 ?_)
  | (with_reducible refine r_is ?_)
  | (with_reducible refine r_maxD ?_)
  | (with_reducible refine r_orT ?_)
  | (with_reducible refine r_truN ?_)
  | (with_reducible refine r_intI ?_)
  | (with_reducible refine r_intB ?_)
  | (with_reducible refine r_max2 ?_)
  | (with_reducible refine r_min2 ?_)
  | (with_reducible refine r_yes ?_)
  | (with_reducible refine r_bl ?_)
  | (with_reducible refine iteT ?_)
  | (with_reducible refine iteF ?_)
  | (with_reducible refine r_iteNT ?_)
  | (with_reducible refine r_iteNF ?_)
  | (with_reducible refine r_minL ?_)
  | (with_reducible refine r_gcons ?_)
  | (with_reducible refine r_gnil ?_)
  | (with_reducible refine r_par ?_)
  | (with_reducible refine r_par3 ?_)
  | (with_reducible refine r_is2 ?_)
  | (with_reducible refine r_is3 ?_)
  | (with_reducible refine r_dget ?_)
  | (with_reducible refine r_callS ?_)
  | (with_reducible refine r_rz ?_)
  | (with_reducible refine r_rev ?_)
  | (with_reducible refine r_isI ?_)
  | (with_reducible refine r_isStr ?_)
  | (with_reducible refine r_ret ?_)
  | (with_reducible refine r_drop ?_)
  | (with_reducible refine r_rI0 ?_)
  | (with_reducible refine r_addI ?_)
  | ((with_reducible show rI (fun _ j => 0 < j) _ (.int _) (.int _) _ _); refine r_rI (by first | omega | decide) ?_)
  | ((with_reducible show rI CDiv _ (.int _) (.int _) _ _); refine r_rI (by constructor <;> omega) ?_)
  | ((with_reducible show rI CPow _ (.int _) (.int _) _ _); refine r_rI (by refine ⟨by decide, by decide, ?_⟩; omega) ?_)
  | ((with_reducible show rMul (.int _) (.int _) _ _); refine r_mulI (cmulW (by omega) (by omega)) ?_)
  | (with_reducible refine r_cmpI ?_)
  | (with_reducible refine r_cmpS ?_)
  | (with_reducible refine r_eqI ?_)
  | (with_reducible refine r_neI ?_)
  | (with_reducible refine r_eqS ?_)
  | (with_reducible refine r_neS ?_)
  | (with_reducible refine r_inSF ?_)
  | (with_reducible refine r_inST ?_)
  | (with_reducible refine r_isiStr ?_)
  | ((with_reducible show rIx _ (.ref _) (.int _) _ _); refine' r_ixL (SqL.of ?h) ?e ?_; (case h => walk_at "hp"); (case e => rfl))
  | ((with_reducible show rSetL (.ref _) (.int _) _ _ _); refine' r_setL ?h ?e ?_; (case h => walk_at "hp"); (case e => rfl)))
local macro_rules | `(tactic| walk_at "g") => `(tactic| repeat walk_at "s")
local macro_rules | `(tactic| walk_at "x") => `(tactic| first | omega | decide +kernel | (simp only [List.length_cons, List.length_nil]; omega))
local macro_rules | `(tactic| walk_at "T1") => `(tactic| (first
  | walk_at "s"
  | ((with_reducible show rIx _ (.ref _) (.int _) _ _); refine' r_ixTu (SqT.of ?h) ?e ?_; (case h => first | assumption | walk_at "hp"); (case e => rfl))
  | (with_reducible refine r_lenSet ?_)
  | (with_reducible refine r_asg2 ?_)
  | (with_reducible refine iteDT (by walk_at "x") ?_)
  | (with_reducible refine iteDF (by walk_at "x") ?_)
  | (with_reducible refine iteNT (by walk_at "x") ?_)
  | (with_reducible refine iteNF (by walk_at "x") ?_)))
local macro_rules | `(tactic| walk_at "T") => `(tactic| repeat (first
  | walk_at "s"
  | ((with_reducible show rIx _ (.ref _) (.int _) _ _); refine' r_ixTu (SqT.of ?h) ?e ?_; (case h => first | assumption | walk_at "hp"); (case e => rfl))
  | (with_reducible refine r_lenSet ?_)
  | (with_reducible refine r_asg2 ?_)
  | (with_reducible refine iteDT (by walk_at "x") ?_)
  | (with_reducible refine iteDF (by walk_at "x") ?_)
  | (with_reducible refine iteNT (by walk_at "x") ?_)
  | (with_reducible refine iteNF (by walk_at "x") ?_)))
local macro_rules | `(tactic| walk_at "g") => `(tactic| repeat (first | walk_at "T1" | (with_reducible refine r_fld ?_) | (with_reducible refine r_sfl ?_) | (with_reducible refine r_ifT ?_) | (with_reducible refine r_nn ?_)))
section
variable {P : Program} {w : World} {K : PySem.W.Frag} {mg : Str → Option Value} {base : Heap}
theorem ok_law (T : Tx K mg) {CG CN CT CX : Addr} (TQ : TQ16 K CT CX) (GI : GIs K CG) (GC : GrC K CG) (NC : NodeC K CN) (L_Grammar : mg "Grammar" = some (.ref CG)) (O_NotThere : OY P w K mg base "NotThere" "found" CT) (O_NoGrammar : OE P w K mg base "NoGrammar" "found" CX) {f f_is_name f_is_path f_own_name f_own_words f_has_none f_fitting f_nodes_of f_command_at f_node_at f_beginnings_of f_named_texts f_command_words f_option_words f_flag_words f_goes f_goes_bare f_begins_with_name f_is_tuple_to f_has_option_form f_are_in_order f_are_places f_has_command_form f_are_unlike f_refuse_twice f_own_names f_is_whole f_fits_form f_has_default f_refuse_group f_look_at f_path_beneath f_refuse_deep f_fitted f_is_table f_law_box f_law_cell f_law_take f_law_names f_law_due f_law_caught f_Grammar_is_there f_Grammar_command f_Grammar_node_of f_Node_has_worths f_Node_init f_Node_texts f_Grammar_init : Addr} {fd fd_is_name fd_is_path fd_own_name fd_own_words fd_has_none fd_fitting fd_nodes_of fd_command_at fd_node_at fd_beginnings_of fd_named_texts fd_command_words fd_option_words fd_flag_words fd_goes fd_goes_bare fd_begins_with_name fd_is_tuple_to fd_has_option_form fd_are_in_order fd_are_places fd_has_command_form fd_are_unlike fd_refuse_twice fd_own_names fd_is_whole fd_fits_form fd_has_default fd_refuse_group fd_look_at fd_path_beneath fd_refuse_deep fd_fitted fd_is_table fd_law_box fd_law_cell fd_law_take fd_law_names fd_law_due fd_law_caught fd_Grammar_is_there fd_Grammar_command fd_Grammar_node_of fd_Node_has_worths fd_Node_init fd_Node_texts fd_Grammar_init : FuncData} (F : Fun K "law" "law" s_law f fd)
    (D_is_name : DAt K mg "is_name" s_is_name P_is_name f_is_name fd_is_name)
    (D_is_path : DAt K mg "is_path" s_is_path P_is_path f_is_path fd_is_path)
    (D_own_name : DAt K mg "own_name" s_own_name P_own_name f_own_name fd_own_name)
    (D_own_words : DAt K mg "_own_words" s_own_words P_own_words f_own_words fd_own_words)
    (D_has_none : DAt K mg "_has_none" s_has_none P_has_none f_has_none fd_has_none)
    (D_fitting : DAt K mg "_fitting" s_fitting P_fitting f_fitting fd_fitting)
    (D_nodes_of : DAt K mg "nodes_of" s_nodes_of P_nodes_of f_nodes_of fd_nodes_of)
    (D_command_at : DAt K mg "command_at" s_command_at P_command_at f_command_at fd_command_at)
    (D_node_at : DAt K mg "node_at" s_node_at P_node_at f_node_at fd_node_at)
    (D_beginnings_of : DAt K mg "beginnings_of" s_beginnings_of P_beginnings_of f_beginnings_of fd_beginnings_of)
    (D_named_texts : DAt K mg "_named_texts" s_named_texts P_named_texts f_named_texts fd_named_texts)
    (D_command_words : DAt K mg "command_words" s_command_words P_command_words f_command_words fd_command_words)
    (D_option_words : DAt K mg "option_words" s_option_words P_option_words f_option_words fd_option_words)
    (D_flag_words : DAt K mg "flag_words" s_flag_words P_flag_words f_flag_words fd_flag_words)
    (D_goes : DAt K mg "goes" s_goes P_goes f_goes fd_goes)
    (D_goes_bare : DAt K mg "goes_bare" s_goes_bare P_goes_bare f_goes_bare fd_goes_bare)
    (D_begins_with_name : DAt K mg "begins_with_name" s_begins_with_name P_begins_with_name f_begins_with_name fd_begins_with_name)
    (D_is_tuple_to : DAt K mg "_is_tuple_to" s_is_tuple_to P_is_tuple_to f_is_tuple_to fd_is_tuple_to)
    (D_has_option_form : DAt K mg "has_option_form" s_has_option_form P_has_option_form f_has_option_form fd_has_option_form)
    (D_are_in_order : DAt K mg "_are_in_order" s_are_in_order P_are_in_order f_are_in_order fd_are_in_order)
    (D_are_places : DAt K mg "_are_places" s_are_places P_are_places f_are_places fd_are_places)
    (D_has_command_form : DAt K mg "has_command_form" s_has_command_form P_has_command_form f_has_command_form fd_has_command_form)
    (D_are_unlike : DAt K mg "are_unlike" s_are_unlike P_are_unlike f_are_unlike fd_are_unlike)
    (D_refuse_twice : DAt K mg "_refuse_twice" s_refuse_twice P_refuse_twice f_refuse_twice fd_refuse_twice)
    (D_own_names : DAt K mg "_own_names" s_own_names P_own_names f_own_names fd_own_names)
    (D_is_whole : DAt K mg "is_whole" s_is_whole P_is_whole f_is_whole fd_is_whole)
    (D_fits_form : DAt K mg "fits_form" s_fits_form P_fits_form f_fits_form fd_fits_form)
    (D_has_default : DAt K mg "_has_default" s_has_default P_has_default f_has_default fd_has_default)
    (D_refuse_group : DAt K mg "_refuse_group" s_refuse_group P_refuse_group f_refuse_group fd_refuse_group)
    (D_look_at : DAt K mg "_look_at" s_look_at P_look_at f_look_at fd_look_at)
    (D_path_beneath : DAt K mg "_path_beneath" s_path_beneath P_path_beneath f_path_beneath fd_path_beneath)
    (D_refuse_deep : DAt K mg "_refuse_deep" s_refuse_deep P_refuse_deep f_refuse_deep fd_refuse_deep)
    (D_fitted : DAt K mg "fitted" s_fitted P_fitted f_fitted fd_fitted)
    (D_is_table : DAt K mg "is_table" s_is_table P_is_table f_is_table fd_is_table)
    (D_law_box : DAt K mg "_law_box" s_law_box P_law_box f_law_box fd_law_box)
    (D_law_cell : DAt K mg "_law_cell" s_law_cell P_law_cell f_law_cell fd_law_cell)
    (D_law_take : DAt K mg "_law_take" s_law_take P_law_take f_law_take fd_law_take)
    (D_law_names : DAt K mg "_law_names" s_law_names P_law_names f_law_names fd_law_names)
    (D_law_due : DAt K mg "_law_due" s_law_due P_law_due f_law_due fd_law_due)
    (D_law_caught : DAt K mg "_law_caught" s_law_caught P_law_caught f_law_caught fd_law_caught)
    (D_Node_init : IAt K mg "Node" CN "Node.__init__" s_Node_init P_Node_init [] f_Node_init fd_Node_init)
    (D_Grammar_init : IAt K mg "Grammar" CG "Grammar.__init__" s_Grammar_init P_Grammar_init [.none] f_Grammar_init fd_Grammar_init)
    (D_Grammar_is_there : MAt K CG "is_there" "Grammar.is_there" s_Grammar_is_there P_Grammar_is_there f_Grammar_is_there fd_Grammar_is_there)
    (D_Grammar_command : MAt K CG "command" "Grammar.command" s_Grammar_command P_Grammar_command f_Grammar_command fd_Grammar_command)
    (D_Grammar_node_of : MAt K CG "node_of" "Grammar.node_of" s_Grammar_node_of P_Grammar_node_of f_Grammar_node_of fd_Grammar_node_of)
    (D_Node_has_worths : MAt K CN "has_worths" "Node.has_worths" s_Node_has_worths P_Node_has_worths f_Node_has_worths fd_Node_has_worths)
    (D_Node_texts : MAt K CN "texts" "Node.texts" s_Node_texts P_Node_texts f_Node_texts fd_Node_texts) : FnG P w K mg base CX0 11 f fd P_law (spLaw K) := by
  have M_Grammar_is_there := D_Grammar_is_there.me
  have B_Grammar_is_there := D_Grammar_is_there.bd
  have M_Grammar_command := D_Grammar_command.me
  have B_Grammar_command := D_Grammar_command.bd
  have M_Grammar_node_of := D_Grammar_node_of.me
  have B_Grammar_node_of := D_Grammar_node_of.bd
  have M_Node_has_worths := D_Node_has_worths.me
  have B_Node_has_worths := D_Node_has_worths.bd
  have K_Node := D_Node_init.mak
  have L_Node := D_Node_init.gl
  have B_Node_init := D_Node_init.bd
  have V_Node_init : Vals [] [] := .nil
  have M_Node_texts := D_Node_texts.me
  have B_Node_texts := D_Node_texts.bd
  have K_Grammar := D_Grammar_init.mak
  have L_Grammar := D_Grammar_init.gl
  have B_Grammar_init := D_Grammar_init.bd
  have V_Grammar_init : Vals [V.non] [Value.none] := .cons rfl .nil
  have G_law_box : FnOk P w K mg base CX0 1 f_law_box fd_law_box P_law_box spBox := ok_box T D_law_box.fn
  have G_law_cell : FnOk P w K mg base CX0 1 f_law_cell fd_law_cell P_law_cell (_root_.J.spCell K) := ok_cell T D_law_cell.fn
  have G_law_take : FnOk P w K mg base CX0 1 f_law_take fd_law_take P_law_take spTake := ok_take D_law_take.fn
  have G_law_names : FnOk P w K mg base CX0 2 f_law_names fd_law_names P_law_names spNamesL := ok_names T D_law_names.fn D_law_take
  have G_law_due : FnOk P w K mg base CX0 1 f_law_due fd_law_due P_law_due spDueB := ok_due T D_law_due.fn
  have G_Grammar_init : FnOk P w K mg base CX0 6 f_Grammar_init fd_Grammar_init P_Grammar_init (spGram CG) := ok_gram T GC D_Grammar_init.fn D_is_name D_begins_with_name D_is_tuple_to D_has_option_form D_are_in_order D_are_places D_has_command_form D_are_unlike D_refuse_twice D_own_names D_is_whole D_fits_form D_own_name D_has_default D_refuse_group D_look_at D_path_beneath D_refuse_deep D_fitted D_is_table
  have G_command_words : FnOk P w K mg base (L2.CX P w) 8 f_command_words fd_command_words P_command_words (spWords K CG CN CT CX cmdS) := ok_command_words T GI GC NC L_Grammar O_NotThere O_NoGrammar D_command_words.fn D_is_name D_is_path D_own_name D_own_words D_has_none D_fitting D_nodes_of D_command_at D_node_at D_beginnings_of D_Node_init D_Grammar_is_there D_Grammar_command D_Grammar_node_of D_Node_has_worths D_Node_texts
  have G_option_words : FnOk P w K mg base (L2.CX P w) 8 f_option_words fd_option_words P_option_words (spWords K CG CN CT CX optS) := ok_option_words T GI GC NC L_Grammar O_NotThere O_NoGrammar D_option_words.fn D_is_name D_is_path D_own_name D_own_words D_has_none D_fitting D_nodes_of D_command_at D_node_at D_beginnings_of D_named_texts D_Node_init D_Grammar_is_there D_Grammar_command D_Grammar_node_of D_Node_has_worths D_Node_texts
  have G_flag_words : FnOk P w K mg base (L2.CX P w) 8 f_flag_words fd_flag_words P_flag_words (spWords K CG CN CT CX flagS) := ok_flag_words T GI GC NC L_Grammar O_NotThere O_NoGrammar D_flag_words.fn D_is_name D_is_path D_own_name D_own_words D_has_none D_fitting D_nodes_of D_command_at D_node_at D_beginnings_of D_named_texts D_Node_init D_Grammar_is_there D_Grammar_command D_Grammar_node_of D_Node_has_worths D_Node_texts
  have G_law_caught : FnOk P w K mg base CX0 9 f_law_caught fd_law_caught P_law_caught (spCaught CG CN) := ok_caught T TQ GI GC NC L_Grammar O_NotThere O_NoGrammar D_law_caught.fn D_is_name D_is_path D_own_name D_own_words D_has_none D_fitting D_nodes_of D_command_at D_node_at D_beginnings_of D_named_texts D_command_words D_option_words D_flag_words D_goes D_goes_bare D_Node_init D_Grammar_is_there D_Grammar_command D_Grammar_node_of D_Node_has_worths D_Node_texts
  refine fun_g F sc_law (fun vs H Q E h => ?_) (fun cdv A outer s H vs Q E hg hr h => ?_)
  · obtain ⟨a, ns, rfl, _⟩ := h
    rfl
  · obtain ⟨a, ns, rfl, ha, hn, k⟩ := h
    refine ⟨_, (pss_cons (ps_for (PassesOwn.never) rfl (pi_range1 rfl T.z_range (pa_cons (pe_callB (call_maxA rfl) (by rfl) T.z_max (by decide +kernel) (pa_cons pe_int (pa_cons (pe_callB (call_minA rfl) (by rfl) T.z_min (by decide +kernel) (pa_cons pe_int (pa_cons (pe_callB (call_lenA : CallR _ _ (J.rLen K)) (by rfl) T.z_len (by decide +kernel) (pa_cons (pv 0) pa_nil)) pa_nil))) pa_nil))) pa_nil)) (pg_name (i := 1) sc_law.nd rfl (Or.inl rfl)) (pss_cons (ps_set (i := 2) sc_law.nd rfl (Or.inl rfl) (pe_call G_law_box (hr.mono (by decide)) rfl D_law_box.gl D_law_box.fn.kp D_law_box.bd .nil pass0 (pa_cons (pe_call G_law_cell (hr.mono (by decide)) rfl D_law_cell.gl D_law_cell.fn.kp D_law_cell.bd .nil pass0 (pa_cons (pv 0) (pa_cons (pv 1) pa_nil))) pa_nil))) (pss_cons (ps_set (i := 3) sc_law.nd rfl (Or.inl rfl) (pe_call G_law_names (hr.mono (by decide)) rfl D_law_names.gl D_law_names.fn.kp D_law_names.bd .nil pass0 (pa_cons (pv 2) (pa_cons pe_int (pa_cons pe_int pa_nil))))) (pss_cons (ps_set (i := 4) sc_law.nd rfl (Or.inr rfl) (pe_lst pa_nil)) (pss_cons (ps_for (PassesOwn.never) rfl (asSeq (K := K) rfl (pi_seq (pe_slice (sl_any : SlR _ (rSl K)) (pv 3) po_none (po_some (pe_call G_law_take (hr.mono (by decide)) rfl D_law_take.gl D_law_take.fn.kp D_law_take.bd .nil pass0 (pa_cons (pv 2) (pa_cons pe_int pa_nil))))))) (pg_name (i := 5) sc_law.nd rfl (Or.inl rfl)) (pss_one (ps_expr (asBM (K := K) rfl (pe_bm PySem.F.plainAttrs_list PySem.F.slot_list_append PySem.F.type_list_append mt_append (pv 4) (pa_cons (pe_tup (pa_cons (pv 5) (pa_cons pe_non (pa_cons (pe_ix (ix_seq : IxR _ (rIx K)) (pe_lst (pa_cons pe_str (pa_cons pe_str pa_nil))) (pe_op L2.op_fdiv (pe_call G_law_take (hr.mono (by decide)) rfl D_law_take.gl D_law_take.fn.kp D_law_take.bd .nil pass0 (pa_cons (pv 2) (pa_cons pe_int pa_nil))) pe_int) (fun _ _ => rfl)) (pa_cons pe_non (pa_cons pe_int (pa_cons pe_bl (pa_cons pe_non pa_nil)))))))) pa_nil)))))) (pss_cons (ps_set (i := 6) sc_law.nd rfl (Or.inl rfl) (pe_slice (sl_any : SlR _ (rSl K)) (pe_call G_law_names (hr.mono (by decide)) rfl D_law_names.gl D_law_names.fn.kp D_law_names.bd .nil pass0 (pa_cons (pv 2) (pa_cons pe_int (pa_cons pe_int pa_nil)))) po_none (po_some (pe_call G_law_take (hr.mono (by decide)) rfl D_law_take.gl D_law_take.fn.kp D_law_take.bd .nil pass0 (pa_cons (pv 2) (pa_cons pe_int pa_nil)))))) (pss_cons (ps_set (i := 7) sc_law.nd rfl (Or.inl rfl) (pe_callTy (call_tupA : CallR _ _ (rTupOf K)) (by rfl) T.z_tuple (by decide +kernel) (pa_cons (pe_lc (own := [("_law_name", 5)]) (g := (gName 5)) rfl sc_law.nd (asSeq (K := K) rfl (pi_seq (pv 6))) (blkOk_by (N := N_law) (sc := defScope s_law) (by decide +kernel)) (fun _ _ _ _ _ => (pg_name (i := 5) sc_law.nd rfl (Or.inl rfl))) (fun _ _ _ _ _ => pts_nil) (fun _ _ _ _ _ => (pe_tup (pa_cons (pv 5) (pa_cons (pe_callTy (call_tupA : CallR _ _ (rTupOf K)) (by rfl) T.z_tuple (by decide +kernel) (pa_cons (pe_slice (sl_any : SlR _ (rSl K)) (pv 4) po_none (po_some pe_int)) pa_nil)) (pa_cons (pe_tup pa_nil) (pa_cons (pe_tup pa_nil) (pa_cons (pe_tup pa_nil) pa_nil)))))))) pa_nil))) (pss_cons (ps_set (i := 8) sc_law.nd rfl (Or.inl rfl) (pe_make K_Grammar G_Grammar_init (hr.mono (by decide)) rfl L_Grammar B_Grammar_init V_Grammar_init pass0 (pa_cons (pe_tup (pa_cons pe_str (pa_cons (pe_callTy (call_tupA : CallR _ _ (rTupOf K)) (by rfl) T.z_tuple (by decide +kernel) (pa_cons (pv 4) pa_nil)) (pa_cons (pe_tup pa_nil) (pa_cons (pe_tup pa_nil) (pa_cons (pv 7) pa_nil)))))) pa_nil))) (pss_cons (ps_set (i := 10) sc_law.nd rfl (Or.inl rfl) (pe_lst (pa_cons (pv 6) (pa_cons (pe_lc (own := [("_law_one", 9)]) (g := (gName 9)) rfl sc_law.nd (asSeq (K := K) rfl (pi_seq (pv 4))) (blkOk_by (N := N_law) (sc := defScope s_law) (by decide +kernel)) (fun _ _ _ _ _ => (pg_name (i := 9) sc_law.nd rfl (Or.inl rfl))) (fun _ _ _ _ _ => pts_nil) (fun _ _ _ _ _ => (pe_ix (ix_seq : IxR _ (rIx K)) (pv 9) pe_int (fun _ _ => rfl)))) (pa_cons (pe_lc (own := [("_law_one", 9)]) (g := (gName 9)) rfl sc_law.nd (asSeq (K := K) rfl (pi_seq (pv 4))) (blkOk_by (N := N_law) (sc := defScope s_law) (by decide +kernel)) (fun _ _ _ _ _ => (pg_name (i := 9) sc_law.nd rfl (Or.inl rfl))) (fun _ _ _ _ _ => (pts_one (pt_cmpR ((op_eqA hr.units) : OpR _ _ (rEqA K)) (pe_ix (ix_seq : IxR _ (rIx K)) (pv 9) pe_int (fun _ _ => rfl)) pe_str (nomark _)))) (fun _ _ _ _ _ => (pe_ix (ix_seq : IxR _ (rIx K)) (pv 9) pe_int (fun _ _ => rfl)))) pa_nil))))) (pss_cons (ps_for (PassesOwn.never) rfl (pi_range1 rfl T.z_range (pa_cons pe_int pa_nil)) (pg_name (i := 11) sc_law.nd rfl (Or.inl rfl)) (pss_cons (ps_set (i := 12) sc_law.nd rfl (Or.inl rfl) (pe_lst (pa_cons (pe_callS (E := NoX) G_command_words (hr.mono (by decide)) rfl D_command_words.gl D_command_words.fn.kp D_command_words.bd noX_at (by exact (pa_cons (pv 8) (pa_cons (pe_tup pa_nil) pa_nil)))) (pa_cons (pe_callS (E := NoX) G_option_words (hr.mono (by decide)) rfl D_option_words.gl D_option_words.fn.kp D_option_words.bd noX_at (by exact (pa_cons (pv 8) (pa_cons (pe_tup pa_nil) pa_nil)))) (pa_cons (pe_callS (E := NoX) G_flag_words (hr.mono (by decide)) rfl D_flag_words.gl D_flag_words.fn.kp D_flag_words.bd noX_at (by exact (pa_cons (pv 8) (pa_cons (pe_tup pa_nil) pa_nil)))) pa_nil))))) (pss_cons (ps_if (pt_cmpR ((op_neA hr.units) : OpR _ _ (rNeA K)) (pe_callB (call_reprD hg hr.units : CallR _ _ rReprD) (by rfl) T.z_repr (by decide +kernel) (pa_cons (pe_lc (own := [("_law_one", 9)]) (g := (gName 9)) rfl sc_law.nd (asSeq (K := K) rfl (pi_seq (pv 12))) (blkOk_by (N := N_law) (sc := defScope s_law) (by decide +kernel)) (fun _ _ _ _ _ => (pg_name (i := 9) sc_law.nd rfl (Or.inl rfl))) (fun _ _ _ _ _ => pts_nil) (fun _ _ _ _ _ => (pe_callTy (call_listIt rfl : CallR _ _ rListIt) (by rfl) T.z_list (by decide +kernel) (pa_cons (asBM0 (K := K) rfl (pe_bm0 PySem.F.plainAttrs_dict PySem.F.slot_dict_items PySem.F.type_dict_items mt_itemsK (pv 9))) pa_nil)))) pa_nil)) (pe_callB (call_reprD hg hr.units : CallR _ _ rReprD) (by rfl) T.z_repr (by decide +kernel) (pa_cons (pe_lc (own := [("_law_some", 17)]) (g := (gName 17)) rfl sc_law.nd (asSeq (K := K) rfl (pi_seq (pv 10))) (blkOk_by (N := N_law) (sc := defScope s_law) (by decide +kernel)) (fun _ _ _ _ _ => (pg_name (i := 17) sc_law.nd rfl (Or.inl rfl))) (fun _ _ _ _ _ => pts_nil) (fun _ _ _ _ _ => (pe_call G_law_due (hr.mono (by decide)) rfl D_law_due.gl D_law_due.fn.kp D_law_due.bd .nil pass0 (pa_cons (pv 17) pa_nil)))) pa_nil)) (nomark _)) (pss_one (ps_ret pe_bl)) pss_nil) (pss_one (ps_for (PassesOwn.never) rfl (asSeq (K := K) rfl (pi_seq (pv 12))) (pg_name (i := 9) sc_law.nd rfl (Or.inl rfl)) (pss_one (ps_dput (hu_of hr) (pv 9) pe_str pe_str rfl))))))) (pss_cons (ps_if (PW.pt (pw_and (pt_cmpR ((op_neA hr.units) : OpR _ _ (rNeA K)) (pv 6) (pe_lst pa_nil) (nomark _)) (pw_and1 (pt_cmpR ((op_neA hr.units) : OpR _ _ (rNeA K)) (pe_callTy (call_listIt rfl : CallR _ _ rListIt) (by rfl) T.z_list (by decide +kernel) (pa_cons (asBM0 (K := K) rfl (pe_bm0 PySem.F.plainAttrs_dict PySem.F.slot_dict_items PySem.F.type_dict_items mt_itemsK (pe_callS (E := NoX) G_option_words (hr.mono (by decide)) rfl D_option_words.gl D_option_words.fn.kp D_option_words.bd noX_at (by exact (pa_cons (pv 8) (pa_cons (pe_tup (pa_cons (pe_ix (ix_seq : IxR _ (rIx K)) (pv 6) (pe_un L2.un_neg pe_int) (fun _ _ => rfl)) pa_nil)) pa_nil)))))) pa_nil)) (pe_call G_law_due (hr.mono (by decide)) rfl D_law_due.gl D_law_due.fn.kp D_law_due.bd .nil pass0 (pa_cons (pe_slice (sl_any : SlR _ (rSl K)) (pe_ix (ix_seq : IxR _ (rIx K)) (pv 10) pe_int (fun _ _ => rfl)) po_none (po_some pe_int)) pa_nil)) (nomark _))))) (pss_one (ps_ret pe_bl)) pss_nil) (pss_cons (ps_set (i := 13) sc_law.nd rfl (Or.inl rfl) (pe_ix (ix_seq : IxR _ (rIx K)) (pe_lst (pa_cons pe_non (pa_cons pe_int (pa_cons pe_str (pa_cons pe_dnewK pa_nil))))) (pe_call G_law_take (hr.mono (by decide)) rfl D_law_take.gl D_law_take.fn.kp D_law_take.bd .nil pass0 (pa_cons (pv 2) (pa_cons pe_int pa_nil))) (fun _ _ => rfl))) (pss_cons (ps_set (i := 14) sc_law.nd rfl (Or.inl rfl) (pe_ix (ix_seq : IxR _ (rIx K)) (pe_lst (pa_cons pe_non (pa_cons (pe_tup (pa_cons pe_str pa_nil)) (pa_cons (pe_lst (pa_cons pe_str pa_nil)) (pa_cons pe_str (pa_cons (pe_tup (pa_cons pe_int pa_nil)) pa_nil)))))) (pe_call G_law_take (hr.mono (by decide)) rfl D_law_take.gl D_law_take.fn.kp D_law_take.bd .nil pass0 (pa_cons (pv 2) (pa_cons pe_int pa_nil))) (fun _ _ => rfl))) (pss_one (ps_for (PassesOwn.never) rfl (pi_range1 rfl T.z_range (pa_cons pe_int pa_nil)) (pg_name (i := 15) sc_law.nd rfl (Or.inl rfl)) (pss_cons (ps_set (i := 16) sc_law.nd rfl (Or.inl rfl) (pe_lst (pa_cons (pe_call G_law_caught (hr.mono (by decide)) rfl D_law_caught.gl D_law_caught.fn.kp D_law_caught.bd .nil pass0 (pa_cons (pv 15) (pa_cons (pv 13) (pa_cons (pv 14) pa_nil)))) (pa_cons (pe_call G_law_caught (hr.mono (by decide)) rfl D_law_caught.gl D_law_caught.fn.kp D_law_caught.bd .nil pass0 (pa_cons (pv 15) (pa_cons (pv 8) (pa_cons (pv 14) pa_nil)))) pa_nil)))) (pss_one (ps_if (pt_cmpR ((op_neA hr.units) : OpR _ _ (rNeA K)) (pe_callB (call_reprD hg hr.units : CallR _ _ rReprD) (by rfl) T.z_repr (by decide +kernel) (pa_cons (pv 16) pa_nil)) (pe_callB (call_reprD hg hr.units : CallR _ _ rReprD) (by rfl) T.z_repr (by decide +kernel) (pa_cons (pe_lst (pa_cons (pe_lst (pa_cons pe_str (pa_cons (pv 13) pa_nil))) (pa_cons (pe_lst (pa_cons pe_str (pa_cons (pv 14) pa_nil))) pa_nil))) pa_nil)) (nomark _)) (pss_one (ps_ret pe_bl)) pss_nil)))))))))))))))))) (pss_one (ps_ret pe_bl))), ?_⟩
    refine r_seqJ (fun σ' H' => True) (fun N hN => ?_) ?_
    rotate_left
    · rintro σ' H' _
      walk_at "g"
      exact k _
    have hN : ∀ σ' H', N σ' H' := fun σ' H' => hN σ' H' trivial
    refine r_for (r_irng1 ?_)
    walk_at "g"
    refine r_lenL ha ?_
    walk_at "g"
    refine ⟨_, rfl, by split <;> (try split) <;> omega, by split <;> (try split) <;> omega, ?_⟩
    obtain ⟨q, hq, ql⟩ : ∃ q : Nat, (if (if ((ns.map V.int).length : Int) < 8 then ((ns.map V.int).length : Int) else 8) > 3 then (if ((ns.map V.int).length : Int) < 8 then ((ns.map V.int).length : Int) else 8) else 3).toNat = q ∧ q ≤ 8 := ⟨_, rfl, by split <;> (try split) <;> omega⟩
    rw [hq]
    refine loop_rng (fun j σ H' => ∃ x1 x2 x3 x4 x5 x6 x7 x8 x9 x10 x11 x12 x13 x14 x15 x16 x17 : Option V, σ = [some (.ref a), x1, x2, x3, x4, x5, x6, x7, x8, x9, x10, x11, x12, x13, x14, x15, x16, x17] ∧ Same H H') ⟨_, _, _, _, _, _, _, _, _, _, _, _, _, _, _, _, _, rfl, Same.refl _⟩ (fun j σ1 H1 hj w => ?_) fun σ1 H1 w => hN _ _
    obtain ⟨x1, x2, x3, x4, x5, x6, x7, x8, x9, x10, x11, x12, x13, x14, x15, x16, x17, rfl, s1⟩ := w
    walk_at "g"
    refine ⟨a, ns, j, rfl, s1.seqL ha, by omega, fun c => ?_⟩
    walk_at "g"
    refine ⟨c, rfl, fun b H2 hb s2 bx => ?_⟩
    have st : Stand H1 H2 b 0 [] [] := ⟨s2, hb, bx, fun _ h => (nomatch h), fun _ h => (nomatch h), List.not_mem_nil, fun _ h => (nomatch h), List.nodup_nil⟩
    clear s2 bx hb
    walk_at "g"
    refine ⟨b, 2, 0, rfl, .inr rfl, st.bx, by decide, fun H3 p3 ns1 kp3 bx3 n3 e3 six1 => ?_⟩
    replace st := st.add kp3 bx3 n3 e3
    clear kp3 bx3 n3 e3
    walk_at "g"
    refine ⟨show 0 ≤ sizeLine by decide, fun oa hoa => ?_⟩
    replace st := st.new hoa (.lst [])
    generalize upd H3 oa (.lst []) = H4 at st ⊢
    clear hoa
    walk_at "g"
    refine r_for ?_
    refine r_isq ?_
    walk_at "g"
    refine ⟨b, 7, _, rfl, st.bx, by omega, by decide, by decide, fun k7 H5 k70 k71 kp5 bx5 => ?_⟩
    replace st := st.draw kp5 bx5
    clear kp5 bx5
    obtain ⟨kn, rfl, hkn⟩ : ∃ kn : Nat, k7 = (kn : Int) ∧ kn ≤ 6 := ⟨k7.toNat, by omega, by omega⟩
    clear k70 k71
    walk_at "g"
    refine r_slL (SqL.of (st.at 1 rfl)) fun p4 hp4 => ?_
    rw [cutV_take, ← List.map_take]
    replace st := st.new hp4 (.lst ((ns1.take kn).map fun m => V.str (S m)))
    generalize upd H5 p4 (.lst ((ns1.take kn).map fun m => V.str (S m))) = H6 at st ⊢
    clear hp4
    refine ⟨p4, _, rfl, .inl ⟨SqL.of (st.at 0 rfl), ?_⟩⟩
    refine loop_lst (fun i σ' H' => ∃ (y5 y6 y7 y8 y9 y10 y11 y12 y13 y14 y15 y16 y17 : Option V) (xs : List V) (os : List Op), σ' = [some (.ref a), some (.int (j : Nat)), some (.ref b), some (.ref p3), some (.ref oa), y5, y6, y7, y8, y9, y10, y11, y12, y13, y14, y15, y16, y17] ∧ Stand H1 H' b (41 + i) [] [(p4, .lst ((ns1.take kn).map fun m => V.str (S m))), (oa, .lst xs), (p3, .lst (ns1.map fun m => V.str (S m)))] ∧ OptsAt H' xs os ∧ os.map Prod.fst = (ns1.take kn).take i ∧ xs.length = i) (fun i σ' H' w => by obtain ⟨_, _, _, _, _, _, _, _, _, _, _, _, _, _, _, _, s, _⟩ := w; exact s.at 0 rfl) ⟨_, _, _, _, _, _, _, _, _, _, _, _, _, [], [], rfl, st, .nil, rfl, rfl⟩ (fun i x σ2 H7 hx w => ?_) fun σ2 H7 w => ?_
    · obtain ⟨y5, y6, y7, y8, y9, y10, y11, y12, y13, y14, y15, y16, y17, xs, os, rfl, st, op, on, lx⟩ := w
      rw [List.getElem?_map] at hx
      obtain ⟨n, en, rfl⟩ := Option.map_eq_some_iff.mp hx
      have i6 : i < 6 := by
        have := (List.getElem?_eq_some_iff.mp en).1
        have l1 := six1.1
        rw [List.length_take] at this
        omega
      walk_at "g"
      refine r_tyL (st.at 1 rfl) ?_
      walk_at "g"
      refine ⟨show 2 ≤ sizeLine by decide, fun pf hpf => ?_⟩
      have s8 := (Same.refl H7).at hpf (.lst [.str "flag", .str "count"])
      replace op := op.keep (TupK.of s8)
      replace st := st.new hpf (.lst [.str "flag", .str "count"])
      generalize upd H7 pf (.lst [.str "flag", .str "count"]) = H8 at st op ⊢
      clear hpf s8
      walk_at "g"
      refine ⟨b, 4, _, rfl, st.bx, by omega, by decide, by decide, fun u H9 u0 u1 kp9 bx9 => ?_⟩
      replace op := op.keep (box_keep st.bx kp9)
      replace st := st.draw kp9 bx9
      clear kp9 bx9
      walk_at "g"
      obtain ⟨fl, hat⟩ : ∃ fl : Bool, atI [V.str "flag", V.str "count"] (u / 3) = some (.str (fmS fl)) := by
        rcases (show u / 3 = 0 ∨ u / 3 = 1 by omega) with e | e <;> rw [e]
        · exact ⟨true, rfl⟩
        · exact ⟨false, rfl⟩
      refine r_ixL (SqL.of (st.at 0 rfl)) hat ?_
      walk_at "g"
      refine ⟨show 7 ≤ sizeLine by decide, fun tp htp => ?_⟩
      have s10 := (Same.refl H9).at htp (.tup [.str (S n), .non, .str (fmS fl), .non, .int 0, .bl false, .non])
      have t10 : upd H9 tp (.tup [.str (S n), .non, .str (fmS fl), .non, .int 0, .bl false, .non]) tp = some (.tup (opV (n, fl))) := upd_same
      replace op := op.keep (TupK.of s10)
      replace st := st.step s10
      generalize upd H9 tp (.tup [.str (S n), .non, .str (fmS fl), .non, .int 0, .bl false, .non]) = H10 at st op t10 ⊢
      clear s10 htp
      walk_at "g"
      refine r_app (st.at 2 rfl) (by rw [lx]; exact Nat.lt_of_lt_of_le i6 (by decide)) ?_
      have tk : TupK H10 (upd H10 oa (.lst (xs ++ [.ref tp]))) := TupK.upd fun ys h => by rw [st.at 2 rfl] at h; cases h
      replace op := (op.keep tk).snoc (tk _ _ t10)
      replace st := (st.set (o' := .lst (xs ++ [.ref tp])) 2 rfl).drop rfl
      walk_at "g"
      refine ⟨_, _, _, _, _, _, _, _, _, _, _, _, _, _, _, rfl, st.box (by omega), op, ?_, by rw [List.length_append, lx]; rfl⟩
      rw [List.map_append, on, List.take_add_one, en]
      rfl
    · obtain ⟨y5, y6, y7, y8, y9, y10, y11, y12, y13, y14, y15, y16, y17, xs, os, rfl, st, op, on, lx⟩ := w
      rw [List.length_map, List.take_length] at on
      have lo : os.length ≤ 6 := by
        rw [← List.length_map (f := Prod.fst), on, List.length_take]; omega
      have st := (st.box (show _ ≤ 50 by rw [List.length_map, List.length_take]; omega))
      have oko : OpsOk os := ⟨lo, fun o ho => by
        have : o.1 ∈ ns1.take kn := by rw [← on]; exact List.mem_map_of_mem ho
        have h := six1.2.2 _ (List.mem_of_mem_take this)
        exact ⟨h.1, h.2.1⟩, by rw [on]; exact six1.2.1.sublist (List.take_sublist ..)⟩
      walk_at "g"
      refine ⟨b, 1, 50, rfl, .inl rfl, st.bx, by decide, fun H8 p5 ns2 kp8 bx8 n8 e8 six2 => ?_⟩
      replace op := op.keep (box_keep st.bx kp8)
      replace st := st.add kp8 bx8 n8 e8
      clear kp8 bx8 n8 e8
      walk_at "g"
      refine ⟨b, 7, _, rfl, st.bx, by omega, by decide, by decide, fun k9 H9 k90 k91 kp9 bx9 => ?_⟩
      replace op := op.keep (box_keep st.bx kp9)
      replace st := st.draw kp9 bx9
      clear kp9 bx9
      obtain ⟨kn2, rfl, hkn2⟩ : ∃ kn : Nat, k9 = (kn : Int) ∧ kn ≤ 6 := ⟨k9.toNat, by omega, by omega⟩
      clear k90 k91
      walk_at "g"
      refine r_slL (SqL.of (st.at 0 rfl)) fun p6 hp6 => ?_
      rw [cutV_take, ← List.map_take]
      obtain ⟨us, hus⟩ : ∃ us, ns2.take kn2 = us := ⟨_, rfl⟩
      have lus : us.length ≤ 6 := by rw [← hus, List.length_take]; omega
      have uus : us.Nodup := by rw [← hus]; exact six2.2.1.sublist (List.take_sublist ..)
      have mus : ∀ m ∈ us, Nm m ∧ m ≠ zzN := fun m hm => by
        rw [← hus] at hm
        have h := six2.2.2 _ (List.mem_of_mem_take hm)
        exact ⟨h.1, h.2.2⟩
      rw [hus]
      clear hus six2
      replace op := op.keep (TupK.of ((Same.refl H9).at hp6 (.lst (us.map fun m => V.str (S m)))))
      replace st := st.new hp6 (.lst (us.map fun m => V.str (S m)))
      generalize upd H9 p6 (.lst (us.map fun m => V.str (S m))) = H10 at st op ⊢
      clear hp6
      walk_at "g"
      refine r_lcQ ?_
      walk_at "g"
      refine r_seqZ (.inl (SqL.of (st.at 0 rfl))) fun J SI q1 hq1 => ?_
      refine comp_rel SI hq1 (by rw [List.length_map]; exact Nat.lt_of_le_of_lt lus (by decide)) (fun i y H' => ∃ c u, y = V.ref c ∧ us[i]? = some u ∧ CmdAt H' c (S u) (os.take 1) []) (fun i y G G' r e kd => by obtain ⟨c, u, e1, e2, e3⟩ := r; exact ⟨c, u, e1, e2, e3.keepD e kd⟩) (fun i x G NN hx sG eD kk => ?_) fun H11 cs s11 e11 lcs rcs => ?_
      · rw [List.getElem?_map] at hx
        obtain ⟨u, eu, rfl⟩ := Option.map_eq_some_iff.mp hx
        have stG := st.step sG
        have opG := op.keep (TupK.of sG)
        walk_at "g"
        refine ⟨rfl, ?_⟩
        walk_at "g"
        refine r_slL (SqL.of (stG.at 3 rfl)) fun q2 hq2 => ?_
        rw [show ((1 : Int)) = ((1 : Nat) : Int) from rfl, cutV_take]
        have sA := (Same.refl G).at hq2 (.lst (xs.take 1))
        have eA : upd G q2 (.lst (xs.take 1)) q2 = some (.lst (xs.take 1)) := upd_same
        generalize upd G q2 (.lst (xs.take 1)) = GA at sA eA ⊢
        walk_at "g"
        refine r_tupOf (SqL.of eA) fun t1 ht1 => ?_
        have sB := sA.at (sA.none ht1) (.tup (xs.take 1))
        have eB : upd GA t1 (.tup (xs.take 1)) t1 = some (.tup (xs.take 1)) := upd_same
        generalize upd GA t1 (.tup (xs.take 1)) = GB at sB eB ⊢
        walk_at "g"
        refine ⟨show 0 ≤ sizeLine by decide, fun t2 ht2 => ?_⟩
        have sC := (Same.refl GB).at ht2 (.tup [])
        have eC : upd GB t2 (.tup []) t2 = some (.tup []) := upd_same
        generalize upd GB t2 (.tup []) = GC' at sC eC ⊢
        walk_at "g"
        refine ⟨show 0 ≤ sizeLine by decide, fun t3 ht3 => ?_⟩
        have sD := (Same.refl GC').at ht3 (.tup [])
        have eD' : upd GC' t3 (.tup []) t3 = some (.tup []) := upd_same
        generalize upd GC' t3 (.tup []) = GD at sD eD' ⊢
        walk_at "g"
        refine ⟨show 0 ≤ sizeLine by decide, fun t4 ht4 => ?_⟩
        have sE := (Same.refl GD).at ht4 (.tup [])
        have eE : upd GD t4 (.tup []) t4 = some (.tup []) := upd_same
        generalize upd GD t4 (.tup []) = GE at sE eE ⊢
        walk_at "g"
        refine ⟨show 5 ≤ sizeLine by decide, fun t5 ht5 => ?_⟩
        have sF := (Same.refl GE).at ht5 (.tup [.str (S u), .ref t1, .ref t2, .ref t3, .ref t4])
        refine kk _ _ ((((sB.trans sC).trans sD).trans sE).trans sF) ⟨t5, u, rfl, eu, ⟨t1, t2, t3, t4, _, upd_same, sF _ _ (sE _ _ (sD _ _ (sC _ _ eB))), (op.take 1).keep (TupK.of ((((((sG.trans sB).trans sC).trans sD).trans sE).trans sF))), sF _ _ (sE _ _ (sD _ _ eC)), sF _ _ (sE _ _ eD'), sF _ _ eE⟩⟩
      · have sub : Subs H11 cs us (os.take 1) := ⟨by rw [lcs, List.length_map], fun i x hx => by
          obtain ⟨c, u, e1, e2, e3⟩ := rcs i x hx
          exact ⟨c, u, e1, e2, (mus u (List.mem_of_getElem? e2)).1, e3⟩⟩
        have lc6 : cs.length ≤ 6 := by rw [lcs, List.length_map]; exact lus
        replace op := op.keep (TupK.of s11)
        replace st := st.put s11 hq1 e11
        clear rcs lcs s11 e11 SI hq1
        walk_at "g"
        refine r_tupOf (SqL.of (st.at 0 rfl)) fun ct hct => ?_
        have s12 := (Same.refl H11).at hct (.tup cs)
        replace op := op.keep (TupK.of s12)
        replace sub := sub.keep (TupK.of s12)
        replace st := st.new hct (.tup cs)
        generalize upd H11 ct (.tup cs) = H12 at st op sub ⊢
        clear hct s12
        walk_at "g"
        refine r_make ?_
        walk_at "g"
        refine r_tupOf (SqL.of (st.at 5 rfl)) fun to hto => ?_
        have sA := (Same.refl H12).at hto (.tup xs)
        have eA : upd H12 to (.tup xs) to = some (.tup xs) := upd_same
        generalize upd H12 to (.tup xs) = GA at sA eA ⊢
        walk_at "g"
        refine ⟨show 0 ≤ sizeLine by decide, fun t2 ht2 => ?_⟩
        have sC := (Same.refl GA).at ht2 (.tup [])
        have eC : upd GA t2 (.tup []) t2 = some (.tup []) := upd_same
        generalize upd GA t2 (.tup []) = GC' at sC eC ⊢
        walk_at "g"
        refine ⟨show 0 ≤ sizeLine by decide, fun t3 ht3 => ?_⟩
        have sD := (Same.refl GC').at ht3 (.tup [])
        have eD' : upd GC' t3 (.tup []) t3 = some (.tup []) := upd_same
        generalize upd GC' t3 (.tup []) = GD at sD eD' ⊢
        walk_at "g"
        refine ⟨show 5 ≤ sizeLine by decide, fun rt hrt => ?_⟩
        have sF := (Same.refl GD).at hrt (.tup [.str "tool", .ref to, .ref t2, .ref t3, .ref ct])
        have eF : upd GD rt (.tup [.str "tool", .ref to, .ref t2, .ref t3, .ref ct]) rt = some (.tup [.str "tool", .ref to, .ref t2, .ref t3, .ref ct]) := upd_same
        generalize upd GD rt (.tup [.str "tool", .ref to, .ref t2, .ref t3, .ref ct]) = H13 at sF eF ⊢
        have s13 := ((sA.trans sC).trans sD).trans sF
        have cm : CmdAt H13 rt "tool" os cs := ⟨to, t2, t3, ct, xs, eF, sF _ _ (sD _ _ (sC _ _ eA)), op.keep (TupK.of s13), sF _ _ (sD _ _ eC), sF _ _ eD', s13 _ _ (st.at 0 rfl)⟩
        replace op := op.keep (TupK.of s13)
        replace sub := sub.keep (TupK.of s13)
        replace st := st.step s13
        clear s13 sA sC sD sF eA eC eD' eF hto ht2 ht3 hrt
        walk_at "g"
        intro g dx hg0 hdx hne
        have s14 : Same H13 (upd (upd H13 dx (.own g)) g (.ins CG dx [])) := ((Same.refl H13).at hdx _).at hg0 _
        have g14 : upd (upd H13 dx (.own g)) g (.ins CG dx []) g = some (.ins CG dx []) := upd_same
        generalize upd (upd H13 dx (.own g)) g (.ins CG dx []) = H14 at s14 g14 ⊢
        refine ⟨g, rt, dx, "tool", os, os.take 1, cs, us, rfl, g14, cm.keep (TupK.of s14), (show Nm [116, 111, 111, 108] from ⟨by decide, by decide, by decide⟩), oko, sub.keep (TupK.of s14), oko.take 1, uus, lc6, fun H15 t dc dw kB hdc hdw ned hg15 hdc15 hdw15 => ⟨rfl, ?_⟩⟩
        have s15 : Same H13 H15 := fun p o h => kB p o (fun e => by subst e; exact nomatch hg0.symm.trans h) (s14 _ _ h)
        have gr : GrAt CG CN H15 [g, dc] g us os (os.take 1) := ⟨.non, ⟨dx, t, rt, dc, dw, "tool", cs, hg15, List.mem_cons_self .., hdc15, List.mem_cons_of_mem _ (List.mem_cons_self ..), cm.keep (TupK.of s15), oko, sub.keep (TupK.of s15), oko.take 1, uus, lc6⟩, .inl rfl⟩
        replace st := st.gr (F := [g, dc]) s15 (fun z hz => by
          rcases List.mem_cons.mp hz with rfl | hz
          · exact ⟨hg0, by rw [hg15]; exact fun e => (nomatch e)⟩
          · rw [List.mem_singleton.mp hz]
            exact ⟨Same.non s14 hdc, by rw [hdc15]; exact fun e => (nomatch e)⟩)
        replace op := op.keep (TupK.of s15)
        clear sub cm s14 g14 kB hdc hdw hdc15 hdw15 hg15 hg0 hdx hne ned s15
        generalize [g, dc] = F at st gr
        walk_at "g"
        refine r_lcQ ?_
        walk_at "g"
        refine r_seqZ (.inl (SqL.of (st.at 5 rfl))) fun J1 SI1 d1 hd1 => ?_
        refine comp_same SI1 hd1 ((os.map Prod.fst).map fun m => V.str (S m)) (by rw [List.length_map, List.length_map, op.len]) (by rw [op.len]; exact Nat.lt_of_le_of_lt lo (by decide)) (fun i x G NN hx sG kk => ?_) fun H16 s16 e16 => ?_
        · obtain ⟨q, o, rfl, eo, hq⟩ := op.get hx
          have hq' : G q = some (.tup [.str (S o.1), .non, .str (fmS o.2), .non, .int 0, .bl false, .non]) := sG _ _ hq
          walk_at "g"
          refine ⟨rfl, ?_⟩
          walk_at "g"
          exact kk _ _ (by rw [List.getElem?_map, List.getElem?_map, eo]; rfl) (Same.refl _)
        replace gr := gr.same s16
        replace op := op.keep (TupK.of s16)
        replace st := st.put s16 hd1 e16
        clear SI1 hd1 s16 e16
        walk_at "g"
        refine r_lcQ ?_
        walk_at "g"
        refine r_seqZ (.inl (SqL.of (st.at 6 rfl))) fun J2 SI2 d2 hd2 => ?_
        refine comp_of os.length (fun i H' => Same H16 H' ∧ H' d2 = some (.lst ((flagN (os.take i)).map fun n => V.str (S n)))) ⟨(Same.refl _).at hd2 _, upd_same⟩ (fun i H' hi w => SI2.go i H' w.1 (by rw [op.len]; exact hi)) (fun H' w => by have := SI2.stop H' w.1; rwa [op.len] at this) (fun i H' x H'' hi w y => ?_) fun H17 w => ?_
        · obtain ⟨rfl, hxx⟩ := SI2.yld i H' x H'' w.1 y
          obtain ⟨q, o, rfl, eo, hq⟩ := op.get hxx
          obtain ⟨sT, dT⟩ := w
          have hq' : H'' q = some (.tup [.str (S o.1), .non, .str (fmS o.2), .non, .int 0, .bl false, .non]) := sT _ _ hq
          have lf : ((flagN (os.take i)).map fun n => V.str (S n)).length ≤ 6 := by
            have := (flagNms oko).1
            rw [List.length_map]
            exact Nat.le_trans (List.Sublist.length_le (by unfold flagN; exact (List.Sublist.filter _ (List.take_sublist ..)).map _)) this
          cases ob : o.2 with
          | true =>
            rw [ob] at hq'
            walk_at "g"
            refine ⟨rfl, ?_⟩
            walk_at "g"
            refine ⟨_, dT, Nat.lt_of_le_of_lt lf (by decide), sT.at hd2 _, ?_⟩
            rw [upd_same, flag_take eo, ob, if_pos rfl, List.map_append]
            rfl
          | false =>
            rw [ob] at hq'
            walk_at "g"
            refine ⟨rfl, ?_⟩
            walk_at "g"
            refine ⟨sT, ?_⟩
            rw [flag_take eo, ob]
            simpa using dT
        obtain ⟨s17, e17⟩ := w
        rw [List.take_of_length_le (Nat.le_refl os.length)] at e17
        replace gr := gr.same s17
        replace st := st.put s17 hd2 e17
        clear SI2 hd2 s17 e17
        walk_at "g"
        refine ⟨show 3 ≤ sizeLine by decide, fun dl hdl => ?_⟩
        replace gr := gr.same ((Same.refl H17).at hdl (.lst [.ref p6, .ref d1, .ref d2]))
        replace st := st.new hdl (.lst [.ref p6, .ref d1, .ref d2])
        generalize upd H17 dl (.lst [.ref p6, .ref d1, .ref d2]) = H18 at st gr ⊢
        clear hdl op
        walk_at "g"
        refine r_for ?_
        refine r_irng1 ?_
        walk_at "g"
        refine ⟨2, rfl, by decide, by decide, ?_⟩
        refine loop_rng (q := 2) (fun i σ' H' => ∃ (z9 z11 z12 z17 : Option V) (F : List Addr), σ' = [some (.ref a), some (.int (j : Nat)), some (.ref b), some (.ref p3), some (.ref oa), y5, some (.ref p6), some (.ref ct), some (.ref g), z9, some (.ref dl), z11, z12, y13, y14, y15, y16, z17] ∧ Stand H1 H' b 91 F [(dl, .lst [.ref p6, .ref d1, .ref d2]), (d2, .lst ((flagN os).map fun m => V.str (S m))), (d1, .lst ((os.map Prod.fst).map fun m => V.str (S m))), (ct, .tup cs), (q1, .lst cs), (p6, .lst (us.map fun m => V.str (S m))), (p5, .lst (ns2.map fun m => V.str (S m))), (p4, .lst ((ns1.take kn).map fun m => V.str (S m))), (oa, .lst xs), (p3, .lst (ns1.map fun m => V.str (S m)))] ∧ GrAt CG CN H' F g us os (os.take 1)) ⟨_, _, _, _, F, rfl, st, gr⟩ (fun i σ3 H19 hi w => ?_) fun σ3 H19 w => ?_
        · obtain ⟨z9, z11, z12, z17, F, rfl, st, gr⟩ := w
          walk_at "g"
          refine ⟨show 0 ≤ sizeLine by decide, fun t1 ht1 => ?_⟩
          have sT := (Same.refl H19).at ht1 (.tup [])
          have eT : upd H19 t1 (.tup []) t1 = some (.tup []) := upd_same
          replace gr := gr.same sT
          replace st := st.step sT
          generalize upd H19 t1 (.tup []) = G1 at st gr eT ⊢
          clear sT ht1
          walk_at "g"
          refine ⟨.ref g, .ref t1, rfl, .inr ⟨g, F, us, os, os.take 1, rfl, gr, .inl ⟨[], ⟨t1, rfl, eT, .inl rfl⟩, fun H20 F1 e1 D1 ou nw gr' ib1 hd f1 f2 => ?_⟩⟩⟩
          replace ib1 : IsBegs us D1 := ib1
          replace gr := gr'.trim
          replace st := st.told ou nw hd f1 f2
          clear ou nw hd f1 f2 gr' eT
          clear F
          obtain ⟨F, hF⟩ : ∃ F, trimF H20 F1 = F := ⟨_, rfl⟩
          rw [hF] at st gr
          clear hF
          walk_at "g"
          refine ⟨show 0 ≤ sizeLine by decide, fun t2 ht2 => ?_⟩
          have sT := (Same.refl H20).at ht2 (.tup [])
          have eT : upd H20 t2 (.tup []) t2 = some (.tup []) := upd_same
          replace gr := gr.same sT
          replace st := st.step sT
          generalize upd H20 t2 (.tup []) = G2 at st gr eT ⊢
          clear sT ht2
          walk_at "g"
          refine ⟨.ref g, .ref t2, rfl, .inr ⟨g, F, us, os, os.take 1, rfl, gr, .inl ⟨[], ⟨t2, rfl, eT, .inl rfl⟩, fun H21 F2 e2 D2 ou nw gr' ib2 hd f1 f2 => ?_⟩⟩⟩
          replace ib2 : IsBegs (os.map Prod.fst) D2 := ib2
          replace gr := gr'.trim
          replace st := st.told ou nw hd f1 f2
          clear ou nw hd f1 f2 gr' eT
          clear F
          obtain ⟨F, hF⟩ : ∃ F, trimF H21 F2 = F := ⟨_, rfl⟩
          rw [hF] at st gr
          clear hF
          walk_at "g"
          refine ⟨show 0 ≤ sizeLine by decide, fun t3 ht3 => ?_⟩
          have sT := (Same.refl H21).at ht3 (.tup [])
          have eT : upd H21 t3 (.tup []) t3 = some (.tup []) := upd_same
          replace gr := gr.same sT
          replace st := st.step sT
          generalize upd H21 t3 (.tup []) = G3 at st gr eT ⊢
          clear sT ht3
          walk_at "g"
          refine ⟨.ref g, .ref t3, rfl, .inr ⟨g, F, us, os, os.take 1, rfl, gr, .inl ⟨[], ⟨t3, rfl, eT, .inl rfl⟩, fun H22 F3 e3 D3 ou nw gr' ib3 hd f1 f2 => ?_⟩⟩⟩
          replace ib3 : IsBegs (flagN os) D3 := ib3
          replace gr := gr'.trim
          replace st := st.told ou nw hd f1 f2
          clear ou nw hd f1 f2 gr' eT
          clear F
          obtain ⟨F, hF⟩ : ∃ F, trimF H22 F3 = F := ⟨_, rfl⟩
          rw [hF] at st gr
          clear hF
          walk_at "g"
          refine ⟨show 3 ≤ sizeLine by decide, fun tl htl => ?_⟩
          replace gr := gr.same ((Same.refl H22).at htl (.lst [.ref e1, .ref e2, .ref e3]))
          replace st := st.new htl (.lst [.ref e1, .ref e2, .ref e3])
          generalize upd H22 tl (.lst [.ref e1, .ref e2, .ref e3]) = H23 at st gr ⊢
          clear htl
          walk_at "g"
          have okD : ∀ D ∈ [D1, D2, D3], Okd D := fun D hD => by
            rcases List.mem_cons.mp hD with rfl | hD
            · exact okd_begs ⟨lus, uus, fun m hm => (mus m hm).1⟩ ib1
            rcases List.mem_cons.mp hD with rfl | hD
            · exact okd_begs (opsNms oko) ib2
            rw [List.mem_singleton.mp hD]
            exact okd_begs (flagNms oko) ib3
          have wtD : wt (.list ([D1, D2, D3].map bgD)) ≤ 1000000 := by
            have := wt_rb (k := 3) (Nat.le_refl _) okD
            rw [wt]; omega
          refine r_lcQ ?_
          walk_at "g"
          refine r_seqZ (.inl (SqL.of (st.at 0 rfl))) fun J3 SI3 cl hcl => ?_
          refine comp_rel SI3 hcl (show 3 < sizeLine by decide) (RB cl [D1, D2, D3]) RB.mono (fun r x G NN hx sG eD kk => ?_) fun H24 ys s24 e24 lys rys => ?_
          · have stG := st.step sG
            obtain ⟨e, D, rfl, iD, hG⟩ : ∃ e D, x = V.ref e ∧ [D1, D2, D3][r]? = some D ∧ G e = some (.dK (D.map begE)) := by
              match r, hx with
              | 0, hx => cases hx; exact ⟨e1, D1, rfl, rfl, stG.at 3 rfl⟩
              | 1, hx => cases hx; exact ⟨e2, D2, rfl, rfl, stG.at 2 rfl⟩
              | 2, hx => cases hx; exact ⟨e3, D3, rfl, rfl, stG.at 1 rfl⟩
              | k + 3, hx => cases hx
            walk_at "g"
            refine ⟨rfl, ?_⟩
            walk_at "g"
            refine r_bm0 ?_
            walk_at "g"
            refine r_tyD hG ?_
            refine ⟨e, _, rfl, rfl, hG, fun v hv => ?_⟩
            have sv := (Same.refl G).at hv (L2.DX.itemsO v e)
            have ev : upd G v (L2.DX.itemsO v e) v = some (L2.DX.itemsO v e) := upd_same
            generalize upd G v (L2.DX.itemsO v e) = GA at sv ev ⊢
            walk_at "g"
            refine ⟨v, e, _, rfl, ev, sv _ _ hG, fun GB l as sB hl hl' prs => ?_⟩
            refine kk _ _ (sv.trans sB) ⟨l, as, D, rfl, fun q => ?_, iD, hl', prB_of prs⟩
            subst q
            obtain ⟨zs, eD⟩ := eD
            exact nomatch hl.symm.trans (sv _ _ eD)
          replace gr := gr.same s24
          replace st := st.step s24
          clear SI3
          walk_at "g"
          refine ⟨g, .ref cl, _, rfl, dd_rb gr.noLst e24 lys rys okD, wtD, depth_rb _, ?_⟩
          clear e24 lys rys hcl s24
          walk_at "g"
          refine r_lcQ ?_
          walk_at "g"
          refine r_seqZ (.inl (SqL.of (st.at 4 rfl))) fun J4 SI4 cm hcm => ?_
          refine comp_rel SI4 hcm (show 3 < sizeLine by decide) (RB cm [D1, D2, D3]) RB.mono (fun r x G NN hx sG eD kk => ?_) fun H25 ys s25 e25 lys rys => ?_
          · have stG := st.step sG
            obtain ⟨l, nsx, D, rfl, iD, hG, okx, ibx⟩ : ∃ l nsx D, x = V.ref l ∧ [D1, D2, D3][r]? = some D ∧ G l = some (.lst (nsx.map fun m => V.str (S m))) ∧ NmsOk nsx ∧ IsBegs nsx D := by
              match r, hx with
              | 0, hx => cases hx; exact ⟨p6, us, D1, rfl, rfl, stG.at 9 rfl, ⟨lus, uus, fun m hm => (mus m hm).1⟩, ib1⟩
              | 1, hx => cases hx; exact ⟨d1, os.map Prod.fst, D2, rfl, rfl, stG.at 6 rfl, opsNms oko, ib2⟩
              | 2, hx => cases hx; exact ⟨d2, flagN os, D3, rfl, rfl, stG.at 5 rfl, flagNms oko, ib3⟩
              | k + 3, hx => cases hx
            walk_at "g"
            refine ⟨rfl, ?_⟩
            walk_at "g"
            refine ⟨l, nsx, rfl, hG, okx, fun GB p as D' sB hp ib hp' pr => ?_⟩
            obtain rfl := ibx.uniq ib
            refine kk _ _ sB ⟨p, as, D, rfl, fun q => ?_, iD, hp', pr⟩
            subst q
            obtain ⟨zs, eD⟩ := eD
            exact nomatch hp.symm.trans eD
          replace gr := gr.same s25
          replace st := st.step s25
          clear SI4
          walk_at "g"
          refine ⟨g, .ref cm, _, rfl, dd_rb gr.noLst e25 lys rys okD, wtD, depth_rb _, ?_⟩
          clear e25 lys rys hcm s25
          refine r_neS ?_
          rw [decide_eq_true rfl]
          walk_at "g"
          have lb1 := (okd_begs ⟨lus, uus, fun m hm => (mus m hm).1⟩ ib1).1
          have lb2 := (okd_begs (opsNms oko) ib2).1
          have lb3 := (okd_begs (flagNms oko) ib3).1
          refine r_for ?_
          refine r_isq ?_
          walk_at "g"
          refine ⟨tl, _, rfl, .inl ⟨SqL.of (st.at 0 rfl), ?_⟩⟩
          refine loop_lst (fun r σ' H' => ∃ (z9 : Option V) (kv1 kv2 kv3 : List (Key × V)), σ' = [some (.ref a), some (.int (j : Nat)), some (.ref b), some (.ref p3), some (.ref oa), y5, some (.ref p6), some (.ref ct), some (.ref g), z9, some (.ref dl), some (.int (i : Nat)), some (.ref tl), y13, y14, y15, y16, z17] ∧ Stand H1 H' b 91 F [(tl, .lst [.ref e1, .ref e2, .ref e3]), (e3, .dK kv3), (e2, .dK kv2), (e1, .dK kv1), (dl, .lst [.ref p6, .ref d1, .ref d2]), (d2, .lst ((flagN os).map fun m => V.str (S m))), (d1, .lst ((os.map Prod.fst).map fun m => V.str (S m))), (ct, .tup cs), (q1, .lst cs), (p6, .lst (us.map fun m => V.str (S m))), (p5, .lst (ns2.map fun m => V.str (S m))), (p4, .lst ((ns1.take kn).map fun m => V.str (S m))), (oa, .lst xs), (p3, .lst (ns1.map fun m => V.str (S m)))] ∧ GrAt CG CN H' F g us os (os.take 1) ∧ kv1.length ≤ 48 + r ∧ kv2.length ≤ 48 + r ∧ kv3.length ≤ 48 + r) (fun i σ' H' w => by obtain ⟨_, _, _, _, _, s, _⟩ := w; exact s.at 0 rfl) ⟨_, _, _, _, rfl, st, gr, by rw [List.length_map]; exact lb1, by rw [List.length_map]; exact lb2, by rw [List.length_map]; exact lb3⟩ (fun r x σ4 H26 hx w => ?_) fun σ4 H26 w => ?_
          · obtain ⟨z9, kv1, kv2, kv3, rfl, st, gr, l1, l2, l3⟩ := w
            match r, hx with
            | 0, hx =>
              cases hx
              walk_at "g"
              refine r_sdput ?_
              walk_at "g"
              refine ⟨e1, _, rfl, DPut.k (k := .inr "more") (st.at 3 rfl) (Nat.lt_of_le_of_lt l1 (by decide)), ?_⟩
              exact ⟨_, _, _, _, rfl, st.set 3 rfl, st.grSet gr 3 rfl (fun _ e => nomatch e), Nat.le_trans (putK_le ..) (by omega), by omega, by omega⟩
            | 1, hx =>
              cases hx
              walk_at "g"
              refine r_sdput ?_
              walk_at "g"
              refine ⟨e2, _, rfl, DPut.k (k := .inr "more") (st.at 2 rfl) (Nat.lt_of_le_of_lt l2 (by decide)), ?_⟩
              exact ⟨_, _, _, _, rfl, st.set 2 rfl, st.grSet gr 2 rfl (fun _ e => nomatch e), by omega, Nat.le_trans (putK_le ..) (by omega), by omega⟩
            | 2, hx =>
              cases hx
              walk_at "g"
              refine r_sdput ?_
              walk_at "g"
              refine ⟨e3, _, rfl, DPut.k (k := .inr "more") (st.at 1 rfl) (Nat.lt_of_le_of_lt l3 (by decide)), ?_⟩
              exact ⟨_, _, _, _, rfl, st.set 1 rfl, st.grSet gr 1 rfl (fun _ e => nomatch e), by omega, by omega, Nat.le_trans (putK_le ..) (by omega)⟩
            | k + 3, hx => cases hx
          · obtain ⟨z9, kv1, kv2, kv3, rfl, st, gr, l1, l2, l3⟩ := w
            exact ⟨_, _, _, _, F, rfl, (((st.drop rfl).drop rfl).drop rfl).drop rfl, gr⟩
        · obtain ⟨z9, z11, z12, z17, F, rfl, st, gr⟩ := w
          try dsimp only
          refine r_seqJ (fun σ' H' => ∃ (z9 z11 z12 z17 : Option V) (F : List Addr), σ' = [some (.ref a), some (.int (j : Nat)), some (.ref b), some (.ref p3), some (.ref oa), y5, some (.ref p6), some (.ref ct), some (.ref g), z9, some (.ref dl), z11, z12, y13, y14, y15, y16, z17] ∧ Stand H1 H' b 91 F [(dl, .lst [.ref p6, .ref d1, .ref d2]), (d2, .lst ((flagN os).map fun m => V.str (S m))), (d1, .lst ((os.map Prod.fst).map fun m => V.str (S m))), (ct, .tup cs), (q1, .lst cs), (p6, .lst (us.map fun m => V.str (S m))), (p5, .lst (ns2.map fun m => V.str (S m))), (p4, .lst ((ns1.take kn).map fun m => V.str (S m))), (oa, .lst xs), (p3, .lst (ns1.map fun m => V.str (S m)))] ∧ GrAt CG CN H' F g us os (os.take 1)) (fun N hN2 => ?_) ?_
          · walk_at "g"
            refine ⟨show 0 ≤ sizeLine by decide, fun pn hpn => ?_⟩
            replace gr := gr.same ((Same.refl H19).at hpn (.lst []))
            replace st := st.new hpn (.lst [])
            generalize upd H19 pn (.lst []) = H20 at st gr ⊢
            clear hpn
            refine r_neNil (ls := us) (SqL.of (st.at 6 rfl)) (SqL.of (st.at 0 rfl)) (fun m hm c hc => by have := (mus m hm).1.2.2 c hc; omega) ?_
            by_cases hu : us = []
            · rw [decide_eq_true hu]
              walk_at "g"
              exact hN2 _ _ ⟨_, _, _, _, F, rfl, st.drop rfl, gr⟩
            · rw [decide_eq_false hu]
              obtain ⟨u, um, hu1⟩ := atI_m1 hu
              walk_at "g"
              refine r_bm0 ?_
              walk_at "g"
              refine ⟨1, rfl, ?_⟩
              refine r_ixL (SqL.of (st.at 6 rfl)) hu1 ?_
              walk_at "g"
              refine ⟨show 1 ≤ sizeLine by decide, fun t ht => ?_⟩
              have sT := (Same.refl H20).at ht (.tup [.str (S u)])
              have eT : upd H20 t (.tup [.str (S u)]) t = some (.tup [.str (S u)]) := upd_same
              replace gr := gr.same sT
              replace st := st.step sT
              generalize upd H20 t (.tup [.str (S u)]) = G1 at st gr eT ⊢
              clear sT ht
              walk_at "g"
              refine ⟨.ref g, .ref t, rfl, .inr ⟨g, F, us, os, os.take 1, rfl, gr, .inl ⟨[S u], ⟨t, rfl, eT, .inr ⟨u, um, rfl⟩⟩, fun H21 F1 e1 D1 ou nw gr' ib hd f1 f2 => ?_⟩⟩⟩
              replace ib : IsBegs ((os.take 1).map Prod.fst) D1 := by
                unfold optS at ib
                rwa [if_neg (List.cons_ne_nil _ _)] at ib
              replace gr := gr'.trim
              replace st := st.told ou nw hd f1 f2
              clear ou nw hd f1 f2 gr' eT
              clear F
              obtain ⟨F, hF⟩ : ∃ F, trimF H21 F1 = F := ⟨_, rfl⟩
              rw [hF] at st gr
              clear hF
              walk_at "g"
              refine r_tyD (st.at 0 rfl) ?_
              refine ⟨e1, _, rfl, rfl, st.at 0 rfl, fun v hv => ?_⟩
              have sv := (Same.refl H21).at hv (L2.DX.itemsO v e1)
              have ev : upd H21 v (L2.DX.itemsO v e1) v = some (L2.DX.itemsO v e1) := upd_same
              replace gr := gr.same sv
              replace st := st.step sv
              generalize upd H21 v (L2.DX.itemsO v e1) = G2 at st gr ev ⊢
              clear sv hv
              walk_at "g"
              refine ⟨v, e1, _, rfl, ev, st.at 0 rfl, fun H22 l as s22 hl hl' prs => ?_⟩
              have prb := prB_of prs
              clear prs ev
              replace gr := gr.same s22
              replace st := st.step s22
              clear s22 hl
              walk_at "g"
              refine r_ixL (SqL.of (st.at 2 rfl)) (v := .ref d1) rfl ?_
              walk_at "g"
              refine r_slL (SqL.of (st.at 4 rfl)) fun p7 hp7 => ?_
              rw [show (1 : Int) = ((1 : Nat) : Int) from rfl, cutV_take, ← List.map_take, ← List.map_take]
              have s7 := (Same.refl H22).at hp7 (.lst (((os.take 1).map Prod.fst).map fun m => V.str (S m)))
              have e7 : upd H22 p7 (.lst (((os.take 1).map Prod.fst).map fun m => V.str (S m))) p7 = some (.lst (((os.take 1).map Prod.fst).map fun m => V.str (S m))) := upd_same
              replace hl' := s7 _ _ hl'
              replace prb := prb.same s7
              replace gr := gr.same s7
              replace st := st.step s7
              generalize upd H22 p7 (.lst (((os.take 1).map Prod.fst).map fun m => V.str (S m))) = G4 at st gr hl' prb e7 ⊢
              clear s7 hp7
              walk_at "g"
              refine ⟨p7, (os.take 1).map Prod.fst, rfl, e7, opsNms (oko.take 1), fun H23 p8 bs D2 s23 hp8 ib2 hp8' pr2 => ?_⟩
              obtain rfl := ib.uniq ib2
              refine ne_bg (okd_begs (opsNms (oko.take 1)) ib) (s23 _ _ hl') (prb.same s23) hp8' pr2 ?_
              walk_at "g"
              exact hN2 _ _ ⟨_, _, _, _, F, rfl, ((st.step s23).drop rfl).drop rfl, gr.same s23⟩
          · rintro σ4 H20 ⟨z9, z11, z12, z17, F, rfl, st, gr⟩
            walk_at "g"
            intro dd hdd
            replace gr := gr.same ((Same.refl H20).at hdd (.dK []))
            replace st := st.new hdd (.dK [])
            generalize upd H20 dd (.dK []) = H21 at st gr ⊢
            clear hdd
            walk_at "g"
            refine ⟨show 4 ≤ sizeLine by decide, fun ln hln => ?_⟩
            replace gr := gr.same ((Same.refl H21).at hln (.lst [.non, .int 5, .str "a", .ref dd]))
            replace st := st.new hln (.lst [.non, .int 5, .str "a", .ref dd])
            generalize upd H21 ln (.lst [.non, .int 5, .str "a", .ref dd]) = H22 at st gr ⊢
            clear hln
            walk_at "g"
            refine ⟨b, 4, _, rfl, st.bx, by omega, by decide, by decide, fun u H23 u0 u1 kp bx => ?_⟩
            replace gr := st.grDraw gr kp
            replace st := st.draw kp bx
            clear kp bx
            obtain ⟨y, hat, hy0⟩ : ∃ y, atI [.non, .int 5, .str "a", V.ref dd] u = some y ∧ (y = .non ∨ y = .int 5 ∨ y = .str "a" ∨ y = .ref dd) := by
              rcases (show u = 0 ∨ u = 1 ∨ u = 2 ∨ u = 3 by omega) with rfl | rfl | rfl | rfl
              · exact ⟨.non, rfl, .inl rfl⟩
              · exact ⟨.int 5, rfl, .inr (.inl rfl)⟩
              · exact ⟨.str "a", rfl, .inr (.inr (.inl rfl))⟩
              · exact ⟨.ref dd, rfl, .inr (.inr (.inr rfl))⟩
            refine r_ixL (SqL.of (st.at 0 rfl)) hat ?_
            clear hat u0 u1
            walk_at "g"
            refine ⟨show 1 ≤ sizeLine by decide, fun tz htz => ?_⟩
            have s24 := (Same.refl H23).at htz (.tup [.str "zzzzzzzz"])
            replace gr := gr.same s24
            replace st := st.new htz (.tup [.str "zzzzzzzz"])
            generalize upd H23 tz (.tup [.str "zzzzzzzz"]) = H24 at st gr ⊢
            clear htz s24
            walk_at "g"
            refine ⟨show 1 ≤ sizeLine by decide, fun la hla => ?_⟩
            have s25 := (Same.refl H24).at hla (.lst [.str "a"])
            replace gr := gr.same s25
            replace st := st.new hla (.lst [.str "a"])
            generalize upd H24 la (.lst [.str "a"]) = H25 at st gr ⊢
            clear hla s25
            walk_at "g"
            refine ⟨show 1 ≤ sizeLine by decide, fun t5 ht5 => ?_⟩
            have s26 := (Same.refl H25).at ht5 (.tup [.int 5])
            replace gr := gr.same s26
            replace st := st.new ht5 (.tup [.int 5])
            generalize upd H25 t5 (.tup [.int 5]) = H26 at st gr ⊢
            clear ht5 s26
            walk_at "g"
            refine ⟨show 5 ≤ sizeLine by decide, fun lo5 hlo => ?_⟩
            have s27 := (Same.refl H26).at hlo (.lst [.non, .ref tz, .ref la, .str "a", .ref t5])
            replace gr := gr.same s27
            replace st := st.new hlo (.lst [.non, .ref tz, .ref la, .str "a", .ref t5])
            generalize upd H26 lo5 (.lst [.non, .ref tz, .ref la, .str "a", .ref t5]) = H27 at st gr ⊢
            clear hlo s27
            walk_at "g"
            refine ⟨b, 5, _, rfl, st.bx, by omega, by decide, by decide, fun v H28 v0 v1 kp bx => ?_⟩
            replace gr := st.grDraw gr kp
            replace st := st.draw kp bx
            clear kp bx
            obtain ⟨x, hat, od0, dx, hx0⟩ : ∃ x, atI [.non, V.ref tz, V.ref la, .str "a", V.ref t5] v = some x ∧ OddC H28 us x ∧ ∃ dx, Shy g H28 x dx := by
              rcases (show v = 0 ∨ v = 1 ∨ v = 2 ∨ v = 3 ∨ v = 4 by omega) with rfl | rfl | rfl | rfl | rfl
              · exact ⟨.non, rfl, .non, _, .non, by decide, by decide⟩
              · exact ⟨.ref tz, rfl, .zz (st.at 3 rfl) fun u hu => (mus u hu).2, _, .tup (st.at 3 rfl) (.cons (.str _ (by decide) (by decide +kernel)) .nil), by decide +kernel, by decide +kernel⟩
              · exact ⟨.ref la, rfl, .lst (st.at 2 rfl), _, .lst (st.at 2 rfl) (fun e => gr.noLst _ (e ▸ st.at 2 rfl)) (.cons (.str _ (by decide) (by decide +kernel)) .nil), by decide +kernel, by decide +kernel⟩
              · exact ⟨.str "a", rfl, .str _, _, .str _ (by decide) (by decide +kernel), by decide +kernel, by decide +kernel⟩
              · exact ⟨.ref t5, rfl, .int (st.at 1 rfl), _, .tup (st.at 1 rfl) (.cons (.int _ (by decide)) .nil), by decide +kernel, by decide +kernel⟩
            obtain ⟨ng0, dy, hy1⟩ : NotGr H28 y ∧ ∃ dy, Shy g H28 y dy := by
              rcases hy0 with rfl | rfl | rfl | rfl
              · exact ⟨.non, _, .non, by decide +kernel, by decide +kernel⟩
              · exact ⟨.int 5, _, .int 5 (by decide), by decide +kernel, by decide +kernel⟩
              · exact ⟨.str _, _, .str _ (by decide) (by decide +kernel), by decide +kernel, by decide +kernel⟩
              · exact ⟨.dict (st.at 5 rfl), _, .dct (st.at 5 rfl), by decide +kernel, by decide +kernel⟩
            refine r_ixL (SqL.of (st.at 0 rfl)) hat ?_
            clear hat v0 v1 hy0
            walk_at "g"
            refine r_for ?_
            refine r_irng1 ?_
            walk_at "g"
            refine ⟨5, rfl, by decide, by decide, ?_⟩
            refine loop_rng (q := 5) (fun r σ' H' => ∃ (z15 z16 : Option V), σ' = [some (.ref a), some (.int (j : Nat)), some (.ref b), some (.ref p3), some (.ref oa), y5, some (.ref p6), some (.ref ct), some (.ref g), z9, some (.ref dl), z11, z12, some y, some x, z15, z16, z17] ∧ Same H28 H') ⟨_, _, rfl, Same.refl _⟩ (fun r σ5 H29 hr5 w => ?_) fun σ5 H29 w => ?_
            · obtain ⟨z15, z16, rfl, s29⟩ := w
              walk_at "g"
              refine ⟨r, y, x, rfl, hr5, .inl ⟨ng0.same s29, fun G1 pa s1 hpa epa => ?_⟩⟩
              replace s29 := s29.trans s1
              clear hpa s1
              walk_at "g"
              refine ⟨r, .ref g, x, rfl, hr5, .inr ⟨g, F, us, os, os.take 1, rfl, gr.same s29, od0.same s29, fun G2 pb s2 hpb epb => ?_⟩⟩
              replace s29 := s29.trans s2
              replace epa := s2 _ _ epa
              clear hpb s2
              walk_at "g"
              refine ⟨show 2 ≤ sizeLine by decide, fun pl hpl => ?_⟩
              have s3 := (Same.refl G2).at hpl (.lst [.ref pa, .ref pb])
              have epl : upd G2 pl (.lst [.ref pa, .ref pb]) pl = some (.lst [.ref pa, .ref pb]) := upd_same
              generalize upd G2 pl (.lst [.ref pa, .ref pb]) = G3 at s3 epl ⊢
              replace s29 := s29.trans s3
              replace epa := s3 _ _ epa
              replace epb := s3 _ _ epb
              clear hpl s3
              walk_at "g"
              obtain ⟨q1', q2', q3'⟩ := dd_two (gr.same s29).noLst epl epa epb (hy1.same s29) (hx0.same s29)
              refine ⟨g, .ref pl, _, rfl, q1', q2', q3', ?_⟩
              clear epl epa epb q1' q2' q3'
              walk_at "g"
              refine ⟨show 2 ≤ sizeLine by decide, fun pa hpa => ?_⟩
              have s4 := (Same.refl G3).at hpa (.lst [.str "grammar", y])
              have epa : upd G3 pa (.lst [.str "grammar", y]) pa = some (.lst [.str "grammar", y]) := upd_same
              generalize upd G3 pa (.lst [.str "grammar", y]) = G4 at s4 epa ⊢
              replace s29 := s29.trans s4
              clear hpa s4
              walk_at "g"
              refine ⟨show 2 ≤ sizeLine by decide, fun pb hpb => ?_⟩
              have s5 := (Same.refl G4).at hpb (.lst [.str "there", x])
              have epb : upd G4 pb (.lst [.str "there", x]) pb = some (.lst [.str "there", x]) := upd_same
              generalize upd G4 pb (.lst [.str "there", x]) = G5 at s5 epb ⊢
              replace s29 := s29.trans s5
              replace epa := s5 _ _ epa
              clear hpb s5
              walk_at "g"
              refine ⟨show 2 ≤ sizeLine by decide, fun pm hpm => ?_⟩
              have s6 := (Same.refl G5).at hpm (.lst [.ref pa, .ref pb])
              have epm : upd G5 pm (.lst [.ref pa, .ref pb]) pm = some (.lst [.ref pa, .ref pb]) := upd_same
              generalize upd G5 pm (.lst [.ref pa, .ref pb]) = G6 at s6 epm ⊢
              replace s29 := s29.trans s6
              replace epa := s6 _ _ epa
              replace epb := s6 _ _ epb
              clear hpm s6
              walk_at "g"
              obtain ⟨q1', q2', q3'⟩ := dd_two (gr.same s29).noLst epm epa epb (hy1.same s29) (hx0.same s29)
              refine ⟨g, .ref pm, _, rfl, q1', q2', q3', ?_⟩
              refine r_neS ?_
              rw [decide_eq_true rfl]
              walk_at "g"
              exact ⟨_, _, rfl, s29⟩
            · obtain ⟨z15, z16, rfl, s29⟩ := w
              exact ⟨_, _, _, _, _, _, _, _, _, _, _, _, _, _, _, _, _, rfl, s1.trans (st.same.trans s29)⟩
end
end K16
namespace K16
open PySem PySem.Spec PyProof.Rows L2 J M
local macro_rules | `(tactic| walk_at "hp") => `(tactic| first | assumption | exact upd_same | (rw [upd_ne (by assumption)]; walk_at "hp") | (rw [upd_ne (Ne.symm (by assumption))]; walk_at "hp"))
local macro_rules | `(tactic| walk_at "s") => `(tactic| first
  | ((with_reducible refine' r_var ?h ?k); (case h => exact rfl))
  | (with_reducible refine r_c ?_)
  | (with_reducible refine r_op ?_)
  | (with_reducible refine r_un ?_)
  | (with_reducible refine r_seq ?_)
  | (with_reducible refine r_next ?_)
  | (with_reducible refine r_sets ?_)
  | (with_reducible refine r_gname ?_)
  | (with_reducible refine r_ifS ?_)
  | (with_reducible refine r_gsub ?_)
  | (with_reducible refine r_test ?_)
  | (with_reducible refine r_tb ?_)
  | (with_reducible refine r_not ?_)
  | (with_reducible refine r_and ?_)
  | (with_reducible refine r_or ?_)
  | (with_reducible refine r_andV ?_)
  | (with_reducible refine r_orV ?_)
  | (with_reducible refine r_notV ?_)
  | (with_reducible refine r_ifE ?_)
  | (with_reducible refine r_chain ?_)
  | (with_reducible refine r_cb ?_)
  | (with_reducible refine r_cons ?_)
  | (with_reducible refine r_nil ?_)
  | (with_reducible refine r_call ?_)
  | (with_reducible refine r_lst ?_)
  | (with_reducible refine r_tup ?_)
  | (with_reducible refine r_slice ?_)
  | (with_reducible refine r_nop ?_)
  | (with_reducible refine r_part ?_)
  | (with_reducible refine r_bm ?_)
  | (with_reducible refine r_m1 ?_)
  | (with_reducible refine r_m0 ?_)
  | (with_reducible refine r_is ?_)
  | (with_reducible refine r_maxD ?_)
  | (with_reducible refine r_orT ?_)
  | (with_reducible refine r_truN ?_)
  | (with_reducible refine r_intI ?_)
  | (with_reducible refine r_intB ?_)
  | (with_reducible refine r_max2 ?_)
  | (with_reducible refine r_min2 ?_)
  | (with_reducible refine r_yes ?_)
  | (with_reducible refine r_bl ?_)
  | (with_reducible refine iteT ?_)
  | (with_reducible refine iteF ?_)
  | (with_reducible refine r_iteNT ?_)
  | (with_reducible refine r_iteNF ?_)
  | (with_reducible refine r_minL ?_)
  | (with_reducible refine r_gcons ?_)
  | (with_reducible refine r_gnil ?_)
  | (with_reducible refine r_par ?_)
  | (with_reducible refine r_par3 ?_)
  | (with_reducible refine r_is2 ?_)
  | (with_reducible refine r_is3 ?_)
  | (with_reducible refine r_dget ?_)
  | (with_reducible refine r_callS ?_)
  | (with_reducible refine r_rz ?_)
  | (with_reducible refine r_rev ?_)
  | (with_reducible refine r_isI ?_)
  | (with_reducible refine r_isStr ?_)
  | (with_reducible refine r_ret ?_)
  | (with_reducible refine r_drop ?_)
  | (with_reducible refine r_rI0 ?_)
  | (with_reducible refine r_addI ?_)
  | ((with_reducible show rI (fun _ j => 0 < j) _ (.int _) (.int _) _ _); refine r_rI (by first | omega | decide) ?_)
  | ((with_reducible show rI CDiv _ (.int _) (.int _) _ _); refine r_rI (by constructor <;> omega) ?_)
  | ((with_reducible show rI CPow _ (.int _) (.int _) _ _); refine r_rI (by refine ⟨by decide, by decide, ?_⟩; omega) ?_)
  | ((with_reducible show rMul (.int _) (.int _) _ _); refine r_mulI (cmulW (by omega) (by omega)) ?_)
  | (with_reducible refine r_cmpI ?_)
  | (with_reducible refine r_cmpS ?_)
  | (with_reducible refine r_eqI ?_)
  | (with_reducible refine r_neI ?_)
  | (with_reducible refine r_eqS ?_)
  | (with_reducible refine r_neS ?_)
  | (with_reducible refine r_inSF ?_)
  | (with_reducible refine r_inST ?_)
  | (with_reducible refine r_isiStr ?_)
  | ((with_reducible show rIx _ (.ref _) (.int _) _ _); refine' r_ixL (SqL.of ?h) ?e ?_; (case h => walk_at "hp"); (case e => rfl))
  | ((with_reducible show rSetL (.ref _) (.int _) _ _ _); refine' r_setL ?h ?e ?_; (case h => walk_at "hp"); (case e => rfl)))
local macro_rules | `(tactic| walk_at "g") => `(tactic| repeat walk_at "s")
local macro_rules | `(tactic| walk_at "x") => `(tactic| first | omega | decide +kernel | (simp only [List.length_cons, List.length_nil]; omega))
local macro_rules | `(tactic| walk_at "T1") => `(tactic| (first
  | walk_at "s"
  | ((with_reducible show rIx _ (.ref _) (.int _) _ _); refine' r_ixTu (SqT.of ?h) ?e ?_; (case h => first | assumption | walk_at "hp"); (case e => rfl))
  | (with_reducible refine r_lenSet ?_)
  | (with_reducible refine r_asg2 ?_)
  | (with_reducible refine iteDT (by walk_at "x") ?_)
  | (with_reducible refine iteDF (by walk_at "x") ?_)
  | (with_reducible refine iteNT (by walk_at "x") ?_)
  | (with_reducible refine iteNF (by walk_at "x") ?_)))
local macro_rules | `(tactic| walk_at "T") => `(tactic| repeat (first
  | walk_at "s"
  | ((with_reducible show rIx _ (.ref _) (.int _) _ _); refine' r_ixTu (SqT.of ?h) ?e ?_; (case h => first | assumption | walk_at "hp"); (case e => rfl))
  | (with_reducible refine r_lenSet ?_)
  | (with_reducible refine r_asg2 ?_)
  | (with_reducible refine iteDT (by walk_at "x") ?_)
  | (with_reducible refine iteDF (by walk_at "x") ?_)
  | (with_reducible refine iteNT (by walk_at "x") ?_)
  | (with_reducible refine iteNF (by walk_at "x") ?_)))
local macro_rules | `(tactic| walk_at "g") => `(tactic| repeat (first | walk_at "T1" | (with_reducible refine r_fld ?_) | (with_reducible refine r_sfl ?_) | (with_reducible refine r_ifT ?_) | (with_reducible refine r_nn ?_)))
abbrev s_iNoGrammar : Stmt := inClass (topS 8) 0
theorem sc_iNoGrammar : FnScope ["self", "found"] ["self", "found"] (defScope s_iNoGrammar) := ⟨rfl, rfl, rfl, by decide +kernel, rfl, by decide +kernel, by decide +kernel⟩
abbrev s_iNotThere : Stmt := inClass (topS 9) 0
theorem sc_iNotThere : FnScope ["self", "found"] ["self", "found"] (defScope s_iNotThere) := ⟨rfl, rfl, rfl, by decide +kernel, rfl, by decide +kernel, by decide +kernel⟩
section
variable {P : Program} {w : World} {K : PySem.W.Frag} {mg : Str → Option Value} {base : Heap}
theorem ok_iNoGrammar {f : Addr} {fd : FuncData} (F : Fun K "__init__" "NoGrammar.__init__" s_iNoGrammar f fd) : FnOk P w K mg base CX0 1 f fd ["self", "found"] (spInit K "found") := by
  refine F.ok sc_iNoGrammar (fun vs H Q E h => ?_) (fun cdv A outer s H vs Q E hr h => ?_)
  · obtain ⟨a, C, v, rfl, _⟩ := h
    rfl
  · obtain ⟨a, C, v, rfl, hT, hf, ha, k⟩ := h
    refine ⟨_, pss_one (asOst (K := K) rfl (ps_ost (pv 0) (pv 1))), ?_⟩
    refine r_ost ?_
    walk_at "g"
    exact ⟨a, C, rfl, hT, hf, .inl ⟨ha, fun dx hd ne => k dx hd ne⟩⟩
theorem ok_iNotThere {f : Addr} {fd : FuncData} (F : Fun K "__init__" "NotThere.__init__" s_iNotThere f fd) : FnOk P w K mg base CX0 1 f fd ["self", "found"] (spInitY K "found") := by
  refine F.ok sc_iNotThere (fun vs H Q E h => ?_) (fun cdv A outer s H vs Q E hr h => ?_)
  · obtain ⟨a, C, v, rfl, _⟩ := h
    rfl
  · obtain ⟨a, C, v, rfl, hT, hf, ha, k⟩ := h
    refine ⟨_, pss_one (asOsY (K := K) rfl (ps_osY (pv 0) (pv 1))), ?_⟩
    refine r_osY ?_
    walk_at "g"
    exact ⟨a, C, rfl, hT, hf, ha, fun dx hd ne => k dx hd ne⟩
end
end K16
namespace J
open PySem PySem.Spec PyProof.Rows L2 M
abbrev keX : Str → Str → Fx := errX (over keTail) "LookupError.__new__"
theorem ErrF.oy {P : Program} {w : World} {K : PySem.W.Frag} {mg : Str → Option Value} {base h : Heap} {x fld : Str} (E : ErrF K h mg (over keTail) "LookupError.__new__" x fld) {fd : FuncData} (F : FnOk P w K mg base CX0 1 (He.ma K (He.ga K x) "__init__") fd ["self", fld] (spInitY K fld)) (b : Binds K fd ["self", fld] []) : OY P w K mg base x fld (He.ga K x) :=
  { T := { cls := by
            obtain ⟨nm, q, N, bs, bm, sn, sub, ab, col, dd, k0, k1, k2, k3, k5, e, o⟩ := E.cls
            exact ⟨nm, q, N, bs, bm, sn, sub, ab, col, dd, k0, k1, k2, k3, k5, e, over_ok o⟩, sa := E.sa, ex := E.ex, ty := E.ty, kp := E.kp }, nf := E.nf, gl := E.gl, ini := ⟨_, fd, E.ini, E.ti, F, b⟩ }
theorem fun_ofK {K : PySem.W.Frag} {x q : Str} {st : Stmt} {kws : List (Str × V)} {f : Addr} {fd : FuncData} (F : FunD K x q (defArgs st) (defBody st) (defScope st) [] kws f fd) : Fun K x q st f fd := by
  obtain ⟨⟨oc, od, dV, kV, doc, pm, an, cdv, ct, osl, e, l, c, dv, _⟩, kp⟩ := F
  rcases dv with ⟨_, rfl⟩ | ⟨ne, _⟩
  · exact ⟨⟨oc, od, kV, doc, pm, an, cdv, ct, osl, e, l, c⟩, kp⟩
  · exact absurd rfl ne
/-- a method with one keyword-only default, None -/
def defN (x m q k : Str) (st : Stmt) : He.DefD := ⟨(x, some m), m, q, defArgs st, defBody st, defScope st, [], [(k, .non)]⟩
theorem SaysX.mthN {fx : List Fx} {fn : List He.DefD} {K : PySem.W.Frag} (c : SaysX fx fn K) (i : Nat) {x m q k : Str} {st : Stmt} (h : fn[i]? = some (defN x m q k st) := by rfl) : ∃ fd, FunD K m q (defArgs st) (defBody st) (defScope st) [] [(k, V.non)] (He.ma K (He.ga K x) m) fd :=
  let ⟨fd, F⟩ := c.dfn i h; ⟨fd, F⟩
def clsX (x : Str) : Fx := fun K => (He.Fa.cls x).ok K
def noatX (x f : Str) : Fx := fun K => (He.Fa.noat x f).ok K
def methX (x m : Str) : Fx := fun K => (He.Fa.meth x m).ok K
def mkrX (x : Str) : Fx := fun K => (He.Fa.mkr x).ok K
def exmX (x y : Str) (b : Bool) : Fx := fun K => (He.Fa.exm x y b).ok K
/-- a class of whose instances isinstance is asked -/
def insX (x : Str) : Fx := fun K => eqB (PySem.W.findIn K (.ref (He.ga K x)) "__class__") (some (some (.builtin "object.__class__"))) && (eqB (PySem.W.specialIn K (.builtin "object.__class__") "__get__") (some (some (.builtin "getset_descriptor.__get__"))) &&
  (decide (PySem.W.takesIn K (.builtin "object.__class__") = some true) && (decide (PySem.W.mroIn K (He.ga K x) (.type "object") = some true) && (decide (PySem.W.kitOne K (.ref (He.ga K x)) (.ref (He.ga K x)) = some true) &&
  (decide (PySem.W.kitOne K (.type "NoneType") (.ref (He.ga K x)) = some false) && (decide (PySem.W.kitOne K (.type "int") (.ref (He.ga K x)) = some false) && (decide (PySem.W.kitOne K (.type "str") (.ref (He.ga K x)) = some false) && decide (PySem.W.kitOne K (.type "dict") (.ref (He.ga K x)) = some false))))))))
theorem insX_ok {K : PySem.W.Frag} {x : Str} (C : Cls K (He.ga K x)) (c : insX x K = true) : GIs K (He.ga K x) := by
  unfold insX eqB at c
  simp only [Bool.and_eq_true, decide_eq_true_eq] at c
  obtain ⟨c1, c2, c3, c4, c5, c6, c7, c8, c9⟩ := c
  exact ⟨⟨C, c1, c2, c3, c4, c5⟩, c6, c7, c8, c9⟩
theorem exmX_ok {K : PySem.W.Frag} {x y : Str} {b : Bool} (c : exmX x y b K = true) : PySem.W.exmOne K (.ref (He.ga K x)) (.ref (He.ga K y)) = some b := of_decide_eq_true c
theorem binds_own {K : PySem.W.Frag} {x q : Str} {st : Stmt} {ps : List Str} {k : Str} {f : Addr} {fd : FuncData} {ds : List Value} (h : Vals ([(k, V.non)].map (·.2)) ds) (b : Binds K fd ps ds) : Binds K fd ps [Value.none] := by
  cases h with
  | cons a t =>
    cases t
    cases a
    exact b
end J
namespace J
open PySem PySem.Spec PyProof.Rows L2 M
def obsL (as : List Addr) (fx : List Fx) (fn : List He.DefD) (g : Addr → Option Obj) : He.AlD := obsX fx fn (He.frG g as)
def hookL (as : List Addr) (fx : List Fx) (fn : List He.DefD) : PySem.W.Hook :=
  { α := He.AlD, obs := fun s => obsL as fx fn s.heap.get?, val := fun _ => He.valD fn, says := fun _ h => ∃ K : PySem.W.Frag, K.In h ∧ SaysX fx fn K,
    of := fun _ _ e => ⟨_, He.frG_in, e⟩, keeps := fun _ _ _ z k => let ⟨K, hK, c⟩ := z; ⟨K, PySem.W.Frag.In.keeps hK k, c⟩ }
theorem obsL_eq {as : List Addr} {fx : List Fx} {fn : List He.DefD} {g : Addr → Option Obj} {s : Shared} (h : ∀ a, g a = s.heap.get? a) : obsL as fx fn g = (hookL as fx fn).obs s := by
  rw [show g = s.heap.get? from funext h]
  rfl
theorem opt3 {α β γ δ : Type} {o : Option α} {f : α → β} {g : α → γ} {k : α → δ} {b : β} {c : γ} {d : δ} (h1 : o.map (fun x => (f x, g x)) = some (b, c)) (h2 : o.map k = some d) : o.map (fun x => (f x, g x, k x)) = some (b, c, d) := by
  obtain ⟨x, e, q⟩ := Option.map_eq_some_iff.mp h1
  rw [e] at h2 ⊢
  have q2 : k x = d := Option.some.inj h2
  obtain ⟨e1, e2⟩ := Prod.mk.inj q
  show some (f x, g x, k x) = _
  rw [e1, e2, q2]
theorem walk_ofL {l : PySem.W.OpenLaw} {n k : Nat} {as : List Addr} {q : Program} {loose : List Str} {XP : (Str → Option Value) → Heap → Prop} {d : DefRec} {fx : List Fx} {fn : List He.DefD} {sp : PySem.W.Frag → Sp} {x : Str}
    (hn : l.most = some n) (hn2 : n ≤ sizeLine) (hdf : d.params.defaults = []) (hr : Room k callerA)
    (F : ∀ (w : World) (K : PySem.W.Frag) (mg : Str → Option Value) (fa : Addr) (h : Heap), K.In h → SaysX fx fn K → h.Ns mainGlobals mg → mg d.name = some (.ref fa) →
      ∃ fd : FuncData, (∀ (s : Shared) (u : Value), BindsTo s fd ⟨[u], []⟩ [(x, u)]) ∧ ∀ base : Heap, K.In base → base.Ns mainGlobals mg → FnG l.prog w K mg base CX0 k fa fd [x] (sp K))
    (hsp : ∀ (K : PySem.W.Frag) (H : Hp) (a : Addr) (ns : List Int), ns.length ≤ n → Only H → SqL K H a (ns.map V.int) → sp K [.ref a] H (fun v _ => v = .bl true) fun _ _ _ => False) :
    PySem.W.WalkO q loose XP (hookL as fx fn).says l.row.toRowW d [] (fun f vs => PySem.call f vs) :=
  walk_ofX (N := 0) hn hn2 hdf hr F hsp
end J
namespace K16
open PySem PySem.Spec PyProof.Rows L2 J M
def fx0 : List Fx := [gloX "is_name", gloX "is_path", gloX "own_name", gloX "_own_words", gloX "_has_none", gloX "_fitting", gloX "nodes_of", gloX "command_at", gloX "node_at", gloX "beginnings_of", gloX "_named_texts", gloX "command_words", gloX "option_words", gloX "flag_words", gloX "goes", gloX "goes_bare", gloX "begins_with_name", gloX "_is_tuple_to", gloX "has_option_form", gloX "_are_in_order", gloX "_are_places", gloX "has_command_form", gloX "are_unlike", gloX "_refuse_twice", gloX "_own_names", gloX "is_whole", gloX "fits_form", gloX "_has_default", gloX "_refuse_group", gloX "_look_at"]
def fx1 : List Fx := [gloX "_path_beneath", gloX "_refuse_deep", gloX "fitted", gloX "is_table", gloX "_law_box", gloX "_law_cell", gloX "_law_take", gloX "_law_names", gloX "_law_due", gloX "_law_caught", gloX "law", freeX "len", freeX "isinstance", freeX "str", freeX "int", freeX "bool", freeX "min", freeX "max", freeX "range", freeX "repr", freeX "list", freeX "tuple", freeX "set", freeX "all", freeX "any", freeX "sum", freeX "sorted", freeX "dict", freeX "enumerate", freeX "zip"]
def fx2 : List Fx := [freeX "reversed", intX "MOST_LETTERS" 8, intX "MOST_COUNT" 9, intX "NAME" 0, intX "OPTIONS" 1, intX "PLACES" 2, intX "GROUPS" 3, intX "COMMANDS" 4, intX "SHORT" 1, intX "FORM" 2, intX "KIND" 3, intX "COMMAND_PARTS" 5, intX "OPTION_PARTS" 7, intX "LAST_RANK" 2, intX "LEAST_OPTION_LETTERS" 2, intX "MOST_OPTIONS" 6, intX "MOST_PLACES" 4, intX "MOST_GROUPS" 4, intX "MOST_BENEATH" 6, intX "MOST_LEVELS" 2, intX "MOST_COMMANDS" 12, tupX "FORMS" [.str "flag", .str "count", .str "one", .str "many"], tupX "NEEDED" [.str "one", .str "some"], tupX "WITH_KIND" [.str "one", .str "many"], veX "NoGrammar" "found", keX "NotThere" "found", gloX "Node", gloX "Grammar", clsX "Node", clsX "Grammar"]
def fx3 : List Fx := [mkrX "Node", mkrX "Grammar", insX "Grammar", noatX "Grammar" "_own", noatX "Grammar" "_root", noatX "Grammar" "_commands", noatX "Grammar" "_words", noatX "Grammar" "_nodes", noatX "Node" "way", noatX "Node" "options", noatX "Node" "groups", noatX "Node" "place_parts", noatX "Node" "beneath", noatX "Node" "nothing", noatX "Node" "numbers", noatX "Node" "letters", noatX "Node" "owns", noatX "Node" "place_owns", noatX "Node" "fitting", noatX "Node" "needed", noatX "Node" "leads_free", noatX "Node" "leads_bare", noatX "Node" "goes", noatX "Node" "goes_bare", noatX "Node" "known_fits", noatX "Node" "known_sets", noatX "Node" "known_texts", noatX "Node" "known_shortest", noatX "Node" "known_rows", noatX "Node" "known_form"]
def fx4 : List Fx := [methX "Grammar" "is_there", methX "Grammar" "command", methX "Grammar" "node_of", methX "Node" "has_worths", methX "Node" "texts", exmX "NoGrammar" "NoGrammar" true, exmX "NotThere" "NoGrammar" false, exmX "NotThere" "NotThere" true]
def fx : List Fx := fx0 ++ fx1 ++ fx2 ++ fx3 ++ fx4
def fn0 : List He.DefD := [defX "is_name" s_is_name, defX "is_path" s_is_path, defX "own_name" s_own_name, defX "_own_words" s_own_words, defX "_has_none" s_has_none, defX "_fitting" s_fitting, defX "nodes_of" s_nodes_of, defX "command_at" s_command_at, defX "node_at" s_node_at, defX "beginnings_of" s_beginnings_of, defX "_named_texts" s_named_texts, defX "command_words" s_command_words, defX "option_words" s_option_words, defX "flag_words" s_flag_words, defX "goes" s_goes, defX "goes_bare" s_goes_bare, defX "begins_with_name" s_begins_with_name, defX "_is_tuple_to" s_is_tuple_to, defX "has_option_form" s_has_option_form, defX "_are_in_order" s_are_in_order, defX "_are_places" s_are_places, defX "has_command_form" s_has_command_form, defX "are_unlike" s_are_unlike, defX "_refuse_twice" s_refuse_twice, defX "_own_names" s_own_names, defX "is_whole" s_is_whole, defX "fits_form" s_fits_form, defX "_has_default" s_has_default, defX "_refuse_group" s_refuse_group, defX "_look_at" s_look_at]
def fn1 : List He.DefD := [defX "_path_beneath" s_path_beneath, defX "_refuse_deep" s_refuse_deep, defX "fitted" s_fitted, defX "is_table" s_is_table, defX "_law_box" s_law_box, defX "_law_cell" s_law_cell, defX "_law_take" s_law_take, defX "_law_names" s_law_names, defX "_law_due" s_law_due, defX "_law_caught" s_law_caught, defX "law" s_law, defM "NoGrammar" "__init__" "NoGrammar.__init__" s_iNoGrammar, defM "NotThere" "__init__" "NotThere.__init__" s_iNotThere, defM "Grammar" "is_there" "Grammar.is_there" s_Grammar_is_there, defM "Grammar" "command" "Grammar.command" s_Grammar_command, defM "Grammar" "node_of" "Grammar.node_of" s_Grammar_node_of, defM "Node" "has_worths" "Node.has_worths" s_Node_has_worths, defM "Node" "texts" "Node.texts" s_Node_texts, defM "Node" "__init__" "Node.__init__" s_Node_init, defN "Grammar" "__init__" "Grammar.__init__" "own" s_Grammar_init]
def fn : List He.DefD := fn0 ++ fn1
def lo0 : List Str := ["_wall", "CallError", "Missing", "Barred", "NoOwn", "Unfit", "NoGrammar", "NotThere", "MOST_LETTERS", "MOST_SIGNS", "MOST_NUMBER", "MOST_NAMES", "MOST_TEXT", "MOST_COUNT", "MOST_MANY", "is_whole", "is_name", "is_letter", "is_word", "are_signs", "is_kind", "_are_bounds", "_are_choices", "are_unlike", "fits", "has_any", "fits_form", "_fits_as_default", "_are_defaults"]
def lo1 : List Str := ["NAME", "OPTIONS", "PLACES", "GROUPS", "COMMANDS", "SHORT", "FORM", "KIND", "COMMAND_PARTS", "OPTION_PARTS", "PLACE_PARTS", "GROUP_PARTS", "FORMS", "WITH_KIND", "RANKS", "LAST_RANK", "NEEDED", "GROUPINGS", "LEAST_OPTION_LETTERS", "LEAST_GROUPED", "MOST_OPTIONS", "MOST_PLACES", "MOST_GROUPS", "MOST_BENEATH", "is_path", "begins_with_name", "has_command_form", "_is_tuple_to", "has_option_form", "_are_places"]
def lo2 : List Str := ["has_place_form", "_are_in_order", "has_group_form", "own_name", "MOST_LEVELS", "MOST_COMMANDS", "is_table", "asked", "fitted", "_path_beneath", "_look_at", "_refuse_twice", "_own_names", "_has_default", "_refuse_group", "_refuse_deep", "Node", "_own_words", "_fitting", "_has_none", "_holds", "beginnings_of", "nodes_of", "Grammar", "_named", "command_at", "node_at", "command_words", "option_words", "flag_words"]
def lo3 : List Str := ["_named_texts", "goes_bare", "goes", "_law_cell", "_law_box", "_law_take", "_law_names", "_law_kind", "_law_worth", "_law_has_worth", "_law_option", "_law_places", "_law_groups", "_law_command", "_law_own", "_law_teller", "_law_table", "_law_due", "_law_caught"]
def loose : List Str := lo0 ++ lo1 ++ lo2 ++ lo3
abbrev R : PySem.W.OpenRow := PySem.W.OpenLaw.row PySem.Challenge.rw_callwords_k16_beginnings_that_read
/-- where what is looked at stands -/
def as : List Addr := [3, 49, 62, 133, 152, 161, 168, 215, 236, 249, 250, 252, 258, 265, 270, 277, 284, 289, 301, 315, 320, 334, 341, 348, 353, 358, 363, 368, 375, 419, 430, 435, 442, 454, 459, 566, 584, 591, 596, 603, 610, 615, 622, 629, 636, 643, 650, 655, 718, 725, 730, 48, 61, 132, 151, 160, 167, 214, 235, 257, 264, 269, 276, 283, 288, 300, 314, 319, 333, 340, 347, 352, 357, 362, 367, 374, 418, 429, 434, 441, 453, 458, 565, 583, 590, 595, 602, 609, 614, 621, 628, 635, 642, 649, 654, 717, 724, 729, 130, 149, 387, 392, 409, 472, 493, 500, 549, 129, 148, 386, 391, 408, 471, 467, 492, 499, 548]
def ob (s : PySem.W.SharedT) : He.AlD := obsL as fx fn (HandSHeadRun.getT s)
set_option maxHeartbeats 0 in
theorem seen_f (w : World) : ((HandSHeadRun.wholeF (fun p => HandSHeadRun.stepQ (HandSHeadRun.denQ HandSHeadRun.tabQ) p (w.withFollow "special-get-raises" false)) HandSHeadRun.fenceQ 30000 R.prog).map (fun x => (HandSHeadRun.looksF R.prog x.1.heap x.2.abs, HandSHeadRun.seenQ (PySem.W.view R.prog [0, 116]) loose (importedModules R.prog.main.body) (fun s => PySem.W.xlAt (PySem.W.view R.prog [0, 116]) [] s && PySem.W.recOk R.toRowW.records s) x.2.abs))) = some (true, PySem.W.openGood (PySem.W.view R.prog [0, 116]) loose) := by kernel_rfl
set_option maxHeartbeats 0 in
theorem look_f (w : World) : ((HandSHeadRun.wholeF (fun p => HandSHeadRun.stepQ (HandSHeadRun.denQ HandSHeadRun.tabQ) p (w.withFollow "special-get-raises" false)) HandSHeadRun.fenceQ 30000 R.prog).map (fun x => ob x.2)) = some (He.valD fn) := by kernel_rfl
set_option maxHeartbeats 0 in
theorem seen_t (w : World) : ((HandSHeadRun.wholeF (fun p => HandSHeadRun.stepQ (HandSHeadRun.denQ HandSHeadRun.tabQ) p (w.withFollow "special-get-raises" true)) HandSHeadRun.fenceQ 30000 R.prog).map (fun x => (HandSHeadRun.looksF R.prog x.1.heap x.2.abs, HandSHeadRun.seenQ (PySem.W.view R.prog [0, 116]) loose (importedModules R.prog.main.body) (fun s => PySem.W.xlAt (PySem.W.view R.prog [0, 116]) [] s && PySem.W.recOk R.toRowW.records s) x.2.abs))) = some (true, PySem.W.openGood (PySem.W.view R.prog [0, 116]) loose) := by kernel_rfl
set_option maxHeartbeats 0 in
theorem look_t (w : World) : ((HandSHeadRun.wholeF (fun p => HandSHeadRun.stepQ (HandSHeadRun.denQ HandSHeadRun.tabQ) p (w.withFollow "special-get-raises" true)) HandSHeadRun.fenceQ 30000 R.prog).map (fun x => ob x.2)) = some (He.valD fn) := by kernel_rfl
theorem run (w : World) : HandSHeadRun.RunEqI R (PySem.W.view R.prog [0, 116]) (hookL as fx fn) ob 30000 loose w := PySem.W.byRow2 "special-get-raises" (P := fun w => HandSHeadRun.RunEqI R (PySem.W.view R.prog [0, 116]) (hookL as fx fn) ob 30000 loose w) (fun w => opt3 (seen_f w) (look_f w)) (fun w => opt3 (seen_t w) (look_t w)) w
theorem facts {P : Program} {w : World} {K : PySem.W.Frag} {h : Heap} {mg : Str → Option Value} {fa : Addr} (X : K.In h) (c : SaysX fx fn K) (G : h.Ns mainGlobals mg) (hfa : mg "law" = some (.ref fa)) :
    ∃ fd : FuncData, (∀ (s : Shared) (v : Value), BindsTo s fd ⟨[v], []⟩ [("_law_script", v)]) ∧ ∀ base : Heap, K.In base → base.Ns mainGlobals mg → FnG P w K mg base CX0 11 fa fd ["_law_script"] (spLaw K) := by
  have c_g_is_name := c.fact 0 rfl
  have c_g_is_path := c.fact 1 rfl
  have c_g_own_name := c.fact 2 rfl
  have c_g_own_words := c.fact 3 rfl
  have c_g_has_none := c.fact 4 rfl
  have c_g_fitting := c.fact 5 rfl
  have c_g_nodes_of := c.fact 6 rfl
  have c_g_command_at := c.fact 7 rfl
  have c_g_node_at := c.fact 8 rfl
  have c_g_beginnings_of := c.fact 9 rfl
  have c_g_named_texts := c.fact 10 rfl
  have c_g_command_words := c.fact 11 rfl
  have c_g_option_words := c.fact 12 rfl
  have c_g_flag_words := c.fact 13 rfl
  have c_g_goes := c.fact 14 rfl
  have c_g_goes_bare := c.fact 15 rfl
  have c_g_begins_with_name := c.fact 16 rfl
  have c_g_is_tuple_to := c.fact 17 rfl
  have c_g_has_option_form := c.fact 18 rfl
  have c_g_are_in_order := c.fact 19 rfl
  have c_g_are_places := c.fact 20 rfl
  have c_g_has_command_form := c.fact 21 rfl
  have c_g_are_unlike := c.fact 22 rfl
  have c_g_refuse_twice := c.fact 23 rfl
  have c_g_own_names := c.fact 24 rfl
  have c_g_is_whole := c.fact 25 rfl
  have c_g_fits_form := c.fact 26 rfl
  have c_g_has_default := c.fact 27 rfl
  have c_g_refuse_group := c.fact 28 rfl
  have c_g_look_at := c.fact 29 rfl
  have c_g_path_beneath := c.fact 30 rfl
  have c_g_refuse_deep := c.fact 31 rfl
  have c_g_fitted := c.fact 32 rfl
  have c_g_is_table := c.fact 33 rfl
  have c_g_law_box := c.fact 34 rfl
  have c_g_law_cell := c.fact 35 rfl
  have c_g_law_take := c.fact 36 rfl
  have c_g_law_names := c.fact 37 rfl
  have c_g_law_due := c.fact 38 rfl
  have c_g_law_caught := c.fact 39 rfl
  have c_g_law := c.fact 40 rfl
  have c_z_len := c.fact 41 rfl
  have c_z_isinstance := c.fact 42 rfl
  have c_z_str := c.fact 43 rfl
  have c_z_int := c.fact 44 rfl
  have c_z_bool := c.fact 45 rfl
  have c_z_min := c.fact 46 rfl
  have c_z_max := c.fact 47 rfl
  have c_z_range := c.fact 48 rfl
  have c_z_repr := c.fact 49 rfl
  have c_z_list := c.fact 50 rfl
  have c_z_tuple := c.fact 51 rfl
  have c_z_set := c.fact 52 rfl
  have c_z_all := c.fact 53 rfl
  have c_z_any := c.fact 54 rfl
  have c_z_sum := c.fact 55 rfl
  have c_z_sorted := c.fact 56 rfl
  have c_z_dict := c.fact 57 rfl
  have c_z_enumerate := c.fact 58 rfl
  have c_z_zip := c.fact 59 rfl
  have c_z_reversed := c.fact 60 rfl
  have c_n_MOST_LETTERS := c.fact 61 rfl
  have c_n_MOST_COUNT := c.fact 62 rfl
  have c_n_NAME := c.fact 63 rfl
  have c_n_OPTIONS := c.fact 64 rfl
  have c_n_PLACES := c.fact 65 rfl
  have c_n_GROUPS := c.fact 66 rfl
  have c_n_COMMANDS := c.fact 67 rfl
  have c_n_SHORT := c.fact 68 rfl
  have c_n_FORM := c.fact 69 rfl
  have c_n_KIND := c.fact 70 rfl
  have c_n_COMMAND_PARTS := c.fact 71 rfl
  have c_n_OPTION_PARTS := c.fact 72 rfl
  have c_n_LAST_RANK := c.fact 73 rfl
  have c_n_LEAST_OPTION_LETTERS := c.fact 74 rfl
  have c_n_MOST_OPTIONS := c.fact 75 rfl
  have c_n_MOST_PLACES := c.fact 76 rfl
  have c_n_MOST_GROUPS := c.fact 77 rfl
  have c_n_MOST_BENEATH := c.fact 78 rfl
  have c_n_MOST_LEVELS := c.fact 79 rfl
  have c_n_MOST_COMMANDS := c.fact 80 rfl
  have c_n_FORMS := c.fact 81 rfl
  have c_n_NEEDED := c.fact 82 rfl
  have c_n_WITH_KIND := c.fact 83 rfl
  have c_e_NoGrammar := c.fact 84 rfl
  have c_e_NotThere := c.fact 85 rfl
  have c_gl_Node := c.fact 86 rfl
  have c_gl_Grammar := c.fact 87 rfl
  have c_cl_Node := c.fact 88 rfl
  have c_cl_Grammar := c.fact 89 rfl
  have c_mk_Node := c.fact 90 rfl
  have c_mk_Grammar := c.fact 91 rfl
  have c_is_Grammar := c.fact 92 rfl
  have c_ga_own := c.fact 93 rfl
  have c_ga_root := c.fact 94 rfl
  have c_ga_commands := c.fact 95 rfl
  have c_ga_words := c.fact 96 rfl
  have c_ga_nodes := c.fact 97 rfl
  have c_na_way := c.fact 98 rfl
  have c_na_options := c.fact 99 rfl
  have c_na_groups := c.fact 100 rfl
  have c_na_place_parts := c.fact 101 rfl
  have c_na_beneath := c.fact 102 rfl
  have c_na_nothing := c.fact 103 rfl
  have c_na_numbers := c.fact 104 rfl
  have c_na_letters := c.fact 105 rfl
  have c_na_owns := c.fact 106 rfl
  have c_na_place_owns := c.fact 107 rfl
  have c_na_fitting := c.fact 108 rfl
  have c_na_needed := c.fact 109 rfl
  have c_na_leads_free := c.fact 110 rfl
  have c_na_leads_bare := c.fact 111 rfl
  have c_na_goes := c.fact 112 rfl
  have c_na_goes_bare := c.fact 113 rfl
  have c_na_known_fits := c.fact 114 rfl
  have c_na_known_sets := c.fact 115 rfl
  have c_na_known_texts := c.fact 116 rfl
  have c_na_known_shortest := c.fact 117 rfl
  have c_na_known_rows := c.fact 118 rfl
  have c_na_known_form := c.fact 119 rfl
  have c_mt_Grammar_is_there := c.fact 120 rfl
  have c_mt_Grammar_command := c.fact 121 rfl
  have c_mt_Grammar_node_of := c.fact 122 rfl
  have c_mt_Node_has_worths := c.fact 123 rfl
  have c_mt_Node_texts := c.fact 124 rfl
  have c_x_xx := c.fact 125 rfl
  have c_x_tx := c.fact 126 rfl
  have c_x_tt := c.fact 127 rfl
  obtain ⟨df_is_name, F_is_name⟩ := c.fn_ 0 rfl
  obtain ⟨df_is_path, F_is_path⟩ := c.fn_ 1 rfl
  obtain ⟨df_own_name, F_own_name⟩ := c.fn_ 2 rfl
  obtain ⟨df_own_words, F_own_words⟩ := c.fn_ 3 rfl
  obtain ⟨df_has_none, F_has_none⟩ := c.fn_ 4 rfl
  obtain ⟨df_fitting, F_fitting⟩ := c.fn_ 5 rfl
  obtain ⟨df_nodes_of, F_nodes_of⟩ := c.fn_ 6 rfl
  obtain ⟨df_command_at, F_command_at⟩ := c.fn_ 7 rfl
  obtain ⟨df_node_at, F_node_at⟩ := c.fn_ 8 rfl
  obtain ⟨df_beginnings_of, F_beginnings_of⟩ := c.fn_ 9 rfl
  obtain ⟨df_named_texts, F_named_texts⟩ := c.fn_ 10 rfl
  obtain ⟨df_command_words, F_command_words⟩ := c.fn_ 11 rfl
  obtain ⟨df_option_words, F_option_words⟩ := c.fn_ 12 rfl
  obtain ⟨df_flag_words, F_flag_words⟩ := c.fn_ 13 rfl
  obtain ⟨df_goes, F_goes⟩ := c.fn_ 14 rfl
  obtain ⟨df_goes_bare, F_goes_bare⟩ := c.fn_ 15 rfl
  obtain ⟨df_begins_with_name, F_begins_with_name⟩ := c.fn_ 16 rfl
  obtain ⟨df_is_tuple_to, F_is_tuple_to⟩ := c.fn_ 17 rfl
  obtain ⟨df_has_option_form, F_has_option_form⟩ := c.fn_ 18 rfl
  obtain ⟨df_are_in_order, F_are_in_order⟩ := c.fn_ 19 rfl
  obtain ⟨df_are_places, F_are_places⟩ := c.fn_ 20 rfl
  obtain ⟨df_has_command_form, F_has_command_form⟩ := c.fn_ 21 rfl
  obtain ⟨df_are_unlike, F_are_unlike⟩ := c.fn_ 22 rfl
  obtain ⟨df_refuse_twice, F_refuse_twice⟩ := c.fn_ 23 rfl
  obtain ⟨df_own_names, F_own_names⟩ := c.fn_ 24 rfl
  obtain ⟨df_is_whole, F_is_whole⟩ := c.fn_ 25 rfl
  obtain ⟨df_fits_form, F_fits_form⟩ := c.fn_ 26 rfl
  obtain ⟨df_has_default, F_has_default⟩ := c.fn_ 27 rfl
  obtain ⟨df_refuse_group, F_refuse_group⟩ := c.fn_ 28 rfl
  obtain ⟨df_look_at, F_look_at⟩ := c.fn_ 29 rfl
  obtain ⟨df_path_beneath, F_path_beneath⟩ := c.fn_ 30 rfl
  obtain ⟨df_refuse_deep, F_refuse_deep⟩ := c.fn_ 31 rfl
  obtain ⟨df_fitted, F_fitted⟩ := c.fn_ 32 rfl
  obtain ⟨df_is_table, F_is_table⟩ := c.fn_ 33 rfl
  obtain ⟨df_law_box, F_law_box⟩ := c.fn_ 34 rfl
  obtain ⟨df_law_cell, F_law_cell⟩ := c.fn_ 35 rfl
  obtain ⟨df_law_take, F_law_take⟩ := c.fn_ 36 rfl
  obtain ⟨df_law_names, F_law_names⟩ := c.fn_ 37 rfl
  obtain ⟨df_law_due, F_law_due⟩ := c.fn_ 38 rfl
  obtain ⟨df_law_caught, F_law_caught⟩ := c.fn_ 39 rfl
  obtain ⟨df_law, F_law⟩ := c.fn_ 40 rfl
  obtain ⟨di_iNoGrammar, F_iNoGrammar⟩ := c.mth 41 rfl
  obtain ⟨di_iNotThere, F_iNotThere⟩ := c.mth 42 rfl
  obtain ⟨dm_Grammar_is_there, F_Grammar_is_there⟩ := c.mth 43 rfl
  obtain ⟨dm_Grammar_command, F_Grammar_command⟩ := c.mth 44 rfl
  obtain ⟨dm_Grammar_node_of, F_Grammar_node_of⟩ := c.mth 45 rfl
  obtain ⟨dm_Node_has_worths, F_Node_has_worths⟩ := c.mth 46 rfl
  obtain ⟨dm_Node_texts, F_Node_texts⟩ := c.mth 47 rfl
  obtain ⟨dm_Node_init, F_Node_init⟩ := c.mth 48 rfl
  obtain ⟨dk_Grammar_init, F_Grammar_init⟩ := c.mthN 49 rfl
  obtain ⟨df_law, FD_law⟩ := c.dfn 40 (d := defX "law" s_law) rfl
  have FD_law : FunD K "law" "law" (defArgs s_law) (defBody s_law) (defScope s_law) [] [] (He.ga K "law") df_law := FD_law
  have F_law := fun_of FD_law
  have bL := FunD.bindsA (ps := ["_law_script"]) FD_law fun _ _ _ _ _ _ us hl => match us, hl with | [_], _ => rfl
  have D_is_name : DAt K mg "is_name" s_is_name P_is_name _ _ := ⟨F_is_name, He.glo_ok X G c_g_is_name, F_is_name.binds (ps := P_is_name) fun _ _ _ _ _ _ us hl => match us, hl with | [_], _ => rfl⟩
  have D_is_path : DAt K mg "is_path" s_is_path P_is_path _ _ := ⟨F_is_path, He.glo_ok X G c_g_is_path, F_is_path.binds (ps := P_is_path) fun _ _ _ _ _ _ us hl => match us, hl with | [_], _ => rfl⟩
  have D_own_name : DAt K mg "own_name" s_own_name P_own_name _ _ := ⟨F_own_name, He.glo_ok X G c_g_own_name, F_own_name.binds (ps := P_own_name) fun _ _ _ _ _ _ us hl => match us, hl with | [_], _ => rfl⟩
  have D_own_words : DAt K mg "_own_words" s_own_words P_own_words _ _ := ⟨F_own_words, He.glo_ok X G c_g_own_words, F_own_words.binds (ps := P_own_words) fun _ _ _ _ _ _ us hl => match us, hl with | [_, _], _ => rfl⟩
  have D_has_none : DAt K mg "_has_none" s_has_none P_has_none _ _ := ⟨F_has_none, He.glo_ok X G c_g_has_none, F_has_none.binds (ps := P_has_none) fun _ _ _ _ _ _ us hl => match us, hl with | [_, _], _ => rfl⟩
  have D_fitting : DAt K mg "_fitting" s_fitting P_fitting _ _ := ⟨F_fitting, He.glo_ok X G c_g_fitting, F_fitting.binds (ps := P_fitting) fun _ _ _ _ _ _ us hl => match us, hl with | [_, _, _, _], _ => rfl⟩
  have D_nodes_of : DAt K mg "nodes_of" s_nodes_of P_nodes_of _ _ := ⟨F_nodes_of, He.glo_ok X G c_g_nodes_of, F_nodes_of.binds (ps := P_nodes_of) fun _ _ _ _ _ _ us hl => match us, hl with | [_, _], _ => rfl⟩
  have D_command_at : DAt K mg "command_at" s_command_at P_command_at _ _ := ⟨F_command_at, He.glo_ok X G c_g_command_at, F_command_at.binds (ps := P_command_at) fun _ _ _ _ _ _ us hl => match us, hl with | [_, _], _ => rfl⟩
  have D_node_at : DAt K mg "node_at" s_node_at P_node_at _ _ := ⟨F_node_at, He.glo_ok X G c_g_node_at, F_node_at.binds (ps := P_node_at) fun _ _ _ _ _ _ us hl => match us, hl with | [_, _], _ => rfl⟩
  have D_beginnings_of : DAt K mg "beginnings_of" s_beginnings_of P_beginnings_of _ _ := ⟨F_beginnings_of, He.glo_ok X G c_g_beginnings_of, F_beginnings_of.binds (ps := P_beginnings_of) fun _ _ _ _ _ _ us hl => match us, hl with | [_], _ => rfl⟩
  have D_named_texts : DAt K mg "_named_texts" s_named_texts P_named_texts _ _ := ⟨F_named_texts, He.glo_ok X G c_g_named_texts, F_named_texts.binds (ps := P_named_texts) fun _ _ _ _ _ _ us hl => match us, hl with | [_, _], _ => rfl⟩
  have D_command_words : DAt K mg "command_words" s_command_words P_command_words _ _ := ⟨F_command_words, He.glo_ok X G c_g_command_words, F_command_words.binds (ps := P_command_words) fun _ _ _ _ _ _ us hl => match us, hl with | [_, _], _ => rfl⟩
  have D_option_words : DAt K mg "option_words" s_option_words P_option_words _ _ := ⟨F_option_words, He.glo_ok X G c_g_option_words, F_option_words.binds (ps := P_option_words) fun _ _ _ _ _ _ us hl => match us, hl with | [_, _], _ => rfl⟩
  have D_flag_words : DAt K mg "flag_words" s_flag_words P_flag_words _ _ := ⟨F_flag_words, He.glo_ok X G c_g_flag_words, F_flag_words.binds (ps := P_flag_words) fun _ _ _ _ _ _ us hl => match us, hl with | [_, _], _ => rfl⟩
  have D_goes : DAt K mg "goes" s_goes P_goes _ _ := ⟨F_goes, He.glo_ok X G c_g_goes, F_goes.binds (ps := P_goes) fun _ _ _ _ _ _ us hl => match us, hl with | [_, _], _ => rfl⟩
  have D_goes_bare : DAt K mg "goes_bare" s_goes_bare P_goes_bare _ _ := ⟨F_goes_bare, He.glo_ok X G c_g_goes_bare, F_goes_bare.binds (ps := P_goes_bare) fun _ _ _ _ _ _ us hl => match us, hl with | [_, _], _ => rfl⟩
  have D_begins_with_name : DAt K mg "begins_with_name" s_begins_with_name P_begins_with_name _ _ := ⟨F_begins_with_name, He.glo_ok X G c_g_begins_with_name, F_begins_with_name.binds (ps := P_begins_with_name) fun _ _ _ _ _ _ us hl => match us, hl with | [_], _ => rfl⟩
  have D_is_tuple_to : DAt K mg "_is_tuple_to" s_is_tuple_to P_is_tuple_to _ _ := ⟨F_is_tuple_to, He.glo_ok X G c_g_is_tuple_to, F_is_tuple_to.binds (ps := P_is_tuple_to) fun _ _ _ _ _ _ us hl => match us, hl with | [_, _], _ => rfl⟩
  have D_has_option_form : DAt K mg "has_option_form" s_has_option_form P_has_option_form _ _ := ⟨F_has_option_form, He.glo_ok X G c_g_has_option_form, F_has_option_form.binds (ps := P_has_option_form) fun _ _ _ _ _ _ us hl => match us, hl with | [_], _ => rfl⟩
  have D_are_in_order : DAt K mg "_are_in_order" s_are_in_order P_are_in_order _ _ := ⟨F_are_in_order, He.glo_ok X G c_g_are_in_order, F_are_in_order.binds (ps := P_are_in_order) fun _ _ _ _ _ _ us hl => match us, hl with | [_], _ => rfl⟩
  have D_are_places : DAt K mg "_are_places" s_are_places P_are_places _ _ := ⟨F_are_places, He.glo_ok X G c_g_are_places, F_are_places.binds (ps := P_are_places) fun _ _ _ _ _ _ us hl => match us, hl with | [_], _ => rfl⟩
  have D_has_command_form : DAt K mg "has_command_form" s_has_command_form P_has_command_form _ _ := ⟨F_has_command_form, He.glo_ok X G c_g_has_command_form, F_has_command_form.binds (ps := P_has_command_form) fun _ _ _ _ _ _ us hl => match us, hl with | [_], _ => rfl⟩
  have D_are_unlike : DAt K mg "are_unlike" s_are_unlike P_are_unlike _ _ := ⟨F_are_unlike, He.glo_ok X G c_g_are_unlike, F_are_unlike.binds (ps := P_are_unlike) fun _ _ _ _ _ _ us hl => match us, hl with | [_], _ => rfl⟩
  have D_refuse_twice : DAt K mg "_refuse_twice" s_refuse_twice P_refuse_twice _ _ := ⟨F_refuse_twice, He.glo_ok X G c_g_refuse_twice, F_refuse_twice.binds (ps := P_refuse_twice) fun _ _ _ _ _ _ us hl => match us, hl with | [_, _], _ => rfl⟩
  have D_own_names : DAt K mg "_own_names" s_own_names P_own_names _ _ := ⟨F_own_names, He.glo_ok X G c_g_own_names, F_own_names.binds (ps := P_own_names) fun _ _ _ _ _ _ us hl => match us, hl with | [_], _ => rfl⟩
  have D_is_whole : DAt K mg "is_whole" s_is_whole P_is_whole _ _ := ⟨F_is_whole, He.glo_ok X G c_g_is_whole, F_is_whole.binds (ps := P_is_whole) fun _ _ _ _ _ _ us hl => match us, hl with | [_, _, _], _ => rfl⟩
  have D_fits_form : DAt K mg "fits_form" s_fits_form P_fits_form _ _ := ⟨F_fits_form, He.glo_ok X G c_g_fits_form, F_fits_form.binds (ps := P_fits_form) fun _ _ _ _ _ _ us hl => match us, hl with | [_, _, _], _ => rfl⟩
  have D_has_default : DAt K mg "_has_default" s_has_default P_has_default _ _ := ⟨F_has_default, He.glo_ok X G c_g_has_default, F_has_default.binds (ps := P_has_default) fun _ _ _ _ _ _ us hl => match us, hl with | [_, _], _ => rfl⟩
  have D_refuse_group : DAt K mg "_refuse_group" s_refuse_group P_refuse_group _ _ := ⟨F_refuse_group, He.glo_ok X G c_g_refuse_group, F_refuse_group.binds (ps := P_refuse_group) fun _ _ _ _ _ _ us hl => match us, hl with | [_, _], _ => rfl⟩
  have D_look_at : DAt K mg "_look_at" s_look_at P_look_at _ _ := ⟨F_look_at, He.glo_ok X G c_g_look_at, F_look_at.binds (ps := P_look_at) fun _ _ _ _ _ _ us hl => match us, hl with | [_, _, _, _], _ => rfl⟩
  have D_path_beneath : DAt K mg "_path_beneath" s_path_beneath P_path_beneath _ _ := ⟨F_path_beneath, He.glo_ok X G c_g_path_beneath, F_path_beneath.binds (ps := P_path_beneath) fun _ _ _ _ _ _ us hl => match us, hl with | [_, _], _ => rfl⟩
  have D_refuse_deep : DAt K mg "_refuse_deep" s_refuse_deep P_refuse_deep _ _ := ⟨F_refuse_deep, He.glo_ok X G c_g_refuse_deep, F_refuse_deep.binds (ps := P_refuse_deep) fun _ _ _ _ _ _ us hl => match us, hl with | [_], _ => rfl⟩
  have D_fitted : DAt K mg "fitted" s_fitted P_fitted _ _ := ⟨F_fitted, He.glo_ok X G c_g_fitted, F_fitted.binds (ps := P_fitted) fun _ _ _ _ _ _ us hl => match us, hl with | [_, _], _ => rfl⟩
  have D_is_table : DAt K mg "is_table" s_is_table P_is_table _ _ := ⟨F_is_table, He.glo_ok X G c_g_is_table, F_is_table.binds (ps := P_is_table) fun _ _ _ _ _ _ us hl => match us, hl with | [_], _ => rfl⟩
  have D_law_box : DAt K mg "_law_box" s_law_box P_law_box _ _ := ⟨F_law_box, He.glo_ok X G c_g_law_box, F_law_box.binds (ps := P_law_box) fun _ _ _ _ _ _ us hl => match us, hl with | [_], _ => rfl⟩
  have D_law_cell : DAt K mg "_law_cell" s_law_cell P_law_cell _ _ := ⟨F_law_cell, He.glo_ok X G c_g_law_cell, F_law_cell.binds (ps := P_law_cell) fun _ _ _ _ _ _ us hl => match us, hl with | [_, _], _ => rfl⟩
  have D_law_take : DAt K mg "_law_take" s_law_take P_law_take _ _ := ⟨F_law_take, He.glo_ok X G c_g_law_take, F_law_take.binds (ps := P_law_take) fun _ _ _ _ _ _ us hl => match us, hl with | [_, _], _ => rfl⟩
  have D_law_names : DAt K mg "_law_names" s_law_names P_law_names _ _ := ⟨F_law_names, He.glo_ok X G c_g_law_names, F_law_names.binds (ps := P_law_names) fun _ _ _ _ _ _ us hl => match us, hl with | [_, _, _], _ => rfl⟩
  have D_law_due : DAt K mg "_law_due" s_law_due P_law_due _ _ := ⟨F_law_due, He.glo_ok X G c_g_law_due, F_law_due.binds (ps := P_law_due) fun _ _ _ _ _ _ us hl => match us, hl with | [_], _ => rfl⟩
  have D_law_caught : DAt K mg "_law_caught" s_law_caught P_law_caught _ _ := ⟨F_law_caught, He.glo_ok X G c_g_law_caught, F_law_caught.binds (ps := P_law_caught) fun _ _ _ _ _ _ us hl => match us, hl with | [_, _, _], _ => rfl⟩
  have eL := hfa.symm.trans (He.glo_ok X G c_g_law)
  cases eL
  have T : Tx K mg := { z_len := He.free_ok X G c_z_len, z_isinstance := He.free_ok X G c_z_isinstance, z_str := He.free_ok X G c_z_str, z_int := He.free_ok X G c_z_int, z_bool := He.free_ok X G c_z_bool, z_min := He.free_ok X G c_z_min, z_max := He.free_ok X G c_z_max, z_range := He.free_ok X G c_z_range, z_repr := He.free_ok X G c_z_repr, z_list := He.free_ok X G c_z_list, z_tuple := He.free_ok X G c_z_tuple, z_set := He.free_ok X G c_z_set, z_all := He.free_ok X G c_z_all, z_any := He.free_ok X G c_z_any, z_sum := He.free_ok X G c_z_sum, z_sorted := He.free_ok X G c_z_sorted, z_dict := He.free_ok X G c_z_dict, z_enumerate := He.free_ok X G c_z_enumerate, z_zip := He.free_ok X G c_z_zip, z_reversed := He.free_ok X G c_z_reversed, c_MOST_LETTERS := He.int_ok X G c_n_MOST_LETTERS, c_MOST_COUNT := He.int_ok X G c_n_MOST_COUNT, c_NAME := He.int_ok X G c_n_NAME, c_OPTIONS := He.int_ok X G c_n_OPTIONS, c_PLACES := He.int_ok X G c_n_PLACES, c_GROUPS := He.int_ok X G c_n_GROUPS, c_COMMANDS := He.int_ok X G c_n_COMMANDS, c_SHORT := He.int_ok X G c_n_SHORT, c_FORM := He.int_ok X G c_n_FORM, c_KIND := He.int_ok X G c_n_KIND, c_COMMAND_PARTS := He.int_ok X G c_n_COMMAND_PARTS, c_OPTION_PARTS := He.int_ok X G c_n_OPTION_PARTS, c_LAST_RANK := He.int_ok X G c_n_LAST_RANK, c_LEAST_OPTION_LETTERS := He.int_ok X G c_n_LEAST_OPTION_LETTERS, c_MOST_OPTIONS := He.int_ok X G c_n_MOST_OPTIONS, c_MOST_PLACES := He.int_ok X G c_n_MOST_PLACES, c_MOST_GROUPS := He.int_ok X G c_n_MOST_GROUPS, c_MOST_BENEATH := He.int_ok X G c_n_MOST_BENEATH, c_MOST_LEVELS := He.int_ok X G c_n_MOST_LEVELS, c_MOST_COMMANDS := He.int_ok X G c_n_MOST_COMMANDS, c_FORMS := tupX_ok X G c_n_FORMS, c_NEEDED := tupX_ok X G c_n_NEEDED, c_WITH_KIND := tupX_ok X G c_n_WITH_KIND }
  have E_NoGrammar := errX_ok X G c_e_NoGrammar
  have E_NotThere := errX_ok X G c_e_NotThere
  have O_NoGrammar : ∀ base : Heap, OE P w K mg base "NoGrammar" "found" _ := fun base => E_NoGrammar.oe (ok_iNoGrammar F_iNoGrammar) (F_iNoGrammar.binds (ps := ["self", "found"]) fun _ _ _ _ _ _ us hl => match us, hl with | [_, _], _ => rfl)
  have O_NotThere : ∀ base : Heap, OY P w K mg base "NotThere" "found" _ := fun base => E_NotThere.oy (ok_iNotThere F_iNotThere) (F_iNotThere.binds (ps := ["self", "found"]) fun _ _ _ _ _ _ us hl => match us, hl with | [_, _], _ => rfl)
  have GC : GrC K (He.ga K "Grammar") := { cls := He.cls_ok c_cl_Grammar, own := He.noat_ok c_ga_own, root := He.noat_ok c_ga_root, commands := He.noat_ok c_ga_commands, words := He.noat_ok c_ga_words, nodes := He.noat_ok c_ga_nodes }
  have NC : NodeC K (He.ga K "Node") := { cls := He.cls_ok c_cl_Node, way := He.noat_ok c_na_way, options := He.noat_ok c_na_options, groups := He.noat_ok c_na_groups, place_parts := He.noat_ok c_na_place_parts, beneath := He.noat_ok c_na_beneath, nothing := He.noat_ok c_na_nothing, numbers := He.noat_ok c_na_numbers, letters := He.noat_ok c_na_letters, owns := He.noat_ok c_na_owns, place_owns := He.noat_ok c_na_place_owns, fitting := He.noat_ok c_na_fitting, needed := He.noat_ok c_na_needed, leads_free := He.noat_ok c_na_leads_free, leads_bare := He.noat_ok c_na_leads_bare, goes := He.noat_ok c_na_goes, goes_bare := He.noat_ok c_na_goes_bare, known_fits := He.noat_ok c_na_known_fits, known_sets := He.noat_ok c_na_known_sets, known_texts := He.noat_ok c_na_known_texts, known_shortest := He.noat_ok c_na_known_shortest, known_rows := He.noat_ok c_na_known_rows, known_form := He.noat_ok c_na_known_form }
  have GI : GIs K (He.ga K "Grammar") := insX_ok GC.cls c_is_Grammar
  have TQ : TQ16 K (He.ga K "NotThere") (He.ga K "NoGrammar") := { xx := exmX_ok c_x_xx, tx := exmX_ok c_x_tx, tt := exmX_ok c_x_tt, fx := E_NoGrammar.xf, ft := E_NotThere.xf }
  have D_Grammar_is_there : MAt K (He.ga K "Grammar") "is_there" "Grammar.is_there" s_Grammar_is_there P_Grammar_is_there _ _ := ⟨F_Grammar_is_there, He.meth_ok c_mt_Grammar_is_there, F_Grammar_is_there.binds (ps := P_Grammar_is_there) fun _ _ _ _ _ _ us hl => match us, hl with | [_, _], _ => rfl⟩
  have D_Grammar_command : MAt K (He.ga K "Grammar") "command" "Grammar.command" s_Grammar_command P_Grammar_command _ _ := ⟨F_Grammar_command, He.meth_ok c_mt_Grammar_command, F_Grammar_command.binds (ps := P_Grammar_command) fun _ _ _ _ _ _ us hl => match us, hl with | [_, _], _ => rfl⟩
  have D_Grammar_node_of : MAt K (He.ga K "Grammar") "node_of" "Grammar.node_of" s_Grammar_node_of P_Grammar_node_of _ _ := ⟨F_Grammar_node_of, He.meth_ok c_mt_Grammar_node_of, F_Grammar_node_of.binds (ps := P_Grammar_node_of) fun _ _ _ _ _ _ us hl => match us, hl with | [_, _], _ => rfl⟩
  have D_Node_has_worths : MAt K (He.ga K "Node") "has_worths" "Node.has_worths" s_Node_has_worths P_Node_has_worths _ _ := ⟨F_Node_has_worths, He.meth_ok c_mt_Node_has_worths, F_Node_has_worths.binds (ps := P_Node_has_worths) fun _ _ _ _ _ _ us hl => match us, hl with | [_], _ => rfl⟩
  have D_Node_texts : MAt K (He.ga K "Node") "texts" "Node.texts" s_Node_texts P_Node_texts _ _ := ⟨F_Node_texts, He.meth_ok c_mt_Node_texts, F_Node_texts.binds (ps := P_Node_texts) fun _ _ _ _ _ _ us hl => match us, hl with | [_], _ => rfl⟩
  have D_Node_init : IAt K mg "Node" (He.ga K "Node") "Node.__init__" s_Node_init P_Node_init [] _ _ := ⟨F_Node_init, He.mkr_ok c_mk_Node, He.glo_ok X G c_gl_Node, F_Node_init.binds (ps := P_Node_init) fun _ _ _ _ _ _ us hl => match us, hl with | [_, _, _, _, _], _ => rfl⟩
  obtain ⟨ds_G, hv_G, hb_G⟩ := F_Grammar_init.binds0 (ps := P_Grammar_init) 2 (by simp) rfl (fun D doc pm an cdv ct us ks h1 h2 => match us, h1, ks, h2 with | [_, _], _, [_], _ => ⟨_, _, _, _, _, _, rfl, rfl, rfl⟩)
  have D_Grammar_init : IAt K mg "Grammar" (He.ga K "Grammar") "Grammar.__init__" s_Grammar_init P_Grammar_init [.none] _ _ := ⟨fun_ofK F_Grammar_init, He.mkr_ok c_mk_Grammar, He.glo_ok X G c_gl_Grammar, binds_own (x := "__init__") (q := "Grammar.__init__") (st := s_Grammar_init) (f := He.ma K (He.ga K "Grammar") "__init__") hv_G hb_G⟩
  exact ⟨df_law, fun s v => bL s [v] rfl, fun base _ _ => ok_law T TQ GI GC NC (He.glo_ok X G c_gl_Grammar) (O_NotThere base) (O_NoGrammar base) F_law D_is_name D_is_path D_own_name D_own_words D_has_none D_fitting D_nodes_of D_command_at D_node_at D_beginnings_of D_named_texts D_command_words D_option_words D_flag_words D_goes D_goes_bare D_begins_with_name D_is_tuple_to D_has_option_form D_are_in_order D_are_places D_has_command_form D_are_unlike D_refuse_twice D_own_names D_is_whole D_fits_form D_has_default D_refuse_group D_look_at D_path_beneath D_refuse_deep D_fitted D_is_table D_law_box D_law_cell D_law_take D_law_names D_law_due D_law_caught D_Node_init D_Grammar_init D_Grammar_is_there D_Grammar_command D_Grammar_node_of D_Node_has_worths D_Node_texts⟩
end K16
open PySem PySem.W PySem.Calls PyProof.Rows
set_option maxRecDepth 100000 in
set_option maxHeartbeats 0 in
theorem PySem.Challenge.cw_callwords_k16_beginnings_that_read_holds : PySem.Challenge.rw_callwords_k16_beginnings_that_read.Holds := by
  w_on; o_law
  refine HandSHeadRun.head_imp (r := OpenLaw.row PySem.Challenge.rw_callwords_k16_beginnings_that_read) (q := view (OpenLaw.row PySem.Challenge.rw_callwords_k16_beginnings_that_read).prog [0, 116]) (H := J.hookL K16.as K16.fx K16.fn) (ob := K16.ob) (M := 30000) (loose := K16.loose) (d := HandSHeadRun.topDef (OpenLaw.row PySem.Challenge.rw_callwords_k16_beginnings_that_read).prog 116) (kwd := []) (fun s => J.obsL_eq (HandSHeadRun.getT_eq s))
    K16.run (by kernel_rfl) (by kernel_rfl) (by kernel_rfl) (by rfl) (by first | assumption | decide +kernel) (by decide +kernel) ⟨rfl, rfl, rfl, rfl, rfl, by decide +kernel⟩ ?hw ?hc
  case hw => w_witness2
  case hc =>
    refine J.walk_ofL (l := PySem.Challenge.rw_callwords_k16_beginnings_that_read) (n := 63) (k := 11) (x := "_law_script") (sp := J.spLaw) rfl (by decide) (by kernel_rfl) ⟨rfl, by decide, by decide⟩ ?F (fun K H a ns hl _ hS => ⟨a, ns, rfl, hS, hl, fun _ => rfl⟩)
    intro w K mg fa h KX c G hmg0
    have hmg : mg ("law" : PySem.Str) = some (.ref fa) := by
      rw [show ("law" : PySem.Str) = (HandSHeadRun.topDef (OpenLaw.row PySem.Challenge.rw_callwords_k16_beginnings_that_read).prog 116).name from by kernel_rfl]
      exact hmg0
    exact K16.facts KX c G hmg
