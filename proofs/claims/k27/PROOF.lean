import PyProof.Rows.All
import Wide.All
import OpenK.AllK
import Wide.FinOn
import HandS.ForMost
import HandS.ForExc
import HandS.Zip
import HandS.Wide
import HandS.IsInst
import HandS.Defaults
import HandS.ExcInit
import HandS.ExcField
import HandS.TryMany
import HandS.RaiseMore
import HandS.FStr
import HandS.OwnEq
import HandS.Star
import HandS.ClsMeth
import HandS.TupAny
import HandS.Flow
import HandS.MakeKw
import PyProof.ReprRoads
import PyProof.CallFns
import HandS.Style
import HandS.CallLocal
import HandS.Sort
import HandS.More
import HandS.Flt
import HandS.Dict
import HandS.Iter
import HandS.Text
import KE.KDictList
import HandS.Conv
import HandS.Walk
import HandS.Deep
import HandS.NoneIn
import HandS.WordsExc
import HandS.ExcOwn
import HandS.CallSlots
import HandS.ExcIs
import KE.KExcIs
import KE.GoesEnum
import HandS.TupSets
import HandS.SetFor
import HandS.Small
import HandS.DictComp
import HandS.StrMore
import HandS.WideBits
import HandS.MakeKwOnly
import HandS.TupMul
import KE.KOpsOwn
import HandS.ListEq
import PyProof.NeKinds
import KE.KDictPairs
import PySem.Challenge.RW_lapseseats_k27_values_that_are_no_faults
set_option Elab.async false
set_option linter.all false
set_option maxRecDepth 100000
set_option maxHeartbeats 2000000
namespace CL
open PySem PySem.Spec PyProof.Rows L2
structure Chk (P k : Prop) : Prop where
  p : P
  k : k
structure New (H : Hp) (o : HO) (k : Addr → Hp → Prop) : Prop where
  k : ∀ p, H p = none → k p (upd H p o)
structure Br (c : Bool) (A B : Prop) : Prop where
  t : c = true → A
  f : c = false → B
theorem Br.ite {c : Bool} {A B : Prop} (h : Br c A B) : if c = true then A else B := by
  cases c with
  | true => rw [if_pos rfl]; exact h.t rfl
  | false => rw [if_neg Bool.false_ne_true]; exact h.f rfl
theorem br_t {c : Bool} {A B : Prop} (h : c = true) (a : A) : Br c A B := Br.mk (fun _ => a) (fun z => by rw [h] at z; cases z)
theorem br_f {c : Bool} {A B : Prop} (h : c = false) (b : B) : Br c A B := Br.mk (fun z => by rw [h] at z; cases z) (fun _ => b)
/-- a list or a tuple is read -/
structure Sq (K : PySem.W.Frag) (H : Hp) (p : Addr) (k : List V → Prop) : Prop where
  ex : ∃ xs, (SqL K H p xs ∨ SqT K H p xs) ∧ k xs
theorem Sq.l {K : PySem.W.Frag} {H : Hp} {p : Addr} {k : List V → Prop} {xs : List V} (h : SqL K H p xs) (q : k xs) : Sq K H p k := ⟨xs, .inl h, q⟩
theorem Sq.t {K : PySem.W.Frag} {H : Hp} {p : Addr} {k : List V → Prop} {xs : List V} (h : SqT K H p xs) (q : k xs) : Sq K H p k := ⟨xs, .inr h, q⟩
/-- a mutable list -/
structure Ls (H : Hp) (p : Addr) (k : List V → Prop) : Prop where
  ex : ∃ xs, H p = some (.lst xs) ∧ k xs
theorem Ls.mk' {H : Hp} {p : Addr} {k : List V → Prop} {xs : List V} (h : H p = some (.lst xs)) (q : k xs) : Ls H p k := ⟨xs, h, q⟩
/-- a field of an instance -/
structure Fld (K : PySem.W.Frag) (H : Hp) (p : Addr) (f : Str) (k : V → Prop) : Prop where
  ex : ∃ C dx fs v, H p = some (.ins C dx fs) ∧ Cls K C ∧ NoAttr K C f ∧ fs.lookup f = some v ∧ k v
structure SetF (K : PySem.W.Frag) (H : Hp) (p : Addr) (f : Str) (y : V) (k : Hp → Prop) : Prop where
  ex : ∃ C dx fs, H p = some (.ins C dx fs) ∧ Cls K C ∧ NoAttr K C f ∧ fs.length < 1000 ∧ k (upd H p (.ins C dx (putF f y fs)))
/-- a call of a def: its promise -/
structure Ask (P : Prop) : Prop where
  a : P
/-- isinstance of anything -/
structure IsI (K : PySem.W.Frag) (H : Hp) (x : V) (u : Value) (k : Bool → Prop) : Prop where
  ex : ∃ t b, TyX K H x t ∧ PySem.W.kitOne K t u = some b ∧ k b
section
variable {X : Cx}
theorem weak {e : Expr} {t t' : TE} (h : PE X e t) (w : ∀ σ H Q, t' σ H Q → t σ H Q) : PE X e t' := ⟨fun pins s σ H Q I q => h.run pins s σ H Q I (w _ _ _ q)⟩
theorem weakS {e : Stmt} {t t' : TS} (h : PS X e t) (w : ∀ D σ H, t' D σ H → t D σ H) : PS X e t' := ⟨fun pins s σ H D I q => h.run pins s σ H D I (w _ _ _ q)⟩
end
def cVar (i : Nat) : TE := fun σ H Q => match σ[i]? with
  | some (some v) => Q v H
  | _ => False
theorem c_var {X : Cx} (i : Nat) {x : Str} {pos : Pos} (hN : X.N[i]? = some x := by rfl) (hv : Vis X.env.scope x := by first | exact Or.inl rfl | exact Or.inr (Or.inl rfl) | exact Or.inr (Or.inr rfl)) (hd : (x == ("__debug__" : Str)) = false := by decide)
    (hcd : (x == ("__classdict__" : Str)) = false := by decide) : PE X (.Name x pos) (cVar i) := weak (pe_var hN hv hd hcd) fun σ H Q h => by
  unfold cVar at h
  split at h
  · rename_i v e; exact ⟨v, e, h⟩
  · exact h.elim
def rSubC : R2 := fun x y H Q => match x, y with
  | .int i, .int j => Q (.int (i - j)) H
  | _, _ => False
theorem c_sub {X : Cx} : OpR X (binaryOp .Sub) rSubC := by
  intro pins s σ H x y v u Q I rx ry h
  unfold rSubC at h
  split at h
  · exact op_sub pins s σ H _ _ v u Q I rx ry ⟨_, _, rfl, rfl, h⟩
  · exact h.elim
def rMulC : R2 := fun x y H Q => match x, y with
  | .int i, .int j => Chk (CMul i j ∨ CMulW i j) (Q (.int (i * j)) H)
  | .ref p, .int k => Ls H p fun xs => Chk (-(2 ^ 63) ≤ k ∧ k < 2 ^ 63 ∧ xs.length * k.toNat ≤ sizeLine) (rRep (.ref p) (.int k) H Q)
  | _, _ => False
theorem c_mul {X : Cx} : OpR X (binaryOp .Mult) rMulC := by
  intro pins s σ H x y v u Q I rx ry h
  unfold rMulC at h
  split at h
  · rcases h.p with z | z
    · exact op_mul pins s σ H _ _ v u Q I rx ry ⟨_, _, rfl, rfl, z, h.k⟩
    · exact op_mulW pins s σ H _ _ v u Q I rx ry ⟨_, _, rfl, rfl, z, h.k⟩
  · obtain ⟨⟨xs, h1, h2⟩⟩ := h
    exact op_rep pins s σ H _ _ v u Q I rx ry h2.k
  · exact h.elim
def rDivC : R2 := fun x y H Q => match x, y with
  | .int i, .int j => Chk (CDiv i j ∨ CDivW i j) (Q (.int (i / j)) H)
  | _, _ => False
theorem c_div {X : Cx} : OpR X (binaryOp .FloorDiv) rDivC := by
  intro pins s σ H x y v u Q I rx ry h
  unfold rDivC at h
  split at h
  · rcases h.p with z | z
    · exact op_fdiv pins s σ H _ _ v u Q I rx ry ⟨_, _, rfl, rfl, z, h.k⟩
    · exact op_fdivW pins s σ H _ _ v u Q I rx ry ⟨_, _, rfl, rfl, z, h.k⟩
  · exact h.elim
def rModC : R2 := fun x y H Q => match x, y with
  | .int i, .int j => Chk (0 < j) (Q (.int (i % j)) H)
  | _, _ => False
theorem c_mod {X : Cx} : OpR X (binaryOp .Mod) rModC := by
  intro pins s σ H x y v u Q I rx ry h
  unfold rModC at h
  split at h
  · exact op_mod pins s σ H _ _ v u Q I rx ry ⟨_, _, rfl, rfl, h.p, h.k⟩
  · exact h.elim
def rPowC : R2 := fun x y H Q => match x, y with
  | .int i, .int j => Chk (CPow i j) (Q (.int (i ^ j.toNat)) H)
  | _, _ => False
theorem c_pow {X : Cx} : OpR X (binaryOp .Pow) rPowC := by
  intro pins s σ H x y v u Q I rx ry h
  unfold rPowC at h
  split at h
  · exact op_pow pins s σ H _ _ v u Q I rx ry ⟨_, _, rfl, rfl, h.p, h.k⟩
  · exact h.elim
def rCmpC (p : Int → Int → Bool) : R2 := fun x y H Q => match x, y with
  | .int i, .int j => Q (.bl (p i j)) H
  | _, _ => False
theorem c_cmp {X : Cx} {f : Value → Value → Sem Value} {p : Int → Int → Bool} (h0 : OpR X f (rI0 fun i j => .bl (p i j))) : OpR X f (rCmpC p) := by
  intro pins s σ H x y v u Q I rx ry h
  unfold rCmpC at h
  split at h
  · exact h0 pins s σ H _ _ v u Q I rx ry ⟨_, _, rfl, rfl, h⟩
  · exact h.elim
abbrev rLtC : R2 := rCmpC fun i j => decide (i < j)
abbrev rLeC : R2 := rCmpC fun i j => decide (i ≤ j)
abbrev rGtC : R2 := rCmpC fun i j => decide (j < i)
abbrev rGeC : R2 := rCmpC fun i j => decide (j ≤ i)
theorem c_lt {X : Cx} : OpR X (compareOp .Lt) rLtC := c_cmp op_lt
theorem c_le {X : Cx} : OpR X (compareOp .LtE) rLeC := c_cmp op_le
theorem c_gt {X : Cx} : OpR X (compareOp .Gt) rGtC := c_cmp op_gt
theorem c_ge {X : Cx} : OpR X (compareOp .GtE) rGeC := c_cmp op_ge
/-- two things at heap places compared: as data (an own == is another rule) -/
structure EqD (K : PySem.W.Frag) (H : Hp) (x y : V) (k : Bool → Prop) : Prop where
  ex : ∃ d e, Dp K H x d ∧ Dp K H y e ∧ SeqAt.shaped d = true ∧ SeqAt.shaped e = true ∧ k (PyData.eqv d e)
def rEqC (K : PySem.W.Frag) (neg : Bool) : R2 := fun x y H Q => match scal x y with
  | true => Q (.bl (if neg then !decide (x = y) else decide (x = y))) H
  | false => EqD K H x y fun b => Q (.bl (if neg then !b else b)) H
theorem c_eq {X : Cx} (hu : X.A.units + 64 < cLine) : OpR X (compareOp .Eq) (rEqC X.K false) := by
  intro pins s σ H x y v u Q I rx ry h
  unfold rEqC at h
  split at h
  · rename_i e
    exact op_eq pins s σ H _ _ v u Q I rx ry ⟨e, h⟩
  · obtain ⟨⟨d, e, h1, h2, h3, h4, q⟩⟩ := h
    exact op_eqD hu pins s σ H _ _ v u Q I rx ry ⟨d, e, h1, h2, h3, h4, q⟩
theorem c_ne {X : Cx} (hu : X.A.units + 64 < cLine) : OpR X (compareOp .NotEq) (rEqC X.K true) := by
  intro pins s σ H x y v u Q I rx ry h
  unfold rEqC at h
  split at h
  · rename_i e
    exact op_ne pins s σ H _ _ v u Q I rx ry ⟨e, h⟩
  · obtain ⟨⟨d, e, h1, h2, h3, h4, q⟩⟩ := h
    exact op_neD hu pins s σ H _ _ v u Q I rx ry ⟨d, e, h1, h2, h3, h4, q⟩
/-- in a list or tuple of flat things; a text in a text -/
def rInC (K : PySem.W.Frag) (neg : Bool) : R2 := fun x y H Q => match y with
  | .ref p => Sq K H p fun xs => Chk (flatV x = true ∧ xs.all flatV = true) (Q (.bl (if neg then !inV x xs else inV x xs)) H)
  | _ => False
theorem c_in {X : Cx} : OpR X (compareOp .In) (rInC X.K false) := by
  intro pins s σ H x y v u Q I rx ry h
  unfold rInC at h
  split at h
  · obtain ⟨⟨xs, h1, h2⟩⟩ := h
    exact op_in_seq pins s σ H _ _ v u Q I rx ry ⟨_, _, rfl, h1, h2.p.1, h2.p.2, h2.k⟩
  · exact h.elim
theorem c_notin {X : Cx} : OpR X (compareOp .NotIn) (rInC X.K true) := by
  intro pins s σ H x y v u Q I rx ry h
  unfold rInC at h
  split at h
  · obtain ⟨⟨xs, h1, h2⟩⟩ := h
    exact op_notIn_seq pins s σ H _ _ v u Q I rx ry ⟨_, _, rfl, h1, h2.p.1, h2.p.2, h2.k⟩
  · exact h.elim
/-- an item at a place that holds it -/
structure At {α : Type} (xs : List α) (i : Int) (k : α → Prop) : Prop where
  ex : ∃ v, atI xs i = some v ∧ k v
def rIxC (K : PySem.W.Frag) : R2 := fun x y H Q => match x, y with
  | .ref p, .int i => Sq K H p fun xs => At xs i fun v => Q v H
  | .str z, .int i => Chk (z.length ≤ sizeLine) (At z.cps.toList i fun c => Q (.str ⟨#[c]⟩) H)
  | _, _ => False
theorem c_ix {X : Cx} : IxR X (rIxC X.K) := by
  intro value slice pins s σ H x y v u Q I rx ry h hs
  unfold rIxC at h
  split at h
  · obtain ⟨⟨xs, h1 | h1, ⟨v, h2, h3⟩⟩⟩ := h
    · exact ix_list value slice pins s σ H _ _ _ _ Q I rx ry ⟨_, _, _, _, rfl, rfl, h1, h2, h3⟩ hs
    · exact ix_tup value slice pins s σ H _ _ _ _ Q I rx ry ⟨_, _, _, _, rfl, rfl, h1, h2, h3⟩ hs
  · obtain ⟨h0, ⟨v, h2, h3⟩⟩ := h
    exact ix_str value slice pins s σ H _ _ _ _ Q I rx ry ⟨_, _, _, rfl, rfl, h0, h2, h3⟩ hs
  · exact h.elim
end CL
set_option Elab.async false
set_option linter.all false
set_option maxRecDepth 100000
set_option maxHeartbeats 2000000
namespace CL
open PySem PySem.Spec PyProof.Rows L2
/-- truth of a value -/
def Tru (K : PySem.W.Frag) (x : V) (H : Hp) (k : Bool → Prop) : Prop := match x with
  | .bl b => k b
  | .int i => k (i != 0)
  | .non => k false
  | .str y => Chk (y.length ≤ sizeLine) (k ((y.length : Int) != 0))
  | .ref p => Sq K H p fun xs => k (!xs.isEmpty)
  | _ => False
theorem Tru.ok {K : PySem.W.Frag} {x : V} {H : Hp} {k : Bool → Prop} (h : Tru K x H k) : ∃ b, TruV K x H b ∧ k b := by
  unfold Tru at h
  split at h
  · exact ⟨_, rfl, h⟩
  · exact ⟨_, rfl, h⟩
  · exact ⟨_, rfl, h⟩
  · exact ⟨_, ⟨h.p, rfl⟩, h.k⟩
  · obtain ⟨⟨xs, h1 | h1, h2⟩⟩ := h
    · exact ⟨_, .inl ⟨xs, h1, rfl⟩, h2⟩
    · exact ⟨_, .inr (.inl ⟨xs, h1, rfl⟩), h2⟩
  · exact h.elim
def cTest (te : TE) : TT := fun σ H Q => te σ H fun x H1 => match x with
  | .bl b => Q b H1
  | _ => False
def cTruth (K : PySem.W.Frag) (te : TE) : TT := fun σ H Q => te σ H fun x H1 => Tru K x H1 fun b => Q b H1
section
variable {X : Cx} {a b c : Expr} {ta tb tc : TE} {pos : Pos}
/-- a comparison as a test -/
theorem t_cmp {op : CmpOp} {r : R2} (ho : OpR X (compareOp op) r) (ha : PE X a ta) (hb : PE X b tb) (hm : behindInMarks op b = false) : PT X (.Compare a [op] [b] pos) (cTest (tOp r ta tb)) := by
  refine ⟨fun pins s σ H Q I h => ?_⟩
  refine wpAny_isTrue_Compare1 (thn (ha.run pins s σ H _ I h) fun v s1 ⟨x, H1, I1, r1, q1⟩ => thn (hb.run pins s1 σ H1 _ I1 q1) fun u s2 ⟨y, H2, I2, r2, q2⟩ =>
    thn (ho pins s2 σ H2 x y v u _ I2 r1 r2 q2) fun d s3 ⟨z, H3, I3, r3, q3⟩ => ?_) hm
  cases z with
  | bl k => cases r3; exact wpAny_truthy_bool ⟨H3, I3, q3⟩
  | _ => exact (show False from q3).elim
theorem t_truth (ha : PE X a ta) (he : ∀ whole, isTrue a X.env whole = (do let v ← whole; standAt a.pos; holding [v] (truthy v))) : PT X a (cTruth X.K ta) := by
  refine ⟨fun pins s σ H Q I h => ?_⟩
  exact isTrue_plain (thn (ha.run pins s σ H _ I h) fun v s1 ⟨x, H1, I1, r1, q1⟩ => by
    obtain ⟨k, e, q⟩ := Tru.ok q1
    exact tru_ok pins s1 σ H1 x v Q I1 r1 ⟨k, e, q⟩) (he _)
def cAnd (t u : TT) : TT := fun σ H Q => t σ H fun c H1 => Br c (u σ H1 Q) (Q false H1)
def cOr (t u : TT) : TT := fun σ H Q => t σ H fun c H1 => Br c (Q true H1) (u σ H1 Q)
def cNot (t : TT) : TT := fun σ H Q => t σ H fun c H1 => Q (!c) H1
variable {tA tB' : TT} {rest : List Expr}
theorem w_and1 (ha : PT X a tA) : PW X (.BoolOp .And [a] pos) tA := pw_and1 ha
theorem w_or1 (ha : PT X a tA) : PW X (.BoolOp .Or [a] pos) tA := pw_or1 ha
theorem w_and (ha : PT X a tA) (hb : PW X (.BoolOp .And (b :: rest) pos) tB') : PW X (.BoolOp .And (a :: b :: rest) pos) (cAnd tA tB') := by
  refine ⟨fun whole pins s σ H Q I h => ?_⟩
  have key : PW X (.BoolOp .And (a :: b :: rest) pos) (tAnd tA tB') := pw_and ha hb
  have h2 : tAnd (fun σ' H' Q' => tA σ H Q' ∧ σ' = σ ∧ H' = H) tB' σ H Q → True := fun _ => trivial
  have hx : PW X (.BoolOp .And (a :: b :: rest) pos) (tAnd (fun σ' H' Q' => tA σ' H' fun c H1 => Q' c H1) tB') := key
  refine key.run whole pins s σ H Q I ?_
  unfold tAnd
  unfold cAnd at h
  have e : (fun (c : Bool) (H1 : Hp) => Br c (tB' σ H1 Q) (Q false H1)) = fun c H1 => (if c = true then tB' σ H1 Q else Q false H1) := by
    funext c H1
    apply propext
    constructor
    · exact Br.ite
    · intro q
      refine Br.mk (fun z => ?_) (fun z => ?_)
      · rw [if_pos z] at q; exact q
      · rw [z, if_neg Bool.false_ne_true] at q; exact q
  rw [e] at h
  exact h
theorem br_eq {c : Bool} {A B : Prop} : Br c A B = (if c = true then A else B) := by
  apply propext
  constructor
  · exact Br.ite
  · intro q
    refine Br.mk (fun z => ?_) (fun z => ?_)
    · rw [if_pos z] at q; exact q
    · rw [z, if_neg Bool.false_ne_true] at q; exact q
theorem w_or (ha : PT X a tA) (hb : PW X (.BoolOp .Or (b :: rest) pos) tB') : PW X (.BoolOp .Or (a :: b :: rest) pos) (cOr tA tB') := by
  have e : cOr tA tB' = tOr tA tB' := by
    funext σ H Q
    unfold cOr tOr
    simp only [br_eq]
  rw [e]
  exact pw_or ha hb
theorem t_not (ha : PT X a tA) : PT X (.UnaryOp .Not a pos) (cNot tA) := pt_not ha
/-- values by and, or: Booleans -/
def cAndV (ta tb : TE) : TE := fun σ H Q => ta σ H fun x H1 => match x with
  | .bl c => Br c (tb σ H1 Q) (Q (.bl false) H1)
  | _ => False
def cOrV (ta tb : TE) : TE := fun σ H Q => ta σ H fun x H1 => match x with
  | .bl c => Br c (Q (.bl true) H1) (tb σ H1 Q)
  | _ => False
def cNotV (ta : TE) : TE := fun σ H Q => ta σ H fun x H1 => match x with
  | .bl c => Q (.bl (!c)) H1
  | _ => False
/-- what follows a Boolean -/
def onB (k : Bool → Hp → Prop) : VK := fun x H => match x with
  | .bl c => k c H
  | _ => False
theorem onB_eq (k : Bool → Hp → Prop) : onB k = fun x H => ∃ c, x = .bl c ∧ k c H := by
  funext x H
  apply propext
  unfold onB
  constructor
  · intro h
    split at h
    · exact ⟨_, rfl, h⟩
    · exact h.elim
  · rintro ⟨c, rfl, h⟩
    exact h
theorem e_and (ha : PE X a ta) (hb : PE X (.BoolOp .And (b :: rest) pos) tb) : PE X (.BoolOp .And (a :: b :: rest) pos) (cAndV ta tb) := by
  have e : cAndV ta tb = tAndV ta tb := by
    funext σ H Q
    show ta σ H (onB fun c H1 => Br c (tb σ H1 Q) (Q (.bl false) H1)) = _
    rw [onB_eq]
    simp only [br_eq]
    rfl
  rw [e]
  exact pe_and ha hb
theorem e_or (ha : PE X a ta) (hb : PE X (.BoolOp .Or (b :: rest) pos) tb) : PE X (.BoolOp .Or (a :: b :: rest) pos) (cOrV ta tb) := by
  have e : cOrV ta tb = tOrV ta tb := by
    funext σ H Q
    show ta σ H (onB fun c H1 => Br c (Q (.bl true) H1) (tb σ H1 Q)) = _
    rw [onB_eq]
    simp only [br_eq]
    rfl
  rw [e]
  exact pe_or ha hb
theorem e_not (ha : PE X a ta) : PE X (.UnaryOp .Not a pos) (cNotV ta) := by
  have e : cNotV ta = tNotV ta := by
    funext σ H Q
    show ta σ H (onB fun c H1 => Q (.bl (!c)) H1) = _
    rw [onB_eq]
    rfl
  rw [e]
  exact pe_not ha
def cIf (t : TT) (ta tb : TE) : TE := fun σ H Q => t σ H fun c H1 => Br c (ta σ H1 Q) (tb σ H1 Q)
theorem e_if {c : Expr} (hc : PT X c tA) (ha : PE X a ta) (hb : PE X b tb) : PE X (.IfExp c a b pos) (cIf tA ta tb) := by
  have e : cIf tA ta tb = tIf tA ta tb := by
    funext σ H Q
    unfold cIf tIf
    simp only [br_eq]
  rw [e]
  exact pe_ifExp hc ha hb
def cIfS (c : TT) (t u : TS) : TS := fun D σ H => c σ H fun b H1 => Br b (t D σ H1) (u D σ H1)
theorem s_if {c : Expr} {sa sb : List Stmt} {t u : TS} (hc : PT X c tA) (ha : PSs X sa t) (hb : PSs X sb u) : PS X (.If c sa sb pos) (cIfS tA t u) := by
  have e : cIfS tA t u = tIfS tA t u := by
    funext D σ H
    unfold cIfS tIfS
    simp only [br_eq]
  rw [e]
  exact ps_if hc ha hb
end
def cTup (t : TA) : TE := fun σ H Q => t σ H fun xs H1 => Chk (xs.length ≤ sizeLine) (New H1 (.tup xs) fun p H' => Q (.ref p) H')
def cLst (t : TA) : TE := fun σ H Q => t σ H fun xs H1 => Chk (xs.length ≤ sizeLine) (New H1 (.lst xs) fun p H' => Q (.ref p) H')
theorem new_eq {H : Hp} {o : HO} {k : Addr → Hp → Prop} : New H o k = ∀ p, H p = none → k p (upd H p o) := propext ⟨fun h => h.k, fun h => ⟨h⟩⟩
theorem chk_eq {P k : Prop} : Chk P k = (P ∧ k) := propext ⟨fun h => ⟨h.p, h.k⟩, fun h => ⟨h.1, h.2⟩⟩
section
variable {X : Cx} {es : List Expr} {t : TA} {pos : Pos}
theorem e_tup {x1} (h : PA X es t) : PE X (.Tuple es x1 pos) (cTup t) := by
  have e : cTup t = tTup t := by
    funext σ H Q
    unfold cTup tTup
    simp only [chk_eq, new_eq]
  rw [e]
  exact pe_tup h
theorem e_lst (h : PA X es t) : PE X (.List es pos) (cLst t) := by
  have e : cLst t = tLst t := by
    funext σ H Q
    unfold cLst tLst
    simp only [chk_eq, new_eq]
  rw [e]
  exact pe_lst h
end
def cFld (K : PySem.W.Frag) (ta : TE) (f : Str) : TE := fun σ H Q => ta σ H fun x H1 => match x with
  | .ref a => Fld K H1 a f fun v => Q v H1
  | _ => False
def cSetF (K : PySem.W.Frag) (ta tv : TE) (f : Str) : TS := fun D σ H => tv σ H fun y H1 => ta σ H1 fun x H2 => match x with
  | .ref a => SetF K H2 a f y fun H' => D.nx σ H'
  | _ => False
def onR (k : Addr → Hp → Prop) : VK := fun x H => match x with
  | .ref c => k c H
  | _ => False
theorem onR_eq (k : Addr → Hp → Prop) : onR k = fun x H => ∃ c, x = .ref c ∧ k c H := by
  funext x H
  apply propext
  unfold onR
  constructor
  · intro h
    split at h
    · exact ⟨_, rfl, h⟩
    · exact h.elim
  · rintro ⟨c, rfl, h⟩
    exact h
section
variable {X : Cx} {o e value : Expr} {f : Str} {pos pos' : Pos} {ta tv : TE}
theorem e_fld (he : PE X e ta) (hb : attributeBase e f X.env (eval e X.env) = eval e X.env := by rfl) : PE X (.Attribute e f pos) (cFld X.K ta f) := by
  have e2 : cFld X.K ta f = tFld X.K ta f := by
    funext σ H Q
    show ta σ H (onR fun a H1 => Fld X.K H1 a f fun v => Q v H1) = _
    rw [onR_eq]
    have e3 : ∀ (x : V) (H1 : Hp), (∃ a, x = V.ref a ∧ Fld X.K H1 a f fun v => Q v H1) = ∃ a C dx fs v, x = .ref a ∧ H1 a = some (.ins C dx fs) ∧ Cls X.K C ∧ NoAttr X.K C f ∧ fs.lookup f = some v ∧ Q v H1 := fun x H1 => by
      apply propext
      constructor
      · rintro ⟨a, h, ⟨C, dx, fs, v, h1, h2, h3, h4, h5⟩⟩
        exact ⟨a, C, dx, fs, v, h, h1, h2, h3, h4, h5⟩
      · rintro ⟨a, C, dx, fs, v, h, h1, h2, h3, h4, h5⟩
        exact ⟨a, h, ⟨C, dx, fs, v, h1, h2, h3, h4, h5⟩⟩
    simp only [e3]
    rfl
  rw [e2]
  exact pe_fld he hb
theorem s_fld (ha : PE X o ta) (hv : PE X value tv) (hs : swapsWith value (some (.Attribute o f pos')) pos.line X.env = pure false := by rfl) : PS X (.Assign [.Attribute o f pos'] value pos) (cSetF X.K ta tv f) := by
  refine weakS (ps_fld ha hv hs) fun D σ H h => ?_
  have h' : tv σ H fun y H1 => ta σ H1 (onR fun a H2 => SetF X.K H2 a f y fun H' => D.nx σ H') := h
  simp only [onR_eq] at h'
  have e3 : ∀ (x y : V) (H2 : Hp), (∃ a, x = V.ref a ∧ SetF X.K H2 a f y fun H' => D.nx σ H') = ∃ a C dx fs, x = .ref a ∧ H2 a = some (.ins C dx fs) ∧ Cls X.K C ∧ NoAttr X.K C f ∧ fs.length < 1000 ∧ D.nx σ (upd H2 a (.ins C dx (putF f y fs))) := fun x y H2 => by
    apply propext
    constructor
    · rintro ⟨a, h, ⟨C, dx, fs, h1, h2, h3, h4, h5⟩⟩
      exact ⟨a, C, dx, fs, h, h1, h2, h3, h4, h5⟩
    · rintro ⟨a, C, dx, fs, h, h1, h2, h3, h4, h5⟩
      exact ⟨a, h, ⟨C, dx, fs, h1, h2, h3, h4, h5⟩⟩
  simp only [e3] at h'
  exact h'
end
end CL
set_option Elab.async false
set_option linter.all false
set_option maxRecDepth 100000
set_option maxHeartbeats 2000000
namespace CL
open PySem PySem.Spec PyProof.Rows L2 RZ SkE
def rLenC (K : PySem.W.Frag) : List V → Hp → VK → Prop := fun xs H Q => match xs with
  | [.str s] => Chk (s.length ≤ sizeLine) (Q (.int s.length) H)
  | [.ref p] => Sq K H p fun ys => Q (.int ys.length) H
  | _ => False
def rAbsC : List V → Hp → VK → Prop := fun xs H Q => match xs with
  | [.int i] => Q (.int (if i < 0 then -i else i)) H
  | _ => False
structure TupR (K : PySem.W.Frag) (H : Hp) (p : Addr) (Q : VK) : Prop where
  ex : ∃ ys, (SqL K H p ys ∧ New H (.tup ys) fun q H' => Q (.ref q) H') ∨ (SqT K H p ys ∧ Q (.ref p) H)
def rTupC (K : PySem.W.Frag) : List V → Hp → VK → Prop := fun xs H Q => match xs with
  | [.ref p] => TupR K H p Q
  | _ => False
/-- isinstance: a built-in class, or what stands at c: an own class, or a new tuple of classes -/
structure IsR (K : PySem.W.Frag) (H : Hp) (x : V) (c : Addr) (k : Bool → Prop) : Prop where
  ex : (∃ t b, TyX K H x t ∧ PySem.W.kitOne K t (.ref c) = some b ∧ k b) ∨
    ∃ cs us t b, H c = some (.tup cs) ∧ Paired ClsV cs us ∧ TyX K H x t ∧ PySem.W.kitAny K t us = some b ∧ k b
def rIsC (K : PySem.W.Frag) : List V → Hp → VK → Prop := fun xs H Q => match xs with
  | [x, .ty n] => IsI K H x (.type n) fun b => Q (.bl b) H
  | [x, .ref c] => IsR K H x c fun b => Q (.bl b) H
  | _ => False
section
variable {X : Cx}
theorem k_len : CallR X (.builtin "len") (rLenC X.K) := by
  intro pins s σ H xs us Q I r h
  unfold rLenC at h
  split at h
  · exact call_len pins s σ H _ us Q I r ⟨_, _, rfl, ⟨h.p, rfl⟩, h.k⟩
  · obtain ⟨⟨ys, h1, h2⟩⟩ := h
    exact call_len_seq pins s σ H _ us Q I r ⟨_, _, rfl, h1, h2⟩
  · exact h.elim
theorem k_abs : CallR X (.builtin "abs") rAbsC := by
  intro pins s σ H xs us Q I r h
  unfold rAbsC at h
  split at h
  · exact call_abs pins s σ H _ us Q I r ⟨_, rfl, h⟩
  · exact h.elim
theorem k_tuple : CallR X (.type "tuple") (rTupC X.K) := by
  intro pins s σ H xs us Q I r h
  unfold rTupC at h
  split at h
  · obtain ⟨⟨ys, ⟨h1, h2⟩ | ⟨h1, h2⟩⟩⟩ := h
    · exact call_tuple_of pins s σ H _ us Q I r ⟨_, _, rfl, .inl ⟨h1, h2.k⟩⟩
    · exact call_tuple_of pins s σ H _ us Q I r ⟨_, _, rfl, .inr ⟨h1, h2⟩⟩
  · exact h.elim
theorem k_isi : CallR X (.builtin "isinstance") (rIsC X.K) := by
  intro pins s σ H xs us Q I r h
  unfold rIsC at h
  split at h
  · obtain ⟨⟨t, b, h1, h2, h3⟩⟩ := h
    exact call_isi pins s σ H _ us Q I r ⟨_, _, t, _, b, rfl, .ty _, h1, h2, h3⟩
  · obtain ⟨⟨t, b, h1, h2, h3⟩ | ⟨cs, ws, t, b, h1, h2, h3, h4, h5⟩⟩ := h
    · exact call_isi pins s σ H _ us Q I r ⟨_, _, t, _, b, rfl, .own _, h1, h2, h3⟩
    · exact call_isiT pins s σ H _ us Q I r ⟨_, _, cs, t, ws, b, rfl, h1, h2, h3, h4, h5⟩
  · exact h.elim
end
def cCall (sp : Sp) (dvs : List V) (E : XK) (t : TA) : TE := fun σ H Q => t σ H fun vs H1 => Ask (sp (vs ++ dvs) H1 Q E)
theorem ask_eq {P : Prop} : Ask P = P := propext ⟨fun h => h.a, fun h => ⟨h⟩⟩
section
variable {X : Cx} {e : Expr} {es : List Expr} {t : TA} {x : Str} {p pos : Pos} {CX : CXT} {k : Nat} {f C : Addr} {fd : FuncData} {ps : List Str} {sp : Sp} {E : XK} {ds : List Value} {dvs : List V}
theorem e_call (F : FnOk X.prog X.w X.K X.mg X.base CX k f fd ps sp) (hr : Room k X.A) (hg : Gl X x) (hm : X.mg x = some (.ref f)) (hk : PySem.W.keepIn X.K (.ref f) = true) (hb : Binds X.K fd ps ds) (hd : Vals dvs ds) (hx : Passes CX X E)
    (ha : PA X (e :: es) t) (hdb : (x == ("__debug__" : Str)) = false := by decide) (he : starEach (e :: es) X.env = (false, eval e X.env) :: starEach es X.env := by rfl) (hpl : (backTo pos (starEach es X.env)).any (·.1) = false := by rfl) :
    PE X (.Call (.Name x p) (e :: es) [] pos) (cCall sp dvs E t) := by
  have e2 : cCall sp dvs E t = tCall sp dvs E t := by
    funext σ H Q
    unfold cCall tCall
    simp only [ask_eq]
  rw [e2]
  exact pe_call F hr hg hm hk hb hd hx ha hdb he hpl
def cMake (C : Addr) (sp : Sp) (dvs : List V) (E : XK) (t : TA) : TE := fun σ H Q => t σ H fun vs H1 => Ask (∀ x dx, H1 x = none → H1 dx = none → dx ≠ x → sp (.ref x :: (vs ++ dvs)) (upd (upd H1 dx (.own x)) x (.ins C dx [])) (fun v H2 => v = .non ∧ Q (.ref x) H2) E)
theorem e_make (M : Mk X.K C f) (F : FnOk X.prog X.w X.K X.mg X.base CX k f fd ps sp) (hr : Room (k + 1) X.A) (hg : Gl X x) (hm : X.mg x = some (.ref C)) (hb : Binds X.K fd ps ds) (hd : Vals dvs ds) (hx : Passes CX X E)
    (ha : PA X (e :: es) t) (hdb : (x == ("__debug__" : Str)) = false := by decide) (he : starEach (e :: es) X.env = (false, eval e X.env) :: starEach es X.env := by rfl) (hpl : (backTo pos (starEach es X.env)).any (·.1) = false := by rfl) :
    PE X (.Call (.Name x p) (e :: es) [] pos) (cMake C sp dvs E t) := by
  have e2 : cMake C sp dvs E t = tMake C sp dvs E t := by
    funext σ H Q
    unfold cMake tMake
    simp only [ask_eq]
  rw [e2]
  exact pe_make M F hr hg hm hb hd hx ha hdb he hpl
end
structure ForW (J : It) (g : TG) (tb : TS) (D : Ends) (σ : L2.St) (H : Hp) : Prop where
  ex : ∃ W : Nat → Nat → L2.St → Hp → Prop, (∃ m, W 0 m σ H) ∧ ∀ i m σ H, W i m σ H →
    (J.stop i H ∧ D.nx σ H) ∨ (J.go i H ∧ ∃ N : L2.St → Hp → Prop, (∀ σ' H', N σ' H' → ∃ m', m' < m ∧ W (i + 1) m' σ' H') ∧ ∀ x H', J.yld i H x H' → g x σ H' fun σ2 H2 => tb { D with nx := N, ct := N, bk := D.nx } σ2 H2)
def cFor (wi : TI) (g : TG) (tb : TS) : TS := fun D σ H => wi σ H fun J H1 => ForW J g tb D σ H1
theorem forw_eq {J : It} {g : TG} {tb : TS} {D : Ends} {σ : L2.St} {H : Hp} : ForW J g tb D σ H = (∃ W : Nat → Nat → L2.St → Hp → Prop, (∃ m, W 0 m σ H) ∧ ∀ i m σ H, W i m σ H →
    (J.stop i H ∧ D.nx σ H) ∨ (J.go i H ∧ ∃ N : L2.St → Hp → Prop, (∀ σ' H', N σ' H' → ∃ m', m' < m ∧ W (i + 1) m' σ' H') ∧ ∀ x H', J.yld i H x H' → g x σ H' fun σ2 H2 => tb { D with nx := N, ct := N, bk := D.nx } σ2 H2)) := propext ⟨fun h => h.ex, fun h => ⟨h⟩⟩
section
variable {X : Cx} {tg : Expr}
theorem s_for {iter : Expr} {body : List Stmt} {wi : TI} {g : TG} {tb : TS} {pos : Pos} (hp : PassesOwn (model X.prog X.w) X.A X.env X.xe) (hc : X.calm = true) (hi : PI X tg iter wi) (hg : PG X tg g) (hb : PSs X body tb)
    (hs : ∀ x, foldedSetIterable iter X.env x = pure x := by intro _; rfl) : PS X (.For tg iter body [] pos) (cFor wi g tb) := by
  have e2 : cFor wi g tb = tFor wi g tb := by
    funext D σ H
    unfold cFor tFor
    simp only [forw_eq]
  rw [e2]
  exact ps_for hp hc hi hg hb hs
def onI1 (k : Int → Hp → Prop) : List V → Hp → Prop := fun xs H => match xs with
  | [.int i] => k i H
  | _ => False
theorem onI1_eq (k : Int → Hp → Prop) : onI1 k = fun xs H => ∃ i, xs = [.int i] ∧ k i H := by
  funext x H
  apply propext
  unfold onI1
  constructor
  · intro h
    split at h
    · exact ⟨_, rfl, h⟩
    · exact h.elim
  · rintro ⟨c, rfl, h⟩
    exact h
def cRng1 (ta : TA) : TI := fun σ H R => ta σ H (onI1 fun j H1 => Chk (-(2 ^ 62) ≤ j ∧ j < 2 ^ 62) (R (Itr 0 j.toNat) H1))
theorem i_range1 {a : Expr} {ta : TA} {p pos : Pos} (hg : Gl X "range") (hm : X.mg "range" = none) (ha : PA X [a] ta) (hs : starEach [a] X.env = [(false, eval a X.env)] := by rfl) : PI X tg (.Call (.Name "range" p) [a] [] pos) (cRng1 ta) := by
  have e2 : cRng1 ta = iRng1 ta := by
    funext σ H R
    unfold cRng1 iRng1
    simp only [onI1_eq, chk_eq, and_assoc]
  rw [e2]
  exact pi_range1 hg hm ha hs
/-- over what a value is: a list or a tuple -/
structure ItS (K : PySem.W.Frag) (H : Hp) (a : Addr) (R : It → Hp → Prop) : Prop where
  ex : ((∃ xs, SqL K H a xs) ∧ R (Itl K a) H) ∨ ((∃ xs, SqT K H a xs) ∧ R (Itt K a) H)
end
/-- two lists or two tuples, zipped -/
structure ItZ (K : PySem.W.Frag) (H : Hp) (a b : Addr) (R : It → Hp → Prop) : Prop where
  ex : ∃ xs ys, (SqL K H a xs ∧ SqL K H b ys ∧ R (Itz K a b) H) ∨ (SqT K H a xs ∧ SqT K H b ys ∧ R (ItzT K a b) H)
def onRR (k : Addr → Addr → Hp → Prop) : List V → Hp → Prop := fun xs H => match xs with
  | [.ref a, .ref b] => k a b H
  | _ => False
theorem onRR_ok {k : Addr → Addr → Hp → Prop} {xs : List V} {H : Hp} (h : onRR k xs H) : ∃ a b, xs = [.ref a, .ref b] ∧ k a b H := by
  unfold onRR at h
  split at h
  · exact ⟨_, _, rfl, h⟩
  · exact h.elim
/-- an argument list's reading may be weakened -/
def cZip (K : PySem.W.Frag) (ta : TA) : TI := fun σ H R => ta σ H (onRR fun a b H1 => ItZ K H1 a b R)
theorem i_zip {X : Cx} {e e2 : Expr} {ta : TA} {p pos tpos : Pos} {elts : List Expr} {kk : Nat} (hg : Gl X "zip") (hm : X.mg "zip" = none) (ha : PA X [e, e2] ta)
    (hs : starEach [e, e2] X.env = (false, eval e X.env) :: starEach [e2] X.env := by rfl) (hpl : (backTo pos (starEach [e2] X.env)).any (·.1) = false := by rfl) :
    PI X (.Tuple elts kk tpos) (.Call (.Name "zip" p) [e, e2] [] pos) (cZip X.K ta) := by
  have e2 : cZip X.K ta = iZipA X.K ta := by
    funext σ H R
    unfold cZip iZipA
    have e3 : (onRR fun a b H1 => ItZ X.K H1 a b R) = fun vs H1 => ∃ a b xs ys, vs = [V.ref a, V.ref b] ∧ ((SqL X.K H1 a xs ∧ SqL X.K H1 b ys ∧ R (Itz X.K a b) H1) ∨ (SqT X.K H1 a xs ∧ SqT X.K H1 b ys ∧ R (ItzT X.K a b) H1)) := by
      funext vs H1
      apply propext
      constructor
      · intro h
        obtain ⟨a, b, rfl, ⟨xs, ys, q⟩⟩ := onRR_ok h
        exact ⟨a, b, xs, ys, rfl, q⟩
      · rintro ⟨a, b, xs, ys, rfl, q⟩
        exact ⟨xs, ys, q⟩
    rw [e3]
  rw [e2]
  exact pi_zipA hg hm ha hs hpl
structure ItE (K : PySem.W.Frag) (H : Hp) (a : Addr) (R : It → Hp → Prop) : Prop where
  ex : (∃ xs, SqL K H a xs) ∧ R (Ite K a) H
def onR1 (k : Addr → Hp → Prop) : List V → Hp → Prop := fun xs H => match xs with
  | [.ref a] => k a H
  | _ => False
theorem onR1_ok {k : Addr → Hp → Prop} {xs : List V} {H : Hp} (h : onR1 k xs H) : ∃ a, xs = [.ref a] ∧ k a H := by
  unfold onR1 at h
  split at h
  · exact ⟨_, rfl, h⟩
  · exact h.elim
structure UnT (K : PySem.W.Frag) (H : Hp) (a : Addr) (n : Nat) (k : List V → Prop) : Prop where
  ex : ∃ xs, SqT K H a xs ∧ xs.length = n ∧ k xs
def cGNil : TGs := fun vs σ H Q => match vs with
  | [] => Q σ H
  | _ => False
def cGCons (t : TG) (u : TGs) : TGs := fun vs σ H Q => match vs with
  | v :: r => t v σ H fun σ' H' => u r σ' H' Q
  | _ => False
def cGTup (K : PySem.W.Frag) (n : Nat) (t : TGs) : TG := fun v σ H Q => match v with
  | .ref a => UnT K H a n fun xs => t xs σ H Q
  | _ => False
section
variable {X : Cx} {pos : Pos}
theorem weakG {e : Expr} {t t' : TG} (h : PG X e t) (w : ∀ v σ H Q, t' v σ H Q → t v σ H Q) : PG X e t' := ⟨fun pins s σ H v u Q I r q => h.run pins s σ H v u Q I r (w _ _ _ _ q)⟩
theorem weakGs {e : List Expr} {t t' : TGs} (h : PGs X e t) (w : ∀ v σ H Q, t' v σ H Q → t v σ H Q) : PGs X e t' := ⟨fun pins s σ H v u Q I r q => h.run pins s σ H v u Q I r (w _ _ _ _ q)⟩
theorem g_nil : PGs X [] cGNil := weakGs pgs_nil fun vs σ H Q h => by
  unfold cGNil at h
  split at h
  · exact ⟨rfl, h⟩
  · exact h.elim
theorem g_cons {e : Expr} {es : List Expr} {t : TG} {u : TGs} (h1 : PG X e t) (h2 : PGs X es u)
    (hs : (assignEach (e :: es) X.env).map (·.2) = assign e X.env :: (assignEach es X.env).map (·.2) := by rfl) : PGs X (e :: es) (cGCons t u) := weakGs (pgs_cons h1 h2 hs) fun vs σ H Q h => by
  unfold cGCons at h
  split at h
  · exact ⟨_, _, rfl, h⟩
  · exact h.elim
theorem g_tup {es : List Expr} {k : Nat} {t : TGs} {n : Nat} (hc : X.calm = true) (h : PGs X es t)
    (hn : (assignEach es X.env).length = n := by rfl) (hst : (assignEach es X.env).findIdx? (·.1) = none := by rfl) : PG X (.Tuple es k pos) (cGTup X.K n t) := weakG (pg_tup hc h hn hst) fun v σ H Q q => by
  unfold cGTup at q
  split at q
  · obtain ⟨⟨xs, h1, h2, h3⟩⟩ := q
    exact ⟨_, xs, rfl, h1, h2, h3⟩
  · exact q.elim
/-- o[i] = v in a list -/
structure SetL (H : Hp) (p : Addr) (k : Int) (v : V) (Q : Hp → Prop) : Prop where
  ex : ∃ xs j, H p = some (.lst xs) ∧ ixN xs.length k = some j ∧ Q (upd H p (.lst (xs.set j v)))
def rSetC : V → V → V → Hp → (Hp → Prop) → Prop := fun o i v H Q => match o, i with
  | .ref p, .int k => SetL H p k v Q
  | _, _ => False
theorem p_set : PSet X rSetC := by
  intro pins s σ H o i v ov iv u Q I ro ri rv h
  unfold rSetC at h
  split at h
  · obtain ⟨⟨xs, j, h1, h2, h3⟩⟩ := h
    exact set_list pins s σ H _ _ _ _ _ _ Q I ro ri rv ⟨_, xs, _, j, rfl, rfl, h1, h2, h3⟩
  · exact h.elim
/-- xs.append(e), a statement -/
def rAppC : V → List V → Hp → VK → Prop := fun x vs H Q => match x, vs with
  | .ref l, [y] => Ls H l fun xs => Chk (xs.length < sizeLine) (Q .non (upd H l (.lst (xs ++ [y]))))
  | _, _ => False
end
end CL
set_option Elab.async false
set_option linter.all false
set_option maxRecDepth 100000
set_option maxHeartbeats 2000000
namespace CL
open PySem PySem.Spec PyProof.Rows L2 RZ SkE
section
variable {X : Cx}
theorem m_append : MtR X "list.append" rAppC := by
  intro pins s σ H x xs v us Q I rx rs h
  unfold rAppC at h
  split at h
  · obtain ⟨⟨ys, h1, h2⟩⟩ := h
    exact mt_append pins s σ H _ _ v us Q I rx rs ⟨_, _, _, rfl, rfl, h1, h2.p, h2.k⟩
  · exact h.elim
end
structure LcW (J : It) (g : TG) (tt : TT) (te : TE) (vs : List Nat) (σ : L2.St) (D : Addr) (Qd : Hp → Prop) (H0 : Hp) : Prop where
  ex : ∃ W : Nat → Nat → Hp → Prop, (∃ m, W 0 m (upd H0 D (.lst []))) ∧ ∀ i m H, W i m H → (J.stop i H ∧ Qd H) ∨ (J.go i H ∧ ∃ Nx : Hp → Prop, (∀ H', Nx H' → ∃ m', m' < m ∧ W (i + 1) m' H') ∧
    ∀ x H', J.yld i H x H' → g x (wipe σ vs) H' fun σ2 H2 => wipe σ2 vs = wipe σ vs ∧ tt σ2 H2 fun b H3 => if b = true then te σ2 H3 fun y H4 => ∃ acc, H4 D = some (.lst acc) ∧ acc.length < sizeLine ∧ Nx (upd H4 D (.lst (acc ++ [y]))) else Nx H3)
structure NewA (H : Hp) (k : Addr → Prop) : Prop where
  k : ∀ p, H p = none → k p
def cLc (wi : TI) (g : TG) (tt : TT) (te : TE) (vs : List Nat) : TE := fun σ H Q => wi σ H fun J H1 => NewA H1 fun D => LcW J g tt te vs σ D (fun H' => Q (.ref D) H') H1
theorem lcw_eq {J : It} {g : TG} {tt : TT} {te : TE} {vs : List Nat} {σ : L2.St} {D : Addr} {Qd : Hp → Prop} {H0 : Hp} : LcW J g tt te vs σ D Qd H0 = ∃ W : Nat → Nat → Hp → Prop, (∃ m, W 0 m (upd H0 D (.lst []))) ∧ ∀ i m H, W i m H → (J.stop i H ∧ Qd H) ∨ (J.go i H ∧ ∃ Nx : Hp → Prop, (∀ H', Nx H' → ∃ m', m' < m ∧ W (i + 1) m' H') ∧
    ∀ x H', J.yld i H x H' → g x (wipe σ vs) H' fun σ2 H2 => wipe σ2 vs = wipe σ vs ∧ tt σ2 H2 fun b H3 => if b = true then te σ2 H3 fun y H4 => ∃ acc, H4 D = some (.lst acc) ∧ acc.length < sizeLine ∧ Nx (upd H4 D (.lst (acc ++ [y]))) else Nx H3) := propext ⟨fun h => h.ex, fun h => ⟨h⟩⟩
theorem newa_eq {H : Hp} {k : Addr → Prop} : NewA H k = ∀ p, H p = none → k p := propext ⟨fun h => h.k, fun h => ⟨h⟩⟩
theorem clc_eq {wi : TI} {g : TG} {tt : TT} {te : TE} {vs : List Nat} : cLc wi g tt te vs = tLc wi g tt te vs := by
  funext σ H Q
  unfold cLc tLc
  simp only [newa_eq, lcw_eq]
section
variable {X : Cx} {elt tg iter : Expr} {ifs : List Expr} {scope : Scope} {own : List (Str × Nat)} {pos : Pos} {wi : TI} {g : TG} {tt : TT} {te : TE}
theorem e_lc (hc : X.calm = true) (hN : X.N.Nodup) (hi : PI X tg iter wi) (ok : BlkOk X.N X.env.scope scope own)
    (hg : ∀ (s : Shared) (H : Hp) (C : Addr) (cl : List (Str × Addr)) (fp : List Addr), PG (X.blk s H scope (compEnvC scope cl C X.env) fp) tg g)
    (ht : ∀ (s : Shared) (H : Hp) (C : Addr) (cl : List (Str × Addr)) (fp : List Addr), PTs (X.blk s H scope (compEnvC scope cl C X.env) fp) ifs tt)
    (he : ∀ (s : Shared) (H : Hp) (C : Addr) (cl : List (Str × Addr)) (fp : List Addr), PE (X.blk s H scope (compEnvC scope cl C X.env) fp) elt te)
    (hs : ∀ x, foldedSetIterable iter X.env x = pure x := by intro _; rfl) :
    PE X (.ListComp elt [⟨tg, iter, ifs, 0⟩] scope pos) (cLc wi g tt te (own.map (·.2))) := by
  rw [clc_eq]
  exact pe_lc hc hN hi ok hg ht he hs
end
theorem Same.up {H H' : Hp} (e : Same H H') {a : Addr} {o : HO} (h : H a = some o) : H' a = some o := e a o h
/-- all but b is as it was -/
def But (b : Addr) (H H' : Hp) : Prop := ∀ a o, a ≠ b → H a = some o → H' a = some o
theorem But.up {b : Addr} {H H' : Hp} (e : But b H H') {a : Addr} {o : HO} (n : a ≠ b) (h : H a = some o) : H' a = some o := e a o n h
theorem upd_to {H : Hp} {a b : Addr} {o : HO} {r : Option HO} (n : b ≠ a) (h : H b = r) : upd H a o b = r := by rw [upd_ne n]; exact h
theorem At.nat {α : Type} {xs : List α} {i : Int} {k : α → Prop} {v : α} (j : Nat) (e : i = (j : Int)) (h : xs[j]? = some v) (q : k v) : At xs i k := ⟨v, by rw [e]; exact atI_nat h, q⟩
end CL
set_option Elab.async false
set_option linter.all false
set_option maxRecDepth 100000
set_option maxHeartbeats 2000000
namespace CL
open PySem PySem.Spec PyProof.Rows L2 RZ SkE
section
variable {X : Cx} {CX : CXT} {n : Nat} {f C : Addr} {fd : FuncData} {ps : List Str} {sp : Sp} {E : XK}
/-- an instance as the machine sees it -/
theorem inst_at {pins : List (Addr × Obj)} {σ : L2.St} {H : Hp} {s : Shared} {a dx : Addr} {fs : List (Str × V)} (I : Inv X pins σ H s) (h : H a = some (.ins C dx fs)) : ∃ od, PySem.W.InstAt s.heap a (PySem.W.instObj C dx) C (some od) := by
  obtain ⟨mA, J, _⟩ := ins_get I.hok h
  obtain ⟨od, J, _⟩ := J.look
  exact ⟨od, J⟩
/-- str(x): an int, a text, an instance with an own __str__ -/
def BackS (Q : VK) : VK := fun v H => match v with
  | .str z => Q (.str z) H
  | _ => False
structure OwnS (C : Addr) (sp : Sp) (E : XK) (a : Addr) (H : Hp) (Q : VK) : Prop where
  ex : ∃ dx fs, H a = some (.ins C dx fs) ∧ sp [.ref a] H (BackS Q) E
end
end CL
set_option Elab.async false
set_option linter.all false
set_option maxRecDepth 100000
set_option maxHeartbeats 2000000
namespace CL
open PySem PySem.Spec PyProof.Rows L2 RZ SkE
def cPart (t : TE) : TO := fun σ H Q => t σ H fun x H1 => match x with
  | .int i => Q (some i) H1
  | _ => False
def onZ (k : Int → Hp → Prop) : VK := fun x H => match x with
  | .int i => k i H
  | _ => False
theorem onZ_eq (k : Int → Hp → Prop) : onZ k = fun x H => ∃ i, x = .int i ∧ k i H := by
  funext x H
  apply propext
  unfold onZ
  constructor
  · intro h
    split at h
    · exact ⟨_, rfl, h⟩
    · exact h.elim
  · rintro ⟨c, rfl, h⟩
    exact h
theorem o_some {X : Cx} {e : Expr} {te : TE} (h : PE X e te) : PO X (some e) (cPart te) := by
  have e2 : cPart te = tPart te := by
    funext σ H Q
    show te σ H (onZ fun i H1 => Q (some i) H1) = _
    rw [onZ_eq]
    rfl
  rw [e2]
  exact po_some h
structure SlL (K : PySem.W.Frag) (H : Hp) (a : Addr) (lo hi : Option Int) (Q : VK) : Prop where
  ex : (∃ xs, SqL K H a xs ∧ New H (.lst (cutV xs lo hi)) fun p H' => Q (.ref p) H')
structure MethR (H : Hp) (C : Addr) (m : Str) (a : Addr) (k : Prop) : Prop where
  ex : ∃ dx fs, H a = some (.ins C dx fs) ∧ fs.lookup m = none ∧ k
section
variable {K : PySem.W.Frag} {g : TG} {tb : TS} {D : Ends} {σ : L2.St} {H : Hp} {a b : Addr} {xs ys : List V}
theorem fw_range {lo : Int} {n : Nat} (Pv : Nat → L2.St → Hp → Prop) (h0 : Pv 0 σ H) (hs : ∀ i σ H, i < n → Pv i σ H → g (.int (lo + i)) σ H fun σ2 H2 => tb { D with nx := Pv (i + 1), ct := Pv (i + 1), bk := D.nx } σ2 H2) (hd : ∀ σ H, Pv n σ H → D.nx σ H) : ForW (Itr lo n) g tb D σ H := ⟨for_range Pv h0 hs hd⟩
theorem fw_list (Pv : Nat → L2.St → Hp → Prop) (h0 : Pv 0 σ H) (hl : ∀ i σ H, i ≤ xs.length → Pv i σ H → SqL K H a xs) (hs : ∀ i x σ H, xs[i]? = some x → Pv i σ H → g x σ H fun σ2 H2 => tb { D with nx := Pv (i + 1), ct := Pv (i + 1), bk := D.nx } σ2 H2)
    (hd : ∀ σ H, Pv xs.length σ H → D.nx σ H) : ForW (Itl K a) g tb D σ H := ⟨for_list Pv h0 hl hs hd⟩
theorem fw_tup (Pv : Nat → L2.St → Hp → Prop) (h0 : Pv 0 σ H) (hl : ∀ i σ H, i ≤ xs.length → Pv i σ H → SqT K H a xs) (hs : ∀ i x σ H, xs[i]? = some x → Pv i σ H → g x σ H fun σ2 H2 => tb { D with nx := Pv (i + 1), ct := Pv (i + 1), bk := D.nx } σ2 H2)
    (hd : ∀ σ H, Pv xs.length σ H → D.nx σ H) : ForW (Itt K a) g tb D σ H := ⟨for_tup Pv h0 hl hs hd⟩
theorem fw_zipT (hl : xs.length = ys.length) (Pv : Nat → L2.St → Hp → Prop) (h0 : Pv 0 σ H) (hq : ∀ i σ H, Pv i σ H → SqT K H a xs ∧ SqT K H b ys)
    (hs : ∀ (i : Nat) (x y : V) (T : Addr) (σ : L2.St) (H : Hp), xs[i]? = some x → ys[i]? = some y → Pv i σ H → H T = none → g (.ref T) σ (upd H T (.tup [x, y])) fun σ2 H2 => tb { D with nx := Pv (i + 1), ct := Pv (i + 1), bk := D.nx } σ2 H2) (hd : ∀ σ H, Pv xs.length σ H → D.nx σ H) :
    ForW (ItzT K a b) g tb D σ H := ⟨for_zipT hl Pv h0 hq hs hd⟩
variable {tt : TT} {te : TE} {vs : List Nat} {Qd : Hp → Prop} {p : Addr}
/-- one turn of a comprehension without a test -/
def LcStep (g : TG) (tt : TT) (te : TE) (vs : List Nat) (σ : L2.St) (p : Addr) (x : V) (H : Hp) (Nx : Hp → Prop) : Prop := g x (wipe σ vs) H fun σ2 H2 => wipe σ2 vs = wipe σ vs ∧ tt σ2 H2 fun b H3 =>
    if b = true then te σ2 H3 fun y H4 => ∃ acc, H4 p = some (.lst acc) ∧ acc.length < sizeLine ∧ Nx (upd H4 p (.lst (acc ++ [y]))) else Nx H3
theorem lw_range {lo : Int} {n : Nat} (Pv : Nat → Hp → Prop) (h0 : Pv 0 (upd H p (.lst []))) (hs : ∀ i H, i < n → Pv i H → LcStep g tt te vs σ p (.int (lo + i)) H (Pv (i + 1))) (hd : ∀ H, Pv n H → Qd H) : LcW (Itr lo n) g tt te vs σ p Qd H := ⟨lc_range Pv h0 hs hd⟩
theorem lw_list (Pv : Nat → Hp → Prop) (h0 : Pv 0 (upd H p (.lst []))) (hl : ∀ i H, i ≤ xs.length → Pv i H → SqL K H a xs) (hs : ∀ i x H, xs[i]? = some x → Pv i H → LcStep g tt te vs σ p x H (Pv (i + 1))) (hd : ∀ H, Pv xs.length H → Qd H) : LcW (Itl K a) g tt te vs σ p Qd H := ⟨lc_list Pv h0 hl hs hd⟩
theorem lw_tup (Pv : Nat → Hp → Prop) (h0 : Pv 0 (upd H p (.lst []))) (hl : ∀ i H, i ≤ xs.length → Pv i H → SqT K H a xs) (hs : ∀ i x H, xs[i]? = some x → Pv i H → LcStep g tt te vs σ p x H (Pv (i + 1))) (hd : ∀ H, Pv xs.length H → Qd H) : LcW (Itt K a) g tt te vs σ p Qd H := ⟨lc_tup Pv h0 hl hs hd⟩
end
end CL
set_option Elab.async false
set_option linter.all false
set_option maxRecDepth 100000
set_option maxHeartbeats 2000000
namespace CL
open PySem PySem.Spec PyProof.Rows L2 RZ SkE
section
variable {X : Cx} {elt tg iter : Expr} {ifs : List Expr} {scope : Scope} {own : List (Str × Nat)} {pos spos py : Pos} {wi : TI} {g : TG} {tt : TT} {te : TE} {i : Nat} {y : Str}
theorem s_setlc (hc : X.calm = true) (hN : X.N.Nodup) (hy : X.N[i]? = some y) (hyl : X.env.scope.names.lookup y = some .local)
    (hsw : swapsWith (.ListComp elt [⟨tg, iter, ifs, 0⟩] scope pos) (some (.Name y py)) spos.line X.env = pure true) (hi : PI X tg iter wi) (ok : BlkOk X.N X.env.scope scope own)
    (hg : ∀ (s : Shared) (H : Hp) (C : Addr) (cl : List (Str × Addr)) (fp : List Addr), PG (X.blk s H scope (compEnvC scope cl C X.env) fp) tg g)
    (ht : ∀ (s : Shared) (H : Hp) (C : Addr) (cl : List (Str × Addr)) (fp : List Addr), PTs (X.blk s H scope (compEnvC scope cl C X.env) fp) ifs tt)
    (he : ∀ (s : Shared) (H : Hp) (C : Addr) (cl : List (Str × Addr)) (fp : List Addr), PE (X.blk s H scope (compEnvC scope cl C X.env) fp) elt te)
    (hs : ∀ x, foldedSetIterable iter X.env x = pure x := by intro _; rfl) :
    PS X (.Assign [.Name y py] (.ListComp elt [⟨tg, iter, ifs, 0⟩] scope pos) spos) (tAsg (cLc wi g tt te (own.map (·.2))) (gName i)) := by
  rw [clc_eq]
  exact ps_setLc hc hN hy hyl hsw hi ok hg ht he hs
end
theorem c_ixK {X : Cx} {K : PySem.W.Frag} (h : X.K = K) : IxR X (rIxC K) := h ▸ c_ix
theorem c_eqK {X : Cx} {K : PySem.W.Frag} (h : X.K = K) (hu : X.A.units + 64 < cLine) : OpR X (compareOp .Eq) (rEqC K false) := h ▸ c_eq hu
/-- nothing is tracked at p -/
structure Fre (H : Hp) (p : Addr) : Prop where
  n : H p = none
section
variable {H H1 H2 Y : Hp} {a b p : Addr} {o : HO}
theorem But.tr (x : But b H H1) (y : But b H1 H2) : But b H H2 := fun a o n h => y a o n (x a o n h)
/-- an object that H does not know -/
theorem But.fresh (x : But b H H1) (n : Fre H p) : But b H (upd H1 p o) := fun a _ na h => upd_to (ne_of_none h n.n) (x a _ na h)
theorem Same.fresh (x : Same H H1) (n : Fre H p) : Same H (upd H1 p o) := fun a _ h => upd_to (ne_of_none h n.n) (x a _ h)
theorem Same.tr (x : Same H H1) (y : Same H1 H2) : Same H H2 := fun a o h => y a o (x a o h)
theorem But.back (x : But b H Y) (n : p ≠ b) (h : Fre Y p) : Fre H p := ⟨by
  cases e : H p with
  | none => rfl
  | some u =>
    have q := x p u n e
    rw [h.n] at q
    cases q⟩
theorem Same.bk (x : Same H Y) (h : Fre Y p) : Fre H p := ⟨by
  cases e : H p with
  | none => rfl
  | some u =>
    have q := x p u e
    rw [h.n] at q
    cases q⟩
/-- the script: no list of ours, or the module's -/
structure Scr (K : PySem.W.Frag) (H : Hp) (a : Addr) (xs : List V) : Prop where
  sq : SqL K H a xs
  no : ∀ u, H a = some u → ∃ ob ys, u = .frz ob (.lst ys)
end
/-- an own class -/
structure ClsT (K : PySem.W.Frag) (mg : Str → Option Value) (C : Addr) (name : Str) : Prop where
  g : mg name = some (.ref C)
  cl : Cls K C
  ha : PySem.W.findIn K (.ref C) "__class__" = some (some (.builtin "object.__class__"))
  hn : PySem.W.specialIn K (.builtin "object.__class__") "__get__" = some (some (.builtin "getset_descriptor.__get__"))
  ht : PySem.W.takesIn K (.builtin "object.__class__") = some true
  hm : PySem.W.mroIn K C (.type "object") = some true
theorem ClsT.ty {K : PySem.W.Frag} {mg : Str → Option Value} {C : Addr} {name : Str} (t : ClsT K mg C name) {H : Hp} {a dx : Addr} {fs : List (Str × V)} (e : H a = some (.ins C dx fs)) : TyX K H (.ref a) (.ref C) := .base (.ins e t.cl t.ha t.hn t.ht t.hm)
theorem kit_self {K : PySem.W.Frag} {C : Addr} : PySem.W.kitOne K (.ref C) (.ref C) = some true := by
  unfold PySem.W.kitOne
  rw [if_pos (by simp)]
theorem isr_own {K : PySem.W.Frag} {mg : Str → Option Value} {C : Addr} {name : Str} (t : ClsT K mg C name) {H : Hp} {a dx : Addr} {fs : List (Str × V)} {k : Bool → Prop} (e : H a = some (.ins C dx fs)) (q : k true) : IsR K H (.ref a) C k := ⟨.inl ⟨_, _, t.ty e, kit_self, q⟩⟩
theorem kit_int_int {K : PySem.W.Frag} : PySem.W.kitOne K (.type "int") (.type "int") = some true := kit_ty (by decide +kernel)
theorem kit_int_bool {K : PySem.W.Frag} : PySem.W.kitOne K (.type "int") (.type "bool") = some false := kit_ty (by decide +kernel)
theorem kit_int_str {K : PySem.W.Frag} : PySem.W.kitOne K (.type "int") (.type "str") = some false := kit_ty (by decide +kernel)
theorem kit_int_list {K : PySem.W.Frag} : PySem.W.kitOne K (.type "int") (.type "list") = some false := kit_ty (by decide +kernel)
theorem kit_int_tuple {K : PySem.W.Frag} : PySem.W.kitOne K (.type "int") (.type "tuple") = some false := kit_ty (by decide +kernel)
theorem kit_bool_int {K : PySem.W.Frag} : PySem.W.kitOne K (.type "bool") (.type "int") = some true := kit_ty (by decide +kernel)
theorem kit_bool_bool {K : PySem.W.Frag} : PySem.W.kitOne K (.type "bool") (.type "bool") = some true := kit_ty (by decide +kernel)
theorem kit_bool_str {K : PySem.W.Frag} : PySem.W.kitOne K (.type "bool") (.type "str") = some false := kit_ty (by decide +kernel)
theorem kit_bool_list {K : PySem.W.Frag} : PySem.W.kitOne K (.type "bool") (.type "list") = some false := kit_ty (by decide +kernel)
theorem kit_bool_tuple {K : PySem.W.Frag} : PySem.W.kitOne K (.type "bool") (.type "tuple") = some false := kit_ty (by decide +kernel)
theorem kit_str_int {K : PySem.W.Frag} : PySem.W.kitOne K (.type "str") (.type "int") = some false := kit_ty (by decide +kernel)
theorem kit_str_bool {K : PySem.W.Frag} : PySem.W.kitOne K (.type "str") (.type "bool") = some false := kit_ty (by decide +kernel)
theorem kit_str_str {K : PySem.W.Frag} : PySem.W.kitOne K (.type "str") (.type "str") = some true := kit_ty (by decide +kernel)
theorem kit_str_list {K : PySem.W.Frag} : PySem.W.kitOne K (.type "str") (.type "list") = some false := kit_ty (by decide +kernel)
theorem kit_str_tuple {K : PySem.W.Frag} : PySem.W.kitOne K (.type "str") (.type "tuple") = some false := kit_ty (by decide +kernel)
theorem kit_list_int {K : PySem.W.Frag} : PySem.W.kitOne K (.type "list") (.type "int") = some false := kit_ty (by decide +kernel)
theorem kit_list_bool {K : PySem.W.Frag} : PySem.W.kitOne K (.type "list") (.type "bool") = some false := kit_ty (by decide +kernel)
theorem kit_list_str {K : PySem.W.Frag} : PySem.W.kitOne K (.type "list") (.type "str") = some false := kit_ty (by decide +kernel)
theorem kit_list_list {K : PySem.W.Frag} : PySem.W.kitOne K (.type "list") (.type "list") = some true := kit_ty (by decide +kernel)
theorem kit_list_tuple {K : PySem.W.Frag} : PySem.W.kitOne K (.type "list") (.type "tuple") = some false := kit_ty (by decide +kernel)
theorem kit_tuple_int {K : PySem.W.Frag} : PySem.W.kitOne K (.type "tuple") (.type "int") = some false := kit_ty (by decide +kernel)
theorem kit_tuple_bool {K : PySem.W.Frag} : PySem.W.kitOne K (.type "tuple") (.type "bool") = some false := kit_ty (by decide +kernel)
theorem kit_tuple_str {K : PySem.W.Frag} : PySem.W.kitOne K (.type "tuple") (.type "str") = some false := kit_ty (by decide +kernel)
theorem kit_tuple_list {K : PySem.W.Frag} : PySem.W.kitOne K (.type "tuple") (.type "list") = some false := kit_ty (by decide +kernel)
theorem kit_tuple_tuple {K : PySem.W.Frag} : PySem.W.kitOne K (.type "tuple") (.type "tuple") = some true := kit_ty (by decide +kernel)
theorem kit_NoneType_int {K : PySem.W.Frag} : PySem.W.kitOne K (.type "NoneType") (.type "int") = some false := kit_ty (by decide +kernel)
theorem kit_NoneType_bool {K : PySem.W.Frag} : PySem.W.kitOne K (.type "NoneType") (.type "bool") = some false := kit_ty (by decide +kernel)
theorem kit_NoneType_str {K : PySem.W.Frag} : PySem.W.kitOne K (.type "NoneType") (.type "str") = some false := kit_ty (by decide +kernel)
theorem kit_NoneType_list {K : PySem.W.Frag} : PySem.W.kitOne K (.type "NoneType") (.type "list") = some false := kit_ty (by decide +kernel)
theorem kit_NoneType_tuple {K : PySem.W.Frag} : PySem.W.kitOne K (.type "NoneType") (.type "tuple") = some false := kit_ty (by decide +kernel)
/-- a value, an integer of ours that is not below l -/
def intFrom (x : V) (l : Int) : Bool := match x with
  | .int i => decide (l ≤ i)
  | _ => false
/-- a list or a tuple that is tracked, or a flat value -/
inductive AnyV (H : Hp) : V → Prop
  | non : AnyV H .non
  | bl (b : Bool) : AnyV H (.bl b)
  | int (i : Int) : AnyV H (.int i)
  | str (z : Str) : AnyV H (.str z)
  | lst {a : Addr} {xs : List V} (e : H a = some (.lst xs)) : AnyV H (.ref a)
  | tup {a : Addr} {xs : List V} (e : H a = some (.tup xs)) : AnyV H (.ref a)
theorem log_small {i : Int} (h : i.natAbs < 2 ^ 200) : i.natAbs.log2 < 1920 := Nat.lt_of_lt_of_le (PySem.Flt.log2_lt_of (by decide) h) (by decide)
end CL
set_option Elab.async false
set_option linter.all false
set_option maxRecDepth 100000
set_option maxHeartbeats 2000000
namespace CL
open PySem PySem.Spec PyProof.Rows L2 RZ SkE
structure RepD (K : PySem.W.Frag) (H : Hp) (x : V) (k : Str → Prop) : Prop where
  ex : ∃ d, Dp K H x d ∧ d.showable = true ∧ d.hasDict = false ∧ d.depth ≤ 60 ∧ d.shown.length ≤ sizeLine ∧ k d.shown
def rRepC (K : PySem.W.Frag) : List V → Hp → VK → Prop := fun xs H Q => match xs with
  | [.ref p] => RepD K H (.ref p) fun z => Q (.str z) H
  | [.int i] => Chk (i.natAbs.log2 < 1920) (Q (.str (toString i)) H)
  | _ => False
structure FnG (P : Program) (W0 : World) (K : PySem.W.Frag) (mg : Str → Option Value) (base : Heap) (CX : CXT) (k : Nat) (f : Addr) (fd : FuncData) (ps : List Str) (sp : Sp) : Prop where
  len : ∀ vs H Q E, sp vs H Q E → vs.length = ps.length
  run : ∀ (A : Around) (outer : List Env) (s : Shared) (H : Hp) (args : Args) (us : List Value) (vs : List V) (Q : VK) (E : XK), A.guards = some [] → Room k A → Env0 P W0 K mg base A outer s H → BindsTo s fd args (ps.zip us) → Vals vs us → sp vs H Q E →
    codeAny (model P W0) A (.call (.ref f) args) (CR CX outer P W0 H s Q E) s
section
variable {CX : CXT} {P : Program} {W0 : World} {K : PySem.W.Frag} {mg : Str → Option Value} {base : Heap} {k : Nat} {f : Addr} {fd : FuncData} {qual x : Str} {st : Stmt} {N ps : List Str} {sp : Sp}
/-- the rule for a def of the module, as Fun.ok, with the empty guard -/
theorem fun_okG (F : Fun K x qual st f fd) (S : FnScope N ps (defScope st)) (len : ∀ vs H Q E, sp vs H Q E → vs.length = ps.length)
    (hbody : ∀ (cdv : Value) (A : Around) (outer : List Env) (s : Shared) (H : Hp) (vs : List V) (Q : VK) (E : XK), A.guards = some [] → Room k (A.deeper (envOfC qual (defScope st) s.heap.objs.size f cdv)) → sp vs H Q E →
      ∃ t, PSs (cxOf CX0 P W0 K mg base N qual (defScope st) f cdv A outer s H E).nox (defBody st) t ∧ t { nx := fun _ H' => Q .non H', rt := Q } (L2.start N vs) H) : FnG P W0 K mg base CX0 (k + 1) f fd ps sp := by
  obtain ⟨oc, od, kV, doc, pm, an, cdv, ct, osl, rfl, lk, hcd⟩ := F.ex
  constructor
  · exact len
  · intro A outer s H args us vs Q E hG hr e0 hb r hsp
    obtain ⟨t, ht, hq⟩ := hbody cdv A outer s H vs Q E hG (hr.deeper _) hsp
    have inK : K.In s.heap := e0.mod.kin.keeps fun b o e => (e0.bs b o e).1
    have noL : s.heap.NoLimit := e0.mod.nolimit.keeps fun b o e => (e0.bs b o e).1
    refine codeAny_call_function hr.depth (inK _ _ lk) rfl S.co S.gen rfl (PySem.W.codeRec_of inK hcd) (hb _ _ _ _ ?_)
    refine wpAny_newFunctionEnv_cells S.kind (fun y hy => ?_) fun env he s1 z => ?_
    · obtain ⟨n, v⟩ := y
      exact (S.par n (List.of_mem_zip hy).1).elim .inl fun q => .inr ⟨q, PySem.W.cellsFrom_some _ _ _ (.inl q)⟩
    · subst he
      refine ⟨noL.keeps z.toInCall.keep, codeAny_func ?_⟩
      have I0 : Inv (cxOf CX0 P W0 K mg base N qual (defScope st) f cdv A outer s H E) [] (L2.start N vs) H s1 := inv_start S hr.hd e0 (len _ _ _ _ hsp) r z
      refine wpAny_mono (ht.nox.run [] s1 (L2.start N vs) H _ I0 hq) (fun fl s' hs => ?_) fun e s' hs => hs
      cases fl with
      | ret u => exact let ⟨v, σ', H', J, rv, q⟩ := hs; ⟨v, H', J.os, J.bare, J.base, J.hok, rv, q⟩
      | next => exact let ⟨σ', H', J, q⟩ := hs; ⟨V.non, H', J.os, J.bare, J.base, J.hok, rfl, q⟩
      | brk => exact let ⟨_, _, _, q⟩ := hs; q.elim
      | cont => exact let ⟨_, _, _, q⟩ := hs; q.elim
end
end CL
set_option Elab.async false
set_option linter.all false
set_option maxRecDepth 100000
set_option maxHeartbeats 2000000
namespace CL
open PySem PySem.Spec PyProof.Rows L2 RZ SkE
end CL
set_option Elab.async false
set_option linter.all false
set_option maxRecDepth 100000
set_option maxHeartbeats 2000000
namespace OW
open PySem PySem.Spec PyProof.Rows L2 RZ SkE CL
/-- an instance that is done: it never changes from now on -/
def doneF (fs : List (Str × V)) : Bool := (fs.lookup ("late" : Str)).isSome || ((fs.lookup ("events" : Str)).isSome || ((fs.lookup ("peak" : Str)).isSome && (fs.lookup ("rule" : Str)).isNone))
def imm : HO → Bool
  | .tup _ => true
  | .frz _ (.lst _) => true
  | .frz _ (.tup _) => true
  | .ins _ _ fs => doneF fs
  | _ => false
/-- what never changes stands as it stood -/
def Keep (H H' : Hp) : Prop := ∀ a o, H a = some o → imm o = true → H' a = some o
def Stable (R : Hp → Prop) : Prop := ∀ H H', Keep H H' → R H → R H'
structure OwnF (H : Hp) (L : List (Addr × HO)) (I : List (Hp → Prop)) : Prop where
  at_ : ∀ c ∈ L, H c.1 = some c.2
  nd : (L.map Prod.fst).Nodup
  im : ∀ R ∈ I, R H ∧ Stable R
/-- one of a list, the others -/
inductive Pull {α : Type} : List α → α → List α → Prop
  | head {c : α} {L : List α} : Pull (c :: L) c L
  | tail {c d : α} {L R : List α} (h : Pull L c R) : Pull (d :: L) c (d :: R)
theorem Pull.perm {α : Type} {L : List α} {c : α} {R : List α} (h : Pull L c R) : L.Perm (c :: R) := by
  induction h with
  | head => exact List.Perm.refl _
  | tail h ih => exact (List.Perm.cons _ ih).trans (List.Perm.swap _ _ _)
/-- some of a list, in this order -/
inductive Pick {α : Type} : List α → List α → Prop
  | nil {L : List α} : Pick L []
  | all {L : List α} : Pick L L
  | cons {L R M : List α} {c : α} (h : Pull L c R) (t : Pick R M) : Pick L (c :: M)
  | skip {L M : List α} {c : α} (t : Pick L M) : Pick (c :: L) M
theorem Pick.sub {α : Type} {L M : List α} (h : Pick L M) : ∃ G, L.Perm (M ++ G) := by
  induction h with
  | nil => exact ⟨_, List.Perm.refl _⟩
  | @all L => exact ⟨[], by rw [List.append_nil]⟩
  | cons h t ih =>
    obtain ⟨G, e⟩ := ih
    exact ⟨G, h.perm.trans (List.Perm.cons _ e)⟩
  | @skip L M c t ih =>
    obtain ⟨G, e⟩ := ih
    exact ⟨c :: G, (List.Perm.cons _ e).trans List.perm_middle.symm⟩
section
variable {H H' : Hp} {L R M : List (Addr × HO)} {I J : List (Hp → Prop)} {a b p : Addr} {o o' : HO}
theorem OwnF.perm (h : OwnF H L I) (e : L.Perm M) : OwnF H M I := ⟨fun c m => h.at_ c (e.mem_iff.mpr m), (e.map Prod.fst).nodup_iff.mp h.nd, h.im⟩
theorem OwnF.pre {G : List (Addr × HO)} (h : OwnF H (L ++ G) I) : OwnF H L I := ⟨fun c m => h.at_ c (List.mem_append_left _ m), by
  have := h.nd
  rw [List.map_append] at this
  exact (List.nodup_append.mp this).1, h.im⟩
theorem OwnF.pick (h : OwnF H L I) (e : Pick L M) : OwnF H M I := let ⟨_, e⟩ := e.sub; (h.perm e).pre
theorem OwnF.subI (h : OwnF H L I) (e : ∀ R ∈ J, R ∈ I) : OwnF H L J := ⟨h.at_, h.nd, fun R m => h.im R (e R m)⟩
theorem OwnF.pull (h : OwnF H L I) (e : Pull L (a, o) R) : OwnF H ((a, o) :: R) I := h.perm e.perm
theorem OwnF.get (h : OwnF H L I) (e : Pull L (a, o) R) : H a = some o := h.at_ (a, o) (e.perm.mem_iff.mpr List.mem_cons_self)
theorem OwnF.hd (h : OwnF H ((a, o) :: R) I) : H a = some o := h.at_ (a, o) List.mem_cons_self
theorem OwnF.tl (h : OwnF H ((a, o) :: R) I) : OwnF H R I := ⟨fun c m => h.at_ c (List.mem_cons_of_mem _ m), (List.nodup_cons.mp h.nd).2, h.im⟩
theorem OwnF.new (h : OwnF H L I) (n : H p = none) : OwnF (upd H p o) ((p, o) :: L) I := by
  refine ⟨fun c m => ?_, ?_, fun R m => ⟨?_, (h.im R m).2⟩⟩
  · rcases List.mem_cons.mp m with rfl | m
    · exact upd_same
    · have q := h.at_ c m
      rw [upd_ne (ne_of_none q n)]
      exact q
  · rw [List.map_cons, List.nodup_cons]
    refine ⟨fun m => ?_, h.nd⟩
    obtain ⟨c, mc, e⟩ := List.mem_map.mp m
    have q := h.at_ c mc
    rw [e, show (p, o).1 = p from rfl, n] at q
    cases q
  · refine (h.im R m).2 H _ (fun a u q _ => ?_) (h.im R m).1
    rw [upd_ne (ne_of_none q n)]
    exact q
theorem OwnF.put (h : OwnF H L I) (e : Pull L (a, o) R) (m : imm o = false) : OwnF (upd H a o') ((a, o') :: R) I := by
  have h1 := h.pull e
  have nd := List.nodup_cons.mp h1.nd
  refine ⟨fun c mc => ?_, ?_, fun S mS => ⟨?_, (h.im S mS).2⟩⟩
  · rcases List.mem_cons.mp mc with rfl | mc
    · exact upd_same
    · have q := h1.at_ c (List.mem_cons_of_mem _ mc)
      rw [upd_ne (fun e => nd.1 (List.mem_map.mpr ⟨c, mc, e⟩))]
      exact q
  · exact List.nodup_cons.mpr nd
  · refine (h.im S mS).2 H _ (fun b u q i => ?_) (h.im S mS).1
    rw [upd_ne (fun e => ?_)]
    · exact q
    · subst e
      rw [h1.hd] at q
      cases q
      rw [m] at i
      cases i
theorem OwnF.imp {S : Hp → Prop} (h : OwnF H L I) (m : S ∈ I) : S H := (h.im S m).1
theorem OwnF.addI {S : Hp → Prop} (h : OwnF H L I) (s : Stable S) (q : S H) : OwnF H L (S :: I) := ⟨h.at_, h.nd, fun R m => by
  rcases List.mem_cons.mp m with rfl | m
  · exact ⟨q, s⟩
  · exact h.im R m⟩
end
inductive Ck where
  | pt (a : Addr) (o : HO)
  | ab (P : List (Addr × HO) → Prop)
inductive Flat : List Ck → List (Addr × HO) → Prop
  | nil : Flat [] []
  | pt {a : Addr} {o : HO} {L : List Ck} {F : List (Addr × HO)} (h : Flat L F) : Flat (.pt a o :: L) ((a, o) :: F)
  | ab {P : List (Addr × HO) → Prop} {l F : List (Addr × HO)} {L : List Ck} (p : P l) (h : Flat L F) : Flat (.ab P :: L) (l ++ F)
theorem Flat.perm {L M : List Ck} (e : L.Perm M) : ∀ {F : List (Addr × HO)}, Flat L F → ∃ G, Flat M G ∧ F.Perm G := by
  induction e with
  | nil => exact fun h => ⟨_, h, List.Perm.refl _⟩
  | cons x _ ih =>
    intro F h
    cases h with
    | pt h => obtain ⟨G, f, p⟩ := ih h; exact ⟨_, .pt f, List.Perm.cons _ p⟩
    | ab q h => obtain ⟨G, f, p⟩ := ih h; exact ⟨_, .ab q f, List.Perm.append_left _ p⟩
  | swap x y _ =>
    intro F h
    cases h with
    | pt h =>
      cases h with
      | pt h => exact ⟨_, .pt (.pt h), List.Perm.swap _ _ _⟩
      | ab q h => exact ⟨_, .ab q (.pt h), List.perm_middle.symm⟩
    | ab q h =>
      cases h with
      | pt h => exact ⟨_, .pt (.ab q h), List.perm_middle⟩
      | ab q2 h => exact ⟨_, .ab q2 (.ab q h), by rw [← List.append_assoc, ← List.append_assoc]; exact List.Perm.append_right _ List.perm_append_comm⟩
  | trans _ _ ih1 ih2 =>
    intro F h
    obtain ⟨G, f, p⟩ := ih1 h
    obtain ⟨G2, f2, p2⟩ := ih2 f
    exact ⟨G2, f2, p.trans p2⟩
theorem Flat.app {L M : List Ck} : ∀ {F : List (Addr × HO)}, Flat (L ++ M) F → ∃ A B, Flat L A ∧ Flat M B ∧ F = A ++ B := by
  induction L with
  | nil => exact fun h => ⟨[], _, .nil, h, rfl⟩
  | cons c L ih =>
    intro F h
    cases h with
    | pt h => obtain ⟨A, B, f, g, rfl⟩ := ih h; exact ⟨_, B, .pt f, g, rfl⟩
    | ab q h => obtain ⟨A, B, f, g, rfl⟩ := ih h; exact ⟨_, B, .ab q f, g, (List.append_assoc _ _ _).symm⟩
structure Own (H : Hp) (L : List Ck) (I : List (Hp → Prop)) : Prop where
  ex : ∃ F, Flat L F ∧ OwnF H F I
section
variable {H H' : Hp} {L R M : List Ck} {I J : List (Hp → Prop)} {a b p : Addr} {o o' : HO} {c : Ck}
theorem Own.perm (h : Own H L I) (e : L.Perm M) : Own H M I := by
  obtain ⟨F, f, w⟩ := h.ex
  obtain ⟨G, g, p⟩ := f.perm e
  exact ⟨G, g, w.perm p⟩
theorem Own.pre {G : List Ck} (h : Own H (L ++ G) I) : Own H L I := by
  obtain ⟨F, f, w⟩ := h.ex
  obtain ⟨A, B, f1, _, rfl⟩ := f.app
  exact ⟨A, f1, w.pre⟩
theorem Own.pick (h : Own H L I) (e : Pick L M) : Own H M I := let ⟨_, e⟩ := e.sub; (h.perm e).pre
theorem Own.subI (h : Own H L I) (e : ∀ R ∈ J, R ∈ I) : Own H L J := let ⟨F, f, w⟩ := h.ex; ⟨F, f, w.subI e⟩
theorem Own.pull (h : Own H L I) (e : Pull L c R) : Own H (c :: R) I := h.perm e.perm
theorem Own.hd (h : Own H (.pt a o :: R) I) : H a = some o := by
  obtain ⟨F, f, w⟩ := h.ex
  cases f with
  | pt f => exact w.hd
theorem Own.get (h : Own H L I) (e : Pull L (.pt a o) R) : H a = some o := (h.pull e).hd
theorem Own.tl (h : Own H (c :: R) I) : Own H R I := (h.perm (M := R ++ [c]) (List.perm_append_comm (l₁ := [c]))).pre
theorem Own.new (h : Own H L I) (n : H p = none) : Own (upd H p o) (.pt p o :: L) I := let ⟨F, f, w⟩ := h.ex; ⟨_, .pt f, w.new n⟩
theorem Own.put (h : Own H L I) (e : Pull L (.pt a o) R) (m : imm o = false) : Own (upd H a o') (.pt a o' :: R) I := by
  obtain ⟨F, f, w⟩ := (h.pull e).ex
  cases f with
  | pt f => exact ⟨_, .pt f, w.put .head m⟩
theorem Own.imp {S : Hp → Prop} (h : Own H L I) (m : S ∈ I) : S H := let ⟨_, _, w⟩ := h.ex; w.imp m
theorem Own.addI {S : Hp → Prop} (h : Own H L I) (s : Stable S) (q : S H) : Own H L (S :: I) := let ⟨F, f, w⟩ := h.ex; ⟨F, f, w.addI s q⟩
/-- a bundle opened and closed -/
theorem Own.open_ {P : List (Addr × HO) → Prop} (h : Own H (.ab P :: R) I) : ∃ l, P l ∧ Own H (l.map (fun x => Ck.pt x.1 x.2) ++ R) I := by
  obtain ⟨F, f, w⟩ := h.ex
  cases f with
  | @ab _ l F _ p f =>
    refine ⟨l, p, _, ?_, w⟩
    clear w p
    induction l with
    | nil => exact f
    | cons x l ih => exact .pt ih
theorem Own.close {P : List (Addr × HO) → Prop} {l : List (Addr × HO)} (p : P l) (h : Own H (l.map (fun x => Ck.pt x.1 x.2) ++ R) I) : Own H (.ab P :: R) I := by
  obtain ⟨F, f, w⟩ := h.ex
  have : ∃ G, Flat R G ∧ F = l ++ G := by
    clear w p h
    induction l generalizing F with
    | nil => exact ⟨F, f, rfl⟩
    | cons x l ih =>
      cases f with
      | pt f => obtain ⟨G, g, rfl⟩ := ih _ f; exact ⟨G, g, rfl⟩
  obtain ⟨G, g, rfl⟩ := this
  exact ⟨_, .ab p g, w⟩
end
/-- a tuple that stays -/
abbrev tupI (a : Addr) (xs : List V) : Hp → Prop := fun H => H a = some (.tup xs)
/-- the script in a form that stays: locked, or of the module's own -/
abbrev seqI (K : PySem.W.Frag) (a : Addr) (xs : List V) : Hp → Prop := fun H => SqL K H a xs ∧ ((∃ o, H a = some (.frz o (.lst xs))) ∨ ∀ H', SqL K H' a xs)
theorem stable_seq {K : PySem.W.Frag} {a : Addr} {xs : List V} : Stable (seqI K a xs) := fun H H' k h => by
  obtain ⟨h, ⟨o, f⟩ | f⟩ := h
  · have q := k _ _ f rfl
    exact ⟨.inl (.inr ⟨o, q⟩), .inl ⟨o, q⟩⟩
  · exact ⟨f H', .inr f⟩
theorem seqI_of {K : PySem.W.Frag} {H : Hp} {a : Addr} {xs : List V} (s : Scr K H a xs) : seqI K a xs H := by
  refine ⟨s.sq, ?_⟩
  rcases s.sq with (h | ⟨o, h⟩) | h
  · obtain ⟨ob, ys, e⟩ := s.no _ h
    cases e
  · exact .inl ⟨o, h⟩
  · exact .inr fun H' => .inr h
theorem own_nil {H : Hp} : Own H [] [] := ⟨[], .nil, ⟨fun c m => (List.not_mem_nil m).elim, List.nodup_nil, fun R m => (List.not_mem_nil m).elim⟩⟩
section
variable {K : PySem.W.Frag} {H : Hp} {L R M : List Ck} {I : List (Hp → Prop)} {a b p : Addr} {o o' : HO} {xs ys : List V}
theorem new_o {k : Addr → Hp → Prop} (h : Own H L I) (q : ∀ p H', Own H' (.pt p o :: L) I → k p H') : New H o k := ⟨fun p n => q p _ (h.new n)⟩
theorem sq_l {k : List V → Prop} (h : Own H L I) (e : Pull L (.pt a (.lst xs)) R) (q : k xs) : Sq K H a k := Sq.l (SqL.of (h.get e)) q
theorem sq_t {k : List V → Prop} (h : Own H L I) (e : Pull L (.pt a (.tup xs)) R) (q : k xs) : Sq K H a k := Sq.t (SqT.of (h.get e)) q
theorem sq_s {k : List V → Prop} (h : Own H L I) (e : seqI K a xs ∈ I) (q : k xs) : Sq K H a k := Sq.l (h.imp e).1 q
theorem sq_i {k : List V → Prop} (h : Own H L I) (e : tupI a xs ∈ I) (q : k xs) : Sq K H a k := Sq.t (SqT.of (h.imp e)) q
theorem ls_o {k : List V → Prop} (h : Own H L I) (e : Pull L (.pt a (.lst xs)) R) (q : k xs) : Ls H a k := Ls.mk' (h.get e) q
theorem fld_o {C dx : Addr} {fs : List (Str × V)} {f : Str} {v : V} {k : V → Prop} (h : Own H L I) (e : Pull L (.pt a (.ins C dx fs)) R) (c : Cls K C) (n : NoAttr K C f) (l : fs.lookup f = some v) (q : k v) : Fld K H a f k := ⟨C, dx, fs, v, h.get e, c, n, l, q⟩
theorem setf_o {C dx : Addr} {fs : List (Str × V)} {f : Str} {y : V} {k : Hp → Prop} (h : Own H L I) (e : Pull L (.pt a (.ins C dx fs)) R) (c : Cls K C) (n : NoAttr K C f) (l : fs.length < 1000) (m : doneF fs = false) (q : ∀ H', Own H' (.pt a (.ins C dx (putF f y fs)) :: R) I → k H') : SetF K H a f y k := ⟨C, dx, fs, h.get e, c, n, l, q _ (h.put e m)⟩
theorem setl_o {i : Int} {j : Nat} {v : V} {Q : Hp → Prop} (h : Own H L I) (e : Pull L (.pt a (.lst xs)) R) (x : ixN xs.length i = some j) (q : ∀ H', Own H' (.pt a (.lst (xs.set j v)) :: R) I → Q H') : SetL H a i v Q := ⟨xs, j, h.get e, x, q _ (h.put e rfl)⟩
theorem unt_o {n : Nat} {k : List V → Prop} (h : Own H L I) (e : Pull L (.pt a (.tup xs)) R) (l : xs.length = n) (q : k xs) : UnT K H a n k := ⟨xs, SqT.of (h.get e), l, q⟩
theorem sll_o {lo hi : Option Int} {Q : VK} (h : Own H L I) (e : Pull L (.pt a (.lst xs)) R) (q : ∀ p H', Own H' (.pt p (.lst (cutV xs lo hi)) :: L) I → Q (.ref p) H') : SlL K H a lo hi Q := ⟨xs, SqL.of (h.get e), new_o h q⟩
theorem sll_s {lo hi : Option Int} {Q : VK} (h : Own H L I) (e : seqI K a xs ∈ I) (q : ∀ p H', Own H' (.pt p (.lst (cutV xs lo hi)) :: L) I → Q (.ref p) H') : SlL K H a lo hi Q := ⟨xs, (h.imp e).1, new_o h q⟩
theorem tupr_l {Q : VK} (h : Own H L I) (e : Pull L (.pt a (.lst xs)) R) (q : ∀ p H', Own H' (.pt p (.tup xs) :: L) I → Q (.ref p) H') : TupR K H a Q := ⟨xs, .inl ⟨SqL.of (h.get e), new_o h q⟩⟩
theorem tupr_t {Q : VK} (h : Own H L I) (e : Pull L (.pt a (.tup xs)) R) (q : Q (.ref a) H) : TupR K H a Q := ⟨xs, .inr ⟨SqT.of (h.get e), q⟩⟩
theorem meth_o {C dx : Addr} {fs : List (Str × V)} {m : Str} {k : Prop} (h : Own H L I) (e : Pull L (.pt a (.ins C dx fs)) R) (l : fs.lookup m = none) (q : k) : MethR H C m a k := ⟨dx, fs, h.get e, l, q⟩
theorem its_l {P : It → Hp → Prop} (h : Own H L I) (e : Pull L (.pt a (.lst xs)) R) (q : P (Itl K a) H) : ItS K H a P := ⟨.inl ⟨⟨xs, SqL.of (h.get e)⟩, q⟩⟩
theorem its_t {P : It → Hp → Prop} (h : Own H L I) (e : Pull L (.pt a (.tup xs)) R) (q : P (Itt K a) H) : ItS K H a P := ⟨.inr ⟨⟨xs, SqT.of (h.get e)⟩, q⟩⟩
theorem its_s {P : It → Hp → Prop} (h : Own H L I) (e : seqI K a xs ∈ I) (q : P (Itl K a) H) : ItS K H a P := ⟨.inl ⟨⟨xs, (h.imp e).1⟩, q⟩⟩
theorem ite_l {P : It → Hp → Prop} (h : Own H L I) (e : Pull L (.pt a (.lst xs)) R) (q : P (Ite K a) H) : ItE K H a P := ⟨⟨xs, SqL.of (h.get e)⟩, q⟩
end
/-- a list that a method changes -/
structure Grow (H : Hp) (l : Addr) (o : HO) (Q : VK) (v : V) : Prop where
  q : Q v (upd H l o)
def rAppG : V → List V → Hp → VK → Prop := fun x vs H Q => match x, vs with
  | .ref l, [y] => Ls H l fun xs => Chk (xs.length < sizeLine) (Grow H l (.lst (xs ++ [y])) Q .non)
  | _, _ => False
theorem m_appG {X : Cx} : MtR X "list.append" rAppG := by
  intro pins s σ H x xs v us Q I rx rs h
  unfold rAppG at h
  split at h
  · obtain ⟨⟨ys, h1, h2⟩⟩ := h
    exact m_append pins s σ H _ _ v us Q I rx rs ⟨ys, h1, ⟨h2.p, h2.k.q⟩⟩
  · exact h.elim
theorem grow_o {H : Hp} {L R : List Ck} {I : List (Hp → Prop)} {l : Addr} {o o' : HO} {Q : VK} {v : V} (h : Own H L I) (e : Pull L (.pt l o) R) (m : imm o = false) (q : ∀ H', Own H' (.pt l o' :: R) I → Q v H') : Grow H l o' Q v := ⟨q _ (h.put e m)⟩
section
variable {K : PySem.W.Frag} {g : TG} {tt : TT} {te : TE} {vs : List Nat} {σ : L2.St} {H : Hp} {L : List Ck} {I : List (Hp → Prop)} {a b : Addr} {xs ys : List V} {Qd : Addr → Hp → Prop}
theorem newa_o {k : Addr → Prop} (h : Own H L I) (q : ∀ p, Own (upd H p (.lst [])) (.pt p (.lst []) :: L) I → k p) : NewA H k := ⟨fun p n => q p (h.new n)⟩
/-- a turn's end -/
structure Acc (p : Addr) (y : V) (H : Hp) (N : Hp → Prop) : Prop where
  ex : ∃ acc, H p = some (.lst acc) ∧ acc.length < sizeLine ∧ N (upd H p (.lst (acc ++ [y])))
end
structure NxW (W : Nat → L2.St → Hp → Prop) (m : Nat) (t : (L2.St → Hp → Prop) → Prop) : Prop where
  ex : ∃ N : L2.St → Hp → Prop, (∀ σ' H', N σ' H' → ∃ m', m' < m ∧ W m' σ' H') ∧ t N
theorem nxw_eq {W : Nat → L2.St → Hp → Prop} {m : Nat} {t : (L2.St → Hp → Prop) → Prop} : NxW W m t = ∃ N : L2.St → Hp → Prop, (∀ σ' H', N σ' H' → ∃ m', m' < m ∧ W m' σ' H') ∧ t N := propext ⟨fun h => h.ex, fun h => ⟨h⟩⟩
theorem nxw_mk {W : Nat → L2.St → Hp → Prop} {m : Nat} {t : (L2.St → Hp → Prop) → Prop} (h : t fun σ' H' => ∃ m', m' < m ∧ W m' σ' H') : NxW W m t := ⟨_, fun _ _ z => z, h⟩
structure WhW (c : TT) (tb : TS) (D : Ends) (σ : L2.St) (H : Hp) : Prop where
  ex : ∃ W : Nat → L2.St → Hp → Prop, (∃ m, W m σ H) ∧ ∀ m σ H, W m σ H → c σ H fun b H1 => Br b (NxW W m fun N => tb { D with nx := N, ct := N, bk := D.nx } σ H1) (D.nx σ H1)
def cWhile (c : TT) (tb : TS) : TS := fun D σ H => WhW c tb D σ H
theorem s_while {X : Cx} {c : Expr} {body : List Stmt} {tc : TT} {tb : TS} {pos : Pos} (hp : PassesOwn (model X.prog X.w) X.A X.env X.xe) (hc : PT X c tc) (hb : PSs X body tb) : PS X (.While c body [] pos) (cWhile tc tb) := by
  refine weakS (ps_while hp hc hb) fun D σ H h => ?_
  obtain ⟨W, h0, h1⟩ := (show WhW tc tb D σ H from h).ex
  refine ⟨W, h0, fun m σ H w => ?_⟩
  have q := h1 m σ H w
  simp only [br_eq, nxw_eq] at q
  exact q
/-- by a word and a measure -/
theorem wh_by {c : TT} {tb : TS} {D : Ends} {σ : L2.St} {H : Hp} (W : Nat → L2.St → Hp → Prop) (m : Nat) (h0 : W m σ H) (hs : ∀ m σ H, W m σ H → c σ H fun b H1 => Br b (NxW W m fun N => tb { D with nx := N, ct := N, bk := D.nx } σ H1) (D.nx σ H1)) : WhW c tb D σ H := ⟨W, ⟨m, h0⟩, hs⟩
end OW
set_option Elab.async false
set_option linter.all false
set_option maxRecDepth 100000
set_option maxHeartbeats 2000000
namespace OW
open PySem PySem.Spec PyProof.Rows L2 RZ SkE CL
mutual
def bnd : PyData → Nat
  | .none => 4
  | .bool _ => 5
  | .int _ => 1921
  | .str x => (reprText x).length
  | .list xs => bndAll xs + 2
  | .tuple xs => bndAll xs + 3
  | .dict _ => 0
def bndAll : List PyData → Nat
  | [] => 0
  | x :: xs => bnd x + 2 + bndAll xs
end
/-- a value that can be shown: its data -/
structure RepV (K : PySem.W.Frag) (H : Hp) (x : V) (k : Str → Prop) : Prop where
  ex : ∃ d, Dp K H x d ∧ d.showable = true ∧ d.hasDict = false ∧ d.depth ≤ 60 ∧ bnd d ≤ sizeLine ∧ k d.shown
theorem rep_int {K : PySem.W.Frag} {H : Hp} {i : Int} {k : Str → Prop} (h : i.natAbs.log2 < 1920) (q : k (PyData.int i).shown) : RepV K H (.int i) k := ⟨.int i, .int i, by simp [PyData.showable, h], rfl, Nat.zero_le _, by show 1921 ≤ sizeLine; rw [sizeLine_eq]; decide, q⟩
theorem rep_non {K : PySem.W.Frag} {H : Hp} {k : Str → Prop} (q : k PyData.none.shown) : RepV K H .non k := ⟨.none, .non, rfl, rfl, by decide, by show 4 ≤ sizeLine; rw [sizeLine_eq]; decide, q⟩
theorem rep_bl {K : PySem.W.Frag} {H : Hp} {b : Bool} {k : Str → Prop} (q : k (PyData.bool b).shown) : RepV K H (.bl b) k := ⟨.bool b, .bl b, rfl, rfl, Nat.zero_le _, by show 5 ≤ sizeLine; rw [sizeLine_eq]; decide, q⟩
theorem rep_mk {K : PySem.W.Frag} {H : Hp} {x : V} {d : PyData} {k : Str → Prop} (h : Dp K H x d) (h1 : d.showable = true) (h2 : d.hasDict = false) (h3 : d.depth ≤ 60) (h4 : bnd d ≤ 16000000) (q : k d.shown) : RepV K H x k := ⟨d, h, h1, h2, h3, Nat.le_trans h4 (by rw [sizeLine_eq]; decide), q⟩
theorem dpAll_ints {K : PySem.W.Frag} {H : Hp} : ∀ ns : List Int, DpAll K H (ns.map V.int) (ns.map PyData.int)
  | [] => .nil
  | n :: ns => .cons (.int n) (dpAll_ints ns)
theorem dpAll_strs {K : PySem.W.Frag} {H : Hp} : ∀ ns : List Str, DpAll K H (ns.map V.str) (ns.map PyData.str)
  | [] => .nil
  | n :: ns => .cons (.str n) (dpAll_strs ns)
theorem eqd_mk {K : PySem.W.Frag} {H : Hp} {x y : V} {d e : PyData} {k : Bool → Prop} (h : Dp K H x d) (g : Dp K H y e) (h1 : SeqAt.shaped d = true) (g1 : SeqAt.shaped e = true) (q : k (PyData.eqv d e)) : EqD K H x y k := ⟨d, e, h, g, h1, g1, q⟩
theorem eqv_ints : ∀ (xs ys : List Int), PyData.eqvAll (xs.map PyData.int) (ys.map PyData.int) = decide (xs = ys)
  | [], [] => rfl
  | [], y :: ys => rfl
  | x :: xs, [] => rfl
  | x :: xs, y :: ys => by
    show ((x == y) && PyData.eqvAll (xs.map PyData.int) (ys.map PyData.int)) = _
    rw [eqv_ints xs ys]
    by_cases h : x = y
    · subst h
      by_cases g : xs = ys
      · subst g; simp
      · rw [decide_eq_false g, decide_eq_false fun e => g (List.cons.inj e).2]; simp
    · rw [decide_eq_false fun e => h (List.cons.inj e).1]; simp [h]
theorem eqv_ints_nil (xs : List Int) : PyData.eqvAll (xs.map PyData.int) [] = decide (xs = []) := eqv_ints xs []
end OW
set_option Elab.async false
set_option linter.all false
set_option maxRecDepth 100000
set_option maxHeartbeats 2000000
namespace OW
open PySem PySem.Spec PyProof.Rows L2 RZ SkE CL
structure LastOf (xs : List V) (k : V → Prop) : Prop where
  ex : ∃ y, xs[xs.length - 1]? = some y ∧ k y
def rPop0 : V → List V → Hp → VK → Prop := fun x vs H Q => match x, vs with
  | .ref l, [] => Ls H l fun xs => LastOf xs fun y => Grow H l (.lst xs.dropLast) Q y
  | _, _ => False
theorem m_pop0 {X : Cx} : MtR X "list.pop" rPop0 := by
  intro pins s σ H x xs v us Q I rx rs h
  unfold rPop0 at h
  split at h
  · obtain ⟨⟨ys, h1, ⟨y, h2, h3⟩⟩⟩ := h
    exact mt_pop pins s σ H _ _ v us Q I rx rs ⟨_, _, _, rfl, rfl, h1, h2, h3.q⟩
  · exact h.elim
structure RevR (K : PySem.W.Frag) (H : Hp) (a : Addr) (Q : VK) : Prop where
  ex : ∃ xs, SqL K H a xs ∧ New H (.lst xs.reverse) fun p H' => Q (.ref p) H'
def cRev (K : PySem.W.Frag) (te : TE) : TE := fun σ H Q => te σ H (onR fun a H1 => RevR K H1 a Q)
theorem e_rev {X : Cx} {e : Expr} {te : TE} {k : Nat} {p1 p2 p3 pos : Pos} (he : PE X e te) : PE X (.Subscript e (.Slice none none (some (.UnaryOp .USub (.Constant (.int 1) k p1) p2)) p3) pos) (cRev X.K te) := by
  have e2 : cRev X.K te = tRevL X.K te := by
    funext σ H Q
    unfold cRev tRevL
    rw [onR_eq]
    have e3 : (fun (x : V) (H : Hp) => ∃ c, x = V.ref c ∧ RevR X.K H c Q) = fun x H1 => ∃ a xs, x = .ref a ∧ SqL X.K H1 a xs ∧ ∀ p, H1 p = none → Q (.ref p) (upd H1 p (.lst xs.reverse)) := by
      funext x H1
      apply propext
      constructor
      · rintro ⟨a, rfl, ⟨xs, h1, h2⟩⟩
        exact ⟨a, xs, rfl, h1, h2.k⟩
      · rintro ⟨a, xs, rfl, h1, h2⟩
        exact ⟨a, rfl, ⟨xs, h1, ⟨h2⟩⟩⟩
    rw [e3]
  rw [e2]
  exact pe_revL he
section
variable {K : PySem.W.Frag} {H : Hp} {L R : List Ck} {I : List (Hp → Prop)} {a p : Addr} {xs : List V}
theorem rev_o {Q : VK} (h : Own H L I) (e : Pull L (.pt a (.lst xs)) R) (q : ∀ p H', Own H' (.pt p (.lst xs.reverse) :: L) I → Q (.ref p) H') : RevR K H a Q := ⟨xs, SqL.of (h.get e), new_o h q⟩
/-- a new instance handed to its __init__ -/
theorem make_o {C : Addr} {k : Addr → Hp → Prop} (h : Own H L I) (q : ∀ x dx H', Own H' (.pt x (.ins C dx []) :: L) I → k x H') : ∀ x dx, H x = none → H dx = none → dx ≠ x → k x (upd (upd H dx (.own x)) x (.ins C dx [])) := fun x dx hx hd ne => by
  have h1 := h.new (o := .own x) hd
  have h2 := h1.new (o := .ins C dx []) (p := x) (by rw [upd_ne (Ne.symm ne)]; exact hx)
  exact q x dx _ ((h2.perm (List.Perm.swap _ _ _)).tl)
end
end OW
set_option Elab.async false
set_option linter.all false
set_option maxRecDepth 100000
set_option maxHeartbeats 2000000
namespace OW
open PySem PySem.Spec PyProof.Rows L2 RZ SkE CL
/-- the law called by the caller, its promise in the form FnG -/
theorem callS {P : Program} {W0 : World} {K : PySem.W.Frag} {mg mb : Str → Option Value} {k : Nat} {fa a : Addr} {fd : FuncData} {x : Str} {sp : Sp} {t : Shared} {us : List Value} {ns : List Int}
    (inK : K.In t.heap) (gN : t.heap.Ns mainGlobals mg) (bN : t.heap.Ns builtinsNs mb) (bB : ∀ x : Str, x ≠ "__name__" → mb x = bootBuiltins x) (noL : t.heap.NoLimit) (noG : t.gens = #[])
    (at_ : t.heap.get? a = some { cls := .type "list", data := .seq us.toArray }) (are : IntsAre us ns) (len : ns.length ≤ sizeLine) (rm : Room k callerA)
    (F : ∀ base : Heap, K.In base → base.Ns mainGlobals mg → FnG P W0 K mg base CX0 k fa fd [x] sp) (bd : ∀ (s : Shared) (u : Value), BindsTo s fd ⟨[u], []⟩ [(x, u)])
    (prom : ∀ H : Hp, Own H [] [seqI K a (ns.map V.int)] → sp [.ref a] H (fun v _ => v = .bl true) fun _ _ _ => False) :
    codeAny (model P W0) callerA (.call (.ref fa) ⟨[.ref a], []⟩) (fun r s' => r = .ok (.ret (.bool true)) ∧ OldK t.heap s'.heap ∧ s'.os = t.os ∧ AllBare s'.gens) t := by
  have vi := vals_ints are
  have same := are.length
  -- H tracks at most the script, as the module's own or frozen
  have go : ∀ H : Hp, (∀ b, H b = none ∨ ∃ ob xs, H b = some (.frz ob (.lst xs))) → SqL K H a (ns.map V.int) → HOk P W0 H t.heap → (∀ b, H b ≠ none → b = a) → (H a ≠ none → K.lookup a = none) →
      codeAny (model P W0) callerA (.call (.ref fa) ⟨[.ref a], []⟩) (fun r s' => r = .ok (.ret (.bool true)) ∧ OldK t.heap s'.heap ∧ s'.os = t.os ∧ AllBare s'.gens) t := by
    intro H frz sq hok only own
    have notDict : ∀ {b : Addr} {o : Obj} {es : Array DictEntry} {ep : Nat}, t.heap.get? b = some o → o.data = .dict es ep → H b = none := by
      intro b o es ep e d
      by_cases q : H b = none
      · exact q
      · have z := only b q
        rw [z, at_] at e
        cases e
        exact absurd (show Data.seq us.toArray _ = Data.dict es ep from d) (by simp)
    have low : ∀ {b : Addr} {m : Str → Option Value}, t.heap.Ns b m → (hidT t.heap H).Ns b m := by
      rintro b m ⟨o, es, ep, e, d, r⟩
      exact ⟨o, es, ep, hidT_get e (notDict e d), d, r⟩
    have lowK : K.In (hidT t.heap H) := by
      intro b o e
      refine hidT_get (inK b o e) ?_
      by_cases q : H b = none
      · exact q
      · have z := only b q
        rw [z] at q e
        rw [own q] at e
        cases e
    obtain ⟨mc, l1, l2⟩ := noL
    have top : Mod K mg (hidT t.heap H) := ⟨lowK, low gN, ⟨mb, low bN, bB⟩, ⟨mc, low l1, l2⟩⟩
    have e0 : Env0 P W0 K mg (hidT t.heap H) callerA [] t H := ⟨rfl, top, fun b o e => of_hidT e, Nat.le_of_eq (hidT_size _ _), trivial, fun b hb => absurd (show b ∈ ([] : List Addr) from hb) List.not_mem_nil, hok, .of_eq noG⟩
    refine codeAny_mono ((F _ lowK (low gN)).run callerA [] t H ⟨[.ref a], []⟩ [.ref a] [.ref a] _ _ rfl rm e0 (bd t (.ref a)) (.cons rfl .nil) (prom H (own_nil.addI stable_seq (seqI_of ⟨sq, fun u z => (frz a).elim (fun n => by rw [n] at z; cases z) fun ⟨ob, xs, e⟩ => ⟨ob, xs, Option.some.inj (z.symm.trans e)⟩⟩)))) (fun r s' h => ?_)
    rcases r with e | fl
    · exact absurd h (by intro z; exact z)
    · cases fl with
      | ret u =>
        obtain ⟨v, H', os, bare, un, hok', rv, q⟩ := h
        obtain rfl : v = .bl true := q
        obtain rfl : u = Value.bool true := rv
        refine ⟨rfl, OldK.of_keep (fun b o e => ?_), os, bare⟩
        rcases frz b with z | ⟨ob, xs, z⟩
        · exact un.keep b o e z (fun y => absurd (show b ∈ ([] : List Addr) from y) List.not_mem_nil) (by simp)
        · obtain ⟨e1, _⟩ := hok b _ z
          obtain ⟨e2, _⟩ := hok' b _ (un.frzs b ob _ z)
          exact e2.trans (e1.symm.trans e)
      | next => exact absurd h (by intro z; exact z)
      | brk => exact absurd h (by intro z; exact z)
      | cont => exact absurd h (by intro z; exact z)
  cases own : K.lookup a with
  | some o =>
    obtain rfl : ({ cls := .type "list", data := .seq us.toArray } : Obj) = o := Option.some.inj (at_.symm.trans (inK a o own))
    exact go (fun _ => none) (fun _ => .inl rfl) (.inr ⟨_, us.toArray, _, own, rfl, rfl, rfl, by rw [List.size_toArray, same]; exact len, by simpa using vi⟩) (fun b u z => by cases (show (none : Option HO) = some u from z)) (fun b z => absurd rfl z) (fun z => absurd rfl z)
  | none =>
    have here : ∀ {b : Addr}, b ≠ a → (fun b => if b = a then some (HO.frz { cls := .type "list", data := .seq us.toArray } (.lst (ns.map V.int))) else none) b = none := fun n => if_neg n
    refine go (fun b => if b = a then some (.frz { cls := .type "list", data := .seq us.toArray } (.lst (ns.map V.int))) else none) (fun b => ?_) (.inl (.inr ⟨_, if_pos rfl⟩)) (fun b u z => ?_) (fun b z => ?_) (fun _ => own)
    · by_cases n : b = a
      · exact .inr ⟨_, _, if_pos n⟩
      · exact .inl (if_neg n)
    · by_cases n : b = a
      · have z' := (if_pos n).symm.trans z
        cases z'
        subst n
        exact ⟨at_, by rw [List.length_map]; exact len, us, _, vi, at_⟩
      · cases (if_neg n).symm.trans z
    · by_cases n : b = a
      · exact n
      · exact absurd (if_neg n) z
/-- the end, from a promise in the form FnG -/
theorem walkS {l : PySem.W.OpenLaw} {n k : Nat} {q : Program} {loose : List Str} {XP : (Str → Option Value) → Heap → Prop} {YP : World → Heap → Prop} {d : DefRec} {K : Params → PySem.W.Frag} {sp : World → Sp} {x : Str}
    (hn : l.most = some n) (small : n ≤ sizeLine) (df : d.params.defaults = []) (rm : Room k callerA) (hY : ∀ (w : World) (h : Heap), YP w h → (K w.params).In h)
    (F : ∀ (w : World) (mg : Str → Option Value) (fa : Addr) (h : Heap), (K w.params).In h → h.Ns mainGlobals mg → mg d.name = some (.ref fa) →
      ∃ fd : FuncData, (∀ (s : Shared) (u : Value), BindsTo s fd ⟨[u], []⟩ [(x, u)]) ∧ ∀ base : Heap, (K w.params).In base → base.Ns mainGlobals mg → FnG l.prog w (K w.params) mg base CX0 k fa fd [x] (sp w))
    (prom : ∀ (w : World) (H : Hp) (a : Addr) (ns : List Int), ns.length ≤ n → Own H [] [seqI (K w.params) a (ns.map V.int)] → sp w [.ref a] H (fun v _ => v = .bl true) fun _ _ _ => False) :
    PySem.W.WalkO q loose XP YP l.row.toRowW d [] (fun f vs => PySem.call f vs) := by
  refine Att.attach_call hn df (fun w s₀ s₁ mg mb fa o pm cd doc a vs ns G Y ho hd hcd hmg obj areInts few gens => ?_)
  have inK := hY w _ Y
  obtain ⟨fd, bd, hF⟩ := F w mg fa _ inK G.T.g hmg
  exact callS inK G.T.g G.T.b G.T.builtins G.T.nolimit gens obj areInts (Nat.le_trans few small) rm hF bd (fun H sq => prom w H a ns few sq)
end OW
set_option Elab.async false
set_option linter.all false
set_option maxRecDepth 100000
set_option maxHeartbeats 2000000
namespace OW
open PySem PySem.Spec PyProof.Rows L2 RZ SkE CL
theorem cutV_ints (ns : List Int) (lo hi : Option Int) : ∃ ms : List Int, cutV (ns.map V.int) lo hi = ms.map V.int ∧ ms.length ≤ ns.length := by
  refine ⟨(ns.drop (HT.sIx (ns.map V.int).length 0 lo)).take (HT.sIx (ns.map V.int).length (ns.map V.int).length hi - HT.sIx (ns.map V.int).length 0 lo), ?_, ?_⟩
  · unfold cutV
    rw [List.map_take, List.map_drop]
  · rw [List.length_take, List.length_drop]
    omega
theorem at_last {α : Type} (l : List α) (x : α) : atI (l ++ [x]) (-1) = some x := by
  unfold atI ixN
  rw [if_neg (by decide), if_pos (by rw [List.length_append]; simp; omega)]
  have e : (-1 + ((l ++ [x]).length : Int)).toNat = l.length := by rw [List.length_append]; simp; omega
  show (l ++ [x])[(-1 + ((l ++ [x]).length : Int)).toNat]? = some x
  rw [e, List.getElem?_append_right (Nat.le_refl _), Nat.sub_self]
  rfl
theorem last_of {α : Type} (l : List α) (x : α) : (l ++ [x])[(l ++ [x]).length - 1]? = some x := by
  have e : (l ++ [x]).length - 1 = l.length := by rw [List.length_append]; simp
  rw [e, List.getElem?_append_right (Nat.le_refl _), Nat.sub_self]
  rfl
theorem map_snoc {α β : Type} (f : α → β) (l : List α) (x : α) : (l ++ [x]).map f = l.map f ++ [f x] := by rw [List.map_append]; rfl
theorem drop_snoc {α : Type} (l : List α) (x : α) : (l ++ [x]).dropLast = l := by simp
theorem int_at {ns : List Int} {j : Nat} (h : j < ns.length) : (ns.map V.int)[j]? = some (V.int (ns.getD j 0)) := by
  rw [List.getElem?_map, List.getD_eq_getElem?_getD, List.getElem?_eq_getElem h]
  rfl
theorem eqv_list_nil (xs : List Int) : PyData.eqv (.list (xs.map PyData.int)) (.list []) = decide (xs = []) := eqv_ints_nil xs
theorem shp_ints : ∀ xs : List Int, PyData.canLayAll0 (xs.map PyData.int) = true ∧ PyData.depthAll (xs.map PyData.int) = 0
  | [] => ⟨rfl, rfl⟩
  | x :: xs => by
    have h := shp_ints xs
    exact ⟨by simp [PyData.canLayAll0, PyData.canLay0, h.1], by simp [PyData.depthAll, PyData.depth, h.2]⟩
theorem shaped_ints (xs : List Int) : SeqAt.shaped (.list (xs.map PyData.int)) = true := by
  have h := shp_ints xs
  simp [SeqAt.shaped, PyData.canLay0, PyData.depth, h.1, h.2]
theorem shaped_nil : SeqAt.shaped (.list []) = true := shaped_ints []
end OW
namespace OW
open PySem PySem.Spec PyProof.Rows L2 RZ SkE CL
theorem nenil {l : List Int} {x : Int} : (if true = true then !(PyData.list (List.map PyData.int (l ++ [x]))).eqv (.list []) else (PyData.list (List.map PyData.int (l ++ [x]))).eqv (.list [])) = true := by
  rw [if_pos rfl, eqv_list_nil, decide_eq_false (by simp)]
  rfl
theorem at_lastM {α β : Type} (f : α → β) (l : List α) (x : α) : atI ((l ++ [x]).map f) (-1) = some (f x) := by rw [map_snoc]; exact at_last _ _
theorem last_ofM {α β : Type} (f : α → β) (l : List α) (x : α) : ((l ++ [x]).map f)[((l ++ [x]).map f).length - 1]? = some (f x) := by rw [map_snoc]; exact last_of _ _
theorem drop_snocM {α β : Type} (f : α → β) (l : List α) (x : α) : ((l ++ [x]).map f).dropLast = l.map f := by rw [map_snoc]; exact drop_snoc _ _
end OW
namespace OW
open PySem PySem.Spec PyProof.Rows L2 RZ SkE CL
end OW
namespace OW
open PySem PySem.Spec PyProof.Rows L2 RZ SkE CL
theorem acc_eq {p : Addr} {y : V} {H : Hp} {N : Hp → Prop} : Acc p y H N = ∃ acc, H p = some (.lst acc) ∧ acc.length < sizeLine ∧ N (upd H p (.lst (acc ++ [y]))) := propext ⟨fun h => h.ex, fun h => ⟨h⟩⟩
theorem acc_a {p : Addr} {y : V} {H : Hp} {N : Hp → Prop} {L R : List Ck} {I : List (Hp → Prop)} {xs : List V} (h : Own H L I) (e : Pull L (.pt p (.lst xs)) R) (l : xs.length < sizeLine) (q : ∀ H', Own H' (.pt p (.lst (xs ++ [y])) :: R) I → N H') : Acc p y H N := ⟨xs, h.get e, l, q _ (h.put e rfl)⟩
/-- one turn of a comprehension -/
def LcT (g : TG) (tt : TT) (te : TE) (vs : List Nat) (σ : L2.St) (p : Addr) (x : V) (H : Hp) (Nx : Hp → Prop) : Prop := g x (wipe σ vs) H fun σ2 H2 => wipe σ2 vs = wipe σ vs ∧ tt σ2 H2 fun b H3 => Br b (te σ2 H3 fun y H4 => Acc p y H4 Nx) (Nx H3)
theorem lct_eq {g : TG} {tt : TT} {te : TE} {vs : List Nat} {σ : L2.St} {p : Addr} {x : V} {H : Hp} {Nx : Hp → Prop} : LcT g tt te vs σ p x H Nx = LcStep g tt te vs σ p x H Nx := by
  unfold LcT LcStep
  simp only [br_eq, acc_eq]
section
variable {K : PySem.W.Frag} {g : TG} {tt : TT} {te : TE} {vs : List Nat} {σ : L2.St} {H : Hp} {a b p : Addr} {xs ys : List V} {Qd : Hp → Prop}
theorem la_range {lo : Int} {n : Nat} (Pv : Nat → Hp → Prop) (h0 : Pv 0 (upd H p (.lst []))) (hs : ∀ i H, i < n → Pv i H → LcT g tt te vs σ p (.int (lo + i)) H (Pv (i + 1))) (hd : ∀ H, Pv n H → Qd H) : LcW (Itr lo n) g tt te vs σ p Qd H := lw_range Pv h0 (fun i H h q => lct_eq ▸ hs i H h q) hd
theorem la_list (Pv : Nat → Hp → Prop) (h0 : Pv 0 (upd H p (.lst []))) (hl : ∀ i H, i ≤ xs.length → Pv i H → SqL K H a xs) (hs : ∀ i x H, xs[i]? = some x → Pv i H → LcT g tt te vs σ p x H (Pv (i + 1))) (hd : ∀ H, Pv xs.length H → Qd H) : LcW (Itl K a) g tt te vs σ p Qd H := lw_list Pv h0 hl (fun i x H h q => lct_eq ▸ hs i x H h q) hd
theorem la_tup (Pv : Nat → Hp → Prop) (h0 : Pv 0 (upd H p (.lst []))) (hl : ∀ i H, i ≤ xs.length → Pv i H → SqT K H a xs) (hs : ∀ i x H, xs[i]? = some x → Pv i H → LcT g tt te vs σ p x H (Pv (i + 1))) (hd : ∀ H, Pv xs.length H → Qd H) : LcW (Itt K a) g tt te vs σ p Qd H := lw_tup Pv h0 hl (fun i x H h q => lct_eq ▸ hs i x H h q) hd
end
end OW
namespace OW
theorem log_of2 {i : Int} (h : i.natAbs < 18446744073709551616) : i.natAbs.log2 < 1920 := CL.log_small (Nat.lt_of_lt_of_le h (by rw [show (18446744073709551616 : Nat) = 2 ^ 64 by decide]; exact Nat.pow_le_pow_right (by decide) (by decide)))
end OW
set_option Elab.async false
set_option linter.all false
set_option maxRecDepth 100000
set_option maxHeartbeats 2000000
namespace OW
open PySem PySem.Spec PyProof.Rows L2 RZ SkE CL
structure CallV (P : Program) (w : World) (K : PySem.W.Frag) (mg : Str → Option Value) (base : Heap) (k : Nat) (v : Option (Option V)) (go : Sp → Prop) : Prop where
  ex : ∃ f sp, v = some (some (.ref f)) ∧ Held P w K mg base k f sp ∧ go sp
def cCallV (P : Program) (w : World) (K : PySem.W.Frag) (mg : Str → Option Value) (base : Heap) (k i : Nat) (t : TA) : TE := fun σ H Q => CallV P w K mg base k σ[i]? fun sp => t σ H fun vs H1 => Ask (sp vs H1 Q (fun _ _ _ => False))
section
variable {X : Cx} {k i : Nat} {x : Str} {p pos : Pos} {e : Expr} {es : List Expr} {t : TA}
theorem e_callV (k : Nat) (hr : Room k X.A) (hN : X.N[i]? = some x) (hv : Vis X.env.scope x) (ha : PA X (e :: es) t)
    (hdb : (x == ("__debug__" : Str)) = false := by decide) (hcd : (x == ("__classdict__" : Str)) = false := by decide)
    (he : starEach (e :: es) X.env = (false, eval e X.env) :: starEach es X.env := by rfl) (hpl : (backTo pos (starEach es X.env)).any (·.1) = false := by rfl) : PE X (.Call (.Name x p) (e :: es) [] pos) (cCallV X.prog X.w X.K X.mg X.base k i t) := by
  refine ⟨fun pins s σ H Q I h => ?_⟩
  obtain ⟨⟨f, sp, hs, hH, ht⟩⟩ := (show CallV X.prog X.w X.K X.mg X.base k σ[i]? _ from h)
  obtain ⟨fd, ps, F, hk, hb⟩ := hH.ex
  refine (pe_callL (i := i) (f := f) (sp := sp) (dvs := []) (E := fun _ _ _ => False) F hr hN hv hk hb .nil (fun _ _ _ _ _ _ _ z => z.elim) ha hdb hcd he hpl).run pins s σ H Q I ⟨hs, ?_⟩
  have e0 : (fun (vs : List V) (H1 : Hp) => sp (vs ++ []) H1 Q (fun _ _ _ => False)) = fun vs H1 => Ask (sp vs H1 Q (fun _ _ _ => False)) := by
    funext vs H1
    rw [List.append_nil, ask_eq]
  rw [e0]
  exact ht
end
theorem callv_mk {P : Program} {w : World} {K : PySem.W.Frag} {mg : Str → Option Value} {base : Heap} {k : Nat} {f : Addr} {sp : Sp} {go : Sp → Prop} (h : Held P w K mg base k f sp) (q : go sp) : CallV P w K mg base k (some (some (.ref f))) go := ⟨⟨f, sp, rfl, h, q⟩⟩
structure KD (K : PySem.W.Frag) (w : World) (p : Addr) (z : Str) (k : V → Prop) : Prop where
  ex : ∃ v, KDct K w p z v ∧ k v
def rIxDC (K : PySem.W.Frag) (w : World) : R2 := fun x y H Q => match x, y with
  | .ref p, .str z => KD K w p z fun v => Q v H
  | _, _ => False
theorem c_ixD {X : Cx} : IxR X (rIxDC X.K X.w) := by
  intro value slice pins s σ H x y v u Q I rx ry h hs
  unfold rIxDC at h
  split at h
  · obtain ⟨⟨v0, h1, h2⟩⟩ := h
    exact ix_kdict value slice pins s σ H _ _ _ _ Q I rx ry ⟨_, _, v0, rfl, rfl, h1, h2⟩ hs
  · exact h.elim
def rRngC : List V → Hp → VK → Prop := fun vs H Q => match vs with
  | [.int i, .int j] => New H (.rng i j) fun p H' => Q (.ref p) H'
  | _ => False
theorem k_rng {X : Cx} : CallR X (.type "range") rRngC := by
  intro pins s σ H vs us Q I r h
  unfold rRngC at h
  split at h
  · exact cr_range2 pins s σ H _ us Q I r ⟨_, _, rfl, h.k⟩
  · exact h.elim
structure ItV (K : PySem.W.Frag) (H : Hp) (a : Addr) (R : It → Hp → Prop) : Prop where
  ex : ((∃ xs, SqL K H a xs) ∧ R (Itl K a) H) ∨ ((∃ xs, SqT K H a xs) ∧ R (Itt K a) H) ∨ ∃ lo hi : Int, H a = some (.rng lo hi) ∧ (-(2 ^ 62) ≤ lo ∧ lo < 2 ^ 62 ∧ -(2 ^ 62) ≤ hi ∧ hi < 2 ^ 62) ∧ R (Itr lo (hi - lo).toNat) H
def cVal (K : PySem.W.Frag) (tl : TE) : TI := fun σ H R => tl σ H (onR fun a H1 => ItV K H1 a R)
theorem i_val {X : Cx} {tg l : Expr} {tl : TE} (hl : PE X l tl) : PI X tg l (cVal X.K tl) := by
  refine ⟨fun pins s σ H R I h => ?_⟩
  have h' := h
  refine thn (hl.run pins s σ H _ I h) fun v s1 ⟨x, H1, I1, r1, q1⟩ => ?_
  rw [onR_eq] at q1
  obtain ⟨a, rfl, ⟨q⟩⟩ := q1
  rcases q with ⟨⟨xs, hq⟩, q⟩ | ⟨⟨xs, hq⟩, q⟩ | ⟨lo, hi, ha, ⟨b1, b2, b3, b4⟩, q⟩
  · cases r1
    obtain ⟨vs, _, pl, _⟩ := I1.list hq
    refine wpAny_pyIter_list pl.isList ⟨s1.heap.objs.size, [s1.heap.objs.size], _, _, H1, rfl, I1.kept (t' := s1.toks) fun b o z => Heap.get?_push_of_some _ z, turn_list a _, ⟨_, Heap.get?_push_size _ rfl, rfl, rfl⟩, fun b hb => ?_, q⟩
    obtain rfl : b = s1.heap.objs.size := by simpa using hb
    exact I1.fpOk (Nat.le_refl _) (I1.hok.fresh (Nat.le_refl _))
  · cases r1
    obtain ⟨vs, _, pl, _⟩ := I1.tuple hq
    refine wpAny_pyIter_tuple (show s1.heap.IsTuple a vs.toArray from pl) ⟨s1.heap.objs.size, [s1.heap.objs.size], _, _, H1, rfl, I1.kept (t' := s1.toks) fun b o z => Heap.get?_push_of_some _ z, turn_tuple a _, ⟨_, Heap.get?_push_size _ rfl, rfl, rfl⟩, fun b hb => ?_, q⟩
    obtain rfl : b = s1.heap.objs.size := by simpa using hb
    exact I1.fpOk (Nat.le_refl _) (I1.hok.fresh (Nat.le_refl _))
  · cases r1
    obtain ⟨t, u, v, ho⟩ := I1.hok a _ ha
    refine wpAny_pyIter_range (show IsRange s1.heap a lo hi 1 t u v from ho) (small_one b1 b2 b3 b4) ?_
    refine ⟨s1.heap.objs.size, [s1.heap.objs.size], _, _, H1, rfl, I1.kept (t' := s1.toks) fun b o z => Heap.get?_push_of_some _ z, turn_range _ lo (hi - lo).toNat, ?_, fun b hb => ?_, q⟩
    · have e1 : lo + ((0 : Nat) : Int) * 1 = lo := by simp
      have e2 : (((hi - lo).toNat : Nat) : Int) - ((0 : Nat) : Int) = Builtin.Range.rangeSize lo hi 1 := by rw [rangeSize_one]; split <;> omega
      show IsRangeIter _ _ (lo + ((0 : Nat) : Int) * 1) ((((hi - lo).toNat : Nat) : Int) - ((0 : Nat) : Int)) 1
      rw [e1, e2]
      exact Heap.get?_push_size _ rfl
    · obtain rfl : b = s1.heap.objs.size := by simpa using hb
      exact I1.fpOk (Nat.le_refl _) (I1.hok.fresh (Nat.le_refl _))
section
variable {K : PySem.W.Frag} {H : Hp} {L R : List Ck} {I : List (Hp → Prop)} {a : Addr} {xs : List V}
theorem itv_l {P : It → Hp → Prop} (h : Own H L I) (e : Pull L (.pt a (.lst xs)) R) (q : P (Itl K a) H) : ItV K H a P := ⟨.inl ⟨⟨xs, SqL.of (h.get e)⟩, q⟩⟩
theorem itv_t {P : It → Hp → Prop} (h : Own H L I) (e : Pull L (.pt a (.tup xs)) R) (q : P (Itt K a) H) : ItV K H a P := ⟨.inr (.inl ⟨⟨xs, SqT.of (h.get e)⟩, q⟩)⟩
theorem itv_s {P : It → Hp → Prop} (h : Own H L I) (e : seqI K a xs ∈ I) (q : P (Itl K a) H) : ItV K H a P := ⟨.inl ⟨⟨xs, (h.imp e).1⟩, q⟩⟩
theorem itv_k {P : It → Hp → Prop} (h : SqT K H a xs) (q : P (Itt K a) H) : ItV K H a P := ⟨.inr (.inl ⟨⟨xs, h⟩, q⟩)⟩
theorem itv_r {lo hi : Int} {P : It → Hp → Prop} (h : Own H L I) (e : Pull L (.pt a (.rng lo hi)) R) (b : -(2 ^ 62) ≤ lo ∧ lo < 2 ^ 62 ∧ -(2 ^ 62) ≤ hi ∧ hi < 2 ^ 62) (q : P (Itr lo (hi - lo).toNat) H) : ItV K H a P := ⟨.inr (.inr ⟨lo, hi, h.get e, b, q⟩)⟩
end
end OW
namespace OW
open PySem PySem.Spec PyProof.Rows L2 RZ SkE CL
theorem fnok_mono {P : Program} {W0 : World} {K : PySem.W.Frag} {mg : Str → Option Value} {base : Heap} {CX : CXT} {k j : Nat} {f : Addr} {fd : FuncData} {ps : List Str} {sp : Sp} (h : k ≤ j) (F : FnOk P W0 K mg base CX k f fd ps sp) : FnOk P W0 K mg base CX j f fd ps sp := ⟨F.len, fun A outer s H args us vs Q E hr e b v q => F.run A outer s H args us vs Q E (hr.mono h) e b v q⟩
end OW
set_option Elab.async false
set_option linter.all false
set_option maxRecDepth 100000
set_option maxHeartbeats 2000000
namespace OW
open PySem PySem.Spec PyProof.Rows L2 RZ SkE CL
mutual
inductive IDp (H : Hp) : V → PyData → Prop
  | non : IDp H .non .none
  | bl (b : Bool) : IDp H (.bl b) (.bool b)
  | int (i : Int) : IDp H (.int i) (.int i)
  | str (x : Str) : IDp H (.str x) (.str x)
  | tup {a : Addr} {xs : List V} {ds : List PyData} (h : H a = some (.tup xs)) (g : IDpAll H xs ds) : IDp H (.ref a) (.tuple ds)
inductive IDpAll (H : Hp) : List V → List PyData → Prop
  | nil : IDpAll H [] []
  | cons {v : V} {vs : List V} {d : PyData} {ds : List PyData} (h : IDp H v d) (g : IDpAll H vs ds) : IDpAll H (v :: vs) (d :: ds)
end
mutual
theorem IDp.keep {H H' : Hp} (k : Keep H H') : ∀ (d : PyData) (v : V), IDp H v d → IDp H' v d
  | .none, v, h => by cases h; exact .non
  | .bool b, v, h => by cases h; exact .bl b
  | .int i, v, h => by cases h; exact .int i
  | .str x, v, h => by cases h; exact .str x
  | .tuple ds, v, h => by
    cases h with
    | tup h g => exact .tup (k _ _ h rfl) (IDpAll.keep k ds _ g)
  | .list ds, v, h => by cases h
  | .dict ds, v, h => by cases h
theorem IDpAll.keep {H H' : Hp} (k : Keep H H') : ∀ (ds : List PyData) (vs : List V), IDpAll H vs ds → IDpAll H' vs ds
  | [], vs, h => by cases h; exact .nil
  | d :: ds, vs, h => by
    cases h with
    | cons h g => exact .cons (IDp.keep k d _ h) (IDpAll.keep k ds _ g)
end
mutual
theorem IDp.dp {K : PySem.W.Frag} {H : Hp} : ∀ (d : PyData) (v : V), IDp H v d → Dp K H v d
  | .none, v, h => by cases h; exact .non
  | .bool b, v, h => by cases h; exact .bl b
  | .int i, v, h => by cases h; exact .int i
  | .str x, v, h => by cases h; exact .str x
  | .tuple ds, v, h => by
    cases h with
    | tup h g => exact .tup (SqT.of h) (IDpAll.dp ds _ g)
  | .list ds, v, h => by cases h
  | .dict ds, v, h => by cases h
theorem IDpAll.dp {K : PySem.W.Frag} {H : Hp} : ∀ (ds : List PyData) (vs : List V), IDpAll H vs ds → DpAll K H vs ds
  | [], vs, h => by cases h; exact .nil
  | d :: ds, vs, h => by
    cases h with
    | cons h g => exact .cons (IDp.dp d _ h) (IDpAll.dp ds _ g)
end
abbrev idI (v : V) (d : PyData) : Hp → Prop := fun H => IDp H v d
abbrev idsI (vs : List V) (ds : List PyData) : Hp → Prop := fun H => IDpAll H vs ds
theorem stable_ids {v : List V} {d : List PyData} : Stable (idsI v d) := fun H H' k h => IDpAll.keep k d v h
theorem IDpAll.append {H : Hp} : ∀ {vs ws : List V} {ds es : List PyData}, IDpAll H vs ds → IDpAll H ws es → IDpAll H (vs ++ ws) (ds ++ es)
  | _, _, _, _, .nil, h => h
  | _, _, _, _, .cons a b, h => .cons a (IDpAll.append b h)
theorem IDpAll.len {H : Hp} : ∀ {vs : List V} {ds : List PyData}, IDpAll H vs ds → vs.length = ds.length
  | _, _, .nil => rfl
  | _, _, .cons _ b => congrArg (· + 1) b.len
section
variable {K : PySem.W.Frag} {H : Hp} {L R M : List Ck} {I : List (Hp → Prop)} {a b p : Addr} {xs ys : List V} {ds : List PyData} {d : PyData} {v : V}
structure Cat (K : PySem.W.Frag) (H : Hp) (p q : Addr) (Q : VK) : Prop where
  ex : (∃ xs ys, H p = some (.lst xs) ∧ H q = some (.lst ys) ∧ xs.length + ys.length ≤ sizeLine ∧ New H (.lst (xs ++ ys)) fun r H' => Q (.ref r) H') ∨
    ∃ xs ys, SqT K H p xs ∧ SqT K H q ys ∧ xs ≠ [] ∧ ys ≠ [] ∧ xs.length + ys.length ≤ sizeLine ∧ New H (.tup (xs ++ ys)) fun r H' => Q (.ref r) H'
def rAddG (K : PySem.W.Frag) : R2 := fun x y H Q => match x, y with
  | .int i, .int j => Q (.int (i + j)) H
  | .str a, .str b => Chk (a.length + b.length ≤ sizeLine) (Q (.str (a ++ b)) H)
  | .ref p, .ref q => Cat K H p q Q
  | _, _ => False
theorem c_addG {X : Cx} : OpR X (binaryOp .Add) (rAddG X.K) := by
  intro pins s σ H x y v u Q I rx ry h
  unfold rAddG at h
  split at h
  · exact op_add pins s σ H _ _ v u Q I rx ry ⟨_, _, rfl, rfl, h⟩
  · exact op_add_str pins s σ H _ _ v u Q I rx ry ⟨_, _, rfl, rfl, h.p, h.k⟩
  · obtain ⟨⟨xs, ys, h1, h2, h3, h4⟩ | ⟨xs, ys, h1, h2, h3, h4, h5, h6⟩⟩ := h
    · exact op_cat pins s σ H _ _ v u Q I rx ry ⟨_, _, _, _, rfl, rfl, h1, h2, h3, h4.k⟩
    · exact op_catT pins s σ H _ _ v u Q I rx ry ⟨_, _, _, _, rfl, rfl, h1, h2, h3, h5, fun z => (h4 z).elim, fun _ => h6.k⟩
  · exact h.elim
theorem cat_l {Q : VK} (h : Own H L I) (e : Pull L (.pt a (.lst xs)) R) (f : Pull L (.pt b (.lst ys)) M) (l : xs.length + ys.length ≤ sizeLine) (q : ∀ p H', Own H' (.pt p (.lst (xs ++ ys)) :: L) I → Q (.ref p) H') : Cat K H a b Q := ⟨.inl ⟨xs, ys, h.get e, h.get f, l, new_o h q⟩⟩
theorem cat_t {Q : VK} (h : Own H L I) (e : Pull L (.pt a (.tup xs)) R) (f : Pull L (.pt b (.tup ys)) M) (n : xs ≠ []) (m : ys ≠ []) (l : xs.length + ys.length ≤ sizeLine) (q : ∀ p H', Own H' (.pt p (.tup (xs ++ ys)) :: L) I → Q (.ref p) H') : Cat K H a b Q := ⟨.inr ⟨xs, ys, SqT.of (h.get e), SqT.of (h.get f), n, m, l, new_o h q⟩⟩
structure SlG (K : PySem.W.Frag) (H : Hp) (a : Addr) (lo hi : Option Int) (Q : VK) : Prop where
  ex : (∃ xs, SqL K H a xs ∧ New H (.lst (cutV xs lo hi)) fun p H' => Q (.ref p) H') ∨ ∃ xs, SqT K H a xs ∧ ¬ (HT.sIx xs.length 0 lo = 0 ∧ HT.sIx xs.length xs.length hi = xs.length) ∧ New H (.tup (cutV xs lo hi)) fun p H' => Q (.ref p) H'
def rSlG (K : PySem.W.Frag) : V → Option Int → Option Int → Hp → VK → Prop := fun x lo hi H Q => match x with
  | .ref a => SlG K H a lo hi Q
  | .str z => Chk (z.length ≤ sizeLine) (Q (.str (cutS z lo hi)) H)
  | _ => False
theorem c_slG {X : Cx} : SlR X (rSlG X.K) := by
  intro pins s σ H x v vl vu lo hi sl Q I rx hs pl pu h
  unfold rSlG at h
  split at h
  · obtain ⟨⟨xs, h1, h2⟩ | ⟨xs, h1, h3, h2⟩⟩ := h
    · exact sl_list pins s σ H _ v vl vu lo hi sl Q I rx hs pl pu ⟨_, xs, rfl, h1, h2.k⟩
    · exact sl_tup pins s σ H _ v vl vu lo hi sl Q I rx hs pl pu ⟨_, xs, rfl, h1, h3, h2.k⟩
  · exact sl_str pins s σ H _ v vl vu lo hi sl Q I rx hs pl pu ⟨_, rfl, h.p, h.k⟩
  · exact h.elim
theorem slg_l {lo hi : Option Int} {Q : VK} (h : Own H L I) (e : Pull L (.pt a (.lst xs)) R) (q : ∀ p H', Own H' (.pt p (.lst (cutV xs lo hi)) :: L) I → Q (.ref p) H') : SlG K H a lo hi Q := ⟨.inl ⟨xs, SqL.of (h.get e), new_o h q⟩⟩
theorem slg_s {lo hi : Option Int} {Q : VK} (h : Own H L I) (e : seqI K a xs ∈ I) (q : ∀ p H', Own H' (.pt p (.lst (cutV xs lo hi)) :: L) I → Q (.ref p) H') : SlG K H a lo hi Q := ⟨.inl ⟨xs, (h.imp e).1, new_o h q⟩⟩
theorem slg_t {lo hi : Option Int} {Q : VK} (h : Own H L I) (e : Pull L (.pt a (.tup xs)) R) (n : ¬ (HT.sIx xs.length 0 lo = 0 ∧ HT.sIx xs.length xs.length hi = xs.length)) (q : ∀ p H', Own H' (.pt p (.tup (cutV xs lo hi)) :: L) I → Q (.ref p) H') : SlG K H a lo hi Q := ⟨.inr ⟨xs, SqT.of (h.get e), n, new_o h q⟩⟩
end
def rMinG : List V → Hp → VK → Prop := fun xs H Q => match xs with
  | [.int i, .int j] => Q (.int (if j < i then j else i)) H
  | [.int i, .int j, .int k] => Q (.int (if k < (if j < i then j else i) then k else (if j < i then j else i))) H
  | _ => False
theorem k_minG {X : Cx} (hc : X.calm = true) : CallR X (.builtin "min") rMinG := by
  intro pins s σ H xs us Q I r h
  unfold rMinG at h
  split at h
  · exact call_min2 hc pins s σ H _ us Q I r ⟨_, _, rfl, h⟩
  · rename_i i j k
    refine call_min3Nu hc pins s σ H _ us Q I r ⟨_, _, _, _, rfl, ?_, h⟩
    show (nuMin2 (.int i) (.int j)).bind (fun m => nuMin2 m (.int k)) = _
    have e : ∀ a b : Int, nuMin2 (.int a) (.int b) = some (.int (if b < a then b else a)) := fun a b => by
      show (nuLt (.int b) (.int a)).map _ = _
      have : nuLt (.int b) (.int a) = some (decide (b < a)) := rfl
      rw [this]
      by_cases h : b < a
      · simp [h]
      · simp [h]
    rw [e, Option.bind_some, e]
  · exact h.elim
end OW
namespace OW
open PySem PySem.Spec PyProof.Rows L2 RZ SkE CL
section
variable {X : Cx} {K : PySem.W.Frag} {a : Expr} {ta : TE} {pos : Pos}
theorem c_addGK (h : X.K = K) : OpR X (binaryOp .Add) (rAddG K) := h ▸ c_addG
end
end OW
namespace OW
open PySem PySem.Spec PyProof.Rows L2 RZ SkE CL
theorem IDpAll.snoc {H : Hp} {xs : List V} {ds : List PyData} {v : V} {d : PyData} (h : IDpAll H xs ds) (g : IDp H v d) : IDpAll H (xs ++ [v]) (ds ++ [d]) := h.append (.cons g .nil)
end OW
namespace OW
open PySem PySem.Spec PyProof.Rows L2 RZ SkE CL
theorem cut_a {a b c d e : V} : cutV [a,b,c,d,e] none (some 2) = [a,b] := rfl
theorem cut_b {a b c d e : V} : cutV [a,b,c,d,e] (some 3) none = [d,e] := rfl
theorem cut_c {a b c d e : V} : cutV [a,b,c,d,e] none (some 1) = [a] := rfl
theorem cut_d {a b c d e : V} : cutV [a,b,c,d,e] (some 2) none = [c,d,e] := rfl
theorem cut_e {a b c d e : V} : cutV [a,b,c,d,e] (some 1) none = [b,c,d,e] := rfl
theorem cutM_a {a b c d e : Int} : cutV (List.map V.int [a,b,c,d,e]) none (some 2) = [.int a,.int b] := rfl
theorem cutM_b {a b c d e : Int} : cutV (List.map V.int [a,b,c,d,e]) (some 3) none = [.int d,.int e] := rfl
theorem cutM_c {a b c d e : Int} : cutV (List.map V.int [a,b,c,d,e]) none (some 1) = [.int a] := rfl
theorem cutM_d {a b c d e : Int} : cutV (List.map V.int [a,b,c,d,e]) (some 2) none = [.int c,.int d,.int e] := rfl
theorem cutM_e {a b c d e : Int} : cutV (List.map V.int [a,b,c,d,e]) (some 1) none = [.int b,.int c,.int d,.int e] := rfl
end OW
namespace OW
open PySem PySem.Spec PyProof.Rows L2 RZ SkE CL
theorem Own.ids {H : Hp} {L : List Ck} {I : List (Hp → Prop)} {xs : List V} {ds : List PyData} (h : Own H L I) (m : idsI xs ds ∈ I) : IDpAll H xs ds := h.imp m
theorem Own.idd {H : Hp} {L : List Ck} {I : List (Hp → Prop)} {v : V} {d : PyData} (h : Own H L I) (m : idI v d ∈ I) : IDp H v d := h.imp m
theorem Own.tupx {H : Hp} {L : List Ck} {I : List (Hp → Prop)} {a : Addr} {xs : List V} (h : Own H L I) (m : tupI a xs ∈ I) : H a = some (.tup xs) := h.imp m
end OW
namespace OW
open PySem PySem.Spec PyProof.Rows L2 RZ SkE CL
structure JoinS (t : TS) (D : Ends) (σ : L2.St) (H : Hp) : Prop where
  ex : ∃ P : L2.St → Hp → Prop, t { D with nx := P } σ H ∧ ∀ σ' H', P σ' H' → D.nx σ' H'
def cJoinS (t : TS) : TS := fun D σ H => JoinS t D σ H
theorem s_join {X : Cx} {st : Stmt} {t : TS} (h : PS X st t) : PS X st (cJoinS t) := ⟨fun pins s σ H D I q => by
  obtain ⟨⟨P, h1, h2⟩⟩ := (show JoinS t D σ H from q)
  refine thn (h.run pins s σ H _ I h1) fun f s' q => ?_
  cases f with
  | next => exact let ⟨σ', H', J, p⟩ := q; ⟨σ', H', J, h2 σ' H' p⟩
  | brk => exact q
  | cont => exact q
  | ret u => exact q⟩
theorem join_by {t : TS} {D : Ends} {σ : L2.St} {H : Hp} (P : L2.St → Hp → Prop) (h1 : t { D with nx := P } σ H) (h2 : ∀ σ' H', P σ' H' → D.nx σ' H') : JoinS t D σ H := ⟨P, h1, h2⟩
end OW
namespace OW
end OW
set_option Elab.async false
set_option linter.all false
set_option maxRecDepth 100000
set_option maxHeartbeats 2000000
namespace OW
open PySem PySem.Spec PyProof.Rows L2 RZ SkE CL
structure DGt (H : Hp) (a : Addr) (y : V) (k : Option V → Prop) : Prop where
  ex : ∃ o, DGet H a y o ∧ k o
structure DGv (H : Hp) (a : Addr) (y : V) (k : V → Prop) : Prop where
  ex : ∃ v, DGet H a y (some v) ∧ k v
structure DPt (H : Hp) (a : Addr) (y v : V) (k : Hp → Prop) : Prop where
  ex : ∃ H', DPut H a y v H' ∧ k H'
structure DDl (H : Hp) (a : Addr) (y : V) (k : Hp → Prop) : Prop where
  ex : ∃ kvs key, H a = some (.dK kvs) ∧ y = kV key ∧ (valV kvs key).isSome = true ∧ k (upd H a (.dK (dropK kvs key)))
section
variable {H : Hp} {L R : List Ck} {I : List (Hp → Prop)} {a : Addr} {kvs : List (Key × V)} {od : Obj}
theorem dgt_i {i : Int} {k : Option V → Prop} (h : Own H L I) (e : Pull L (.pt a (.dK kvs)) R) (q : k (valV kvs (.inl i))) : DGt H a (.int i) k := ⟨_, DGet.k (k := .inl i) (h.get e), q⟩
theorem dgt_s {z : Str} {k : Option V → Prop} (h : Own H L I) (e : Pull L (.pt a (.dK kvs)) R) (q : k (valV kvs (.inr z))) : DGt H a (.str z) k := ⟨_, DGet.k (k := .inr z) (h.get e), q⟩
theorem dgt_if {i : Int} {k : Option V → Prop} (h : Own H L I) (e : Pull L (.pt a (.frz od (.dK kvs))) R) (q : k (valV kvs (.inl i))) : DGt H a (.int i) k := ⟨_, .inl ⟨kvs, .inl i, .inr ⟨od, h.get e⟩, rfl, rfl⟩, q⟩
theorem dgt_sf {z : Str} {k : Option V → Prop} (h : Own H L I) (e : Pull L (.pt a (.frz od (.dK kvs))) R) (q : k (valV kvs (.inr z))) : DGt H a (.str z) k := ⟨_, .inl ⟨kvs, .inr z, .inr ⟨od, h.get e⟩, rfl, rfl⟩, q⟩
theorem dgv_i {i : Int} {v : V} {k : V → Prop} (h : Own H L I) (e : Pull L (.pt a (.dK kvs)) R) (x : valV kvs (.inl i) = some v) (q : k v) : DGv H a (.int i) k := ⟨v, x ▸ DGet.k (k := .inl i) (h.get e), q⟩
theorem dgv_s {z : Str} {v : V} {k : V → Prop} (h : Own H L I) (e : Pull L (.pt a (.dK kvs)) R) (x : valV kvs (.inr z) = some v) (q : k v) : DGv H a (.str z) k := ⟨v, x ▸ DGet.k (k := .inr z) (h.get e), q⟩
theorem dgv_if {i : Int} {v : V} {k : V → Prop} (h : Own H L I) (e : Pull L (.pt a (.frz od (.dK kvs))) R) (x : valV kvs (.inl i) = some v) (q : k v) : DGv H a (.int i) k := ⟨v, .inl ⟨kvs, .inl i, .inr ⟨od, h.get e⟩, rfl, x.symm⟩, q⟩
theorem dpt_i {i : Int} {v : V} {k : Hp → Prop} (h : Own H L I) (e : Pull L (.pt a (.dK kvs)) R) (l : kvs.length < sizeLine) (q : ∀ H', Own H' (.pt a (.dK (putK kvs (.inl i) v)) :: R) I → k H') : DPt H a (.int i) v k := ⟨_, DPut.k (k := .inl i) (h.get e) l, q _ (h.put e rfl)⟩
theorem dpt_s {z : Str} {v : V} {k : Hp → Prop} (h : Own H L I) (e : Pull L (.pt a (.dK kvs)) R) (l : kvs.length < sizeLine) (q : ∀ H', Own H' (.pt a (.dK (putK kvs (.inr z) v)) :: R) I → k H') : DPt H a (.str z) v k := ⟨_, DPut.k (k := .inr z) (h.get e) l, q _ (h.put e rfl)⟩
theorem ddl_i {i : Int} {k : Hp → Prop} (h : Own H L I) (e : Pull L (.pt a (.dK kvs)) R) (x : (valV kvs (.inl i)).isSome = true) (q : ∀ H', Own H' (.pt a (.dK (dropK kvs (.inl i))) :: R) I → k H') : DDl H a (.int i) k := ⟨kvs, .inl i, h.get e, rfl, x, q _ (h.put e rfl)⟩
end
structure UnL (H : Hp) (d : Addr) (od : Obj) (u : HO) (k : Hp → Prop) : Prop where
  at_ : H d = some (.frz od u)
  k : k (upd H d u)
structure LockE (t : TE) (σ : L2.St) (H : Hp) (Q : VK) : Prop where
  ex : ∃ d u, H d = some u ∧ Mut (some u) ∧ ∀ od, t σ (upd H d (.frz od u)) fun v H' => UnL H' d od u (Q v)
section
variable {H : Hp} {L R : List Ck} {I : List (Hp → Prop)} {d : Addr} {kvs : List (Key × V)} {od : Obj}
theorem lockE_o {t : TE} {σ : L2.St} {Q : VK} (h : Own H L I) (e : Pull L (.pt d (.dK kvs)) R) (q : ∀ od H', Own H' (.pt d (.frz od (.dK kvs)) :: R) I → t σ H' fun v H' => UnL H' d od (.dK kvs) (Q v)) : LockE t σ H Q := ⟨d, _, h.get e, trivial, fun od => q od _ (h.put e rfl)⟩
theorem unl_o {k : Hp → Prop} (h : Own H L I) (e : Pull L (.pt d (.frz od (.dK kvs))) R) (q : ∀ H', Own H' (.pt d (.dK kvs) :: R) I → k H') : UnL H d od (.dK kvs) k := ⟨h.get e, q _ (h.put e rfl)⟩
end
structure ItK (H : Hp) (d : Addr) (R : It → Hp → Prop) : Prop where
  ex : ∃ o kvs, H d = some (.frz o (.dK kvs)) ∧ R (Itk d o kvs) H
section
variable {g : TG} {tb : TS} {D : Ends} {σ : L2.St} {H : Hp} {d p : Addr} {o : Obj} {kvs : List (Key × V)} {tt : TT} {te : TE} {vs : List Nat} {Qd : Hp → Prop} {L R : List Ck} {I : List (Hp → Prop)}
theorem itk_o {P : It → Hp → Prop} (h : Own H L I) (e : Pull L (.pt d (.frz o (.dK kvs))) R) (q : P (Itk d o kvs) H) : ItK H d P := ⟨o, kvs, h.get e, q⟩
end
end OW
set_option Elab.async false
set_option linter.all false
set_option maxRecDepth 100000
set_option maxHeartbeats 2000000
namespace OW
open PySem PySem.Spec PyProof.Rows L2 RZ SkE CL
def optV : Option Int → V
  | none => .non
  | some i => .int i
theorem dgv_sf {H : Hp} {L R : List Ck} {I : List (Hp → Prop)} {a : Addr} {kvs : List (Key × V)} {od : Obj} {z : Str} {v : V} {k : V → Prop} (h : Own H L I) (e : Pull L (.pt a (.frz od (.dK kvs))) R) (x : valV kvs (.inr z) = some v) (q : k v) : DGv H a (.str z) k := ⟨v, .inl ⟨kvs, .inr z, .inr ⟨od, h.get e⟩, rfl, x.symm⟩, q⟩
end OW
set_option Elab.async false
set_option linter.all false
set_option maxRecDepth 100000
set_option maxHeartbeats 2000000
namespace OW
open PySem PySem.Spec PyProof.Rows L2 RZ SkE CL
structure IntS (a : Str) (k : Int → Prop) : Prop where
  ex : ∃ n, PySem.intText? a = some n ∧ a.length ≤ 640 ∧ k n
def rIntG : List V → Hp → VK → Prop := fun xs H Q => match xs with
  | [.int i] => Q (.int i) H
  | [.bl b] => Q (.int (if b then 1 else 0)) H
  | [.str a] => IntS a fun n => Q (.int n) H
  | _ => False
theorem k_intG {X : Cx} : CallR X (.type "int") rIntG := by
  intro pins s σ H xs us Q I r h
  unfold rIntG at h
  split at h
  · exact call_int1 pins s σ H _ us Q I r (.inl ⟨_, rfl, h⟩)
  · exact call_int1 pins s σ H _ us Q I r (.inr ⟨_, rfl, h⟩)
  · obtain ⟨⟨n, h1, h2, h3⟩⟩ := h
    exact call_int_str pins s σ H _ us Q I r ⟨_, n, rfl, h1, h2, h3⟩
  · exact h.elim
theorem unt_i {K : PySem.W.Frag} {H : Hp} {L : List Ck} {I : List (Hp → Prop)} {a : Addr} {xs : List V} {n : Nat} {k : List V → Prop} (h : Own H L I) (m : tupI a xs ∈ I) (l : xs.length = n) (q : k xs) : UnT K H a n k := ⟨xs, SqT.of (h.imp m), l, q⟩
theorem IDpAll.mem {H : Hp} : ∀ {xs : List V} {ds : List PyData} {y : V}, IDpAll H xs ds → y ∈ xs → ∃ d ∈ ds, IDp H y d
  | _, _, y, .nil, m => (List.not_mem_nil m).elim
  | _, _, y, .cons a b, m => by
    rcases List.mem_cons.mp m with rfl | m
    · exact ⟨_, List.mem_cons_self, a⟩
    · obtain ⟨d, hd, h⟩ := b.mem m
      exact ⟨d, List.mem_cons_of_mem _ hd, h⟩
theorem DpAll.len {K : PySem.W.Frag} {H : Hp} : ∀ {xs : List V} {ds : List PyData}, DpAll K H xs ds → xs.length = ds.length
  | _, _, .nil => rfl
  | _, _, .cons _ g => congrArg (· + 1) (DpAll.len g)
theorem DpAll.erase {K : PySem.W.Frag} {H : Hp} : ∀ {xs : List V} {ds : List PyData} (i : Nat), DpAll K H xs ds → DpAll K H (xs.eraseIdx i) (ds.eraseIdx i)
  | _, _, _, .nil => .nil
  | _, _, 0, .cons _ g => g
  | _, _, i + 1, .cons a g => .cons a (DpAll.erase i g)
end OW
set_option Elab.async false
set_option linter.all false
set_option maxRecDepth 100000
set_option maxHeartbeats 2000000
namespace OW
open PySem PySem.Spec PyProof.Rows L2 RZ SkE CL
end OW
set_option Elab.async false
set_option linter.all false
set_option maxRecDepth 100000
set_option maxHeartbeats 2000000
namespace OW
open PySem PySem.Spec PyProof.Rows L2 RZ SkE CL
structure ValsL (H : Hp) (d : Addr) (Q : VK) : Prop where
  ex : ∃ kvs, H d = some (.dK kvs) ∧ New H (.lst (kvs.map (·.2))) fun p H' => Q (.ref p) H'
theorem vals_o {H : Hp} {L R : List Ck} {I : List (Hp → Prop)} {d : Addr} {kvs : List (Key × V)} {Q : VK} (h : Own H L I) (e : Pull L (.pt d (.dK kvs)) R) (q : ∀ p H', Own H' (.pt p (.lst (kvs.map (·.2))) :: L) I → Q (.ref p) H') : ValsL H d Q := ⟨kvs, h.get e, new_o h q⟩
end OW
set_option Elab.async false
set_option linter.all false
set_option maxRecDepth 100000
set_option maxHeartbeats 2000000
namespace OW
open PySem PySem.Spec PyProof.Rows L2 RZ SkE CL
def toK : V → Key
  | .int i => .inl i
  | .str z => .inr z
  | _ => .inl 0
def toKs (ps : List (V × V)) : List (Key × V) := ps.map fun p => (toK p.1, p.2)
structure DDsp (H : Hp) (p : Addr) (ps : List (V × V)) (Q : VK) : Prop where
  ex : H p = some (.dK []) ∧ ∃ kvs : List (Key × V), ps = kvs.map (fun kv => (kV kv.1, kv.2)) ∧ kvs.length ≤ 15 ∧ Q (.ref p) (upd H p (.dK (mergeK [] kvs)))
theorem ddsp_o {H : Hp} {L R : List Ck} {I : List (Hp → Prop)} {p : Addr} {ps : List (V × V)} {Q : VK} (h : Own H L I) (e : Pull L (.pt p (.dK [])) R) (f : ps = (toKs ps).map (fun kv => (kV kv.1, kv.2))) (l : (toKs ps).length ≤ 15) (q : ∀ H', Own H' (.pt p (.dK (mergeK [] (toKs ps))) :: R) I → Q (.ref p) H') : DDsp H p ps Q := ⟨h.get e, toKs ps, f, l, q _ (h.put e rfl)⟩
/-- so many different numbers below n -/
theorem nodup_le : ∀ {n : Nat} {l : List Nat}, l.Nodup → (∀ x ∈ l, x < n) → l.length ≤ n
  | 0, l, _, h => by
    cases l with
    | nil => exact Nat.le_refl _
    | cons x l => exact absurd (h x List.mem_cons_self) (Nat.not_lt_zero _)
  | n + 1, l, hn, h => by
    by_cases m : n ∈ l
    · have h1 : (l.erase n).length = l.length - 1 := List.length_erase_of_mem m
      have h2 := nodup_le (n := n) (hn.erase n) (fun x hx => by
        have := h x (List.mem_of_mem_erase hx)
        have : x ≠ n := fun e => by
          rw [e] at hx
          exact (List.Nodup.mem_erase_iff hn).mp hx |>.1 rfl
        omega)
      omega
    · exact Nat.le_succ_of_le (nodup_le hn (fun x hx => by
        have := h x hx
        have : x ≠ n := fun e => m (e ▸ hx)
        omega))
end OW
set_option Elab.async false
set_option linter.all false
set_option maxRecDepth 100000
set_option maxHeartbeats 2000000
namespace OW
open PySem PySem.Spec PyProof.Rows L2 RZ SkE CL
def maxI : List Int → Int
  | [] => 0
  | [x] => x
  | x :: y :: r => if x < maxI (y :: r) then maxI (y :: r) else x
def minI : List Int → Int
  | [] => 0
  | [x] => x
  | x :: y :: r => if minI (y :: r) < x then minI (y :: r) else x
theorem maxI_mem : ∀ {ns : List Int}, 0 < ns.length → maxI ns ∈ ns
  | [x], _ => List.mem_singleton.mpr rfl
  | x :: y :: r, _ => by
    have ih := maxI_mem (ns := y :: r) (Nat.succ_pos _)
    show (if x < maxI (y :: r) then maxI (y :: r) else x) ∈ _
    split
    · exact List.mem_cons_of_mem _ ih
    · exact List.mem_cons_self
theorem maxI_le : ∀ {ns : List Int} {z : Int}, z ∈ ns → z ≤ maxI ns
  | [x], z, m => by rw [List.mem_singleton.mp m]; exact Int.le_refl _
  | x :: y :: r, z, m => by
    show z ≤ (if x < maxI (y :: r) then maxI (y :: r) else x)
    rcases List.mem_cons.mp m with rfl | m
    · split <;> omega
    · have ih := maxI_le m
      split <;> omega
theorem minI_mem : ∀ {ns : List Int}, 0 < ns.length → minI ns ∈ ns
  | [x], _ => List.mem_singleton.mpr rfl
  | x :: y :: r, _ => by
    have ih := minI_mem (ns := y :: r) (Nat.succ_pos _)
    show (if minI (y :: r) < x then minI (y :: r) else x) ∈ _
    split
    · exact List.mem_cons_of_mem _ ih
    · exact List.mem_cons_self
theorem minI_le : ∀ {ns : List Int} {z : Int}, z ∈ ns → minI ns ≤ z
  | [x], z, m => by rw [List.mem_singleton.mp m]; exact Int.le_refl _
  | x :: y :: r, z, m => by
    show (if minI (y :: r) < x then minI (y :: r) else x) ≤ z
    rcases List.mem_cons.mp m with rfl | m
    · split <;> omega
    · have ih := minI_le m
      split <;> omega
theorem maxI_is {ns : List Int} {m : Int} (h : m ∈ ns) (g : ∀ z ∈ ns, z ≤ m) : maxI ns = m := by
  have h0 : 0 < ns.length := List.length_pos_of_mem h
  have a := maxI_le h
  have b := g _ (maxI_mem h0)
  omega
theorem minI_is {ns : List Int} {m : Int} (h : m ∈ ns) (g : ∀ z ∈ ns, m ≤ z) : minI ns = m := by
  have h0 : 0 < ns.length := List.length_pos_of_mem h
  have a := minI_le h
  have b := g _ (minI_mem h0)
  omega
structure MaxL (K : PySem.W.Frag) (H : Hp) (a : Addr) (f : List Int → Int) (k : Int → Prop) : Prop where
  ex : ∃ ns, SqL K H a (ns.map V.int) ∧ 0 < ns.length ∧ k (f ns)
def rMaxG (K : PySem.W.Frag) : List V → Hp → VK → Prop := fun xs H Q => match xs with
  | [.int i, .int j] => Q (.int (if j > i then j else i)) H
  | [.int i, .int j, .int k] => Q (.int (if (if j > i then j else i) < k then k else (if j > i then j else i))) H
  | [.ref a] => MaxL K H a maxI fun m => Q (.int m) H
  | _ => False
theorem k_maxG {X : Cx} (hc : X.calm = true) : CallR X (.builtin "max") (rMaxG X.K) := by
  intro pins s σ H xs us Q I r h
  unfold rMaxG at h
  split at h
  · exact call_max2 hc pins s σ H _ us Q I r ⟨_, _, rfl, h⟩
  · rename_i i j k
    refine call_max3Nu hc pins s σ H _ us Q I r ⟨_, _, _, _, rfl, ?_, h⟩
    show (nuMax2 (.int i) (.int j)).bind (fun m => nuMax2 m (.int k)) = _
    have e : ∀ a b : Int, nuMax2 (.int a) (.int b) = some (.int (if a < b then b else a)) := fun a b => by
      show (nuLt (.int a) (.int b)).map (fun c => if c = true then V.int b else V.int a) = _
      show some (if decide (a < b) = true then V.int b else V.int a) = _
      by_cases h : a < b
      · rw [if_pos (decide_eq_true h), if_pos h]
      · rw [if_neg (by simpa using h), if_neg h]
    rw [e]
    show nuMax2 _ _ = _
    rw [e]
  · obtain ⟨⟨ns, h1, h2, h3⟩⟩ := h
    exact cr_max hc pins s σ H _ us Q I r ⟨_, ns, rfl, h1, h2, fun m a b => maxI_is a b ▸ h3⟩
  · exact h.elim
def rMinL (K : PySem.W.Frag) : List V → Hp → VK → Prop := fun xs H Q => match xs with
  | [.int i, .int j] => Q (.int (if j < i then j else i)) H
  | [.int i, .int j, .int k] => Q (.int (if k < (if j < i then j else i) then k else (if j < i then j else i))) H
  | [.ref a] => MaxL K H a minI fun m => Q (.int m) H
  | _ => False
theorem k_minL {X : Cx} (hc : X.calm = true) : CallR X (.builtin "min") (rMinL X.K) := by
  intro pins s σ H xs us Q I r h
  unfold rMinL at h
  split at h
  · exact k_minG hc pins s σ H _ us Q I r h
  · exact k_minG hc pins s σ H _ us Q I r h
  · obtain ⟨⟨ns, h1, h2, h3⟩⟩ := h
    exact cr_min hc pins s σ H _ us Q I r ⟨_, ns, rfl, h1, h2, fun m a b => minI_is a b ▸ h3⟩
  · exact h.elim
structure AllL (K : PySem.W.Frag) (H : Hp) (a : Addr) (f : List Bool → Bool) (k : Bool → Prop) : Prop where
  ex : ∃ bs, SqL K H a (bs.map V.bl) ∧ k (f bs)
structure InD (K : PySem.W.Frag) (H : Hp) (x y : V) (k : Bool → Prop) : Prop where
  ex : ∃ d ds, Dp K H x d ∧ Dp K H y (.list ds) ∧ SeqAt.shaped d = true ∧ SeqAt.shaped (.list ds) = true ∧ k (ds.any fun z => PyData.eqv z d)
section
variable {K : PySem.W.Frag} {g : TG} {tb : TS} {D : Ends} {σ : L2.St} {H : Hp} {a b p : Addr} {xs ys : List V} {tt : TT} {te : TE} {vs : List Nat} {Qd : Hp → Prop}
theorem fw_enum (Pv : Nat → L2.St → Hp → Prop) (h0 : Pv 0 σ H) (hl : ∀ i σ H, i ≤ xs.length → Pv i σ H → SqL K H a xs)
    (hs : ∀ (i : Nat) (x : V) (T : Addr) (σ : L2.St) (H : Hp), xs[i]? = some x → Pv i σ H → H T = none → g (.ref T) σ (upd H T (.tup [.int (i : Nat), x])) fun σ2 H2 => tb { D with nx := Pv (i + 1), ct := Pv (i + 1), bk := D.nx } σ2 H2) (hd : ∀ σ H, Pv xs.length σ H → D.nx σ H) :
    ForW (Ite K a) g tb D σ H := ⟨for_it walk_enum Pv h0 hl (fun i x σ H H' hi hp ⟨T, x1, y1, e1, hT, e2, e3, e4⟩ => by
      subst e1 e2
      cases e3
      exact hs i y1 T σ H e4 hp hT) hd⟩
end
section
variable {K : PySem.W.Frag} {H : Hp} {L R M : List Ck} {I : List (Hp → Prop)} {a b : Addr} {xs ys : List V}
theorem maxl_o {ns : List Int} {f : List Int → Int} {k : Int → Prop} (h : Own H L I) (e : Pull L (.pt a (.lst (ns.map V.int))) R) (n : 0 < ns.length) (q : k (f ns)) : MaxL K H a f k := ⟨ns, SqL.of (h.get e), n, q⟩
theorem alll_o {bs : List Bool} {f : List Bool → Bool} {k : Bool → Prop} (h : Own H L I) (e : Pull L (.pt a (.lst (bs.map V.bl))) R) (q : k (f bs)) : AllL K H a f k := ⟨bs, SqL.of (h.get e), q⟩
theorem ind_o {ds : List PyData} {d : PyData} {x y : V} {k : Bool → Prop} (h1 : Dp K H x d) (h2 : Dp K H y (.list ds)) (h3 : SeqAt.shaped d = true) (h4 : SeqAt.shaped (.list ds) = true) (q : k (ds.any fun z => PyData.eqv z d)) : InD K H x y k := ⟨d, ds, h1, h2, h3, h4, q⟩
end
def SeqW (k : Bool) (L : List Ck) (I : List (Hp → Prop)) (w : Addr) (xs : List V) : Prop := match k with
  | true => ∃ R, Pull L (.pt w (.lst xs)) R
  | false => (∃ R, Pull L (.pt w (.tup xs)) R) ∨ tupI w xs ∈ I
section
variable {K : PySem.W.Frag} {g : TG} {tb : TS} {D : Ends} {σ : L2.St} {H : Hp} {L M R : List Ck} {I J : List (Hp → Prop)} {a b p w : Addr} {xs ys : List V} {tt : TT} {te : TE} {vs : List Nat} {k : Bool} {c : Ck}
theorem SeqW.tail (h : SeqW k L I w xs) : SeqW k (c :: L) I w xs := match k, h with
  | true, ⟨R, h⟩ => ⟨_, .tail h⟩
  | false, .inl ⟨R, h⟩ => .inl ⟨_, .tail h⟩
  | false, .inr h => .inr h
theorem SeqW.l (h : Own H L I) (e : SeqW true L I w xs) : SqL K H w xs := let ⟨_, e⟩ := e; SqL.of (h.get e)
theorem SeqW.t (h : Own H L I) (e : SeqW false L I w xs) : SqT K H w xs := match e with
  | .inl ⟨_, e⟩ => SqT.of (h.get e)
  | .inr e => SqT.of (h.imp e)
end
theorem IDpAll.at {H : Hp} : ∀ {xs : List V} {ds : List PyData} {i : Nat} {x : V}, IDpAll H xs ds → xs[i]? = some x → ∃ d, ds[i]? = some d ∧ IDp H x d
  | _, _, 0, x, .cons a g, h => by
    cases h
    exact ⟨_, rfl, a⟩
  | _, _, i + 1, x, .cons a g, h => IDpAll.at (i := i) g h
end OW
set_option Elab.async false
set_option linter.all false
set_option maxRecDepth 100000
set_option maxHeartbeats 2000000
namespace OW
open PySem PySem.Spec PyProof.Rows L2 RZ SkE CL
structure ShwB (d : PyData) (m B : Nat) : Prop where
  s : d.showable = true
  h : d.hasDict = false
  l : d.canLay0 = true
  q : d.depth ≤ m
  b : bnd d ≤ B
structure ShwA (ds : List PyData) (m B : Nat) : Prop where
  s : PyData.showableAll ds = true
  h : PyData.hasDictAll ds = false
  l : PyData.canLayAll0 ds = true
  q : PyData.depthAll ds ≤ m
  b : bndAll ds ≤ B
theorem ShwB.up {d : PyData} {m B m' B' : Nat} (h : ShwB d m B) (a : m ≤ m') (b : B ≤ B') : ShwB d m' B' := ⟨h.s, h.h, h.l, Nat.le_trans h.q a, Nat.le_trans h.b b⟩
theorem ShwA.tup {ds : List PyData} {m B : Nat} (h : ShwA ds m B) : ShwB (.tuple ds) (m + 1) (B + 3) := ⟨by simpa [PyData.showable] using h.s, by simpa [PyData.hasDict] using h.h, by simpa [PyData.canLay0] using h.l, by have := h.q; simp [PyData.depth]; omega, by have := h.b; show bndAll ds + 3 ≤ B + 3; omega⟩
theorem ShwA.lst {ds : List PyData} {m B : Nat} (h : ShwA ds m B) : ShwB (.list ds) (m + 1) (B + 3) := ⟨by simpa [PyData.showable] using h.s, by simpa [PyData.hasDict] using h.h, by simpa [PyData.canLay0] using h.l, by have := h.q; simp [PyData.depth]; omega, by have := h.b; show bndAll ds + 2 ≤ B + 3; omega⟩
theorem ShwB.shaped {d : PyData} {m B : Nat} (h : ShwB d m B) (a : m ≤ 64) : SeqAt.shaped d = true := by
  have l := h.l
  have e : d.depth ≤ 64 := Nat.le_trans h.q a
  simp [SeqAt.shaped, l, e]
theorem ShwB.refl {d : PyData} {m B : Nat} (h : ShwB d m B) : PyData.eqv d d = true := SeqAt.eqv_refl d h.l
theorem sub_nil {α : Type} {M : List α} : ∀ S ∈ ([] : List α), S ∈ M := fun S h => (List.not_mem_nil h).elim
theorem sub_cons {α : Type} {R : α} {L M : List α} (h : R ∈ M) (t : ∀ S ∈ L, S ∈ M) : ∀ S ∈ R :: L, S ∈ M := fun S m => by
  rcases List.mem_cons.mp m with rfl | m
  · exact h
  · exact t S m
theorem room65 {k : Nat} {A : Around} (r : Room (k + 1) A) : A.units + 65 < cLine := by have := r.un; omega
end OW
set_option Elab.async false
set_option linter.all false
set_option maxRecDepth 100000
set_option maxHeartbeats 2000000
namespace OW
open PySem PySem.Spec PyProof.Rows L2 RZ SkE CL
def rIsG (neg : Bool) : R2 := fun x y H Q => match y with
  | .non => Q (.bl (if neg then !decide (x = .non) else decide (x = .non))) H
  | .bl b => match x with
    | .bl a => Q (.bl (if neg then !decide (a = b) else decide (a = b))) H
    | _ => False
  | _ => False
theorem c_isG {X : Cx} : OpR X (compareOp .Is) (rIsG false) := by
  intro pins s σ H x y v u Q I rx ry h
  unfold rIsG at h
  split at h
  · exact op_isN pins s σ H _ _ v u Q I rx ry ⟨rfl, h⟩
  · split at h
    · exact op_isBl pins s σ H _ _ v u Q I rx ry ⟨_, _, rfl, rfl, h⟩
    · exact h.elim
  · exact h.elim
theorem c_isnotG {X : Cx} : OpR X (compareOp .IsNot) (rIsG true) := by
  intro pins s σ H x y v u Q I rx ry h
  unfold rIsG at h
  split at h
  · exact op_notN pins s σ H _ _ v u Q I rx ry ⟨rfl, h⟩
  · split at h
    · exact op_notBl pins s σ H _ _ v u Q I rx ry ⟨_, _, rfl, rfl, h⟩
    · exact h.elim
  · exact h.elim
end OW
set_option Elab.async false
set_option linter.all false
set_option maxRecDepth 100000
set_option maxHeartbeats 2000000
namespace OW
open PySem PySem.Spec PyProof.Rows L2 RZ SkE CL
structure UnU (K : PySem.W.Frag) (H : Hp) (a : Addr) (n : Nat) (k : List V → Prop) : Prop where
  ex : ∃ xs, SqL K H a xs ∧ xs.length = n ∧ k xs
theorem unu_o {K : PySem.W.Frag} {H : Hp} {L R : List Ck} {I : List (Hp → Prop)} {a : Addr} {xs : List V} {n : Nat} {k : List V → Prop} (h : Own H L I) (e : Pull L (.pt a (.lst xs)) R) (l : xs.length = n) (q : k xs) : UnU K H a n k := ⟨xs, SqL.of (h.get e), l, q⟩
end OW
set_option Elab.async false
set_option linter.all false
set_option maxRecDepth 100000
set_option maxHeartbeats 4000000
namespace OW
open PySem PySem.Spec PyProof.Rows L2 RZ SkE CL
/-- raise C(v) -/
structure RaiseR (C : Addr) (f : Str) (v : V) (W : WX) (σ : L2.St) (H : Hp) : Prop where
  ex : ∀ d, H d = none → W (.ref C) (some d) σ (upd H d (.xd [(f, v)]))
/-- self.f = v in the __init__ of an error -/
structure StX (K : PySem.W.Frag) (f : Str) (a : V) (y : V) (H : Hp) (k : Hp → Prop) : Prop where
  ex : ∃ b C : Addr, a = .ref b ∧ OexC K C ∧ PySem.W.findIn K (.ref C) f = some none ∧ H b = some (exo b C none) ∧ ∀ d, H d = none → d ≠ b → k (upd (upd H d (exd d [(f, y)])) b (exo b C (some d)))
structure Wr (p : Prop) : Prop where
  q : p
def wr (W : WX) : WX := fun cls d σ H => Wr (W cls d σ H)
theorem Takes.wr {X : Cx} {W : WX} (t : L2.Takes X W) : L2.Takes X (OW.wr W) := L2.Takes.imp t fun _ _ _ _ h => h.q
section
variable {X : Cx} {x n : Str} {c : Value} {i : Nat} {body suite : List Stmt} {b₀ : Stmt} {np pos pos' : Pos} {tb : WX → TS} {ts : Addr → Value → Option Addr → TS} {Wout : WX}
theorem s_try_as (hs : X.stack = X.env :: X.outer) (hf : X.env.frame = some X.env.locals) (hN : X.N.Nodup) (hi : X.N[i]? = some n) (hln : X.env.kindOf n = some .local) (hc : Names X x c) (tk : L2.Takes X Wout)
    (hb : ∀ (W : WX) (pn : List (Addr × Obj)) (xe : Value → Shared → Prop), L2.Takes (X.tr pn xe) W → PassesOwn (model X.prog X.w) X.A X.env xe → PSs (X.tr pn xe) body (tb W))
    (hsu : ∀ (a : Addr) (oe : Obj) (cls : Value) (d : Option Addr) (pn : List (Addr × Obj)), Zc cls d oe → (∃ vs, oe.data = .fields vs) → PSs (X.suite a ((a, oe) :: pn)) (b₀ :: suite) (ts a cls d)) :
    PS X (.Try body [.ExceptHandler (some (.Name x np)) (some n) (b₀ :: suite) pos'] [] [] pos) (fun D σ H => tb (OW.wr (wAs X.K c i ts Wout D)) D σ H) :=
  ps_try_as (tb := fun W => tb (OW.wr W)) hs hf hN hi hln hc tk (fun W pn xe t po => hb (OW.wr W) pn xe (OW.Takes.wr t) po) hsu
end
theorem catch_yes {K : PySem.W.Frag} {c cls : Value} {i : Nat} {ts : Addr → Value → Option Addr → TS} {Wout : WX} {D : Ends} {d : Option Addr} {σ : L2.St} {H : Hp} (e : PySem.W.exmOne K cls c = some true)
    (h : ∀ a, H a = none → ts a cls d { nx := fun σ' H' => D.nx (σ'.set i none) H', rt := D.rt, bk := fun σ' H' => D.bk (σ'.set i none) H', ct := fun σ' H' => D.ct (σ'.set i none) H' } (σ.set i (some (.ref a))) H) : Wr (wAs K c i ts Wout D cls d σ H) :=
  ⟨⟨true, e, fun _ => h, fun z => by cases z⟩⟩
/-- e.f, e what was caught -/
structure XfG (x : V) (a : Addr) (cls : Value) (d : Option Addr) (C : Addr) (f : Str) (H : Hp) (Q : VK) : Prop where
  ex : x = .ref a ∧ cls = .ref C ∧ ∃ (dd : Addr) (fs : List (Str × V)) (v : V), d = some dd ∧ H dd = some (.xd fs) ∧ fs.lookup f = some v ∧ Q v H
theorem xf_o {H : Hp} {L R : List Ck} {I : List (Hp → Prop)} {a C dd : Addr} {fs : List (Str × V)} {f : Str} {v : V} {Q : VK} (h : Own H L I) (p : Pull L (.pt dd (.xd fs)) R) (l : fs.lookup f = some v) (q : Q v H) : XfG (.ref a) a (.ref C) (some dd) C f H Q :=
  ⟨rfl, rfl, dd, fs, v, rfl, h.get p, l, q⟩
/-- isinstance(e, c), e what was caught -/
structure IsEG (K : PySem.W.Frag) (D a : Addr) (cls : Value) (d : Option Addr) (x c : V) (H : Hp) (Q : VK) : Prop where
  ex : ∃ (cv : Value) (b : Bool) (dd : Addr) (fs : List (Str × V)), x = .ref a ∧ cls = .ref D ∧ d = some dd ∧ H dd = some (.xd fs) ∧ (∀ u, RelV c u → u = cv) ∧ PySem.W.kitOne K (.ref D) cv = some b ∧ Q (.bl b) H
theorem isE_o {K : PySem.W.Frag} {H : Hp} {L R : List Ck} {I : List (Hp → Prop)} {a D c dd : Addr} {fs : List (Str × V)} {b : Bool} {Q : VK} (h : Own H L I) (p : Pull L (.pt dd (.xd fs)) R) (e : PySem.W.kitOne K (.ref D) (.ref c) = some b) (q : Q (.bl b) H) : IsEG K D a (.ref D) (some dd) (.ref a) (.ref c) H Q :=
  ⟨.ref c, b, dd, fs, rfl, rfl, rfl, h.get p, fun u r => r, e, q⟩
theorem raise_o {H : Hp} {L : List Ck} {I : List (Hp → Prop)} {C : Addr} {f : Str} {v : V} {W : WX} {σ : L2.St} (h : Own H L I) (q : ∀ d H', Own H' (.pt d (.xd [(f, v)]) :: L) I → W (.ref C) (some d) σ H') : RaiseR C f v W σ H := ⟨fun d hd => q d _ (h.new hd)⟩
def cCallS (sp : Sp) (dvs : List V) (E : L2.St → XK) (t : TA) : TE := fun σ H Q => t σ H fun vs H1 => Ask (sp (vs ++ dvs) H1 Q (E σ))
section
variable {X : Cx} {CX : CXT} {k : Nat} {f C : Addr} {fd : FuncData} {ps : List Str} {sp : Sp} {dvs : List V} {ds : List Value} {W : WX} {m x : Str} {p pos apos : Pos} {e o : Expr} {es : List Expr} {ta te : TE} {t : TA}
theorem e_callS (F : FnOk X.prog X.w X.K X.mg X.base (L2.CX X.prog X.w) k f fd ps sp) (hr : Room k X.A) (hg : Gl X x) (hm : X.mg x = some (.ref f)) (hk : PySem.W.keepIn X.K (.ref f) = true) (hb : Binds X.K fd ps ds) (hd : Vals dvs ds) (tk : L2.Takes X W)
    (ha : PA X (e :: es) t) (hdb : (x == ("__debug__" : Str)) = false := by decide) (he : starEach (e :: es) X.env = (false, eval e X.env) :: starEach es X.env := by rfl) (hpl : (backTo pos (starEach es X.env)).any (·.1) = false := by rfl) :
    PE X (.Call (.Name x p) (e :: es) [] pos) (cCallS sp dvs (WE W) t) := by
  have e2 : cCallS sp dvs (WE W) t = tCallSD sp dvs (WE W) t := by
    funext σ H Q
    unfold cCallS tCallSD
    simp only [ask_eq]
  rw [e2]
  exact pe_callSD F hr hg hm hk hb hd (fun σ => passAt tk σ) ha hdb he hpl
end
end OW
set_option Elab.async false
set_option linter.all false
set_option maxRecDepth 100000
set_option maxHeartbeats 2000000
namespace OW
open PySem PySem.Spec PyProof.Rows L2 RZ SkE CL
mutual
inductive VO (l : List (Addr × HO)) : V → PyData → Prop
  | non : VO l .non .none
  | bl (b : Bool) : VO l (.bl b) (.bool b)
  | int (i : Int) : VO l (.int i) (.int i)
  | str (z : Str) : VO l (.str z) (.str z)
  | lst {a : Addr} {xs : List V} {ds : List PyData} (m : (a, HO.lst xs) ∈ l) (g : VOAll l xs ds) : VO l (.ref a) (.list ds)
  | tup {a : Addr} {xs : List V} {ds : List PyData} (m : (a, HO.tup xs) ∈ l) (g : VOAll l xs ds) : VO l (.ref a) (.tuple ds)
inductive VOAll (l : List (Addr × HO)) : List V → List PyData → Prop
  | nil : VOAll l [] []
  | cons {v : V} {vs : List V} {d : PyData} {ds : List PyData} (h : VO l v d) (g : VOAll l vs ds) : VOAll l (v :: vs) (d :: ds)
end
section
variable {l l' : List (Addr × HO)} {H : Hp} {K : PySem.W.Frag}
mutual
theorem VO.up (k : ∀ p ∈ l, p ∈ l') : ∀ (d : PyData) (v : V), VO l v d → VO l' v d
  | .none, _, h => by cases h; exact .non
  | .bool b, _, h => by cases h; exact .bl b
  | .int i, _, h => by cases h; exact .int i
  | .str z, _, h => by cases h; exact .str z
  | .list ds, _, h => by cases h with | lst m g => exact .lst (k _ m) (VOAll.up k ds _ g)
  | .tuple ds, _, h => by cases h with | tup m g => exact .tup (k _ m) (VOAll.up k ds _ g)
  | .dict es, _, h => by cases h
theorem VOAll.up (k : ∀ p ∈ l, p ∈ l') : ∀ (ds : List PyData) (vs : List V), VOAll l vs ds → VOAll l' vs ds
  | [], _, h => by cases h; exact .nil
  | d :: ds, _, h => by cases h with | cons h g => exact .cons (VO.up k d _ h) (VOAll.up k ds _ g)
end
theorem VO.any {d : PyData} {v : V} (k : ∀ p ∈ l, H p.1 = some p.2) (h : VO l v d) : AnyV H v := by
  cases h with
  | non => exact .non
  | bl b => exact .bl b
  | int i => exact .int i
  | str z => exact .str z
  | lst m g => exact .lst (k _ m)
  | tup m g => exact .tup (k _ m)
theorem VOAll.len : ∀ {vs : List V} {ds : List PyData}, VOAll l vs ds → vs.length = ds.length
  | _, _, .nil => rfl
  | _, _, .cons h g => by rw [List.length_cons, List.length_cons, g.len]
theorem VOAll.at : ∀ {vs : List V} {ds : List PyData} {i : Nat} {x : V}, VOAll l vs ds → vs[i]? = some x → ∃ d, ds[i]? = some d ∧ VO l x d
  | _, _, i, x, .nil, h => by cases h
  | _, _, 0, x, .cons h g, e => by cases e; exact ⟨_, rfl, h⟩
  | _, _, i + 1, x, .cons h g, e => g.at (i := i) e
theorem VOAll.set {y : V} {e : PyData} (h : VO l y e) : ∀ {vs : List V} {ds : List PyData} {i : Nat}, VOAll l vs ds → VOAll l (vs.set i y) (ds.set i e)
  | _, _, i, .nil => .nil
  | _, _, 0, .cons _ g => .cons h g
  | _, _, i + 1, .cons h2 g => .cons h2 (g.set (i := i) h)
end
theorem pull_app {α : Type} {c : α} {L R : List α} (e : Pull L c R) : ∀ M : List α, Pull (M ++ L) c (M ++ R)
  | [] => e
  | x :: M => .tail (pull_app e M)
structure InE (K : PySem.W.Frag) (H : Hp) (x y : V) (k : Bool → Prop) : Prop where
  ex : ∃ d ds, Dp K H x d ∧ (Dp K H y (.list ds) ∨ Dp K H y (.tuple ds)) ∧ SeqAt.shaped d = true ∧ SeqAt.shaped (.list ds) = true ∧ k (ds.any fun z => PyData.eqv z d)
def rInE (K : PySem.W.Frag) (neg : Bool) : R2 := fun x y H Q => InE K H x y fun b => Q (.bl (if neg then !b else b)) H
theorem c_notinE {X : Cx} {K : PySem.W.Frag} (hK : X.K = K) (hu : X.A.units + 65 < cLine) : OpR X (compareOp .NotIn) (rInE K true) := by
  subst hK
  intro pins s σ H x y v u Q I rx ry h
  obtain ⟨⟨d, ds, hd, he, sd, se, q⟩⟩ := h
  obtain ⟨as, r1⟩ := Dp.reads I d x v hd rx
  rcases he with he | he
  · obtain ⟨bs, r2⟩ := Dp.reads I (.list ds) y u he ry
    exact PySem.SeqAt.notIn_list_reads r2 r1 (SeqAt.canLay_of_shaped se) (SeqAt.canLay_of_shaped sd) (room_in_shaped sd hu) ⟨.bl _, H, I, rfl, q⟩
  · obtain ⟨bs, r2⟩ := Dp.reads I (.tuple ds) y u he ry
    exact PySem.SeqAt.notIn_tuple_reads r2 r1 (SeqAt.canLay_of_shaped se) (SeqAt.canLay_of_shaped sd) (room_in_shaped sd hu) ⟨.bl _, H, I, rfl, q⟩
end OW
set_option Elab.async false
set_option linter.all false
set_option maxRecDepth 100000
set_option maxHeartbeats 2000000
namespace PySem
open Sem (wp)
set_option maxHeartbeats 1000000 in
theorem meets_enumerate_newB1 {v : Value} {o : Obj} {H : Heap → Prop} (B : Begins v o H) :
    Meets (Builtin.«enumerate.__new__» ⟨[.type "enumerate", v], []⟩) (fun _ R s => H s.heap ∧
      R (.ok (.ret (.ref (s.heap.push o).objs.size))) { s with heap := (s.heap.push o).push { cls := .type "enumerate", data := .fields #[.none, .bool false, .ref s.heap.objs.size, rawInt 0, .none, .none] } }) :=
  .of_wp fun prog w A R s h => by
    obtain ⟨hp, g, d, tk, os⟩ := s; obtain ⟨h1, h⟩ := h
    have hsub := sub_enumerate
    have q1 : ∀ {A' : Around} {E : Value → Shared → Prop} {Q : Value → Shared → Prop}, Q (.ref hp.objs.size) ⟨hp.push o, g, d, tk, os⟩ → wpAny (model prog w) A' (pyIter v) Q E ⟨hp, g, d, tk, os⟩ :=
      fun q => B.iter prog w _ _ ⟨hp, g, d, tk, os⟩ _ h1 q
    wp_walk using q1
    refine wpAny_stack_any fun st => wpAny_pure ?_
    split
    · rename_i c _ _ _ _ _
      cases (c == Value.type "enumerate")
      · wp_walk using q1
        exact ⟨_, rfl, h⟩
      · wp_walk using q1
        exact ⟨_, rfl, h⟩
    · wp_walk using q1
      exact ⟨_, rfl, h⟩
section
variable {prog : Program} {w : World} {A : Around} {E : Value → Shared → Prop} {s : Shared}
theorem enum_begins1 {v : Value} {o : Obj} {H : Heap → Prop} {Q : Value → Shared → Prop} (B : Begins v o H) (h1 : H s.heap)
    (h : ∀ h', IsEnum h' (s.heap.objs.size + 1) s.heap.objs.size 0 .none → h'.get? s.heap.objs.size = some o → h'.objs.size = s.heap.objs.size + 2 →
      (∀ b o, s.heap.get? b = some o → h'.get? b = some o) → Q (.ref (s.heap.objs.size + 1)) { s with heap := h' }) :
    wpAny (model prog w) A (call (.type "enumerate") [v]) Q E s := by
  refine callType_new F.called_enumerate (by decide) (F.typeCall_enumerate_1 _) (F.newCall_enumerate_1 _) (fun obj => F.args_object_init_2 obj _) F.entry_enumerate_new
    (meets_enumerate_newB1 B) ⟨h1, ?_⟩
  have hz : (s.heap.push o).objs.size = s.heap.objs.size + 1 := Heap.size_push ..
  show _ ∧ _
  rw [hz]
  have he : IsEnum ((s.heap.push o).push { cls := .type "enumerate", data := .fields #[.none, .bool false, .ref s.heap.objs.size, rawInt 0, .none, .none] }) (s.heap.objs.size + 1) s.heap.objs.size 0 .none := by
    have := Heap.get?_push_size (s.heap.push o) (o := { cls := .type "enumerate", data := .fields #[.none, .bool false, .ref s.heap.objs.size, rawInt 0, .none, .none] }) rfl
    rw [hz] at this; exact this
  refine ⟨⟨_, he, rfl⟩, h _ he (Heap.get?_push_of_some _ (Heap.get?_push_size _ B.free)) (by rw [Heap.size_push, hz]) fun b o x => Heap.get?_push_of_some _ (Heap.get?_push_of_some _ x)⟩
theorem enumT_end {e it t : Addr} {i : Nat} {j : Int} {items : Array Value} {old : Value} {Q : Option Value → Shared → Prop} (hh : A.in1.handled = none)
    (he : IsEnum s.heap e it j old) (hit : s.heap.IsTupleIter it t i) (ht : s.heap.IsTuple t items) (hx : items[i]? = none)
    (hQ : ∀ h', Heap.ExtBut it s.heap h' → Q none { s with heap := h' }) : wpAny (model prog w) A (pyNext (.ref e)) Q E s := by
  have hT : s.TypeIs (.ref e) "enumerate" := ⟨_, he, rfl⟩
  unfold pyNext
  refine wpAny_bind (wpAny_attempt (wpAny_callSpecial?_slot (name := Str.ofString "__next__") hT F.slot_enumerate_next
    (wpAny_call_entry F.slot_enumerate_next hT F.entry_enumerate_next ?_ (F.args_enumerate_next_1 _))))
  show wpAny _ _ (field (.ref e) 2 >>= _) _ _ _
  refine wpAny_bind (wpAny_field he rfl (x := .ref it) rfl ?_)
  refine wpAny_bind (wpAny_nextOf_tuple_end hh hit ht hx fun h' x he' hx' => ?_)
  obtain ⟨o, ho, hc⟩ := hx'
  refine wpAny_bind (wpAny_isInstance (T := "StopIteration") (b := true) ⟨o, ho, hc⟩ isSubtype_stop ?_)
  exact wpAny_pure (hQ _ he')
end
end PySem
namespace L2
open PySem PySem.Spec PyProof.Rows
/-- the tuple at a as it stands at each turn, each item in a new pair -/
def IteT (K : PySem.W.Frag) (a : Addr) : It :=
  ⟨fun i H => ∃ (xs : List V) (x : V), SqT K H a xs ∧ xs[i]? = some x, fun i H v H' => ∃ T x, v = .ref T ∧ H T = none ∧ H' = upd H T (.tup [.int (i : Nat), x]) ∧ ∀ xs, SqT K H a xs → xs[i]? = some x, fun i H => ∃ xs : List V, SqT K H a xs ∧ xs.length ≤ i⟩
theorem turn_enumT {P : Program} {w : World} {K : PySem.W.Frag} {elts : List Expr} {kk : Nat} {tpos : Pos} (a e it : Addr) :
    Turn P w K (.Tuple elts kk tpos) (IteT K a) [e, it] e (fun i h => (∃ old, IsEnum h e it ((i : Nat) : Int) old) ∧ h.IsTupleIter it a i ∧ e ≠ it) where
  mem := by simp
  obj := fun i h st b hb => by
    obtain ⟨⟨old, he⟩, ⟨o, ho, hc, hd⟩, _⟩ := st
    have e' : b = e ∨ b = it := by simpa using hb
    rcases e' with z | z
    · rw [z]; exact ⟨_, he, fun v q => nomatch q⟩
    · rw [z]; exact ⟨o, ho, fun v q => by rw [hd] at q; cases q⟩
  keep := fun i h h' st k => let ⟨⟨old, he⟩, hi, hne⟩ := st; ⟨⟨old, k e (by simp) _ he⟩, hi.at fun o q => k it (by simp) o q, hne⟩
  item := by
    intro X hP hw hK hc i pins s σ H E I hf st hg
    subst hP hw hK
    obtain ⟨⟨old, he⟩, hit, hne⟩ := st
    obtain ⟨xs, x, hq, hx⟩ := hg
    obtain ⟨its, rv, p, hz⟩ := I.tuple hq
    obtain ⟨u, hu, ru⟩ := rv.get hx
    have hel : e < s.heap.objs.size := Heap.lt_size he
    have hil : it < s.heap.objs.size := by obtain ⟨_, q, _⟩ := hit; exact Heap.lt_size q
    have pt : s.heap.IsTuple a its.toArray := p
    have ai : a ≠ it := fun z => by
      obtain ⟨o1, q1, c1, _⟩ := pt
      obtain ⟨o2, q2, c2, _⟩ := hit
      rw [z, q2] at q1
      cases q1
      rw [c2] at c1
      exact absurd (Value.type.inj c1) (by decide)
    have ea : e ≠ a := fun z => by
      obtain ⟨o1, q1, c1, _⟩ := pt
      rw [← z] at q1
      have q2 := he
      unfold IsEnum at q2
      rw [q1] at q2
      cases q2
      exact absurd (Value.type.inj c1) (by decide)
    have hh : X.A.in1.handled = none := I.ok.hd hc
    have D := Draws.tuple (prog := X.prog) (w := X.w) (A := X.A.in1) hh it a ai its.toArray
    have hlt : i < its.toArray.size := by
      have := (List.getElem?_eq_some_iff.mp hu).1
      simpa using this
    refine wpAny_pyNext_enum_itemD D he ⟨hit, pt⟩ hlt hne (by simp [hne, ea]) fun x' h' tk hPx ho hst' hT hsz hk => ?_
    have ex : x' = u := by
      have q : its.toArray[i]? = some u := by simpa using hu
      rw [hPx] at q
      exact Option.some.inj q
    subst ex
    refine ⟨_, rfl, wpAny_letOwnedTupleGo_enum (s := { s with heap := h', toks := tk + 1 }) ho fun h'' he' sb => ?_⟩
    have hT2 : h''.get? s.heap.objs.size = some { cls := .type "tuple", data := .seq #[.int i tk, x'] } := (sb.2 _ (Nat.ne_of_gt hel)).trans hT
    have new : ObjOk X.prog X.w (upd H s.heap.objs.size (.tup [.int (i : Nat), x])) h'' s.heap.objs.size (.tup [.int (i : Nat), x]) :=
      ⟨by show 2 ≤ sizeLine; decide, [.int i tk, x'], .cons ⟨_, rfl⟩ (.cons ru .nil), ⟨_, hT2, rfl, _, rfl⟩⟩
    have I1 : Inv X pins σ (upd H s.heap.objs.size (.tup [.int (i : Nat), x])) { s with heap := h'', toks := tk + 1 } :=
      I.turnedNew (ch := [e, it]) (fun b ob hb q => (sb.2 b (fun z => hb (by simp [z]))).trans (hk b ob (fun z => hb (by simp [z])) (fun z => hb (by simp [z])) q)) hf (Nat.le_refl _) new
    refine ⟨.ref s.heap.objs.size, _, I1, rfl, ⟨_, x, rfl, I.hok.fresh (Nat.le_refl _), rfl, fun ys hy => by rw [I.tuple_inj hy hq]; exact hx⟩, ⟨⟨x', ?_⟩, hst'.1.at fun o q => (sb.2 it (Ne.symm hne)).trans q, hne⟩, fun b hb => ?_⟩
    · have e1 : ((i + 1 : Nat) : Int) = (i : Int) + 1 := by omega
      rw [e1]; exact he'
    · have hb' : b < s.heap.objs.size := by
        have e' : b = e ∨ b = it := by simpa using hb
        rcases e' with z | z
        · rw [z]; exact hel
        · rw [z]; exact hil
      rw [upd_ne (Nat.ne_of_lt hb')]
      exact (hf b hb).1
  done := by
    intro X hP hw hK hc i pins s σ H E I hf st hg
    subst hP hw hK
    obtain ⟨⟨old, he⟩, hit, hne⟩ := st
    obtain ⟨xs, hq, hx⟩ := hg
    obtain ⟨its, rv, p, hz⟩ := I.tuple hq
    obtain ⟨f0, f1, f2, f3, f4, f5⟩ := hf it (by simp)
    have hl := rv.length
    have pt : s.heap.IsTuple a its.toArray := p
    have ai : a ≠ it := fun z => by
      obtain ⟨o1, q1, c1, _⟩ := pt
      obtain ⟨o2, q2, c2, _⟩ := hit
      rw [z, q2] at q1
      cases q1
      rw [c2] at c1
      exact absurd (Value.type.inj c1) (by decide)
    exact enumT_end (I.ok.hd hc) he hit pt (by simp; omega) fun h' eb => ⟨rfl, I.turned (t' := s.toks) (fun b o hb q => eb b o hb q) f0 f1 f3 f4 f5⟩
  self := fun A i s Q E st h => let ⟨⟨_, he⟩, _⟩ := st; wpAny_pyIter_enum he h
theorem walk_enumT {K : PySem.W.Frag} {a : Addr} {xs : List V} : Walk (IteT K a) xs.length (fun H => SqT K H a xs) (YPair (fun i => some (.int (i : Nat))) (fun i => xs[i]?)) := by
  refine ⟨fun i _ hi q => ⟨xs, xs[i], q, by simp [hi]⟩, fun _ q => ⟨xs, q, Nat.le_refl _⟩, fun i H v H' _ q y => ?_⟩
  obtain ⟨T, x, h1, h2, h3, h4⟩ := y
  exact ⟨T, .int (i : Nat), x, h1, h2, h3, rfl, h4 xs q⟩
/-- enumerate of a list or a tuple -/
def iEnumA (K : PySem.W.Frag) (ta : TA) : TI := fun σ H R => ta σ H fun vs H1 => ∃ a, vs = [.ref a] ∧ ((∃ xs, SqL K H1 a xs) ∧ R (Ite K a) H1 ∨ (∃ xs, SqT K H1 a xs) ∧ R (IteT K a) H1)
theorem pi_enumA {X : Cx} {e : Expr} {ta : TA} {p pos tpos : Pos} {elts : List Expr} {kk : Nat} (hg : Gl X "enumerate") (hm : X.mg "enumerate" = none) (ha : PA X [e] ta) (hs : starEach [e] X.env = [(false, eval e X.env)] := by rfl) :
    PI X (.Tuple elts kk tpos) (.Call (.Name "enumerate" p) [e] [] pos) (iEnumA X.K ta) := by
  refine ⟨fun pins s σ H R I h => ?_⟩
  refine Call_ (ld_blt I hg hm boot_enumerate (PyProof.Rows.callWith_type1 (thn (ha.run pos pins s σ H _ I h) fun us s1 ⟨vs, H1, I1, r1, q1⟩ => ?_) hs rfl))
  obtain ⟨a, ex, q⟩ := q1
  subst ex
  cases r1 with
  | cons r rr =>
    cases rr
    cases r
    have hle : ∀ b, b ∈ [s1.heap.objs.size + 1, s1.heap.objs.size] → s1.heap.objs.size ≤ b := fun b hb => by
      have e' : b = s1.heap.objs.size + 1 ∨ b = s1.heap.objs.size := by simpa using hb
      rcases e' with z | z
      · rw [z]; exact Nat.le_add_right _ _
      · rw [z]; exact Nat.le_refl _
    rcases q with ⟨⟨xs, hq⟩, q⟩ | ⟨⟨xs, hq⟩, q⟩
    · obtain ⟨its, rv, p', hz⟩ := I1.list hq
      refine call_enumerate_list p'.isList fun h' he hit hsz hk => wpAny_pyIter_enum he ?_
      have I2 : Inv X pins σ H1 { s1 with heap := h' } := I1.kept (t' := s1.toks) hk
      exact ⟨s1.heap.objs.size + 1, [s1.heap.objs.size + 1, s1.heap.objs.size], _, _, H1, rfl, I2, turn_enum a (s1.heap.objs.size + 1) s1.heap.objs.size, ⟨⟨.none, he⟩, hit, Nat.succ_ne_self _⟩, fun b hb => I1.fpOk (hle b hb) (I1.hok.fresh (hle b hb)), q⟩
    · obtain ⟨its, rv, p', hz⟩ := I1.tuple hq
      have pt : s1.heap.IsTuple a its.toArray := p'
      refine enum_begins1 (begins_tuple a its.toArray) pt fun h' he hit hsz hk => wpAny_pyIter_enum he ?_
      have I2 : Inv X pins σ H1 { s1 with heap := h' } := I1.kept (t' := s1.toks) hk
      exact ⟨s1.heap.objs.size + 1, [s1.heap.objs.size + 1, s1.heap.objs.size], _, _, H1, rfl, I2, turn_enumT a (s1.heap.objs.size + 1) s1.heap.objs.size, ⟨⟨.none, he⟩, ⟨_, hit, rfl, rfl⟩, Nat.succ_ne_self _⟩, fun b hb => I1.fpOk (hle b hb) (I1.hok.fresh (hle b hb)), q⟩
end L2
namespace OW
open PySem PySem.Spec PyProof.Rows L2 RZ SkE CL
structure ItEA (K : PySem.W.Frag) (H : Hp) (a : Addr) (R : It → Hp → Prop) : Prop where
  ex : (∃ xs, SqL K H a xs) ∧ R (Ite K a) H ∨ (∃ xs, SqT K H a xs) ∧ R (IteT K a) H
def cEnumA (K : PySem.W.Frag) (ta : TA) : TI := fun σ H R => ta σ H (onR1 fun a H1 => ItEA K H1 a R)
theorem i_enumA {X : Cx} {K : PySem.W.Frag} {e : Expr} {ta : TA} {p pos tpos : Pos} {elts : List Expr} {kk : Nat} (hK : X.K = K) (hg : Gl X "enumerate") (hm : X.mg "enumerate" = none) (ha : PA X [e] ta) (hs : starEach [e] X.env = [(false, eval e X.env)] := by rfl) :
    PI X (.Tuple elts kk tpos) (.Call (.Name "enumerate" p) [e] [] pos) (cEnumA K ta) := by
  subst hK
  have e2 : cEnumA X.K ta = iEnumA X.K ta := by
    funext σ H R
    show (ta σ H (onR1 fun a H1 => ItEA X.K H1 a R)) = ta σ H _
    congr 1
    funext vs H1
    refine propext ⟨fun h => ?_, fun h => ?_⟩
    · obtain ⟨a, rfl, h⟩ := onR1_ok h
      exact ⟨a, rfl, h.ex⟩
    · obtain ⟨a, rfl, h⟩ := h
      exact ⟨h⟩
  rw [e2]
  exact pi_enumA hg hm ha hs
section
variable {K : PySem.W.Frag} {g : TG} {tb : TS} {D : Ends} {σ : L2.St} {H : Hp} {a b p : Addr} {xs ys : List V} {tt : TT} {te : TE} {vs : List Nat} {Qd : Hp → Prop}
theorem fw_enumT (Pv : Nat → L2.St → Hp → Prop) (h0 : Pv 0 σ H) (hl : ∀ i σ H, i ≤ xs.length → Pv i σ H → SqT K H a xs)
    (hs : ∀ (i : Nat) (x : V) (T : Addr) (σ : L2.St) (H : Hp), xs[i]? = some x → Pv i σ H → H T = none → g (.ref T) σ (upd H T (.tup [.int (i : Nat), x])) fun σ2 H2 => tb { D with nx := Pv (i + 1), ct := Pv (i + 1), bk := D.nx } σ2 H2) (hd : ∀ σ H, Pv xs.length σ H → D.nx σ H) :
    ForW (IteT K a) g tb D σ H := ⟨for_it walk_enumT Pv h0 hl (fun i x σ H H' hi hp ⟨T, x1, y1, e1, hT, e2, e3, e4⟩ => by
      subst e1 e2
      cases e3
      exact hs i y1 T σ H e4 hp hT) hd⟩
end
section
variable {K : PySem.W.Frag} {H : Hp} {L R : List Ck} {I : List (Hp → Prop)} {a : Addr} {xs : List V}
theorem itea_t {P : It → Hp → Prop} (h : SqT K H a xs) (q : P (IteT K a) H) : ItEA K H a P := ⟨.inr ⟨⟨xs, h⟩, q⟩⟩
theorem itea_sl {P : It → Hp → Prop} (h : SqL K H a xs) (q : P (Ite K a) H) : ItEA K H a P := ⟨.inl ⟨⟨xs, h⟩, q⟩⟩
end
end OW
set_option Elab.async false
set_option linter.all false
set_option maxRecDepth 100000
set_option maxHeartbeats 2000000
namespace OW
open PySem PySem.Spec PyProof.Rows L2 RZ SkE CL
structure IsTT (K : PySem.W.Frag) (H : Hp) (x : V) (tp : Addr) (k : Bool → Prop) : Prop where
  ex : ∃ cs us t b, H tp = some (.tup cs) ∧ Paired ClsV cs us ∧ TyX K H x t ∧ PySem.W.kitAny K t us = some b ∧ k b
/-- whether a value is a list or a tuple -/
inductive SeqB (K : PySem.W.Frag) (H : Hp) : V → Bool → Prop
  | non : SeqB K H .non false
  | bl (b : Bool) : SeqB K H (.bl b) false
  | int (i : Int) : SeqB K H (.int i) false
  | str (z : Str) : SeqB K H (.str z) false
  | lst {a : Addr} {xs : List V} (e : H a = some (.lst xs)) : SeqB K H (.ref a) true
  | tup {a : Addr} {xs : List V} (e : H a = some (.tup xs)) : SeqB K H (.ref a) true
  | oth {x : V} {t : Value} {b : Bool} (ty : TyX K H x t) (k : PySem.W.kitAny K t [.type "list", .type "tuple"] = some b) : SeqB K H x b
theorem kitLT {K : PySem.W.Frag} {H : Hp} {x : V} {b : Bool} {tp : Addr} {k : Bool → Prop} (h : SeqB K H x b) (ht : H tp = some (.tup [.ty "list", .ty "tuple"])) (q : k b) : IsTT K H x tp k := by
  have p : Paired ClsV [.ty "list", .ty "tuple"] [.type "list", .type "tuple"] := .cons (.ty _) (.cons (.ty _) .nil)
  cases h with
  | non => exact ⟨_, _, _, _, ht, p, .base .non, kitAny_cons kit_NoneType_list (fun _ => kitAny_cons kit_NoneType_tuple (fun _ => kitAny_nil) (fun z => by cases z)) (fun z => by cases z), q⟩
  | bl b => exact ⟨_, _, _, _, ht, p, .base (.bl _), kitAny_cons kit_bool_list (fun _ => kitAny_cons kit_bool_tuple (fun _ => kitAny_nil) (fun z => by cases z)) (fun z => by cases z), q⟩
  | int i => exact ⟨_, _, _, _, ht, p, .base (.int _), kitAny_cons kit_int_list (fun _ => kitAny_cons kit_int_tuple (fun _ => kitAny_nil) (fun z => by cases z)) (fun z => by cases z), q⟩
  | str z => exact ⟨_, _, _, _, ht, p, .base (.str _), kitAny_cons kit_str_list (fun _ => kitAny_cons kit_str_tuple (fun _ => kitAny_nil) (fun z => by cases z)) (fun z => by cases z), q⟩
  | lst e => exact ⟨_, _, _, _, ht, p, .base (.lst e), kitAny_cons kit_list_list (fun z => by cases z) (fun _ => rfl), q⟩
  | tup e => exact ⟨_, _, _, _, ht, p, .base (.tup e), kitAny_cons kit_tuple_list (fun _ => kitAny_cons kit_tuple_tuple (fun z => by cases z) (fun _ => rfl)) (fun z => by cases z), q⟩
  | oth ty z => exact ⟨_, _, _, _, ht, p, ty, z, q⟩
def seqD : PyData → Bool
  | .list _ => true
  | .tuple _ => true
  | _ => false
theorem VO.seq {K : PySem.W.Frag} {l : List (Addr × HO)} {H : Hp} {d : PyData} {v : V} (k : ∀ p ∈ l, H p.1 = some p.2) (h : VO l v d) : SeqB K H v (seqD d) := by
  cases h with
  | non => exact .non
  | bl b => exact .bl b
  | int i => exact .int i
  | str z => exact .str z
  | lst m g => exact .lst (k _ m)
  | tup m g => exact .tup (k _ m)
end OW
set_option Elab.async false
set_option linter.all false
set_option maxRecDepth 100000
set_option maxHeartbeats 2000000
namespace L2
open PySem PySem.Spec PyProof.Rows SeqAt
end L2
namespace OW
open PySem PySem.Spec PyProof.Rows L2 RZ SkE CL
end OW
set_option Elab.async false
set_option linter.all false
set_option maxRecDepth 100000
set_option maxHeartbeats 2000000
namespace OW
open PySem PySem.Spec PyProof.Rows L2 RZ SkE CL
structure LenD (H : Hp) (a : Addr) (k : Nat → Prop) : Prop where
  ex : ∃ kvs : List (Key × V), H a = some (.dK kvs) ∧ k kvs.length
structure RepL (H : Hp) (a : Addr) (n : Int) (Q : VK) : Prop where
  ex : ∃ xs, H a = some (.lst xs) ∧ (-(2 ^ 63) ≤ n ∧ n < 2 ^ 63 ∧ xs.length * n.toNat ≤ sizeLine) ∧ New H (.lst (List.replicate n.toNat xs).flatten) fun p H' => Q (.ref p) H'
def rRepC : R2 := fun x y H Q => match x, y with
  | .ref a, .int n => RepL H a n Q
  | _, _ => False
theorem c_rep {X : Cx} : OpR X (binaryOp .Mult) rRepC := by
  intro pins s σ H x y v u Q I rx ry h
  unfold rRepC at h
  split at h
  · obtain ⟨⟨xs, h1, ⟨h2, h3, h4⟩, h5⟩⟩ := h
    exact op_rep pins s σ H _ _ v u Q I rx ry ⟨_, _, xs, rfl, rfl, h1, h2, h3, h4, h5.k⟩
  · exact h.elim
structure FldInc (K : PySem.W.Frag) (H : Hp) (a : Addr) (f : Str) (c : Int) (k : Hp → Prop) : Prop where
  ex : ∃ C dx fs i, H a = some (.ins C dx fs) ∧ Cls K C ∧ NoAttr K C f ∧ fs.lookup f = some (.int i) ∧ fs.length < 1000 ∧ k (upd H a (.ins C dx (putF f (.int (i + c)) fs)))
structure ItD (H : Hp) (d : Addr) (T : Addr → Obj → List (Key × V) → It) (R : It → Hp → Prop) : Prop where
  ex : ∃ o kvs, H d = some (.frz o (.dK kvs)) ∧ R (T d o kvs) H
section
variable {g : TG} {tb : TS} {D : Ends} {σ : L2.St} {H : Hp} {d p : Addr} {o : Obj} {kvs : List (Key × V)} {tt : TT} {te : TE} {vs : List Nat} {Qd : Hp → Prop} {L R : List Ck} {I : List (Hp → Prop)}
theorem itd_o {T : Addr → Obj → List (Key × V) → It} {P : It → Hp → Prop} (h : Own H L I) (e : Pull L (.pt d (.frz o (.dK kvs))) R) (q : P (T d o kvs) H) : ItD H d T P := ⟨o, kvs, h.get e, q⟩
end
def ddN (ns : List Int) : Nat := (PyProof.Rows.firstMet (fun i => ns.getD i 0) ns.length).length
structure LenSet (K : PySem.W.Frag) (H : Hp) (a : Addr) (k : Nat → Prop) : Prop where
  ex : ∃ ns : List Int, SqL K H a (ns.map V.int) ∧ ns.length ≤ 4000 ∧ k (ddN ns)
theorem lenset_o {K : PySem.W.Frag} {H : Hp} {L R : List Ck} {I : List (Hp → Prop)} {a : Addr} {ns : List Int} {k : Nat → Prop} (h : Own H L I) (e : Pull L (.pt a (.lst (ns.map V.int))) R) (l : ns.length ≤ 4000) (q : k (ddN ns)) : LenSet K H a k := ⟨ns, SqL.of (h.get e), l, q⟩
theorem lend_o {H : Hp} {L R : List Ck} {I : List (Hp → Prop)} {a : Addr} {kvs : List (Key × V)} {k : Nat → Prop} (h : Own H L I) (e : Pull L (.pt a (.dK kvs)) R) (q : k kvs.length) : LenD H a k := ⟨kvs, h.get e, q⟩
theorem repl_o {H : Hp} {L R : List Ck} {I : List (Hp → Prop)} {a : Addr} {xs : List V} {n : Int} {Q : VK} (h : Own H L I) (e : Pull L (.pt a (.lst xs)) R) (b : -(2 ^ 63) ≤ n ∧ n < 2 ^ 63 ∧ xs.length * n.toNat ≤ sizeLine) (q : ∀ p H', Own H' (.pt p (.lst (List.replicate n.toNat xs).flatten) :: L) I → Q (.ref p) H') : RepL H a n Q := ⟨xs, h.get e, b, new_o h q⟩
theorem fldinc_o {K : PySem.W.Frag} {H : Hp} {L R : List Ck} {I : List (Hp → Prop)} {a C dx : Addr} {fs : List (Str × V)} {f : Str} {i c : Int} {k : Hp → Prop} (h : Own H L I) (e : Pull L (.pt a (.ins C dx fs)) R) (hc : Cls K C) (n : NoAttr K C f) (l : fs.lookup f = some (.int i)) (s : fs.length < 1000) (m : doneF fs = false)
    (q : ∀ H', Own H' (.pt a (.ins C dx (putF f (.int (i + c)) fs)) :: R) I → k H') : FldInc K H a f c k := ⟨C, dx, fs, i, h.get e, hc, n, l, s, q _ (h.put e m)⟩
structure DPop (H : Hp) (a : Addr) (y : V) (Q : VK) : Prop where
  ex : ∃ kvs key v, H a = some (.dK kvs) ∧ y = kV key ∧ valV kvs key = some v ∧ Q v (upd H a (.dK (dropK kvs key)))
structure IsDk (H : Hp) (a : Addr) (k : Prop) : Prop where
  ex : (∃ kvs : List (Key × V), H a = some (.dK kvs)) ∧ k
theorem dpop_i {H : Hp} {L R : List Ck} {I : List (Hp → Prop)} {a : Addr} {kvs : List (Key × V)} {i : Int} {v : V} {Q : VK} (h : Own H L I) (e : Pull L (.pt a (.dK kvs)) R) (l : valV kvs (.inl i) = some v) (q : ∀ H', Own H' (.pt a (.dK (dropK kvs (.inl i))) :: R) I → Q v H') : DPop H a (.int i) Q := ⟨kvs, .inl i, v, h.get e, rfl, l, q _ (h.put e rfl)⟩
theorem isdk_o {H : Hp} {L R : List Ck} {I : List (Hp → Prop)} {a : Addr} {kvs : List (Key × V)} {k : Prop} (h : Own H L I) (e : Pull L (.pt a (.dK kvs)) R) (q : k) : IsDk H a k := ⟨⟨kvs, h.get e⟩, q⟩
structure RemI (H : Hp) (a : Addr) (k : Int) (Q : VK) : Prop where
  ex : ∃ ns : List Int, H a = some (.lst (ns.map V.int)) ∧ k ∈ ns ∧ Q .non (upd H a (.lst ((ns.erase k).map V.int)))
structure CntI (K : PySem.W.Frag) (H : Hp) (a : Addr) (k : Int) (Q : Nat → Prop) : Prop where
  ex : ∃ ns : List Int, SqL K H a (ns.map V.int) ∧ Q (ns.count k)
theorem remi_o {H : Hp} {L R : List Ck} {I : List (Hp → Prop)} {a : Addr} {ns : List Int} {k : Int} {Q : VK} (h : Own H L I) (e : Pull L (.pt a (.lst (ns.map V.int))) R) (m : k ∈ ns) (q : ∀ H', Own H' (.pt a (.lst ((ns.erase k).map V.int)) :: R) I → Q .non H') : RemI H a k Q := ⟨ns, h.get e, m, q _ (h.put e rfl)⟩
theorem cnti_o {K : PySem.W.Frag} {H : Hp} {L R : List Ck} {I : List (Hp → Prop)} {a : Addr} {ns : List Int} {k : Int} {Q : Nat → Prop} (h : Own H L I) (e : Pull L (.pt a (.lst (ns.map V.int))) R) (q : Q (ns.count k)) : CntI K H a k Q := ⟨ns, SqL.of (h.get e), q⟩
end OW
set_option Elab.async false
set_option linter.all false
set_option maxRecDepth 100000
set_option maxHeartbeats 2000000
namespace OW
open PySem PySem.Spec PyProof.Rows L2 RZ SkE CL
/-- the numbers of a rule -/
structure Ru where
  se : Int
  la : Int
  be : Int
  gr : Int
  lt : Int
abbrev Ru.l (r : Ru) : List Int := [r.se, r.la, r.be, r.gr, r.lt]
/-- how things stand: the moment; who uses which seat since which answer; what is kept; who is cut off -/
structure Hs where
  mo : Int
  us : List (Int × Int × Int)
  kp : List (Option (Int × Int))
  ct : List Int
def isOf (u : Int) : Option (Int × Int) → Bool
  | none => false
  | some p => decide (p.1 = u)
def seatK (kp : List (Option (Int × Int))) (u : Int) : Option Nat := kp.findIdx? (isOf u)
def freeK (kp : List (Option (Int × Int))) : Option Nat := kp.findIdx? Option.isNone
def lendK (kp : List (Option (Int × Int))) (u : Int) : Option Nat := match seatK kp u with
  | some i => some i
  | none => freeK kp
def usesB (s : Hs) (u : Int) : Bool := (s.us.lookup u).isSome
def cutB (s : Hs) (u : Int) : Bool := decide (u ∈ s.ct)
def speakB (s : Hs) (u : Int) : Bool := usesB s u && !cutB s u
def putU (us : List (Int × Int × Int)) (u : Int) (v : Int × Int) : List (Int × Int × Int) := if (us.lookup u).isSome then us.map (fun p => if p.1 = u then (p.1, v) else p) else us ++ [(u, v)]
def delU (us : List (Int × Int × Int)) (u : Int) : List (Int × Int × Int) := us.filter fun p => decide (p.1 ≠ u)
def ansH (s : Hs) (u : Int) (i : Nat) : Hs := { s with us := putU s.us u (i, s.mo), kp := s.kp.set i (some (u, s.mo)) }
def outK (la mo : Int) : Option (Int × Int) → Bool
  | none => false
  | some p => decide (mo - p.2 = la)
def takenK (s : Hs) (la mo : Int) : Option (Int × Int) → Bool
  | none => false
  | some p => decide (mo - p.2 = la) && speakB s p.1
inductive Wd
  | borrow | word | back | crash | stop | cut | join
  deriving DecidableEq
def Wd.s : Wd → Str
  | .borrow => "borrow"
  | .word => "word"
  | .back => "back"
  | .crash => "crash"
  | .stop => "stop"
  | .cut => "cut"
  | .join => "join"
inductive Ev
  | pass
  | on (w : Wd) (u : Int)
def Ev.d : Ev → PyData
  | .pass => .tuple [.str "pass"]
  | .on w u => .tuple [.str w.s, .int u]
/-- whether a deed of a user is possible -/
def canU (r : Ru) (s : Hs) : Wd → Int → Bool
  | .borrow, u => !usesB s u && !cutB s u
  | .word, u => speakB s u
  | .back, u => speakB s u
  | .crash, u => usesB s u
  | .stop, u => match s.us.lookup u with
    | none => false
    | some p => decide (r.gr ≤ s.mo - p.2)
  | .cut, u => !cutB s u
  | .join, u => cutB s u
def passOk (r : Ru) (s : Hs) (p : Int × Int × Int) : Bool := !decide (r.gr + r.lt ≤ s.mo - p.2.2) && !(decide (r.be + r.lt ≤ s.mo - p.2.2) && !cutB s p.1)
def canH (r : Ru) (s : Hs) : Ev → Bool
  | .pass => s.us.all (passOk r s)
  | .on w u => canU r s w u
def leaveH (s : Hs) (u : Int) : Hs := { s with us := delU s.us u }
/-- what a deed does, the faults that are met by it alone -/
def doU (r : Ru) (s : Hs) : Wd → Int → Hs × List Str
  | .borrow, u => match lendK s.kp u with
    | some i => (ansH s u i, [])
    | none => (s, if (s.us.length : Int) < r.se then ["waits"] else [])
  | .word, u => match seatK s.kp u with
    | some i => (ansH s u i, [])
    | none => (leaveH s u, [])
  | .back, u => match seatK s.kp u with
    | some i => (leaveH { s with kp := s.kp.set i none } u, [])
    | none => (leaveH s u, [])
  | .crash, u => (leaveH s u, [])
  | .stop, u => (leaveH s u, [])
  | .cut, u => ({ s with ct := s.ct ++ [u] }, [])
  | .join, u => ({ s with ct := s.ct.filter fun v => decide (v ≠ u) }, [])
def passK (la mo : Int) (h : Option (Int × Int)) : Option (Int × Int) := if outK la mo h then none else h
def doPass (r : Ru) (s : Hs) : Hs × List Str :=
  ({ s with mo := s.mo + 1, kp := s.kp.map (passK r.la (s.mo + 1)) }, if s.kp.any (takenK s r.la (s.mo + 1)) then ["taken"] else [])
def doH (r : Ru) (s : Hs) : Ev → Hs × List Str
  | .pass => doPass r s
  | .on w u => doU r s w u
def seatsH (s : Hs) : List Int := s.us.map fun p => p.2.1
def lastF (r : Ru) (s : Hs) : List Str := (if r.se < (s.us.length : Int) then (["over"] : List Str) else []) ++ (if decide (seatsH s).Nodup then [] else (["twice"] : List Str))
abbrev FLT : List Str := ["over", "taken", "twice", "waits"]
/-- the faults in their order -/
def srtF (l : List Str) : List Str := FLT.filter fun z => decide (z ∈ l)
/-- all faults that an event meets -/
def metF (r : Ru) (s : Hs) (e : Ev) : List Str := srtF ((doH r s e).2 ++ lastF r (doH r s e).1)
def firstH (r : Ru) : Hs := ⟨0, [], List.replicate r.se.toNat none, []⟩
/-- some events, one behind the other -/
def goH (r : Ru) : Hs → List Ev → Hs
  | s, [] => s
  | s, e :: es => goH r (doH r s e).1 es
/-- all events are possible -/
def allH (r : Ru) : Hs → List Ev → Bool
  | _, [] => true
  | s, e :: es => canH r s e && allH r (doH r s e).1 es
theorem goH_snoc (r : Ru) : ∀ (es : List Ev) (s : Hs) (e : Ev), goH r s (es ++ [e]) = (doH r (goH r s es) e).1
  | [], _, _ => rfl
  | _ :: es, s, e => goH_snoc r es _ e
theorem allH_snoc (r : Ru) : ∀ (es : List Ev) (s : Hs) (e : Ev), allH r s (es ++ [e]) = (allH r s es && canH r (goH r s es) e)
  | [], s, e => by show (canH r s e && true) = (true && canH r s e); rw [Bool.and_true, Bool.true_and]
  | f :: es, s, e => by
    show (canH r s f && allH r (doH r s f).1 (es ++ [e])) = ((canH r s f && allH r (doH r s f).1 es) && canH r (goH r (doH r s f).1 es) e)
    rw [allH_snoc r es, Bool.and_assoc]
/-- a dict of users -/
inductive UsR (l : List (Addr × HO)) : List (Key × V) → List (Int × Int × Int) → Prop
  | nil : UsR l [] []
  | cons {u i t : Int} {a : Addr} {kvs : List (Key × V)} {us : List (Int × Int × Int)} (m : (a, HO.tup [.int i, .int t]) ∈ l) (g : UsR l kvs us) : UsR l ((.inl u, .ref a) :: kvs) ((u, i, t) :: us)
section
variable {l l' : List (Addr × HO)} {kvs : List (Key × V)} {us : List (Int × Int × Int)}
theorem UsR.up (k : ∀ p ∈ l, p ∈ l') (h : UsR l kvs us) : UsR l' kvs us := by
  induction h with
  | nil => exact .nil
  | cons m g ih => exact .cons (k _ m) ih
theorem UsR.len (h : UsR l kvs us) : kvs.length = us.length := by
  induction h with
  | nil => rfl
  | cons m g ih => rw [List.length_cons, List.length_cons, ih]
theorem lookup_pos {u v : Int} {x : Int × Int} (e : v = u) : List.lookup u ((v, x) :: us) = some x := by subst e; exact List.lookup_cons_self
theorem lookup_neg {u v : Int} {x : Int × Int} (e : v ≠ u) : List.lookup u ((v, x) :: us) = List.lookup u us := by
  rw [List.lookup_cons, beq_false_of_ne (Ne.symm e)]
theorem UsR.noneU {u : Int} (h : UsR l kvs us) (e : us.lookup u = none) : valV kvs (.inl u) = none := by
  induction h with
  | nil => rfl
  | @cons v i t a kvs us m g ih =>
    by_cases z : v = u
    · rw [lookup_pos z] at e; cases e
    · rw [lookup_neg z] at e
      rw [valV_neg (p := ((Sum.inl v : Key), V.ref a)) (fun q => z (Sum.inl.inj q))]
      exact ih e
theorem UsR.someU {u : Int} {x : Int × Int} (h : UsR l kvs us) (e : us.lookup u = some x) : ∃ a, valV kvs (.inl u) = some (.ref a) ∧ (a, HO.tup [.int x.1, .int x.2]) ∈ l := by
  induction h with
  | nil => cases e
  | @cons v i t a kvs us m g ih =>
    by_cases z : v = u
    · rw [lookup_pos z] at e
      cases e
      exact ⟨a, valV_pos (p := ((Sum.inl v : Key), V.ref a)) (congrArg Sum.inl z), m⟩
    · rw [lookup_neg z] at e
      obtain ⟨b, h1, h2⟩ := ih e
      exact ⟨b, by rw [valV_neg (p := ((Sum.inl v : Key), V.ref a)) (fun q => z (Sum.inl.inj q))]; exact h1, h2⟩
theorem UsR.isSomeU {u : Int} (h : UsR l kvs us) : (valV kvs (.inl u)).isSome = (us.lookup u).isSome := by
  cases e : us.lookup u with
  | none => rw [h.noneU e]; rfl
  | some x => obtain ⟨a, h1, _⟩ := h.someU e; rw [h1]; rfl
theorem UsR.snoc {u i t : Int} {a : Addr} (m : (a, HO.tup [.int i, .int t]) ∈ l) (h : UsR l kvs us) : UsR l (kvs ++ [(.inl u, .ref a)]) (us ++ [(u, i, t)]) := by
  induction h with
  | nil => exact .cons m .nil
  | cons m2 g ih => exact .cons m2 ih
theorem UsR.mapU {u i t : Int} {a : Addr} (m : (a, HO.tup [.int i, .int t]) ∈ l) (h : UsR l kvs us) : UsR l (kvs.map fun kv => if kv.1 = .inl u then (kv.1, .ref a) else kv) (us.map fun p => if p.1 = u then (p.1, i, t) else p) := by
  induction h with
  | nil => exact .nil
  | @cons v j w b kvs us m2 g ih =>
    rw [List.map_cons, List.map_cons]
    by_cases z : v = u
    · rw [if_pos (congrArg Sum.inl z), if_pos z]
      exact .cons m ih
    · rw [if_neg fun q => z (Sum.inl.inj q), if_neg z]
      exact .cons m2 ih
theorem UsR.put {u i t : Int} {a : Addr} (m : (a, HO.tup [.int i, .int t]) ∈ l) (h : UsR l kvs us) : UsR l (putK kvs (.inl u) (.ref a)) (putU us u (i, t)) := by
  unfold putK putU
  rw [valV_any, h.isSomeU]
  by_cases e : (us.lookup u).isSome = true
  · rw [if_pos e, if_pos e]
    have := h.mapU (u := u) m
    refine cast ?_ this
    congr 1
  · rw [if_neg e, if_neg e]
    exact h.snoc m
theorem UsR.drop {u : Int} (h : UsR l kvs us) : UsR l (dropK kvs (.inl u)) (delU us u) := by
  unfold dropK delU
  induction h with
  | nil => exact .nil
  | @cons v j w b kvs us m2 g ih =>
    by_cases z : v = u
    · rw [List.filter_cons_of_neg (by simp [z]), List.filter_cons_of_neg (by simp [z])]
      exact ih
    · rw [List.filter_cons_of_pos (by simp [z]), List.filter_cons_of_pos (by simp [z])]
      exact .cons m2 ih
theorem UsR.at {i : Nat} {k : Key} {v : V} (h : UsR l kvs us) (e : kvs[i]? = some (k, v)) : ∃ u j t a, k = .inl u ∧ v = .ref a ∧ us[i]? = some (u, j, t) ∧ (a, HO.tup [.int j, .int t]) ∈ l := by
  induction h generalizing i with
  | nil => cases e
  | @cons u j t a kvs us m g ih =>
    cases i with
    | zero => cases e; exact ⟨u, j, t, a, rfl, rfl, rfl, m⟩
    | succ i => exact ih e
end
/-- each user once -/
def NdU (us : List (Int × Int × Int)) : Prop := (us.map (·.1)).Nodup
theorem lookup_mem {us : List (Int × Int × Int)} {u : Int} {x : Int × Int} (e : us.lookup u = some x) : (u, x) ∈ us := by
  induction us with
  | nil => cases e
  | cons p us ih =>
    by_cases z : p.1 = u
    · rw [show p = (p.1, p.2) from rfl, lookup_pos z] at e
      cases e
      rw [← z]
      exact List.mem_cons_self
    · rw [show p = (p.1, p.2) from rfl, lookup_neg z] at e
      exact List.mem_cons_of_mem _ (ih e)
theorem lookup_none {us : List (Int × Int × Int)} {u : Int} (e : us.lookup u = none) : u ∉ us.map (·.1) := by
  induction us with
  | nil => exact List.not_mem_nil
  | cons p us ih =>
    by_cases z : p.1 = u
    · rw [show p = (p.1, p.2) from rfl, lookup_pos z] at e
      cases e
    · rw [show p = (p.1, p.2) from rfl, lookup_neg z] at e
      intro m
      rcases List.mem_cons.mp m with q | q
      · exact z q.symm
      · exact ih e q
theorem NdU.put {us : List (Int × Int × Int)} (u : Int) (v : Int × Int) (h : NdU us) : NdU (putU us u v) := by
  unfold putU
  by_cases e : (us.lookup u).isSome = true
  · rw [if_pos e]
    unfold NdU
    rw [List.map_map]
    have : (Prod.fst ∘ fun p : Int × Int × Int => if p.1 = u then (p.1, v) else p) = Prod.fst := by
      funext p
      show (if p.1 = u then (p.1, v) else p).1 = p.1
      split <;> rfl
    rw [this]
    exact h
  · rw [if_neg e]
    have e : us.lookup u = none := by
      cases q : us.lookup u with
      | none => rfl
      | some x => rw [q] at e; exact absurd rfl e
    unfold NdU
    rw [List.map_append]
    refine List.nodup_append.mpr ⟨h, by simp, fun a ha b hb => ?_⟩
    have hb : b = u := by simpa using hb
    rintro rfl
    exact lookup_none e (hb ▸ ha)
theorem NdU.nil : NdU [] := List.nodup_nil
/-- what is kept for a seat -/
inductive KpV (l : List (Addr × HO)) : V → Option (Int × Int) → Prop
  | non : KpV l .non none
  | tup {a : Addr} {u t : Int} (m : (a, HO.tup [.int u, .int t]) ∈ l) : KpV l (.ref a) (some (u, t))
inductive KpR (l : List (Addr × HO)) : List V → List (Option (Int × Int)) → Prop
  | nil : KpR l [] []
  | cons {v : V} {h : Option (Int × Int)} {vs : List V} {hs : List (Option (Int × Int))} (a : KpV l v h) (g : KpR l vs hs) : KpR l (v :: vs) (h :: hs)
/-- what was met -/
inductive MtR (l : List (Addr × HO)) : List V → List (Int × Str) → Prop
  | nil : MtR l [] []
  | cons {a : Addr} {i : Int} {z : Str} {vs : List V} {ms : List (Int × Str)} (m : (a, HO.tup [.int i, .str z]) ∈ l) (g : MtR l vs ms) : MtR l (.ref a :: vs) ((i, z) :: ms)
section
variable {l l' : List (Addr × HO)} {vs ws : List V} {hs : List (Option (Int × Int))} {ms ns : List (Int × Str)}
theorem KpV.up {v : V} {h : Option (Int × Int)} (k : ∀ p ∈ l, p ∈ l') (a : KpV l v h) : KpV l' v h := by
  cases a with
  | non => exact .non
  | tup m => exact .tup (k _ m)
theorem KpR.up (k : ∀ p ∈ l, p ∈ l') (h : KpR l vs hs) : KpR l' vs hs := by
  induction h with
  | nil => exact .nil
  | cons a g ih => exact .cons (a.up k) ih
theorem KpR.len (h : KpR l vs hs) : vs.length = hs.length := by
  induction h with
  | nil => rfl
  | cons a g ih => rw [List.length_cons, List.length_cons, ih]
theorem KpR.at {i : Nat} {v : V} (h : KpR l vs hs) (e : vs[i]? = some v) : ∃ x, hs[i]? = some x ∧ KpV l v x := by
  induction h generalizing i with
  | nil => cases e
  | cons a g ih =>
    cases i with
    | zero => cases e; exact ⟨_, rfl, a⟩
    | succ i => exact ih e
theorem KpR.set {i : Nat} {v : V} {x : Option (Int × Int)} (a : KpV l v x) (h : KpR l vs hs) : KpR l (vs.set i v) (hs.set i x) := by
  induction h generalizing i with
  | nil => exact .nil
  | cons b g ih =>
    cases i with
    | zero => exact .cons a g
    | succ i => exact .cons b ih
theorem MtR.up (k : ∀ p ∈ l, p ∈ l') (h : MtR l vs ms) : MtR l' vs ms := by
  induction h with
  | nil => exact .nil
  | cons m g ih => exact .cons (k _ m) ih
theorem MtR.len (h : MtR l vs ms) : vs.length = ms.length := by
  induction h with
  | nil => rfl
  | cons a g ih => rw [List.length_cons, List.length_cons, ih]
theorem MtR.app (h : MtR l vs ms) (g : MtR l ws ns) : MtR l (vs ++ ws) (ms ++ ns) := by
  induction h with
  | nil => exact g
  | cons m _ ih => exact .cons m ih
end
/-- the fields of a house -/
def hf (rr pu pk pc pm : Addr) (mo pe ev : Int) : List (Str × V) := [("rule", .ref rr), ("moment", .int mo), ("using", .ref pu), ("kept", .ref pk), ("cut", .ref pc), ("met", .ref pm), ("peak", .int pe), ("many_events", .int ev)]
/-- not more than so many -/
structure Few (s : Hs) (n m : Nat) : Prop where
  us : s.us.length ≤ n
  ct : s.ct.length ≤ n
  kp : s.kp.length = m
theorem Few.up {s : Hs} {n k m : Nat} (h : Few s n m) (e : n ≤ k) : Few s k m := ⟨Nat.le_trans h.us e, Nat.le_trans h.ct e, h.kp⟩
abbrev stayI (K : PySem.W.Frag) (t : Addr) (xs : List V) : Hp → Prop := fun H => H t = some (.tup xs) ∨ ∀ H', SqT K H' t xs
theorem stable_stay {K : PySem.W.Frag} {t : Addr} {xs : List V} : Stable (stayI K t xs) := fun H H' k h => h.elim (fun e => .inl (k _ _ e rfl)) .inr
theorem stay_sq {K : PySem.W.Frag} {t : Addr} {xs : List V} {H : Hp} {L : List Ck} {I : List (Hp → Prop)} (w : Own H L I) (m : stayI K t xs ∈ I) : SqT K H t xs := (w.imp m).elim (fun e => SqT.of e) fun e => e H
abbrev insI (r : Addr) (C dx : Addr) (fs : List (Str × V)) : Hp → Prop := fun H => H r = some (.ins C dx fs)
theorem fld_ins {K : PySem.W.Frag} {H : Hp} {L : List Ck} {I : List (Hp → Prop)} {r C dx : Addr} {fs : List (Str × V)} {f : Str} {v : V} {k : V → Prop} (h : Own H L I) (e : insI r C dx fs ∈ I) (c : Cls K C) (n : NoAttr K C f) (l : fs.lookup f = some v) (q : k v) : Fld K H r f k := ⟨C, dx, fs, v, h.imp e, c, n, l, q⟩
/-- users that events speak of -/
def evU : Ev → Prop
  | .pass => True
  | .on _ u => 0 ≤ u ∧ u < 1000
theorem repl_flat (n : Nat) (x : V) : (List.replicate n [x]).flatten = List.replicate n x := by
  induction n with
  | zero => rfl
  | succ n ih => rw [List.replicate_succ, List.flatten_cons, ih]; rfl
structure KeysL (H : Hp) (d : Addr) (Q : VK) : Prop where
  ex : ∃ kvs : List (Key × V), H d = some (.dK kvs) ∧ New H (.lst (kvs.map fun kv => kV kv.1)) fun p H' => Q (.ref p) H'
theorem keysl_o {H : Hp} {L R : List Ck} {I : List (Hp → Prop)} {d : Addr} {kvs : List (Key × V)} {Q : VK} (h : Own H L I) (e : Pull L (.pt d (.dK kvs)) R) (q : ∀ p H', Own H' (.pt p (.lst (kvs.map fun kv => kV kv.1)) :: L) I → Q (.ref p) H') : KeysL H d Q := ⟨kvs, h.get e, new_o h q⟩
end OW
set_option Elab.async false
set_option linter.all false
set_option maxRecDepth 100000
set_option maxHeartbeats 2000000
namespace OW
open PySem PySem.Spec PyProof.Rows L2 RZ SkE CL
end OW
set_option Elab.async false
set_option linter.all false
set_option maxRecDepth 100000
set_option maxHeartbeats 2000000
namespace OW
open PySem PySem.Spec PyProof.Rows L2 RZ SkE CL
theorem wipe_cons (σ : L2.St) (i : Nat) (vs : List Nat) : L2.wipe σ (i :: vs) = (L2.wipe σ vs).set i none := rfl
theorem wipe_out {σ : L2.St} {v : Option V} {i : Nat} : ∀ {vs : List Nat}, i ∉ vs → L2.wipe (σ.set i v) vs = (L2.wipe σ vs).set i v
  | [], _ => rfl
  | j :: vs, h => by
    have ne : i ≠ j := fun e => h (by rw [e]; exact List.mem_cons_self)
    rw [wipe_cons, wipe_cons, wipe_out (fun m => h (List.mem_cons_of_mem _ m))]
    exact List.set_comm _ _ ne
theorem wipe_setN {σ : L2.St} {v : Option V} {i : Nat} : ∀ {vs : List Nat}, i ∈ vs → L2.wipe (σ.set i v) vs = L2.wipe σ vs
  | [], h => (List.not_mem_nil h).elim
  | j :: vs, h => by
    rw [wipe_cons, wipe_cons]
    by_cases e : i ∈ vs
    · rw [wipe_setN e]
    · have : i = j := (List.mem_cons.mp h).resolve_right e
      subst this
      rw [wipe_out e, List.set_set]
theorem wipe_twice {σ : L2.St} : ∀ {vs : List Nat}, L2.wipe (L2.wipe σ vs) vs = L2.wipe σ vs
  | [] => rfl
  | j :: vs => by
    rw [wipe_cons, wipe_cons]
    by_cases e : j ∈ vs
    · rw [wipe_setN e, wipe_twice]
    · rw [wipe_out e, wipe_twice, List.set_set]
end OW
set_option Elab.async false
set_option linter.all false
set_option maxRecDepth 100000
set_option maxHeartbeats 2000000
namespace OW
open PySem PySem.Spec PyProof.Rows L2 RZ SkE CL
end OW
set_option Elab.async false
set_option linter.all false
set_option maxRecDepth 100000
set_option maxHeartbeats 2000000
namespace OW
open PySem PySem.Spec PyProof.Rows L2 RZ SkE CL
structure DictCp (H : Hp) (a : Addr) (Q : VK) : Prop where
  ex : ∃ kvs, H a = some (.dK kvs) ∧ New H (.dK kvs) fun p => Q (.ref p)
theorem dictcp_o {H : Hp} {L R : List Ck} {I : List (Hp → Prop)} {a : Addr} {kvs : List (Key × V)} {Q : VK} (h : Own H L I) (e : Pull L (.pt a (.dK kvs)) R) (q : ∀ p H', Own H' (.pt p (.dK kvs) :: L) I → Q (.ref p) H') : DictCp H a Q := ⟨⟨kvs, h.get e, new_o h q⟩⟩
end OW
set_option Elab.async false
set_option linter.all false
set_option maxRecDepth 100000
set_option maxHeartbeats 2000000
namespace OW
open PySem PySem.Spec PyProof.Rows L2 RZ SkE CL
/-- a dict of users -/
inductive StR (l : Addr → Int → Int → Prop) : List (Key × V) → List (Int × Int × Int) → Prop
  | nil : StR l [] []
  | cons {u i t : Int} {a : Addr} {kvs : List (Key × V)} {us : List (Int × Int × Int)} (m : l a i t) (g : StR l kvs us) : StR l ((.inl u, .ref a) :: kvs) ((u, i, t) :: us)
section
variable {l l' : Addr → Int → Int → Prop} {kvs : List (Key × V)} {us : List (Int × Int × Int)}
theorem StR.up (k : ∀ a i t, l a i t → l' a i t) (h : StR l kvs us) : StR l' kvs us := by
  induction h with
  | nil => exact .nil
  | cons m g ih => exact .cons (k _ _ _ m) ih
theorem StR.len (h : StR l kvs us) : kvs.length = us.length := by
  induction h with
  | nil => rfl
  | cons m g ih => rw [List.length_cons, List.length_cons, ih]
theorem StR.noneU {u : Int} (h : StR l kvs us) (e : us.lookup u = none) : valV kvs (.inl u) = none := by
  induction h with
  | nil => rfl
  | @cons v i t a kvs us m g ih =>
    by_cases z : v = u
    · rw [lookup_pos z] at e; cases e
    · rw [lookup_neg z] at e
      rw [valV_neg (p := ((Sum.inl v : Key), V.ref a)) (fun q => z (Sum.inl.inj q))]
      exact ih e
theorem StR.someU {u : Int} {x : Int × Int} (h : StR l kvs us) (e : us.lookup u = some x) : ∃ a, valV kvs (.inl u) = some (.ref a) ∧ l a x.1 x.2 := by
  induction h with
  | nil => cases e
  | @cons v i t a kvs us m g ih =>
    by_cases z : v = u
    · rw [lookup_pos z] at e
      cases e
      exact ⟨a, valV_pos (p := ((Sum.inl v : Key), V.ref a)) (congrArg Sum.inl z), m⟩
    · rw [lookup_neg z] at e
      obtain ⟨b, h1, h2⟩ := ih e
      exact ⟨b, by rw [valV_neg (p := ((Sum.inl v : Key), V.ref a)) (fun q => z (Sum.inl.inj q))]; exact h1, h2⟩
theorem StR.isSomeU {u : Int} (h : StR l kvs us) : (valV kvs (.inl u)).isSome = (us.lookup u).isSome := by
  cases e : us.lookup u with
  | none => rw [h.noneU e]; rfl
  | some x => obtain ⟨a, h1, _⟩ := h.someU e; rw [h1]; rfl
theorem StR.snoc {u i t : Int} {a : Addr} (m : l a i t) (h : StR l kvs us) : StR l (kvs ++ [(.inl u, .ref a)]) (us ++ [(u, i, t)]) := by
  induction h with
  | nil => exact .cons m .nil
  | cons m2 g ih => exact .cons m2 ih
theorem StR.mapU {u i t : Int} {a : Addr} (m : l a i t) (h : StR l kvs us) : StR l (kvs.map fun kv => if kv.1 = .inl u then (kv.1, .ref a) else kv) (us.map fun p => if p.1 = u then (p.1, i, t) else p) := by
  induction h with
  | nil => exact .nil
  | @cons v j w b kvs us m2 g ih =>
    rw [List.map_cons, List.map_cons]
    by_cases z : v = u
    · rw [if_pos (congrArg Sum.inl z), if_pos z]
      exact .cons m ih
    · rw [if_neg fun q => z (Sum.inl.inj q), if_neg z]
      exact .cons m2 ih
theorem StR.put {u i t : Int} {a : Addr} (m : l a i t) (h : StR l kvs us) : StR l (putK kvs (.inl u) (.ref a)) (putU us u (i, t)) := by
  unfold putK putU
  rw [valV_any, h.isSomeU]
  by_cases e : (us.lookup u).isSome = true
  · rw [if_pos e, if_pos e]
    have := h.mapU (u := u) m
    refine cast ?_ this
    congr 1
  · rw [if_neg e, if_neg e]
    exact h.snoc m
theorem StR.drop {u : Int} (h : StR l kvs us) : StR l (dropK kvs (.inl u)) (delU us u) := by
  unfold dropK delU
  induction h with
  | nil => exact .nil
  | @cons v j w b kvs us m2 g ih =>
    by_cases z : v = u
    · rw [List.filter_cons_of_neg (by simp [z]), List.filter_cons_of_neg (by simp [z])]
      exact ih
    · rw [List.filter_cons_of_pos (by simp [z]), List.filter_cons_of_pos (by simp [z])]
      exact .cons m2 ih
theorem StR.at {i : Nat} {k : Key} {v : V} (h : StR l kvs us) (e : kvs[i]? = some (k, v)) : ∃ u j t a, k = .inl u ∧ v = .ref a ∧ us[i]? = some (u, j, t) ∧ l a j t := by
  induction h generalizing i with
  | nil => cases e
  | @cons u j t a kvs us m g ih =>
    cases i with
    | zero => cases e; exact ⟨u, j, t, a, rfl, rfl, rfl, m⟩
    | succ i => exact ih e
end
end OW
set_option Elab.async false
set_option linter.all false
set_option maxRecDepth 100000
set_option maxHeartbeats 2000000
namespace OW
open PySem PySem.Spec PyProof.Rows L2 RZ SkE CL
def putA {β : Type} (l : List (Int × β)) (u : Int) (b : β) : List (Int × β) := if (l.lookup u).isSome then l.map fun p => if p.1 = u then (p.1, b) else p else l ++ [(u, b)]
def dropA {β : Type} (l : List (Int × β)) (u : Int) : List (Int × β) := l.filter fun p => decide (p.1 ≠ u)
/-- the keys stand once -/
def NdA {β : Type} (l : List (Int × β)) : Prop := (l.map (·.1)).Nodup
theorem lkA_pos {β : Type} {v u : Int} {x : β} {l : List (Int × β)} (z : v = u) : ((v, x) :: l).lookup u = some x := by
  subst z
  rw [List.lookup_cons, show (v == v) = true from beq_self_eq_true v]
theorem lkA_neg {β : Type} {v u : Int} {x : β} {l : List (Int × β)} (z : ¬ v = u) : ((v, x) :: l).lookup u = l.lookup u := by
  rw [List.lookup_cons, show (u == v) = false from beq_false_of_ne (fun e => z e.symm)]
theorem lkA_mem {β : Type} {u : Int} {b : β} : ∀ {l : List (Int × β)}, l.lookup u = some b → (u, b) ∈ l
  | [], h => by cases h
  | (v, x) :: l, h => by
    by_cases z : v = u
    · rw [lkA_pos z] at h
      cases h
      rw [z]
      exact List.mem_cons_self
    · rw [lkA_neg z] at h
      exact List.mem_cons_of_mem _ (lkA_mem h)
theorem lkA_none {β : Type} {u : Int} : ∀ {l : List (Int × β)}, l.lookup u = none → u ∉ l.map (·.1)
  | [], _ => fun m => (List.not_mem_nil m).elim
  | (v, x) :: l, h => by
    by_cases z : v = u
    · rw [lkA_pos z] at h; cases h
    · rw [lkA_neg z] at h
      intro m
      rcases List.mem_cons.mp m with e | m
      · exact z e.symm
      · exact lkA_none h m
theorem lkA_out {β : Type} {u : Int} {l : List (Int × β)} (h : u ∉ l.map (·.1)) : l.lookup u = none := by
  cases e : l.lookup u with
  | none => rfl
  | some b => exact (h (List.mem_map.mpr ⟨_, lkA_mem e, rfl⟩)).elim
theorem lkA_nd {β : Type} {u : Int} {b : β} {l : List (Int × β)} (n : NdA l) (m : (u, b) ∈ l) : l.lookup u = some b := by
  induction l with
  | nil => exact (List.not_mem_nil m).elim
  | cons p l ih =>
    obtain ⟨v, x⟩ := p
    have nd := List.nodup_cons.mp (show (v :: l.map (·.1)).Nodup from n)
    rcases List.mem_cons.mp m with e | m
    · cases e; exact lkA_pos rfl
    · rw [lkA_neg (fun z => nd.1 (List.mem_map.mpr ⟨_, m, z.symm⟩))]
      exact ih nd.2 m
theorem keysA_map {β : Type} (l : List (Int × β)) (u : Int) (b : β) : (l.map fun p => if p.1 = u then (p.1, b) else p).map (·.1) = l.map (·.1) := by
  rw [List.map_map]
  refine List.map_congr_left fun p _ => ?_
  show (if p.1 = u then (p.1, b) else p).1 = p.1
  split <;> rfl
theorem NdA.put {β : Type} {l : List (Int × β)} {u : Int} {b : β} (n : NdA l) : NdA (putA l u b) := by
  unfold putA NdA
  cases e : l.lookup u with
  | some x =>
    rw [show (some x).isSome = true from rfl, if_pos rfl, keysA_map]
    exact n
  | none =>
    rw [show (none : Option β).isSome = false from rfl, if_neg (by decide), List.map_append]
    refine List.nodup_append.mpr ⟨n, List.nodup_cons.mpr ⟨fun m => (List.not_mem_nil m).elim, List.nodup_nil⟩, fun x hx y hy => ?_⟩
    rcases List.mem_cons.mp hy with rfl | hy
    · exact fun z => lkA_none e (z ▸ hx)
    · exact (List.not_mem_nil hy).elim
theorem NdA.filter {β : Type} {l : List (Int × β)} (q : Int × β → Bool) (n : NdA l) : NdA (l.filter q) := List.Pairwise.sublist (List.Sublist.map _ List.filter_sublist) n
theorem NdA.drop {β : Type} {l : List (Int × β)} {u : Int} (n : NdA l) : NdA (dropA l u) := n.filter _
theorem lkA_put {β : Type} (l : List (Int × β)) (u v : Int) (b : β) : (putA l u b).lookup v = if u = v then some b else l.lookup v := by
  have app : ∀ m : List (Int × β), m.lookup u = none → (m ++ [(u, b)]).lookup v = if u = v then some b else m.lookup v := by
    intro m
    induction m with
    | nil =>
      intro _
      by_cases z : u = v
      · rw [if_pos z]; exact lkA_pos z
      · rw [if_neg z]; exact lkA_neg z
    | cons p m ih =>
      obtain ⟨w, x⟩ := p
      intro h
      by_cases z : w = u
      · rw [lkA_pos z] at h; cases h
      · rw [lkA_neg z] at h
        by_cases y : w = v
        · rw [if_neg (fun e => z (y.trans e.symm)), List.cons_append, lkA_pos y, lkA_pos y]
        · rw [List.cons_append, lkA_neg y, lkA_neg y]
          exact ih h
  unfold putA
  cases e : l.lookup u with
  | none =>
    rw [show (none : Option β).isSome = false from rfl, if_neg (by decide)]
    exact app l e
  | some y =>
    rw [show (some y).isSome = true from rfl, if_pos rfl]
    have go : ∀ m : List (Int × β), (m.lookup u).isSome = true → (m.map fun p => if p.1 = u then (p.1, b) else p).lookup v = if u = v then some b else m.lookup v := by
      intro m
      induction m with
      | nil => intro h; cases h
      | cons p m ih =>
        obtain ⟨w, x⟩ := p
        intro h
        rw [List.map_cons]
        by_cases z : w = u
        · rw [show (if (w, x).1 = u then ((w, x).1, b) else (w, x)) = (w, b) from if_pos z]
          by_cases y : w = v
          · rw [lkA_pos y, if_pos (z.symm.trans y)]
          · rw [lkA_neg y, lkA_neg y, if_neg (fun e => y (z.trans e))]
            clear ih h
            induction m with
            | nil => rfl
            | cons q m ih =>
              obtain ⟨w2, x2⟩ := q
              rw [List.map_cons]
              by_cases z2 : w2 = u
              · rw [show (if (w2, x2).1 = u then ((w2, x2).1, b) else (w2, x2)) = (w2, b) from if_pos z2, lkA_neg (fun e => y (z.trans (z2.symm.trans e))), lkA_neg (fun e => y (z.trans (z2.symm.trans e)))]
                exact ih
              · rw [show (if (w2, x2).1 = u then ((w2, x2).1, b) else (w2, x2)) = (w2, x2) from if_neg z2]
                by_cases y2 : w2 = v
                · rw [lkA_pos y2, lkA_pos y2]
                · rw [lkA_neg y2, lkA_neg y2]
                  exact ih
        · rw [show (if (w, x).1 = u then ((w, x).1, b) else (w, x)) = (w, x) from if_neg z]
          rw [lkA_neg z] at h
          by_cases y : w = v
          · rw [lkA_pos y, lkA_pos y, if_neg (fun e => z (y.trans e.symm))]
          · rw [lkA_neg y, lkA_neg y]
            exact ih h
    exact go l (by rw [e]; rfl)
/-- a dict in the heap that holds these -/
inductive KvR {β : Type} (r : V → β → Prop) : List (Key × V) → List (Int × β) → Prop
  | nil : KvR r [] []
  | cons {u : Int} {b : β} {v : V} {kvs : List (Key × V)} {l : List (Int × β)} (m : r v b) (g : KvR r kvs l) : KvR r ((.inl u, v) :: kvs) ((u, b) :: l)
section
variable {β : Type} {r r' : V → β → Prop} {kvs : List (Key × V)} {l : List (Int × β)}
theorem KvR.up (k : ∀ a t, r a t → r' a t) (h : KvR r kvs l) : KvR r' kvs l := by
  induction h with
  | nil => exact .nil
  | cons m g ih => exact .cons (k _ _ m) ih
theorem KvR.len (h : KvR r kvs l) : kvs.length = l.length := by
  induction h with
  | nil => rfl
  | cons m g ih => rw [List.length_cons, List.length_cons, ih]
theorem KvR.noneU {u : Int} (h : KvR r kvs l) (e : l.lookup u = none) : valV kvs (.inl u) = none := by
  induction h with
  | nil => rfl
  | @cons v b x kvs l m g ih =>
    by_cases z : v = u
    · rw [lkA_pos z] at e; cases e
    · rw [lkA_neg z] at e
      rw [valV_neg (p := ((Sum.inl v : Key), x)) (fun q => z (Sum.inl.inj q))]
      exact ih e
theorem KvR.someU {u : Int} {b : β} (h : KvR r kvs l) (e : l.lookup u = some b) : ∃ v, valV kvs (.inl u) = some v ∧ r v b := by
  induction h with
  | nil => cases e
  | @cons v b x kvs l m g ih =>
    by_cases z : v = u
    · rw [lkA_pos z] at e
      cases e
      exact ⟨x, valV_pos (p := ((Sum.inl v : Key), x)) (congrArg Sum.inl z), m⟩
    · rw [lkA_neg z] at e
      obtain ⟨b, h1, h2⟩ := ih e
      exact ⟨b, by rw [valV_neg (p := ((Sum.inl v : Key), x)) (fun q => z (Sum.inl.inj q))]; exact h1, h2⟩
theorem KvR.isSomeU {u : Int} (h : KvR r kvs l) : (valV kvs (.inl u)).isSome = (l.lookup u).isSome := by
  cases e : l.lookup u with
  | none => rw [h.noneU e]; rfl
  | some x => obtain ⟨a, h1, _⟩ := h.someU e; rw [h1]; rfl
theorem KvR.snoc {u : Int} {b : β} {v : V} (m : r v b) (h : KvR r kvs l) : KvR r (kvs ++ [(.inl u, v)]) (l ++ [(u, b)]) := by
  induction h with
  | nil => exact .cons m .nil
  | cons m2 g ih => exact .cons m2 ih
theorem KvR.mapU {u : Int} {b : β} {v : V} (m : r v b) (h : KvR r kvs l) : KvR r (kvs.map fun kv => if kv.1 = .inl u then (kv.1, v) else kv) (l.map fun p => if p.1 = u then (p.1, b) else p) := by
  induction h with
  | nil => exact .nil
  | @cons w c x kvs l m2 g ih =>
    rw [List.map_cons, List.map_cons]
    by_cases z : w = u
    · rw [if_pos (congrArg Sum.inl z), if_pos z]
      exact .cons m ih
    · rw [if_neg fun q => z (Sum.inl.inj q), if_neg z]
      exact .cons m2 ih
theorem KvR.put {u : Int} {b : β} {v : V} (m : r v b) (h : KvR r kvs l) : KvR r (putK kvs (.inl u) v) (putA l u b) := by
  unfold putK putA
  rw [valV_any, h.isSomeU]
  by_cases e : (l.lookup u).isSome = true
  · rw [if_pos e, if_pos e]
    have := h.mapU (u := u) m
    refine cast ?_ this
    congr 1
  · rw [if_neg e, if_neg e]
    exact h.snoc m
theorem KvR.drop {u : Int} (h : KvR r kvs l) : KvR r (dropK kvs (.inl u)) (dropA l u) := by
  unfold dropK dropA
  induction h with
  | nil => exact .nil
  | @cons v b x kvs l m2 g ih =>
    by_cases z : v = u
    · rw [List.filter_cons_of_neg (by simp [z]), List.filter_cons_of_neg (by simp [z])]
      exact ih
    · rw [List.filter_cons_of_pos (by simp [z]), List.filter_cons_of_pos (by simp [z])]
      exact .cons m2 ih
theorem KvR.at {i : Nat} {k : Key} {v : V} (h : KvR r kvs l) (e : kvs[i]? = some (k, v)) : ∃ u b, k = .inl u ∧ l[i]? = some (u, b) ∧ r v b := by
  induction h generalizing i with
  | nil => cases e
  | @cons u b x kvs l m g ih =>
    cases i with
    | zero => cases e; exact ⟨u, b, rfl, rfl, m⟩
    | succ i => exact ih e
end
end OW
set_option Elab.async false
set_option linter.all false
set_option maxRecDepth 100000
set_option maxHeartbeats 2000000
namespace OW
open PySem PySem.Spec PyProof.Rows L2 RZ SkE CL
def SeqA (K : PySem.W.Frag) (k : Bool) (L : List Ck) (I : List (Hp → Prop)) (w : Addr) (xs : List V) : Prop := match k with
  | true => ∃ R, Pull L (.pt w (.lst xs)) R
  | false => stayI K w xs ∈ I
section
variable {K : PySem.W.Frag} {g : TG} {tb : TS} {D : Ends} {σ : L2.St} {H : Hp} {L M R : List Ck} {I J : List (Hp → Prop)} {a b p w : Addr} {xs ys : List V} {tt : TT} {te tk tv : TE} {vs : List Nat} {k : Bool} {c : Ck}
theorem SeqA.tail (h : SeqA K k L I w xs) : SeqA K k (c :: L) I w xs := match k, h with
  | true, ⟨R, h⟩ => ⟨_, .tail h⟩
  | false, h => h
theorem SeqA.sub (h : SeqA K k L I w xs) (s : ∀ S ∈ I, S ∈ J) : SeqA K k L J w xs := match k, h with
  | true, h => h
  | false, h => s _ h
theorem SeqA.l (h : Own H L I) (e : SeqA K true L I w xs) : SqL K H w xs := let ⟨_, e⟩ := e; SqL.of (h.get e)
theorem SeqA.t (h : Own H L I) (e : SeqA K false L I w xs) : SqT K H w xs := stay_sq h e
theorem SeqA.any (h : Own H L I) (e : SeqA K k L I w xs) {P : Prop} (q1 : SqL K H w xs → P) (q2 : SqT K H w xs → P) : P := match k, e with
  | true, e => q1 (SeqA.l h e)
  | false, e => q2 (SeqA.t h e)
theorem seqa_enum (h : Own H L I) (e : SeqA K k L I w xs) (Pv : Nat → L2.St → Hp → Prop) (h0 : Pv 0 σ H) (hk : ∀ i σ H', Pv i σ H' → ∃ M J, Own H' M J ∧ SeqA K k M J w xs)
    (hs : ∀ (i : Nat) (x : V) (T : Addr) (σ : L2.St) (H : Hp), xs[i]? = some x → Pv i σ H → H T = none → g (.ref T) σ (upd H T (.tup [.int (i : Nat), x])) fun σ2 H2 => tb { D with nx := Pv (i + 1), ct := Pv (i + 1), bk := D.nx } σ2 H2) (hd : ∀ σ H', Pv xs.length σ H' → D.nx σ H') : ItEA K H w fun J H1 => ForW J g tb D σ H1 := by
  cases k with
  | true => exact itea_sl (SeqA.l h e) (fw_enum Pv h0 (fun i σ H' _ q => let ⟨M, J, o, z⟩ := hk i σ H' q; SeqA.l o z) hs hd)
  | false => exact itea_t (SeqA.t h e) (fw_enumT Pv h0 (fun i σ H' _ q => let ⟨M, J, o, z⟩ := hk i σ H' q; SeqA.t o z) hs hd)
end
/-- data, as a list or a tuple -/
structure DArg (K : PySem.W.Frag) (L : List Ck) (I : List (Hp → Prop)) (a : Addr) (ds : List PyData) : Prop where
  ex : ∃ k xs, SeqA K k L I a xs ∧ idsI xs ds ∈ I
section
variable {K : PySem.W.Frag} {H : Hp} {L R : List Ck} {I J : List (Hp → Prop)} {a : Addr} {xs : List V} {ds : List PyData} {c : Ck}
theorem DArg.lst (e : Pull L (.pt a (.lst xs)) R) (m : idsI xs ds ∈ I) : DArg K L I a ds := ⟨true, xs, ⟨_, e⟩, m⟩
theorem DArg.tup (e : stayI K a xs ∈ I) (m : idsI xs ds ∈ I) : DArg K L I a ds := ⟨false, xs, e, m⟩
theorem DArg.tail (h : DArg K L I a ds) : DArg K (c :: L) I a ds := let ⟨⟨k, xs, s, m⟩⟩ := h; ⟨k, xs, s.tail, m⟩
theorem DArg.sub (h : DArg K L I a ds) (s : ∀ S ∈ I, S ∈ J) : DArg K L J a ds := let ⟨⟨k, xs, z, m⟩⟩ := h; ⟨k, xs, z.sub s, s _ m⟩
end
end OW
set_option Elab.async false
set_option linter.all false
set_option maxRecDepth 100000
set_option maxHeartbeats 2000000
namespace OW
open PySem PySem.Spec PyProof.Rows L2 RZ SkE CL
structure En where
  t : Int
  w : Str
  u : Int
abbrev En.d (e : En) : PyData := .tuple [.int e.t, .str e.w, .int e.u]
def stillL (la mo : Int) (k : List (Int × Int)) : List (Int × Int) := k.filter fun p => decide (mo - p.2 < la)
def grantL (r : Ru) (k : List (Int × Int)) (e : En) : Bool := if e.w = "borrow" then (k.lookup e.u).isSome || decide ((k.length : Int) < r.se) else match k.lookup e.u with
  | none => false
  | some t => decide (e.t - t ≤ r.gr + r.lt)
def nextL (k : List (Int × Int)) (e : En) : List (Int × Int) := if e.w = "back" then dropA k e.u else putA k e.u e.t
def stepL (r : Ru) (k : List (Int × Int)) (e : En) : List (Int × Int) := nextL (stillL r.la e.t k) e
def misL (r : Ru) : List (Int × Int) → List En → Nat → Option Nat
  | _, [], _ => none
  | k, e :: es, i => if grantL r (stillL r.la e.t k) e then misL r (stepL r k e) es (i + 1) else some i
def logL (r : Ru) (k : List (Int × Int)) (es : List En) : List (Int × Int) := es.foldl (stepL r) k
theorem NdA.next {k : List (Int × Int)} {e : En} (n : NdA k) : NdA (nextL k e) := by
  unfold nextL
  split
  · exact n.drop
  · exact n.put
def insO (x : Int) : List Int → List Int
  | [] => [x]
  | y :: l => if x ≤ y then x :: y :: l else y :: insO x l
def srtI : List Int → List Int
  | [] => []
  | x :: l => insO x (srtI l)
theorem insO_perm (x : Int) : ∀ l, (insO x l).Perm (x :: l)
  | [] => List.Perm.refl _
  | y :: l => by
    rw [insO]
    split
    · exact List.Perm.refl _
    · exact (List.Perm.cons _ (insO_perm x l)).trans (List.Perm.swap _ _ _)
theorem srtI_perm : ∀ l, (srtI l).Perm l
  | [] => List.Perm.refl _
  | x :: l => (insO_perm x _).trans (List.Perm.cons _ (srtI_perm l))
theorem insO_asc {x : Int} : ∀ {l : List Int}, l.Pairwise (· ≤ ·) → (insO x l).Pairwise (· ≤ ·)
  | [], _ => List.pairwise_singleton _ _
  | y :: l, h => by
    have h2 := List.pairwise_cons.mp h
    rw [insO]
    split
    · rename_i z
      refine List.pairwise_cons.mpr ⟨fun a m => ?_, h⟩
      rcases List.mem_cons.mp m with rfl | m
      · exact z
      · exact Int.le_trans z (h2.1 a m)
    · rename_i z
      refine List.pairwise_cons.mpr ⟨fun a m => ?_, insO_asc h2.2⟩
      rcases List.mem_cons.mp ((insO_perm x l).mem_iff.mp m) with rfl | m
      · omega
      · exact h2.1 a m
theorem srtI_asc : ∀ l, (srtI l).Pairwise (· ≤ ·)
  | [] => List.Pairwise.nil
  | x :: l => insO_asc (srtI_asc l)
theorem srtI_len (l : List Int) : (srtI l).length = l.length := (srtI_perm l).length_eq
end OW
set_option Elab.async false
set_option linter.all false
set_option maxRecDepth 100000
set_option maxHeartbeats 2000000
namespace OW
open PySem PySem.Spec PyProof.Rows L2 RZ SkE CL
end OW
set_option Elab.async false
set_option linter.all false
set_option maxRecDepth 100000
set_option maxHeartbeats 2000000
namespace OW
open PySem PySem.Spec PyProof.Rows L2 RZ SkE CL
structure DGet2 (H : Hp) (a : Addr) (y z : V) (Q : VK) : Prop where
  ex : ∃ o, DGet H a y o ∧ Q (o.getD z) H
section
variable {H : Hp} {L R : List Ck} {I : List (Hp → Prop)} {a : Addr} {kvs : List (Key × V)} {i : Int} {z : V} {Q : VK}
theorem dget2_i (h : Own H L I) (e : Pull L (.pt a (.dK kvs)) R) (q : Q ((valV kvs (.inl i)).getD z) H) : DGet2 H a (.int i) z Q := ⟨_, DGet.k (k := .inl i) (h.get e), q⟩
end
theorem lkA_drop {β : Type} (l : List (Int × β)) (u v : Int) : (dropA l u).lookup v = if u = v then none else l.lookup v := by
  unfold dropA
  induction l with
  | nil => split <;> rfl
  | cons p l ih =>
    obtain ⟨w, x⟩ := p
    by_cases z : w = u
    · rw [List.filter_cons_of_neg (by simp [z]), ih]
      by_cases y : u = v
      · rw [if_pos y, if_pos y]
      · rw [if_neg y, if_neg y, lkA_neg (fun e => y (z.symm.trans e))]
    · rw [List.filter_cons_of_pos (by simp [z])]
      by_cases y : w = v
      · rw [lkA_pos y, lkA_pos y, if_neg (fun e => z (y.trans e.symm))]
      · rw [lkA_neg y, lkA_neg y, ih]
theorem lkA_filter {β : Type} {q : Int × β → Bool} {l : List (Int × β)} (n : NdA l) (u : Int) : (l.filter q).lookup u = match l.lookup u with
    | some b => if q (u, b) then some b else none
    | none => none := by
  cases e : l.lookup u with
  | none =>
    refine lkA_out fun m => ?_
    obtain ⟨x, hx, hu⟩ := List.mem_map.mp m
    exact lkA_none e (List.mem_map.mpr ⟨x, (List.mem_filter.mp hx).1, hu⟩)
  | some b =>
    show _ = if q (u, b) then some b else none
    cases hq : q (u, b) with
    | true =>
      rw [if_pos rfl]
      exact lkA_nd (n.filter q) (List.mem_filter.mpr ⟨lkA_mem e, hq⟩)
    | false =>
      rw [if_neg (by decide)]
      refine lkA_out fun m => ?_
      obtain ⟨⟨w, x⟩, hx, hu⟩ := List.mem_map.mp m
      obtain rfl : w = u := hu
      have hx := List.mem_filter.mp hx
      have := lkA_nd n hx.1
      rw [e] at this
      cases this
      rw [hq] at hx
      cases hx.2
end OW
set_option Elab.async false
set_option linter.all false
set_option maxRecDepth 100000
set_option maxHeartbeats 2000000
namespace OW
open PySem PySem.Spec PyProof.Rows L2 RZ SkE CL
section
variable {β : Type} {k l : List (Int × β)} {u : Int} {b : β}
theorem NdA.perm (n : NdA k) (p : l.Perm k) : NdA l := (p.map (fun x : Int × β => x.1)).nodup_iff.mpr n
end
/-- a log that fits, so far -/
def FitsL (r : Ru) (es : List En) : Prop := misL r [] es 0 = none
theorem misL_split {r : Ru} : ∀ (as bs : List En) (k : List (Int × Int)) (j : Nat), misL r k (as ++ bs) j = match misL r k as j with
    | some i => some i
    | none => misL r (logL r k as) bs (j + as.length)
  | [], bs, k, j => rfl
  | a :: as, bs, k, j => by
    rw [List.cons_append, misL, misL]
    cases g : grantL r (stillL r.la a.t k) a with
    | false => rw [if_neg (by decide)]; rfl
    | true =>
      rw [if_pos rfl, if_pos rfl, misL_split as bs _ _, List.length_cons, show j + 1 + as.length = j + (as.length + 1) by omega]
      rfl
theorem FitsL.take {r : Ru} {es : List En} (h : FitsL r es) (i : Nat) : FitsL r (es.take i) := by
  unfold FitsL at h ⊢
  have := misL_split (r := r) (es.take i) (es.drop i) [] 0
  rw [List.take_append_drop, h] at this
  cases e : misL r [] (es.take i) 0 with
  | none => rfl
  | some j => rw [e] at this; cases this
end OW
set_option Elab.async false
set_option linter.all false
set_option maxRecDepth 100000
set_option maxHeartbeats 2000000
namespace OW
open PySem PySem.Spec PyProof.Rows L2 RZ SkE CL
structure MakeV (C : Addr) (v : Option (Option V)) (k : Prop) : Prop where
  e : v = some (some (.ref C))
  k : k
structure CMethR (C : Addr) (x : V) (k : Prop) : Prop where
  e : x = .ref C
  k : k
end OW
set_option Elab.async false
set_option linter.all false
set_option maxRecDepth 100000
set_option maxHeartbeats 2000000
namespace OW
open PySem PySem.Spec PyProof.Rows L2 RZ SkE CL
mutual
inductive IDk (K : PySem.W.Frag) (H : Hp) : V → PyData → Prop
  | non : IDk K H .non .none
  | bl (b : Bool) : IDk K H (.bl b) (.bool b)
  | int (i : Int) : IDk K H (.int i) (.int i)
  | str (x : Str) : IDk K H (.str x) (.str x)
  | tup {a : Addr} {xs : List V} {ds : List PyData} (h : H a = some (.tup xs) ∨ ∀ H', SqT K H' a xs) (g : IDkAll K H xs ds) : IDk K H (.ref a) (.tuple ds)
inductive IDkAll (K : PySem.W.Frag) (H : Hp) : List V → List PyData → Prop
  | nil : IDkAll K H [] []
  | cons {v : V} {vs : List V} {d : PyData} {ds : List PyData} (h : IDk K H v d) (g : IDkAll K H vs ds) : IDkAll K H (v :: vs) (d :: ds)
end
section
variable {K : PySem.W.Frag} {H H' : Hp}
mutual
theorem IDk.keep (k : Keep H H') : ∀ (d : PyData) (v : V), IDk K H v d → IDk K H' v d
  | .none, _, h => by cases h; exact .non
  | .bool b, _, h => by cases h; exact .bl b
  | .int i, _, h => by cases h; exact .int i
  | .str z, _, h => by cases h; exact .str z
  | .list ds, _, h => by cases h
  | .tuple ds, _, h => by cases h with | tup m g => exact .tup (m.elim (fun e => .inl (k _ _ e rfl)) .inr) (IDkAll.keep k ds _ g)
  | .dict es, _, h => by cases h
theorem IDkAll.keep (k : Keep H H') : ∀ (ds : List PyData) (vs : List V), IDkAll K H vs ds → IDkAll K H' vs ds
  | [], _, h => by cases h; exact .nil
  | d :: ds, _, h => by cases h with | cons h g => exact .cons (IDk.keep k d _ h) (IDkAll.keep k ds _ g)
end
mutual
theorem IDk.dp : ∀ (d : PyData) (v : V), IDk K H v d → Dp K H v d
  | .none, _, h => by cases h; exact .non
  | .bool b, _, h => by cases h; exact .bl b
  | .int i, _, h => by cases h; exact .int i
  | .str z, _, h => by cases h; exact .str z
  | .list ds, _, h => by cases h
  | .tuple ds, _, h => by cases h with | tup m g => exact .tup (m.elim (fun e => SqT.of e) (fun e => e H)) (IDkAll.dp ds _ g)
  | .dict es, _, h => by cases h
theorem IDkAll.dp : ∀ (ds : List PyData) (vs : List V), IDkAll K H vs ds → DpAll K H vs ds
  | [], _, h => by cases h; exact .nil
  | d :: ds, _, h => by cases h with | cons h g => exact .cons (IDk.dp d _ h) (IDkAll.dp ds _ g)
end
mutual
theorem IDp.idk : ∀ (d : PyData) (v : V), IDp H v d → IDk K H v d
  | .none, _, h => by cases h; exact .non
  | .bool b, _, h => by cases h; exact .bl b
  | .int i, _, h => by cases h; exact .int i
  | .str z, _, h => by cases h; exact .str z
  | .list ds, _, h => by cases h
  | .tuple ds, _, h => by cases h with | tup m g => exact .tup (.inl m) (IDpAll.idk ds _ g)
  | .dict es, _, h => by cases h
theorem IDpAll.idk : ∀ (ds : List PyData) (vs : List V), IDpAll H vs ds → IDkAll K H vs ds
  | [], _, h => by cases h; exact .nil
  | d :: ds, _, h => by cases h with | cons h g => exact .cons (IDp.idk d _ h) (IDpAll.idk ds _ g)
end
theorem IDkAll.len : ∀ {vs : List V} {ds : List PyData}, IDkAll K H vs ds → vs.length = ds.length
  | _, _, .nil => rfl
  | _, _, .cons _ g => congrArg (· + 1) g.len
theorem IDkAll.append : ∀ {vs ws : List V} {ds es : List PyData}, IDkAll K H vs ds → IDkAll K H ws es → IDkAll K H (vs ++ ws) (ds ++ es)
  | _, _, _, _, .nil, h => h
  | _, _, _, _, .cons a g, h => .cons a (g.append h)
theorem IDkAll.at : ∀ {xs : List V} {ds : List PyData} {i : Nat} {x : V}, IDkAll K H xs ds → xs[i]? = some x → ∃ d, ds[i]? = some d ∧ IDk K H x d
  | _, _, 0, x, .cons a g, h => by
    cases h
    exact ⟨_, rfl, a⟩
  | _, _, i + 1, x, .cons a g, h => IDkAll.at (i := i) g h
theorem IDkAll.atF {α : Type} {D : α → PyData} {xs : List V} {l : List α} {i : Nat} {x : V} (h : IDkAll K H xs (l.map D)) (hx : xs[i]? = some x) : ∃ e, l[i]? = some e ∧ IDk K H x (D e) := by
  obtain ⟨d, hd, g⟩ := h.at hx
  rw [List.getElem?_map] at hd
  cases hp : l[i]? with
  | none => rw [hp] at hd; cases hd
  | some p =>
    rw [hp] at hd
    cases hd
    exact ⟨p, rfl, g⟩
end
abbrev ksI (K : PySem.W.Frag) (vs : List V) (ds : List PyData) : Hp → Prop := fun H => IDkAll K H vs ds
theorem stable_ks {K : PySem.W.Frag} {v : List V} {d : List PyData} : Stable (ksI K v d) := fun H H' k h => IDkAll.keep k d v h
/-- a day: its row of values -/
def dvI (K : PySem.W.Frag) (C r : Addr) (xs : List V) : Hp → Prop := fun H => ∃ dx t, H r = some (.ins C dx [("events", .ref t)]) ∧ (H t = some (.tup xs) ∨ ∀ H', SqT K H' t xs)
theorem stable_dv {K : PySem.W.Frag} {C r : Addr} {xs : List V} : Stable (dvI K C r xs) := fun H H' k ⟨dx, t, a, b⟩ => ⟨dx, t, k _ _ a rfl, b.elim (fun e => .inl (k _ _ e rfl)) .inr⟩
def evU2 : Ev → Prop
  | .pass => True
  | .on _ u => 0 ≤ u ∧ u < 100
theorem evU2.u : ∀ {e : Ev}, evU2 e → evU e
  | .pass, _ => trivial
  | .on _ _, h => ⟨h.1, Int.lt_of_lt_of_le h.2 (by decide)⟩
instance : DecidableEq Ev := fun a b => match a, b with
  | .pass, .pass => .isTrue rfl
  | .pass, .on _ _ => .isFalse Ev.noConfusion
  | .on _ _, .pass => .isFalse Ev.noConfusion
  | .on w u, .on x v => if h : w = x ∧ u = v then .isTrue (by rw [h.1, h.2]) else .isFalse fun e => h (by cases e; exact ⟨rfl, rfl⟩)
end OW
set_option Elab.async false
set_option linter.all false
set_option maxRecDepth 100000
set_option maxHeartbeats 2000000
namespace OW
open PySem PySem.Spec PyProof.Rows L2 RZ SkE CL
/-- how a house stands while its day is possible: each user has one kept seat at most, nobody is too old, and who uses has the moment of its seat -/
structure LgS (r : Ru) (s : Hs) : Prop where
  once : ∀ (i j : Nat) (u t t' : Int), s.kp[i]? = some (some (u, t)) → s.kp[j]? = some (some (u, t')) → i = j
  age : ∀ p ∈ s.us, s.mo - p.2.2 ≤ r.gr + r.lt
  same : ∀ p ∈ s.us, ∀ t, some (p.1, t) ∈ s.kp → t = p.2.2
  nd : NdA s.us
theorem seat_in {kp : List (Option (Int × Int))} {u : Int} {i : Nat} (h : seatK kp u = some i) : ∃ t, kp[i]? = some (some (u, t)) := by
  obtain ⟨a, b, _⟩ := List.findIdx?_eq_some_iff_getElem.mp h
  cases e : kp[i] with
  | none => rw [e] at b; cases b
  | some p =>
    rw [e] at b
    refine ⟨p.2, ?_⟩
    rw [List.getElem?_eq_getElem a, e, ← of_decide_eq_true b]
theorem mem_at {α : Type} {l : List α} {x : α} : x ∈ l ↔ ∃ j : Nat, l[j]? = some x := List.mem_iff_getElem?
theorem clr_mem {kp : List (Option (Int × Int))} {u : Int} {i : Nat} (hu : ∀ (j : Nat) (t : Int), kp[j]? = some (some (u, t)) → j = i) (hv : ∀ v t, kp[i]? = some (some (v, t)) → v = u) (v t : Int) :
    some (v, t) ∈ kp.set i none ↔ v ≠ u ∧ some (v, t) ∈ kp := by
  rw [mem_at, mem_at]
  constructor
  · rintro ⟨j, hj⟩
    rw [List.getElem?_set] at hj
    by_cases e : i = j
    · rw [if_pos e] at hj
      split at hj <;> cases hj
    · rw [if_neg e] at hj
      exact ⟨fun z => by subst z; exact e (hu j t hj).symm, j, hj⟩
  · rintro ⟨z, j, hj⟩
    refine ⟨j, ?_⟩
    rw [List.getElem?_set, if_neg (fun e => z (hv v t (by rw [e]; exact hj)))]
    exact hj
theorem put_mem {β : Type} {l : List (Int × β)} {u : Int} {b : β} {p : Int × β} (h : p ∈ putA l u b) : p = (u, b) ∨ (p ∈ l ∧ p.1 ≠ u) := by
  unfold putA at h
  split at h
  · obtain ⟨q, m, rfl⟩ := List.mem_map.mp h
    by_cases e : q.1 = u
    · rw [if_pos e, e]; exact .inl rfl
    · rw [if_neg e]; exact .inr ⟨m, e⟩
  · rename_i c
    rcases List.mem_append.mp h with m | m
    · refine .inr ⟨m, fun e => c ?_⟩
      subst e
      cases g : l.lookup p.1 with
      | some x => rfl
      | none => exact absurd (List.mem_map.mpr ⟨p, m, rfl⟩) (lkA_none g)
    · exact .inl (List.mem_singleton.mp m)
theorem LgS.pass {r : Ru} {s : Hs} (h : LgS r s) (ok : canH r s .pass = true) : LgS r (doPass r s).1 := by
  have sub : ∀ (j : Nat) (x : Int × Int), (s.kp.map (passK r.la (s.mo + 1)))[j]? = some (some x) → s.kp[j]? = some (some x) := fun j x hj => by
    rw [List.getElem?_map] at hj
    obtain ⟨y, hy, e⟩ := Option.map_eq_some_iff.mp hj
    unfold passK at e
    split at e
    · cases e
    · rw [hy, e]
  refine ⟨fun j k v t t' hj hk => h.once j k v t t' (sub j _ hj) (sub k _ hk), fun p m => ?_, fun p m t hm => ?_, h.nd⟩
  · have o := List.all_eq_true.mp ok p m
    unfold passOk at o
    have o := (Bool.and_eq_true _ _ |>.mp o).1
    have o : ¬ (r.gr + r.lt ≤ s.mo - p.2.2) := by simpa using o
    show s.mo + 1 - p.2.2 ≤ _
    omega
  · obtain ⟨j, hj⟩ := mem_at.mp hm
    exact h.same p m t (mem_at.mpr ⟨j, sub j _ hj⟩)
theorem LgS.seat {r : Ru} {s : Hs} {u : Int} {i : Nat} (h : LgS r s) (e : seatK s.kp u = some i) : i < s.kp.length ∧ (∀ (j : Nat) (t : Int), s.kp[j]? = some (some (u, t)) → j = i) ∧ ∀ v t, s.kp[i]? = some (some (v, t)) → v = u := by
  obtain ⟨t0, ht⟩ := seat_in e
  refine ⟨(List.getElem?_eq_some_iff.mp ht).1, fun j t hj => h.once j i u t t0 hj ht, fun v t hv => ?_⟩
  rw [ht] at hv
  cases hv
  rfl
/-- what is kept by the log is what is kept -/
structure KpL (r : Ru) (k : List (Int × Int)) (s : Hs) : Prop where
  nd : NdA k
  mem : ∀ u t, (stillL r.la s.mo k).lookup u = some t ↔ some (u, t) ∈ s.kp
theorem still_nd {la mo : Int} {k : List (Int × Int)} (n : NdA k) : NdA (stillL la mo k) := n.filter _
theorem still_lk {la mo : Int} {k : List (Int × Int)} (n : NdA k) (u t : Int) : (stillL la mo k).lookup u = some t ↔ k.lookup u = some t ∧ mo - t < la := by
  unfold stillL
  rw [lkA_filter n]
  cases e : k.lookup u with
  | none => simp
  | some x =>
    show (if decide (mo - x < la) then some x else none) = some t ↔ _
    by_cases h : mo - x < la
    · rw [decide_eq_true h, if_pos rfl]
      constructor
      · intro q; cases q; exact ⟨rfl, h⟩
      · rintro ⟨q, _⟩; exact q
    · rw [decide_eq_false h, if_neg (by decide)]
      constructor
      · intro q; cases q
      · rintro ⟨q, z⟩; cases q; exact absurd z h
/-- a kept seat is not yet lost -/
theorem KpL.fresh {r : Ru} {k : List (Int × Int)} {s : Hs} (h : KpL r k s) {u t : Int} (m : some (u, t) ∈ s.kp) : s.mo - t < r.la := ((still_lk h.nd u t).mp ((h.mem u t).mpr m)).2
theorem KpL.same {r : Ru} {k : List (Int × Int)} {s s' : Hs} (h : KpL r k s) (a : s'.mo = s.mo) (b : s'.kp = s.kp) : KpL r k s' := ⟨h.nd, fun u t => by rw [a, b]; exact h.mem u t⟩
theorem KpL.pass {r : Ru} {k : List (Int × Int)} {s : Hs} (h : KpL r k s) : KpL r k (doPass r s).1 := by
  refine ⟨h.nd, fun u t => ?_⟩
  show (stillL r.la (s.mo + 1) k).lookup u = some t ↔ some (u, t) ∈ s.kp.map (passK r.la (s.mo + 1))
  rw [still_lk h.nd]
  constructor
  · rintro ⟨a, b⟩
    have m := (h.mem u t).mp ((still_lk h.nd u t).mpr ⟨a, by omega⟩)
    refine List.mem_map.mpr ⟨_, m, ?_⟩
    unfold passK outK
    rw [if_neg (by rw [decide_eq_true_eq]; show ¬ s.mo + 1 - t = r.la; omega)]
  · intro m
    obtain ⟨x, hx, e⟩ := List.mem_map.mp m
    unfold passK at e
    split at e
    · cases e
    · rename_i o
      subst e
      have f := h.fresh hx
      have o : ¬ (s.mo + 1 - t = r.la) := fun z => o (decide_eq_true z)
      exact ⟨((still_lk h.nd u t).mp ((h.mem u t).mpr hx)).1, by omega⟩
theorem KpL.back {r : Ru} {k : List (Int × Int)} {s : Hs} {u : Int} {i : Nat} (h : KpL r k s) (hu : ∀ (j : Nat) (t : Int), s.kp[j]? = some (some (u, t)) → j = i) (hv : ∀ v t, s.kp[i]? = some (some (v, t)) → v = u) : KpL r (stepL r k ⟨s.mo, "back", u⟩) (leaveH { s with kp := s.kp.set i none } u) := by
  have n := still_nd (la := r.la) (mo := s.mo) h.nd
  have e : stepL r k ⟨s.mo, "back", u⟩ = dropA (stillL r.la s.mo k) u := by
    unfold stepL nextL
    rw [if_pos rfl]
  rw [e]
  refine ⟨n.drop, fun v t => ?_⟩
  rw [still_lk n.drop, lkA_drop]
  show _ ∧ s.mo - t < r.la ↔ some (v, t) ∈ s.kp.set i none
  rw [clr_mem hu hv]
  by_cases z : u = v
  · rw [if_pos z]
    exact ⟨fun q => absurd q.1 (by intro y; cases y), fun q => absurd z.symm q.1⟩
  · rw [if_neg z, h.mem]
    exact ⟨fun q => ⟨fun y => z y.symm, q.1⟩, fun q => ⟨q.2, h.fresh q.2⟩⟩
theorem free_len : ∀ {kp : List (Option (Int × Int))} {i : Nat}, kp[i]? = some none → (kp.filterMap id).length < kp.length
  | [], i, h => by cases h
  | none :: kp, _, _ => by
    rw [List.filterMap_cons_none (by rfl), List.length_cons]
    exact Nat.lt_succ_of_le (List.length_filterMap_le id kp)
  | some x :: kp, 0, h => by cases h
  | some x :: kp, i + 1, h => by
    have := free_len (kp := kp) (i := i) h
    rw [List.filterMap_cons_some (b := x) (by rfl), List.length_cons, List.length_cons]
    omega
theorem nd_sub {α : Type} [DecidableEq α] : ∀ {l m : List α}, l.Nodup → (∀ x ∈ l, x ∈ m) → l.length ≤ m.length
  | [], _, _, _ => Nat.zero_le _
  | x :: l, m, n, h => by
    obtain ⟨n1, n2⟩ := List.nodup_cons.mp n
    have hx := h x List.mem_cons_self
    have := nd_sub (l := l) (m := m.erase x) n2 (fun y hy => (List.mem_erase_of_ne (fun e => n1 (by rw [← e]; exact hy))).mpr (h y (List.mem_cons_of_mem _ hy)))
    rw [List.length_erase_of_mem hx] at this
    have := List.length_pos_of_mem hx
    rw [List.length_cons]
    omega
theorem KpL.few {r : Ru} {k : List (Int × Int)} {s : Hs} (h : KpL r k s) {i : Nat} (f : s.kp[i]? = some none) : (stillL r.la s.mo k).length < s.kp.length := by
  have n : (stillL r.la s.mo k).Nodup := List.Pairwise.imp (fun a b => a (congrArg _ b)) (List.pairwise_map.mp (still_nd (la := r.la) (mo := s.mo) h.nd))
  have := nd_sub (m := s.kp.filterMap id) n (fun p m => List.mem_filterMap.mpr ⟨some p, (h.mem p.1 p.2).mp (lkA_nd (still_nd h.nd) m), rfl⟩)
  exact Nat.lt_of_le_of_lt this (free_len f)
def lastA (es : List En) : List (Int × Int × Str) := es.foldl (fun m e => putA m e.u (e.t, e.w)) []
theorem lastA_snoc (es : List En) (e : En) : lastA (es ++ [e]) = putA (lastA es) e.u (e.t, e.w) := by
  unfold lastA
  rw [List.foldl_append]
  rfl
/-- who uses has an entry of the moment of its seat, and gave nothing back -/
def UsL (log : List En) (s : Hs) : Prop := ∀ p ∈ s.us, ∃ w : Str, (lastA log).lookup p.1 = some (p.2.2, w) ∧ w ≠ "back"
theorem UsL.sub {log : List En} {s s' : Hs} (h : UsL log s) (e : ∀ p ∈ s'.us, p ∈ s.us) : UsL log s' := fun p m => h p (e p m)
theorem UsL.put {log : List En} {s : Hs} {u : Int} {i : Nat} {w : Str} (h : UsL log s) (nb : w ≠ "back") : UsL (log ++ [⟨s.mo, w, u⟩]) (ansH s u i) := fun p m => by
  rw [lastA_snoc, lkA_put]
  rcases put_mem (show p ∈ putA s.us u (((i : Nat) : Int), s.mo) from m) with e | ⟨m, e⟩
  · rw [e, if_pos rfl]
    exact ⟨w, rfl, nb⟩
  · rw [if_neg fun q => e q.symm]
    exact h p m
theorem UsL.back {log : List En} {s s' : Hs} {u mo : Int} {w : Str} (h : UsL log s) (e : ∀ p ∈ s'.us, p ∈ s.us ∧ p.1 ≠ u) : UsL (log ++ [⟨mo, w, u⟩]) s' := fun p m => by
  rw [lastA_snoc, lkA_put, if_neg fun q => (e p m).2 q.symm]
  exact h p (e p m).1
end OW
set_option Elab.async false
set_option linter.all false
set_option maxRecDepth 100000
set_option maxHeartbeats 2000000
namespace L2
open PySem PySem.Spec PyProof.Rows
end L2
namespace OW
open PySem PySem.Spec PyProof.Rows L2 RZ SkE CL
end OW
set_option Elab.async false
set_option linter.all false
set_option maxRecDepth 100000
set_option maxHeartbeats 2000000
namespace OW
open PySem PySem.Spec PyProof.Rows L2 RZ SkE CL
end OW
set_option Elab.async false
set_option linter.all false
set_option maxRecDepth 100000
set_option maxHeartbeats 2000000
section
open PySem PySem.Spec PyProof.Rows L2 RZ SkE CL OW
local macro_rules | `(tactic| walk_at "subi") => `(tactic| first
  | exact fun _ z => z
  | exact fun _ z => List.mem_cons_of_mem _ z
  | exact fun _ z => List.mem_cons_of_mem _ (List.mem_cons_of_mem _ z)
  | exact fun _ z => List.mem_cons_of_mem _ (List.mem_cons_of_mem _ (List.mem_cons_of_mem _ z))
  | exact fun _ z => List.mem_cons_of_mem _ (List.mem_cons_of_mem _ (List.mem_cons_of_mem _ (List.mem_cons_of_mem _ z)))
  | exact fun _ z => List.mem_cons_of_mem _ (List.mem_cons_of_mem _ (List.mem_cons_of_mem _ (List.mem_cons_of_mem _ (List.mem_cons_of_mem _ z))))
  | exact fun _ z => List.mem_cons_of_mem _ (List.mem_cons_of_mem _ (List.mem_cons_of_mem _ (List.mem_cons_of_mem _ (List.mem_cons_of_mem _ (List.mem_cons_of_mem _ z)))))
  | exact fun _ z => List.mem_cons_of_mem _ (List.mem_cons_of_mem _ (List.mem_cons_of_mem _ (List.mem_cons_of_mem _ (List.mem_cons_of_mem _ (List.mem_cons_of_mem _ (List.mem_cons_of_mem _ z))))))
  | exact fun _ z => List.mem_cons_of_mem _ (List.mem_cons_of_mem _ (List.mem_cons_of_mem _ (List.mem_cons_of_mem _ (List.mem_cons_of_mem _ (List.mem_cons_of_mem _ (List.mem_cons_of_mem _ (List.mem_cons_of_mem _ z)))))))
  | exact fun _ z => (List.not_mem_nil z).elim
  | exact sub_nil
  | (refine sub_cons (by walk_at "mem") ?_; walk_at "subi")
  | (intro R z; apply List.mem_cons_of_mem; revert z; revert R; walk_at "subi"))
local macro_rules | `(tactic| walk_at "pull1") => `(tactic| first | assumption | exact Pull.head | (apply Pull.tail; walk_at "pull1"))
local macro_rules | `(tactic| walk_at "pull") => `(tactic| first | assumption | exact Pull.head | exact (Pull.tail Pull.head) | exact (Pull.tail (Pull.tail Pull.head)) | exact (Pull.tail (Pull.tail (Pull.tail Pull.head))) | exact (Pull.tail (Pull.tail (Pull.tail (Pull.tail Pull.head)))) | exact (Pull.tail (Pull.tail (Pull.tail (Pull.tail (Pull.tail Pull.head))))) | exact (Pull.tail (Pull.tail (Pull.tail (Pull.tail (Pull.tail (Pull.tail Pull.head)))))) | exact (Pull.tail (Pull.tail (Pull.tail (Pull.tail (Pull.tail (Pull.tail (Pull.tail Pull.head))))))) | exact (Pull.tail (Pull.tail (Pull.tail (Pull.tail (Pull.tail (Pull.tail (Pull.tail (Pull.tail Pull.head)))))))) | exact (Pull.tail (Pull.tail (Pull.tail (Pull.tail (Pull.tail (Pull.tail (Pull.tail (Pull.tail (Pull.tail Pull.head))))))))) | exact (Pull.tail (Pull.tail (Pull.tail (Pull.tail (Pull.tail (Pull.tail (Pull.tail (Pull.tail (Pull.tail (Pull.tail Pull.head)))))))))) | exact (Pull.tail (Pull.tail (Pull.tail (Pull.tail (Pull.tail (Pull.tail (Pull.tail (Pull.tail (Pull.tail (Pull.tail (Pull.tail Pull.head))))))))))) | (apply Pull.tail; walk_at "pull1"))
local macro_rules | `(tactic| walk_at "mem1") => `(tactic| first | assumption | exact List.mem_cons_self | (refine List.mem_cons_of_mem _ ?_; walk_at "mem1"))
local macro_rules | `(tactic| walk_at "mem") => `(tactic| first | assumption | exact List.mem_cons_self | exact (List.mem_cons_of_mem _ List.mem_cons_self) | exact (List.mem_cons_of_mem _ (List.mem_cons_of_mem _ List.mem_cons_self)) | exact (List.mem_cons_of_mem _ (List.mem_cons_of_mem _ (List.mem_cons_of_mem _ List.mem_cons_self))) | exact (List.mem_cons_of_mem _ (List.mem_cons_of_mem _ (List.mem_cons_of_mem _ (List.mem_cons_of_mem _ List.mem_cons_self)))) | exact (List.mem_cons_of_mem _ (List.mem_cons_of_mem _ (List.mem_cons_of_mem _ (List.mem_cons_of_mem _ (List.mem_cons_of_mem _ List.mem_cons_self))))) | exact (List.mem_cons_of_mem _ (List.mem_cons_of_mem _ (List.mem_cons_of_mem _ (List.mem_cons_of_mem _ (List.mem_cons_of_mem _ (List.mem_cons_of_mem _ List.mem_cons_self)))))) | exact (List.mem_cons_of_mem _ (List.mem_cons_of_mem _ (List.mem_cons_of_mem _ (List.mem_cons_of_mem _ (List.mem_cons_of_mem _ (List.mem_cons_of_mem _ (List.mem_cons_of_mem _ List.mem_cons_self))))))) | exact (List.mem_cons_of_mem _ (List.mem_cons_of_mem _ (List.mem_cons_of_mem _ (List.mem_cons_of_mem _ (List.mem_cons_of_mem _ (List.mem_cons_of_mem _ (List.mem_cons_of_mem _ (List.mem_cons_of_mem _ List.mem_cons_self)))))))) | exact (List.mem_cons_of_mem _ (List.mem_cons_of_mem _ (List.mem_cons_of_mem _ (List.mem_cons_of_mem _ (List.mem_cons_of_mem _ (List.mem_cons_of_mem _ (List.mem_cons_of_mem _ (List.mem_cons_of_mem _ (List.mem_cons_of_mem _ List.mem_cons_self))))))))) | exact (List.mem_cons_of_mem _ (List.mem_cons_of_mem _ (List.mem_cons_of_mem _ (List.mem_cons_of_mem _ (List.mem_cons_of_mem _ (List.mem_cons_of_mem _ (List.mem_cons_of_mem _ (List.mem_cons_of_mem _ (List.mem_cons_of_mem _ (List.mem_cons_of_mem _ List.mem_cons_self)))))))))) | exact (List.mem_cons_of_mem _ (List.mem_cons_of_mem _ (List.mem_cons_of_mem _ (List.mem_cons_of_mem _ (List.mem_cons_of_mem _ (List.mem_cons_of_mem _ (List.mem_cons_of_mem _ (List.mem_cons_of_mem _ (List.mem_cons_of_mem _ (List.mem_cons_of_mem _ (List.mem_cons_of_mem _ List.mem_cons_self))))))))))) | exact (List.mem_cons_of_mem _ (List.mem_cons_of_mem _ (List.mem_cons_of_mem _ (List.mem_cons_of_mem _ (List.mem_cons_of_mem _ (List.mem_cons_of_mem _ (List.mem_cons_of_mem _ (List.mem_cons_of_mem _ (List.mem_cons_of_mem _ (List.mem_cons_of_mem _ (List.mem_cons_of_mem _ (List.mem_cons_of_mem _ List.mem_cons_self)))))))))))) | exact (List.mem_cons_of_mem _ (List.mem_cons_of_mem _ (List.mem_cons_of_mem _ (List.mem_cons_of_mem _ (List.mem_cons_of_mem _ (List.mem_cons_of_mem _ (List.mem_cons_of_mem _ (List.mem_cons_of_mem _ (List.mem_cons_of_mem _ (List.mem_cons_of_mem _ (List.mem_cons_of_mem _ (List.mem_cons_of_mem _ (List.mem_cons_of_mem _ List.mem_cons_self))))))))))))) | exact (List.mem_cons_of_mem _ (List.mem_cons_of_mem _ (List.mem_cons_of_mem _ (List.mem_cons_of_mem _ (List.mem_cons_of_mem _ (List.mem_cons_of_mem _ (List.mem_cons_of_mem _ (List.mem_cons_of_mem _ (List.mem_cons_of_mem _ (List.mem_cons_of_mem _ (List.mem_cons_of_mem _ (List.mem_cons_of_mem _ (List.mem_cons_of_mem _ (List.mem_cons_of_mem _ List.mem_cons_self)))))))))))))) | exact (List.mem_cons_of_mem _ (List.mem_cons_of_mem _ (List.mem_cons_of_mem _ (List.mem_cons_of_mem _ (List.mem_cons_of_mem _ (List.mem_cons_of_mem _ (List.mem_cons_of_mem _ (List.mem_cons_of_mem _ (List.mem_cons_of_mem _ (List.mem_cons_of_mem _ (List.mem_cons_of_mem _ (List.mem_cons_of_mem _ (List.mem_cons_of_mem _ (List.mem_cons_of_mem _ (List.mem_cons_of_mem _ List.mem_cons_self))))))))))))))) | (refine List.mem_cons_of_mem _ ?_; walk_at "mem1"))
local macro_rules | `(tactic| walk_at "hp") => `(tactic| first | assumption | exact Own.get (by assumption) (by walk_at "pull") | exact Own.tupx (by assumption) (by walk_at "mem"))
local macro_rules | `(tactic| walk_at "pick") => `(tactic| first | exact Pick.all | exact Pick.nil | (refine Pick.cons (by walk_at "pull") ?_; walk_at "pick") | (refine Pick.skip ?_; walk_at "pick"))
local macro_rules | `(tactic| walk_at "own") => `(tactic| first | assumption | exact Own.subI (Own.pick (by assumption) (by walk_at "pick")) (by walk_at "subi"))
local macro_rules | `(tactic| walk_at "dps") => `(tactic| first
  | exact DpAll.nil
  | exact dpAll_ints _
  | exact dpAll_strs _
  | assumption
  | exact IDpAll.dp _ _ (Own.ids (by assumption) (by walk_at "mem"))
  | (apply DpAll.cons; (focus (walk_at "dp")); walk_at "dps"))
local macro_rules | `(tactic| walk_at "dp") => `(tactic| first
  | exact Dp.int _
  | exact Dp.str _
  | exact Dp.non
  | exact Dp.bl _
  | assumption
  | exact IDp.dp _ _ (Own.idd (by assumption) (by walk_at "mem"))
  | (apply Dp.tup; (focus (exact SqT.of (by walk_at "hp"))); walk_at "dps")
  | (apply Dp.lst; (focus (exact SqL.of (by walk_at "hp"))); walk_at "dps")
  | (apply Dp.tup; (focus (walk_at "seq")); walk_at "dps"))
local macro_rules | `(tactic| walk_at "sd") => `(tactic| first
  | assumption
  | (exact ⟨by decide, by decide⟩)
  | exact ⟨rfl, rfl⟩
  | (show (_ : Nat) ≤ sizeLine; (try simp only [List.length_cons, List.length_nil, List.length_append, List.length_map, List.length_take]); rw [sizeLine_eq]; omega)
  | (show (_ : Nat) < sizeLine; (try simp only [List.length_cons, List.length_nil, List.length_append, List.length_map, List.length_take]); rw [sizeLine_eq]; omega)
  | omega
  | (exact Or.inl (Or.inl ⟨by omega, by omega⟩))
  | (exact Or.inl (Or.inr ⟨by omega, by omega⟩))
  | (exact Or.inl ⟨by omega, by omega⟩)
  | (exact ⟨by omega, by omega⟩)
  | (exact ⟨by decide, by decide, by decide⟩)
  | decide
  | walk_at "len")
local macro_rules | `(tactic| walk_at "br") => `(tactic| first
  | refine br_t (by first | rfl | assumption) ?_
  | refine br_f (by first | rfl | assumption) ?_
  | refine br_t (by exact decide_eq_true (by omega)) ?_
  | refine br_f (by exact decide_eq_false (by omega)) ?_
  | walk_at "br2")
local macro_rules | `(tactic| walk_at "kit") => `(tactic| first
  | exact kit_int_int | exact kit_int_bool | exact kit_int_str | exact kit_int_list | exact kit_int_tuple
  | exact kit_bool_int | exact kit_bool_bool | exact kit_bool_str | exact kit_bool_list | exact kit_bool_tuple
  | exact kit_str_int | exact kit_str_bool | exact kit_str_str | exact kit_str_list | exact kit_str_tuple
  | exact kit_list_int | exact kit_list_bool | exact kit_list_str | exact kit_list_list | exact kit_list_tuple
  | exact kit_tuple_int | exact kit_tuple_bool | exact kit_tuple_str | exact kit_tuple_list | exact kit_tuple_tuple
  | exact kit_NoneType_int | exact kit_NoneType_bool | exact kit_NoneType_str | exact kit_NoneType_list | exact kit_NoneType_tuple)
local macro_rules | `(tactic| walk_at "isi") => `(tactic| first
  | refine IsI.mk ⟨_, _, .base (.int _), (by walk_at "kit"), ?_⟩
  | refine IsI.mk ⟨_, _, .base (.str _), (by walk_at "kit"), ?_⟩
  | refine IsI.mk ⟨_, _, .base .non, (by walk_at "kit"), ?_⟩
  | refine IsI.mk ⟨_, _, .base (.bl _), (by walk_at "kit"), ?_⟩
  | refine IsI.mk ⟨_, _, .base (.lst (by walk_at "hp")), (by walk_at "kit"), ?_⟩
  | refine IsI.mk ⟨_, _, .base (.tup (by walk_at "hp")), (by walk_at "kit"), ?_⟩)
local macro_rules | `(tactic| walk_at "log") => `(tactic| first | assumption | exact log_of2 (by omega))
set_option hygiene false in
local macro_rules | `(tactic| walk_at "one") => `(tactic| first
  | ((with_reducible show Sq _ _ _ _); first
    | refine sq_l (by assumption) (by walk_at "pull") ?_
    | refine sq_t (by assumption) (by walk_at "pull") ?_
    | refine sq_s (by assumption) (by walk_at "mem") ?_
    | refine sq_i (by assumption) (by walk_at "mem") ?_
    | refine Sq.t (by walk_at "seq") ?_)
  | ((with_reducible show Ls _ _ _); refine ls_o (by assumption) (by walk_at "pull") ?_)
  | ((with_reducible show Fld _ _ _ _ _); first | refine fld_o (by assumption) (by walk_at "pull") (by walk_at "cls") (by walk_at "cls") rfl ?_ | walk_at "fld")
  | ((with_reducible show SetF _ _ _ _ _ _); refine setf_o (by assumption) (by walk_at "pull") (by walk_at "cls") (by walk_at "cls") (by first | decide | exact Nat.le_of_ble_eq_true rfl) (by first | rfl | decide +kernel) (fun HH w => ?_))
  | ((with_reducible show New _ _ _); refine new_o (by assumption) (fun pp HH w => ?_))
  | ((with_reducible show Grow _ _ _ _ _); refine grow_o (by assumption) (by walk_at "pull") rfl (fun HH w => ?_))
  | ((with_reducible show Chk _ _); refine Chk.mk (by walk_at "sd") ?_)
  | ((with_reducible show Br _ _ _); walk_at "br")
  | ((with_reducible show Ask _); walk_at "ask")
  | ((with_reducible show IsI _ _ _ _ _); walk_at "isi")
  | ((with_reducible show At _ _ _); first | refine At.mk ⟨_, rfl, ?_⟩ | walk_at "at")
  | ((with_reducible show LastOf _ _); refine LastOf.mk ⟨_, rfl, ?_⟩)
  | ((with_reducible show SetL _ _ _ _ _); refine setl_o (by assumption) (by walk_at "pull") rfl (fun HH w => ?_))
  | ((with_reducible show UnT _ _ _ _ _); first | refine unt_o (by assumption) (by walk_at "pull") rfl ?_ | refine unt_i (by assumption) (by walk_at "mem") rfl ?_ | refine ⟨_, (by walk_at "seq"), rfl, ?_⟩)
  | ((with_reducible show RaiseR _ _ _ _ _ _); refine raise_o (by assumption) (fun dx HH w => ?_))
  | ((with_reducible show Wr _); refine catch_yes (by walk_at "exm") (fun ea hea => ?_))
  | ((with_reducible show XfG _ _ _ _ _ _ _ _); refine xf_o (by assumption) (by walk_at "pull") rfl ?_)
  | ((with_reducible show IsEG _ _ _ _ _ _ _ _ _); refine isE_o (by assumption) (by walk_at "pull") (by walk_at "kitE") ?_)
  | ((with_reducible show UnU _ _ _ _ _); refine unu_o (by assumption) (by walk_at "pull") rfl ?_)
  | ((with_reducible show SlL _ _ _ _ _ _); first | refine sll_o (by assumption) (by walk_at "pull") (fun pp HH w => ?_) | refine sll_s (by assumption) (by walk_at "mem") (fun pp HH w => ?_))
  | ((with_reducible show Cat _ _ _ _ _); first | refine cat_l (by assumption) (by walk_at "pull") (by walk_at "pull") (by walk_at "sd") (fun pp HH w => ?_) | (refine cat_t (by assumption) (by walk_at "pull") (by walk_at "pull") (List.cons_ne_nil _ _) (List.cons_ne_nil _ _) (by walk_at "sd") (fun pp HH w => ?_); (try simp only [List.cons_append, List.nil_append] at w)))
  | ((with_reducible show SlG _ _ _ _ _ _); first | refine slg_l (by assumption) (by walk_at "pull") (fun pp HH w => ?_) | refine slg_s (by assumption) (by walk_at "mem") (fun pp HH w => ?_) | (refine slg_t (by assumption) (by walk_at "pull") (by show ¬ (HT.sIx 5 0 _ = 0 ∧ HT.sIx 5 5 _ = 5); decide) (fun pp HH w => ?_); (try simp only [cut_a, cut_b, cut_c, cut_d, cut_e, cutM_a, cutM_b, cutM_c, cutM_d, cutM_e] at w)))
  | ((with_reducible show RevR _ _ _ _); refine rev_o (by assumption) (by walk_at "pull") (fun pp HH w => ?_))
  | ((with_reducible show TupR _ _ _ _); first | refine tupr_l (by assumption) (by walk_at "pull") (fun pp HH w => ?_) | refine tupr_t (by assumption) (by walk_at "pull") ?_)
  | ((with_reducible show EqD _ _ _ _ _); apply eqd_mk; (focus (walk_at "dp")); (focus (walk_at "dp")); (focus (walk_at "shp")); (focus (walk_at "shp")))
  | ((with_reducible show RepV _ _ _ _); first
    | refine rep_int (by walk_at "log") ?_
    | refine rep_non ?_
    | refine rep_bl ?_
    | (apply rep_mk; (focus (walk_at "dp")); (focus (walk_at "shw")); (focus (walk_at "shw")); (focus (walk_at "shw")); (focus (walk_at "shw"))))
  | ((with_reducible show ItS _ _ _ _); first | refine its_l (by assumption) (by walk_at "pull") ?_ | refine its_t (by assumption) (by walk_at "pull") ?_ | refine its_s (by assumption) (by walk_at "mem") ?_)
  | ((with_reducible show ItV _ _ _ _); first | refine itv_l (by assumption) (by walk_at "pull") ?_ | refine itv_t (by assumption) (by walk_at "pull") ?_ | refine itv_s (by assumption) (by walk_at "mem") ?_ | refine itv_r (by assumption) (by walk_at "pull") (by walk_at "sd") ?_ | refine itv_k (by walk_at "seq") ?_)
  | ((with_reducible show KD _ _ _ _ _); refine KD.mk ⟨_, by walk_at "kd", ?_⟩)
  | ((with_reducible show CallV _ _ _ _ _ _ _ _); refine callv_mk (by walk_at "held") ?_)
  | ((with_reducible show DGt _ _ _ _); first | refine dgt_i (by assumption) (by walk_at "pull") ?_ | refine dgt_s (by assumption) (by walk_at "pull") ?_ | refine dgt_if (by assumption) (by walk_at "pull") ?_ | refine dgt_sf (by assumption) (by walk_at "pull") ?_ | walk_at "dgt")
  | ((with_reducible show DGv _ _ _ _); first | refine dgv_i (by assumption) (by walk_at "pull") (by walk_at "dv") ?_ | refine dgv_s (by assumption) (by walk_at "pull") (by walk_at "dv") ?_ | refine dgv_if (by assumption) (by walk_at "pull") (by walk_at "dv") ?_ | refine dgv_sf (by assumption) (by walk_at "pull") (by walk_at "dv") ?_ | walk_at "dgv")
  | ((with_reducible show DPt _ _ _ _ _); first | refine dpt_i (by assumption) (by walk_at "pull") (by walk_at "sd") (fun HH w => ?_) | refine dpt_s (by assumption) (by walk_at "pull") (by walk_at "sd") (fun HH w => ?_))
  | ((with_reducible show DDl _ _ _ _); refine ddl_i (by assumption) (by walk_at "pull") (by walk_at "dv") (fun HH w => ?_))
  | ((with_reducible show LenD _ _ _); refine lend_o (by assumption) (by walk_at "pull") ?_)
  | ((with_reducible show DictCp _ _ _); refine dictcp_o (by assumption) (by walk_at "pull") (fun pp HH w => ?_))
  | ((with_reducible show KeysL _ _ _); refine keysl_o (by assumption) (by walk_at "pull") (fun pp HH w => ?_))
  | ((with_reducible show RepL _ _ _ _); refine repl_o (by assumption) (by walk_at "pull") (by walk_at "sd") (fun pp HH w => ?_))
  | ((with_reducible show FldInc _ _ _ _ _ _); refine fldinc_o (by assumption) (by walk_at "pull") (by walk_at "cls") (by walk_at "cls") rfl (by first | decide | exact Nat.le_of_ble_eq_true rfl) (by first | rfl | decide +kernel) (fun HH w => ?_))
  | ((with_reducible show ItD _ _ _ _); refine itd_o (by assumption) (by walk_at "pull") ?_)
  | ((with_reducible show LenSet _ _ _ _); refine lenset_o (by assumption) (by walk_at "pull") (by walk_at "len") ?_)
  | ((with_reducible show DPop _ _ _ _); refine dpop_i (by assumption) (by walk_at "pull") (by walk_at "dv") (fun HH w => ?_))
  | ((with_reducible show DGet2 _ _ _ _ _); refine dget2_i (by assumption) (by walk_at "pull") ?_)
  | ((with_reducible show MakeV _ _ _); refine MakeV.mk rfl ?_)
  | ((with_reducible show CMethR _ _ _); refine CMethR.mk rfl ?_)
  | ((with_reducible show IsDk _ _ _); refine isdk_o (by assumption) (by walk_at "pull") ?_)
  | ((with_reducible show RemI _ _ _ _); refine remi_o (by assumption) (by walk_at "pull") (by walk_at "mem") (fun HH w => ?_))
  | ((with_reducible show CntI _ _ _ _ _); refine cnti_o (by assumption) (by walk_at "pull") ?_)
  | ((with_reducible show LockE _ _ _ _); refine lockE_o (by assumption) (by walk_at "pull") (fun od HH w => ?_))
  | ((with_reducible show UnL _ _ _ _ _); refine unl_o (by assumption) (by walk_at "pull") (fun HH w => ?_))
  | ((with_reducible show ItK _ _ _); refine itk_o (by assumption) (by walk_at "pull") ?_)
  | ((with_reducible show ValsL _ _ _); refine vals_o (by assumption) (by walk_at "pull") (fun pp HH w => ?_))
  | ((with_reducible show DDsp _ _ _ _); refine ddsp_o (by assumption) (by walk_at "pull") rfl (by first | decide | exact Nat.le_of_ble_eq_true rfl) (fun HH w => ?_))
  | ((with_reducible show ItE _ _ _ _); refine ite_l (by assumption) (by walk_at "pull") ?_)
  | ((with_reducible show MaxL _ _ _ _ _); refine maxl_o (by assumption) (by walk_at "pull") (by walk_at "len") ?_)
  | ((with_reducible show AllL _ _ _ _ _); refine alll_o (by assumption) (by walk_at "pull") ?_)
  | ((with_reducible show InD _ _ _ _ _); apply ind_o; (focus (walk_at "dp")); (focus (walk_at "dp")); (focus (walk_at "shp")); (focus (walk_at "shp")))
  | ((with_reducible show MethR _ _ _ _ _); first | refine meth_o (by assumption) (by walk_at "pull") rfl ?_ | walk_at "meth")
  | ((with_reducible show OwnS _ _ _ _ _ _); walk_at "owns")
  | ((with_reducible show NxW _ _ _); refine nxw_mk ?_)
  | ((with_reducible show IsR _ _ _ _ _); refine isr_own (by walk_at "cls") (by walk_at "hp") ?_)
  | ((with_reducible show And _ _); first | refine And.intro (by (with_reducible show wipe _ _ = wipe _ _); (repeat (first | exact wipe_twice | refine (wipe_setN (by decide)).trans ?_)); done) ?_ | refine And.intro (rfl : wipe _ _ = wipe _ _) ?_ | refine And.intro (Or.inl ⟨rfl, _, SqL.of (by walk_at "hp")⟩) ?_)
  | ((with_reducible show Exists _); refine Exists.intro _ (And.intro rfl ?_))
  | ((with_reducible show Exists _); refine Exists.intro _ (Exists.intro _ (And.intro rfl (And.intro (Or.inr (SqL.of (by walk_at "hp"))) ?_))))
  | ((with_reducible show Exists _); refine Exists.intro _ (Exists.intro _ (And.intro rfl (And.intro (Or.inl (SqT.of (by walk_at "hp"))) ?_))))
  | ((with_reducible show Acc _ _ _ _); refine acc_a (by assumption) (by walk_at "pull") (by walk_at "sd") (fun HH w => ?_)))
local macro_rules | `(tactic| walk_at "go") => `(tactic| ((repeat ((try (conv => whnf)); walk_at "one")); (try (conv => whnf))))
set_option Elab.async false
set_option linter.all false
set_option maxRecDepth 100000
set_option maxHeartbeats 2000000
namespace L2
open PySem PySem.Spec PyProof.Rows
end L2
namespace OW
open PySem PySem.Spec PyProof.Rows L2 RZ SkE CL
end OW
set_option Elab.async false
set_option linter.all false
set_option maxRecDepth 100000
set_option maxHeartbeats 2000000
namespace OW
open PySem PySem.Spec PyProof.Rows L2 RZ SkE CL
/-- the signs of a text, walked -/
structure ItS (v : V) (H : Hp) (R : It → Hp → Prop) : Prop where
  ex : ∃ x, v = .str x ∧ R (Its x) H
end OW
set_option Elab.async false
set_option linter.all false
set_option maxRecDepth 100000
set_option maxHeartbeats 2000000
namespace OW
open PySem PySem.Spec PyProof.Rows L2 RZ SkE CL
/-- texts of plain signs -/
def AsZ (z : Str) : Prop := ∀ c ∈ TL.tl z, c < 128
theorem AsZ.app {a b : Str} (h : AsZ a) (g : AsZ b) : AsZ (a ++ b) := fun c m => by
  rw [TL.tl_append] at m
  exact (List.mem_append.mp m).elim (h c) (g c)
theorem AsZ.ok {z : Str} (h : AsZ z) : PyData.strOk z = true := by
  unfold PyData.strOk
  rw [← Array.all_toList, List.all_eq_true]
  exact fun c m => decide_eq_true (Nat.lt_trans (h c m) (by decide))
end OW
set_option Elab.async false
set_option linter.all false
set_option maxRecDepth 100000
set_option maxHeartbeats 2000000
namespace OW
open PySem PySem.Spec PyProof.Rows L2 RZ SkE CL
end OW
set_option Elab.async false
set_option linter.all false
set_option maxRecDepth 100000
set_option maxHeartbeats 2000000
namespace OW
open PySem PySem.Spec PyProof.Rows L2 RZ SkE CL
end OW
set_option Elab.async false
set_option linter.all false
set_option maxRecDepth 100000
set_option maxHeartbeats 2000000
namespace OW
open PySem PySem.Spec PyProof.Rows L2 RZ SkE CL
end OW
set_option Elab.async false
set_option linter.all false
set_option maxRecDepth 100000
set_option maxHeartbeats 2000000
namespace PySem.SeqAt
open MeetsSeq MeetsSeq2 MeetsSeq3 SeqRoads2
end PySem.SeqAt
namespace OW
open PySem PySem.Spec PyProof.Rows L2 RZ SkE CL
end OW
set_option Elab.async false
set_option linter.all false
set_option maxRecDepth 100000
set_option maxHeartbeats 2000000
namespace L2
open PySem PySem.Spec PyProof.Rows
variable {X : Cx}
/-- a tuple whose record is known: it has no own fields -/
def FzT (H : Hp) (a : Addr) (xs : List V) : Prop := ∃ o, H a = some (.frz o (.tup xs)) ∧ o.dict = none
theorem FzT.sq {K : PySem.W.Frag} {H : Hp} {a : Addr} {xs : List V} (h : FzT H a xs) : SqT K H a xs := let ⟨o, e, _⟩ := h; .inl (.inr ⟨o, e⟩)
end L2
namespace OW
open PySem PySem.Spec PyProof.Rows L2 RZ SkE CL
end OW
set_option Elab.async false
set_option linter.all false
set_option maxRecDepth 100000
set_option maxHeartbeats 2000000
namespace PySem.SeqAt
open MeetsSeq MeetsSeq2 MeetsSeq3 SeqRoads2
end PySem.SeqAt
namespace OW
open PySem PySem.Spec PyProof.Rows L2 RZ SkE CL
end OW
set_option Elab.async false
set_option linter.all false
set_option maxRecDepth 100000
set_option maxHeartbeats 2000000
namespace PySem.SeqAt
open MeetsSeq MeetsSeq2 MeetsSeq3 SeqRoads2
theorem str_eq_declines_ins (b : Str) (u : Tok) (q C dx : Addr) : Meets (Builtin.«str.__eq__» ⟨[.str b u, .ref q], []⟩) (fun _ R s => s.heap.get? q = some (PySem.W.instObj C dx) ∧ R (.ok (.ret .notImplemented)) s) :=
  .of_wp fun prog w A R s h => by obtain ⟨hp, g, d, tk, os⟩ := s; obtain ⟨hl, h⟩ := h; wp_walk using _root_.PySem.AutoSeq1.wpAny_loadPart' hl, wpAny_load hl; exact ⟨_, rfl, h⟩
section
variable {prog : Program} {w : World} {A : Around} {E : Value → Shared → Prop} {s : Shared} {K : PySem.W.Frag}
/-- a text == an instance: the text declines, the instance's own __eq__ answers -/
theorem rc_str_ins {z : Str} {t : Tok} {q C dx f : Addr} {od : Option Obj} {Q : Value → Shared → Prop} (hu : A.units < cLine) (X : K.In s.heap) (I : PySem.W.InstAt s.heap q (PySem.W.instObj C dx) C od) (hn : PySem.W.subIn K (.ref C) (.type "str") = some false)
    (hs : PySem.W.findIn K (.ref C) "__eq__" = some (some (.ref f))) (hf : PySem.W.isFn K (.ref f) = true)
    (h : wpAny (model prog w) A (call (.ref f) [.ref q, .str z t]) (PySem.W.CmpBack Q) E s) : wpAny (model prog w) A (richCompare .Eq (.str z t) (.ref q)) Q E s := by
  have one : wpAny (model prog w) A (tryCompare (.ref q) (cmpInfo .Eq).2.2 (.str z t)) (fun r s' => ∃ v, r = some v ∧ Q v s') E s := by
    unfold tryCompare
    refine wpAny_bind (PySem.W.ifBound_K X I hs hf (wpAny_mono h (fun v s' hv => ?_) fun _ _ e => e))
    cases v <;> first | exact hv.elim | exact wpAny_pure ⟨_, rfl, hv⟩
  unfold richCompare
  simp only [(typeIs_str s z t).oneThing_none]
  refine wpAny_holding (wpAny_bind (wpAny_cRoomFor hu ?_))
  refine wpAny_bind (wpAny_typeOf (typeIs_str s z t) (wpAny_bind (I.type.here ?_)))
  refine wpAny_bind ((PySem.W.looks_subIn X hn).here ?_)
  simp only [Bool.false_eq_true, if_false]
  refine wpAny_bind (wpAny_tryCompare_declines (typeIs_str s z t) F.slot_str_eq (call_meets F.slot_str_eq (typeIs_str s z t) F.entry_str_eq (F.args_str_eq_2 _ _) (str_eq_declines_ins z t q C dx) ⟨I.at_, rfl, ?_⟩))
  simp only [Bool.not_false, if_true]
  refine wpAny_bind (wpAny_mono one (fun r s' z => ?_) fun _ _ e => e)
  obtain ⟨v, rfl, hq⟩ := z
  exact wpAny_pure hq
/-- eqBool of a text and an instance -/
theorem eqBool_str_ins {z : Str} {t : Tok} {q C dx f : Addr} {od : Option Obj} {Q : Bool → Shared → Prop} (hu : A.units < cLine) (X : K.In s.heap) (I : PySem.W.InstAt s.heap q (PySem.W.instObj C dx) C od) (hn : PySem.W.subIn K (.ref C) (.type "str") = some false)
    (hs : PySem.W.findIn K (.ref C) "__eq__" = some (some (.ref f))) (hf : PySem.W.isFn K (.ref f) = true)
    (h : wpAny (model prog w) A (call (.ref f) [.ref q, .str z t]) (fun v s' => v = .bool false ∧ Q false s') E s) : wpAny (model prog w) A (eqBool (.str z t) (.ref q)) Q E s := by
  unfold eqBool
  refine wpAny_holding (wpAny_ite_split (fun hab => absurd (eq_of_beq hab) (by intro e; cases e)) (fun _ => ?_))
  refine wpAny_bind (rc_str_ins hu X I hn hs hf (wpAny_mono h (fun v s' hv => ?_) fun _ _ e => e))
  obtain ⟨rfl, hq⟩ := hv
  exact wpAny_truthy_bool hq
end
section
variable {prog : Program} {w : World} {P : Shared → Prop} {A0 : Around} {l : Addr} {x : Value}
theorem tup_cW : MeetsIn prog w (Builtin.«tuple.__contains__» ⟨[.ref l, x], []⟩) (fun A R s => A = A0 ∧ P s ∧ (∃ (its : Array Value) (n : Nat) (dd : Option Addr) (sl : Array (Option Value)), s.heap.get? l = some { cls := .type "tuple", dict := dd, data := .seq its n, slots := sl } ∧
    ∀ y, y ∈ its → ∀ (s : Shared) (E : Value → Shared → Prop) (Q : Bool → Shared → Prop), P s → (∀ s', P s' → Q false s') → wpAny (model prog w) A0.in1 (eqBool y x) Q E s) ∧ ∀ s', P s' → R (.ok (.ret (.bool false))) s') := by
  intro A R s h
  obtain ⟨rfl, hP, ⟨its, n, dd, sl, hl, he⟩, hR⟩ := h
  obtain ⟨hp, g, d, tk, os⟩ := s
  wp_walk using _root_.PySem.AutoSeq1.wpAny_loadPart' hl, wpAny_forIn_array _ (fun rest b s' => b.1 = none ∧ P s' ∧ (∀ y, y ∈ rest → y ∈ its)) _
  case turn =>
    rintro y rest b s' ⟨hb, hP', hmem⟩
    refine wpAny_bind (he y (hmem y (List.mem_cons_self ..)) s' _ _ hP' (fun s2 hP2 => ?_))
    obtain ⟨hp2, g2, d2, tk2, os2⟩ := s2
    wp_walk
    exact ⟨rfl, hP2, fun z hz => hmem z (List.mem_cons_of_mem _ hz)⟩
  case fin =>
    rintro ⟨b1, b2⟩ s' ⟨hb, hP', -⟩
    obtain ⟨hp2, g2, d2, tk2, os2⟩ := s'
    simp only at hb
    subst hb
    wp_walk
    exact hR _ hP'
  case h =>
    exact ⟨rfl, hP, fun y hy => by simpa using hy⟩
theorem notIn_tupW {s : Shared} {E Q : Value → Shared → Prop} (hP : P s) (ho : ∃ (its : Array Value) (n : Nat) (dd : Option Addr) (sl : Array (Option Value)), s.heap.get? l = some { cls := .type "tuple", dict := dd, data := .seq its n, slots := sl } ∧
    ∀ y, y ∈ its → ∀ (s : Shared) (E : Value → Shared → Prop) (Q : Bool → Shared → Prop), P s → (∀ s', P s' → Q false s') → wpAny (model prog w) A0.in1 (eqBool y x) Q E s)
    (h : ∀ s', P s' → Q (.bool true) s') : wpAny (model prog w) A0 (compareOp .NotIn x (.ref l)) Q E s := by
  obtain ⟨its, n, dd, sl, hl, he⟩ := ho
  have hT : s.TypeIs (.ref l) "tuple" := ⟨_, hl, rfl⟩
  show wpAny _ A0 (do return .bool (!(← contains (.ref l) x))) Q E s
  refine wpAny_bind (wpAny_contains_slot hT F.slot_tuple_contains (wpAny_mono (call_meetsIn (Q := fun v s' => v = .bool false ∧ Q (.bool true) s') F.slot_tuple_contains hT F.entry_tuple_contains (F.args_tuple_contains_2 _ _) (tup_cW (A0 := A0) (P := P)) ⟨rfl, hP, ⟨its, n, dd, sl, hl, he⟩, fun s' hP' => ⟨rfl, h s' hP'⟩⟩) (fun v s' hv => ?_) fun _ _ e => e))
  obtain ⟨rfl, hq⟩ := hv
  exact wpAny_truthy_bool (wpAny_pure hq)
end
end PySem.SeqAt
set_option Elab.async false
set_option linter.all false
set_option maxRecDepth 100000
set_option maxHeartbeats 4000000
namespace OW
open PySem PySem.Spec PyProof.Rows L2 RZ SkE CL
def spX0 (C : Addr) : Sp := fun vs H Q _ => ∃ a : Addr, vs = [.ref a] ∧ H a = some (exo a C none) ∧ Q .non H
/-- raise C() -/
structure RaiseR0 (C : Addr) (W : WX) (σ : L2.St) (H : Hp) : Prop where
  ex : W (.ref C) none σ H
section
variable {X : Cx}
theorem mk_endN {pins : List (Addr × Obj)} {σ : L2.St} {H1 : Hp} {Q : XK} {hp hp2 h2 : Heap} {g1 g2 : Array GenState} {d1 d2 : Drawn} {t1 t2 : Nat} {os1 os2 : OsState} {a C : Addr} (T : Raises X (.ref C)) (I1 : Inv X pins σ H1 ⟨hp, g1, d1, t1, os1⟩)
    (ha : hp.objs.size ≤ a) (k : ∀ b o, hp.get? b = some o → hp2.get? b = some o) (un : Un (frs X.stack) [] (upd H1 a (exo a C none)) (upd H1 a (exo a C none)) hp2 h2) (hok : HOk X.prog X.w (upd H1 a (exo a C none)) h2) (ho : os2 = os1) (hb : AllBare g2)
    (q : Q (.ref C) none H1) : MkP X pins σ Q (.ref a) ⟨h2, g2, d2, t2, os2⟩ := by
  obtain ⟨t0, hoe⟩ := exo_at hok (e := a) upd_same
  have hn : H1 a = none := I1.hok.fresh ha
  obtain ⟨G, g1', g2'⟩ := restrict h2 fun b => decide (b ≠ a)
  have gk : ∀ b, b ≠ a → G.get? b = h2.get? b := fun b hb => g1' b (decide_eq_true hb)
  have ge : G.get? a = none := g2' a (by simp)
  have nha : ∀ {b : Addr} {o : Obj}, hp.get? b = some o → b ≠ a := fun {b o} z => Nat.ne_of_lt (Nat.lt_of_lt_of_le (Heap.lt_size z) ha)
  have up : ∀ {b : Addr}, b ≠ a → H1 b = none → upd H1 a (exo a C none) b = none := fun {b} hb n => by rw [upd_ne hb]; exact n
  have U : Un (frs X.stack) [] H1 H1 hp G := {
    keep := fun b o z n hf hx => by
      rw [gk b (nha z)]
      exact un.keep b o (k b o z) (up (nha z) n) hf hx
    slot := fun b o z n hf hx => by
      rw [gk b (nha z)]
      exact un.slot b o (k b o z) (up (nha z) n) hf hx
    free := fun b o z n hx => n
    there := fun b o z hx => by
      rw [gk b (nha z)]
      exact un.there b o (k b o z) hx
    tups := fun b xs z => z
    frzs := fun b o v z => z
    tbls := fun b ps z => ⟨#[], by rw [Array.append_empty]; exact z⟩ }
  have hok3 : HOk X.prog X.w H1 G := fun b o z => by
    have hba : b ≠ a := fun e => by
      rw [e, hn] at z
      cases z
    have e : upd H1 a (exo a C none) b = some o := by rw [upd_ne hba]; exact z
    exact (hok b o e).stay (fun c v hc y => by
        have hca : c ≠ a := by
          rcases hc with hc | hc
          · rw [hc]
            exact hba
          · exact at_ne upd_same hc exo_own
        rw [gk c hca]
        exact y)
      (fun c hc => by rw [upd_ne (at_ne upd_same hc exo_own)] at hc; exact hc) (fun c xs hc => by rw [upd_ne (at_ne upd_same hc exo_tup)] at hc; exact hc)
  have J : Inv X pins σ H1 ⟨G, g2, d2, t2, os2⟩ := I1.call' (ch := []) ho U hok3 hb (fun b z => absurd z (by simp))
  refine ⟨a, _, _, ⟨G, g2, d2, t2, os2⟩, _, .ref C, none, rfl, J, fun b o z => ?_, ge, hoe, ⟨rfl, rfl⟩, rfl, rfl, hn, rfl, hb, T, q⟩
  by_cases hba : b = a
  · rw [hba, ge] at z
    cases z
  · exact (gk b hba).symm.trans z
theorem pmk_oex0 {CX : CXT} {x : Str} {C fI : Addr} {k : Nat} {fd : FuncData} {ps : List Str} {p pos : Pos} (T : OexC X.K C) (iC : PySem.W.findIn X.K (.ref C) "__init__" = some (some (.ref fI))) (tI : PySem.W.typeIn X.K (.ref fI) = some (.type "function"))
    (F1 : FnOk X.prog X.w X.K X.mg X.base CX k fI fd ps (spX0 C)) (hr : Room (k + 1) X.A) (hb : Binds X.K fd ps []) (hx : Passes CX X (fun _ _ _ => False)) (hg : Gl X x) (hm : X.mg x = some (.ref C))
    (hdb : (x == ("__debug__" : Str)) = false := by decide) : PMk X (.Call (.Name x p) [] [] pos) (fun _ H Q => Q (.ref C) none H) := by
  intro pins s σ H1 Q I1 h
  obtain ⟨nm, q, N, bs, bm, sn, sub, ab, col, dd, k0, k1, k2, k3, k5, hC, hbm⟩ := T.cls
  refine wpAny_Call_Name_kw (ld_glob I1 hg hm ?_ hdb)
  refine PySem.W.callWith_K0 I1.kIn T.kC ?_
  show wpAny _ _ (call (.ref C) []) _ _ _
  obtain ⟨hp, g, dr, tk, os⟩ := s
  have hsz : hp.objs.size ≤ hp.objs.size + 1 := Nat.le_succ _
  have hn : H1 (hp.objs.size + 1) = none := I1.hok.fresh hsz
  have kk : ∀ b o, hp.get? b = some o → ((hp.push (PySem.W.kdv_tup [])).push (PySem.HandSPX.excO C hp.objs.size)).get? b = some o := fun b o e => Heap.get?_push_of_some _ (Heap.get?_push_of_some _ e)
  have hget : ((hp.push (PySem.W.kdv_tup [])).push (PySem.HandSPX.excO C hp.objs.size)).get? (hp.objs.size + 1) = some (PySem.HandSPX.excO C hp.objs.size) := by heap_get
  have I2 : Inv X pins σ (upd H1 (hp.objs.size + 1) (exo (hp.objs.size + 1) C none)) ⟨(hp.push (PySem.W.kdv_tup [])).push (PySem.HandSPX.excO C hp.objs.size), g, dr, tk, os⟩ :=
    I1.laid (t' := tk) (a := hp.objs.size + 1) (o := exo (hp.objs.size + 1) C none) (h' := (hp.push (PySem.W.kdv_tup [])).push (PySem.HandSPX.excO C hp.objs.size)) kk hsz (exo_ok hget)
  have hq : spX0 C [V.ref (hp.objs.size + 1)] (upd H1 (hp.objs.size + 1) (exo (hp.objs.size + 1) C none)) (fun v H2 => v = .non ∧ H2 = upd H1 (hp.objs.size + 1) (exo (hp.objs.size + 1) C none)) (fun _ _ _ => False) := ⟨_, rfl, upd_same, rfl, rfl⟩
  have r2 : Vals [V.ref (hp.objs.size + 1)] [Value.ref (hp.objs.size + 1)] := .cons rfl .nil
  have hl : ([Value.ref (hp.objs.size + 1)] : List Value).length = ps.length := by
    have e := r2.length
    rw [F1.len _ _ _ _ hq] at e
    exact e.symm
  refine wpAny_call (PySem.HandSPX.call_own F.excBase_ValueError (fun Y => PySem.HandSPX.refsVE_contains Y bm hbm) (I1.kIn _ _ hC) (PySem.W.looks_findIn I1.kIn iC) (fun self => PySem.W.bind_fn I1.kIn self tI) (by show 0 ≤ _; exact Nat.zero_le _)
    (codeAny_mono (F1.run _ X.stack _ _ ⟨[Value.ref (hp.objs.size + 1)], []⟩ [Value.ref (hp.objs.size + 1)] _ _ (fun _ _ _ => False) (hr.make C [] []) (I2.env0.make C [] []) (hb _ [Value.ref (hp.objs.size + 1)] I2.kIn hl) r2 hq) fun r s' hq' => ?_))
  cases r with
  | error er => exact hx pins σ _ _ er s' I2 hq'
  | ok fl =>
    cases fl with
    | ret u =>
      obtain ⟨v, H2, os2, bare2, un2, hok2, rv, ev, e2⟩ := hq'
      subst ev
      subst e2
      obtain ⟨h2, g2, d2, t2, os'⟩ := s'
      exact ⟨rv, mk_endN (raises_own T.exC T.tyC) I1 hsz kk un2 hok2 os2 bare2 h⟩
    | next => exact False.elim hq'
    | brk => exact False.elim hq'
    | cont => exact False.elim hq'
theorem s_raise0 {CX : CXT} {x : Str} {C fI : Addr} {k : Nat} {fd : FuncData} {ps : List Str} {p pos pos2 : Pos} {W : WX} (hc : X.calm = true) (tk : Takes X W) (T : OexC X.K C) (iC : PySem.W.findIn X.K (.ref C) "__init__" = some (some (.ref fI))) (tI : PySem.W.typeIn X.K (.ref fI) = some (.type "function"))
    (F1 : FnOk X.prog X.w X.K X.mg X.base CX k fI fd ps (spX0 C)) (hr : Room (k + 1) X.A) (hb : Binds X.K fd ps []) (hx : Passes CX X (fun _ _ _ => False)) (hg : Gl X x) (hm : X.mg x = some (.ref C))
    (hdb : (x == ("__debug__" : Str)) = false := by decide) : PS X (.Raise (some (.Call (.Name x p) [] [] pos)) none pos2) (fun _ σ H => RaiseR0 C W σ H) :=
  ⟨fun pins s σ H D I h => (ps_raise (W := W) (pos := pos2) hc tk (pmk_oex0 (p := p) T iC tI F1 hr hb hx hg hm hdb)).run pins s σ H D I h.ex⟩
end
theorem init_x0 {P : Program} {w : World} {K : PySem.W.Frag} {mg : Str → Option Value} {base : Heap} {x qual : Str} {st : Stmt} {fa : Addr} {fd : FuncData} {C : Addr} (F : Fun K x qual st fa fd) (S : FnScope ["self"] ["self"] (defScope st))
    (hbody : ∀ (cdv : Value) (A : Around) (outer : List Env) (s : Shared) (H : Hp) (E : XK), PSs (cxOf CX0 P w K mg base ["self"] qual (defScope st) fa cdv A outer s H E).nox (defBody st) tNext) : FnOk P w K mg base CX0 1 fa fd ["self"] (spX0 C) := by
  refine F.ok S (fun vs H Q E h => ?_) (fun cdv A outer s H vs Q E hr h => ⟨_, hbody cdv A outer s H E, ?_⟩)
  · obtain ⟨a, rfl, _⟩ := h
    rfl
  · obtain ⟨a, rfl, ha, q⟩ := h
    exact q
/-- isinstance(e, c), e what was caught, without a dict -/
structure IsEG0 (K : PySem.W.Frag) (D a : Addr) (cls : Value) (d : Option Addr) (x c : V) (H : Hp) (Q : VK) : Prop where
  ex : ∃ (cv : Value) (b : Bool), x = .ref a ∧ cls = .ref D ∧ d = none ∧ (∀ u, RelV c u → u = cv) ∧ PySem.W.kitOne K (.ref D) cv = some b ∧ Q (.bl b) H
def rIsEG0 (K : PySem.W.Frag) (D a : Addr) (cls : Value) (d : Option Addr) : List V → Hp → VK → Prop := fun xs H Q => match xs with
  | [x, c] => IsEG0 K D a cls d x c H Q
  | _ => False
theorem k_isE0 {X : Cx} {K : PySem.W.Frag} {a D : Addr} {oe : Obj} {cls : Value} {d : Option Addr} {pn : List (Addr × Obj)} (hK : X.K = K) (C : ExcC K D) (hz : Zc cls d oe) (hf : ∃ vs, oe.data = .fields vs) : CallR (X.suite a ((a, oe) :: pn)) (.builtin "isinstance") (rIsEG0 K D a cls d) := by
  subst hK
  intro pins s σ H xs us Q I r h
  unfold rIsEG0 at h
  split at h
  · obtain ⟨cv, b, rfl, rfl, rfl, hcv, e, q⟩ := h.ex
    cases r with
    | cons rx rr =>
      cases rr with
      | cons rt rr =>
        cases rr
        cases rx
        have ec := hcv _ rt
        subst ec
        obtain ⟨hget, _⟩ := I.pin (a, oe) (List.mem_append.mpr (.inl List.mem_cons_self))
        obtain ⟨vs, hv⟩ := hf
        have J : PySem.W.InstAt s.heap a oe D none := ⟨hget, hz.1, by unfold PySem.W.notCls; rw [hv] <;> rfl, by rw [hz.2]; trivial⟩
        have hcl : (PySem.W.clsIn X.K D).isSome = true := by
          obtain ⟨cd, hc, _⟩ := PySem.W.any_some C.hd
          rw [hc]
          rfl
        exact PySem.W.kia_one (PySem.W.kitx_exc hcl C.hg C.hk C.hs C.ha C.hn C.ht C.hm) I.kIn J e (fun z => nomatch z) fun tk => ⟨.bl b, H, I.kept (t' := tk) fun _ _ z => z, rfl, q⟩
  · exact h.elim
theorem isE_o0 {K : PySem.W.Frag} {H : Hp} {a D c : Addr} {b : Bool} {Q : VK} (e : PySem.W.kitOne K (.ref D) (.ref c) = some b) (q : Q (.bl b) H) : IsEG0 K D a (.ref D) none (.ref a) (.ref c) H Q :=
  ⟨.ref c, b, rfl, rfl, rfl, fun u r => r, e, q⟩
structure NotO (K : PySem.W.Frag) (C : Addr) (sp : Sp) (H : Hp) (x y : V) (k : Bool → Hp → Prop) : Prop where
  ex : (InE K H x y fun b => k (!b) H) ∨ (∃ (ws : List Str) (a : Addr) (xs : List V), Dp K H y (.tuple (ws.map PyData.str)) ∧ x = .ref a ∧ (H a = some (.lst xs) ∨ H a = some (.tup xs)) ∧ k true H) ∨
    ∃ (ws : List Str) (a : Addr) (PH : Hp → Prop), Dp K H y (.tuple (ws.map PyData.str)) ∧ x = .ref a ∧ PH H ∧ (∀ H' z, PH H' → ∃ dx fs, H' a = some (.ins C dx fs) ∧ sp [.ref a, .str z] H' (fun v H2 => v = .bl false ∧ PH H2) E0) ∧ ∀ H', PH H' → k true H'
def rNotO (K : PySem.W.Frag) (C : Addr) (sp : Sp) : R2 := fun x y H Q => NotO K C sp H x y fun b H' => Q (.bl b) H'
theorem texts_of {h : Heap} : ∀ {ws : List Str} {us : List Value} {as : List Addr}, ReadsAll h us (ws.map PyData.str) as → ∀ u ∈ us, ∃ z t, u = .str z t
  | [], _, _, .nil, u, m => by cases m
  | w :: ws, _, _, .cons r rs, u, m => by
    rcases List.mem_cons.mp m with rfl | m
    · cases r
      exact ⟨_, _, rfl⟩
    · exact texts_of rs u m
section
variable {X : Cx} {n : Nat} {f C : Addr} {fd : FuncData} {ps : List Str} {sp : Sp}
theorem call_str {pins : List (Addr × Obj)} {σ : L2.St} {H : Hp} {s : Shared} {p : Addr} {z : Str} {t : Tok} {PH : Hp → Prop} {E : Value → Shared → Prop} {Q : Bool → Shared → Prop} (F : FnOk X.prog X.w X.K X.mg X.base CX0 n f fd ps sp) (hb : Binds X.K fd ps []) (room : Room (n + 1) X.A)
    (I : Inv X pins σ H s) (h4 : sp [.ref p, .str z] H (fun v H' => v = .bl false ∧ PH H') E0) (k : ∀ H' s', Inv X pins σ H' s' → PH H' → Q false s') : wpAny (model X.prog X.w) X.A.in1 (call (.ref f) [.ref p, .str z t]) (fun v s' => v = .bool false ∧ Q false s') E s := by
  have r1 := room.in1
  have e := I.env0
  have e1 : Env0 X.prog X.w X.K X.mg X.base X.A.in1 X.stack s H := ⟨e.frames, e.mod, e.bs, e.bsz, e.funs, e.frf, e.hok, e.bare⟩
  have vals : Vals [V.ref p, .str z] [Value.ref p, .str z t] := .cons rfl (.cons ⟨t, rfl⟩ .nil)
  have hl : ([Value.ref p, .str z t] ++ []).length = ps.length := by
    rw [List.append_nil, ← vals.length]
    exact F.len _ _ _ _ h4
  have b1 := hb s [.ref p, .str z t] I.kIn hl
  rw [List.append_nil] at b1
  refine wpAny_call (codeAny_mono (F.run X.A.in1 X.stack s H ⟨[.ref p, .str z t], []⟩ [.ref p, .str z t] [.ref p, .str z] _ E0 r1 e1 b1 vals h4) fun res s' hq => ?_)
  match res, hq with
  | .error er, hq => exact hq.elim
  | .ok (.ret u), hq =>
    obtain ⟨v, H', I', rv, ev, ph⟩ := I.after hq
    subst ev
    obtain rfl : u = .bool false := rv
    exact ⟨rfl, k H' s' I' ph⟩
  | .ok .next, hq => exact hq.elim
  | .ok .brk, hq => exact hq.elim
  | .ok .cont, hq => exact hq.elim
theorem c_notinO {K : PySem.W.Frag} (hK : X.K = K) (F : FnOk X.prog X.w X.K X.mg X.base CX0 n f fd ps sp) (hb : Binds X.K fd ps []) (room : Room (n + 1) X.A) (hu : X.A.units + 65 < cLine)
    (hs : PySem.W.findIn X.K (.ref C) "__eq__" = some (some (.ref f))) (hf : PySem.W.isFn X.K (.ref f) = true) (hn : PySem.W.subIn X.K (.ref C) (.type "str") = some false) : OpR X (compareOp .NotIn) (rNotO K C sp) := by
  subst hK
  intro pins s σ H x y v u Q I rx ry h
  have u1 : X.A.in1.units < cLine := room.in1.units0
  rcases h.ex with h | ⟨ws, a, xs, he, rfl, hl, q⟩ | ⟨ws, a, PH, he, rfl, ph, hp, q⟩
  · exact c_notinE rfl hu pins s σ H x y v u Q I rx ry ⟨by
      obtain ⟨d, ds, h1, h2, h3, h4, h5⟩ := h.ex
      exact ⟨d, ds, h1, h2, h3, h4, by simpa using h5⟩⟩
  · obtain ⟨bs, r2⟩ := Dp.reads I _ y u he ry
    cases rx
    cases r2 with
    | @tuple b o vs nn xs2 as h1 h2 h3 h4 =>
      have tx : ∀ z, z ∈ _ → ∃ z1 t, z = Value.str z1 t := fun z m => texts_of h4 z (Array.mem_toList_iff.mpr m)
      have e0 : ∀ z, z ∈ _ → SeqAt.EqAt X.A.in1 s z (.ref a) false := fun z m => by
        obtain ⟨z1, t, rfl⟩ := tx z m
        rcases hl with hl | hl
        · obtain ⟨_, its, n1, _, e⟩ := I.hok a _ hl
          exact SeqAt.EqAt.str_list z1 t ⟨_, e, rfl, _, rfl⟩ u1
        · obtain ⟨its, n1, _, o, e, ec, ed⟩ := I.hok a _ hl
          obtain ⟨n2, ed⟩ := ed
          exact SeqAt.EqAt.str_tuple z1 t ⟨_, e, ec, _, ed⟩ u1
      refine PySem.SeqAt.notIn_tupleAt (fun _ => false) ⟨_, h1, h2, _, h3⟩ e0 ?_
      have e1 : (!vs.any fun _ => false) = true := by simp
      rw [e1]
      exact ⟨.bl true, H, I, rfl, q⟩
  · obtain ⟨bs, r2⟩ := Dp.reads I _ y u he ry
    cases rx
    cases r2 with
    | @tuple b o vs nn xs as h1 h2 h3 h4 =>
      obtain ⟨cls, dd, data, sl⟩ := o
      simp only at h2 h3
      subst h2 h3
      refine PySem.SeqAt.notIn_tupW (P := fun s' => ∃ H', Inv X pins σ H' s' ∧ PH H') ⟨H, I, ph⟩ ⟨vs, nn, dd, sl, h1, fun z m s1 E1 Q1 hP k => ?_⟩ (fun s1 hP => ?_)
      · obtain ⟨z1, t, rfl⟩ := texts_of h4 z (Array.mem_toList_iff.mpr m)
        obtain ⟨H1, I1, ph1⟩ := hP
        obtain ⟨dx, fs, hi, hsp⟩ := hp H1 z1 ph1
        obtain ⟨od, J⟩ := inst_at I1 hi
        exact PySem.SeqAt.eqBool_str_ins u1 I1.kIn J hn hs hf (call_str F hb room I1 hsp fun H2 s2 I2 ph2 => k s2 ⟨H2, I2, ph2⟩)
      · obtain ⟨H1, I1, ph1⟩ := hP
        exact ⟨.bl true, H1, I1, rfl, q H1 ph1⟩
end
end OW
set_option Elab.async false
set_option linter.all false
set_option maxRecDepth 100000
set_option maxHeartbeats 800000
namespace My
open PySem PySem.Spec PyProof.Rows L2 RZ SkE CL OW
def topS (i : Nat) : Stmt := PySem.Challenge.pw_lapseseats_k27_values_that_are_no_faults.main.body.getD i (.Pass ⟨0, 0, 0, 0⟩)
abbrev s_is_integer_from : Stmt := topS 2
theorem sc_is_integer_from : FnScope ["value", "least"] ["value", "least"] (defScope s_is_integer_from) := ⟨rfl, rfl, rfl, by decide +kernel, rfl, by decide +kernel, by decide +kernel⟩
abbrev s_is_sequence : Stmt := topS 3
theorem sc_is_sequence : FnScope ["value"] ["value"] (defScope s_is_sequence) := ⟨rfl, rfl, rfl, by decide +kernel, rfl, by decide +kernel, by decide +kernel⟩
abbrev s_InvalidFault_init : Stmt := inClass (topS 10) 0
theorem sc_InvalidFault_init : FnScope ["self"] ["self"] (defScope s_InvalidFault_init) := ⟨rfl, rfl, rfl, by decide +kernel, rfl, by decide +kernel, by decide +kernel⟩
abbrev s_is_event : Stmt := topS 15
theorem sc_is_event : FnScope ["value", "word", "user"] ["value"] (defScope s_is_event) := ⟨rfl, rfl, rfl, by decide +kernel, rfl, by decide +kernel, by decide +kernel⟩
abbrev s_first_wrong_days : Stmt := topS 16
theorem sc_first_wrong_days : FnScope ["values", "at", "value"] ["values"] (defScope s_first_wrong_days) := ⟨rfl, rfl, rfl, by decide +kernel, rfl, by decide +kernel, by decide +kernel⟩
abbrev s_Day_init : Stmt := inClass (topS 20) 0
theorem sc_Day_init : FnScope ["self", "events", "at"] ["self", "events"] (defScope s_Day_init) := ⟨rfl, rfl, rfl, by decide +kernel, rfl, by decide +kernel, by decide +kernel⟩
abbrev s_most_at_one_seat : Stmt := topS 23
theorem sc_most_at_one_seat : FnScope ["rule"] ["rule"] (defScope s_most_at_one_seat) := ⟨rfl, rfl, rfl, by decide +kernel, rfl, by decide +kernel, by decide +kernel⟩
abbrev s_can_share : Stmt := topS 24
theorem sc_can_share : FnScope ["rule"] ["rule"] (defScope s_can_share) := ⟨rfl, rfl, rfl, by decide +kernel, rfl, by decide +kernel, by decide +kernel⟩
abbrev s_can_be_silent : Stmt := topS 25
theorem sc_can_be_silent : FnScope ["rule"] ["rule"] (defScope s_can_be_silent) := ⟨rfl, rfl, rfl, by decide +kernel, rfl, by decide +kernel, by decide +kernel⟩
abbrev s_silent_borrow : Stmt := topS 26
theorem sc_silent_borrow : FnScope ["rule"] ["rule"] (defScope s_silent_borrow) := ⟨rfl, rfl, rfl, by decide +kernel, rfl, by decide +kernel, by decide +kernel⟩
abbrev s_over_plan : Stmt := topS 27
theorem sc_over_plan : FnScope ["rule", "users", "others", "user"] ["rule", "users"] (defScope s_over_plan) := ⟨rfl, rfl, rfl, by decide +kernel, rfl, by decide +kernel, by decide +kernel⟩
abbrev s_taken_plan : Stmt := topS 28
theorem sc_taken_plan : FnScope ["rule", "users"] ["rule", "users"] (defScope s_taken_plan) := ⟨rfl, rfl, rfl, by decide +kernel, rfl, by decide +kernel, by decide +kernel⟩
abbrev s_twice_plan : Stmt := topS 29
theorem sc_twice_plan : FnScope ["rule", "users"] ["rule", "users"] (defScope s_twice_plan) := ⟨rfl, rfl, rfl, by decide +kernel, rfl, by decide +kernel, by decide +kernel⟩
abbrev s_waits_plan : Stmt := topS 30
theorem sc_waits_plan : FnScope ["rule", "users", "borrows", "user"] ["rule", "users"] (defScope s_waits_plan) := ⟨rfl, rfl, rfl, by decide +kernel, rfl, by decide +kernel, by decide +kernel⟩
abbrev s_plan : Stmt := topS 32
theorem sc_plan : FnScope ["rule", "users", "fault", "make"] ["rule", "users", "fault"] (defScope s_plan) := ⟨rfl, rfl, rfl, by decide +kernel, rfl, by decide +kernel, by decide +kernel⟩
abbrev s_happens : Stmt := topS 33
theorem sc_happens : FnScope ["rule", "users", "fault"] ["rule", "users", "fault"] (defScope s_happens) := ⟨rfl, rfl, rfl, by decide +kernel, rfl, by decide +kernel, by decide +kernel⟩
abbrev s_least_events : Stmt := topS 34
theorem sc_least_events : FnScope ["rule", "users", "fault", "found", "ahead", "passes", "behind"] ["rule", "users", "fault"] (defScope s_least_events) := ⟨rfl, rfl, rfl, by decide +kernel, rfl, by decide +kernel, by decide +kernel⟩
abbrev s_day : Stmt := topS 35
theorem sc_day : FnScope ["rule", "users", "fault", "found", "ahead", "passes", "behind"] ["rule", "users", "fault"] (defScope s_day) := ⟨rfl, rfl, rfl, by decide +kernel, rfl, by decide +kernel, by decide +kernel⟩
abbrev s_is_number_for : Stmt := topS 40
theorem sc_is_number_for : FnScope ["word", "number", "least"] ["word", "number"] (defScope s_is_number_for) := ⟨rfl, rfl, rfl, by decide +kernel, rfl, by decide +kernel, by decide +kernel⟩
abbrev s_Rule_init : Stmt := inClass (topS 44) 0
theorem sc_Rule_init : FnScope ["self", "seats", "lapse", "beat", "grace", "late", "word", "number"] ["self", "seats", "lapse", "beat", "grace", "late"] (defScope s_Rule_init) := ⟨rfl, rfl, rfl, by decide +kernel, rfl, by decide +kernel, by decide +kernel⟩
abbrev s_Rule_eq : Stmt := inClass (topS 44) 3
theorem sc_Rule_eq : FnScope ["self", "other"] ["self", "other"] (defScope s_Rule_eq) := ⟨rfl, rfl, rfl, by decide +kernel, rfl, by decide +kernel, by decide +kernel⟩
abbrev s_Rule_str : Stmt := inClass (topS 44) 4
abbrev s_l_any : Stmt := topS 46
theorem sc_l_any : FnScope ["_law_deal_here", "_law_deep", "_law_rule_here", "_law_form", "_law_some", "_law_odd", "_law_turn"] ["_law_deal_here", "_law_deep", "_law_rule_here"] (defScope s_l_any) := ⟨rfl, rfl, rfl, by decide +kernel, rfl, by decide +kernel, by decide +kernel⟩
abbrev s_l_heard : Stmt := topS 47
theorem sc_l_heard : FnScope ["_law_form", "_law_rule_here", "_law_value", "_law_found", "e"] ["_law_form", "_law_rule_here", "_law_value"] (defScope s_l_heard) := ⟨rfl, rfl, rfl, by decide +kernel, rfl, by decide +kernel, by decide +kernel⟩
abbrev s_l_deal : Stmt := topS 48
theorem sc_l_deal : FnScope ["_law_script", "_law_base", "_law_cells", "_law_blend", "_law_cell"] ["_law_script", "_law_base"] (defScope s_l_deal) := ⟨rfl, rfl, rfl, by decide +kernel, rfl, by decide +kernel, by decide +kernel⟩
abbrev s_l_draw : Stmt := topS 49
theorem sc_l_draw : FnScope ["_law_deal_here", "_law_bound", "_law_left"] ["_law_deal_here", "_law_bound"] (defScope s_l_draw) := ⟨rfl, rfl, rfl, by decide +kernel, rfl, by decide +kernel, by decide +kernel⟩
abbrev s_l_pick : Stmt := topS 50
theorem sc_l_pick : FnScope ["_law_deal_here", "_law_some"] ["_law_deal_here", "_law_some"] (defScope s_l_pick) := ⟨rfl, rfl, rfl, by decide +kernel, rfl, by decide +kernel, by decide +kernel⟩
abbrev s_l_numbers : Stmt := topS 51
theorem sc_l_numbers : FnScope ["_law_deal_here", "_law_seats", "_law_wide", "_law_found", "_law_turn"] ["_law_deal_here", "_law_seats", "_law_wide"] (defScope s_l_numbers) := ⟨rfl, rfl, rfl, by decide +kernel, rfl, by decide +kernel, by decide +kernel⟩
abbrev s_l_rule : Stmt := topS 52
theorem sc_l_rule : FnScope ["_law_numbers_here"] ["_law_numbers_here"] (defScope s_l_rule) := ⟨rfl, rfl, rfl, by decide +kernel, rfl, by decide +kernel, by decide +kernel⟩
abbrev s_law : Stmt := topS 53
theorem sc_law : FnScope ["_law_script", "_law_base", "_law_deal_here", "_law_rule_here", "_law_turn", "_law_value", "_law_is_bad", "_law_form"] ["_law_script"] (defScope s_law) := ⟨rfl, rfl, rfl, by decide +kernel, rfl, by decide +kernel, by decide +kernel⟩
structure Tx (W0 : World) (K : PySem.W.Frag) (mg : Str → Option Value) where
  range : mg "range" = none
  max : mg "max" = none
  min : mg "min" = none
  len : mg "len" = none
  isinstance : mg "isinstance" = none
  str : mg "str" = none
  abs : mg "abs" = none
  int : mg "int" = none
  tuple : mg "tuple" = none
  zip : mg "zip" = none
  bool : mg "bool" = none
  enumerate : mg "enumerate" = none
  list : mg "list" = none
  C_Day : Addr
  c_Day : ClsT K mg C_Day "Day"
  na_Day_events : NoAttr K C_Day "events"
  C_Rule : Addr
  c_Rule : ClsT K mg C_Rule "Rule"
  na_Rule_seats : NoAttr K C_Rule "seats"
  na_Rule_lapse : NoAttr K C_Rule "lapse"
  na_Rule_beat : NoAttr K C_Rule "beat"
  na_Rule_grace : NoAttr K C_Rule "grace"
  na_Rule_late : NoAttr K C_Rule "late"
  C_SeatError : Addr
  ge_SeatError : mg "SeatError" = some (.ref C_SeatError)
  C_InvalidDay : Addr
  ge_InvalidDay : mg "InvalidDay" = some (.ref C_InvalidDay)
  C_InvalidFault : Addr
  ge_InvalidFault : mg "InvalidFault" = some (.ref C_InvalidFault)
  C_InvalidRule : Addr
  ge_InvalidRule : mg "InvalidRule" = some (.ref C_InvalidRule)
  xo_InvalidFault : OexC K C_InvalidFault
  xf_InvalidFault : XfC K C_InvalidFault
  xc_InvalidFault : ExcC K C_InvalidFault
  xm_InvalidFault : PySem.W.exmOne K (.ref C_InvalidFault) (.ref C_InvalidFault) = some true
  kit_InvalidFault_SeatError : PySem.W.kitOne K (.ref C_InvalidFault) (.ref C_SeatError) = some true
  kit_InvalidFault_InvalidRule : PySem.W.kitOne K (.ref C_InvalidFault) (.ref C_InvalidRule) = some false
  kit_InvalidFault_InvalidDay : PySem.W.kitOne K (.ref C_InvalidFault) (.ref C_InvalidDay) = some false
  f_is_integer_from : Addr
  d_is_integer_from : FuncData
  F_is_integer_from : Fun K "is_integer_from" "is_integer_from" s_is_integer_from f_is_integer_from d_is_integer_from
  b_is_integer_from : Binds K d_is_integer_from ["value", "least"] []
  g_is_integer_from : mg "is_integer_from" = some (.ref f_is_integer_from)
  f_is_sequence : Addr
  d_is_sequence : FuncData
  F_is_sequence : Fun K "is_sequence" "is_sequence" s_is_sequence f_is_sequence d_is_sequence
  b_is_sequence : Binds K d_is_sequence ["value"] []
  g_is_sequence : mg "is_sequence" = some (.ref f_is_sequence)
  f_InvalidFault_init : Addr
  d_InvalidFault_init : FuncData
  F_InvalidFault_init : Fun K "__init__" "InvalidFault.__init__" s_InvalidFault_init f_InvalidFault_init d_InvalidFault_init
  b_InvalidFault_init : Binds K d_InvalidFault_init ["self"] []
  xi_InvalidFault : PySem.W.findIn K (.ref C_InvalidFault) "__init__" = some (some (.ref f_InvalidFault_init))
  xt_InvalidFault : PySem.W.typeIn K (.ref f_InvalidFault_init) = some (.type "function")
  f_is_event : Addr
  d_is_event : FuncData
  F_is_event : Fun K "is_event" "is_event" s_is_event f_is_event d_is_event
  b_is_event : Binds K d_is_event ["value"] []
  g_is_event : mg "is_event" = some (.ref f_is_event)
  f_first_wrong_days : Addr
  d_first_wrong_days : FuncData
  F_first_wrong_days : Fun K "first_wrong" "first_wrong" s_first_wrong_days f_first_wrong_days d_first_wrong_days
  b_first_wrong_days : Binds K d_first_wrong_days ["values"] []
  g_first_wrong_days : mg "first_wrong_days" = some (.ref f_first_wrong_days)
  f_Day_init : Addr
  d_Day_init : FuncData
  e_Day_init : Addr
  es_Day_init : ∀ H : Hp, SqT K H e_Day_init []
  el_Day_init : ∃ o, K.lookup e_Day_init = some o ∧ o.cls = .type "tuple"
  F_Day_init : FunD K "__init__" "Day.__init__" (defArgs s_Day_init) (defBody s_Day_init) (defScope s_Day_init) [.ref e_Day_init] [] f_Day_init d_Day_init
  b_Day_init : Binds K d_Day_init ["self", "events"] []
  bd_Day_init : ∃ ds, Vals [.ref e_Day_init] ds ∧ Binds K d_Day_init ["self", "events"] ds
  mk_Day : Mk K C_Day f_Day_init
  f_most_at_one_seat : Addr
  d_most_at_one_seat : FuncData
  F_most_at_one_seat : Fun K "most_at_one_seat" "most_at_one_seat" s_most_at_one_seat f_most_at_one_seat d_most_at_one_seat
  b_most_at_one_seat : Binds K d_most_at_one_seat ["rule"] []
  g_most_at_one_seat : mg "most_at_one_seat" = some (.ref f_most_at_one_seat)
  f_can_share : Addr
  d_can_share : FuncData
  F_can_share : Fun K "can_share" "can_share" s_can_share f_can_share d_can_share
  b_can_share : Binds K d_can_share ["rule"] []
  g_can_share : mg "can_share" = some (.ref f_can_share)
  f_can_be_silent : Addr
  d_can_be_silent : FuncData
  F_can_be_silent : Fun K "can_be_silent" "can_be_silent" s_can_be_silent f_can_be_silent d_can_be_silent
  b_can_be_silent : Binds K d_can_be_silent ["rule"] []
  g_can_be_silent : mg "can_be_silent" = some (.ref f_can_be_silent)
  f_silent_borrow : Addr
  d_silent_borrow : FuncData
  F_silent_borrow : Fun K "silent_borrow" "silent_borrow" s_silent_borrow f_silent_borrow d_silent_borrow
  b_silent_borrow : Binds K d_silent_borrow ["rule"] []
  g_silent_borrow : mg "silent_borrow" = some (.ref f_silent_borrow)
  f_over_plan : Addr
  d_over_plan : FuncData
  F_over_plan : Fun K "over_plan" "over_plan" s_over_plan f_over_plan d_over_plan
  b_over_plan : Binds K d_over_plan ["rule", "users"] []
  g_over_plan : mg "over_plan" = some (.ref f_over_plan)
  f_taken_plan : Addr
  d_taken_plan : FuncData
  F_taken_plan : Fun K "taken_plan" "taken_plan" s_taken_plan f_taken_plan d_taken_plan
  b_taken_plan : Binds K d_taken_plan ["rule", "users"] []
  g_taken_plan : mg "taken_plan" = some (.ref f_taken_plan)
  f_twice_plan : Addr
  d_twice_plan : FuncData
  F_twice_plan : Fun K "twice_plan" "twice_plan" s_twice_plan f_twice_plan d_twice_plan
  b_twice_plan : Binds K d_twice_plan ["rule", "users"] []
  g_twice_plan : mg "twice_plan" = some (.ref f_twice_plan)
  f_waits_plan : Addr
  d_waits_plan : FuncData
  F_waits_plan : Fun K "waits_plan" "waits_plan" s_waits_plan f_waits_plan d_waits_plan
  b_waits_plan : Binds K d_waits_plan ["rule", "users"] []
  g_waits_plan : mg "waits_plan" = some (.ref f_waits_plan)
  f_plan : Addr
  d_plan : FuncData
  F_plan : Fun K "plan" "plan" s_plan f_plan d_plan
  b_plan : Binds K d_plan ["rule", "users", "fault"] []
  g_plan : mg "plan" = some (.ref f_plan)
  f_happens : Addr
  d_happens : FuncData
  F_happens : Fun K "happens" "happens" s_happens f_happens d_happens
  b_happens : Binds K d_happens ["rule", "users", "fault"] []
  g_happens : mg "happens" = some (.ref f_happens)
  f_least_events : Addr
  d_least_events : FuncData
  F_least_events : Fun K "least_events" "least_events" s_least_events f_least_events d_least_events
  b_least_events : Binds K d_least_events ["rule", "users", "fault"] []
  g_least_events : mg "least_events" = some (.ref f_least_events)
  f_day : Addr
  d_day : FuncData
  F_day : Fun K "day" "day" s_day f_day d_day
  b_day : Binds K d_day ["rule", "users", "fault"] []
  g_day : mg "day" = some (.ref f_day)
  f_is_number_for : Addr
  d_is_number_for : FuncData
  F_is_number_for : Fun K "is_number_for" "is_number_for" s_is_number_for f_is_number_for d_is_number_for
  b_is_number_for : Binds K d_is_number_for ["word", "number"] []
  g_is_number_for : mg "is_number_for" = some (.ref f_is_number_for)
  f_Rule_init : Addr
  d_Rule_init : FuncData
  F_Rule_init : FunD K "__init__" "Rule.__init__" (defArgs s_Rule_init) (defBody s_Rule_init) (defScope s_Rule_init) [.int 0] [] f_Rule_init d_Rule_init
  b_Rule_init : Binds K d_Rule_init ["self", "seats", "lapse", "beat", "grace", "late"] []
  bd_Rule_init : ∃ ds, Vals [.int 0] ds ∧ Binds K d_Rule_init ["self", "seats", "lapse", "beat", "grace", "late"] ds
  mk_Rule : Mk K C_Rule f_Rule_init
  f_Rule_eq : Addr
  d_Rule_eq : FuncData
  F_Rule_eq : Fun K "__eq__" "Rule.__eq__" s_Rule_eq f_Rule_eq d_Rule_eq
  b_Rule_eq : Binds K d_Rule_eq ["self", "other"] []
  i_Rule_eq : PySem.W.findIn K (.ref C_Rule) "__eq__" = some (some (.ref f_Rule_eq))
  j_Rule_eq : PySem.W.isFn K (.ref f_Rule_eq) = true
  i_Rule_ne : PySem.W.findIn K (.ref C_Rule) "__ne__" = some (some (.builtin "object.__ne__"))
  f_Rule_str : Addr
  d_Rule_str : FuncData
  F_Rule_str : Fun K "__str__" "Rule.__str__" s_Rule_str f_Rule_str d_Rule_str
  b_Rule_str : Binds K d_Rule_str ["self"] []
  i_Rule_str : PySem.W.findIn K (.ref C_Rule) "__str__" = some (some (.ref f_Rule_str))
  j_Rule_str : PySem.W.isFn K (.ref f_Rule_str) = true
  f_l_any : Addr
  d_l_any : FuncData
  F_l_any : Fun K "_law_any" "_law_any" s_l_any f_l_any d_l_any
  b_l_any : Binds K d_l_any ["_law_deal_here", "_law_deep", "_law_rule_here"] []
  g_l_any : mg "_law_any" = some (.ref f_l_any)
  f_l_heard : Addr
  d_l_heard : FuncData
  F_l_heard : Fun K "_law_heard" "_law_heard" s_l_heard f_l_heard d_l_heard
  b_l_heard : Binds K d_l_heard ["_law_form", "_law_rule_here", "_law_value"] []
  g_l_heard : mg "_law_heard" = some (.ref f_l_heard)
  f_l_deal : Addr
  d_l_deal : FuncData
  F_l_deal : Fun K "_law_deal" "_law_deal" s_l_deal f_l_deal d_l_deal
  b_l_deal : Binds K d_l_deal ["_law_script", "_law_base"] []
  g_l_deal : mg "_law_deal" = some (.ref f_l_deal)
  f_l_draw : Addr
  d_l_draw : FuncData
  F_l_draw : Fun K "_law_draw" "_law_draw" s_l_draw f_l_draw d_l_draw
  b_l_draw : Binds K d_l_draw ["_law_deal_here", "_law_bound"] []
  g_l_draw : mg "_law_draw" = some (.ref f_l_draw)
  f_l_pick : Addr
  d_l_pick : FuncData
  F_l_pick : Fun K "_law_pick" "_law_pick" s_l_pick f_l_pick d_l_pick
  b_l_pick : Binds K d_l_pick ["_law_deal_here", "_law_some"] []
  g_l_pick : mg "_law_pick" = some (.ref f_l_pick)
  f_l_numbers : Addr
  d_l_numbers : FuncData
  F_l_numbers : Fun K "_law_numbers" "_law_numbers" s_l_numbers f_l_numbers d_l_numbers
  b_l_numbers : Binds K d_l_numbers ["_law_deal_here", "_law_seats", "_law_wide"] []
  g_l_numbers : mg "_law_numbers" = some (.ref f_l_numbers)
  f_l_rule : Addr
  d_l_rule : FuncData
  F_l_rule : Fun K "_law_rule" "_law_rule" s_l_rule f_l_rule d_l_rule
  b_l_rule : Binds K d_l_rule ["_law_numbers_here"] []
  g_l_rule : mg "_law_rule" = some (.ref f_l_rule)
  f_law : Addr
  d_law : FuncData
  F_law : Fun K "law" "law" s_law f_law d_law
  b_law : Binds K d_law ["_law_script"] []
  g_law : mg "law" = some (.ref f_law)
  a_WORDS : Addr
  g_WORDS : mg "WORDS" = some (.ref a_WORDS)
  s_WORDS : ∀ H : Hp, SqT K H a_WORDS [.str "seats", .str "lapse", .str "beat", .str "grace", .str "late"]
  a_PASS : Addr
  g_PASS : mg "PASS" = some (.ref a_PASS)
  s_PASS : ∀ H : Hp, SqT K H a_PASS [.str "pass"]
  a_FAULTS : Addr
  g_FAULTS : mg "FAULTS" = some (.ref a_FAULTS)
  s_FAULTS : ∀ H : Hp, SqT K H a_FAULTS [.str "over", .str "taken", .str "twice", .str "waits"]
  a_PLANS : Addr
  g_PLANS : mg "PLANS" = some (.ref a_PLANS)
  kd_PLANS_over : KDct K W0 a_PLANS "over" (.ref f_over_plan)
  kd_PLANS_taken : KDct K W0 a_PLANS "taken" (.ref f_taken_plan)
  kd_PLANS_twice : KDct K W0 a_PLANS "twice" (.ref f_twice_plan)
  kd_PLANS_waits : KDct K W0 a_PLANS "waits" (.ref f_waits_plan)
  a_USER_WORDS : Addr
  g_USER_WORDS : mg "USER_WORDS" = some (.ref a_USER_WORDS)
  s_USER_WORDS : ∀ H : Hp, SqT K H a_USER_WORDS [.str "borrow", .str "word", .str "back", .str "crash", .str "stop", .str "cut", .str "join"]
  kRs : PySem.W.kitOne K (.ref C_Rule) (.type "str") = some false
  ksR : PySem.W.kitOne K (.type "str") (.ref C_Rule) = some false
  sb_Rule : PySem.W.subIn K (.ref C_Rule) (.type "str") = some false
end My
set_option Elab.async false
set_option linter.all false
set_option maxRecDepth 100000
set_option maxHeartbeats 800000
namespace My
open PySem PySem.Spec PyProof.Rows L2 RZ SkE CL OW
/-- five numbers of a rule -/
def Good (ns : List Int) : Prop := ∃ s l b g t : Int, ns = [s, l, b, g, t] ∧ (1 ≤ s ∧ 1 ≤ l ∧ 1 ≤ b ∧ 1 ≤ g ∧ 0 ≤ t) ∧ s ≤ 10000000 ∧ l ≤ 10000000 ∧ b ≤ 10000000 ∧ g ≤ 10000000 ∧ t ≤ 10000000
theorem good_mk {s l b g t : Int} (h : (1 ≤ s ∧ 1 ≤ l ∧ 1 ≤ b ∧ 1 ≤ g ∧ 0 ≤ t) ∧ s ≤ 10000000 ∧ l ≤ 10000000 ∧ b ≤ 10000000 ∧ g ≤ 10000000 ∧ t ≤ 10000000) : Good [s, l, b, g, t] := ⟨_, _, _, _, _, rfl, h⟩
theorem Good.len {ns : List Int} (h : Good ns) : ns.length = 5 := by
  obtain ⟨_, _, _, _, _, rfl, _⟩ := h
  rfl
def leastOf (w : Str) : Int := if w = "late" then 0 else 1
theorem lo_0 : leastOf "seats" = 1 := by decide +kernel
theorem lo_1 : leastOf "lapse" = 1 := by decide +kernel
theorem lo_2 : leastOf "beat" = 1 := by decide +kernel
theorem lo_3 : leastOf "grace" = 1 := by decide +kernel
theorem lo_4 : leastOf "late" = 0 := by decide +kernel
theorem not_from {i : Int} {z : Str} (h : leastOf z ≤ i) : (!intFrom (.int i) (leastOf z)) = false := by
  show (!decide (leastOf z ≤ i)) = false
  rw [decide_eq_true h]
  rfl
def spIntFrom : Sp := fun vs H Q _ => ∃ (x : V) (l : Int), vs = [x, .int l] ∧ AnyV H x ∧ Q (.bl (intFrom x l)) H
def spNumFor : Sp := fun vs H Q _ => ∃ (w : Str) (x : V), vs = [.str w, x] ∧ AnyV H x ∧ Q (.bl (intFrom x (leastOf w))) H
theorem ask_intfrom {x : V} {l : Int} {H : Hp} {Q : VK} {E : XK} (h : AnyV H x) (q : Q (.bl (intFrom x l)) H) : Ask (spIntFrom ([x, .int l] ++ []) H Q E) := ⟨x, l, rfl, h, q⟩
theorem ask_numfor {x : V} {w : Str} {H : Hp} {Q : VK} {E : XK} (h : AnyV H x) (q : Q (.bl (intFrom x (leastOf w))) H) : Ask (spNumFor ([.str w, x] ++ []) H Q E) := ⟨w, x, rfl, h, q⟩
/-- the fields of a rule -/
def rf (ns : List Int) : List (Str × V) := (["seats", "lapse", "beat", "grace", "late"] : List Str).zip (ns.map V.int)
/-- a rule that is made never changes -/
@[irreducible] def ruleI (C : Addr) (r : Addr) (ns : List Int) : Hp → Prop := fun H => Good ns ∧ ∃ dx, H r = some (.ins C dx (rf ns))
theorem stable_rule {C r : Addr} {ns : List Int} : Stable (ruleI C r ns) := fun H H' k h => by
  unfold ruleI at h ⊢
  obtain ⟨g, dx, e⟩ := h
  refine ⟨g, dx, k _ _ e ?_⟩
  obtain ⟨s, l, b, g, t, rfl, _⟩ := g
  rfl
theorem rule_open {C r : Addr} {ns : List Int} {H : Hp} {L : List Ck} {I : List (Hp → Prop)} (h : Own H L I) (e : ruleI C r ns ∈ I) : ∃ dx, H r = some (.ins C dx (rf ns)) := by
  have w := h.imp e
  unfold ruleI at w
  exact w.2
theorem rule_g {C r : Addr} {ns : List Int} {H : Hp} {L : List Ck} {I : List (Hp → Prop)} (h : Own H L I) (e : ruleI C r ns ∈ I) : Good ns := by
  have w := h.imp e
  unfold ruleI at w
  exact w.1
theorem rule_close {C r dx : Addr} {ns : List Int} {H : Hp} {R : List Ck} {I : List (Hp → Prop)} (g : Good ns) (h : Own H (.pt r (.ins C dx (rf ns)) :: R) I) : Own H R (ruleI C r ns :: I) := h.tl.addI stable_rule (by unfold ruleI; exact ⟨g, dx, h.hd⟩)
theorem fld_rule {K : PySem.W.Frag} {C r : Addr} {ns : List Int} {H : Hp} {L : List Ck} {I : List (Hp → Prop)} {f : Str} {v : V} {k : V → Prop} (h : Own H L I) (e : ruleI C r ns ∈ I) (c : Cls K C) (n : NoAttr K C f) (l : (rf ns).lookup f = some v) (q : k v) : Fld K H r f k := by
  obtain ⟨dx, w⟩ := rule_open h e
  exact ⟨C, dx, _, v, w, c, n, l, q⟩
def spInit (C : Addr) : Sp := fun vs H Q _ => ∃ (p dx : Addr) (ns : List Int) (L : List Ck) (I : List (Hp → Prop)), vs = .ref p :: ns.map V.int ∧ Good ns ∧ Own H (.pt p (.ins C dx []) :: L) I ∧ ∀ H', Own H' (.pt p (.ins C dx (rf ns)) :: L) I → Q .non H'
theorem ask_init {C : Addr} {H : Hp} {k : Addr → Hp → Prop} {E : XK} {L : List Ck} {I : List (Hp → Prop)} {ns : List Int} {vs : List V} (e : vs = ns.map V.int) (g : Good ns) (h : Own H L I) (q : ∀ r H', Own H' L (ruleI C r ns :: I) → k r H') :
    Ask (∀ x dx, H x = none → H dx = none → dx ≠ x → spInit C (.ref x :: vs) (upd (upd H dx (.own x)) x (.ins C dx [])) (fun v H2 => v = .non ∧ k x H2) E) :=
  ⟨make_o (k := fun x H' => spInit C (.ref x :: vs) H' (fun v H2 => v = .non ∧ k x H2) E) h fun x dx H' w => ⟨x, dx, ns, L, I, by rw [e], g, w, fun H2 w2 => ⟨rfl, q x H2 (rule_close g w2)⟩⟩⟩
section
variable (P : Program) (W0 : World) {K : PySem.W.Frag} {mg : Str → Option Value} (base : Heap)
set_option hygiene false in
local macro_rules | `(tactic| walk_at "ask") => `(tactic| first
  | fail)
theorem G_is_integer_from (T : Tx W0 K mg) : FnOk P W0 K mg base CX0 1 T.f_is_integer_from T.d_is_integer_from ["value", "least"] spIntFrom := by
  refine T.F_is_integer_from.ok sc_is_integer_from (fun vs H Q E h => ?_) (fun cdv A outer s H vs Q E hr h => ?_)
  · obtain ⟨x, l, rfl, _⟩ := h
    rfl
  · obtain ⟨x, l, rfl, hx, q⟩ := h
    refine ⟨_, (pss_one (ps_ret (e_and (pe_callB k_isi (by rfl) T.isinstance (by decide +kernel) (pa_cons (c_var 0) (pa_cons (pe_bltn (v := .ty "int") (by rfl) T.int (by decide +kernel) rfl) pa_nil))) (e_and (e_not (pe_callB k_isi (by rfl) T.isinstance (by decide +kernel) (pa_cons (c_var 0) (pa_cons (pe_bltn (v := .ty "bool") (by rfl) T.bool (by decide +kernel) rfl) pa_nil)))) (pe_one (pe_cmpR c_ge (c_var 0) (c_var 1) (nomark _))))))), ?_⟩
    cases hx with
    | non => walk_at "go"; exact q
    | bl b => walk_at "go"; exact q
    | int i => walk_at "go"; exact q
    | str z => walk_at "go"; exact q
    | lst e =>
      (conv => whnf)
      refine IsI.mk ⟨_, _, .base (.lst e), (by walk_at "kit"), ?_⟩
      walk_at "go"
      exact q
    | tup e =>
      (conv => whnf)
      refine IsI.mk ⟨_, _, .base (.tup e), (by walk_at "kit"), ?_⟩
      walk_at "go"
      exact q
theorem G_is_number_for (T : Tx W0 K mg) : FnOk P W0 K mg base CX0 2 T.f_is_number_for T.d_is_number_for ["word", "number"] spNumFor := by
  refine T.F_is_number_for.ok sc_is_number_for (fun vs H Q E h => ?_) (fun cdv A outer s H vs Q E hr h => ?_)
  · obtain ⟨w, x, rfl, _⟩ := h
    rfl
  · obtain ⟨w, x, rfl, hx, q⟩ := h
    have hu64 := Room.units hr
    refine ⟨_, (pss_cons (ps_set (i := 2) sc_is_number_for.nd rfl (Or.inl rfl) (e_if (t_cmp (c_eq hu64) (c_var 0) pe_str (nomark _)) pe_int pe_int))
    (pss_one (ps_ret (e_call (G_is_integer_from P W0 base T) (hr.mono (by decide)) (by rfl) T.g_is_integer_from T.F_is_integer_from.kp T.b_is_integer_from .nil pass0 (pa_cons (c_var 1) (pa_cons (c_var 2) pa_nil)))))), ?_⟩
    walk_at "go"
    refine Br.mk (fun hw => ?_) (fun hw => ?_)
    · have e : leastOf w = 0 := if_pos (V.str.inj (of_decide_eq_true hw))
      rw [e] at q
      walk_at "go"
      exact ask_intfrom hx q
    · have e : leastOf w = 1 := if_neg fun z => of_decide_eq_false hw (congrArg V.str z)
      rw [e] at q
      walk_at "go"
      exact ask_intfrom hx q
set_option hygiene false in
local macro_rules | `(tactic| walk_at "cls") => `(tactic| first | exact T.c_Rule.cl | exact T.na_Rule_seats | exact T.na_Rule_lapse | exact T.na_Rule_beat | exact T.na_Rule_grace | exact T.na_Rule_late)
theorem G_Rule_init (T : Tx W0 K mg) : FnOk P W0 K mg base CX0 3 T.f_Rule_init T.d_Rule_init ["self", "seats", "lapse", "beat", "grace", "late"] (spInit T.C_Rule) := by
  refine T.F_Rule_init.ok sc_Rule_init (fun vs H Q E h => ?_) (fun cdv A outer s H vs Q E hr h => ?_)
  · obtain ⟨p, dx, ns, L, I, rfl, ⟨s, l, b, g, t, rfl, _⟩, _⟩ := h
    rfl
  · obtain ⟨p, dx, ns, L, I, rfl, ⟨s, l, b, g, t, rfl, ⟨g0, g1, g2, g3, g4⟩, _⟩, hp, q⟩ := h
    refine ⟨_, PSs.nox (pss_cons (s_for PassesOwn.never (by rfl) (i_zip (by rfl) T.zip (pa_cons (pe_glob (v := .ref _) (by rfl) T.g_WORDS rfl) (pa_cons (e_tup (pa_cons (c_var 1) (pa_cons (c_var 2) (pa_cons (c_var 3) (pa_cons (c_var 4) (pa_cons (c_var 5) pa_nil)))))) pa_nil))) (g_tup (by rfl) (g_cons (pg_name (i := 6) sc_Rule_init.nd rfl (Or.inl rfl)) (g_cons (pg_name (i := 7) sc_Rule_init.nd rfl (Or.inl rfl)) g_nil))) (pss_one (s_if (t_not (t_truth (e_call (G_is_number_for P W0 base T) (hr.mono (by decide)) (by rfl) T.g_is_number_for T.F_is_number_for.kp T.b_is_number_for .nil pass0 (pa_cons (c_var 6) (pa_cons (c_var 7) pa_nil))) (fun _ => rfl))) (pss_one ps_never) pss_nil)))
    (pss_cons (s_fld (c_var 0) (c_var 1))
    (pss_cons (s_fld (c_var 0) (c_var 2))
    (pss_cons (s_fld (c_var 0) (c_var 3))
    (pss_cons (s_fld (c_var 0) (c_var 4))
    (pss_one (s_fld (c_var 0) (c_var 5)))))))), ?_⟩
    walk_at "go"
    have hO := w
    obtain ⟨tp, htp⟩ : ∃ x, x = pp := ⟨_, rfl⟩
    subst htp
    refine ItZ.mk ⟨_, _, .inr ⟨T.s_WORDS _, SqT.of hO.hd, ?_⟩⟩
    (conv => whnf)
    refine fw_zipT (xs := [.str "seats", .str "lapse", .str "beat", .str "grace", .str "late"]) (ys := [.int s, .int l, .int b, .int g, .int t]) rfl (fun i σ H' => ∃ v u, σ = [some (.ref p), some (.int s), some (.int l), some (.int b), some (.int g), some (.int t), v, u] ∧ Own H' (.pt tp (.tup [.int s, .int l, .int b, .int g, .int t]) :: .pt p (.ins T.C_Rule dx []) :: L) I) ⟨_, _, rfl, hO⟩ (fun i σ H' ⟨_, _, _, e⟩ => ⟨T.s_WORDS _, SqT.of e.hd⟩) ?_ ?_
    · rintro i x y tq σ H' hx hy ⟨v, u, rfl, e⟩ htq
      have hi : i < 5 := (List.getElem?_eq_some_iff.mp hx).1
      have e2 := e.new (o := .tup [x, y]) htq
      obtain rfl | rfl | rfl | rfl | rfl : i = 0 ∨ i = 1 ∨ i = 2 ∨ i = 3 ∨ i = 4 := by omega
      all_goals (cases hx; cases hy; walk_at "go"; refine ask_numfor (.int _) ?_; walk_at "go"; refine br_f (not_from (by simp only [lo_0, lo_1, lo_2, lo_3, lo_4]; assumption)) ?_; walk_at "go"; exact ⟨_, _, rfl, e2.tl⟩)
    · rintro σ H' ⟨v, u, rfl, e⟩
      walk_at "go"
      exact q _ (by walk_at "own")
end
end My
set_option Elab.async false
set_option linter.all false
set_option maxRecDepth 100000
set_option maxHeartbeats 800000
namespace My
open PySem PySem.Spec PyProof.Rows L2 RZ SkE CL OW
def spEqS (C : Addr) : Sp := fun vs H Q _ => ∃ (a : Addr) (z : Str) (n : List Int) (L : List Ck) (I : List (Hp → Prop)), vs = [.ref a, .str z] ∧ Own H L I ∧ ruleI C a n ∈ I ∧ ∀ H', Own H' L I → Q (.bl false) H'
section
variable (P : Program) (W0 : World) {K : PySem.W.Frag} {mg : Str → Option Value} (base : Heap)
set_option hygiene false in
local macro_rules | `(tactic| walk_at "cls") => `(tactic| first | exact T.c_Rule.cl | exact T.na_Rule_seats | exact T.na_Rule_lapse | exact T.na_Rule_beat | exact T.na_Rule_grace | exact T.na_Rule_late)
local macro_rules | `(tactic| walk_at "fld") => `(tactic| refine fld_rule (by assumption) (by walk_at "mem") (by walk_at "cls") (by walk_at "cls") rfl ?_)
local macro_rules | `(tactic| walk_at "good") => `(tactic| first | assumption | exact good_mk (by omega))
local macro_rules | `(tactic| walk_at "sm") => `(tactic| assumption)
local macro_rules | `(tactic| walk_at "lo") => `(tactic| first | omega | (simp only [lo_0, lo_1, lo_2, lo_3, lo_4]; omega))
set_option hygiene false in
local macro_rules | `(tactic| walk_at "seq") => `(tactic| first | exact T.s_WORDS _ | exact T.s_PASS _ | exact T.s_FAULTS _ | exact T.s_USER_WORDS _)
set_option hygiene false in
local macro_rules | `(tactic| walk_at "ask") => `(tactic| first
  | fail)
theorem G_Rule_eq (T : Tx W0 K mg) : FnOk P W0 K mg base CX0 1 T.f_Rule_eq T.d_Rule_eq ["self", "other"] (spEqS T.C_Rule) := by
  refine T.F_Rule_eq.ok sc_Rule_eq (fun vs H Q E h => ?_) (fun cdv A outer s H vs Q E hr h => ?_)
  · obtain ⟨a, z, n, L, I, rfl, _⟩ := h
    rfl
  · obtain ⟨a, z, n, L, I, rfl, hO, pa, k⟩ := h
    have hu64 := Room.units hr
    obtain ⟨a0, a1, a2, a3, a4, rfl, _⟩ := rule_g hO pa
    refine ⟨_, (pss_one (ps_ret (e_and (pe_callB k_isi (by rfl) T.isinstance (by decide +kernel) (pa_cons (c_var 1) (pa_cons (pe_glob (v := .ref _) (by rfl) T.c_Rule.g rfl) pa_nil))) (e_and (pe_cmpR (c_eq hu64) (e_fld (c_var 0)) (e_fld (c_var 1)) (nomark _)) (e_and (pe_cmpR (c_eq hu64) (e_fld (c_var 0)) (e_fld (c_var 1)) (nomark _)) (e_and (pe_cmpR (c_eq hu64) (e_fld (c_var 0)) (e_fld (c_var 1)) (nomark _)) (e_and (pe_cmpR (c_eq hu64) (e_fld (c_var 0)) (e_fld (c_var 1)) (nomark _)) (pe_one (pe_cmpR (c_eq hu64) (e_fld (c_var 0)) (e_fld (c_var 1)) (nomark _)))))))))), ?_⟩
    walk_at "go"
    refine ⟨.inl ⟨.type "str", false, .base (.str _), T.ksR, ?_⟩⟩
    walk_at "go"
    exact k _ hO
end
end My
set_option Elab.async false
set_option linter.all false
set_option maxRecDepth 100000
set_option maxHeartbeats 800000
namespace My
open PySem PySem.Spec PyProof.Rows L2 RZ SkE CL OW
section
variable (P : Program) (W0 : World) {K : PySem.W.Frag} {mg : Str → Option Value} (base : Heap)
theorem G_InvalidFault_init (T : Tx W0 K mg) : FnOk P W0 K mg base CX0 1 T.f_InvalidFault_init T.d_InvalidFault_init ["self"] (spX0 T.C_InvalidFault) :=
  init_x0 T.F_InvalidFault_init sc_InvalidFault_init (fun _ _ _ _ _ _ => pss_one ps_pass)
end
end My
set_option Elab.async false
set_option linter.all false
set_option maxRecDepth 100000
set_option maxHeartbeats 800000
namespace My
open PySem PySem.Spec PyProof.Rows L2 RZ SkE CL OW
/-- where draws come from: the great cells that are left, a number -/
@[irreducible] def dealCk (b : Addr) : Ck := .ab fun l => ∃ (q : Addr) (bl : Int) (big : List Int), (0 ≤ bl ∧ bl < 2147483647) ∧ big.length ≤ 63 ∧ l = [(b, .lst [.ref q, .int bl]), (q, .lst (big.map V.int))]
theorem deal_open {b : Addr} {H : Hp} {L R : List Ck} {I : List (Hp → Prop)} (h : Own H L I) (e : Pull L (dealCk b) R) : ∃ (q : Addr) (bl : Int) (big : List Int), (0 ≤ bl ∧ bl < 2147483647) ∧ big.length ≤ 63 ∧ Own H (.pt b (.lst [.ref q, .int bl]) :: .pt q (.lst (big.map V.int)) :: R) I := by
  have h1 := h.pull e
  unfold dealCk at h1
  obtain ⟨l, ⟨q, bl, big, c, c2, rfl⟩, w⟩ := h1.open_
  exact ⟨q, bl, big, c, c2, w⟩
theorem deal_close {b q : Addr} {bl : Int} {big : List Int} {H : Hp} {R : List Ck} {I : List (Hp → Prop)} (c : 0 ≤ bl ∧ bl < 2147483647) (c2 : big.length ≤ 63) (h : Own H (.pt b (.lst [.ref q, .int bl]) :: .pt q (.lst (big.map V.int)) :: R) I) : Own H (dealCk b :: R) I := by
  unfold dealCk
  exact Own.close (l := [(b, .lst [.ref q, .int bl]), (q, .lst (big.map V.int))]) ⟨q, bl, big, c, c2, rfl⟩ h
def spDraw : Sp := fun vs H Q _ => ∃ (b : Addr) (n : Int) (L R : List Ck) (I : List (Hp → Prop)), vs = [.ref b, .int n] ∧ Own H L I ∧ Pull L (dealCk b) R ∧ 0 < n ∧ n < 1073741824 ∧ ∀ H' d, 0 ≤ d → d < n → Own H' (dealCk b :: R) I → Q (.int d) H'
theorem ask_draw {b : Addr} {n : Int} {H : Hp} {Q : VK} {E : XK} {L R : List Ck} {I : List (Hp → Prop)} (h : Own H L I) (p : Pull L (dealCk b) R) (h0 : 0 < n) (h1 : n < 1073741824) (k : ∀ H' d, 0 ≤ d → d < n → Own H' (dealCk b :: R) I → Q (.int d) H') : Ask (spDraw ([.ref b, .int n] ++ []) H Q E) := ⟨b, n, L, R, I, rfl, h, p, h0, h1, k⟩
def spDeal (K : PySem.W.Frag) : Sp := fun vs H Q _ => ∃ (a : Addr) (k : Int) (ns : List Int) (L : List Ck) (I : List (Hp → Prop)), vs = [.ref a, .int k] ∧ Own H L I ∧ seqI K a (ns.map V.int) ∈ I ∧ ns.length ≤ 63 ∧ (0 ≤ k ∧ k < 100) ∧ ∀ H' p, Own H' (dealCk p :: L) I → Q (.ref p) H'
theorem ask_deal {K : PySem.W.Frag} {a : Addr} {k : Int} {ns : List Int} {H : Hp} {Q : VK} {E : XK} {L : List Ck} {I : List (Hp → Prop)} (h : Own H L I) (p : seqI K a (ns.map V.int) ∈ I) (l : ns.length ≤ 63) (h0 : 0 ≤ k ∧ k < 100) (q : ∀ H' p, Own H' (dealCk p :: L) I → Q (.ref p) H') : Ask (spDeal K ([.ref a, .int k] ++ []) H Q E) := ⟨a, k, ns, L, I, rfl, h, p, l, h0, q⟩
section
variable (P : Program) (W0 : World) {K : PySem.W.Frag} {mg : Str → Option Value} (base : Heap)
local macro_rules | `(tactic| walk_at "shp") => `(tactic| first | exact shaped_ints _ | exact shaped_nil)
set_option hygiene false in
local macro_rules | `(tactic| walk_at "cls") => `(tactic| first | exact T.c_Rule.cl | exact T.na_Rule_seats | exact T.na_Rule_lapse | exact T.na_Rule_beat | exact T.na_Rule_grace | exact T.na_Rule_late)
local macro_rules | `(tactic| walk_at "fld") => `(tactic| refine fld_rule (by assumption) (by walk_at "mem") (by walk_at "cls") (by walk_at "cls") rfl ?_)
local macro_rules | `(tactic| walk_at "good") => `(tactic| first | assumption | exact good_mk (by omega))
local macro_rules | `(tactic| walk_at "sm") => `(tactic| assumption)
local macro_rules | `(tactic| walk_at "lo") => `(tactic| first | omega | (simp only [lo_0, lo_1, lo_2, lo_3, lo_4]; omega))
set_option hygiene false in
local macro_rules | `(tactic| walk_at "seq") => `(tactic| first | exact T.s_WORDS _ | exact T.s_PASS _ | exact T.s_FAULTS _ | exact T.s_USER_WORDS _)
set_option hygiene false in
local macro_rules | `(tactic| walk_at "ask") => `(tactic| first
  | fail)
theorem G_l_draw (T : Tx W0 K mg) : FnOk P W0 K mg base CX0 1 T.f_l_draw T.d_l_draw ["_law_deal_here", "_law_bound"] spDraw := by
  refine T.F_l_draw.ok sc_l_draw (fun vs H Q E h => ?_) (fun cdv A outer s H vs Q E hr h => ?_)
  · obtain ⟨b, n, L, R, I, rfl, _⟩ := h
    rfl
  · obtain ⟨b, n, L, R, I, rfl, hO, hp, h0, h1, k⟩ := h
    have hu64 := Room.units hr
    obtain ⟨q, bl, big, c1, c2, hO⟩ := deal_open hO hp
    refine ⟨_, (pss_cons (s_while PassesOwn.never (PW.pt (w_and (t_cmp (c_ne hu64) (pe_ix (c_ixK (K := K) rfl) (c_var 0) pe_int (fun _ _ => rfl)) (e_lst pa_nil) (nomark _)) (w_and1 (t_cmp (c_eq hu64) (pe_ix (c_ixK (K := K) rfl) (pe_ix (c_ixK (K := K) rfl) (c_var 0) pe_int (fun _ _ => rfl)) (pe_un un_neg pe_int) (fun _ _ => rfl)) pe_int (nomark _))))) (pss_one (ps_expr (pe_bm0 PySem.F.plainAttrs_list PySem.F.slot_list_pop PySem.F.type_list_pop m_pop0 (pe_ix (c_ixK (K := K) rfl) (c_var 0) pe_int (fun _ _ => rfl))))))
    (pss_cons (s_if (t_cmp (c_ne hu64) (pe_ix (c_ixK (K := K) rfl) (c_var 0) pe_int (fun _ _ => rfl)) (e_lst pa_nil) (nomark _)) (pss_cons (ps_set (i := 2) sc_l_draw.nd rfl (Or.inl rfl) (pe_bm0 PySem.F.plainAttrs_list PySem.F.slot_list_pop PySem.F.type_list_pop m_pop0 (pe_ix (c_ixK (K := K) rfl) (c_var 0) pe_int (fun _ _ => rfl))))
    (pss_cons (ps_expr (pe_bm PySem.F.plainAttrs_list PySem.F.slot_list_append PySem.F.type_list_append m_appG (pe_ix (c_ixK (K := K) rfl) (c_var 0) pe_int (fun _ _ => rfl)) (pa_cons (pe_op c_div (c_var 2) (c_var 1)) pa_nil)))
    (pss_one (ps_ret (pe_op c_mod (pe_callTy k_intG (by rfl) T.int (by decide +kernel) (pa_cons (c_var 2) pa_nil)) (c_var 1)))))) pss_nil)
    (pss_cons (ps_asg (pe_op c_mod (pe_callTy k_intG (by rfl) T.int (by decide +kernel) (pa_cons (pe_op c_addG (pe_op c_mul (pe_ix (c_ixK (K := K) rfl) (c_var 0) pe_int (fun _ _ => rfl)) pe_int) pe_int) pa_nil)) pe_int) (pg_sub (c_var 0) pe_int p_set))
    (pss_one (ps_ret (pe_op c_mod (pe_callTy k_intG (by rfl) T.int (by decide +kernel) (pa_cons (pe_op c_div (pe_ix (c_ixK (K := K) rfl) (c_var 0) pe_int (fun _ _ => rfl)) pe_int) pa_nil)) (c_var 1))))))), ?_⟩
    (conv => whnf)
    refine wh_by (fun m σ H' => ∃ (big : List Int) (v : Option V), m = big.length ∧ big.length ≤ 63 ∧ σ = [some (.ref b), some (.int n), v] ∧ Own H' (.pt b (.lst [.ref q, .int bl]) :: .pt q (.lst (big.map V.int)) :: R) I) big.length ⟨big, _, rfl, c2, rfl, hO⟩ ?_
    rintro m σ H1 ⟨big, v, rfl, c2, rfl, hO⟩
    walk_at "go"
    have fin : ∀ (d bl' : Int) (big' : List Int) (H' : Hp), 0 ≤ d → d < n → (0 ≤ bl' ∧ bl' < 2147483647) → big'.length ≤ 63 → Own H' (.pt b (.lst [.ref q, .int bl']) :: .pt q (.lst (big'.map V.int)) :: R) I → Q (.int d) H' := fun d bl' big' H' z1 z2 z3 z4 w => k H' d z1 z2 (deal_close z3 z4 w)
    obtain rfl | ⟨l, x, rfl⟩ := List.eq_nil_or_concat big
    · walk_at "go"
      refine fin _ _ [] _ (Int.emod_nonneg _ (by omega)) (Int.emod_lt_of_pos _ h0) ⟨Int.emod_nonneg _ (by decide), Int.emod_lt_of_pos _ (by decide)⟩ (by decide) (by walk_at "own")
    · simp only [List.concat_eq_append] at *
      have hl : l.length ≤ 62 := by rw [List.length_append] at c2; simp at c2; omega
      walk_at "go"
      refine br_t nenil ?_
      walk_at "go"
      refine At.mk ⟨_, at_lastM _ _ _, ?_⟩
      walk_at "go"
      refine Br.mk (fun hx => ?_) (fun hx => ?_)
      · walk_at "go"
        refine LastOf.mk ⟨_, last_ofM _ _ _, ?_⟩
        walk_at "go"
        refine ⟨l.length, by rw [List.length_append]; simp, l, _, rfl, by omega, rfl, ?_⟩
        rw [← drop_snocM V.int l x]
        walk_at "own"
      · walk_at "go"
        refine br_t nenil ?_
        walk_at "go"
        refine LastOf.mk ⟨_, last_ofM _ _ _, ?_⟩
        walk_at "go"
        refine Chk.mk (by rw [drop_snocM, List.length_map, sizeLine_eq]; omega) ?_
        walk_at "go"
        refine fin _ bl (l ++ [x / n]) _ (Int.emod_nonneg _ (by omega)) (Int.emod_lt_of_pos _ h0) c1 (by rw [List.length_append]; simp; omega) ?_
        rw [map_snoc, ← drop_snocM V.int l x]
        walk_at "own"
end
end My
set_option Elab.async false
set_option linter.all false
set_option maxRecDepth 100000
set_option maxHeartbeats 800000
namespace My
open PySem PySem.Spec PyProof.Rows L2 RZ SkE CL OW
def spPick : Sp := fun vs H Q _ => ∃ (b l : Addr) (xs : List V) (L R R2 : List Ck) (I : List (Hp → Prop)), vs = [.ref b, .ref l] ∧ Own H L I ∧ Pull L (dealCk b) R ∧ Pull L (.pt l (.lst xs)) R2 ∧ (0 < xs.length ∧ xs.length < 1000) ∧ ∀ H' x, x ∈ xs → Own H' (dealCk b :: R) I → Q x H'
theorem ask_pick {b l : Addr} {xs : List V} {H : Hp} {Q : VK} {E : XK} {L R R2 : List Ck} {I : List (Hp → Prop)} (h : Own H L I) (p : Pull L (dealCk b) R) (p2 : Pull L (.pt l (.lst xs)) R2) (n : 0 < xs.length ∧ xs.length < 1000) (q : ∀ H' x, x ∈ xs → Own H' (dealCk b :: R) I → Q x H') : Ask (spPick ([.ref b, .ref l] ++ []) H Q E) := ⟨b, l, xs, L, R, R2, I, rfl, h, p, p2, n, q⟩
/-- five numbers drawn -/
def Drawn (S W : Int) (ns : List Int) : Prop := ∃ s l b g t : Int, ns = [s, l, b, g, t] ∧ (1 ≤ s ∧ s ≤ S) ∧ (1 ≤ l ∧ l ≤ W) ∧ (1 ≤ b ∧ b ≤ W) ∧ (1 ≤ g ∧ g ≤ W) ∧ 0 ≤ t ∧ t < 3
theorem Drawn.good {S W : Int} {ns : List Int} (h : Drawn S W ns) (hs : S ≤ 10000000) (hw : W ≤ 10000000) : Good ns := by
  obtain ⟨s, l, b, g, t, rfl, h⟩ := h
  exact good_mk (by omega)
def spNumbers : Sp := fun vs H Q _ => ∃ (b : Addr) (S W : Int) (L R : List Ck) (I : List (Hp → Prop)), vs = [.ref b, .int S, .int W] ∧ Own H L I ∧ Pull L (dealCk b) R ∧ (0 < S ∧ S < 1073741824) ∧ (0 < W ∧ W < 1073741824) ∧ ∀ H' p ns, Drawn S W ns → Own H' (.pt p (.tup (ns.map V.int)) :: dealCk b :: R) I → Q (.ref p) H'
theorem ask_numbers {b : Addr} {S W : Int} {H : Hp} {Q : VK} {E : XK} {L R : List Ck} {I : List (Hp → Prop)} (h : Own H L I) (p : Pull L (dealCk b) R) (hs : 0 < S ∧ S < 1073741824) (hw : 0 < W ∧ W < 1073741824) (q : ∀ H' p ns, Drawn S W ns → Own H' (.pt p (.tup (ns.map V.int)) :: dealCk b :: R) I → Q (.ref p) H') : Ask (spNumbers ([.ref b, .int S, .int W] ++ []) H Q E) := ⟨b, S, W, L, R, I, rfl, h, p, hs, hw, q⟩
def spLRule (C : Addr) : Sp := fun vs H Q _ => ∃ (p : Addr) (ns : List Int) (L R : List Ck) (I : List (Hp → Prop)), vs = [.ref p] ∧ Own H L I ∧ Pull L (.pt p (.tup (ns.map V.int))) R ∧ Good ns ∧ ∀ H' r, Own H' L (ruleI C r ns :: I) → Q (.ref r) H'
theorem ask_lrule {C p : Addr} {ns : List Int} {H : Hp} {Q : VK} {E : XK} {L R : List Ck} {I : List (Hp → Prop)} (h : Own H L I) (e : Pull L (.pt p (.tup (ns.map V.int))) R) (g : Good ns) (q : ∀ H' r, Own H' L (ruleI C r ns :: I) → Q (.ref r) H') : Ask (spLRule C ([.ref p] ++ []) H Q E) := ⟨p, ns, L, R, I, rfl, h, e, g, q⟩
theorem pull_mem {α : Type} {d : α} : ∀ {R : List α}, d ∈ R → ∃ R3, Pull R d R3
  | x :: R, m => by
    rcases List.mem_cons.mp m with rfl | m
    · exact ⟨_, .head⟩
    · obtain ⟨R3, e⟩ := pull_mem m
      exact ⟨_, .tail e⟩
theorem pull_other {α : Type} {L R R2 : List α} {c d : α} (h : Pull L c R) (g : Pull L d R2) (n : c ≠ d) : ∃ R3, Pull R d R3 := by
  have m : d ∈ c :: R := h.perm.mem_iff.mp (g.perm.mem_iff.mpr List.mem_cons_self)
  rcases List.mem_cons.mp m with e | m
  · exact (n e.symm).elim
  · exact pull_mem m
section
variable (P : Program) (W0 : World) {K : PySem.W.Frag} {mg : Str → Option Value} (base : Heap)
local macro_rules | `(tactic| walk_at "shp") => `(tactic| first | exact shaped_ints _ | exact shaped_nil)
set_option hygiene false in
local macro_rules | `(tactic| walk_at "cls") => `(tactic| first | exact T.c_Rule.cl | exact T.na_Rule_seats | exact T.na_Rule_lapse | exact T.na_Rule_beat | exact T.na_Rule_grace | exact T.na_Rule_late)
local macro_rules | `(tactic| walk_at "fld") => `(tactic| refine fld_rule (by assumption) (by walk_at "mem") (by walk_at "cls") (by walk_at "cls") rfl ?_)
local macro_rules | `(tactic| walk_at "good") => `(tactic| first | assumption | exact good_mk (by omega))
local macro_rules | `(tactic| walk_at "sm") => `(tactic| assumption)
local macro_rules | `(tactic| walk_at "lo") => `(tactic| first | omega | (simp only [lo_0, lo_1, lo_2, lo_3, lo_4]; omega))
set_option hygiene false in
local macro_rules | `(tactic| walk_at "seq") => `(tactic| first | exact T.s_WORDS _ | exact T.s_PASS _ | exact T.s_FAULTS _ | exact T.s_USER_WORDS _)
set_option hygiene false in
local macro_rules | `(tactic| walk_at "ask") => `(tactic| first
  | fail)
theorem G_l_deal (T : Tx W0 K mg) : FnOk P W0 K mg base CX0 1 T.f_l_deal T.d_l_deal ["_law_script", "_law_base"] (spDeal K) := by
  refine T.F_l_deal.ok sc_l_deal (fun vs H Q E h => ?_) (fun cdv A outer s H vs Q E hr h => ?_)
  · obtain ⟨a, k, ns, L, I, rfl, _⟩ := h
    rfl
  · obtain ⟨a, k, ns, L, I, rfl, hO, hI, hl, hk, q⟩ := h
    have hu64 := Room.units hr
    obtain ⟨ms, em, lm⟩ := cutV_ints ns (some k) (some 58)
    refine ⟨_, (pss_cons (s_setlc (i := 2) (own := [("_law_cell", 4)]) (by rfl) sc_l_deal.nd rfl rfl (sw_true rfl rfl rfl (by decide +kernel)) (i_val (pe_slice c_slG (c_var 0) (o_some (c_var 1)) (o_some pe_int))) (blkOk_by (own := [("_law_cell", 4)]) (N := ["_law_script", "_law_base", "_law_cells", "_law_blend", "_law_cell"]) (sc := defScope s_l_deal) (by decide +kernel)) (fun _ _ _ _ _ => (pg_name (i := 4) sc_l_deal.nd rfl (Or.inl rfl))) (fun _ _ _ _ _ => pts_nil) (fun _ _ _ _ _ => (pe_callB k_abs (by rfl) T.abs (by decide +kernel) (pa_cons (c_var 4) pa_nil))))
    (pss_cons (ps_set (i := 3) sc_l_deal.nd rfl (Or.inl rfl) (pe_op c_addG pe_int (pe_op c_mul pe_int (c_var 1))))
    (pss_cons (s_for PassesOwn.never (by rfl) (i_val (c_var 2)) (pg_name (i := 4) sc_l_deal.nd rfl (Or.inl rfl)) (pss_one (ps_set (i := 3) sc_l_deal.nd rfl (Or.inl rfl) (pe_op c_mod (pe_callTy k_intG (by rfl) T.int (by decide +kernel) (pa_cons (pe_op c_addG (pe_op c_addG (pe_op c_mul (c_var 3) pe_int) (pe_op c_mod (pe_callTy k_intG (by rfl) T.int (by decide +kernel) (pa_cons (c_var 4) pa_nil)) pe_int)) pe_int) pa_nil)) pe_int))))
    (pss_one (ps_ret (e_lst (pa_cons (e_rev (e_lc (own := [("_law_cell", 4)]) (by rfl) sc_l_deal.nd (i_val (c_var 2)) (blkOk_by (own := [("_law_cell", 4)]) (N := ["_law_script", "_law_base", "_law_cells", "_law_blend", "_law_cell"]) (sc := defScope s_l_deal) (by decide +kernel)) (fun _ _ _ _ _ => (pg_name (i := 4) sc_l_deal.nd rfl (Or.inl rfl))) (fun _ _ _ _ _ => (pts_one (t_cmp c_ge (c_var 4) (pe_op c_pow pe_int pe_int) (nomark _)))) (fun _ _ _ _ _ => (c_var 4)))) (pa_cons (c_var 3) pa_nil)))))))), ?_⟩
    (conv => whnf)
    refine slg_s hO hI (fun sl H1 w => ?_)
    rw [em] at w
    walk_at "go"
    refine newa_o (by assumption) (fun p w => ?_)
    refine la_list (xs := ms.map V.int) (fun i H' => ∃ cs : List Int, cs.length = i ∧ Own H' (.pt p (.lst (cs.map V.int)) :: .pt sl (.lst (ms.map V.int)) :: L) I) ⟨[], rfl, w⟩ (fun i H' _ ⟨cs, _, e⟩ => SqL.of (e.get (.tail .head))) ?_ ?_
    · rintro i x H' hx ⟨cs, hc, e⟩
      have hi : i < ms.length := by have := (List.getElem?_eq_some_iff.mp hx).1; rwa [List.length_map] at this
      rw [int_at hi] at hx
      cases hx
      unfold LcT
      walk_at "go"
      rw [← map_snoc V.int] at w
      exact ⟨_, by simp [hc], w⟩
    · rintro H' ⟨cs, hc, e⟩
      rw [List.length_map] at hc
      walk_at "go"
      refine fw_list (xs := cs.map V.int) (fun i σ H' => ∃ (bl : Int) (v : Option V), (0 ≤ bl ∧ bl < 2147483647) ∧ σ = [some (.ref a), some (.int k), some (.ref p), some (.int bl), v] ∧ Own H' (.pt p (.lst (cs.map V.int)) :: L) I) ⟨_, _, by omega, rfl, by walk_at "own"⟩ (fun i σ H' _ ⟨_, _, _, _, e⟩ => SqL.of e.hd) ?_ ?_
      · rintro i x σ H2 hx ⟨bl, v, hb, rfl, e⟩
        have hi : i < cs.length := by have := (List.getElem?_eq_some_iff.mp hx).1; rwa [List.length_map] at this
        rw [int_at hi] at hx
        cases hx
        walk_at "go"
        exact ⟨_, _, ⟨Int.emod_nonneg _ (by decide), Int.emod_lt_of_pos _ (by decide)⟩, rfl, e⟩
      · rintro σ H2 ⟨bl, v, hb, rfl, e⟩
        walk_at "go"
        refine newa_o (by assumption) (fun p2 w2 => ?_)
        refine la_list (xs := cs.map V.int) (fun i H' => ∃ ds : List Int, ds.length ≤ i ∧ Own H' (.pt p2 (.lst (ds.map V.int)) :: .pt p (.lst (cs.map V.int)) :: L) I) ⟨[], Nat.le_refl _, w2⟩ (fun i H' _ ⟨cs, _, e⟩ => SqL.of (e.get (.tail .head))) ?_ ?_
        · rintro i x H' hx ⟨ds, hd, e⟩
          have hi : i < cs.length := by have := (List.getElem?_eq_some_iff.mp hx).1; rwa [List.length_map] at this
          rw [int_at hi] at hx
          cases hx
          unfold LcT
          walk_at "go"
          refine Br.mk (fun _ => ?_) (fun _ => ?_)
          · walk_at "go"
            rw [← map_snoc V.int] at w
            exact ⟨_, by simp; omega, w⟩
          · exact ⟨ds, by omega, e⟩
        · rintro H' ⟨ds, hd, e⟩
          rw [List.length_map] at hd
          walk_at "go"
          rw [← List.map_reverse] at w
          exact q _ _ (deal_close (big := ds.reverse) hb (by rw [List.length_reverse]; omega) (by walk_at "own"))
section
set_option hygiene false in
local macro_rules | `(tactic| walk_at "ask") => `(tactic| refine ask_draw (by assumption) (by walk_at "pull") (by walk_at "sd") (by walk_at "sd") (fun HH d d0 d1 w => ?_))
theorem G_l_pick (T : Tx W0 K mg) : FnOk P W0 K mg base CX0 2 T.f_l_pick T.d_l_pick ["_law_deal_here", "_law_some"] spPick := by
  refine T.F_l_pick.ok sc_l_pick (fun vs H Q E h => ?_) (fun cdv A outer s H vs Q E hr h => ?_)
  · obtain ⟨b, l, xs, L, R, R2, I, rfl, _⟩ := h
    rfl
  · obtain ⟨b, l, xs, L, R, R2, I, rfl, hO, hp, hp2, hn, k⟩ := h
    refine ⟨_, (pss_one (ps_ret (pe_ix (c_ixK (K := K) rfl) (c_var 1) (e_call (G_l_draw P W0 base T) (hr.mono (by decide)) (by rfl) T.g_l_draw T.F_l_draw.kp T.b_l_draw .nil pass0 (pa_cons (c_var 0) (pa_cons (pe_callB k_len (by rfl) T.len PySem.boot_len (pa_cons (c_var 1) pa_nil)) pa_nil))) (fun _ _ => rfl)))), ?_⟩
    (conv => whnf)
    refine sq_l hO hp2 ?_
    walk_at "go"
    have hi : d.toNat < xs.length := by omega
    have hp3 : ∃ R3, Pull (dealCk b :: R) (.pt l (.lst xs)) R3 := by
      obtain ⟨R3, e⟩ : ∃ R3, Pull R (.pt l (.lst xs)) R3 := pull_other hp hp2 (fun z => by unfold dealCk at z; cases z)
      exact ⟨_, .tail e⟩
    obtain ⟨R3, hp3⟩ := hp3
    refine sq_l w hp3 ?_
    refine At.nat d.toNat (by omega) (List.getElem?_eq_getElem hi) ?_
    exact k _ _ (List.getElem_mem hi) w
theorem G_l_numbers (T : Tx W0 K mg) : FnOk P W0 K mg base CX0 2 T.f_l_numbers T.d_l_numbers ["_law_deal_here", "_law_seats", "_law_wide"] spNumbers := by
  refine T.F_l_numbers.ok sc_l_numbers (fun vs H Q E h => ?_) (fun cdv A outer s H vs Q E hr h => ?_)
  · obtain ⟨b, S, W, L, R, I, rfl, _⟩ := h
    rfl
  · obtain ⟨b, S, W, L, R, I, rfl, hO, hp, hs, hw, q⟩ := h
    refine ⟨_, (pss_cons (ps_set (i := 3) sc_l_numbers.nd rfl (Or.inl rfl) (pe_op c_addG (e_lst (pa_cons (pe_op c_addG pe_int (e_call (G_l_draw P W0 base T) (hr.mono (by decide)) (by rfl) T.g_l_draw T.F_l_draw.kp T.b_l_draw .nil pass0 (pa_cons (c_var 0) (pa_cons (c_var 1) pa_nil)))) pa_nil)) (e_lc (own := [("_law_turn", 4)]) (by rfl) sc_l_numbers.nd (i_range1 (by rfl) T.range (pa_cons pe_int pa_nil)) (blkOk_by (own := [("_law_turn", 4)]) (N := ["_law_deal_here", "_law_seats", "_law_wide", "_law_found", "_law_turn"]) (sc := defScope s_l_numbers) (by decide +kernel)) (fun _ _ _ _ _ => (pg_name (i := 4) sc_l_numbers.nd rfl (Or.inl rfl))) (fun _ _ _ _ _ => pts_nil) (fun _ _ _ _ _ => (pe_op (c_addGK (K := K) rfl) pe_int (e_call (G_l_draw P W0 base T) (hr.mono (by decide)) (by rfl) T.g_l_draw T.F_l_draw.kp T.b_l_draw .nil pass0 (pa_cons (c_var 0) (pa_cons (c_var 2) pa_nil))))))))
    (pss_one (ps_ret (pe_callTy k_tuple (by rfl) T.tuple (by decide +kernel) (pa_cons (pe_op c_addG (c_var 3) (e_lst (pa_cons (e_call (G_l_draw P W0 base T) (hr.mono (by decide)) (by rfl) T.g_l_draw T.F_l_draw.kp T.b_l_draw .nil pass0 (pa_cons (c_var 0) (pa_cons pe_int pa_nil))) pa_nil))) pa_nil))))), ?_⟩
    walk_at "go"
    obtain ⟨ds, hds⟩ : ∃ x, x = d := ⟨_, rfl⟩
    subst hds
    obtain ⟨p1, hp1⟩ : ∃ x, x = pp := ⟨_, rfl⟩
    subst hp1
    have ds0 := d0
    have ds1 := d1
    refine newa_o w (fun p w => ?_)
    refine la_range (fun i H' => ∃ cs : List Int, cs.length = i ∧ (∀ c ∈ cs, 1 ≤ c ∧ c ≤ W) ∧ Own H' (.pt p (.lst (cs.map V.int)) :: .pt p1 (.lst [.int (1 + ds)]) :: dealCk b :: R) I) ⟨[], rfl, fun c m => (List.not_mem_nil m).elim, w⟩ ?_ ?_
    · rintro i H' hi ⟨cs, hc, hb, e⟩
      have hi : i < 3 := hi
      unfold LcT
      walk_at "go"
      rw [← map_snoc V.int] at w
      exact ⟨cs ++ [1 + d], by simp [hc], fun c m => by rcases List.mem_append.mp m with m | m; exact hb c m; rw [List.mem_singleton.mp m]; omega, by walk_at "own"⟩
    · rintro H' ⟨cs, hc, hb, e⟩
      have hc : cs.length = 3 := hc
      match cs, hc with
      | [l, bb, g], _ =>
      have h1 := hb l (by simp)
      have h2 := hb bb (by simp)
      have h3 := hb g (by simp)
      walk_at "go"
      exact q _ _ [1 + ds, l, bb, g, d] ⟨_, _, _, _, _, rfl, by omega, by omega, by omega, by omega, by omega⟩ (by walk_at "own")
end
theorem G_l_rule (T : Tx W0 K mg) : FnOk P W0 K mg base CX0 5 T.f_l_rule T.d_l_rule ["_law_numbers_here"] (spLRule T.C_Rule) := by
  refine T.F_l_rule.ok sc_l_rule (fun vs H Q E h => ?_) (fun cdv A outer s H vs Q E hr h => ?_)
  · obtain ⟨p, ns, L, R, I, rfl, _⟩ := h
    rfl
  · obtain ⟨p, ns, L, R, I, rfl, hO, hp, gg, q⟩ := h
    obtain ⟨s, l, b, g, t, rfl, _⟩ := id gg
    refine ⟨_, (pss_one (ps_ret (e_make T.mk_Rule (G_Rule_init P W0 base T) (hr.mono (by decide)) (by rfl) T.c_Rule.g T.b_Rule_init .nil pass0 (pa_cons (pe_ix (c_ixK (K := K) rfl) (c_var 0) pe_int (fun _ _ => rfl)) (pa_cons (pe_ix (c_ixK (K := K) rfl) (c_var 0) pe_int (fun _ _ => rfl)) (pa_cons (pe_ix (c_ixK (K := K) rfl) (c_var 0) pe_int (fun _ _ => rfl)) (pa_cons (pe_ix (c_ixK (K := K) rfl) (c_var 0) pe_int (fun _ _ => rfl)) (pa_cons (pe_ix (c_ixK (K := K) rfl) (c_var 0) pe_int (fun _ _ => rfl)) pa_nil)))))))), ?_⟩
    walk_at "go"
    exact ask_init (ns := [s, l, b, g, t]) rfl gg hO (fun r H' w => q _ _ w)
end
end My
set_option Elab.async false
set_option linter.all false
set_option maxRecDepth 100000
set_option maxHeartbeats 800000
namespace My
open PySem PySem.Spec PyProof.Rows L2 RZ SkE CL OW
def oddV (r : Addr) : List V := [.non, .bl true, .int 0, .int (10 ^ 20), .str "", .str "Over", .str "over ", .str "taken", .str "twice", .str "wait", .str "pass", .str "calm", .ref r]
/-- any value, looked at from without -/
def TopV (r : Addr) (x : V) (M : List Ck) : Prop := (M = [] ∧ x ∈ oddV r) ∨ ∃ p ys, x = .ref p ∧ (M = [.pt p (.lst ys)] ∨ M = [.pt p (.tup ys)])
def spAny (C : Addr) (n : Int) : Sp := fun vs H Q _ => ∃ (b r : Addr) (ns : List Int) (L R : List Ck) (I : List (Hp → Prop)), vs = [.ref b, .int n, .ref r] ∧ Own H L I ∧ Pull L (dealCk b) R ∧ ruleI C r ns ∈ I ∧ ∀ H' x M, TopV r x M → Own H' (M ++ dealCk b :: R) I → Q x H'
theorem ask_any {C b r : Addr} {n : Int} {ns : List Int} {H : Hp} {Q : VK} {E : XK} {L R : List Ck} {I : List (Hp → Prop)} (h : Own H L I) (p : Pull L (dealCk b) R) (pr : ruleI C r ns ∈ I) (q : ∀ H' x M, TopV r x M → Own H' (M ++ dealCk b :: R) I → Q x H') : Ask (spAny C n ([.ref b, .int n, .ref r] ++ []) H Q E) := ⟨b, r, ns, L, R, I, rfl, h, p, pr, q⟩
section
variable (P : Program) (W0 : World) {K : PySem.W.Frag} {mg : Str → Option Value} (base : Heap)
set_option hygiene false in
local macro_rules | `(tactic| walk_at "ask") => `(tactic| refine ask_draw (by assumption) (by walk_at "pull") (by walk_at "sd") (by walk_at "sd") (fun HH d d0 d1 w => ?_))
set_option hygiene false in
local macro_rules | `(tactic| walk_at "cls") => `(tactic| first | exact T.c_Rule.cl | exact T.na_Rule_seats | exact T.na_Rule_lapse | exact T.na_Rule_beat | exact T.na_Rule_grace | exact T.na_Rule_late)
local macro_rules | `(tactic| walk_at "fld") => `(tactic| refine fld_rule (by assumption) (by walk_at "mem") (by walk_at "cls") (by walk_at "cls") rfl ?_)
local macro_rules | `(tactic| walk_at "good") => `(tactic| first | assumption | exact good_mk (by omega))
local macro_rules | `(tactic| walk_at "sm") => `(tactic| assumption)
local macro_rules | `(tactic| walk_at "lo") => `(tactic| first | omega | (simp only [lo_0, lo_1, lo_2, lo_3, lo_4]; omega))
set_option hygiene false in
local macro_rules | `(tactic| walk_at "seq") => `(tactic| first | exact T.s_WORDS _ | exact T.s_PASS _ | exact T.s_FAULTS _ | exact T.s_USER_WORDS _)
set_option hygiene false in
local macro_rules | `(tactic| walk_at "ask") => `(tactic| first
  | fail)
theorem G_l_any_m (T : Tx W0 K mg) : FnOk P W0 K mg base CX0 14 T.f_l_any T.d_l_any ["_law_deal_here", "_law_deep", "_law_rule_here"] (fun _ _ _ _ => False) :=
  ⟨fun _ _ _ _ h => h.elim, fun _ _ _ _ _ _ _ _ _ _ _ _ _ h => h.elim⟩
theorem G_l_any_0 (T : Tx W0 K mg) : FnOk P W0 K mg base CX0 15 T.f_l_any T.d_l_any ["_law_deal_here", "_law_deep", "_law_rule_here"] (spAny T.C_Rule 0) := by
  have G_l_any : ∀ (P : Program) (W0 : World) (base : Heap) (T : Tx W0 K mg), FnOk P W0 K mg base CX0 14 T.f_l_any T.d_l_any ["_law_deal_here", "_law_deep", "_law_rule_here"] (fun _ _ _ _ => False) := fun P W0 base T => G_l_any_m P W0 base T
  refine T.F_l_any.ok sc_l_any (fun vs H Q E h => ?_) (fun cdv A outer s H vs Q E hr h => ?_)
  · obtain ⟨b, r, ns, L, R, I, rfl, _⟩ := h
    rfl
  · obtain ⟨b, r, ns, L, R, I, rfl, hO, hp, pr, q⟩ := h
    have hu64 := Room.units hr
    refine ⟨_, (pss_cons (ps_set (i := 3) sc_l_any.nd rfl (Or.inl rfl) (e_call (G_l_draw P W0 base T) (hr.mono (by decide)) (by rfl) T.g_l_draw T.F_l_draw.kp T.b_l_draw .nil pass0 (pa_cons (c_var 0) (pa_cons pe_int pa_nil))))
    (pss_cons (s_if (PW.pt (w_and (t_cmp c_lt (c_var 3) pe_int (nomark _)) (w_and1 (t_cmp c_gt (c_var 1) pe_int (nomark _))))) (pss_cons (s_setlc (i := 4) (own := [("_law_turn", 6)]) (by rfl) sc_l_any.nd rfl rfl (sw_true rfl rfl rfl (by decide +kernel)) (i_range1 (by rfl) T.range (pa_cons (e_call (G_l_draw P W0 base T) (hr.mono (by decide)) (by rfl) T.g_l_draw T.F_l_draw.kp T.b_l_draw .nil pass0 (pa_cons (c_var 0) (pa_cons pe_int pa_nil))) pa_nil)) (blkOk_by (own := [("_law_turn", 6)]) (N := ["_law_deal_here", "_law_deep", "_law_rule_here", "_law_form", "_law_some", "_law_odd", "_law_turn"]) (sc := defScope s_l_any) (by decide +kernel)) (fun _ _ _ _ _ => (pg_name (i := 6) sc_l_any.nd rfl (Or.inl rfl))) (fun _ _ _ _ _ => pts_nil) (fun _ _ _ _ _ => (e_call (G_l_any P W0 base T) (hr.mono (by decide)) (by rfl) T.g_l_any T.F_l_any.kp T.b_l_any .nil pass0 (pa_cons (c_var 0) (pa_cons (pe_op c_sub (c_var 1) pe_int) (pa_cons (c_var 2) pa_nil))))))
    (pss_one (ps_ret (e_if (t_cmp (c_eq hu64) (c_var 3) pe_int (nomark _)) (c_var 4) (pe_callTy k_tuple (by rfl) T.tuple (by decide +kernel) (pa_cons (c_var 4) pa_nil)))))) pss_nil)
    (pss_cons (ps_set (i := 5) sc_l_any.nd rfl (Or.inl rfl) (e_lst (pa_cons pe_non (pa_cons pe_bl (pa_cons pe_int (pa_cons (pe_op c_pow pe_int pe_int) (pa_cons pe_str (pa_cons pe_str (pa_cons pe_str (pa_cons pe_str (pa_cons pe_str (pa_cons pe_str (pa_cons pe_str (pa_cons pe_str (pa_cons (c_var 2) pa_nil)))))))))))))))
    (pss_one (ps_ret (e_call (G_l_pick P W0 base T) (hr.mono (by decide)) (by rfl) T.g_l_pick T.F_l_pick.kp T.b_l_pick .nil pass0 (pa_cons (c_var 0) (pa_cons (c_var 5) pa_nil)))))))), ?_⟩
    walk_at "go"
    refine Br.mk (fun hx => ?_) (fun hx => ?_)
    · walk_at "go"
      refine ask_pick w (by walk_at "pull") (by walk_at "pull") (by exact ⟨Nat.succ_pos _, by show 13 < 1000; decide⟩) (fun H5 x mx w => ?_)
      exact q _ _ [] (.inl ⟨rfl, mx⟩) (by walk_at "own")
    · walk_at "go"
      refine ask_pick w (by walk_at "pull") (by walk_at "pull") (by exact ⟨Nat.succ_pos _, by show 13 < 1000; decide⟩) (fun H5 x mx w => ?_)
      exact q _ _ [] (.inl ⟨rfl, mx⟩) (by walk_at "own")
theorem G_l_any_1 (T : Tx W0 K mg) : FnOk P W0 K mg base CX0 16 T.f_l_any T.d_l_any ["_law_deal_here", "_law_deep", "_law_rule_here"] (spAny T.C_Rule 1) := by
  have G_l_any : ∀ (P : Program) (W0 : World) (base : Heap) (T : Tx W0 K mg), FnOk P W0 K mg base CX0 15 T.f_l_any T.d_l_any ["_law_deal_here", "_law_deep", "_law_rule_here"] (spAny T.C_Rule 0) := fun P W0 base T => G_l_any_0 P W0 base T
  refine T.F_l_any.ok sc_l_any (fun vs H Q E h => ?_) (fun cdv A outer s H vs Q E hr h => ?_)
  · obtain ⟨b, r, ns, L, R, I, rfl, _⟩ := h
    rfl
  · obtain ⟨b, r, ns, L, R, I, rfl, hO, hp, pr, q⟩ := h
    have hu64 := Room.units hr
    refine ⟨_, (pss_cons (ps_set (i := 3) sc_l_any.nd rfl (Or.inl rfl) (e_call (G_l_draw P W0 base T) (hr.mono (by decide)) (by rfl) T.g_l_draw T.F_l_draw.kp T.b_l_draw .nil pass0 (pa_cons (c_var 0) (pa_cons pe_int pa_nil))))
    (pss_cons (s_if (PW.pt (w_and (t_cmp c_lt (c_var 3) pe_int (nomark _)) (w_and1 (t_cmp c_gt (c_var 1) pe_int (nomark _))))) (pss_cons (s_setlc (i := 4) (own := [("_law_turn", 6)]) (by rfl) sc_l_any.nd rfl rfl (sw_true rfl rfl rfl (by decide +kernel)) (i_range1 (by rfl) T.range (pa_cons (e_call (G_l_draw P W0 base T) (hr.mono (by decide)) (by rfl) T.g_l_draw T.F_l_draw.kp T.b_l_draw .nil pass0 (pa_cons (c_var 0) (pa_cons pe_int pa_nil))) pa_nil)) (blkOk_by (own := [("_law_turn", 6)]) (N := ["_law_deal_here", "_law_deep", "_law_rule_here", "_law_form", "_law_some", "_law_odd", "_law_turn"]) (sc := defScope s_l_any) (by decide +kernel)) (fun _ _ _ _ _ => (pg_name (i := 6) sc_l_any.nd rfl (Or.inl rfl))) (fun _ _ _ _ _ => pts_nil) (fun _ _ _ _ _ => (e_call (G_l_any P W0 base T) (hr.mono (by decide)) (by rfl) T.g_l_any T.F_l_any.kp T.b_l_any .nil pass0 (pa_cons (c_var 0) (pa_cons (pe_op c_sub (c_var 1) pe_int) (pa_cons (c_var 2) pa_nil))))))
    (pss_one (ps_ret (e_if (t_cmp (c_eq hu64) (c_var 3) pe_int (nomark _)) (c_var 4) (pe_callTy k_tuple (by rfl) T.tuple (by decide +kernel) (pa_cons (c_var 4) pa_nil)))))) pss_nil)
    (pss_cons (ps_set (i := 5) sc_l_any.nd rfl (Or.inl rfl) (e_lst (pa_cons pe_non (pa_cons pe_bl (pa_cons pe_int (pa_cons (pe_op c_pow pe_int pe_int) (pa_cons pe_str (pa_cons pe_str (pa_cons pe_str (pa_cons pe_str (pa_cons pe_str (pa_cons pe_str (pa_cons pe_str (pa_cons pe_str (pa_cons (c_var 2) pa_nil)))))))))))))))
    (pss_one (ps_ret (e_call (G_l_pick P W0 base T) (hr.mono (by decide)) (by rfl) T.g_l_pick T.F_l_pick.kp T.b_l_pick .nil pass0 (pa_cons (c_var 0) (pa_cons (c_var 5) pa_nil)))))))), ?_⟩
    walk_at "go"
    refine Br.mk (fun hx => ?_) (fun hx => ?_)
    · walk_at "go"
      refine newa_o w (fun p w => ?_)
      refine la_range (fun i H' => ∃ ys : List V, ys.length = i ∧ Own H' (.pt p (.lst ys) :: dealCk b :: R) I) ⟨[], rfl, by walk_at "own"⟩ ?_ ?_
      · rintro i H1 hi ⟨ys, hy, w⟩
        unfold LcT
        walk_at "go"
        refine ask_any w (by walk_at "pull") (by walk_at "mem") (fun H2 x M tx w => ?_)
        have w : Own H2 (.pt p (.lst ys) :: dealCk b :: R) I := by
          rcases tx with ⟨rfl, _⟩ | ⟨p2, ys2, _, rfl | rfl⟩ <;> walk_at "own"
        walk_at "go"
        exact ⟨ys ++ [x], by simp [hy], by walk_at "own"⟩
      rintro H1 ⟨ys, hy, w⟩
      walk_at "go"
      refine Br.mk (fun hy0 => ?_) (fun hy0 => ?_)
      · walk_at "go"
        exact q _ _ [.pt p (.lst ys)] (.inr ⟨p, ys, rfl, .inl rfl⟩) (by walk_at "own")
      · walk_at "go"
        exact q _ _ [.pt _ (.tup ys)] (.inr ⟨_, ys, rfl, .inr rfl⟩) (by walk_at "own")
    · walk_at "go"
      refine ask_pick w (by walk_at "pull") (by walk_at "pull") (by exact ⟨Nat.succ_pos _, by show 13 < 1000; decide⟩) (fun H5 x mx w => ?_)
      exact q _ _ [] (.inl ⟨rfl, mx⟩) (by walk_at "own")
theorem G_l_any_2 (T : Tx W0 K mg) : FnOk P W0 K mg base CX0 17 T.f_l_any T.d_l_any ["_law_deal_here", "_law_deep", "_law_rule_here"] (spAny T.C_Rule 2) := by
  have G_l_any : ∀ (P : Program) (W0 : World) (base : Heap) (T : Tx W0 K mg), FnOk P W0 K mg base CX0 16 T.f_l_any T.d_l_any ["_law_deal_here", "_law_deep", "_law_rule_here"] (spAny T.C_Rule 1) := fun P W0 base T => G_l_any_1 P W0 base T
  refine T.F_l_any.ok sc_l_any (fun vs H Q E h => ?_) (fun cdv A outer s H vs Q E hr h => ?_)
  · obtain ⟨b, r, ns, L, R, I, rfl, _⟩ := h
    rfl
  · obtain ⟨b, r, ns, L, R, I, rfl, hO, hp, pr, q⟩ := h
    have hu64 := Room.units hr
    refine ⟨_, (pss_cons (ps_set (i := 3) sc_l_any.nd rfl (Or.inl rfl) (e_call (G_l_draw P W0 base T) (hr.mono (by decide)) (by rfl) T.g_l_draw T.F_l_draw.kp T.b_l_draw .nil pass0 (pa_cons (c_var 0) (pa_cons pe_int pa_nil))))
    (pss_cons (s_if (PW.pt (w_and (t_cmp c_lt (c_var 3) pe_int (nomark _)) (w_and1 (t_cmp c_gt (c_var 1) pe_int (nomark _))))) (pss_cons (s_setlc (i := 4) (own := [("_law_turn", 6)]) (by rfl) sc_l_any.nd rfl rfl (sw_true rfl rfl rfl (by decide +kernel)) (i_range1 (by rfl) T.range (pa_cons (e_call (G_l_draw P W0 base T) (hr.mono (by decide)) (by rfl) T.g_l_draw T.F_l_draw.kp T.b_l_draw .nil pass0 (pa_cons (c_var 0) (pa_cons pe_int pa_nil))) pa_nil)) (blkOk_by (own := [("_law_turn", 6)]) (N := ["_law_deal_here", "_law_deep", "_law_rule_here", "_law_form", "_law_some", "_law_odd", "_law_turn"]) (sc := defScope s_l_any) (by decide +kernel)) (fun _ _ _ _ _ => (pg_name (i := 6) sc_l_any.nd rfl (Or.inl rfl))) (fun _ _ _ _ _ => pts_nil) (fun _ _ _ _ _ => (e_call (G_l_any P W0 base T) (hr.mono (by decide)) (by rfl) T.g_l_any T.F_l_any.kp T.b_l_any .nil pass0 (pa_cons (c_var 0) (pa_cons (pe_op c_sub (c_var 1) pe_int) (pa_cons (c_var 2) pa_nil))))))
    (pss_one (ps_ret (e_if (t_cmp (c_eq hu64) (c_var 3) pe_int (nomark _)) (c_var 4) (pe_callTy k_tuple (by rfl) T.tuple (by decide +kernel) (pa_cons (c_var 4) pa_nil)))))) pss_nil)
    (pss_cons (ps_set (i := 5) sc_l_any.nd rfl (Or.inl rfl) (e_lst (pa_cons pe_non (pa_cons pe_bl (pa_cons pe_int (pa_cons (pe_op c_pow pe_int pe_int) (pa_cons pe_str (pa_cons pe_str (pa_cons pe_str (pa_cons pe_str (pa_cons pe_str (pa_cons pe_str (pa_cons pe_str (pa_cons pe_str (pa_cons (c_var 2) pa_nil)))))))))))))))
    (pss_one (ps_ret (e_call (G_l_pick P W0 base T) (hr.mono (by decide)) (by rfl) T.g_l_pick T.F_l_pick.kp T.b_l_pick .nil pass0 (pa_cons (c_var 0) (pa_cons (c_var 5) pa_nil)))))))), ?_⟩
    walk_at "go"
    refine Br.mk (fun hx => ?_) (fun hx => ?_)
    · walk_at "go"
      refine newa_o w (fun p w => ?_)
      refine la_range (fun i H' => ∃ ys : List V, ys.length = i ∧ Own H' (.pt p (.lst ys) :: dealCk b :: R) I) ⟨[], rfl, by walk_at "own"⟩ ?_ ?_
      · rintro i H1 hi ⟨ys, hy, w⟩
        unfold LcT
        walk_at "go"
        refine ask_any w (by walk_at "pull") (by walk_at "mem") (fun H2 x M tx w => ?_)
        have w : Own H2 (.pt p (.lst ys) :: dealCk b :: R) I := by
          rcases tx with ⟨rfl, _⟩ | ⟨p2, ys2, _, rfl | rfl⟩ <;> walk_at "own"
        walk_at "go"
        exact ⟨ys ++ [x], by simp [hy], by walk_at "own"⟩
      rintro H1 ⟨ys, hy, w⟩
      walk_at "go"
      refine Br.mk (fun hy0 => ?_) (fun hy0 => ?_)
      · walk_at "go"
        exact q _ _ [.pt p (.lst ys)] (.inr ⟨p, ys, rfl, .inl rfl⟩) (by walk_at "own")
      · walk_at "go"
        exact q _ _ [.pt _ (.tup ys)] (.inr ⟨_, ys, rfl, .inr rfl⟩) (by walk_at "own")
    · walk_at "go"
      refine ask_pick w (by walk_at "pull") (by walk_at "pull") (by exact ⟨Nat.succ_pos _, by show 13 < 1000; decide⟩) (fun H5 x mx w => ?_)
      exact q _ _ [] (.inl ⟨rfl, mx⟩) (by walk_at "own")
theorem G_l_any_3 (T : Tx W0 K mg) : FnOk P W0 K mg base CX0 18 T.f_l_any T.d_l_any ["_law_deal_here", "_law_deep", "_law_rule_here"] (spAny T.C_Rule 3) := by
  have G_l_any : ∀ (P : Program) (W0 : World) (base : Heap) (T : Tx W0 K mg), FnOk P W0 K mg base CX0 17 T.f_l_any T.d_l_any ["_law_deal_here", "_law_deep", "_law_rule_here"] (spAny T.C_Rule 2) := fun P W0 base T => G_l_any_2 P W0 base T
  refine T.F_l_any.ok sc_l_any (fun vs H Q E h => ?_) (fun cdv A outer s H vs Q E hr h => ?_)
  · obtain ⟨b, r, ns, L, R, I, rfl, _⟩ := h
    rfl
  · obtain ⟨b, r, ns, L, R, I, rfl, hO, hp, pr, q⟩ := h
    have hu64 := Room.units hr
    refine ⟨_, (pss_cons (ps_set (i := 3) sc_l_any.nd rfl (Or.inl rfl) (e_call (G_l_draw P W0 base T) (hr.mono (by decide)) (by rfl) T.g_l_draw T.F_l_draw.kp T.b_l_draw .nil pass0 (pa_cons (c_var 0) (pa_cons pe_int pa_nil))))
    (pss_cons (s_if (PW.pt (w_and (t_cmp c_lt (c_var 3) pe_int (nomark _)) (w_and1 (t_cmp c_gt (c_var 1) pe_int (nomark _))))) (pss_cons (s_setlc (i := 4) (own := [("_law_turn", 6)]) (by rfl) sc_l_any.nd rfl rfl (sw_true rfl rfl rfl (by decide +kernel)) (i_range1 (by rfl) T.range (pa_cons (e_call (G_l_draw P W0 base T) (hr.mono (by decide)) (by rfl) T.g_l_draw T.F_l_draw.kp T.b_l_draw .nil pass0 (pa_cons (c_var 0) (pa_cons pe_int pa_nil))) pa_nil)) (blkOk_by (own := [("_law_turn", 6)]) (N := ["_law_deal_here", "_law_deep", "_law_rule_here", "_law_form", "_law_some", "_law_odd", "_law_turn"]) (sc := defScope s_l_any) (by decide +kernel)) (fun _ _ _ _ _ => (pg_name (i := 6) sc_l_any.nd rfl (Or.inl rfl))) (fun _ _ _ _ _ => pts_nil) (fun _ _ _ _ _ => (e_call (G_l_any P W0 base T) (hr.mono (by decide)) (by rfl) T.g_l_any T.F_l_any.kp T.b_l_any .nil pass0 (pa_cons (c_var 0) (pa_cons (pe_op c_sub (c_var 1) pe_int) (pa_cons (c_var 2) pa_nil))))))
    (pss_one (ps_ret (e_if (t_cmp (c_eq hu64) (c_var 3) pe_int (nomark _)) (c_var 4) (pe_callTy k_tuple (by rfl) T.tuple (by decide +kernel) (pa_cons (c_var 4) pa_nil)))))) pss_nil)
    (pss_cons (ps_set (i := 5) sc_l_any.nd rfl (Or.inl rfl) (e_lst (pa_cons pe_non (pa_cons pe_bl (pa_cons pe_int (pa_cons (pe_op c_pow pe_int pe_int) (pa_cons pe_str (pa_cons pe_str (pa_cons pe_str (pa_cons pe_str (pa_cons pe_str (pa_cons pe_str (pa_cons pe_str (pa_cons pe_str (pa_cons (c_var 2) pa_nil)))))))))))))))
    (pss_one (ps_ret (e_call (G_l_pick P W0 base T) (hr.mono (by decide)) (by rfl) T.g_l_pick T.F_l_pick.kp T.b_l_pick .nil pass0 (pa_cons (c_var 0) (pa_cons (c_var 5) pa_nil)))))))), ?_⟩
    walk_at "go"
    refine Br.mk (fun hx => ?_) (fun hx => ?_)
    · walk_at "go"
      refine newa_o w (fun p w => ?_)
      refine la_range (fun i H' => ∃ ys : List V, ys.length = i ∧ Own H' (.pt p (.lst ys) :: dealCk b :: R) I) ⟨[], rfl, by walk_at "own"⟩ ?_ ?_
      · rintro i H1 hi ⟨ys, hy, w⟩
        unfold LcT
        walk_at "go"
        refine ask_any w (by walk_at "pull") (by walk_at "mem") (fun H2 x M tx w => ?_)
        have w : Own H2 (.pt p (.lst ys) :: dealCk b :: R) I := by
          rcases tx with ⟨rfl, _⟩ | ⟨p2, ys2, _, rfl | rfl⟩ <;> walk_at "own"
        walk_at "go"
        exact ⟨ys ++ [x], by simp [hy], by walk_at "own"⟩
      rintro H1 ⟨ys, hy, w⟩
      walk_at "go"
      refine Br.mk (fun hy0 => ?_) (fun hy0 => ?_)
      · walk_at "go"
        exact q _ _ [.pt p (.lst ys)] (.inr ⟨p, ys, rfl, .inl rfl⟩) (by walk_at "own")
      · walk_at "go"
        exact q _ _ [.pt _ (.tup ys)] (.inr ⟨_, ys, rfl, .inr rfl⟩) (by walk_at "own")
    · walk_at "go"
      refine ask_pick w (by walk_at "pull") (by walk_at "pull") (by exact ⟨Nat.succ_pos _, by show 13 < 1000; decide⟩) (fun H5 x mx w => ?_)
      exact q _ _ [] (.inl ⟨rfl, mx⟩) (by walk_at "own")
theorem G_l_any_4 (T : Tx W0 K mg) : FnOk P W0 K mg base CX0 19 T.f_l_any T.d_l_any ["_law_deal_here", "_law_deep", "_law_rule_here"] (spAny T.C_Rule 4) := by
  have G_l_any : ∀ (P : Program) (W0 : World) (base : Heap) (T : Tx W0 K mg), FnOk P W0 K mg base CX0 18 T.f_l_any T.d_l_any ["_law_deal_here", "_law_deep", "_law_rule_here"] (spAny T.C_Rule 3) := fun P W0 base T => G_l_any_3 P W0 base T
  refine T.F_l_any.ok sc_l_any (fun vs H Q E h => ?_) (fun cdv A outer s H vs Q E hr h => ?_)
  · obtain ⟨b, r, ns, L, R, I, rfl, _⟩ := h
    rfl
  · obtain ⟨b, r, ns, L, R, I, rfl, hO, hp, pr, q⟩ := h
    have hu64 := Room.units hr
    refine ⟨_, (pss_cons (ps_set (i := 3) sc_l_any.nd rfl (Or.inl rfl) (e_call (G_l_draw P W0 base T) (hr.mono (by decide)) (by rfl) T.g_l_draw T.F_l_draw.kp T.b_l_draw .nil pass0 (pa_cons (c_var 0) (pa_cons pe_int pa_nil))))
    (pss_cons (s_if (PW.pt (w_and (t_cmp c_lt (c_var 3) pe_int (nomark _)) (w_and1 (t_cmp c_gt (c_var 1) pe_int (nomark _))))) (pss_cons (s_setlc (i := 4) (own := [("_law_turn", 6)]) (by rfl) sc_l_any.nd rfl rfl (sw_true rfl rfl rfl (by decide +kernel)) (i_range1 (by rfl) T.range (pa_cons (e_call (G_l_draw P W0 base T) (hr.mono (by decide)) (by rfl) T.g_l_draw T.F_l_draw.kp T.b_l_draw .nil pass0 (pa_cons (c_var 0) (pa_cons pe_int pa_nil))) pa_nil)) (blkOk_by (own := [("_law_turn", 6)]) (N := ["_law_deal_here", "_law_deep", "_law_rule_here", "_law_form", "_law_some", "_law_odd", "_law_turn"]) (sc := defScope s_l_any) (by decide +kernel)) (fun _ _ _ _ _ => (pg_name (i := 6) sc_l_any.nd rfl (Or.inl rfl))) (fun _ _ _ _ _ => pts_nil) (fun _ _ _ _ _ => (e_call (G_l_any P W0 base T) (hr.mono (by decide)) (by rfl) T.g_l_any T.F_l_any.kp T.b_l_any .nil pass0 (pa_cons (c_var 0) (pa_cons (pe_op c_sub (c_var 1) pe_int) (pa_cons (c_var 2) pa_nil))))))
    (pss_one (ps_ret (e_if (t_cmp (c_eq hu64) (c_var 3) pe_int (nomark _)) (c_var 4) (pe_callTy k_tuple (by rfl) T.tuple (by decide +kernel) (pa_cons (c_var 4) pa_nil)))))) pss_nil)
    (pss_cons (ps_set (i := 5) sc_l_any.nd rfl (Or.inl rfl) (e_lst (pa_cons pe_non (pa_cons pe_bl (pa_cons pe_int (pa_cons (pe_op c_pow pe_int pe_int) (pa_cons pe_str (pa_cons pe_str (pa_cons pe_str (pa_cons pe_str (pa_cons pe_str (pa_cons pe_str (pa_cons pe_str (pa_cons pe_str (pa_cons (c_var 2) pa_nil)))))))))))))))
    (pss_one (ps_ret (e_call (G_l_pick P W0 base T) (hr.mono (by decide)) (by rfl) T.g_l_pick T.F_l_pick.kp T.b_l_pick .nil pass0 (pa_cons (c_var 0) (pa_cons (c_var 5) pa_nil)))))))), ?_⟩
    walk_at "go"
    refine Br.mk (fun hx => ?_) (fun hx => ?_)
    · walk_at "go"
      refine newa_o w (fun p w => ?_)
      refine la_range (fun i H' => ∃ ys : List V, ys.length = i ∧ Own H' (.pt p (.lst ys) :: dealCk b :: R) I) ⟨[], rfl, by walk_at "own"⟩ ?_ ?_
      · rintro i H1 hi ⟨ys, hy, w⟩
        unfold LcT
        walk_at "go"
        refine ask_any w (by walk_at "pull") (by walk_at "mem") (fun H2 x M tx w => ?_)
        have w : Own H2 (.pt p (.lst ys) :: dealCk b :: R) I := by
          rcases tx with ⟨rfl, _⟩ | ⟨p2, ys2, _, rfl | rfl⟩ <;> walk_at "own"
        walk_at "go"
        exact ⟨ys ++ [x], by simp [hy], by walk_at "own"⟩
      rintro H1 ⟨ys, hy, w⟩
      walk_at "go"
      refine Br.mk (fun hy0 => ?_) (fun hy0 => ?_)
      · walk_at "go"
        exact q _ _ [.pt p (.lst ys)] (.inr ⟨p, ys, rfl, .inl rfl⟩) (by walk_at "own")
      · walk_at "go"
        exact q _ _ [.pt _ (.tup ys)] (.inr ⟨_, ys, rfl, .inr rfl⟩) (by walk_at "own")
    · walk_at "go"
      refine ask_pick w (by walk_at "pull") (by walk_at "pull") (by exact ⟨Nat.succ_pos _, by show 13 < 1000; decide⟩) (fun H5 x mx w => ?_)
      exact q _ _ [] (.inl ⟨rfl, mx⟩) (by walk_at "own")
theorem G_l_any_5 (T : Tx W0 K mg) : FnOk P W0 K mg base CX0 20 T.f_l_any T.d_l_any ["_law_deal_here", "_law_deep", "_law_rule_here"] (spAny T.C_Rule 5) := by
  have G_l_any : ∀ (P : Program) (W0 : World) (base : Heap) (T : Tx W0 K mg), FnOk P W0 K mg base CX0 19 T.f_l_any T.d_l_any ["_law_deal_here", "_law_deep", "_law_rule_here"] (spAny T.C_Rule 4) := fun P W0 base T => G_l_any_4 P W0 base T
  refine T.F_l_any.ok sc_l_any (fun vs H Q E h => ?_) (fun cdv A outer s H vs Q E hr h => ?_)
  · obtain ⟨b, r, ns, L, R, I, rfl, _⟩ := h
    rfl
  · obtain ⟨b, r, ns, L, R, I, rfl, hO, hp, pr, q⟩ := h
    have hu64 := Room.units hr
    refine ⟨_, (pss_cons (ps_set (i := 3) sc_l_any.nd rfl (Or.inl rfl) (e_call (G_l_draw P W0 base T) (hr.mono (by decide)) (by rfl) T.g_l_draw T.F_l_draw.kp T.b_l_draw .nil pass0 (pa_cons (c_var 0) (pa_cons pe_int pa_nil))))
    (pss_cons (s_if (PW.pt (w_and (t_cmp c_lt (c_var 3) pe_int (nomark _)) (w_and1 (t_cmp c_gt (c_var 1) pe_int (nomark _))))) (pss_cons (s_setlc (i := 4) (own := [("_law_turn", 6)]) (by rfl) sc_l_any.nd rfl rfl (sw_true rfl rfl rfl (by decide +kernel)) (i_range1 (by rfl) T.range (pa_cons (e_call (G_l_draw P W0 base T) (hr.mono (by decide)) (by rfl) T.g_l_draw T.F_l_draw.kp T.b_l_draw .nil pass0 (pa_cons (c_var 0) (pa_cons pe_int pa_nil))) pa_nil)) (blkOk_by (own := [("_law_turn", 6)]) (N := ["_law_deal_here", "_law_deep", "_law_rule_here", "_law_form", "_law_some", "_law_odd", "_law_turn"]) (sc := defScope s_l_any) (by decide +kernel)) (fun _ _ _ _ _ => (pg_name (i := 6) sc_l_any.nd rfl (Or.inl rfl))) (fun _ _ _ _ _ => pts_nil) (fun _ _ _ _ _ => (e_call (G_l_any P W0 base T) (hr.mono (by decide)) (by rfl) T.g_l_any T.F_l_any.kp T.b_l_any .nil pass0 (pa_cons (c_var 0) (pa_cons (pe_op c_sub (c_var 1) pe_int) (pa_cons (c_var 2) pa_nil))))))
    (pss_one (ps_ret (e_if (t_cmp (c_eq hu64) (c_var 3) pe_int (nomark _)) (c_var 4) (pe_callTy k_tuple (by rfl) T.tuple (by decide +kernel) (pa_cons (c_var 4) pa_nil)))))) pss_nil)
    (pss_cons (ps_set (i := 5) sc_l_any.nd rfl (Or.inl rfl) (e_lst (pa_cons pe_non (pa_cons pe_bl (pa_cons pe_int (pa_cons (pe_op c_pow pe_int pe_int) (pa_cons pe_str (pa_cons pe_str (pa_cons pe_str (pa_cons pe_str (pa_cons pe_str (pa_cons pe_str (pa_cons pe_str (pa_cons pe_str (pa_cons (c_var 2) pa_nil)))))))))))))))
    (pss_one (ps_ret (e_call (G_l_pick P W0 base T) (hr.mono (by decide)) (by rfl) T.g_l_pick T.F_l_pick.kp T.b_l_pick .nil pass0 (pa_cons (c_var 0) (pa_cons (c_var 5) pa_nil)))))))), ?_⟩
    walk_at "go"
    refine Br.mk (fun hx => ?_) (fun hx => ?_)
    · walk_at "go"
      refine newa_o w (fun p w => ?_)
      refine la_range (fun i H' => ∃ ys : List V, ys.length = i ∧ Own H' (.pt p (.lst ys) :: dealCk b :: R) I) ⟨[], rfl, by walk_at "own"⟩ ?_ ?_
      · rintro i H1 hi ⟨ys, hy, w⟩
        unfold LcT
        walk_at "go"
        refine ask_any w (by walk_at "pull") (by walk_at "mem") (fun H2 x M tx w => ?_)
        have w : Own H2 (.pt p (.lst ys) :: dealCk b :: R) I := by
          rcases tx with ⟨rfl, _⟩ | ⟨p2, ys2, _, rfl | rfl⟩ <;> walk_at "own"
        walk_at "go"
        exact ⟨ys ++ [x], by simp [hy], by walk_at "own"⟩
      rintro H1 ⟨ys, hy, w⟩
      walk_at "go"
      refine Br.mk (fun hy0 => ?_) (fun hy0 => ?_)
      · walk_at "go"
        exact q _ _ [.pt p (.lst ys)] (.inr ⟨p, ys, rfl, .inl rfl⟩) (by walk_at "own")
      · walk_at "go"
        exact q _ _ [.pt _ (.tup ys)] (.inr ⟨_, ys, rfl, .inr rfl⟩) (by walk_at "own")
    · walk_at "go"
      refine ask_pick w (by walk_at "pull") (by walk_at "pull") (by exact ⟨Nat.succ_pos _, by show 13 < 1000; decide⟩) (fun H5 x mx w => ?_)
      exact q _ _ [] (.inl ⟨rfl, mx⟩) (by walk_at "own")
theorem G_l_any_6 (T : Tx W0 K mg) : FnOk P W0 K mg base CX0 21 T.f_l_any T.d_l_any ["_law_deal_here", "_law_deep", "_law_rule_here"] (spAny T.C_Rule 6) := by
  have G_l_any : ∀ (P : Program) (W0 : World) (base : Heap) (T : Tx W0 K mg), FnOk P W0 K mg base CX0 20 T.f_l_any T.d_l_any ["_law_deal_here", "_law_deep", "_law_rule_here"] (spAny T.C_Rule 5) := fun P W0 base T => G_l_any_5 P W0 base T
  refine T.F_l_any.ok sc_l_any (fun vs H Q E h => ?_) (fun cdv A outer s H vs Q E hr h => ?_)
  · obtain ⟨b, r, ns, L, R, I, rfl, _⟩ := h
    rfl
  · obtain ⟨b, r, ns, L, R, I, rfl, hO, hp, pr, q⟩ := h
    have hu64 := Room.units hr
    refine ⟨_, (pss_cons (ps_set (i := 3) sc_l_any.nd rfl (Or.inl rfl) (e_call (G_l_draw P W0 base T) (hr.mono (by decide)) (by rfl) T.g_l_draw T.F_l_draw.kp T.b_l_draw .nil pass0 (pa_cons (c_var 0) (pa_cons pe_int pa_nil))))
    (pss_cons (s_if (PW.pt (w_and (t_cmp c_lt (c_var 3) pe_int (nomark _)) (w_and1 (t_cmp c_gt (c_var 1) pe_int (nomark _))))) (pss_cons (s_setlc (i := 4) (own := [("_law_turn", 6)]) (by rfl) sc_l_any.nd rfl rfl (sw_true rfl rfl rfl (by decide +kernel)) (i_range1 (by rfl) T.range (pa_cons (e_call (G_l_draw P W0 base T) (hr.mono (by decide)) (by rfl) T.g_l_draw T.F_l_draw.kp T.b_l_draw .nil pass0 (pa_cons (c_var 0) (pa_cons pe_int pa_nil))) pa_nil)) (blkOk_by (own := [("_law_turn", 6)]) (N := ["_law_deal_here", "_law_deep", "_law_rule_here", "_law_form", "_law_some", "_law_odd", "_law_turn"]) (sc := defScope s_l_any) (by decide +kernel)) (fun _ _ _ _ _ => (pg_name (i := 6) sc_l_any.nd rfl (Or.inl rfl))) (fun _ _ _ _ _ => pts_nil) (fun _ _ _ _ _ => (e_call (G_l_any P W0 base T) (hr.mono (by decide)) (by rfl) T.g_l_any T.F_l_any.kp T.b_l_any .nil pass0 (pa_cons (c_var 0) (pa_cons (pe_op c_sub (c_var 1) pe_int) (pa_cons (c_var 2) pa_nil))))))
    (pss_one (ps_ret (e_if (t_cmp (c_eq hu64) (c_var 3) pe_int (nomark _)) (c_var 4) (pe_callTy k_tuple (by rfl) T.tuple (by decide +kernel) (pa_cons (c_var 4) pa_nil)))))) pss_nil)
    (pss_cons (ps_set (i := 5) sc_l_any.nd rfl (Or.inl rfl) (e_lst (pa_cons pe_non (pa_cons pe_bl (pa_cons pe_int (pa_cons (pe_op c_pow pe_int pe_int) (pa_cons pe_str (pa_cons pe_str (pa_cons pe_str (pa_cons pe_str (pa_cons pe_str (pa_cons pe_str (pa_cons pe_str (pa_cons pe_str (pa_cons (c_var 2) pa_nil)))))))))))))))
    (pss_one (ps_ret (e_call (G_l_pick P W0 base T) (hr.mono (by decide)) (by rfl) T.g_l_pick T.F_l_pick.kp T.b_l_pick .nil pass0 (pa_cons (c_var 0) (pa_cons (c_var 5) pa_nil)))))))), ?_⟩
    walk_at "go"
    refine Br.mk (fun hx => ?_) (fun hx => ?_)
    · walk_at "go"
      refine newa_o w (fun p w => ?_)
      refine la_range (fun i H' => ∃ ys : List V, ys.length = i ∧ Own H' (.pt p (.lst ys) :: dealCk b :: R) I) ⟨[], rfl, by walk_at "own"⟩ ?_ ?_
      · rintro i H1 hi ⟨ys, hy, w⟩
        unfold LcT
        walk_at "go"
        refine ask_any w (by walk_at "pull") (by walk_at "mem") (fun H2 x M tx w => ?_)
        have w : Own H2 (.pt p (.lst ys) :: dealCk b :: R) I := by
          rcases tx with ⟨rfl, _⟩ | ⟨p2, ys2, _, rfl | rfl⟩ <;> walk_at "own"
        walk_at "go"
        exact ⟨ys ++ [x], by simp [hy], by walk_at "own"⟩
      rintro H1 ⟨ys, hy, w⟩
      walk_at "go"
      refine Br.mk (fun hy0 => ?_) (fun hy0 => ?_)
      · walk_at "go"
        exact q _ _ [.pt p (.lst ys)] (.inr ⟨p, ys, rfl, .inl rfl⟩) (by walk_at "own")
      · walk_at "go"
        exact q _ _ [.pt _ (.tup ys)] (.inr ⟨_, ys, rfl, .inr rfl⟩) (by walk_at "own")
    · walk_at "go"
      refine ask_pick w (by walk_at "pull") (by walk_at "pull") (by exact ⟨Nat.succ_pos _, by show 13 < 1000; decide⟩) (fun H5 x mx w => ?_)
      exact q _ _ [] (.inl ⟨rfl, mx⟩) (by walk_at "own")
theorem G_l_any_7 (T : Tx W0 K mg) : FnOk P W0 K mg base CX0 22 T.f_l_any T.d_l_any ["_law_deal_here", "_law_deep", "_law_rule_here"] (spAny T.C_Rule 7) := by
  have G_l_any : ∀ (P : Program) (W0 : World) (base : Heap) (T : Tx W0 K mg), FnOk P W0 K mg base CX0 21 T.f_l_any T.d_l_any ["_law_deal_here", "_law_deep", "_law_rule_here"] (spAny T.C_Rule 6) := fun P W0 base T => G_l_any_6 P W0 base T
  refine T.F_l_any.ok sc_l_any (fun vs H Q E h => ?_) (fun cdv A outer s H vs Q E hr h => ?_)
  · obtain ⟨b, r, ns, L, R, I, rfl, _⟩ := h
    rfl
  · obtain ⟨b, r, ns, L, R, I, rfl, hO, hp, pr, q⟩ := h
    have hu64 := Room.units hr
    refine ⟨_, (pss_cons (ps_set (i := 3) sc_l_any.nd rfl (Or.inl rfl) (e_call (G_l_draw P W0 base T) (hr.mono (by decide)) (by rfl) T.g_l_draw T.F_l_draw.kp T.b_l_draw .nil pass0 (pa_cons (c_var 0) (pa_cons pe_int pa_nil))))
    (pss_cons (s_if (PW.pt (w_and (t_cmp c_lt (c_var 3) pe_int (nomark _)) (w_and1 (t_cmp c_gt (c_var 1) pe_int (nomark _))))) (pss_cons (s_setlc (i := 4) (own := [("_law_turn", 6)]) (by rfl) sc_l_any.nd rfl rfl (sw_true rfl rfl rfl (by decide +kernel)) (i_range1 (by rfl) T.range (pa_cons (e_call (G_l_draw P W0 base T) (hr.mono (by decide)) (by rfl) T.g_l_draw T.F_l_draw.kp T.b_l_draw .nil pass0 (pa_cons (c_var 0) (pa_cons pe_int pa_nil))) pa_nil)) (blkOk_by (own := [("_law_turn", 6)]) (N := ["_law_deal_here", "_law_deep", "_law_rule_here", "_law_form", "_law_some", "_law_odd", "_law_turn"]) (sc := defScope s_l_any) (by decide +kernel)) (fun _ _ _ _ _ => (pg_name (i := 6) sc_l_any.nd rfl (Or.inl rfl))) (fun _ _ _ _ _ => pts_nil) (fun _ _ _ _ _ => (e_call (G_l_any P W0 base T) (hr.mono (by decide)) (by rfl) T.g_l_any T.F_l_any.kp T.b_l_any .nil pass0 (pa_cons (c_var 0) (pa_cons (pe_op c_sub (c_var 1) pe_int) (pa_cons (c_var 2) pa_nil))))))
    (pss_one (ps_ret (e_if (t_cmp (c_eq hu64) (c_var 3) pe_int (nomark _)) (c_var 4) (pe_callTy k_tuple (by rfl) T.tuple (by decide +kernel) (pa_cons (c_var 4) pa_nil)))))) pss_nil)
    (pss_cons (ps_set (i := 5) sc_l_any.nd rfl (Or.inl rfl) (e_lst (pa_cons pe_non (pa_cons pe_bl (pa_cons pe_int (pa_cons (pe_op c_pow pe_int pe_int) (pa_cons pe_str (pa_cons pe_str (pa_cons pe_str (pa_cons pe_str (pa_cons pe_str (pa_cons pe_str (pa_cons pe_str (pa_cons pe_str (pa_cons (c_var 2) pa_nil)))))))))))))))
    (pss_one (ps_ret (e_call (G_l_pick P W0 base T) (hr.mono (by decide)) (by rfl) T.g_l_pick T.F_l_pick.kp T.b_l_pick .nil pass0 (pa_cons (c_var 0) (pa_cons (c_var 5) pa_nil)))))))), ?_⟩
    walk_at "go"
    refine Br.mk (fun hx => ?_) (fun hx => ?_)
    · walk_at "go"
      refine newa_o w (fun p w => ?_)
      refine la_range (fun i H' => ∃ ys : List V, ys.length = i ∧ Own H' (.pt p (.lst ys) :: dealCk b :: R) I) ⟨[], rfl, by walk_at "own"⟩ ?_ ?_
      · rintro i H1 hi ⟨ys, hy, w⟩
        unfold LcT
        walk_at "go"
        refine ask_any w (by walk_at "pull") (by walk_at "mem") (fun H2 x M tx w => ?_)
        have w : Own H2 (.pt p (.lst ys) :: dealCk b :: R) I := by
          rcases tx with ⟨rfl, _⟩ | ⟨p2, ys2, _, rfl | rfl⟩ <;> walk_at "own"
        walk_at "go"
        exact ⟨ys ++ [x], by simp [hy], by walk_at "own"⟩
      rintro H1 ⟨ys, hy, w⟩
      walk_at "go"
      refine Br.mk (fun hy0 => ?_) (fun hy0 => ?_)
      · walk_at "go"
        exact q _ _ [.pt p (.lst ys)] (.inr ⟨p, ys, rfl, .inl rfl⟩) (by walk_at "own")
      · walk_at "go"
        exact q _ _ [.pt _ (.tup ys)] (.inr ⟨_, ys, rfl, .inr rfl⟩) (by walk_at "own")
    · walk_at "go"
      refine ask_pick w (by walk_at "pull") (by walk_at "pull") (by exact ⟨Nat.succ_pos _, by show 13 < 1000; decide⟩) (fun H5 x mx w => ?_)
      exact q _ _ [] (.inl ⟨rfl, mx⟩) (by walk_at "own")
theorem G_l_any (T : Tx W0 K mg) : FnOk P W0 K mg base CX0 24 T.f_l_any T.d_l_any ["_law_deal_here", "_law_deep", "_law_rule_here"] (spAny T.C_Rule 8) := by
  have G_l_any : ∀ (P : Program) (W0 : World) (base : Heap) (T : Tx W0 K mg), FnOk P W0 K mg base CX0 22 T.f_l_any T.d_l_any ["_law_deal_here", "_law_deep", "_law_rule_here"] (spAny T.C_Rule 7) := fun P W0 base T => G_l_any_7 P W0 base T
  refine T.F_l_any.ok sc_l_any (fun vs H Q E h => ?_) (fun cdv A outer s H vs Q E hr h => ?_)
  · obtain ⟨b, r, ns, L, R, I, rfl, _⟩ := h
    rfl
  · obtain ⟨b, r, ns, L, R, I, rfl, hO, hp, pr, q⟩ := h
    have hu64 := Room.units hr
    refine ⟨_, (pss_cons (ps_set (i := 3) sc_l_any.nd rfl (Or.inl rfl) (e_call (G_l_draw P W0 base T) (hr.mono (by decide)) (by rfl) T.g_l_draw T.F_l_draw.kp T.b_l_draw .nil pass0 (pa_cons (c_var 0) (pa_cons pe_int pa_nil))))
    (pss_cons (s_if (PW.pt (w_and (t_cmp c_lt (c_var 3) pe_int (nomark _)) (w_and1 (t_cmp c_gt (c_var 1) pe_int (nomark _))))) (pss_cons (s_setlc (i := 4) (own := [("_law_turn", 6)]) (by rfl) sc_l_any.nd rfl rfl (sw_true rfl rfl rfl (by decide +kernel)) (i_range1 (by rfl) T.range (pa_cons (e_call (G_l_draw P W0 base T) (hr.mono (by decide)) (by rfl) T.g_l_draw T.F_l_draw.kp T.b_l_draw .nil pass0 (pa_cons (c_var 0) (pa_cons pe_int pa_nil))) pa_nil)) (blkOk_by (own := [("_law_turn", 6)]) (N := ["_law_deal_here", "_law_deep", "_law_rule_here", "_law_form", "_law_some", "_law_odd", "_law_turn"]) (sc := defScope s_l_any) (by decide +kernel)) (fun _ _ _ _ _ => (pg_name (i := 6) sc_l_any.nd rfl (Or.inl rfl))) (fun _ _ _ _ _ => pts_nil) (fun _ _ _ _ _ => (e_call (G_l_any P W0 base T) (hr.mono (by decide)) (by rfl) T.g_l_any T.F_l_any.kp T.b_l_any .nil pass0 (pa_cons (c_var 0) (pa_cons (pe_op c_sub (c_var 1) pe_int) (pa_cons (c_var 2) pa_nil))))))
    (pss_one (ps_ret (e_if (t_cmp (c_eq hu64) (c_var 3) pe_int (nomark _)) (c_var 4) (pe_callTy k_tuple (by rfl) T.tuple (by decide +kernel) (pa_cons (c_var 4) pa_nil)))))) pss_nil)
    (pss_cons (ps_set (i := 5) sc_l_any.nd rfl (Or.inl rfl) (e_lst (pa_cons pe_non (pa_cons pe_bl (pa_cons pe_int (pa_cons (pe_op c_pow pe_int pe_int) (pa_cons pe_str (pa_cons pe_str (pa_cons pe_str (pa_cons pe_str (pa_cons pe_str (pa_cons pe_str (pa_cons pe_str (pa_cons pe_str (pa_cons (c_var 2) pa_nil)))))))))))))))
    (pss_one (ps_ret (e_call (G_l_pick P W0 base T) (hr.mono (by decide)) (by rfl) T.g_l_pick T.F_l_pick.kp T.b_l_pick .nil pass0 (pa_cons (c_var 0) (pa_cons (c_var 5) pa_nil)))))))), ?_⟩
    walk_at "go"
    refine Br.mk (fun hx => ?_) (fun hx => ?_)
    · walk_at "go"
      refine newa_o w (fun p w => ?_)
      refine la_range (fun i H' => ∃ ys : List V, ys.length = i ∧ Own H' (.pt p (.lst ys) :: dealCk b :: R) I) ⟨[], rfl, by walk_at "own"⟩ ?_ ?_
      · rintro i H1 hi ⟨ys, hy, w⟩
        unfold LcT
        walk_at "go"
        refine ask_any w (by walk_at "pull") (by walk_at "mem") (fun H2 x M tx w => ?_)
        have w : Own H2 (.pt p (.lst ys) :: dealCk b :: R) I := by
          rcases tx with ⟨rfl, _⟩ | ⟨p2, ys2, _, rfl | rfl⟩ <;> walk_at "own"
        walk_at "go"
        exact ⟨ys ++ [x], by simp [hy], by walk_at "own"⟩
      rintro H1 ⟨ys, hy, w⟩
      walk_at "go"
      refine Br.mk (fun hy0 => ?_) (fun hy0 => ?_)
      · walk_at "go"
        exact q _ _ [.pt p (.lst ys)] (.inr ⟨p, ys, rfl, .inl rfl⟩) (by walk_at "own")
      · walk_at "go"
        exact q _ _ [.pt _ (.tup ys)] (.inr ⟨_, ys, rfl, .inr rfl⟩) (by walk_at "own")
    · walk_at "go"
      refine ask_pick w (by walk_at "pull") (by walk_at "pull") (by exact ⟨Nat.succ_pos _, by show 13 < 1000; decide⟩) (fun H5 x mx w => ?_)
      exact q _ _ [] (.inl ⟨rfl, mx⟩) (by walk_at "own")
end
end My
set_option Elab.async false
set_option linter.all false
set_option maxRecDepth 100000
set_option maxHeartbeats 800000
namespace My
open PySem PySem.Spec PyProof.Rows L2 RZ SkE CL OW
/-- how many can have one seat -/
def perSeat : List Int → Int
  | [_, l, _, g, t] => (g + t) / l + 1
  | _ => 0
def seatsOf : List Int → Int
  | [s, _, _, _, _] => s
  | _ => 0
def mostv (ns : List Int) (u : Int) : Int := if seatsOf ns * perSeat ns < u then seatsOf ns * perSeat ns else u
def lapseOf : List Int → Int
  | [_, l, _, _, _] => l
  | _ => 0
/-- a function of a rule, an integer -/
def spRI (C : Addr) (f : List Int → Int) : Sp := fun vs H Q _ => ∃ (r : Addr) (ns : List Int) (L : List Ck) (I : List (Hp → Prop)), vs = [.ref r] ∧ Own H L I ∧ ruleI C r ns ∈ I ∧ Good ns ∧ Q (.int (f ns)) H
theorem ask_ri {C r : Addr} {f : List Int → Int} {ns : List Int} {H : Hp} {Q : VK} {E : XK} {L : List Ck} {I : List (Hp → Prop)} (h : Own H L I) (p : ruleI C r ns ∈ I) (g : Good ns) (q : Q (.int (f ns)) H) : Ask (spRI C f ([.ref r] ++ []) H Q E) := ⟨r, ns, L, I, rfl, h, p, g, q⟩
section
variable (P : Program) (W0 : World) {K : PySem.W.Frag} {mg : Str → Option Value} (base : Heap)
set_option hygiene false in
local macro_rules | `(tactic| walk_at "cls") => `(tactic| first | exact T.c_Rule.cl | exact T.na_Rule_seats | exact T.na_Rule_lapse | exact T.na_Rule_beat | exact T.na_Rule_grace | exact T.na_Rule_late)
local macro_rules | `(tactic| walk_at "fld") => `(tactic| refine fld_rule (by assumption) (by walk_at "mem") (by walk_at "cls") (by walk_at "cls") rfl ?_)
local macro_rules | `(tactic| walk_at "good") => `(tactic| first | assumption | exact good_mk (by omega))
local macro_rules | `(tactic| walk_at "sm") => `(tactic| assumption)
local macro_rules | `(tactic| walk_at "lo") => `(tactic| first | omega | (simp only [lo_0, lo_1, lo_2, lo_3, lo_4]; omega))
set_option hygiene false in
local macro_rules | `(tactic| walk_at "seq") => `(tactic| first | exact T.s_WORDS _ | exact T.s_PASS _ | exact T.s_FAULTS _ | exact T.s_USER_WORDS _)
set_option hygiene false in
local macro_rules | `(tactic| walk_at "ask") => `(tactic| first
  | fail)
theorem G_most_at_one_seat (T : Tx W0 K mg) : FnOk P W0 K mg base CX0 1 T.f_most_at_one_seat T.d_most_at_one_seat ["rule"] (spRI T.C_Rule perSeat) := by
  refine T.F_most_at_one_seat.ok sc_most_at_one_seat (fun vs H Q E h => ?_) (fun cdv A outer s H vs Q E hr h => ?_)
  · obtain ⟨r, ns, L, I, rfl, _⟩ := h
    rfl
  · obtain ⟨r, ns, L, I, rfl, hO, hp, ⟨s, l, b, g, t, rfl, ⟨h0, h1, h2, h3, h4⟩, h5, h6, h7, h8, h9⟩, q⟩ := h
    refine ⟨_, (pss_one (ps_ret (pe_op c_addG (pe_op c_div (pe_op c_addG (e_fld (c_var 0)) (e_fld (c_var 0))) (e_fld (c_var 0))) pe_int))), ?_⟩
    walk_at "go"
    exact q
section
local macro_rules | `(tactic| walk_at "ask") => `(tactic| refine ask_ri (by assumption) (by assumption) (by assumption) ?_)
end
end
end My
set_option Elab.async false
set_option linter.all false
set_option maxRecDepth 100000
set_option maxHeartbeats 800000
namespace My
open PySem PySem.Spec PyProof.Rows L2 RZ SkE CL OW
def shareB (ns : List Int) : Bool := decide (1 < perSeat ns)
def silentB : List Int → Bool
  | [_, l, b, _, t] => decide (l ≤ b + t)
  | _ => false
def silN (ns : List Int) : Int := if silentB ns then 1 else 2
/-- how long the parts of a plan are -/
def planN (z : Str) (ns : List Int) (u : Int) : Option (Int × Int × Int) :=
  if z = "over" then (if u ≤ seatsOf ns ∨ shareB ns = false then none else some (silN ns, lapseOf ns, seatsOf ns))
  else if z = "taken" then (if shareB ns = false ∨ silentB ns = false then none else some (1, lapseOf ns, 0))
  else if z = "twice" then (if u < 2 ∨ shareB ns = false then none else some (silN ns, lapseOf ns, 1))
  else (if u ≤ seatsOf ns then none else some (seatsOf ns + 2, 0, 0))
end My
set_option Elab.async false
set_option linter.all false
set_option maxRecDepth 100000
set_option maxHeartbeats 800000
namespace My
open PySem PySem.Spec PyProof.Rows L2 RZ SkE CL OW
/-- events of users below n -/
def evB (n : Int) : Ev → Prop
  | .pass => True
  | .on _ u => 0 ≤ u ∧ u < n
end My
set_option Elab.async false
set_option linter.all false
set_option maxRecDepth 100000
set_option maxHeartbeats 800000
namespace My
open PySem PySem.Spec PyProof.Rows L2 RZ SkE CL OW
structure Sane (s : Hs) : Prop where
  one : ∀ (i j : Nat) (u t t' : Int), s.kp[i]? = some (some (u, t)) → s.kp[j]? = some (some (u, t')) → i = j
  same : ∀ (i : Nat) (u t : Int) (x : Int × Int), s.kp[i]? = some (some (u, t)) → s.us.lookup u = some x → x.1 = i
  ct : s.ct.Nodup
theorem Sane.sub {s : Hs} (h : Sane s) {kp : List (Option (Int × Int))} (k : ∀ (i : Nat) (p : Int × Int), kp[i]? = some (some p) → s.kp[i]? = some (some p)) {us : List (Int × Int × Int)} (l : ∀ w x, us.lookup w = some x → s.us.lookup w = some x) (mo : Int) : Sane ⟨mo, us, kp, s.ct⟩ :=
  ⟨fun i j u t t' a b => h.one i j u t t' (k i _ a) (k j _ b), fun i u t x a b => h.same i u t x (k i _ a) (l _ _ b), h.ct⟩
structure Inv (r : Ru) (s : Hs) : Prop where
  old : ∀ p ∈ s.us, s.mo - p.2.2 ≤ r.gr + r.lt
  seat : ∀ p ∈ s.us, 0 ≤ p.2.1 ∧ p.2.1 < r.se
  kage : ∀ k ∈ s.kp, ∀ p, k = some p → s.mo - p.2 < r.la
  time : ∀ (i : Nat) (u t : Int) (x : Int × Int), s.kp[i]? = some (some (u, t)) → s.us.lookup u = some x → x.2 = t
  len : s.kp.length = r.se.toNat
structure Gap (r : Ru) (s : Hs) : Prop where
  hold : ∀ p ∈ s.us, (∃ (j : Nat) (t : Int), p.2.1 = j ∧ s.kp[j]? = some (some (p.1, t))) ∨ r.la ≤ s.mo - p.2.2
  apart : ∀ p ∈ s.us, ∀ q ∈ s.us, p.1 ≠ q.1 → p.2.1 = q.2.1 → r.la ≤ p.2.2 - q.2.2 ∨ r.la ≤ q.2.2 - p.2.2
def seatAges (mo : Int) (us : List (Int × Int × Int)) (sh : Int) : List Int := (us.filter fun p => decide (p.2.1 = sh)).map fun p => mo - p.2.2
theorem ages_apart {r : Ru} {s : Hs} {us : List (Int × Int × Int)} (g : Gap r s) (pm : us.Perm s.us) (nd : NdU s.us) (sh : Int) : (seatAges s.mo us sh).Pairwise (fun a b => r.la ≤ a - b ∨ r.la ≤ b - a) := by
  have nd2 : (us.map (·.1)).Nodup := (pm.map _).nodup_iff.mpr nd
  have pw := List.pairwise_map.mp (show (us.map (·.1)).Pairwise (· ≠ ·) from nd2)
  unfold seatAges
  refine List.pairwise_map.mpr ((pw.filter _).imp_of_mem fun {p q} hp hq ne => ?_)
  obtain ⟨m1, d1⟩ := List.mem_filter.mp hp
  obtain ⟨m2, d2⟩ := List.mem_filter.mp hq
  have d1 := of_decide_eq_true d1
  have d2 := of_decide_eq_true d2
  have := g.apart p (pm.mem_iff.mp m1) q (pm.mem_iff.mp m2) ne (by omega)
  omega
theorem gaps_sorted {la : Int} (h : 1 ≤ la) {zs ages : List Int} (p : zs.Perm ages) (pw : ages.Pairwise (fun a b => la ≤ a - b ∨ la ≤ b - a)) (s : zs.Pairwise (· ≤ ·)) : zs.Pairwise (fun a b => la ≤ b - a) := by
  have pz := (p.pairwise_iff (fun {x y} z => by omega)).mpr pw
  exact (pz.and s).imp fun {a b} z => by
    have z1 : la ≤ a - b ∨ la ≤ b - a := z.1
    have z2 : a ≤ b := z.2
    show la ≤ b - a
    omega
theorem gaps_up {la m : Int} (h : 1 ≤ la) : ∀ {zs : List Int} {lo : Int}, zs.Pairwise (fun a b => la ≤ b - a) → (∀ z ∈ zs, lo ≤ z ∧ z ≤ m) → zs ≠ [] → lo + la * (zs.length : Int) ≤ m + la
  | [], _, _, _, n => absurd rfl n
  | [z], lo, _, b, _ => by
    have := b z List.mem_cons_self
    show lo + la * ((1 : Nat) : Int) ≤ m + la
    omega
  | z :: y :: zs, lo, pw, b, _ => by
    have pw := List.pairwise_cons.mp pw
    have b0 := b z List.mem_cons_self
    have := gaps_up (m := m) h (lo := lo + la) pw.2 (fun w mw => by
      have : la ≤ w - z := pw.1 w mw
      have := b w (List.mem_cons_of_mem _ mw)
      omega) (List.cons_ne_nil _ _)
    have e : (((z :: y :: zs).length : Nat) : Int) = ((y :: zs).length : Int) + 1 := by rw [List.length_cons]; exact Int.natCast_succ _
    rw [e, Int.mul_add, Int.mul_one]
    omega
theorem gaps_len {la m : Int} (h : 1 ≤ la) (hm : 0 ≤ m) {zs : List Int} (pw : zs.Pairwise (fun a b => la ≤ b - a)) (b : ∀ z ∈ zs, 0 ≤ z ∧ z ≤ m) : (zs.length : Int) ≤ m / la + 1 := by
  by_cases n : zs = []
  · rw [n]
    have := Int.ediv_nonneg hm (show 0 ≤ la by omega)
    show (0 : Int) ≤ _
    omega
  · have u := gaps_up (m := m) h (lo := 0) pw b n
    have := Int.le_ediv_of_mul_le (a := (zs.length : Int) - 1) (b := m) (c := la) (by omega) (by rw [Int.sub_mul, Int.one_mul, Int.mul_comm]; omega)
    omega
end My
set_option Elab.async false
set_option linter.all false
set_option maxRecDepth 100000
set_option maxHeartbeats 800000
namespace My
open PySem PySem.Spec PyProof.Rows L2 RZ SkE CL OW
theorem len_split {α : Type} (p : α → Bool) : ∀ l : List α, (l.filter p).length + (l.filter fun x => !p x).length = l.length
  | [] => rfl
  | x :: l => by
    have := len_split p l
    cases h : p x with
    | true => rw [List.filter_cons_of_pos h, List.filter_cons_of_neg (by rw [h]; decide), List.length_cons, List.length_cons]; omega
    | false => rw [List.filter_cons_of_neg (by rw [h]; decide), List.filter_cons_of_pos (by rw [h]; rfl), List.length_cons, List.length_cons]; omega
theorem nodup_in {α : Type} [DecidableEq α] : ∀ {l m : List α}, l.Nodup → (∀ x ∈ l, x ∈ m) → l.length ≤ m.length
  | [], _, _, _ => Nat.zero_le _
  | x :: l, m, n, h => by
    have n := List.nodup_cons.mp n
    have mx := h x List.mem_cons_self
    have := nodup_in (l := l) (m := m.erase x) n.2 fun y my => by
      have e : y ≠ x := fun z => n.1 (z ▸ my)
      exact (List.mem_erase_of_ne e).mpr (h y (List.mem_cons_of_mem _ my))
    rw [List.length_erase_of_mem mx] at this
    have pos := List.length_pos_of_mem mx
    rw [List.length_cons]
    omega
theorem all_seats {M : Int} : ∀ (n : Nat) (us : List (Int × Int × Int)), (∀ p ∈ us, 0 ≤ p.2.1 ∧ p.2.1 < n) → (∀ sh : Int, ((us.filter fun p => decide (p.2.1 = sh)).length : Int) ≤ M) → (us.length : Int) ≤ n * M
  | 0, us, h, _ => by
    cases us with
    | nil => rw [show (((0 : Nat) : Int)) = 0 from rfl, Int.zero_mul]; exact Int.le_refl _
    | cons p us => have := h p List.mem_cons_self; omega
  | n + 1, us, h, c => by
    have sp := len_split (fun p : Int × Int × Int => decide (p.2.1 = (n : Int))) us
    have ih := all_seats n (us.filter fun p => !decide (p.2.1 = (n : Int))) (fun p m => by
      obtain ⟨a, b⟩ := List.mem_filter.mp m
      have := h p a
      have b : ¬ p.2.1 = (n : Int) := by simpa using b
      omega) (fun sh => by
      refine Int.le_trans ?_ (c sh)
      have := List.Sublist.length_le (List.Sublist.filter (fun p : Int × Int × Int => decide (p.2.1 = sh)) (List.filter_sublist (p := fun p : Int × Int × Int => !decide (p.2.1 = (n : Int))) (l := us)))
      omega)
    have cn := c n
    have e : ((n + 1 : Nat) : Int) * M = (n : Int) * M + M := by rw [Int.natCast_succ, Int.add_mul, Int.one_mul]
    rw [e]
    omega
theorem seat_many {r : Ru} {s : Hs} (g : 0 ≤ r.gr + r.lt) (la : 1 ≤ r.la) (gp : Gap r s) (iv : Inv r s) (nd : NdU s.us) (tm : ∀ p ∈ s.us, p.2.2 ≤ s.mo) (sh : Int) : ((s.us.filter fun p => decide (p.2.1 = sh)).length : Int) ≤ (r.gr + r.lt) / r.la + 1 := by
  have ap := ages_apart gp (List.Perm.refl _) nd sh
  have pm := srtI_perm (seatAges s.mo s.us sh)
  have pw := gaps_sorted la pm ap (srtI_asc _)
  have := gaps_len la g pw (fun z m => by
    have m := pm.mem_iff.mp m
    unfold seatAges at m
    obtain ⟨p, hp, rfl⟩ := List.mem_map.mp m
    have hp := (List.mem_filter.mp hp).1
    have := iv.old p hp
    have := tm p hp
    omega)
  rw [srtI_len] at this
  unfold seatAges at this
  rw [List.length_map] at this
  exact this
def isP : Ev → Bool
  | .pass => true
  | .on _ _ => false
/-- what the events so far tell of how things stand -/
structure EvK (r : Ru) (es : List Ev) (s : Hs) : Prop where
  us : ∀ p ∈ s.us, Ev.on .borrow p.1 ∈ es
  kp : ∀ u t, some (u, t) ∈ s.kp → Ev.on .borrow u ∈ es
  ct : ∀ u ∈ s.ct, Ev.on .cut u ∈ es
  old : ∀ p ∈ s.us, r.be + r.lt < s.mo - p.2.2 → Ev.on .cut p.1 ∈ es
  gone : ∀ u t, some (u, t) ∈ s.kp → s.us.lookup u = none → Ev.on .crash u ∈ es ∨ Ev.on .stop u ∈ es
  mo : ((es.filter isP).length : Int) = s.mo
  tm : ∀ p ∈ s.us, 0 ≤ p.2.2 ∧ p.2.2 ≤ s.mo
  kt : ∀ u t, some (u, t) ∈ s.kp → 0 ≤ t ∧ t ≤ s.mo
theorem EvK.up {r : Ru} {es es2 : List Ev} {s : Hs} (h : EvK r es s) (sub : ∀ x ∈ es, x ∈ es2) (mo : (es2.filter isP).length = (es.filter isP).length) : EvK r es2 s := ⟨fun p m => sub _ (h.us p m), fun v t m => sub _ (h.kp v t m), fun v m => sub _ (h.ct v m), fun p m o => sub _ (h.old p m o), fun v t m n => (h.gone v t m n).imp (sub _) (sub _), by rw [mo]; exact h.mo, h.tm, h.kt⟩
/-- all that holds behind some events -/
structure Beh (r : Ru) (es : List Ev) (s : Hs) : Prop where
  k : EvK r es s
  sa : Sane s
  iv : Inv r s
  gp : Gap r s
  nd : NdU s.us
theorem ev_len {es L : List Ev} (n : L.Nodup) (h : ∀ x ∈ L, x ∈ es ∧ isP x = false) : L.length + (es.filter isP).length ≤ es.length := by
  have a := nodup_in (m := es.filter fun x => !isP x) n fun x m => List.mem_filter.mpr ⟨(h x m).1, by rw [(h x m).2]; rfl⟩
  have := len_split isP es
  omega
theorem map_on {us : List Int} {w : Wd} (n : us.Nodup) : (us.map fun u => Ev.on w u).Nodup := List.pairwise_map.mpr (n.imp fun {a b} h e => h (by cases e; rfl))
end My
set_option Elab.async false
set_option linter.all false
set_option maxRecDepth 100000
set_option maxHeartbeats 800000
namespace My
open PySem PySem.Spec PyProof.Rows L2 RZ SkE CL OW
theorem lookup_some_mem {us : List (Int × Int × Int)} {u : Int} {x : Int × Int × Int} (h : x ∈ us) (e : x.1 = u) : ∃ y, us.lookup u = some y := by
  cases q : us.lookup u with
  | some y => exact ⟨y, rfl⟩
  | none => exact absurd (e ▸ List.mem_map.mpr ⟨x, h, rfl⟩) (lookup_none q)
theorem sil_le (ns : List Int) : 1 ≤ silN ns ∧ silN ns ≤ 2 := by
  unfold silN
  split <;> decide
section
variable {r : Ru} {es : List Ev} {s : Hs} {N : Int}
theorem Beh.usersIn (h : Beh r es s) (ev : ∀ e ∈ es, evB N e) : ∀ p ∈ s.us, 0 ≤ p.1 ∧ p.1 < N := fun p m => ev _ (h.k.us p m)
theorem Beh.few (h : Beh r es s) (ev : ∀ e ∈ es, evB N e) (hN : 0 ≤ N) : (s.us.length : Int) ≤ N := by
  have b := h.usersIn ev
  have := nodup_le (l := (s.us.map (·.1)).map Int.toNat) (n := N.toNat) (List.pairwise_map.mpr (List.Pairwise.imp_of_mem (fun {a b2} ma mb ne e => by
    obtain ⟨p, hp, rfl⟩ := List.mem_map.mp ma
    obtain ⟨q, hq, rfl⟩ := List.mem_map.mp mb
    have := b p hp
    have := b q hq
    exact ne (by omega)) (show (s.us.map (·.1)).Pairwise (· ≠ ·) from h.nd))) (fun z m => by
    obtain ⟨a, ma, rfl⟩ := List.mem_map.mp m
    obtain ⟨p, hp, rfl⟩ := List.mem_map.mp ma
    have := b p hp
    omega)
  rw [List.length_map, List.length_map] at this
  omega
theorem Beh.total (h : Beh r es s) (g : 0 ≤ r.gr + r.lt) (la : 1 ≤ r.la) (se : 0 ≤ r.se) : (s.us.length : Int) ≤ r.se * perSeat r.l := by
  have := all_seats (M := perSeat r.l) r.se.toNat s.us (fun p m => by have := h.iv.seat p m; omega) (fun sh => seat_many g la h.gp h.iv h.nd (fun p m => (h.k.tm p m).2) sh)
  rwa [show ((r.se.toNat : Nat) : Int) = r.se by omega] at this
theorem Beh.most (h : Beh r es s) (g : 0 ≤ r.gr + r.lt) (la : 1 ≤ r.la) (se : 0 ≤ r.se) (ev : ∀ e ∈ es, evB N e) (hN : 0 ≤ N) : (s.us.length : Int) ≤ mostv r.l N := by
  have a := h.total g la se
  have b := h.few ev hN
  unfold mostv
  rw [show seatsOf r.l = r.se from rfl]
  split
  · exact a
  · exact b
theorem Beh.count (h : Beh r es s) (c : silN r.l = 2 → ∃ u, Ev.on .cut u ∈ es) : silN r.l - 1 + (s.us.length : Int) + s.mo ≤ es.length := by
  have nd : ((s.us.map (·.1)).map fun u => Ev.on .borrow u).Nodup := map_on h.nd
  have inB : ∀ x ∈ (s.us.map (·.1)).map fun u => Ev.on .borrow u, x ∈ es ∧ isP x = false := fun x m => by
    obtain ⟨u, hu, rfl⟩ := List.mem_map.mp m
    obtain ⟨p, hp, rfl⟩ := List.mem_map.mp hu
    exact ⟨h.k.us p hp, rfl⟩
  have mo := h.k.mo
  have := sil_le r.l
  by_cases z : silN r.l = 2
  · obtain ⟨u, hu⟩ := c z
    have := ev_len (es := es) (L := Ev.on .cut u :: (s.us.map (·.1)).map fun u => Ev.on .borrow u) (List.nodup_cons.mpr ⟨fun m => (by
      obtain ⟨v, _, e⟩ := List.mem_map.mp m
      cases e), nd⟩) (fun x m => by
      rcases List.mem_cons.mp m with rfl | m
      · exact ⟨hu, rfl⟩
      · exact inB x m)
    rw [List.length_cons, List.length_map, List.length_map] at this
    omega
  · have := ev_len (es := es) nd inB
    rw [List.length_map, List.length_map] at this
    omega
end
end My
set_option Elab.async false
set_option linter.all false
set_option maxRecDepth 100000
set_option maxHeartbeats 800000
namespace My
open PySem PySem.Spec PyProof.Rows L2 RZ SkE CL OW
def fillH (U : List (Int × Int × Int)) (ct : List Int) (a mo : Int) (se j : Nat) : Hs := ⟨mo, U ++ (List.range j).map (fun i : Nat => (a + (i : Int), (i : Int), mo)), (List.range j).map (fun i : Nat => some (a + (i : Int), mo)) ++ List.replicate (se - j) none, ct⟩
def borE (a : Int) (j : Nat) : List Ev := (List.range j).map fun i : Nat => Ev.on .borrow (a + (i : Int))
theorem borE_succ (a : Int) (j : Nat) : borE a (j + 1) = borE a j ++ [Ev.on .borrow (a + (j : Int))] := by
  unfold borE
  rw [List.range_succ, List.map_append]
  rfl
theorem fill_kp {U : List (Int × Int × Int)} {ct : List Int} {a mo : Int} {se j : Nat} (h : j ≤ se) : (fillH U ct a mo se j).kp.length = se := by
  show ((List.range j).map _ ++ List.replicate (se - j) none).length = se
  rw [List.length_append, List.length_map, List.length_range, List.length_replicate]
  omega
theorem fill_us {U : List (Int × Int × Int)} {ct : List Int} {a mo : Int} {se j : Nat} : (fillH U ct a mo se j).us.length = U.length + j := by
  show (U ++ (List.range j).map _).length = _
  rw [List.length_append, List.length_map, List.length_range]
theorem fill_new {U : List (Int × Int × Int)} {ct : List Int} {a mo : Int} {se j : Nat} (hU : ∀ p ∈ U, p.1 < a) {u : Int} (hu : a + (j : Int) ≤ u) : (fillH U ct a mo se j).us.lookup u = none := by
  cases q : (fillH U ct a mo se j).us.lookup u with
  | none => rfl
  | some x =>
    have m : (u, x) ∈ U ++ (List.range j).map (fun i : Nat => (a + (i : Int), (i : Int), mo)) := lookup_mem q
    rcases List.mem_append.mp m with m | m
    · have := hU _ m; omega
    · obtain ⟨i, hi, e⟩ := List.mem_map.mp m
      have := List.mem_range.mp hi
      have e : a + (i : Int) = u := congrArg Prod.fst e
      omega
theorem fill_seat {U : List (Int × Int × Int)} {ct : List Int} {a mo : Int} {se j : Nat} {u : Int} (hu : a + (j : Int) ≤ u) : seatK (fillH U ct a mo se j).kp u = none := by
  refine List.findIdx?_eq_none_iff.mpr fun x m => ?_
  have m : x ∈ (List.range j).map (fun i : Nat => some (a + (i : Int), mo)) ++ List.replicate (se - j) none := m
  rcases List.mem_append.mp m with m | m
  · obtain ⟨i, hi, rfl⟩ := List.mem_map.mp m
    have := List.mem_range.mp hi
    exact decide_eq_false (by show ¬ a + (i : Int) = u; omega)
  · rw [(List.mem_replicate.mp m).2]
    rfl
theorem fill_free {U : List (Int × Int × Int)} {ct : List Int} {a mo : Int} {se j : Nat} (h : j < se) : freeK (fillH U ct a mo se j).kp = some j := by
  refine List.findIdx?_eq_some_iff_getElem.mpr ⟨by rw [fill_kp (Nat.le_of_lt h)]; exact h, ?_, fun i hi => ?_⟩
  · have e : (fillH U ct a mo se j).kp[j]? = some none := by
      show ((List.range j).map (fun i : Nat => some (a + (i : Int), mo)) ++ List.replicate (se - j) none)[j]? = _
      rw [List.getElem?_append_right (by rw [List.length_map, List.length_range]; exact Nat.le_refl _), List.length_map, List.length_range, Nat.sub_self, List.getElem?_replicate, if_pos (by omega)]
    rw [(List.getElem?_eq_some_iff.mp e).2]
    rfl
  · have e : (fillH U ct a mo se j).kp[i]? = some (some (a + (i : Int), mo)) := by
      show ((List.range j).map (fun i : Nat => some (a + (i : Int), mo)) ++ List.replicate (se - j) none)[i]? = _
      rw [List.getElem?_append_left (by rw [List.length_map, List.length_range]; exact hi), List.getElem?_map, List.getElem?_range hi]
      rfl
    rw [(List.getElem?_eq_some_iff.mp e).2]
    simp
theorem fill_full {U : List (Int × Int × Int)} {ct : List Int} {a mo : Int} {se : Nat} : freeK (fillH U ct a mo se se).kp = none := by
  refine List.findIdx?_eq_none_iff.mpr fun x m => ?_
  have m : x ∈ (List.range se).map (fun i : Nat => some (a + (i : Int), mo)) ++ List.replicate (se - se) none := m
  rw [Nat.sub_self] at m
  rcases List.mem_append.mp m with m | m
  · obtain ⟨i, _, rfl⟩ := List.mem_map.mp m
    rfl
  · exact absurd m List.not_mem_nil
theorem fill_do {r : Ru} {U : List (Int × Int × Int)} {ct : List Int} {a mo : Int} {se j : Nat} (h : j < se) (hU : ∀ p ∈ U, p.1 < a) : doH r (fillH U ct a mo se j) (.on .borrow (a + (j : Int))) = (fillH U ct a mo se (j + 1), []) := by
  show (match lendK (fillH U ct a mo se j).kp (a + (j : Int)) with | some i => (ansH (fillH U ct a mo se j) (a + (j : Int)) i, ([] : List Str)) | none => _) = _
  unfold lendK
  rw [fill_seat (Int.le_refl _), fill_free h]
  show (ansH (fillH U ct a mo se j) (a + (j : Int)) j, ([] : List Str)) = _
  congr 1
  unfold ansH
  have e1 : putU (fillH U ct a mo se j).us (a + (j : Int)) ((j : Int), mo) = U ++ (List.range (j + 1)).map (fun i : Nat => (a + (i : Int), (i : Int), mo)) := by
    unfold putU
    rw [fill_new hU (Int.le_refl _)]
    show (U ++ (List.range j).map (fun i : Nat => (a + (i : Int), (i : Int), mo))) ++ [(a + (j : Int), (j : Int), mo)] = _
    rw [List.range_succ, List.map_append, List.append_assoc]
    rfl
  have e2 : (fillH U ct a mo se j).kp.set j (some (a + (j : Int), mo)) = (List.range (j + 1)).map (fun i : Nat => some (a + (i : Int), mo)) ++ List.replicate (se - (j + 1)) none := by
    show ((List.range j).map (fun i : Nat => some (a + (i : Int), mo)) ++ List.replicate (se - j) none).set j (some (a + (j : Int), mo)) = _
    obtain ⟨k, hk⟩ : ∃ k, se - j = k + 1 := ⟨se - j - 1, by omega⟩
    rw [List.set_append_right _ _ (by rw [List.length_map, List.length_range]; exact Nat.le_refl _), List.length_map, List.length_range, Nat.sub_self, hk, List.replicate_succ, List.set_cons_zero, List.range_succ, List.map_append, List.append_assoc, show se - (j + 1) = k by omega]
    rfl
  show Hs.mk mo (putU (fillH U ct a mo se j).us (a + (j : Int)) ((j : Int), mo)) ((fillH U ct a mo se j).kp.set j (some (a + (j : Int), mo))) ct = _
  rw [e1, e2]
  rfl
theorem fill_can {r : Ru} {U : List (Int × Int × Int)} {ct : List Int} {a mo : Int} {se j : Nat} (hU : ∀ p ∈ U, p.1 < a) (hc : ∀ u ∈ ct, u < a) : canH r (fillH U ct a mo se j) (.on .borrow (a + (j : Int))) = true := by
  show (!usesB _ _ && !cutB _ _) = true
  unfold usesB
  rw [fill_new hU (Int.le_refl _)]
  show (true && !decide (a + (j : Int) ∈ ct)) = true
  rw [decide_eq_false (fun m => by have := hc _ m; omega)]
  rfl
/-- some borrow, one behind the other -/
theorem fill_go {r : Ru} {U : List (Int × Int × Int)} {ct : List Int} {a mo : Int} {se : Nat} (hU : ∀ p ∈ U, p.1 < a) (hc : ∀ u ∈ ct, u < a) : ∀ n, n ≤ se → goH r (fillH U ct a mo se 0) (borE a n) = fillH U ct a mo se n ∧ allH r (fillH U ct a mo se 0) (borE a n) = true
  | 0, _ => ⟨rfl, rfl⟩
  | n + 1, h => by
    obtain ⟨e1, e2⟩ := fill_go (r := r) (mo := mo) hU hc n (Nat.le_of_succ_le h)
    rw [borE_succ, goH_snoc, allH_snoc, e1, e2, fill_can hU hc, fill_do (by omega) hU]
    exact ⟨rfl, rfl⟩
theorem first_fill (r : Ru) : firstH r = fillH [] [] 0 0 r.se.toNat 0 := rfl
theorem allH_app {r : Ru} : ∀ (a b : List Ev) (s : Hs), allH r s (a ++ b) = (allH r s a && allH r (goH r s a) b)
  | [], _, _ => (Bool.true_and _).symm
  | e :: a, b, s => by
    show (canH r s e && allH r (doH r s e).1 (a ++ b)) = ((canH r s e && allH r (doH r s e).1 a) && allH r (goH r (doH r s e).1 a) b)
    rw [allH_app a b, Bool.and_assoc]
theorem goH_app2 (r : Ru) : ∀ (a b : List Ev) (s : Hs), goH r s (a ++ b) = goH r (goH r s a) b
  | [], _, _ => rfl
  | _ :: a, b, _ => goH_app2 r a b _
/-- user 0 uses seat 0 since moment 0, its seat kept or not -/
def oneH (ct : List Int) (mo : Int) (k : Option (Int × Int)) (m : Nat) : Hs := ⟨mo, [(0, 0, 0)], k :: List.replicate m none, ct⟩
theorem pass_none (la mo : Int) (m : Nat) : (List.replicate m (none : Option (Int × Int))).map (passK la mo) = List.replicate m none := by rw [List.map_replicate]; rfl
theorem one_can {r : Ru} {ct : List Int} {mo : Int} {k : Option (Int × Int)} {m : Nat} (h1 : mo < r.gr + r.lt) (h2 : mo < r.be + r.lt ∨ (0 : Int) ∈ ct) : canH r (oneH ct mo k m) .pass = true := by
  show List.all [((0 : Int), (0 : Int), (0 : Int))] (passOk r (oneH ct mo k m)) = true
  rw [List.all_cons, List.all_nil, Bool.and_true]
  show (!decide (r.gr + r.lt ≤ mo - 0) && !(decide (r.be + r.lt ≤ mo - 0) && !decide ((0 : Int) ∈ ct))) = true
  rw [decide_eq_false (by omega : ¬ r.gr + r.lt ≤ mo - 0)]
  rcases h2 with h2 | h2
  · rw [decide_eq_false (by omega : ¬ r.be + r.lt ≤ mo - 0)]; rfl
  · rw [decide_eq_true h2]
    cases decide (r.be + r.lt ≤ mo - 0) <;> rfl
theorem one_pass {r : Ru} {ct : List Int} {mo : Int} {m : Nat} (h : mo + 1 ≠ r.la) : (doH r (oneH ct mo (some (0, 0)) m) .pass).1 = oneH ct (mo + 1) (some (0, 0)) m := by
  show Hs.mk (mo + 1) _ ((some (0, 0) :: List.replicate m none).map (passK r.la (mo + 1))) ct = _
  rw [List.map_cons, pass_none]
  unfold passK outK
  rw [if_neg (by rw [decide_eq_true_eq]; omega)]
  rfl
theorem one_lost {r : Ru} {ct : List Int} {mo : Int} {m : Nat} (h : mo + 1 = r.la) : (doH r (oneH ct mo (some (0, 0)) m) .pass).1 = oneH ct (mo + 1) none m := by
  show Hs.mk (mo + 1) _ ((some (0, 0) :: List.replicate m none).map (passK r.la (mo + 1))) ct = _
  rw [List.map_cons, pass_none]
  unfold passK outK
  rw [if_pos (by rw [decide_eq_true_eq]; omega)]
  rfl
theorem rep_snoc (n : Nat) : List.replicate (n + 1) Ev.pass = List.replicate n Ev.pass ++ [Ev.pass] := List.replicate_succ'
theorem one_go {r : Ru} {ct : List Int} {m : Nat} (g : r.la ≤ r.gr + r.lt) (b : r.la ≤ r.be + r.lt ∨ (0 : Int) ∈ ct) : ∀ n : Nat, (n : Int) < r.la → goH r (oneH ct 0 (some (0, 0)) m) (List.replicate n .pass) = oneH ct n (some (0, 0)) m ∧ allH r (oneH ct 0 (some (0, 0)) m) (List.replicate n .pass) = true
  | 0, _ => ⟨rfl, rfl⟩
  | n + 1, h => by
    obtain ⟨e1, e2⟩ := one_go (ct := ct) (m := m) g b n (by omega)
    rw [rep_snoc, goH_snoc, allH_snoc, e1, e2, one_pass (by omega), one_can (by omega) (b.imp (by omega) id)]
    exact ⟨rfl, rfl⟩
/-- the lapse has gone by -/
theorem one_all {r : Ru} {ct : List Int} {m : Nat} (la : 1 ≤ r.la) (g : r.la ≤ r.gr + r.lt) (b : r.la ≤ r.be + r.lt ∨ (0 : Int) ∈ ct) : goH r (oneH ct 0 (some (0, 0)) m) (List.replicate r.la.toNat .pass) = oneH ct r.la none m ∧ allH r (oneH ct 0 (some (0, 0)) m) (List.replicate r.la.toNat .pass) = true := by
  obtain ⟨n, hn⟩ : ∃ n : Nat, r.la.toNat = n + 1 := ⟨r.la.toNat - 1, by omega⟩
  obtain ⟨e1, e2⟩ := one_go (ct := ct) (m := m) g b n (by omega)
  rw [hn, rep_snoc, goH_snoc, allH_snoc, e1, e2, one_lost (by omega), one_can (by omega) (b.imp (by omega) id), show (n : Int) + 1 = r.la by omega]
  exact ⟨rfl, rfl⟩
end My
set_option Elab.async false
set_option linter.all false
set_option maxRecDepth 100000
set_option maxHeartbeats 800000
namespace My
open PySem PySem.Spec PyProof.Rows L2 RZ SkE CL OW
def silE (r : Ru) : List Ev := if silentB r.l then [.on .borrow 0] else [.on .borrow 0, .on .cut 0]
/-- the day that is told for a fault -/
def planE (z : Str) (r : Ru) (u : Int) : Option (List Ev) :=
  if z = "over" then (if u ≤ r.se ∨ shareB r.l = false then none else some (silE r ++ List.replicate r.la.toNat .pass ++ borE 1 r.se.toNat))
  else if z = "taken" then (if shareB r.l = false ∨ silentB r.l = false then none else some ([.on .borrow 0] ++ List.replicate r.la.toNat .pass ++ []))
  else if z = "twice" then (if u < 2 ∨ shareB r.l = false then none else some (silE r ++ List.replicate r.la.toNat .pass ++ [.on .borrow 1]))
  else (if u ≤ r.se then none else some (borE 0 r.se.toNat ++ [.on .crash 0, .on .borrow r.se]))
theorem share_la {r : Ru} (la : 1 ≤ r.la) (h : shareB r.l = true) : r.la ≤ r.gr + r.lt := by
  have h : 1 < (r.gr + r.lt) / r.la + 1 := of_decide_eq_true h
  refine Int.not_lt.mp fun c => ?_
  by_cases n : 0 ≤ r.gr + r.lt
  · have := Int.ediv_eq_zero_of_lt n c
    omega
  · have := Int.ediv_neg_of_neg_of_pos (show r.gr + r.lt < 0 by omega) (show 0 < r.la by omega)
    omega
theorem sil_la {r : Ru} (h : silentB r.l = true) : r.la ≤ r.be + r.lt := of_decide_eq_true (show decide (r.la ≤ r.be + r.lt) = true from h)
theorem one_first {r : Ru} (se : 1 ≤ r.se) : doH r (firstH r) (.on .borrow 0) = (oneH [] 0 (some (0, 0)) (r.se.toNat - 1), []) := by
  have := fill_do (r := r) (U := []) (ct := []) (a := 0) (mo := 0) (se := r.se.toNat) (j := 0) (by omega) (fun p m => absurd m List.not_mem_nil)
  rw [show (0 : Int) + ((0 : Nat) : Int) = 0 from rfl, ← first_fill] at this
  rw [this]
  congr 1
theorem sil_go {r : Ru} (se : 1 ≤ r.se) : ∃ ct : List Int, goH r (firstH r) (silE r) = oneH ct 0 (some (0, 0)) (r.se.toNat - 1) ∧ allH r (firstH r) (silE r) = true ∧ (r.la ≤ r.be + r.lt ∨ (0 : Int) ∈ ct) ∧ ∀ u ∈ ct, u = 0 := by
  have c1 : canH r (firstH r) (.on .borrow 0) = true := rfl
  unfold silE
  by_cases h : silentB r.l = true
  · rw [if_pos h]
    refine ⟨[], ?_, ?_, .inl (sil_la h), fun u m => absurd m List.not_mem_nil⟩
    · show (doH r (firstH r) (.on .borrow 0)).1 = _
      rw [one_first se]
    · show (canH r (firstH r) (.on .borrow 0) && true) = true
      rw [c1]; rfl
  · rw [if_neg h]
    refine ⟨[0], ?_, ?_, .inr List.mem_cons_self, fun u m => List.mem_singleton.mp m⟩
    · show (doH r (doH r (firstH r) (.on .borrow 0)).1 (.on .cut 0)).1 = _
      rw [one_first se]
      rfl
    · show (canH r (firstH r) (.on .borrow 0) && (canH r (doH r (firstH r) (.on .borrow 0)).1 (.on .cut 0) && true)) = true
      rw [c1, one_first se]
      rfl
theorem sil_len (r : Ru) : ((silE r).length : Int) = silN r.l := by
  unfold silE silN
  split <;> rfl
theorem lost_fill {ct : List Int} {mo : Int} {se : Nat} (h : 1 ≤ se) : oneH ct mo none (se - 1) = fillH [(0, 0, 0)] ct 1 mo se 0 := by
  obtain ⟨n, rfl⟩ : ∃ n, se = n + 1 := ⟨se - 1, by omega⟩
  unfold oneH fillH
  rw [List.range_zero, List.map_nil, List.map_nil, List.append_nil, List.nil_append, Nat.sub_zero, List.replicate_succ]
  rfl
theorem srtF_mem {z : Str} {l : List Str} (h : z ∈ OW.FLT) (m : z ∈ l) : z ∈ srtF l := List.mem_filter.mpr ⟨h, decide_eq_true m⟩
theorem flt_four {z : Str} (h : z = "over" ∨ z = "taken" ∨ z = "twice" ∨ z = "waits") : z ∈ OW.FLT := by
  rcases h with h | h | h | h <;> subst h <;> decide +kernel
/-- a told day: possible, its last event meets the fault -/
structure Told (r : Ru) (z : Str) (u : Int) (es : List Ev) : Prop where
  all : allH r (firstH r) es = true
  last : ∃ (es0 : List Ev) (e : Ev), es = es0 ++ [e] ∧ z ∈ metF r (goH r (firstH r) es0) e
  len : ∃ x, planN z r.l u = some x ∧ x.1 + x.2.1 + x.2.2 = es.length
  ev : ∀ e ∈ es, evB u e
theorem told_over {r : Ru} {u : Int} (se : 1 ≤ r.se) (la : 1 ≤ r.la) (hu : ¬ u ≤ r.se) (sh : shareB r.l = true) : Told r "over" u (silE r ++ List.replicate r.la.toNat .pass ++ borE 1 r.se.toNat) := by
  obtain ⟨ct, e1, e2, bb, hct⟩ := sil_go (r := r) se
  obtain ⟨e3, e4⟩ := one_all (r := r) (ct := ct) (m := r.se.toNat - 1) la (share_la la sh) bb
  have hU : ∀ p ∈ [((0 : Int), (0 : Int), (0 : Int))], p.1 < 1 := fun p m => by rw [List.mem_singleton.mp m]; decide
  have hc : ∀ u ∈ ct, u < 1 := fun u m => by rw [hct u m]; decide
  have e5 : goH r (firstH r) (silE r ++ List.replicate r.la.toNat .pass) = fillH [(0, 0, 0)] ct 1 r.la r.se.toNat 0 := by
    rw [goH_app2, e1, e3, lost_fill (by omega)]
  obtain ⟨n, hn⟩ : ∃ n : Nat, r.se.toNat = n + 1 := ⟨r.se.toNat - 1, by omega⟩
  obtain ⟨f1, f2⟩ := fill_go (r := r) (ct := ct) (mo := r.la) (se := r.se.toNat) hU hc r.se.toNat (Nat.le_refl _)
  obtain ⟨g1, g2⟩ := fill_go (r := r) (ct := ct) (mo := r.la) (se := r.se.toNat) hU hc n (by omega)
  refine ⟨?_, ?_, ⟨(silN r.l, r.la, r.se), ?_, ?_⟩, ?_⟩
  · rw [allH_app, allH_app, e2, e1, e4, e5, f2]; rfl
  · refine ⟨silE r ++ List.replicate r.la.toNat .pass ++ borE 1 n, .on .borrow (1 + (n : Int)), ?_, ?_⟩
    · rw [hn, borE_succ]
      simp only [List.append_assoc]
    · rw [goH_app2, e5, g1]
      refine srtF_mem (flt_four (.inl rfl)) (List.mem_append_right _ ?_)
      rw [fill_do (by omega) hU]
      unfold lastF
      refine List.mem_append_left _ ?_
      rw [if_pos]
      · exact List.mem_singleton.mpr rfl
      · rw [fill_us]
        show r.se < ((1 + (n + 1) : Nat) : Int)
        omega
  · unfold planN
    rw [if_pos rfl, if_neg]
    · rfl
    · rintro (q | q)
      · exact hu q
      · rw [sh] at q; cases q
  · rw [List.length_append, List.length_append, List.length_replicate]
    have := sil_len r
    have : (borE 1 r.se.toNat).length = r.se.toNat := by unfold borE; rw [List.length_map, List.length_range]
    show silN r.l + r.la + r.se = _
    omega
  · intro e m
    rcases List.mem_append.mp m with m | m
    · rcases List.mem_append.mp m with m | m
      · unfold silE at m
        split at m
        · rw [List.mem_singleton.mp m]; exact ⟨by decide, by omega⟩
        · rcases List.mem_cons.mp m with rfl | m
          · exact ⟨by decide, by omega⟩
          · rw [List.mem_singleton.mp m]; exact ⟨by decide, by omega⟩
      · rw [(List.mem_replicate.mp m).2]; trivial
    · obtain ⟨i, hi, rfl⟩ := List.mem_map.mp m
      have := List.mem_range.mp hi
      exact ⟨by omega, by omega⟩
theorem told_twice {r : Ru} {u : Int} (se : 1 ≤ r.se) (la : 1 ≤ r.la) (hu : ¬ u < 2) (sh : shareB r.l = true) : Told r "twice" u (silE r ++ List.replicate r.la.toNat .pass ++ [.on .borrow 1]) := by
  obtain ⟨ct, e1, e2, bb, hct⟩ := sil_go (r := r) se
  obtain ⟨e3, e4⟩ := one_all (r := r) (ct := ct) (m := r.se.toNat - 1) la (share_la la sh) bb
  have hU : ∀ p ∈ [((0 : Int), (0 : Int), (0 : Int))], p.1 < 1 := fun p m => by rw [List.mem_singleton.mp m]; decide
  have hc : ∀ u ∈ ct, u < 1 := fun u m => by rw [hct u m]; decide
  have e5 : goH r (firstH r) (silE r ++ List.replicate r.la.toNat .pass) = fillH [(0, 0, 0)] ct 1 r.la r.se.toNat 0 := by
    rw [goH_app2, e1, e3, lost_fill (by omega)]
  have fd := fill_do (r := r) (ct := ct) (mo := r.la) (se := r.se.toNat) (j := 0) (by omega) hU
  have fc := fill_can (r := r) (ct := ct) (mo := r.la) (se := r.se.toNat) (j := 0) hU hc
  rw [show (1 : Int) + ((0 : Nat) : Int) = 1 from rfl] at fd fc
  refine ⟨?_, ⟨_, _, rfl, ?_⟩, ⟨(silN r.l, r.la, 1), ?_, ?_⟩, ?_⟩
  · rw [allH_app, allH_app, e2, e1, e4, e5]
    show (true && true && (canH r _ (.on .borrow 1) && true)) = true
    rw [fc]; rfl
  · rw [e5]
    refine srtF_mem (flt_four (.inr (.inr (.inl rfl)))) (List.mem_append_right _ ?_)
    rw [fd]
    unfold lastF
    refine List.mem_append_right _ ?_
    rw [if_neg]
    · exact List.mem_singleton.mpr rfl
    · rw [decide_eq_true_eq]
      show ¬ (seatsH (fillH [(0, 0, 0)] ct 1 r.la r.se.toNat 1)).Nodup
      show ¬ ([0, 0] : List Int).Nodup
      decide
  · unfold planN
    rw [if_neg (by decide +kernel), if_neg (by decide +kernel), if_pos rfl, if_neg]
    · rfl
    · rintro (q | q)
      · exact hu q
      · rw [sh] at q; cases q
  · rw [List.length_append, List.length_append, List.length_replicate, List.length_singleton]
    have := sil_len r
    show silN r.l + r.la + 1 = _
    omega
  · intro e m
    rcases List.mem_append.mp m with m | m
    · rcases List.mem_append.mp m with m | m
      · unfold silE at m
        split at m
        · rw [List.mem_singleton.mp m]; exact ⟨by decide, by omega⟩
        · rcases List.mem_cons.mp m with rfl | m
          · exact ⟨by decide, by omega⟩
          · rw [List.mem_singleton.mp m]; exact ⟨by decide, by omega⟩
      · rw [(List.mem_replicate.mp m).2]; trivial
    · rw [List.mem_singleton.mp m]; exact ⟨by decide, by omega⟩
theorem told_taken {r : Ru} {u : Int} (se : 1 ≤ r.se) (la : 1 ≤ r.la) (hu : 1 ≤ u) (sh : shareB r.l = true) (si : silentB r.l = true) : Told r "taken" u ([.on .borrow 0] ++ List.replicate r.la.toNat .pass ++ []) := by
  have g := share_la la sh
  have b := sil_la si
  obtain ⟨n, hn⟩ : ∃ n : Nat, r.la.toNat = n + 1 := ⟨r.la.toNat - 1, by omega⟩
  obtain ⟨e3, e4⟩ := one_all (r := r) (ct := []) (m := r.se.toNat - 1) la g (.inl b)
  obtain ⟨g1, g2⟩ := one_go (r := r) (ct := []) (m := r.se.toNat - 1) g (.inl b) n (by omega)
  have c1 : canH r (firstH r) (.on .borrow 0) = true := rfl
  have e1 : goH r (firstH r) [.on .borrow 0] = oneH [] 0 (some (0, 0)) (r.se.toNat - 1) := by
    show (doH r (firstH r) (.on .borrow 0)).1 = _
    rw [one_first se]
  rw [List.append_nil]
  refine ⟨?_, ⟨[.on .borrow 0] ++ List.replicate n .pass, .pass, ?_, ?_⟩, ⟨(1, r.la, 0), ?_, ?_⟩, ?_⟩
  · rw [allH_app, e1, e4]
    show ((canH r (firstH r) (.on .borrow 0) && true) && true) = true
    rw [c1]; rfl
  · rw [hn, rep_snoc, List.append_assoc]
  · rw [goH_app2, e1, g1]
    refine srtF_mem (flt_four (.inr (.inl rfl))) (List.mem_append_left _ ?_)
    show ("taken" : Str) ∈ (if List.any (some (0, 0) :: List.replicate (r.se.toNat - 1) none) (takenK (oneH [] n (some (0, 0)) (r.se.toNat - 1)) r.la ((n : Int) + 1)) then (["taken"] : List Str) else [])
    rw [if_pos]
    · exact List.mem_singleton.mpr rfl
    · rw [List.any_cons, Bool.or_eq_true]
      refine .inl ?_
      show (decide ((n : Int) + 1 - 0 = r.la) && speakB (oneH [] n (some (0, 0)) (r.se.toNat - 1)) 0) = true
      rw [decide_eq_true (by omega)]
      rfl
  · unfold planN
    rw [if_neg (by decide +kernel), if_pos rfl, if_neg]
    · rfl
    · rintro (q | q)
      · rw [sh] at q; cases q
      · rw [si] at q; cases q
  · rw [List.length_append, List.length_replicate, List.length_singleton]
    show 1 + r.la + 0 = _
    omega
  · intro e m
    rcases List.mem_append.mp m with m | m
    · rw [List.mem_singleton.mp m]; exact ⟨by decide, by omega⟩
    · rw [(List.mem_replicate.mp m).2]; trivial
theorem told_waits {r : Ru} {u : Int} (se : 1 ≤ r.se) (hu : ¬ u ≤ r.se) : Told r "waits" u (borE 0 r.se.toNat ++ [.on .crash 0, .on .borrow r.se]) := by
  obtain ⟨f1, f2⟩ := fill_go (r := r) (U := []) (ct := []) (a := 0) (mo := 0) (se := r.se.toNat) (fun p m => absurd m List.not_mem_nil) (fun p m => absurd m List.not_mem_nil) r.se.toNat (Nat.le_refl _)
  rw [← first_fill] at f1 f2
  obtain ⟨n, hn⟩ : ∃ n : Nat, r.se.toNat = n + 1 := ⟨r.se.toNat - 1, by omega⟩
  obtain ⟨s1, hs1⟩ : ∃ s1, s1 = fillH [] [] 0 0 r.se.toNat r.se.toNat := ⟨_, rfl⟩
  have us0 : (0, 0, 0) ∈ s1.us := by
    rw [hs1]
    show ((0 : Int), (0 : Int), (0 : Int)) ∈ [] ++ (List.range r.se.toNat).map (fun i : Nat => ((0 : Int) + (i : Int), (i : Int), (0 : Int)))
    exact List.mem_append_right _ (List.mem_map.mpr ⟨0, List.mem_range.mpr (by omega), rfl⟩)
  have uses0 : usesB s1 0 = true := by
    unfold usesB
    obtain ⟨y, hy⟩ := lookup_some_mem us0 rfl
    rw [hy]; rfl
  have ul : s1.us.length = r.se.toNat := by rw [hs1, fill_us]; show 0 + _ = _; omega
  have less : (leaveH s1 0).us.length < r.se.toNat := by
    show (s1.us.filter fun p => decide (p.1 ≠ 0)).length < _
    have a := len_split (fun p : Int × Int × Int => decide (p.1 ≠ 0)) s1.us
    have b : 0 < (s1.us.filter fun p => !decide (p.1 ≠ 0)).length := List.length_pos_of_mem (List.mem_filter.mpr ⟨us0, by simp⟩)
    omega
  have ln : lendK (leaveH s1 0).kp r.se = none := by
    show lendK s1.kp r.se = none
    unfold lendK
    rw [hs1, fill_seat (by omega), fill_full]
  have nu : usesB (leaveH s1 0) r.se = false := by
    unfold usesB
    have e : (dropA s1.us 0).lookup r.se = none := by
      rw [lkA_drop, if_neg (by omega), hs1]
      exact fill_new (fun p m => absurd m List.not_mem_nil) (by omega)
    rw [show (leaveH s1 0).us = dropA s1.us 0 from rfl, e]
    rfl
  have ct0 : s1.ct = [] := by rw [hs1]; rfl
  refine ⟨?_, ⟨borE 0 r.se.toNat ++ [.on .crash 0], .on .borrow r.se, by rw [List.append_assoc]; rfl, ?_⟩, ⟨(r.se + 2, 0, 0), ?_, ?_⟩, ?_⟩
  · rw [allH_app, f2, f1, ← hs1]
    show (true && (usesB s1 0 && ((!usesB (leaveH s1 0) r.se && !decide (r.se ∈ s1.ct)) && true))) = true
    rw [uses0, nu, ct0]
    rfl
  · rw [goH_app2, f1, ← hs1]
    refine srtF_mem (flt_four (.inr (.inr (.inr rfl)))) (List.mem_append_left _ ?_)
    show ("waits" : Str) ∈ (match lendK (leaveH s1 0).kp r.se with | some i => (ansH (leaveH s1 0) r.se i, []) | none => (leaveH s1 0, if ((leaveH s1 0).us.length : Int) < r.se then (["waits"] : List Str) else [])).2
    rw [ln]
    show ("waits" : Str) ∈ (if ((leaveH s1 0).us.length : Int) < r.se then (["waits"] : List Str) else [])
    rw [if_pos (by omega)]
    exact List.mem_singleton.mpr rfl
  · unfold planN
    rw [if_neg (by decide +kernel), if_neg (by decide +kernel), if_neg (by decide +kernel), if_neg (by exact hu)]
    rfl
  · rw [List.length_append]
    have : (borE 0 r.se.toNat).length = r.se.toNat := by unfold borE; rw [List.length_map, List.length_range]
    show r.se + 2 + 0 + 0 = (((borE 0 r.se.toNat).length + 2 : Nat) : Int)
    omega
  · intro e m
    rcases List.mem_append.mp m with m | m
    · obtain ⟨i, hi, rfl⟩ := List.mem_map.mp m
      have := List.mem_range.mp hi
      exact ⟨by omega, by omega⟩
    · rcases List.mem_cons.mp m with rfl | m
      · exact ⟨by decide, by omega⟩
      · rw [List.mem_singleton.mp m]; exact ⟨by omega, by omega⟩
theorem told_all2 {r : Ru} {u : Int} {z : Str} (se : 1 ≤ r.se) (la : 1 ≤ r.la) (hu : 1 ≤ u) (hz : z = "over" ∨ z = "taken" ∨ z = "twice" ∨ z = "waits") {es : List Ev} (h : planE z r u = some es) : Told r z u es := by
  have bf : ∀ {b : Bool}, ¬ b = false → b = true := fun {b} h => by cases b <;> simp_all
  rcases hz with rfl | rfl | rfl | rfl
  · unfold planE at h
    rw [if_pos rfl] at h
    split at h
    · cases h
    · rename_i c
      cases h
      exact told_over se la (fun q => c (.inl q)) (bf fun q => c (.inr q))
  · unfold planE at h
    rw [if_neg (by decide +kernel), if_pos rfl] at h
    split at h
    · cases h
    · rename_i c
      cases h
      exact told_taken se la hu (bf fun q => c (.inl q)) (bf fun q => c (.inr q))
  · unfold planE at h
    rw [if_neg (by decide +kernel), if_neg (by decide +kernel), if_pos rfl] at h
    split at h
    · cases h
    · rename_i c
      cases h
      exact told_twice se la (fun q => c (.inl q)) (bf fun q => c (.inr q))
  · unfold planE at h
    rw [if_neg (by decide +kernel), if_neg (by decide +kernel), if_neg (by decide +kernel)] at h
    split at h
    · cases h
    · rename_i c
      cases h
      exact told_waits se c
end My
set_option Elab.async false
set_option linter.all false
set_option maxRecDepth 100000
set_option maxHeartbeats 800000
set_option Elab.async false
set_option linter.all false
set_option maxRecDepth 100000
set_option maxHeartbeats 800000
namespace My
open PySem PySem.Spec PyProof.Rows L2 RZ SkE CL OW
/-- a function of a rule, a truth -/
def spRB (C : Addr) (f : List Int → Bool) : Sp := fun vs H Q _ => ∃ (r : Addr) (ns : List Int) (L : List Ck) (I : List (Hp → Prop)), vs = [.ref r] ∧ Own H L I ∧ ruleI C r ns ∈ I ∧ Good ns ∧ Q (.bl (f ns)) H
theorem ask_rb {C r : Addr} {f : List Int → Bool} {ns : List Int} {H : Hp} {Q : VK} {E : XK} {L : List Ck} {I : List (Hp → Prop)} (h : Own H L I) (p : ruleI C r ns ∈ I) (g : Good ns) (q : Q (.bl (f ns)) H) : Ask (spRB C f ([.ref r] ++ []) H Q E) := ⟨r, ns, L, I, rfl, h, p, g, q⟩
/-- the first events of a plan, their number -/
def silA (ns : List Int) : List Ev := if silentB ns then [.on .borrow 0] else [.on .borrow 0, .on .cut 0]
def planA (z : Str) (ns : List Int) : List Ev := if z = "over" then silA ns else if z = "taken" then [.on .borrow 0] else if z = "twice" then silA ns else borE 0 (seatsOf ns).toNat ++ [.on .crash 0, .on .borrow (seatsOf ns)]
def planB (z : Str) (ns : List Int) : List Ev := if z = "over" then borE 1 (seatsOf ns).toNat else if z = "taken" then [] else if z = "twice" then [.on .borrow 1] else []
theorem bor_id {H : Hp} {a : Addr} {w : Wd} {u : Int} (h : H a = some (.tup [.str w.s, .int u])) : IDp H (.ref a) (Ev.on w u).d := .tup h (.cons (.str _) (.cons (.int _) .nil))
theorem ids_mapapp {H : Hp} {xs ys : List V} {as bs : List Ev} (a : IDpAll H xs (as.map Ev.d)) (b : IDpAll H ys (bs.map Ev.d)) : IDpAll H (xs ++ ys) ((as ++ bs).map Ev.d) := by
  rw [List.map_append]; exact a.append b
def spSilent (C : Addr) : Sp := fun vs H Q _ => ∃ (r : Addr) (ns : List Int) (L : List Ck) (I : List (Hp → Prop)), vs = [.ref r] ∧ Own H L I ∧ ruleI C r ns ∈ I ∧ Good ns ∧ ∀ H' p xs, ((xs : List V).length : Int) = silN ns → Own H' (.pt p (.lst xs) :: L) (idsI xs ((silA ns).map Ev.d) :: I) → Q (.ref p) H'
theorem ask_silent {C r : Addr} {ns : List Int} {H : Hp} {Q : VK} {E : XK} {L : List Ck} {I : List (Hp → Prop)} (h : Own H L I) (p : ruleI C r ns ∈ I) (g : Good ns) (q : ∀ H' p xs, ((xs : List V).length : Int) = silN ns → Own H' (.pt p (.lst xs) :: L) (idsI xs ((silA ns).map Ev.d) :: I) → Q (.ref p) H') : Ask (spSilent C ([.ref r] ++ []) H Q E) := ⟨r, ns, L, I, rfl, h, p, g, q⟩
def PlanV (v : V) (H : Hp) (L : List Ck) (I : List (Hp → Prop)) (as bs : List Ev) : Option (Int × Int × Int) → Prop
  | none => v = .non ∧ Own H L I
  | some (a, n, b) => ∃ p pa pb xs ys, v = .ref p ∧ ((xs : List V).length : Int) = a ∧ ((ys : List V).length : Int) = b ∧ Own H (.pt p (.tup [.ref pa, .int n, .ref pb]) :: .pt pa (.lst xs) :: .pt pb (.lst ys) :: L) (idsI xs (as.map Ev.d) :: idsI ys (bs.map Ev.d) :: I)
def spPlanF (C : Addr) (z : Str) : Sp := fun vs H Q _ => ∃ (r : Addr) (u : Int) (ns : List Int) (L : List Ck) (I : List (Hp → Prop)), vs = [.ref r, .int u] ∧ Own H L I ∧ ruleI C r ns ∈ I ∧ Good ns ∧ seatsOf ns ≤ 1000 ∧ ∀ H' v, PlanV v H' L I (planA z ns) (planB z ns) (planN z ns u) → Q v H'
def Fault (z : Str) : Prop := z = "over" ∨ z = "taken" ∨ z = "twice" ∨ z = "waits"
def spPlan (C : Addr) : Sp := fun vs H Q _ => ∃ (r : Addr) (u : Int) (z : Str) (ns : List Int) (L : List Ck) (I : List (Hp → Prop)), vs = [.ref r, .int u, .str z] ∧ Own H L I ∧ ruleI C r ns ∈ I ∧ Good ns ∧ seatsOf ns ≤ 1000 ∧ Fault z ∧ ∀ H' v, PlanV v H' L I (planA z ns) (planB z ns) (planN z ns u) → Q v H'
theorem ask_plan {C r : Addr} {u : Int} {z : Str} {ns : List Int} {H : Hp} {Q : VK} {E : XK} {L : List Ck} {I : List (Hp → Prop)} (h : Own H L I) (p : ruleI C r ns ∈ I) (g : Good ns) (s : seatsOf ns ≤ 1000) (f : Fault z) (q : ∀ H' v, PlanV v H' L I (planA z ns) (planB z ns) (planN z ns u) → Q v H') : Ask (spPlan C ([.ref r, .int u, .str z] ++ []) H Q E) := ⟨r, u, z, ns, L, I, rfl, h, p, g, s, f, q⟩
def spHappens (C : Addr) : Sp := fun vs H Q _ => ∃ (r : Addr) (u : Int) (z : Str) (ns : List Int) (L : List Ck) (I : List (Hp → Prop)), vs = [.ref r, .int u, .str z] ∧ Own H L I ∧ ruleI C r ns ∈ I ∧ Good ns ∧ seatsOf ns ≤ 1000 ∧ Fault z ∧ ∀ H', Own H' L I → Q (.bl (planN z ns u).isSome) H'
theorem ask_happens {C r : Addr} {u : Int} {z : Str} {ns : List Int} {H : Hp} {Q : VK} {E : XK} {L : List Ck} {I : List (Hp → Prop)} (h : Own H L I) (p : ruleI C r ns ∈ I) (g : Good ns) (s : seatsOf ns ≤ 1000) (f : Fault z) (q : ∀ H', Own H' L I → Q (.bl (planN z ns u).isSome) H') : Ask (spHappens C ([.ref r, .int u, .str z] ++ []) H Q E) := ⟨r, u, z, ns, L, I, rfl, h, p, g, s, f, q⟩
section
variable (P : Program) (W0 : World) {K : PySem.W.Frag} {mg : Str → Option Value} (base : Heap)
set_option hygiene false in
local macro_rules | `(tactic| walk_at "cls") => `(tactic| first | exact T.c_Rule.cl | exact T.na_Rule_seats | exact T.na_Rule_lapse | exact T.na_Rule_beat | exact T.na_Rule_grace | exact T.na_Rule_late)
local macro_rules | `(tactic| walk_at "fld") => `(tactic| refine fld_rule (by assumption) (by walk_at "mem") (by walk_at "cls") (by walk_at "cls") rfl ?_)
local macro_rules | `(tactic| walk_at "good") => `(tactic| first | assumption | exact good_mk (by omega))
local macro_rules | `(tactic| walk_at "sm") => `(tactic| assumption)
local macro_rules | `(tactic| walk_at "lo") => `(tactic| first | omega | (simp only [lo_0, lo_1, lo_2, lo_3, lo_4]; omega))
set_option hygiene false in
local macro_rules | `(tactic| walk_at "seq") => `(tactic| first | exact T.s_WORDS _ | exact T.s_PASS _ | exact T.s_FAULTS _ | exact T.s_USER_WORDS _)
set_option hygiene false in
local macro_rules | `(tactic| walk_at "ask") => `(tactic| first
  | fail)
section
set_option hygiene false in
local macro_rules | `(tactic| walk_at "ask") => `(tactic| first
  | refine ask_ri (by assumption) (by walk_at "mem") (by assumption) ?_
  | refine ask_rb (by assumption) (by walk_at "mem") (by assumption) ?_
  | refine ask_silent (by assumption) (by walk_at "mem") (by assumption) (fun HH ps xs hxs w => ?_))
theorem G_can_share (T : Tx W0 K mg) : FnOk P W0 K mg base CX0 2 T.f_can_share T.d_can_share ["rule"] (spRB T.C_Rule shareB) := by
  refine T.F_can_share.ok sc_can_share (fun vs H Q E h => ?_) (fun cdv A outer s H vs Q E hr h => ?_)
  · obtain ⟨r, ns, L, I, rfl, _⟩ := h
    rfl
  · obtain ⟨r, ns, L, I, rfl, hO, hp, gg, q⟩ := h
    refine ⟨_, (pss_one (ps_ret (pe_cmpR c_gt (e_call (G_most_at_one_seat P W0 base T) (hr.mono (by decide)) (by rfl) T.g_most_at_one_seat T.F_most_at_one_seat.kp T.b_most_at_one_seat .nil pass0 (pa_cons (c_var 0) pa_nil)) pe_int (nomark _)))), ?_⟩
    walk_at "go"
    exact q
theorem G_can_be_silent (T : Tx W0 K mg) : FnOk P W0 K mg base CX0 1 T.f_can_be_silent T.d_can_be_silent ["rule"] (spRB T.C_Rule silentB) := by
  refine T.F_can_be_silent.ok sc_can_be_silent (fun vs H Q E h => ?_) (fun cdv A outer s H vs Q E hr h => ?_)
  · obtain ⟨r, ns, L, I, rfl, _⟩ := h
    rfl
  · obtain ⟨r, ns, L, I, rfl, hO, hp, gg, q⟩ := h
    obtain ⟨s', l, b, g, t, rfl, _⟩ := id gg
    refine ⟨_, (pss_one (ps_ret (pe_cmpR c_le (e_fld (c_var 0)) (pe_op c_addG (e_fld (c_var 0)) (e_fld (c_var 0))) (nomark _)))), ?_⟩
    walk_at "go"
    exact q
theorem G_silent_borrow (T : Tx W0 K mg) : FnOk P W0 K mg base CX0 2 T.f_silent_borrow T.d_silent_borrow ["rule"] (spSilent T.C_Rule) := by
  refine T.F_silent_borrow.ok sc_silent_borrow (fun vs H Q E h => ?_) (fun cdv A outer s H vs Q E hr h => ?_)
  · obtain ⟨r, ns, L, I, rfl, _⟩ := h
    rfl
  · obtain ⟨r, ns, L, I, rfl, hO, hp, gg, q⟩ := h
    refine ⟨_, (pss_cons (s_if (t_truth (e_call (G_can_be_silent P W0 base T) (hr.mono (by decide)) (by rfl) T.g_can_be_silent T.F_can_be_silent.kp T.b_can_be_silent .nil pass0 (pa_cons (c_var 0) pa_nil)) (fun _ => rfl)) (pss_one (ps_ret (e_lst (pa_cons (e_tup (pa_cons pe_str (pa_cons pe_int pa_nil))) pa_nil)))) pss_nil)
    (pss_one (ps_ret (e_lst (pa_cons (e_tup (pa_cons pe_str (pa_cons pe_int pa_nil))) (pa_cons (e_tup (pa_cons pe_str (pa_cons pe_int pa_nil))) pa_nil)))))), ?_⟩
    walk_at "go"
    refine Br.mk (fun hx => ?_) (fun hx => ?_)
    · walk_at "go"
      have w := w.addI (S := idsI [.ref _] ((silA ns).map Ev.d)) stable_ids (by unfold silA; rw [hx, if_pos rfl]; exact .cons (bor_id (w := .borrow) (w.get (by walk_at "pull"))) .nil)
      exact q _ _ [_] (by unfold silN; rw [hx]; rfl) (by walk_at "own")
    · walk_at "go"
      have w := w.addI (S := idsI [.ref _, .ref _] ((silA ns).map Ev.d)) stable_ids (by unfold silA; rw [hx, if_neg (by decide)]; exact .cons (bor_id (w := .borrow) (w.get (by walk_at "pull"))) (.cons (bor_id (w := .cut) (w.get (by walk_at "pull"))) .nil))
      exact q _ _ [_, _] (by unfold silN; rw [hx]; rfl) (by walk_at "own")
theorem G_over_plan (T : Tx W0 K mg) : FnOk P W0 K mg base CX0 3 T.f_over_plan T.d_over_plan ["rule", "users"] (spPlanF T.C_Rule "over") := by
  refine T.F_over_plan.ok sc_over_plan (fun vs H Q E h => ?_) (fun cdv A outer s H vs Q E hr h => ?_)
  · obtain ⟨r, u, ns, L, I, rfl, _⟩ := h
    rfl
  · obtain ⟨r, u, ns, L, I, rfl, hO, hp, gg, sm, q⟩ := h
    have e0 : planN "over" ns u = if u ≤ seatsOf ns ∨ shareB ns = false then none else some (silN ns, lapseOf ns, seatsOf ns) := if_pos rfl
    rw [e0] at q
    obtain ⟨s', l, b, g, t, rfl, gb⟩ := id gg
    have sm : s' ≤ 1000 := sm
    refine ⟨_, (pss_cons (s_if (PW.pt (w_or (t_cmp c_le (c_var 1) (e_fld (c_var 0)) (nomark _)) (w_or1 (t_not (t_truth (e_call (G_can_share P W0 base T) (hr.mono (by decide)) (by rfl) T.g_can_share T.F_can_share.kp T.b_can_share .nil pass0 (pa_cons (c_var 0) pa_nil)) (fun _ => rfl)))))) (pss_one (ps_ret pe_non)) pss_nil)
    (pss_cons (ps_set (i := 2) sc_over_plan.nd rfl (Or.inl rfl) (pe_callTy k_rng (by rfl) T.range (by decide +kernel) (pa_cons pe_int (pa_cons (pe_op c_addG (e_fld (c_var 0)) pe_int) pa_nil))))
    (pss_one (ps_ret (e_tup (pa_cons (e_call (G_silent_borrow P W0 base T) (hr.mono (by decide)) (by rfl) T.g_silent_borrow T.F_silent_borrow.kp T.b_silent_borrow .nil pass0 (pa_cons (c_var 0) pa_nil)) (pa_cons (e_fld (c_var 0)) (pa_cons (e_lc (own := [("user", 3)]) (by rfl) sc_over_plan.nd (i_val (c_var 2)) (blkOk_by (own := [("user", 3)]) (N := ["rule", "users", "others", "user"]) (sc := defScope s_over_plan) (by decide +kernel)) (fun _ _ _ _ _ => (pg_name (i := 3) sc_over_plan.nd rfl (Or.inl rfl))) (fun _ _ _ _ _ => pts_nil) (fun _ _ _ _ _ => (e_tup (pa_cons pe_str (pa_cons (c_var 3) pa_nil))))) pa_nil)))))))), ?_⟩
    walk_at "go"
    refine Br.mk (fun hx => ?_) (fun hx => ?_)
    · have hx := of_decide_eq_true hx
      rw [if_pos (.inl hx)] at q
      walk_at "go"
      exact q _ _ ⟨rfl, hO⟩
    have hx := of_decide_eq_false hx
    walk_at "go"
    refine Br.mk (fun hy => ?_) (fun hy => ?_)
    · have hy : shareB [s', l, b, g, t] = false := by simpa using hy
      rw [if_pos (.inr hy)] at q
      walk_at "go"
      exact q _ _ ⟨rfl, hO⟩
    have hy : shareB [s', l, b, g, t] = true := by simpa using hy
    rw [if_neg (by rw [hy]; intro z; rcases z with z | z; exact hx z; cases z)] at q
    walk_at "go"
    rename_i pr _ _
    refine newa_o w (fun pb wb => ?_)
    refine la_range (fun i H' => ∃ ys : List V, ys.length = i ∧ Own H' (.pt pb (.lst ys) :: .pt ps (.lst xs) :: L) (idsI ys ((borE 1 i).map Ev.d) :: idsI xs ((silA [s', l, b, g, t]).map Ev.d) :: I)) ⟨[], rfl, by have wb := wb.addI (S := idsI [] []) stable_ids .nil; walk_at "own"⟩ ?_ ?_
    · rintro i H' hi ⟨ys, hy, e⟩
      unfold LcT
      walk_at "go"
      have w := w.addI (S := idsI (ys ++ [V.ref pp]) ((borE 1 (i + 1)).map Ev.d)) stable_ids (by
        rw [borE_succ, List.map_append]
        exact (w.ids (by walk_at "mem" : idsI ys _ ∈ _)).append (.cons (bor_id (w := .borrow) (w.get (by walk_at "pull" : Pull _ (Ck.pt pp _) _))) .nil))
      exact ⟨ys ++ [V.ref pp], by simp [hy], by walk_at "own"⟩
    · rintro H' ⟨ys, hy, e⟩
      rw [show (s' + 1 - 1).toNat = s'.toNat by omega] at e
      walk_at "go"
      exact q _ _ ⟨pp, ps, pb, xs, ys, rfl, hxs, by rw [hy]; show ((s' + 1 - 1).toNat : Int) = s'; omega, by walk_at "own"⟩
theorem G_taken_plan (T : Tx W0 K mg) : FnOk P W0 K mg base CX0 3 T.f_taken_plan T.d_taken_plan ["rule", "users"] (spPlanF T.C_Rule "taken") := by
  refine T.F_taken_plan.ok sc_taken_plan (fun vs H Q E h => ?_) (fun cdv A outer s H vs Q E hr h => ?_)
  · obtain ⟨r, u, ns, L, I, rfl, _⟩ := h
    rfl
  · obtain ⟨r, u, ns, L, I, rfl, hO, hp, gg, sm, q⟩ := h
    have e0 : planN "taken" ns u = if shareB ns = false ∨ silentB ns = false then none else some (1, lapseOf ns, 0) := by unfold planN; rw [if_neg (by decide), if_pos rfl]
    rw [e0] at q
    refine ⟨_, (pss_cons (s_if (PW.pt (w_or (t_not (t_truth (e_call (G_can_share P W0 base T) (hr.mono (by decide)) (by rfl) T.g_can_share T.F_can_share.kp T.b_can_share .nil pass0 (pa_cons (c_var 0) pa_nil)) (fun _ => rfl))) (w_or1 (t_not (t_truth (e_call (G_can_be_silent P W0 base T) (hr.mono (by decide)) (by rfl) T.g_can_be_silent T.F_can_be_silent.kp T.b_can_be_silent .nil pass0 (pa_cons (c_var 0) pa_nil)) (fun _ => rfl)))))) (pss_one (ps_ret pe_non)) pss_nil)
    (pss_one (ps_ret (e_tup (pa_cons (e_lst (pa_cons (e_tup (pa_cons pe_str (pa_cons pe_int pa_nil))) pa_nil)) (pa_cons (e_fld (c_var 0)) (pa_cons (e_lst pa_nil) pa_nil))))))), ?_⟩
    walk_at "go"
    refine Br.mk (fun hy => ?_) (fun hy => ?_)
    · have hy : shareB ns = false := by simpa using hy
      rw [if_pos (.inl hy)] at q
      walk_at "go"
      exact q _ _ ⟨rfl, hO⟩
    have hy : shareB ns = true := by simpa using hy
    walk_at "go"
    refine Br.mk (fun hz => ?_) (fun hz => ?_)
    · have hz : silentB ns = false := by simpa using hz
      rw [if_pos (.inr hz)] at q
      walk_at "go"
      exact q _ _ ⟨rfl, hO⟩
    have hz : silentB ns = true := by simpa using hz
    rw [if_neg (by rw [hy, hz]; decide)] at q
    obtain ⟨s', l, b, g, t, rfl, gb⟩ := id gg
    walk_at "go"
    have w := (w.addI (S := idsI [] (([] : List Ev).map Ev.d)) stable_ids .nil).addI (S := idsI [.ref _] ([Ev.on .borrow 0].map Ev.d)) stable_ids (.cons (bor_id (w := .borrow) (w.get (by walk_at "pull"))) .nil)
    exact q _ _ ⟨pp, _, _, [_], [], rfl, rfl, rfl, by walk_at "own"⟩
theorem G_twice_plan (T : Tx W0 K mg) : FnOk P W0 K mg base CX0 3 T.f_twice_plan T.d_twice_plan ["rule", "users"] (spPlanF T.C_Rule "twice") := by
  refine T.F_twice_plan.ok sc_twice_plan (fun vs H Q E h => ?_) (fun cdv A outer s H vs Q E hr h => ?_)
  · obtain ⟨r, u, ns, L, I, rfl, _⟩ := h
    rfl
  · obtain ⟨r, u, ns, L, I, rfl, hO, hp, gg, sm, q⟩ := h
    have e0 : planN "twice" ns u = if u < 2 ∨ shareB ns = false then none else some (silN ns, lapseOf ns, 1) := by unfold planN; rw [if_neg (by decide), if_neg (by decide), if_pos rfl]
    rw [e0] at q
    refine ⟨_, (pss_cons (s_if (PW.pt (w_or (t_cmp c_lt (c_var 1) pe_int (nomark _)) (w_or1 (t_not (t_truth (e_call (G_can_share P W0 base T) (hr.mono (by decide)) (by rfl) T.g_can_share T.F_can_share.kp T.b_can_share .nil pass0 (pa_cons (c_var 0) pa_nil)) (fun _ => rfl)))))) (pss_one (ps_ret pe_non)) pss_nil)
    (pss_one (ps_ret (e_tup (pa_cons (e_call (G_silent_borrow P W0 base T) (hr.mono (by decide)) (by rfl) T.g_silent_borrow T.F_silent_borrow.kp T.b_silent_borrow .nil pass0 (pa_cons (c_var 0) pa_nil)) (pa_cons (e_fld (c_var 0)) (pa_cons (e_lst (pa_cons (e_tup (pa_cons pe_str (pa_cons pe_int pa_nil))) pa_nil)) pa_nil))))))), ?_⟩
    walk_at "go"
    refine Br.mk (fun hx => ?_) (fun hx => ?_)
    · have hx := of_decide_eq_true hx
      rw [if_pos (.inl hx)] at q
      walk_at "go"
      exact q _ _ ⟨rfl, hO⟩
    have hx := of_decide_eq_false hx
    walk_at "go"
    refine Br.mk (fun hy => ?_) (fun hy => ?_)
    · have hy : shareB ns = false := by simpa using hy
      rw [if_pos (.inr hy)] at q
      walk_at "go"
      exact q _ _ ⟨rfl, hO⟩
    have hy : shareB ns = true := by simpa using hy
    rw [if_neg (by rw [hy]; intro z; rcases z with z | z; exact hx z; cases z)] at q
    obtain ⟨s', l, b, g, t, rfl, gb⟩ := id gg
    walk_at "go"
    have w := w.addI (S := idsI [.ref _] ([Ev.on .borrow 1].map Ev.d)) stable_ids (.cons (bor_id (w := .borrow) (w.get (by walk_at "pull"))) .nil)
    exact q _ _ ⟨pp, _, _, xs, [_], rfl, hxs, rfl, by walk_at "own"⟩
theorem G_waits_plan (T : Tx W0 K mg) : FnOk P W0 K mg base CX0 1 T.f_waits_plan T.d_waits_plan ["rule", "users"] (spPlanF T.C_Rule "waits") := by
  refine T.F_waits_plan.ok sc_waits_plan (fun vs H Q E h => ?_) (fun cdv A outer s H vs Q E hr h => ?_)
  · obtain ⟨r, u, ns, L, I, rfl, _⟩ := h
    rfl
  · obtain ⟨r, u, ns, L, I, rfl, hO, hp, gg, sm, q⟩ := h
    have e0 : planN "waits" ns u = if u ≤ seatsOf ns then none else some (seatsOf ns + 2, 0, 0) := by unfold planN; rw [if_neg (by decide), if_neg (by decide), if_neg (by decide)]
    rw [e0] at q
    obtain ⟨s', l, b, g, t, rfl, gb⟩ := id gg
    have sm : s' ≤ 1000 := sm
    refine ⟨_, (pss_cons (s_if (t_cmp c_le (c_var 1) (e_fld (c_var 0)) (nomark _)) (pss_one (ps_ret pe_non)) pss_nil)
    (pss_cons (s_setlc (i := 2) (own := [("user", 3)]) (by rfl) sc_waits_plan.nd rfl rfl (sw_true rfl rfl rfl (by decide +kernel)) (i_range1 (by rfl) T.range (pa_cons (e_fld (c_var 0)) pa_nil)) (blkOk_by (own := [("user", 3)]) (N := ["rule", "users", "borrows", "user"]) (sc := defScope s_waits_plan) (by decide +kernel)) (fun _ _ _ _ _ => (pg_name (i := 3) sc_waits_plan.nd rfl (Or.inl rfl))) (fun _ _ _ _ _ => pts_nil) (fun _ _ _ _ _ => (e_tup (pa_cons pe_str (pa_cons (c_var 3) pa_nil)))))
    (pss_one (ps_ret (e_tup (pa_cons (e_lst (StX.pa_star (c_var 2) (pa_cons (e_tup (pa_cons pe_str (pa_cons pe_int pa_nil))) (pa_cons (e_tup (pa_cons pe_str (pa_cons (e_fld (c_var 0)) pa_nil))) pa_nil)))) (pa_cons pe_int (pa_cons (e_lst pa_nil) pa_nil)))))))), ?_⟩
    walk_at "go"
    refine Br.mk (fun hx => ?_) (fun hx => ?_)
    · have hx := of_decide_eq_true hx
      have q := (show ∀ H' v, PlanV v H' L I (planA "waits" [s', l, b, g, t]) (planB "waits" [s', l, b, g, t]) (if u ≤ s' then none else some (s' + 2, 0, 0)) → Q v H' from q)
      rw [if_pos hx] at q
      walk_at "go"
      exact q _ _ ⟨rfl, hO⟩
    have hx := of_decide_eq_false hx
    have q := (show ∀ H' v, PlanV v H' L I (planA "waits" [s', l, b, g, t]) (planB "waits" [s', l, b, g, t]) (if u ≤ s' then none else some (s' + 2, 0, 0)) → Q v H' from q)
    rw [if_neg hx] at q
    walk_at "go"
    refine newa_o (by assumption) (fun pb wb => ?_)
    refine la_range (fun i H' => ∃ ys : List V, ys.length = i ∧ Own H' (.pt pb (.lst ys) :: L) (idsI ys ((borE 0 i).map Ev.d) :: I)) ⟨[], rfl, by have wb := wb.addI (S := idsI [] []) stable_ids .nil; walk_at "own"⟩ ?_ ?_
    · rintro i H' hi ⟨ys, hy, e⟩
      unfold LcT
      walk_at "go"
      have w := w.addI (S := idsI (ys ++ [V.ref pp]) ((borE 0 (i + 1)).map Ev.d)) stable_ids (by
        rw [borE_succ, List.map_append]
        exact (w.ids (by walk_at "mem" : idsI ys _ ∈ _)).append (.cons (bor_id (w := .borrow) (w.get (by walk_at "pull" : Pull _ (Ck.pt pp _) _))) .nil))
      exact ⟨ys ++ [V.ref pp], by simp [hy], by walk_at "own"⟩
    · rintro H' ⟨ys, hy, e⟩
      walk_at "go"
      have w := (w.addI (S := idsI [] (([] : List Ev).map Ev.d)) stable_ids .nil).addI (S := idsI (ys ++ [.ref _, .ref _]) ((borE 0 s'.toNat ++ [Ev.on .crash 0, Ev.on .borrow s']).map Ev.d)) stable_ids (ids_mapapp (w.ids (by walk_at "mem" : idsI ys _ ∈ _)) (.cons (bor_id (w := .crash) (w.get (by walk_at "pull"))) (.cons (bor_id (w := .borrow) (w.get (by walk_at "pull"))) .nil)))
      exact q _ _ ⟨pp, _, _, ys ++ [_, _], [], rfl, by simp only [List.length_append, hy, List.length_cons, List.length_nil]; omega, rfl, by walk_at "own"⟩
end
theorem held_over (T : Tx W0 K mg) : Held P W0 K mg base 3 T.f_over_plan (spPlanF T.C_Rule "over") := ⟨_, _, fnok_mono (by decide) (G_over_plan P W0 base T), T.F_over_plan.kp, T.b_over_plan⟩
theorem held_taken (T : Tx W0 K mg) : Held P W0 K mg base 3 T.f_taken_plan (spPlanF T.C_Rule "taken") := ⟨_, _, fnok_mono (by decide) (G_taken_plan P W0 base T), T.F_taken_plan.kp, T.b_taken_plan⟩
theorem held_twice (T : Tx W0 K mg) : Held P W0 K mg base 3 T.f_twice_plan (spPlanF T.C_Rule "twice") := ⟨_, _, fnok_mono (by decide) (G_twice_plan P W0 base T), T.F_twice_plan.kp, T.b_twice_plan⟩
theorem held_waits (T : Tx W0 K mg) : Held P W0 K mg base 3 T.f_waits_plan (spPlanF T.C_Rule "waits") := ⟨_, _, fnok_mono (by decide) (G_waits_plan P W0 base T), T.F_waits_plan.kp, T.b_waits_plan⟩
theorem fault_in {z : Str} (h : Fault z) : inV (.str z) [.str "over", .str "taken", .str "twice", .str "waits"] = true := by
  rcases h with rfl | rfl | rfl | rfl <;> decide +kernel
theorem G_plan (T : Tx W0 K mg) : FnOk P W0 K mg base CX0 4 T.f_plan T.d_plan ["rule", "users", "fault"] (spPlan T.C_Rule) := by
  refine T.F_plan.ok sc_plan (fun vs H Q E h => ?_) (fun cdv A outer s H vs Q E hr h => ?_)
  · obtain ⟨r, u, z, ns, L, I, rfl, _⟩ := h
    rfl
  · obtain ⟨r, u, z, ns, L, I, rfl, hO, hp, gg, sm, hz, q⟩ := h
    have hi := fault_in hz
    refine ⟨_, (pss_cons (s_if (t_cmp c_notin (c_var 2) (pe_glob (v := .ref _) (by rfl) T.g_FAULTS rfl) (by with_unfolding_all rfl)) (pss_one ps_never) pss_nil)
    (pss_cons (ps_set (i := 3) sc_plan.nd rfl (Or.inl rfl) (pe_ix c_ixD (pe_glob (v := .ref _) (by rfl) T.g_PLANS rfl) (c_var 2) (fun _ _ => rfl)))
    (pss_one (ps_ret (e_callV (i := 3) 3 (hr.mono (by decide)) rfl (by first | exact Or.inl rfl | exact Or.inr (Or.inl rfl) | exact Or.inr (Or.inr rfl)) (pa_cons (c_var 0) (pa_cons (c_var 1) pa_nil))))))), ?_⟩
    walk_at "go"
    refine br_f (by show (!inV _ _) = false; rw [hi]; rfl) ?_
    walk_at "go"
    rcases hz with rfl | rfl | rfl | rfl
    · refine KD.mk ⟨_, T.kd_PLANS_over, ?_⟩
      walk_at "go"
      refine callv_mk (held_over P W0 base T) ?_
      walk_at "go"
      exact ⟨r, u, ns, L, I, rfl, hO, hp, gg, sm, q⟩
    · refine KD.mk ⟨_, T.kd_PLANS_taken, ?_⟩
      walk_at "go"
      refine callv_mk (held_taken P W0 base T) ?_
      walk_at "go"
      exact ⟨r, u, ns, L, I, rfl, hO, hp, gg, sm, q⟩
    · refine KD.mk ⟨_, T.kd_PLANS_twice, ?_⟩
      walk_at "go"
      refine callv_mk (held_twice P W0 base T) ?_
      walk_at "go"
      exact ⟨r, u, ns, L, I, rfl, hO, hp, gg, sm, q⟩
    · refine KD.mk ⟨_, T.kd_PLANS_waits, ?_⟩
      walk_at "go"
      refine callv_mk (held_waits P W0 base T) ?_
      walk_at "go"
      exact ⟨r, u, ns, L, I, rfl, hO, hp, gg, sm, q⟩
section
set_option hygiene false in
local macro_rules | `(tactic| walk_at "ask") => `(tactic| refine ask_plan (by assumption) (by walk_at "mem") (by assumption) (by assumption) (by assumption) (fun HH v w => ?_))
theorem G_happens (T : Tx W0 K mg) : FnOk P W0 K mg base CX0 5 T.f_happens T.d_happens ["rule", "users", "fault"] (spHappens T.C_Rule) := by
  refine T.F_happens.ok sc_happens (fun vs H Q E h => ?_) (fun cdv A outer s H vs Q E hr h => ?_)
  · obtain ⟨r, u, z, ns, L, I, rfl, _⟩ := h
    rfl
  · obtain ⟨r, u, z, ns, L, I, rfl, hO, hp, gg, sm, hz, q⟩ := h
    refine ⟨_, (pss_one (ps_ret (pe_cmpR c_isnotG (e_call (G_plan P W0 base T) (hr.mono (by decide)) (by rfl) T.g_plan T.F_plan.kp T.b_plan .nil pass0 (pa_cons (c_var 0) (pa_cons (c_var 1) (pa_cons (c_var 2) pa_nil)))) pe_non (nomark _)))), ?_⟩
    walk_at "go"
    generalize planN z ns u = o at w q
    cases o with
    | none =>
      obtain ⟨e, w⟩ := w
      subst e
      exact q _ w
    | some x =>
      obtain ⟨a, n, b⟩ := x
      obtain ⟨p, pa, pb, xs, ys, e, _, _, w⟩ := w
      subst e
      exact q _ (by walk_at "own")
end
end
end My
set_option Elab.async false
set_option linter.all false
set_option maxRecDepth 100000
set_option maxHeartbeats 800000
namespace My
open PySem PySem.Spec PyProof.Rows L2 RZ SkE CL OW
def leastO (z : Str) (ns : List Int) (u : Int) : Option Int := (planN z ns u).map fun x => x.1 + x.2.1 + x.2.2
def spLeastE (C : Addr) : Sp := fun vs H Q _ => ∃ (r : Addr) (u : Int) (z : Str) (ns : List Int) (L : List Ck) (I : List (Hp → Prop)), vs = [.ref r, .int u, .str z] ∧ Own H L I ∧ ruleI C r ns ∈ I ∧ Good ns ∧ seatsOf ns ≤ 1000 ∧ Fault z ∧ ∀ H', Own H' L I → Q (optV (leastO z ns u)) H'
theorem ask_leastE {C r : Addr} {u : Int} {z : Str} {ns : List Int} {H : Hp} {Q : VK} {E : XK} {L : List Ck} {I : List (Hp → Prop)} (h : Own H L I) (p : ruleI C r ns ∈ I) (g : Good ns) (s : seatsOf ns ≤ 1000) (f : Fault z) (q : ∀ H', Own H' L I → Q (optV (leastO z ns u)) H') : Ask (spLeastE C ([.ref r, .int u, .str z] ++ []) H Q E) := ⟨r, u, z, ns, L, I, rfl, h, p, g, s, f, q⟩
section
variable (P : Program) (W0 : World) {K : PySem.W.Frag} {mg : Str → Option Value} (base : Heap)
set_option hygiene false in
local macro_rules | `(tactic| walk_at "cls") => `(tactic| first | exact T.c_Rule.cl | exact T.na_Rule_seats | exact T.na_Rule_lapse | exact T.na_Rule_beat | exact T.na_Rule_grace | exact T.na_Rule_late)
local macro_rules | `(tactic| walk_at "fld") => `(tactic| refine fld_rule (by assumption) (by walk_at "mem") (by walk_at "cls") (by walk_at "cls") rfl ?_)
local macro_rules | `(tactic| walk_at "good") => `(tactic| first | assumption | exact good_mk (by omega))
local macro_rules | `(tactic| walk_at "sm") => `(tactic| assumption)
local macro_rules | `(tactic| walk_at "lo") => `(tactic| first | omega | (simp only [lo_0, lo_1, lo_2, lo_3, lo_4]; omega))
set_option hygiene false in
local macro_rules | `(tactic| walk_at "seq") => `(tactic| first | exact T.s_WORDS _ | exact T.s_PASS _ | exact T.s_FAULTS _ | exact T.s_USER_WORDS _)
set_option hygiene false in
local macro_rules | `(tactic| walk_at "ask") => `(tactic| first
  | fail)
section
set_option hygiene false in
local macro_rules | `(tactic| walk_at "ask") => `(tactic| first
  | refine ask_plan (by assumption) (by walk_at "mem") (by assumption) (by assumption) (by assumption) (fun HH v w => ?_)
  | refine ask_happens (by assumption) (by walk_at "mem") (by assumption) (by assumption) (by assumption) (fun HH w => ?_))
local macro_rules | `(tactic| walk_at "seq") => `(tactic| exact T.s_FAULTS _)
theorem G_least_events (T : Tx W0 K mg) : FnOk P W0 K mg base CX0 5 T.f_least_events T.d_least_events ["rule", "users", "fault"] (spLeastE T.C_Rule) := by
  refine T.F_least_events.ok sc_least_events (fun vs H Q E h => ?_) (fun cdv A outer s H vs Q E hr h => ?_)
  · obtain ⟨r, u, z, ns, L, I, rfl, _⟩ := h
    rfl
  · obtain ⟨r, u, z, ns, L, I, rfl, hO, hp, gg, sm, hz, q⟩ := h
    refine ⟨_, (pss_cons (ps_set (i := 3) sc_least_events.nd rfl (Or.inl rfl) (e_call (G_plan P W0 base T) (hr.mono (by decide)) (by rfl) T.g_plan T.F_plan.kp T.b_plan .nil pass0 (pa_cons (c_var 0) (pa_cons (c_var 1) (pa_cons (c_var 2) pa_nil)))))
    (pss_cons (s_if (t_cmp c_isG (c_var 3) pe_non (nomark _)) (pss_one (ps_ret pe_non)) pss_nil)
    (pss_cons (ps_asg (c_var 3) (g_tup (by rfl) (g_cons (pg_name (i := 4) sc_least_events.nd rfl (Or.inl rfl)) (g_cons (pg_name (i := 5) sc_least_events.nd rfl (Or.inl rfl)) (g_cons (pg_name (i := 6) sc_least_events.nd rfl (Or.inl rfl)) g_nil)))))
    (pss_one (ps_ret (pe_op c_addG (pe_op c_addG (pe_callB k_len (by rfl) T.len PySem.boot_len (pa_cons (c_var 4) pa_nil)) (c_var 5)) (pe_callB k_len (by rfl) T.len PySem.boot_len (pa_cons (c_var 6) pa_nil)))))))), ?_⟩
    walk_at "go"
    unfold leastO at q
    generalize planN z ns u = o at w q
    cases o with
    | none =>
      obtain ⟨e, w⟩ := w
      subst e
      walk_at "go"
      exact q _ w
    | some x =>
      obtain ⟨a, n, b⟩ := x
      obtain ⟨p, pa, pb, xs, ys, e, ha, hb, w⟩ := w
      subst e
      walk_at "go"
      have e : (xs.length : Int) + n + ys.length = a + n + b := by rw [ha, hb]
      rw [e]
      exact q _ (by walk_at "own")
end
end
end My
set_option Elab.async false
set_option linter.all false
set_option maxRecDepth 100000
set_option maxHeartbeats 800000
namespace My
open PySem PySem.Spec PyProof.Rows L2 RZ SkE CL OW
theorem wd_memK (w : Wd) : inV (.str w.s) [.str "borrow", .str "word", .str "back", .str "crash", .str "stop", .str "cut", .str "join"] = true := by cases w <;> decide +kernel
theorem ev_isPassK (e : Ev) : PyData.eqv e.d (.tuple [.str "pass"]) = (match e with | .pass => true | .on _ _ => false) := by
  cases e with
  | pass => decide +kernel
  | on w u => cases w <;> rfl
theorem evk_at {K : PySem.W.Frag} {H : Hp} {v : V} {e : Ev} (h : IDk K H v e.d) : ∃ a, v = .ref a ∧ (H a = some (.tup (match e with | .pass => [.str "pass"] | .on w u => [.str w.s, .int u])) ∨ ∀ H', SqT K H' a (match e with | .pass => [.str "pass"] | .on w u => [.str w.s, .int u])) := by
  cases e with
  | pass =>
    cases h with
    | tup h g => cases g with | cons a g => cases g; cases a; exact ⟨_, rfl, h⟩
  | on w u =>
    cases h with
    | tup h g =>
      cases g with
      | cons a g => cases g with | cons b g => cases g; cases a; cases b; exact ⟨_, rfl, h⟩
def spSeqK (K : PySem.W.Frag) : Sp := fun vs H Q _ => ∃ (x : V) (L : List Ck) (I : List (Hp → Prop)), vs = [x] ∧ Own H L I ∧ (∀ R H', Own H' (R ++ L) I → SeqB K H' x true) ∧ ∀ H', Own H' L I → Q (.bl true) H'
theorem ask_seqK {K : PySem.W.Frag} {x : V} {H : Hp} {Q : VK} {E : XK} {L : List Ck} {I : List (Hp → Prop)} (h : Own H L I) (s : ∀ R H', Own H' (R ++ L) I → SeqB K H' x true) (q : ∀ H', Own H' L I → Q (.bl true) H') : Ask (spSeqK K ([x] ++ []) H Q E) := ⟨x, L, I, rfl, h, s, q⟩
theorem stayK_seq {K : PySem.W.Frag} {H : Hp} {a : Addr} {xs : List V} (h : H a = some (.tup xs) ∨ ∀ H', SqT K H' a xs) : SeqB K H (.ref a) true := by
  rcases h with h | h
  · exact .tup h
  · rcases h (fun _ => none) with (z | ⟨_, z⟩) | ⟨_, _, _, z, co, _⟩
    · cases z
    · cases z
    · exact .oth (.kTuple z co) (kitAny_cons kit_tuple_list (fun _ => kitAny_cons kit_tuple_tuple (fun z => by cases z) (fun _ => rfl)) (fun z => by cases z))
theorem seqa_seq {K : PySem.W.Frag} {k : Bool} {L : List Ck} {I : List (Hp → Prop)} {a : Addr} {xs : List V} (s : SeqA K k L I a xs) (R : List Ck) (H' : Hp) (w : Own H' (R ++ L) I) : SeqB K H' (.ref a) true := by
  cases k with
  | true => obtain ⟨R2, p⟩ := s; exact .lst (w.get (pull_app p R))
  | false => exact stayK_seq (w.imp s)
theorem isi_stay {K : PySem.W.Frag} {H : Hp} {a : Addr} {xs : List V} {k : Bool → Prop} (h : H a = some (.tup xs) ∨ ∀ H', SqT K H' a xs) (q : k true) : IsI K H (.ref a) (.type "tuple") k := by
  rcases h with h | h
  · exact IsI.mk ⟨_, _, .base (.tup h), kit_tuple_tuple, q⟩
  · rcases h (fun _ => none) with (z | ⟨_, z⟩) | ⟨_, _, _, z, co, _⟩
    · cases z
    · cases z
    · exact IsI.mk ⟨_, _, .kTuple z co, kit_tuple_tuple, q⟩
def spEvK (K : PySem.W.Frag) : Sp := fun vs H Q _ => ∃ (x : V) (e : Ev) (L : List Ck) (I : List (Hp → Prop)), vs = [x] ∧ Own H L I ∧ IDk K H x e.d ∧ evU e ∧ Q (.bl true) H
theorem ask_evK {K : PySem.W.Frag} {x : V} {e : Ev} {H : Hp} {Q : VK} {E : XK} {L : List Ck} {I : List (Hp → Prop)} (h : Own H L I) (d : IDk K H x e.d) (u : evU e) (q : Q (.bl true) H) : Ask (spEvK K ([x] ++ []) H Q E) := ⟨x, e, L, I, rfl, h, d, u, q⟩
def spFWK (K : PySem.W.Frag) : Sp := fun vs H Q _ => ∃ (k : Bool) (a : Addr) (xs : List V) (es : List Ev) (L : List Ck) (I : List (Hp → Prop)), vs = [.ref a] ∧ Own H L I ∧ SeqA K k L I a xs ∧ ksI K xs (es.map Ev.d) ∈ I ∧ (∀ e ∈ es, evU e) ∧ ∀ H', Own H' L I → Q .non H'
theorem ask_fwK {K : PySem.W.Frag} {k : Bool} {a : Addr} {xs : List V} {es : List Ev} {H : Hp} {Q : VK} {E : XK} {L : List Ck} {I : List (Hp → Prop)} (h : Own H L I) (s : SeqA K k L I a xs) (d : ksI K xs (es.map Ev.d) ∈ I) (u : ∀ e ∈ es, evU e) (q : ∀ H', Own H' L I → Q .non H') : Ask (spFWK K ([.ref a] ++ []) H Q E) := ⟨k, a, xs, es, L, I, rfl, h, s, d, u, q⟩
def spDayV (K : PySem.W.Frag) (C : Addr) : Sp := fun vs H Q _ => ∃ (k : Bool) (p dx a : Addr) (xs : List V) (es : List Ev) (L : List Ck) (I : List (Hp → Prop)), vs = [.ref p, .ref a] ∧ Own H (.pt p (.ins C dx []) :: L) I ∧ SeqA K k (.pt p (.ins C dx []) :: L) I a xs ∧ ksI K xs (es.map Ev.d) ∈ I ∧ (∀ e ∈ es, evU e) ∧ ∀ H', Own H' L (dvI K C p xs :: I) → Q .non H'
theorem ask_dayV {K : PySem.W.Frag} {C a : Addr} {k0 : Bool} {xs : List V} {es : List Ev} {H : Hp} {k : Addr → Hp → Prop} {E : XK} {L : List Ck} {I : List (Hp → Prop)} {vs : List V} (hvs : vs = [.ref a]) (h : Own H L I) (s : SeqA K k0 L I a xs) (d : ksI K xs (es.map Ev.d) ∈ I) (u : ∀ e ∈ es, evU e) (q : ∀ r H', Own H' L (dvI K C r xs :: I) → k r H') :
    Ask (∀ y dx, H y = none → H dx = none → dx ≠ y → spDayV K C (.ref y :: vs) (upd (upd H dx (.own y)) y (.ins C dx [])) (fun v H2 => v = .non ∧ k y H2) E) := by
  subst hvs
  exact ⟨make_o (k := fun y H' => spDayV K C (.ref y :: [.ref a]) H' (fun v H2 => v = .non ∧ k y H2) E) h fun y dx H' w => ⟨k0, y, dx, a, xs, es, L, I, rfl, w, s.tail, d, u, fun H2 w2 => ⟨rfl, q y H2 w2⟩⟩⟩
section
variable (P : Program) (W0 : World) {K : PySem.W.Frag} {mg : Str → Option Value} (base : Heap)
set_option hygiene false in
local macro_rules | `(tactic| walk_at "cls") => `(tactic| first | exact T.c_Day.cl | exact T.na_Day_events)
set_option hygiene false in
local macro_rules | `(tactic| walk_at "seq") => `(tactic| first | exact T.s_PASS _ | exact T.s_USER_WORDS _ | exact stay_sq (by assumption) (by walk_at "mem"))
local macro_rules | `(tactic| walk_at "len") => `(tactic| first | assumption | omega | exact ⟨rfl, by decide⟩)
set_option hygiene false in
local macro_rules | `(tactic| walk_at "cls") => `(tactic| first | exact T.c_Rule.cl | exact T.na_Rule_seats | exact T.na_Rule_lapse | exact T.na_Rule_beat | exact T.na_Rule_grace | exact T.na_Rule_late)
local macro_rules | `(tactic| walk_at "fld") => `(tactic| refine fld_rule (by assumption) (by walk_at "mem") (by walk_at "cls") (by walk_at "cls") rfl ?_)
local macro_rules | `(tactic| walk_at "good") => `(tactic| first | assumption | exact good_mk (by omega))
local macro_rules | `(tactic| walk_at "sm") => `(tactic| assumption)
local macro_rules | `(tactic| walk_at "lo") => `(tactic| first | omega | (simp only [lo_0, lo_1, lo_2, lo_3, lo_4]; omega))
set_option hygiene false in
local macro_rules | `(tactic| walk_at "seq") => `(tactic| first | exact T.s_WORDS _ | exact T.s_PASS _ | exact T.s_FAULTS _ | exact T.s_USER_WORDS _)
set_option hygiene false in
local macro_rules | `(tactic| walk_at "ask") => `(tactic| first
  | fail)
theorem G_is_sequence (T : Tx W0 K mg) : FnOk P W0 K mg base CX0 1 T.f_is_sequence T.d_is_sequence ["value"] (spSeqK K) := by
  refine T.F_is_sequence.ok sc_is_sequence (fun vs H Q E h => ?_) (fun cdv A outer s H vs Q E hr h => ?_)
  · obtain ⟨x, L, I, rfl, _⟩ := h
    rfl
  · obtain ⟨x, L, I, rfl, hO, hs, q⟩ := h
    refine ⟨_, (pss_one (ps_ret (pe_callB k_isi (by rfl) T.isinstance (by decide +kernel) (pa_cons (c_var 0) (pa_cons (e_tup (pa_cons (pe_bltn (v := .ty "list") (by rfl) T.list (by decide +kernel) rfl) (pa_cons (pe_bltn (v := .ty "tuple") (by rfl) T.tuple (by decide +kernel) rfl) pa_nil))) pa_nil))))), ?_⟩
    walk_at "go"
    exact IsR.mk (.inr (kitLT (hs [.pt pp _] _ w) w.hd (q _ w.tl)).ex)
theorem G_is_event (T : Tx W0 K mg) : FnOk P W0 K mg base CX0 2 T.f_is_event T.d_is_event ["value"] (spEvK K) := by
  refine T.F_is_event.ok sc_is_event (fun vs H Q E h => ?_) (fun cdv A outer s H vs Q E hr h => ?_)
  · obtain ⟨x, e, L, I, rfl, _⟩ := h
    rfl
  · obtain ⟨x, e, L, I, rfl, hO, hd, hu, q⟩ := h
    have hu64 := Room.units hr
    have hu65 := room65 hr
    refine ⟨_, (pss_cons (s_if (t_not (t_truth (pe_callB k_isi (by rfl) T.isinstance (by decide +kernel) (pa_cons (c_var 0) (pa_cons (pe_bltn (v := .ty "tuple") (by rfl) T.tuple (by decide +kernel) rfl) pa_nil))) (fun _ => rfl))) (pss_one (ps_ret pe_bl)) pss_nil)
    (pss_cons (s_if (t_cmp (c_ne hu64) (pe_callB k_len (by rfl) T.len PySem.boot_len (pa_cons (c_var 0) pa_nil)) pe_int (nomark _)) (pss_one (ps_ret (pe_cmpR (c_eq hu64) (c_var 0) (pe_glob (v := .ref _) (by rfl) T.g_PASS rfl) (nomark _)))) pss_nil)
    (pss_cons (ps_asg (c_var 0) (g_tup (by rfl) (g_cons (pg_name (i := 1) sc_is_event.nd rfl (Or.inl rfl)) (g_cons (pg_name (i := 2) sc_is_event.nd rfl (Or.inl rfl)) g_nil))))
    (pss_one (ps_ret (e_and (pe_cmpR c_in (c_var 1) (pe_glob (v := .ref _) (by rfl) T.g_USER_WORDS rfl) (by with_unfolding_all rfl)) (pe_one (e_call (G_is_integer_from P W0 base T) (hr.mono (by decide)) (by rfl) T.g_is_integer_from T.F_is_integer_from.kp T.b_is_integer_from .nil pass0 (pa_cons (c_var 2) (pa_cons pe_int pa_nil)))))))))), ?_⟩
    obtain ⟨a, rfl, ha⟩ := evk_at hd
    have w := hO.addI stable_stay ha
    (conv => whnf)
    refine isi_stay ha ?_
    cases e with
    | pass =>
      walk_at "go"
      refine eqd_mk (IDk.dp _ _ hd) (.tup (T.s_PASS _) (.cons (.str _) .nil)) (by decide +kernel) (by decide +kernel) ?_
      walk_at "go"
      exact cast (congrArg (fun b => Q (V.bl b) H) (by rw [if_neg (by decide)]; exact (ev_isPassK .pass).symm)) q
    | on wd u =>
      walk_at "go"
      refine br_t (by rw [if_neg (by decide)]; exact wd_memK wd) ?_
      walk_at "go"
      refine ask_intfrom (.int _) ?_
      rw [show intFrom (.int u) 0 = true from decide_eq_true hu.1]
      walk_at "go"
      exact q
theorem G_first_wrong_days (T : Tx W0 K mg) : FnOk P W0 K mg base CX0 3 T.f_first_wrong_days T.d_first_wrong_days ["values"] (spFWK K) := by
  refine T.F_first_wrong_days.ok sc_first_wrong_days (fun vs H Q E h => ?_) (fun cdv A outer s H vs Q E hr h => ?_)
  · obtain ⟨k, a, xs, es, L, I, rfl, _⟩ := h
    rfl
  · obtain ⟨k, a, xs, es, L, I, rfl, hO, hs, hd, hu, q⟩ := h
    refine ⟨_, (pss_cons (s_for PassesOwn.never (by rfl) (i_enumA (K := K) rfl (by rfl) T.enumerate (pa_cons (c_var 0) pa_nil)) (g_tup (by rfl) (g_cons (pg_name (i := 1) sc_first_wrong_days.nd rfl (Or.inl rfl)) (g_cons (pg_name (i := 2) sc_first_wrong_days.nd rfl (Or.inl rfl)) g_nil))) (pss_one (s_if (t_not (t_truth (e_call (G_is_event P W0 base T) (hr.mono (by decide)) (by rfl) T.g_is_event T.F_is_event.kp T.b_is_event .nil pass0 (pa_cons (c_var 2) pa_nil)) (fun _ => rfl))) (pss_one (ps_ret (c_var 1))) pss_nil)))
    (pss_one (ps_ret pe_non))), ?_⟩
    walk_at "go"
    refine seqa_enum hO hs (fun i σ H' => ∃ v1 v2 : Option V, σ = [some (.ref a), v1, v2] ∧ Own H' L I) ⟨_, _, rfl, hO⟩ (fun i σ H' ⟨_, _, _, e⟩ => ⟨_, _, e, hs⟩) ?_ ?_
    · rintro i x tq σ H1 hx ⟨v1, v2, rfl, e⟩ htq
      have e := e.new (o := .tup [.int (i : Nat), x]) htq
      obtain ⟨ev, hev, hi⟩ := IDkAll.atF (e.imp hd) hx
      walk_at "go"
      refine ask_evK e hi (hu ev (List.mem_of_getElem? hev)) ?_
      walk_at "go"
      exact ⟨_, _, rfl, by walk_at "own"⟩
    · rintro σ H1 ⟨v1, v2, rfl, e⟩
      walk_at "go"
      exact q _ e
theorem G_Day_init (T : Tx W0 K mg) : FnOk P W0 K mg base CX0 4 T.f_Day_init T.d_Day_init ["self", "events"] (spDayV K T.C_Day) := by
  refine T.F_Day_init.ok sc_Day_init (fun vs H Q E h => ?_) (fun cdv A outer s H vs Q E hr h => ?_)
  · obtain ⟨k, p, dx, a, xs, es, L, I, rfl, _⟩ := h
    rfl
  · obtain ⟨k, p, dx, a, xs, es, L, I, rfl, hO, hs, hd, hu, q⟩ := h
    have hu64 := Room.units hr
    refine ⟨_, PSs.nox (pss_cons (s_if (t_not (t_truth (e_call (G_is_sequence P W0 base T) (hr.mono (by decide)) (by rfl) T.g_is_sequence T.F_is_sequence.kp T.b_is_sequence .nil pass0 (pa_cons (c_var 1) pa_nil)) (fun _ => rfl))) (pss_one ps_never) pss_nil)
    (pss_cons (ps_set (i := 2) sc_Day_init.nd rfl (Or.inl rfl) (e_call (G_first_wrong_days P W0 base T) (hr.mono (by decide)) (by rfl) T.g_first_wrong_days T.F_first_wrong_days.kp T.b_first_wrong_days .nil pass0 (pa_cons (c_var 1) pa_nil)))
    (pss_cons (s_if (t_cmp c_isnotG (c_var 2) pe_non (nomark _)) (pss_one ps_never) pss_nil)
    (pss_one (s_fld (c_var 0) (pe_callTy k_tuple (by rfl) T.tuple (by decide +kernel) (pa_cons (c_var 1) pa_nil))))))), ?_⟩
    (conv => whnf)
    refine ask_seqK hO (seqa_seq hs) (fun H1 w => ?_)
    walk_at "go"
    refine ask_fwK w hs hd hu (fun H2 w => ?_)
    walk_at "go"
    cases k with
    | true =>
      obtain ⟨R, pl⟩ := hs
      refine tupr_l w pl (fun t H3 w => ?_)
      walk_at "go"
      have w := w.addI (S := dvI K T.C_Day p xs) stable_dv ⟨dx, t, w.hd, .inl (w.get (by walk_at "pull" : Pull _ (Ck.pt t (.tup xs)) _))⟩
      exact q _ (by walk_at "own")
    | false =>
      refine TupR.mk ⟨xs, .inr ⟨stay_sq w hs, ?_⟩⟩
      walk_at "go"
      have w := w.addI (S := dvI K T.C_Day p xs) stable_dv ⟨dx, _, w.hd, w.imp hs⟩
      exact q _ (by walk_at "own")
end
end My
set_option Elab.async false
set_option linter.all false
set_option maxRecDepth 100000
set_option maxHeartbeats 800000
namespace My
open PySem PySem.Spec PyProof.Rows L2 RZ SkE CL OW
theorem planE_eq {z : Str} (hz : Fault z) (r : Ru) (u : Int) : planE z r u = (planN z r.l u).map fun x => planA z r.l ++ List.replicate x.2.1.toNat Ev.pass ++ planB z r.l := by
  have es : seatsOf r.l = r.se := rfl
  have el : lapseOf r.l = r.la := rfl
  rcases hz with rfl | rfl | rfl | rfl
  · rw [show planN "over" r.l u = if u ≤ r.se ∨ shareB r.l = false then none else some (silN r.l, r.la, r.se) by unfold planN; rw [if_pos rfl]; rfl]
    rw [show planA "over" r.l = silE r by unfold planA; rw [if_pos rfl]; rfl, show planB "over" r.l = borE 1 r.se.toNat by unfold planB; rw [if_pos rfl]; rfl]
    unfold planE
    rw [if_pos rfl]
    split <;> rfl
  · rw [show planN "taken" r.l u = if shareB r.l = false ∨ silentB r.l = false then none else some (1, r.la, 0) by unfold planN; rw [if_neg (by decide), if_pos rfl]; rfl]
    rw [show planA "taken" r.l = [.on .borrow 0] by unfold planA; rw [if_neg (by decide), if_pos rfl], show planB "taken" r.l = [] by unfold planB; rw [if_neg (by decide), if_pos rfl]]
    unfold planE
    rw [if_neg (by decide), if_pos rfl]
    split <;> rfl
  · rw [show planN "twice" r.l u = if u < 2 ∨ shareB r.l = false then none else some (silN r.l, r.la, 1) by unfold planN; rw [if_neg (by decide), if_neg (by decide), if_pos rfl]; rfl]
    rw [show planA "twice" r.l = silE r by unfold planA; rw [if_neg (by decide), if_neg (by decide), if_pos rfl]; rfl, show planB "twice" r.l = [.on .borrow 1] by unfold planB; rw [if_neg (by decide), if_neg (by decide), if_pos rfl]]
    unfold planE
    rw [if_neg (by decide), if_neg (by decide), if_pos rfl]
    split <;> rfl
  · rw [show planN "waits" r.l u = if u ≤ r.se then none else some (r.se + 2, 0, 0) by unfold planN; rw [if_neg (by decide), if_neg (by decide), if_neg (by decide)]; rfl]
    rw [show planA "waits" r.l = borE 0 r.se.toNat ++ [.on .crash 0, .on .borrow r.se] by unfold planA; rw [if_neg (by decide), if_neg (by decide), if_neg (by decide)]; rfl, show planB "waits" r.l = [] by unfold planB; rw [if_neg (by decide), if_neg (by decide), if_neg (by decide)]]
    unfold planE
    rw [if_neg (by decide), if_neg (by decide), if_neg (by decide)]
    split
    · rfl
    · show some _ = some (_ ++ List.replicate (0 : Int).toNat Ev.pass ++ [])
      rw [show (0 : Int).toNat = 0 from rfl, List.replicate_zero, List.append_nil, List.append_nil]
theorem planN_mid {z : Str} {ns : List Int} {u a n b : Int} (h : planN z ns u = some (a, n, b)) : n = lapseOf ns ∨ n = 0 := by
  unfold planN at h
  repeat' split at h
  all_goals (cases h; try first | exact .inl rfl | exact .inr rfl)
theorem planN_ab {z : Str} {ns : List Int} {u a n b : Int} (s : 0 ≤ seatsOf ns) (h : planN z ns u = some (a, n, b)) : a ≤ seatsOf ns + 2 ∧ b ≤ seatsOf ns + 1 := by
  have e : silN ns ≤ 2 := by unfold silN; split <;> omega
  unfold planN at h
  repeat' split at h
  all_goals (cases h; try constructor <;> omega)
def DayVal (K : PySem.W.Frag) (CD : Addr) (v : V) (H : Hp) (L : List Ck) (I : List (Hp → Prop)) : Option (List Ev) → Prop
  | none => v = .non ∧ Own H L I
  | some es => ∃ p xs, v = .ref p ∧ Own H L (dvI K CD p xs :: ksI K xs (es.map Ev.d) :: I)
def spDayG (K : PySem.W.Frag) (C CD : Addr) : Sp := fun vs H Q _ => ∃ (rr : Addr) (u : Int) (z : Str) (r : Ru) (L : List Ck) (I : List (Hp → Prop)), vs = [.ref rr, .int u, .str z] ∧ Own H L I ∧ ruleI C rr r.l ∈ I ∧ Good r.l ∧ r.se ≤ 1000 ∧ r.la ≤ 1000 ∧ Fault z ∧ (∀ es, planE z r u = some es → ∀ e ∈ es, evU e) ∧ ∀ H' v, DayVal K CD v H' L I (planE z r u) → Q v H'
theorem ask_dayG {K : PySem.W.Frag} {C CD rr : Addr} {u : Int} {z : Str} {r : Ru} {H : Hp} {Q : VK} {E : XK} {L : List Ck} {I : List (Hp → Prop)} (h : Own H L I) (p : ruleI C rr r.l ∈ I) (g : Good r.l) (s : r.se ≤ 1000) (l : r.la ≤ 1000) (f : Fault z) (eu : ∀ es, planE z r u = some es → ∀ e ∈ es, evU e) (q : ∀ H' v, DayVal K CD v H' L I (planE z r u) → Q v H') : Ask (spDayG K C CD ([.ref rr, .int u, .str z] ++ []) H Q E) := ⟨rr, u, z, r, L, I, rfl, h, p, g, s, l, f, eu, q⟩
theorem ks_pass {K : PySem.W.Frag} {H : Hp} {p : Addr} (h : ∀ H', SqT K H' p [.str "pass"]) : ∀ n : Nat, IDkAll K H (List.replicate n (.ref p)) ((List.replicate n Ev.pass).map Ev.d)
  | 0 => .nil
  | n + 1 => .cons (.tup (.inr h) (.cons (.str _) .nil)) (ks_pass h n)
theorem ks_app {K : PySem.W.Frag} {H : Hp} : ∀ {vs ws : List V} {ds es : List PyData}, IDkAll K H vs ds → IDkAll K H ws es → IDkAll K H (vs ++ ws) (ds ++ es)
  | [], _, _, _, h, g => by cases h; exact g
  | _ :: vs, _, _, _, h, g => by cases h with | cons a h => exact .cons a (ks_app h g)
section
variable (P : Program) (W0 : World) {K : PySem.W.Frag} {mg : Str → Option Value} (base : Heap)
set_option hygiene false in
local macro_rules | `(tactic| walk_at "cls") => `(tactic| first | exact T.c_Day.cl | exact T.na_Day_events)
set_option hygiene false in
local macro_rules | `(tactic| walk_at "fld") => `(tactic| refine fld_ins (by assumption) (by walk_at "mem") (by walk_at "cls") (by walk_at "cls") rfl ?_)
local macro_rules | `(tactic| walk_at "seq") => `(tactic| exact stay_sq (by assumption) (by walk_at "mem"))
set_option hygiene false in
local macro_rules | `(tactic| walk_at "ask") => `(tactic| refine ask_plan (by assumption) (by walk_at "mem") (by assumption) (by assumption) (by assumption) (fun HH v w => ?_))
local macro_rules | `(tactic| walk_at "len") => `(tactic| first | assumption | omega)
set_option hygiene false in
local macro_rules | `(tactic| walk_at "cls") => `(tactic| first | exact T.c_Rule.cl | exact T.na_Rule_seats | exact T.na_Rule_lapse | exact T.na_Rule_beat | exact T.na_Rule_grace | exact T.na_Rule_late)
local macro_rules | `(tactic| walk_at "fld") => `(tactic| refine fld_rule (by assumption) (by walk_at "mem") (by walk_at "cls") (by walk_at "cls") rfl ?_)
local macro_rules | `(tactic| walk_at "good") => `(tactic| first | assumption | exact good_mk (by omega))
local macro_rules | `(tactic| walk_at "sm") => `(tactic| assumption)
local macro_rules | `(tactic| walk_at "lo") => `(tactic| first | omega | (simp only [lo_0, lo_1, lo_2, lo_3, lo_4]; omega))
set_option hygiene false in
local macro_rules | `(tactic| walk_at "seq") => `(tactic| first | exact T.s_WORDS _ | exact T.s_PASS _ | exact T.s_FAULTS _ | exact T.s_USER_WORDS _)
set_option hygiene false in
local macro_rules | `(tactic| walk_at "ask") => `(tactic| first
  | fail)
theorem G_day (T : Tx W0 K mg) : FnOk P W0 K mg base CX0 6 T.f_day T.d_day ["rule", "users", "fault"] (spDayG K T.C_Rule T.C_Day) := by
  refine T.F_day.ok sc_day (fun vs H Q E h => ?_) (fun cdv A outer s H vs Q E hr h => ?_)
  · obtain ⟨rr, u, z, r, L, I, rfl, _⟩ := h
    rfl
  · obtain ⟨rr, u, z, r, L, I, rfl, hO, hp, gg, sm, lm, hz, hu, q⟩ := h
    have hu64 := Room.units hr
    have sl := sizeLine_eq
    have la0 : 1 ≤ r.la := by
      obtain ⟨s, l, b, g, t, e, ⟨_, h1, _⟩, _⟩ := id gg
      cases e
      omega
    have sm' : seatsOf r.l ≤ 1000 := sm
    refine ⟨_, (pss_cons (ps_set (i := 3) sc_day.nd rfl (Or.inl rfl) (e_call (G_plan P W0 base T) (hr.mono (by decide)) (by rfl) T.g_plan T.F_plan.kp T.b_plan .nil pass0 (pa_cons (c_var 0) (pa_cons (c_var 1) (pa_cons (c_var 2) pa_nil)))))
    (pss_cons (s_if (t_cmp c_isG (c_var 3) pe_non (nomark _)) (pss_one (ps_ret pe_non)) pss_nil)
    (pss_cons (ps_asg (c_var 3) (g_tup (by rfl) (g_cons (pg_name (i := 4) sc_day.nd rfl (Or.inl rfl)) (g_cons (pg_name (i := 5) sc_day.nd rfl (Or.inl rfl)) (g_cons (pg_name (i := 6) sc_day.nd rfl (Or.inl rfl)) g_nil)))))
    (pss_one (ps_ret (e_make T.mk_Day (G_Day_init P W0 base T) (hr.mono (by decide)) (by rfl) T.c_Day.g T.b_Day_init .nil pass0 (pa_cons (pe_op c_addG (pe_op c_addG (c_var 4) (pe_op c_rep (e_lst (pa_cons (pe_glob (v := .ref _) (by rfl) T.g_PASS rfl) pa_nil)) (c_var 5))) (c_var 6)) pa_nil))))))), ?_⟩
    walk_at "go"
    have pe := planE_eq hz r u
    rw [pe] at q hu
    have md := @planN_mid z r.l u
    have se0 : 0 ≤ seatsOf r.l := by
      obtain ⟨s, l, b, g, t, e, ⟨h0, h1, _⟩, _⟩ := id gg
      cases e
      show 0 ≤ r.se
      omega
    have ab := @planN_ab z r.l u
    generalize planN z r.l u = o at w q hu md ab
    cases o with
    | none =>
      obtain ⟨e, w⟩ := w
      subst e
      walk_at "go"
      exact q _ _ ⟨rfl, w⟩
    | some x =>
      obtain ⟨a, n, b⟩ := x
      obtain ⟨p, pa, pb, xs, ys, e, ha, hb, w⟩ := w
      subst e
      have md := md rfl
      have ab := ab se0 rfl
      rw [show lapseOf r.l = r.la from rfl] at md
      walk_at "go"
      refine repl_o w (by walk_at "pull") ⟨by omega, by omega, by show 1 * n.toNat ≤ sizeLine; omega⟩ (fun pr HH w => ?_)
      rw [repl_flat] at w
      walk_at "go"
      refine cat_l w (by walk_at "pull") (by walk_at "pull") (by rw [List.length_replicate]; omega) (fun pc HH w => ?_)
      walk_at "go"
      refine cat_l w (by walk_at "pull") (by walk_at "pull") (by rw [List.length_append, List.length_replicate]; omega) (fun pd HH w => ?_)
      walk_at "go"
      have kA := IDpAll.idk (K := K) _ _ (w.imp (by walk_at "mem" : idsI xs ((planA z r.l).map Ev.d) ∈ _))
      have kB := IDpAll.idk (K := K) _ _ (w.imp (by walk_at "mem" : idsI ys ((planB z r.l).map Ev.d) ∈ _))
      have w := w.addI (S := ksI K (xs ++ List.replicate n.toNat (.ref T.a_PASS) ++ ys) ((planA z r.l ++ List.replicate n.toNat Ev.pass ++ planB z r.l).map Ev.d)) stable_ks (by
        rw [List.map_append, List.map_append]
        exact ks_app (ks_app kA (ks_pass T.s_PASS _)) kB)
      refine ask_dayV (k0 := true) (xs := xs ++ List.replicate n.toNat (.ref T.a_PASS) ++ ys) (es := planA z r.l ++ List.replicate n.toNat Ev.pass ++ planB z r.l) rfl w ⟨_, by walk_at "pull"⟩ (by walk_at "mem") (hu _ rfl) (fun d HH w => ?_)
      walk_at "go"
      exact q _ _ ⟨d, _, rfl, by walk_at "own"⟩
end
end My
set_option Elab.async false
set_option linter.all false
set_option maxRecDepth 100000
set_option maxHeartbeats 800000
namespace My
open PySem PySem.Spec PyProof.Rows L2 RZ SkE CL OW
def badV (r : Addr) : List V := [.non, .bl true, .int 0, .int (10 ^ 20), .str "", .str "Over", .str "over ", .str "wait", .str "pass", .str "calm", .str "waits\n", .str "OVER", .int 1, .ref r]
def BadF (r : Addr) (x : V) (L : List Ck) : Prop := x ∈ badV r ∨ ∃ p ys R, x = .ref p ∧ (Pull L (.pt p (.lst ys)) R ∨ Pull L (.pt p (.tup ys)) R)
def spBadF (C CE : Addr) : Sp := fun vs H Q E => ∃ (r : Addr) (u : Int) (x : V) (ns : List Int) (L : List Ck) (I : List (Hp → Prop)), vs = [.ref r, .int u, x] ∧ Own H L I ∧ ruleI C r ns ∈ I ∧ BadF r x L ∧ ∀ H', Own H' L I → E (.ref CE) none H'
theorem ask_badF {C CE r : Addr} {u : Int} {x : V} {ns : List Int} {H : Hp} {Q : VK} {E : XK} {L : List Ck} {I : List (Hp → Prop)} (h : Own H L I) (p : ruleI C r ns ∈ I) (b : BadF r x L) (q : ∀ H', Own H' L I → E (.ref CE) none H') : Ask (spBadF C CE ([.ref r, .int u, x] ++ []) H Q E) := ⟨r, u, x, ns, L, I, rfl, h, p, b, q⟩
theorem FnOk.upX {P : Program} {w : World} {K : PySem.W.Frag} {mg : Str → Option Value} {base : Heap} {CX : CXT} {k : Nat} {f : Addr} {fd : FuncData} {ps : List Str} {sp : Sp} (F : FnOk P w K mg base CX0 k f fd ps sp) : FnOk P w K mg base CX k f fd ps sp :=
  ⟨F.len, fun A outer s H args us vs Q E hr he hb hv hs => codeAny_mono (F.run A outer s H args us vs Q E hr he hb hv hs) fun r s' h => match r, h with
    | .error _, h => h.elim
    | .ok (.ret _), h => h
    | .ok .next, h => h
    | .ok .brk, h => h
    | .ok .cont, h => h⟩
theorem FnOk.or {P : Program} {w : World} {K : PySem.W.Frag} {mg : Str → Option Value} {base : Heap} {CX : CXT} {k : Nat} {f : Addr} {fd : FuncData} {ps : List Str} {sp sp2 : Sp} (F : FnOk P w K mg base CX k f fd ps sp) (G : FnOk P w K mg base CX k f fd ps sp2) : FnOk P w K mg base CX k f fd ps (fun vs H Q E => sp vs H Q E ∨ sp2 vs H Q E) :=
  ⟨fun vs H Q E h => h.elim (F.len vs H Q E) (G.len vs H Q E), fun A outer s H args us vs Q E hr he hb hv hs => hs.elim (F.run A outer s H args us vs Q E hr he hb hv) (G.run A outer s H args us vs Q E hr he hb hv)⟩
def FLX : List Str := ["over", "taken", "twice", "waits"]
/-- what is no fault is in no tuple of the faults -/
theorem bad_notO {K : PySem.W.Frag} {C r t : Addr} {x : V} {ns : List Int} {H : Hp} {L : List Ck} {I : List (Hp → Prop)} {k : Bool → Hp → Prop} (hT : ∀ H, SqT K H t (FLX.map V.str)) (h : Own H L I) (p : ruleI C r ns ∈ I) (b : BadF r x L) (q : ∀ H', Own H' L I → k true H') : NotO K C (spEqS C) H x (.ref t) k := by
  have dt : Dp K H (.ref t) (.tuple (FLX.map PyData.str)) := .tup (hT H) (dpAll_strs FLX)
  have sc : ∀ (x : V) (d : PyData), Dp K H x d → SeqAt.shaped d = true → ((FLX.map PyData.str).any fun z => PyData.eqv z d) = false → NotO K C (spEqS C) H x (.ref t) k := fun x d h1 h2 h3 => ⟨.inl ⟨d, _, h1, .inr dt, h2, by decide +kernel, by rw [h3]; exact q H h⟩⟩
  rcases b with m | ⟨a, ys, R, rfl, e⟩
  · unfold badV at m
    simp only [List.mem_cons, List.not_mem_nil, or_false] at m
    rcases m with rfl | rfl | rfl | rfl | rfl | rfl | rfl | rfl | rfl | rfl | rfl | rfl | rfl | rfl
    · exact sc _ .none .non (by decide +kernel) (by decide +kernel)
    · exact sc _ (.bool true) (.bl _) (by decide +kernel) (by decide +kernel)
    · exact sc _ (.int 0) (.int _) (by decide +kernel) (by decide +kernel)
    · exact sc _ (.int (10 ^ 20)) (.int _) (by decide +kernel) (by decide +kernel)
    · exact sc _ (.str "") (.str _) (by decide +kernel) (by decide +kernel)
    · exact sc _ (.str "Over") (.str _) (by decide +kernel) (by decide +kernel)
    · exact sc _ (.str "over ") (.str _) (by decide +kernel) (by decide +kernel)
    · exact sc _ (.str "wait") (.str _) (by decide +kernel) (by decide +kernel)
    · exact sc _ (.str "pass") (.str _) (by decide +kernel) (by decide +kernel)
    · exact sc _ (.str "calm") (.str _) (by decide +kernel) (by decide +kernel)
    · exact sc _ (.str "waits\n") (.str _) (by decide +kernel) (by decide +kernel)
    · exact sc _ (.str "OVER") (.str _) (by decide +kernel) (by decide +kernel)
    · exact sc _ (.int 1) (.int _) (by decide +kernel) (by decide +kernel)
    · refine ⟨.inr (.inr ⟨FLX, r, fun H' => OW.Own H' L I, dt, rfl, h, fun H' z w => ?_, fun H' w => q H' w⟩)⟩
      obtain ⟨dx, e⟩ := rule_open w p
      exact ⟨dx, _, e, r, z, ns, L, I, rfl, w, p, fun H2 w2 => ⟨rfl, w2⟩⟩
  · refine ⟨.inr (.inl ⟨FLX, a, ys, dt, rfl, ?_, q H h⟩)⟩
    rcases e with e | e
    · exact .inl (h.get e)
    · exact .inr (h.get e)
section
variable (P : Program) (W0 : World) {K : PySem.W.Frag} {mg : Str → Option Value} (base : Heap)
set_option hygiene false in
local macro_rules | `(tactic| walk_at "cls") => `(tactic| first | exact T.c_Rule.cl | exact T.na_Rule_seats | exact T.na_Rule_lapse | exact T.na_Rule_beat | exact T.na_Rule_grace | exact T.na_Rule_late)
local macro_rules | `(tactic| walk_at "fld") => `(tactic| refine fld_rule (by assumption) (by walk_at "mem") (by walk_at "cls") (by walk_at "cls") rfl ?_)
local macro_rules | `(tactic| walk_at "good") => `(tactic| first | assumption | exact good_mk (by omega))
local macro_rules | `(tactic| walk_at "sm") => `(tactic| assumption)
local macro_rules | `(tactic| walk_at "lo") => `(tactic| first | omega | (simp only [lo_0, lo_1, lo_2, lo_3, lo_4]; omega))
set_option hygiene false in
local macro_rules | `(tactic| walk_at "seq") => `(tactic| first | exact T.s_WORDS _ | exact T.s_PASS _ | exact T.s_FAULTS _ | exact T.s_USER_WORDS _)
set_option hygiene false in
local macro_rules | `(tactic| walk_at "ask") => `(tactic| first
  | fail)
theorem GX_plan (T : Tx W0 K mg) : FnOk P W0 K mg base (L2.CX P W0) 4 T.f_plan T.d_plan ["rule", "users", "fault"] (spBadF T.C_Rule T.C_InvalidFault) := by
  refine T.F_plan.okX sc_plan (fun vs H Q E h => ?_) (fun cdv A outer s H vs Q E hr h => ?_)
  · obtain ⟨r, u, x, ns, L, I, rfl, _⟩ := h
    rfl
  · obtain ⟨r, u, x, ns, L, I, rfl, hO, hp, hb, q⟩ := h
    have hu64 := Room.units hr
    have hu65 := room65 hr
    refine ⟨_, (pss_cons (s_if (t_cmp (c_notinO (K := K) rfl (G_Rule_eq P W0 base T) T.b_Rule_eq (hr.mono (by decide)) (by exact hu65) T.i_Rule_eq T.j_Rule_eq T.sb_Rule) (c_var 2) (pe_glob (v := .ref _) (by rfl) T.g_FAULTS rfl) (by with_unfolding_all rfl)) (pss_one (s_raise0 (by rfl) (takes_of rfl rfl rfl rfl) T.xo_InvalidFault T.xi_InvalidFault T.xt_InvalidFault (G_InvalidFault_init P W0 base T) (hr.mono (by decide)) T.b_InvalidFault_init pass0 (by rfl) T.ge_InvalidFault)) pss_nil)
    (pss_cons (ps_set (i := 3) sc_plan.nd rfl (Or.inl rfl) (pe_ix c_ixD (pe_glob (v := .ref _) (by rfl) T.g_PLANS rfl) (c_var 2) (fun _ _ => rfl)))
    (pss_one (ps_ret (e_callV (i := 3) 3 (hr.mono (by decide)) rfl (by first | exact Or.inl rfl | exact Or.inr (Or.inl rfl) | exact Or.inr (Or.inr rfl)) (pa_cons (c_var 0) (pa_cons (c_var 1) pa_nil))))))), ?_⟩
    walk_at "go"
    refine bad_notO T.s_FAULTS hO hp hb (fun H1 w => ?_)
    walk_at "go"
    exact ⟨q _ w⟩
set_option hygiene false in
local macro_rules | `(tactic| walk_at "ask") => `(tactic| refine ask_badF (by assumption) (by walk_at "mem") (by assumption) (fun HH w => ?_))
theorem BX_happens (T : Tx W0 K mg) : FnOk P W0 K mg base (L2.CX P W0) 5 T.f_happens T.d_happens ["rule", "users", "fault"] (spBadF T.C_Rule T.C_InvalidFault) := by
  refine T.F_happens.okX sc_happens (fun vs H Q E h => ?_) (fun cdv A outer s H vs Q E hr h => ?_)
  · obtain ⟨r, u, x, ns, L, I, rfl, _⟩ := h
    rfl
  · obtain ⟨r, u, x, ns, L, I, rfl, hO, hp, hb, q⟩ := h
    have hu64 := Room.units hr
    have hu65 := room65 hr
    refine ⟨_, (pss_one (ps_ret (pe_cmpR c_isnotG (e_callS (GX_plan P W0 base T) (hr.mono (by decide)) (by rfl) T.g_plan T.F_plan.kp T.b_plan .nil (takes_of rfl rfl rfl rfl) (pa_cons (c_var 0) (pa_cons (c_var 1) (pa_cons (c_var 2) pa_nil)))) pe_non (nomark _)))), ?_⟩
    walk_at "go"
    exact q _ w
theorem GX_happens (T : Tx W0 K mg) : FnOk P W0 K mg base (L2.CX P W0) 5 T.f_happens T.d_happens ["rule", "users", "fault"] (fun vs H Q E => spHappens T.C_Rule vs H Q E ∨ spBadF T.C_Rule T.C_InvalidFault vs H Q E) := FnOk.or (FnOk.upX (G_happens P W0 base T)) (BX_happens P W0 base T)
theorem BX_least_events (T : Tx W0 K mg) : FnOk P W0 K mg base (L2.CX P W0) 5 T.f_least_events T.d_least_events ["rule", "users", "fault"] (spBadF T.C_Rule T.C_InvalidFault) := by
  refine T.F_least_events.okX sc_least_events (fun vs H Q E h => ?_) (fun cdv A outer s H vs Q E hr h => ?_)
  · obtain ⟨r, u, x, ns, L, I, rfl, _⟩ := h
    rfl
  · obtain ⟨r, u, x, ns, L, I, rfl, hO, hp, hb, q⟩ := h
    have hu64 := Room.units hr
    have hu65 := room65 hr
    refine ⟨_, (pss_cons (ps_set (i := 3) sc_least_events.nd rfl (Or.inl rfl) (e_callS (GX_plan P W0 base T) (hr.mono (by decide)) (by rfl) T.g_plan T.F_plan.kp T.b_plan .nil (takes_of rfl rfl rfl rfl) (pa_cons (c_var 0) (pa_cons (c_var 1) (pa_cons (c_var 2) pa_nil)))))
    (pss_cons (s_if (t_cmp c_isG (c_var 3) pe_non (nomark _)) (pss_one (ps_ret pe_non)) pss_nil)
    (pss_cons (ps_asg (c_var 3) (g_tup (by rfl) (g_cons (pg_name (i := 4) sc_least_events.nd rfl (Or.inl rfl)) (g_cons (pg_name (i := 5) sc_least_events.nd rfl (Or.inl rfl)) (g_cons (pg_name (i := 6) sc_least_events.nd rfl (Or.inl rfl)) g_nil)))))
    (pss_one (ps_ret (pe_op c_addG (pe_op c_addG (pe_callB k_len (by rfl) T.len PySem.boot_len (pa_cons (c_var 4) pa_nil)) (c_var 5)) (pe_callB k_len (by rfl) T.len PySem.boot_len (pa_cons (c_var 6) pa_nil)))))))), ?_⟩
    walk_at "go"
    exact q _ w
theorem GX_least_events (T : Tx W0 K mg) : FnOk P W0 K mg base (L2.CX P W0) 5 T.f_least_events T.d_least_events ["rule", "users", "fault"] (fun vs H Q E => spLeastE T.C_Rule vs H Q E ∨ spBadF T.C_Rule T.C_InvalidFault vs H Q E) := FnOk.or (FnOk.upX (G_least_events P W0 base T)) (BX_least_events P W0 base T)
theorem BX_day (T : Tx W0 K mg) : FnOk P W0 K mg base (L2.CX P W0) 6 T.f_day T.d_day ["rule", "users", "fault"] (spBadF T.C_Rule T.C_InvalidFault) := by
  refine T.F_day.okX sc_day (fun vs H Q E h => ?_) (fun cdv A outer s H vs Q E hr h => ?_)
  · obtain ⟨r, u, x, ns, L, I, rfl, _⟩ := h
    rfl
  · obtain ⟨r, u, x, ns, L, I, rfl, hO, hp, hb, q⟩ := h
    have hu64 := Room.units hr
    have hu65 := room65 hr
    refine ⟨_, (pss_cons (ps_set (i := 3) sc_day.nd rfl (Or.inl rfl) (e_callS (GX_plan P W0 base T) (hr.mono (by decide)) (by rfl) T.g_plan T.F_plan.kp T.b_plan .nil (takes_of rfl rfl rfl rfl) (pa_cons (c_var 0) (pa_cons (c_var 1) (pa_cons (c_var 2) pa_nil)))))
    (pss_cons (s_if (t_cmp c_isG (c_var 3) pe_non (nomark _)) (pss_one (ps_ret pe_non)) pss_nil)
    (pss_cons (ps_asg (c_var 3) (g_tup (by rfl) (g_cons (pg_name (i := 4) sc_day.nd rfl (Or.inl rfl)) (g_cons (pg_name (i := 5) sc_day.nd rfl (Or.inl rfl)) (g_cons (pg_name (i := 6) sc_day.nd rfl (Or.inl rfl)) g_nil)))))
    (pss_one (ps_ret (e_make T.mk_Day (G_Day_init P W0 base T) (hr.mono (by decide)) (by rfl) T.c_Day.g T.b_Day_init .nil pass0 (pa_cons (pe_op c_addG (pe_op c_addG (c_var 4) (pe_op c_rep (e_lst (pa_cons (pe_glob (v := .ref _) (by rfl) T.g_PASS rfl) pa_nil)) (c_var 5))) (c_var 6)) pa_nil))))))), ?_⟩
    walk_at "go"
    exact q _ w
theorem GX_day (T : Tx W0 K mg) : FnOk P W0 K mg base (L2.CX P W0) 6 T.f_day T.d_day ["rule", "users", "fault"] (fun vs H Q E => spDayG K T.C_Rule T.C_Day vs H Q E ∨ spBadF T.C_Rule T.C_InvalidFault vs H Q E) := FnOk.or (FnOk.upX (G_day P W0 base T)) (BX_day P W0 base T)
end
end My
set_option Elab.async false
set_option linter.all false
set_option maxRecDepth 100000
set_option maxHeartbeats 800000
namespace My
open PySem PySem.Spec PyProof.Rows L2 RZ SkE CL OW
def spHeard (C : Addr) : Sp := fun vs H Q _ => ∃ (f : Int) (rr : Addr) (x : V) (r : Ru) (L : List Ck) (I : List (Hp → Prop)), vs = [.int f, .ref rr, x] ∧ Own H L I ∧ ruleI C rr r.l ∈ I ∧ Good r.l ∧ r.se ≤ 3 ∧ r.la ≤ 9 ∧ (f = 0 ∨ f = 1 ∨ f = 2) ∧ ((∃ z, x = .str z ∧ Fault z ∧ ∀ H', Own H' L I → Q (.bl false) H') ∨ (BadF rr x L ∧ ∀ H', Own H' L I → Q (.bl true) H'))
theorem ask_heard {C : Addr} {f : Int} {rr : Addr} {x : V} {r : Ru} {H : Hp} {Q : VK} {E : XK} {L : List Ck} {I : List (Hp → Prop)} (h : Own H L I) (p : ruleI C rr r.l ∈ I) (g : Good r.l) (s : r.se ≤ 3) (l : r.la ≤ 9) (hf : f = 0 ∨ f = 1 ∨ f = 2) (q : (∃ z, x = .str z ∧ Fault z ∧ ∀ H', Own H' L I → Q (.bl false) H') ∨ (BadF rr x L ∧ ∀ H', Own H' L I → Q (.bl true) H')) : Ask (spHeard C ([.int f, .ref rr, x] ++ []) H Q E) := ⟨f, rr, x, r, L, I, rfl, h, p, g, s, l, hf, q⟩
theorem ask_orl {sp sp2 : Sp} {vs : List V} {H : Hp} {Q : VK} {E : XK} (h : Ask (sp vs H Q E)) : Ask ((fun vs H Q E => sp vs H Q E ∨ sp2 vs H Q E) vs H Q E) := by
  simp only [ask_eq] at h ⊢
  exact Or.inl h
theorem ask_orr {sp sp2 : Sp} {vs : List V} {H : Hp} {Q : VK} {E : XK} (h : Ask (sp2 vs H Q E)) : Ask ((fun vs H Q E => sp vs H Q E ∨ sp2 vs H Q E) vs H Q E) := by
  simp only [ask_eq] at h ⊢
  exact Or.inr h
section
variable (P : Program) (W0 : World) {K : PySem.W.Frag} {mg : Str → Option Value} (base : Heap)
set_option hygiene false in
local macro_rules | `(tactic| walk_at "exm") => `(tactic| exact T.xm_InvalidFault)
set_option hygiene false in
local macro_rules | `(tactic| walk_at "kitE") => `(tactic| first | exact T.kit_InvalidFault_SeatError | exact T.kit_InvalidFault_InvalidRule | exact T.kit_InvalidFault_InvalidDay)
set_option hygiene false in
local macro_rules | `(tactic| walk_at "cls") => `(tactic| first | exact T.c_Rule.cl | exact T.na_Rule_seats | exact T.na_Rule_lapse | exact T.na_Rule_beat | exact T.na_Rule_grace | exact T.na_Rule_late)
local macro_rules | `(tactic| walk_at "fld") => `(tactic| refine fld_rule (by assumption) (by walk_at "mem") (by walk_at "cls") (by walk_at "cls") rfl ?_)
local macro_rules | `(tactic| walk_at "good") => `(tactic| first | assumption | exact good_mk (by omega))
local macro_rules | `(tactic| walk_at "sm") => `(tactic| assumption)
local macro_rules | `(tactic| walk_at "lo") => `(tactic| first | omega | (simp only [lo_0, lo_1, lo_2, lo_3, lo_4]; omega))
set_option hygiene false in
local macro_rules | `(tactic| walk_at "seq") => `(tactic| first | exact T.s_WORDS _ | exact T.s_PASS _ | exact T.s_FAULTS _ | exact T.s_USER_WORDS _)
set_option hygiene false in
local macro_rules | `(tactic| walk_at "ask") => `(tactic| first
  | fail)
theorem G_l_heard (T : Tx W0 K mg) : FnOk P W0 K mg base CX0 7 T.f_l_heard T.d_l_heard ["_law_form", "_law_rule_here", "_law_value"] (spHeard T.C_Rule) := by
  refine T.F_l_heard.ok sc_l_heard (fun vs H Q E h => ?_) (fun cdv A outer s H vs Q E hr h => ?_)
  · obtain ⟨f, rr, x, r, L, I, rfl, _⟩ := h
    rfl
  · obtain ⟨f, rr, x, r, L, I, rfl, hO, pr, gg, se, la, hf, q⟩ := h
    have hu64 := Room.units hr
    refine ⟨_, (pss_cons (ps_set (i := 3) sc_l_heard.nd rfl (Or.inl rfl) pe_bl)
    (pss_cons (s_try_as (i := 4) (c := .ref T.C_InvalidFault) rfl rfl sc_l_heard.nd rfl rfl ⟨by rfl, by decide, .inl T.ge_InvalidFault⟩ takes0 (fun W pn xe tk po => (pss_one (s_if (t_cmp (c_eqK (K := K) rfl (by exact hu64)) (c_var 0) pe_int (nomark _)) (pss_one (ps_expr (e_callS (GX_happens P W0 base T) (hr.mono (by decide)) (by rfl) T.g_happens T.F_happens.kp T.b_happens .nil tk (pa_cons (c_var 1) (pa_cons pe_int (pa_cons (c_var 2) pa_nil)))))) (pss_one (s_if (t_cmp (c_eqK (K := K) rfl (by exact hu64)) (c_var 0) pe_int (nomark _)) (pss_one (ps_expr (e_callS (GX_least_events P W0 base T) (hr.mono (by decide)) (by rfl) T.g_least_events T.F_least_events.kp T.b_least_events .nil tk (pa_cons (c_var 1) (pa_cons pe_int (pa_cons (c_var 2) pa_nil)))))) (pss_one (ps_expr (e_callS (GX_day P W0 base T) (hr.mono (by decide)) (by rfl) T.g_day T.F_day.kp T.b_day .nil tk (pa_cons (c_var 1) (pa_cons pe_int (pa_cons (c_var 2) pa_nil))))))))))) (fun a oe cls d pn hz hf => (pss_one (ps_set (i := 3) sc_l_heard.nd rfl (Or.inl rfl) (e_and (pe_callB (k_isE0 (K := K) rfl T.xc_InvalidFault hz hf) (by rfl) T.isinstance (by decide +kernel) (pa_cons (c_var 4) (pa_cons (pe_glob (v := .ref _) (by rfl) T.ge_SeatError rfl) pa_nil))) (e_and (e_not (pe_callB (k_isE0 (K := K) rfl T.xc_InvalidFault hz hf) (by rfl) T.isinstance (by decide +kernel) (pa_cons (c_var 4) (pa_cons (pe_glob (v := .ref _) (by rfl) T.ge_InvalidRule rfl) pa_nil)))) (pe_one (e_not (pe_callB (k_isE0 (K := K) rfl T.xc_InvalidFault hz hf) (by rfl) T.isinstance (by decide +kernel) (pa_cons (c_var 4) (pa_cons (pe_glob (v := .ref _) (by rfl) T.ge_InvalidDay rfl) pa_nil)))))))))))
    (pss_one (ps_ret (c_var 3))))), ?_⟩
    have r1 : 1 ≤ r.se ∧ 1 ≤ r.la := by
      obtain ⟨s, l, b, g, t, e, ⟨h0, h1, _⟩, _⟩ := id gg
      cases e
      exact ⟨by assumption, by assumption⟩
    have tu : ∀ {z}, Fault z → ∀ es, planE z r 3 = some es → ∀ e ∈ es, evU e := fun ff es h e m => by
      have := (told_all2 r1.1 r1.2 (by decide) ff h).ev e m
      cases e with
      | pass => trivial
      | on w u => exact ⟨this.1, by have := this.2; omega⟩
    rcases hf with rfl | rfl | rfl
    · walk_at "go"
      rcases q with ⟨z, rfl, ff, q⟩ | ⟨hb, q⟩
      · refine ask_orl (ask_happens hO pr gg (show seatsOf r.l ≤ 1000 from by show r.se ≤ 1000; omega) ff (fun H1 w => ?_))
        walk_at "go"
        exact q _ w
      · refine ask_orr (ask_badF hO pr hb (fun H1 w => ?_))
        walk_at "go"
        refine isE_o0 (by walk_at "kitE") ?_
        walk_at "go"
        refine isE_o0 (by walk_at "kitE") ?_
        walk_at "go"
        refine isE_o0 (by walk_at "kitE") ?_
        walk_at "go"
        exact q _ w
    · walk_at "go"
      rcases q with ⟨z, rfl, ff, q⟩ | ⟨hb, q⟩
      · refine ask_orl (ask_leastE hO pr gg (show seatsOf r.l ≤ 1000 from by show r.se ≤ 1000; omega) ff (fun H1 w => ?_))
        walk_at "go"
        exact q _ w
      · refine ask_orr (ask_badF hO pr hb (fun H1 w => ?_))
        walk_at "go"
        refine isE_o0 (by walk_at "kitE") ?_
        walk_at "go"
        refine isE_o0 (by walk_at "kitE") ?_
        walk_at "go"
        refine isE_o0 (by walk_at "kitE") ?_
        walk_at "go"
        exact q _ w
    · walk_at "go"
      rcases q with ⟨z, rfl, ff, q⟩ | ⟨hb, q⟩
      · refine ask_orl (ask_dayG hO pr gg (by omega) (by omega) ff (tu ff) (fun H1 v w => ?_))
        have w : Own H1 L I := by
          unfold DayVal at w
          split at w
          · exact w.2
          · obtain ⟨p, xs, _, w⟩ := w
            walk_at "own"
        walk_at "go"
        exact q _ w
      · refine ask_orr (ask_badF hO pr hb (fun H1 w => ?_))
        walk_at "go"
        refine isE_o0 (by walk_at "kitE") ?_
        walk_at "go"
        refine isE_o0 (by walk_at "kitE") ?_
        walk_at "go"
        refine isE_o0 (by walk_at "kitE") ?_
        walk_at "go"
        exact q _ w
end
end My
set_option Elab.async false
set_option linter.all false
set_option maxRecDepth 100000
set_option maxHeartbeats 800000
namespace My
open PySem PySem.Spec PyProof.Rows L2 RZ SkE CL OW
def spLaw (K : PySem.W.Frag) : Sp := fun vs H Q _ => ∃ (a : Addr) (ns : List Int), vs = [.ref a] ∧ Own H [] [seqI K a (ns.map V.int)] ∧ ns.length ≤ 63 ∧ ∀ H', Q (.bl true) H'
theorem top_bad {r : Addr} {x : V} {M : List Ck} (t : TopV r x M) (L : List Ck) : (∃ z, x = .str z ∧ (Fault z ∨ (inV (.str z) [.str "over", .str "taken", .str "twice", .str "waits"] = false ∧ x ∈ badV r))) ∨ (BadF r x (M ++ L) ∧ (x ∈ [.non, .bl true, .int 0, .int (10 ^ 20), .ref r] ∨ ∃ p ys, x = .ref p ∧ (M = [.pt p (.lst ys)] ∨ M = [.pt p (.tup ys)]))) := by
  rcases t with ⟨rfl, m⟩ | ⟨p, ys, rfl, rfl | rfl⟩
  · unfold oddV at m
    simp only [List.mem_cons, List.not_mem_nil, or_false] at m
    rcases m with rfl | rfl | rfl | rfl | rfl | rfl | rfl | rfl | rfl | rfl | rfl | rfl | rfl
    all_goals first | exact .inl ⟨_, rfl, .inl (.inl rfl)⟩ | exact .inl ⟨_, rfl, .inl (.inr (.inl rfl))⟩ | exact .inl ⟨_, rfl, .inl (.inr (.inr (.inl rfl)))⟩ | exact .inl ⟨_, rfl, .inr ⟨by decide +kernel, by unfold badV; simp⟩⟩ | exact .inr ⟨.inl (by unfold badV; simp), .inl (by simp)⟩
  · exact .inr ⟨.inr ⟨p, ys, _, rfl, .inl .head⟩, .inr ⟨p, ys, rfl, .inl rfl⟩⟩
  · exact .inr ⟨.inr ⟨p, ys, _, rfl, .inr .head⟩, .inr ⟨p, ys, rfl, .inr rfl⟩⟩
theorem pick_tl {c : Ck} : ∀ L : List Ck, Pick (c :: L) L
  | [] => .nil
  | x :: L => .cons (.tail .head) (pick_tl L)
theorem BadF.up {r : Addr} {x : V} {L : List Ck} {c : Ck} (h : BadF r x L) : BadF r x (c :: L) := by
  rcases h with m | ⟨p, ys, R, e, h | h⟩
  · exact .inl m
  · exact .inr ⟨p, ys, _, e, .inl (.tail h)⟩
  · exact .inr ⟨p, ys, _, e, .inr (.tail h)⟩
section
variable (P : Program) (W0 : World) {K : PySem.W.Frag} {mg : Str → Option Value} (base : Heap)
set_option hygiene false in
local macro_rules | `(tactic| walk_at "cls") => `(tactic| first | exact T.c_Rule.cl | exact T.na_Rule_seats | exact T.na_Rule_lapse | exact T.na_Rule_beat | exact T.na_Rule_grace | exact T.na_Rule_late)
local macro_rules | `(tactic| walk_at "fld") => `(tactic| refine fld_rule (by assumption) (by walk_at "mem") (by walk_at "cls") (by walk_at "cls") rfl ?_)
local macro_rules | `(tactic| walk_at "good") => `(tactic| first | assumption | exact good_mk (by omega))
local macro_rules | `(tactic| walk_at "sm") => `(tactic| assumption)
local macro_rules | `(tactic| walk_at "lo") => `(tactic| first | omega | (simp only [lo_0, lo_1, lo_2, lo_3, lo_4]; omega))
set_option hygiene false in
local macro_rules | `(tactic| walk_at "seq") => `(tactic| first | exact T.s_WORDS _ | exact T.s_PASS _ | exact T.s_FAULTS _ | exact T.s_USER_WORDS _)
set_option hygiene false in
local macro_rules | `(tactic| walk_at "ask") => `(tactic| first
  | fail)
theorem G_law (T : Tx W0 K mg) : FnG P W0 K mg base CX0 26 T.f_law T.d_law ["_law_script"] (spLaw K) := by
  refine fun_okG T.F_law sc_law (fun vs H Q E h => ?_) (fun cdv A outer s H vs Q E hG hr h => ?_)
  · obtain ⟨a, ns, rfl, _⟩ := h
    rfl
  · obtain ⟨a, ns, rfl, hO, hl, q⟩ := h
    have hu64 := Room.units hr
    refine ⟨_, (pss_cons (s_for PassesOwn.never (by rfl) (i_range1 (by rfl) T.range (pa_cons (pe_callB (k_maxG (by rfl)) (by rfl) T.max (by decide +kernel) (pa_cons pe_int (pa_cons (pe_callB (k_minL (by rfl)) (by rfl) T.min (by decide +kernel) (pa_cons pe_int (pa_cons (pe_callB k_len (by rfl) T.len PySem.boot_len (pa_cons (c_var 0) pa_nil)) pa_nil))) pa_nil))) pa_nil)) (pg_name (i := 1) sc_law.nd rfl (Or.inl rfl)) (pss_cons (ps_set (i := 2) sc_law.nd rfl (Or.inl rfl) (e_call (G_l_deal P W0 base T) (hr.mono (by decide)) (by rfl) T.g_l_deal T.F_l_deal.kp T.b_l_deal .nil pass0 (pa_cons (c_var 0) (pa_cons (c_var 1) pa_nil))))
    (pss_cons (ps_set (i := 3) sc_law.nd rfl (Or.inr rfl) (e_call (G_l_rule P W0 base T) (hr.mono (by decide)) (by rfl) T.g_l_rule T.F_l_rule.kp T.b_l_rule .nil pass0 (pa_cons (e_call (G_l_numbers P W0 base T) (hr.mono (by decide)) (by rfl) T.g_l_numbers T.F_l_numbers.kp T.b_l_numbers .nil pass0 (pa_cons (c_var 2) (pa_cons pe_int (pa_cons pe_int pa_nil)))) pa_nil)))
    (pss_cons (s_for PassesOwn.never (by rfl) (i_range1 (by rfl) T.range (pa_cons pe_int pa_nil)) (pg_name (i := 4) sc_law.nd rfl (Or.inl rfl)) (pss_cons (ps_set (i := 5) sc_law.nd rfl (Or.inr rfl) (e_call (G_l_any P W0 base T) (hr.mono (by decide)) (by rfl) T.g_l_any T.F_l_any.kp T.b_l_any .nil pass0 (pa_cons (c_var 2) (pa_cons pe_int (pa_cons (c_var 3) pa_nil)))))
    (pss_cons (s_join (ps_set (i := 6) sc_law.nd rfl (Or.inl rfl) (e_or (e_not (pe_callB k_isi (by rfl) T.isinstance (by decide +kernel) (pa_cons (c_var 5) (pa_cons (pe_bltn (v := .ty "str") (by rfl) T.str (by decide +kernel) rfl) pa_nil)))) (pe_one (pe_cmpR c_notin (c_var 5) (e_tup (pa_cons pe_str (pa_cons pe_str (pa_cons pe_str (pa_cons pe_str pa_nil))))) (by with_unfolding_all rfl))))))
    (pss_one (s_for PassesOwn.never (by rfl) (i_val (e_tup (pa_cons pe_int (pa_cons pe_int (pa_cons pe_int pa_nil))))) (pg_name (i := 7) sc_law.nd rfl (Or.inl rfl)) (pss_one (s_if (t_cmp (c_ne hu64) (e_call (G_l_heard P W0 base T) (hr.mono (by decide)) (by rfl) T.g_l_heard T.F_l_heard.kp T.b_l_heard .nil pass0 (pa_cons (c_var 7) (pa_cons (c_var 3) (pa_cons (c_var 5) pa_nil)))) (c_var 6) (nomark _)) (pss_one (ps_ret pe_bl)) pss_nil)))))))
    (pss_cons (s_for PassesOwn.never (by rfl) (i_val (e_tup (pa_cons (e_lst (pa_cons pe_str pa_nil)) (pa_cons (e_tup (pa_cons pe_str pa_nil)) (pa_cons pe_non (pa_cons pe_str (pa_cons pe_str (pa_cons pe_int (pa_cons pe_bl pa_nil))))))))) (pg_name (i := 5) sc_law.nd rfl (Or.inr rfl)) (pss_one (s_if (t_cmp (c_ne hu64) (e_lc (own := [("_law_form", 7)]) (by rfl) sc_law.nd (i_val (e_tup (pa_cons pe_int (pa_cons pe_int (pa_cons pe_int pa_nil))))) (blkOk_by (own := [("_law_form", 7)]) (N := ["_law_script", "_law_base", "_law_deal_here", "_law_rule_here", "_law_turn", "_law_value", "_law_is_bad", "_law_form"]) (sc := defScope s_law) (by decide +kernel)) (fun _ _ _ _ _ => (pg_name (i := 7) sc_law.nd rfl (Or.inl rfl))) (fun _ _ _ _ _ => pts_nil) (fun _ _ _ _ _ => (e_call (G_l_heard P W0 base T) (hr.mono (by decide)) (by rfl) T.g_l_heard T.F_l_heard.kp T.b_l_heard .nil pass0 (pa_cons (c_var 7) (pa_cons (c_var 3) (pa_cons (c_var 5) pa_nil)))))) (pe_op c_rep (e_lst (pa_cons pe_bl pa_nil)) pe_int) (nomark _)) (pss_one (ps_ret pe_bl)) pss_nil)))
    (pss_one (s_for PassesOwn.never (by rfl) (i_val (e_tup (pa_cons pe_str (pa_cons pe_str (pa_cons pe_str (pa_cons pe_str pa_nil)))))) (pg_name (i := 5) sc_law.nd rfl (Or.inr rfl)) (pss_one (s_if (t_cmp (c_ne hu64) (e_lc (own := [("_law_form", 7)]) (by rfl) sc_law.nd (i_val (e_tup (pa_cons pe_int (pa_cons pe_int (pa_cons pe_int pa_nil))))) (blkOk_by (own := [("_law_form", 7)]) (N := ["_law_script", "_law_base", "_law_deal_here", "_law_rule_here", "_law_turn", "_law_value", "_law_is_bad", "_law_form"]) (sc := defScope s_law) (by decide +kernel)) (fun _ _ _ _ _ => (pg_name (i := 7) sc_law.nd rfl (Or.inl rfl))) (fun _ _ _ _ _ => pts_nil) (fun _ _ _ _ _ => (e_call (G_l_heard P W0 base T) (hr.mono (by decide)) (by rfl) T.g_l_heard T.F_l_heard.kp T.b_l_heard .nil pass0 (pa_cons (c_var 7) (pa_cons (c_var 3) (pa_cons (c_var 5) pa_nil)))))) (pe_op c_rep (e_lst (pa_cons pe_bl pa_nil)) pe_int) (nomark _)) (pss_one (ps_ret pe_bl)) pss_nil)))))))))
    (pss_one (ps_ret pe_bl))), ?_⟩
    walk_at "go"
    refine fw_range (fun i σ H' => ∃ v1 v2 v3 v4 v5 v6 v7 : Option V, σ = [some (.ref a), v1, v2, v3, v4, v5, v6, v7] ∧ Own H' [] [seqI K a (ns.map V.int)]) ⟨_, _, _, _, _, _, _, rfl, hO⟩ ?_ ?_
    rotate_left
    · rintro σ H1 ⟨v1, v2, v3, v4, v5, v6, v7, rfl, e⟩
      walk_at "go"
      exact q _
    rintro i σ H1 hi ⟨v1, v2, v3, v4, v5, v6, v7, rfl, e⟩
    walk_at "go"
    refine ask_deal e List.mem_cons_self hl (by omega) (fun H2 b w => ?_)
    walk_at "go"
    refine ask_numbers w (by walk_at "pull") (by decide) (by decide) (fun H5 pn nu dn w => ?_)
    have gg := dn.good (by decide) (by omega)
    obtain ⟨s', l, b', g', t', rfl, ds, dl, db, dg, dt⟩ := id dn
    walk_at "go"
    refine ask_lrule w (by walk_at "pull") gg (fun H6 r w => ?_)
    walk_at "go"
    refine fw_range (fun i2 σ H' => ∃ v4 v5 v6 v7 : Option V, σ = [some (.ref a), some (.int (0 + (i : Int))), some (.ref b), some (.ref r), v4, v5, v6, v7] ∧ Own H' [dealCk b] [seqI K a (ns.map V.int), ruleI T.C_Rule r [s', l, b', g', t']]) ⟨_, _, _, _, rfl, by walk_at "own"⟩ ?_ ?_
    · rintro i2 σ H3 hi2 ⟨v4, v5, v6, v7, rfl, w⟩
      walk_at "go"
      refine ask_any w (by walk_at "pull") (by walk_at "mem") (fun H4 x M tx w => ?_)
      walk_at "go"
      refine join_by (fun σ' H' => ∃ bb : Bool, σ' = [some (.ref a), some (.int (0 + (i : Int))), some (.ref b), some (.ref r), some (.int (0 + (i2 : Int))), some x, some (.bl bb), v7] ∧ ((bb = false ∧ ∃ z, x = .str z ∧ Fault z) ∨ (bb = true ∧ BadF r x (M ++ [dealCk b]))) ∧ Own H' (M ++ [dealCk b]) [seqI K a (ns.map V.int), ruleI T.C_Rule r [s', l, b', g', t']]) ?_ ?_
      · rcases top_bad tx [dealCk b] with ⟨z, rfl, zz⟩ | ⟨bf, kd⟩
        · walk_at "go"
          rcases zz with ff | ⟨ff, mb⟩
          · rw [fault_in ff]
            walk_at "go"
            exact ⟨.inl ⟨rfl, z, rfl, ff⟩, w.pick (pick_tl _)⟩
          · rw [ff]
            walk_at "go"
            exact ⟨.inr ⟨rfl, .inl mb⟩, w.pick (pick_tl _)⟩
        · rcases kd with m | ⟨p, ys, rfl, rfl | rfl⟩
          · simp only [List.mem_cons, List.not_mem_nil, or_false] at m
            rcases m with rfl | rfl | rfl | rfl | rfl
            · walk_at "go"
              exact ⟨.inr ⟨rfl, bf⟩, w⟩
            · walk_at "go"
              exact ⟨.inr ⟨rfl, bf⟩, w⟩
            · walk_at "go"
              exact ⟨.inr ⟨rfl, bf⟩, w⟩
            · walk_at "go"
              exact ⟨.inr ⟨rfl, bf⟩, w⟩
            · obtain ⟨dx, e⟩ := rule_open w (by walk_at "mem" : ruleI T.C_Rule r [s', l, b', g', t'] ∈ _)
              refine IsI.mk ⟨_, _, T.c_Rule.ty e, T.kRs, ?_⟩
              walk_at "go"
              exact ⟨.inr ⟨rfl, bf⟩, w⟩
          · walk_at "go"
            exact ⟨.inr ⟨rfl, bf⟩, w⟩
          · walk_at "go"
            exact ⟨.inr ⟨rfl, bf⟩, w⟩
      rintro σ' H5 ⟨bb, rfl, bbf, w⟩
      walk_at "go"
      rename_i pp0 HH0 w0
      refine fw_tup (xs := [.int 0, .int 1, .int 2]) (fun i3 σ H' => ∃ v7 : Option V, σ = [some (.ref a), some (.int (0 + (i : Int))), some (.ref b), some (.ref r), some (.int (0 + (i2 : Int))), some x, some (.bl bb), v7] ∧ Own H' (.pt pp (.tup [.int 0, .int 1, .int 2]) :: (M ++ [dealCk b])) [seqI K a (ns.map V.int), ruleI T.C_Rule r [s', l, b', g', t']]) ⟨_, rfl, w⟩ (fun i σ H' _ ⟨_, _, e⟩ => SqT.of e.hd) ?_ ?_
      rotate_left
      · rintro σ H6 ⟨v7, rfl, w⟩
        refine ⟨_, _, _, _, rfl, ?_⟩
        rcases tx with ⟨rfl, _⟩ | ⟨p2, ys2, _, rfl | rfl⟩ <;> walk_at "own"
      rintro i3 f σ H6 hx ⟨v7, rfl, w⟩
      obtain ⟨f, rfl, hf⟩ : ∃ k : Int, f = .int k ∧ (k = 0 ∨ k = 1 ∨ k = 2) := by
        have hm := List.mem_of_getElem? hx
        simp only [List.mem_cons, List.not_mem_nil, or_false] at hm
        rcases hm with rfl | rfl | rfl <;> exact ⟨_, rfl, by decide⟩
      walk_at "go"
      refine ask_heard (r := ⟨s', l, b', g', t'⟩) w (by walk_at "mem") gg (by show s' ≤ 3; omega) (by show l ≤ 9; omega) hf ?_
      rcases bbf with ⟨rfl, z, rfl, ff⟩ | ⟨rfl, bf⟩
      · refine .inl ⟨z, rfl, ff, fun H7 w => ?_⟩
        walk_at "go"
        exact w
      · refine .inr ⟨bf.up, fun H7 w => ?_⟩
        walk_at "go"
        exact w
    rintro σ H3 ⟨v4, v5, v6, v7, rfl, w⟩
    walk_at "go"
    rename_i q1 _ _ q2 _ _
    obtain ⟨po, hpo⟩ : ∃ x, x = pp := ⟨_, rfl⟩
    subst hpo
    refine fw_tup (xs := [.ref q1, .ref q2, .non, .str "waits\n", .str "OVER", .int 1, .bl true]) (fun i3 σ H' => ∃ v4 v5 v6 v7 : Option V, σ = [some (.ref a), some (.int (0 + (i : Int))), some (.ref b), some (.ref r), v4, v5, v6, v7] ∧ Own H' [.pt po (.tup [.ref q1, .ref q2, .non, .str "waits\n", .str "OVER", .int 1, .bl true]), .pt q2 (.tup [.str "over"]), .pt q1 (.lst [.str "over"]), dealCk b] [seqI K a (ns.map V.int), ruleI T.C_Rule r [s', l, b', g', t']]) ⟨_, _, _, _, rfl, by walk_at "own"⟩ (fun i σ H' _ ⟨_, _, _, _, _, e⟩ => SqT.of e.hd) ?_ ?_
    · rintro i3 x σ H6 hx ⟨v4, v5, v6, v7, rfl, w⟩
      have bf : ∀ {L R R2 : List Ck}, Pull L (.pt q1 (.lst [.str "over"])) R → Pull L (.pt q2 (.tup [.str "over"])) R2 → BadF r x L := fun p1 p2 => by
        have hm := List.mem_of_getElem? hx
        simp only [List.mem_cons, List.not_mem_nil, or_false] at hm
        rcases hm with rfl | rfl | rfl | rfl | rfl | rfl | rfl
        · exact .inr ⟨_, _, _, rfl, .inl p1⟩
        · exact .inr ⟨_, _, _, rfl, .inr p2⟩
        all_goals exact .inl (by unfold badV; simp)
      walk_at "go"
      refine newa_o w (fun pd w => ?_)
      refine la_tup (xs := [.int 0, .int 1, .int 2]) (fun k2 H' => Own H' (.pt pd (.lst (List.replicate k2 (.bl true))) :: .pt pp (.tup [.int 0, .int 1, .int 2]) :: .pt po (.tup [.ref q1, .ref q2, .non, .str "waits\n", .str "OVER", .int 1, .bl true]) :: .pt q2 (.tup [.str "over"]) :: .pt q1 (.lst [.str "over"]) :: [dealCk b]) [seqI K a (ns.map V.int), ruleI T.C_Rule r [s', l, b', g', t']]) w (fun k2 H' _ e => SqT.of (e.get (by walk_at "pull"))) ?_ ?_
      · rintro k2 f H7 hx2 w
        obtain ⟨f, rfl, hf⟩ : ∃ k : Int, f = .int k ∧ (k = 0 ∨ k = 1 ∨ k = 2) := by
          have hm := List.mem_of_getElem? hx2
          simp only [List.mem_cons, List.not_mem_nil, or_false] at hm
          rcases hm with rfl | rfl | rfl <;> exact ⟨_, rfl, by decide⟩
        unfold LcT
        walk_at "go"
        refine ask_heard (r := ⟨s', l, b', g', t'⟩) w (by walk_at "mem") gg (by show s' ≤ 3; omega) (by show l ≤ 9; omega) hf ?_
        refine .inr ⟨bf (by walk_at "pull") (by walk_at "pull"), fun H8 w => ?_⟩
        walk_at "go"
        have l2 : k2 < 3 := (List.getElem?_eq_some_iff.mp hx2).1
        refine acc_a w (by walk_at "pull") (by rw [List.length_replicate, sizeLine_eq]; omega) (fun H9 w => ?_)
        rw [← List.replicate_succ'] at w
        exact w
      rintro H7 w
      walk_at "go"
      refine eqd_mk (d := .list [.bool true, .bool true, .bool true]) (e := .list [.bool true, .bool true, .bool true]) (.lst (SqL.of (w.get (by walk_at "pull" : Pull _ (Ck.pt pd (.lst (List.replicate 3 (.bl true)))) _))) (.cons (.bl _) (.cons (.bl _) (.cons (.bl _) .nil)))) (.lst (SqL.of (w.get .head)) (.cons (.bl _) (.cons (.bl _) (.cons (.bl _) .nil)))) (by decide +kernel) (by decide +kernel) ?_
      rw [show PyData.eqv (.list [.bool true, .bool true, .bool true]) (.list [.bool true, .bool true, .bool true]) = true from by decide +kernel]
      walk_at "go"
      exact ⟨_, _, _, _, rfl, by walk_at "own"⟩
    rintro σ H6 ⟨v4, v5, v6, v7, rfl, w⟩
    walk_at "go"
    obtain ⟨pu, hpu⟩ : ∃ x, x = pp := ⟨_, rfl⟩
    subst hpu
    refine fw_tup (xs := FLX.map V.str) (fun i3 σ H' => ∃ v4 v5 v6 v7 : Option V, σ = [some (.ref a), some (.int (0 + (i : Int))), some (.ref b), some (.ref r), v4, v5, v6, v7] ∧ Own H' [.pt pu (.tup (FLX.map V.str)), dealCk b] [seqI K a (ns.map V.int), ruleI T.C_Rule r [s', l, b', g', t']]) ⟨_, _, _, _, rfl, by walk_at "own"⟩ (fun i σ H' _ ⟨_, _, _, _, _, e⟩ => SqT.of e.hd) ?_ ?_
    · rintro i3 x σ H6 hx ⟨v4, v5, v6, v7, rfl, w⟩
      obtain ⟨z, rfl, ff⟩ : ∃ z, x = .str z ∧ Fault z := by
        have hm := List.mem_of_getElem? hx
        simp only [FLX, List.map_cons, List.map_nil, List.mem_cons, List.not_mem_nil, or_false] at hm
        rcases hm with rfl | rfl | rfl | rfl
        · exact ⟨_, rfl, .inl rfl⟩
        · exact ⟨_, rfl, .inr (.inl rfl)⟩
        · exact ⟨_, rfl, .inr (.inr (.inl rfl))⟩
        · exact ⟨_, rfl, .inr (.inr (.inr rfl))⟩
      walk_at "go"
      refine newa_o w (fun pd w => ?_)
      refine la_tup (xs := [.int 0, .int 1, .int 2]) (fun k2 H' => Own H' (.pt pd (.lst (List.replicate k2 (.bl false))) :: .pt pp (.tup [.int 0, .int 1, .int 2]) :: .pt pu (.tup (FLX.map V.str)) :: [dealCk b]) [seqI K a (ns.map V.int), ruleI T.C_Rule r [s', l, b', g', t']]) w (fun k2 H' _ e => SqT.of (e.get (by walk_at "pull"))) ?_ ?_
      · rintro k2 f H7 hx2 w
        obtain ⟨f, rfl, hf⟩ : ∃ k : Int, f = .int k ∧ (k = 0 ∨ k = 1 ∨ k = 2) := by
          have hm := List.mem_of_getElem? hx2
          simp only [List.mem_cons, List.not_mem_nil, or_false] at hm
          rcases hm with rfl | rfl | rfl <;> exact ⟨_, rfl, by decide⟩
        unfold LcT
        walk_at "go"
        refine ask_heard (r := ⟨s', l, b', g', t'⟩) w (by walk_at "mem") gg (by show s' ≤ 3; omega) (by show l ≤ 9; omega) hf ?_
        refine .inl ⟨z, rfl, ff, fun H8 w => ?_⟩
        walk_at "go"
        have l2 : k2 < 3 := (List.getElem?_eq_some_iff.mp hx2).1
        refine acc_a w (by walk_at "pull") (by rw [List.length_replicate, sizeLine_eq]; omega) (fun H9 w => ?_)
        rw [← List.replicate_succ'] at w
        exact w
      rintro H7 w
      walk_at "go"
      refine eqd_mk (d := .list [.bool false, .bool false, .bool false]) (e := .list [.bool false, .bool false, .bool false]) (.lst (SqL.of (w.get (by walk_at "pull" : Pull _ (Ck.pt pd (.lst (List.replicate 3 (.bl false)))) _))) (.cons (.bl _) (.cons (.bl _) (.cons (.bl _) .nil)))) (.lst (SqL.of (w.get .head)) (.cons (.bl _) (.cons (.bl _) (.cons (.bl _) .nil)))) (by decide +kernel) (by decide +kernel) ?_
      rw [show PyData.eqv (.list [.bool false, .bool false, .bool false]) (.list [.bool false, .bool false, .bool false]) = true from by decide +kernel]
      walk_at "go"
      exact ⟨_, _, _, _, rfl, by walk_at "own"⟩
    rintro σ H6 ⟨v4, v5, v6, v7, rfl, w⟩
    exact ⟨_, _, _, _, _, _, _, rfl, by walk_at "own"⟩
end
end My
set_option Elab.async false
set_option linter.all false
set_option maxRecDepth 100000
set_option maxHeartbeats 800000
namespace My
open PySem PySem.Spec PyProof.Rows L2 RZ SkE CL OW
theorem b6_of {K : PySem.W.Frag} {fd : FuncData} {ps : List Str} (h : ∃ ds, Vals [] ds ∧ Binds K fd ps ds) : Binds K fd ps [] := by
  obtain ⟨ds, v, b⟩ := h
  cases v
  exact b
theorem all_mk {l : PySem.W.OpenLaw} {w : World} {K : PySem.W.Frag} {h : Heap} {mg : Str → Option Value} {fa f_law C_Day C_Rule C_SeatError C_InvalidDay C_InvalidFault C_InvalidRule f_is_integer_from f_is_sequence f_InvalidFault_init f_is_event f_first_wrong_days f_Day_init Td_Day_init Te_Day_init f_most_at_one_seat f_can_share f_can_be_silent f_silent_borrow f_over_plan f_taken_plan f_twice_plan f_waits_plan f_plan f_happens f_least_events f_day f_is_number_for f_Rule_init Td_Rule_init f_Rule_eq f_Rule_str f_l_any f_l_heard f_l_deal f_l_draw f_l_pick f_l_numbers f_l_rule a_WORDS a_PASS a_FAULTS a_PLANS a_USER_WORDS : Addr} (X : K.In h) (G : h.Ns mainGlobals mg) (hfa : mg "law" = some (.ref fa))
    {od_is_integer_from an_is_integer_from od_is_sequence an_is_sequence od_InvalidFault_init an_InvalidFault_init od_is_event an_is_event od_first_wrong_days an_first_wrong_days od_Day_init an_Day_init odT_Day_init odE_Day_init od_most_at_one_seat an_most_at_one_seat od_can_share an_can_share od_can_be_silent an_can_be_silent od_silent_borrow an_silent_borrow od_over_plan an_over_plan od_taken_plan an_taken_plan od_twice_plan an_twice_plan od_waits_plan an_waits_plan od_plan an_plan od_happens an_happens od_least_events an_least_events od_day an_day od_is_number_for an_is_number_for od_Rule_init an_Rule_init odT_Rule_init od_Rule_eq an_Rule_eq od_Rule_str an_Rule_str od_l_any an_l_any od_l_heard an_l_heard od_l_deal an_l_deal od_l_draw an_l_draw od_l_pick an_l_pick od_l_numbers an_l_numbers od_l_rule an_l_rule od_law an_law odC_WORDS odC_PASS odC_FAULTS odC_USER_WORDS : Option Addr} {sl_is_integer_from sl_is_sequence sl_InvalidFault_init sl_is_event sl_first_wrong_days sl_Day_init slT_Day_init slE_Day_init sl_most_at_one_seat sl_can_share sl_can_be_silent sl_silent_borrow sl_over_plan sl_taken_plan sl_twice_plan sl_waits_plan sl_plan sl_happens sl_least_events sl_day sl_is_number_for sl_Rule_init slT_Rule_init sl_Rule_eq sl_Rule_str sl_l_any sl_l_heard sl_l_deal sl_l_draw sl_l_pick sl_l_numbers sl_l_rule sl_law slC_WORDS slC_PASS slC_FAULTS slC_USER_WORDS : Array (Option Value)} {oc_is_integer_from kV_is_integer_from dc_is_integer_from pm_is_integer_from cd_is_integer_from ct_is_integer_from oc_is_sequence kV_is_sequence dc_is_sequence pm_is_sequence cd_is_sequence ct_is_sequence oc_InvalidFault_init kV_InvalidFault_init dc_InvalidFault_init pm_InvalidFault_init cd_InvalidFault_init ct_InvalidFault_init oc_is_event kV_is_event dc_is_event pm_is_event cd_is_event ct_is_event oc_first_wrong_days kV_first_wrong_days dc_first_wrong_days pm_first_wrong_days cd_first_wrong_days ct_first_wrong_days oc_Day_init kV_Day_init dc_Day_init pm_Day_init cd_Day_init ct_Day_init ocT_Day_init oc_most_at_one_seat kV_most_at_one_seat dc_most_at_one_seat pm_most_at_one_seat cd_most_at_one_seat ct_most_at_one_seat oc_can_share kV_can_share dc_can_share pm_can_share cd_can_share ct_can_share oc_can_be_silent kV_can_be_silent dc_can_be_silent pm_can_be_silent cd_can_be_silent ct_can_be_silent oc_silent_borrow kV_silent_borrow dc_silent_borrow pm_silent_borrow cd_silent_borrow ct_silent_borrow oc_over_plan kV_over_plan dc_over_plan pm_over_plan cd_over_plan ct_over_plan oc_taken_plan kV_taken_plan dc_taken_plan pm_taken_plan cd_taken_plan ct_taken_plan oc_twice_plan kV_twice_plan dc_twice_plan pm_twice_plan cd_twice_plan ct_twice_plan oc_waits_plan kV_waits_plan dc_waits_plan pm_waits_plan cd_waits_plan ct_waits_plan oc_plan kV_plan dc_plan pm_plan cd_plan ct_plan oc_happens kV_happens dc_happens pm_happens cd_happens ct_happens oc_least_events kV_least_events dc_least_events pm_least_events cd_least_events ct_least_events oc_day kV_day dc_day pm_day cd_day ct_day oc_is_number_for kV_is_number_for dc_is_number_for pm_is_number_for cd_is_number_for ct_is_number_for oc_Rule_init kV_Rule_init dc_Rule_init pm_Rule_init cd_Rule_init ct_Rule_init ocT_Rule_init oc_Rule_eq kV_Rule_eq dc_Rule_eq pm_Rule_eq cd_Rule_eq ct_Rule_eq oc_Rule_str kV_Rule_str dc_Rule_str pm_Rule_str cd_Rule_str ct_Rule_str oc_l_any kV_l_any dc_l_any pm_l_any cd_l_any ct_l_any oc_l_heard kV_l_heard dc_l_heard pm_l_heard cd_l_heard ct_l_heard oc_l_deal kV_l_deal dc_l_deal pm_l_deal cd_l_deal ct_l_deal oc_l_draw kV_l_draw dc_l_draw pm_l_draw cd_l_draw ct_l_draw oc_l_pick kV_l_pick dc_l_pick pm_l_pick cd_l_pick ct_l_pick oc_l_numbers kV_l_numbers dc_l_numbers pm_l_numbers cd_l_numbers ct_l_numbers oc_l_rule kV_l_rule dc_l_rule pm_l_rule cd_l_rule ct_l_rule oc_law kV_law dc_law pm_law cd_law ct_law : Value} {mT_Day_init mE_Day_init mT_Rule_init mC_WORDS mC_PASS mC_FAULTS nD_PLANS mC_USER_WORDS : Nat} {t0_Rule_init tc0_WORDS tc1_WORDS tc2_WORDS tc3_WORDS tc4_WORDS tc0_PASS tc0_FAULTS tc1_FAULTS tc2_FAULTS tc3_FAULTS tc0_USER_WORDS tc1_USER_WORDS tc2_USER_WORDS tc3_USER_WORDS tc4_USER_WORDS tc5_USER_WORDS tc6_USER_WORDS : Tok} {es_PLANS : Array DictEntry}
    {nm_InvalidFault q_InvalidFault : Str} {N_InvalidFault : Addr} {bs_InvalidFault : List Value} {sn_InvalidFault : List Str} {sub_InvalidFault : List Value} {ab_InvalidFault : Bool} {col_InvalidFault : Option Bool} {dd_InvalidFault : Option Addr} {m0_InvalidFault m1_InvalidFault m2_InvalidFault m3_InvalidFault m5_InvalidFault : Option Value}
    (aC_Day : PySem.W.nsIn K mainGlobals "Day" = some (some (.ref C_Day)))
    (pg_Day : PySem.W.plainGet K C_Day Str.empty = true)
    (hd_Day : PySem.W.hasDictIn K C_Day = true)
    (po_Day : PySem.W.plainOver K C_Day = true)
    (sa_Day : PySem.W.findIn K (.ref C_Day) "__setattr__" = some (some (.builtin "object.__setattr__")))
    (mk_Day : PySem.W.makesIn K C_Day = true)
    (kc_Day : PySem.W.keepIn K (.ref C_Day) = true)
    (ha_Day : PySem.W.findIn K (.ref C_Day) "__class__" = some (some (.builtin "object.__class__")))
    (hm_Day : PySem.W.mroIn K C_Day (.type "object") = some true)
    (na_Day_events : PySem.W.findIn K (.ref C_Day) "events" = some none)
    (aC_Rule : PySem.W.nsIn K mainGlobals "Rule" = some (some (.ref C_Rule)))
    (pg_Rule : PySem.W.plainGet K C_Rule Str.empty = true)
    (hd_Rule : PySem.W.hasDictIn K C_Rule = true)
    (po_Rule : PySem.W.plainOver K C_Rule = true)
    (sa_Rule : PySem.W.findIn K (.ref C_Rule) "__setattr__" = some (some (.builtin "object.__setattr__")))
    (mk_Rule : PySem.W.makesIn K C_Rule = true)
    (kc_Rule : PySem.W.keepIn K (.ref C_Rule) = true)
    (ha_Rule : PySem.W.findIn K (.ref C_Rule) "__class__" = some (some (.builtin "object.__class__")))
    (hm_Rule : PySem.W.mroIn K C_Rule (.type "object") = some true)
    (na_Rule_seats : PySem.W.findIn K (.ref C_Rule) "seats" = some none)
    (na_Rule_lapse : PySem.W.findIn K (.ref C_Rule) "lapse" = some none)
    (na_Rule_beat : PySem.W.findIn K (.ref C_Rule) "beat" = some none)
    (na_Rule_grace : PySem.W.findIn K (.ref C_Rule) "grace" = some none)
    (na_Rule_late : PySem.W.findIn K (.ref C_Rule) "late" = some none)
    (aC_SeatError : PySem.W.nsIn K mainGlobals "SeatError" = some (some (.ref C_SeatError)))
    (aC_InvalidDay : PySem.W.nsIn K mainGlobals "InvalidDay" = some (some (.ref C_InvalidDay)))
    (aC_InvalidFault : PySem.W.nsIn K mainGlobals "InvalidFault" = some (some (.ref C_InvalidFault)))
    (aC_InvalidRule : PySem.W.nsIn K mainGlobals "InvalidRule" = some (some (.ref C_InvalidRule)))
    (xL_InvalidFault : K.lookup C_InvalidFault = some (excClassObj nm_InvalidFault q_InvalidFault C_InvalidFault N_InvalidFault bs_InvalidFault [.ref C_SeatError, .type "ValueError", .type "Exception", .type "BaseException", .type "object"] true sn_InvalidFault sub_InvalidFault ab_InvalidFault col_InvalidFault dd_InvalidFault m0_InvalidFault m1_InvalidFault m2_InvalidFault m3_InvalidFault m5_InvalidFault "ValueError.__new__"))
    (sa_InvalidFault : PySem.W.findIn K (.ref C_InvalidFault) "__setattr__" = some (some (.builtin "object.__setattr__")))
    (ga_InvalidFault : PySem.W.findIn K (.ref C_InvalidFault) "__getattribute__" = some (some (.builtin "BaseException.__getattribute__")))
    (gg_InvalidFault : PySem.W.findIn K (.ref C_InvalidFault) "__getattr__" = some none)
    (kC_InvalidFault : PySem.W.keepIn K (.ref C_InvalidFault) = true)
    (eC_InvalidFault : PySem.W.subIn K (.ref C_InvalidFault) (.type "BaseException") = some true)
    (tC_InvalidFault : PySem.W.typeIn K (.ref C_InvalidFault) = some (.type "type"))
    (hC_InvalidFault : PySem.W.hasDictIn K C_InvalidFault = true)
    (ha_InvalidFault : PySem.W.findIn K (.ref C_InvalidFault) "__class__" = some (some (.builtin "object.__class__")))
    (hm_InvalidFault : PySem.W.mroIn K C_InvalidFault (.type "object") = some true)
    (sC_InvalidFault : PySem.W.subIn K (.ref C_InvalidFault) (.ref C_InvalidFault) = some true)
    (kit_InvalidFault_SeatError : PySem.W.kitOne K (.ref C_InvalidFault) (.ref C_SeatError) = some true)
    (kit_InvalidFault_InvalidRule : PySem.W.kitOne K (.ref C_InvalidFault) (.ref C_InvalidRule) = some false)
    (kit_InvalidFault_InvalidDay : PySem.W.kitOne K (.ref C_InvalidFault) (.ref C_InvalidDay) = some false)
    (hn_ : PySem.W.specialIn K (.builtin "object.__class__") "__get__" = some (some (.builtin "getset_descriptor.__get__")))
    (ht_ : PySem.W.takesIn K (.builtin "object.__class__") = some true)
    (a_is_integer_from : PySem.W.nsIn K mainGlobals "is_integer_from" = some (some (.ref f_is_integer_from)))
    (l_is_integer_from : K.lookup f_is_integer_from = some ⟨oc_is_integer_from, od_is_integer_from, .func (PySem.W.fnOf "is_integer_from" "is_integer_from" (defArgs s_is_integer_from) (defBody s_is_integer_from) (defScope s_is_integer_from) .none kV_is_integer_from dc_is_integer_from pm_is_integer_from an_is_integer_from cd_is_integer_from ct_is_integer_from), sl_is_integer_from⟩)
    (cI_is_integer_from : PySem.W.codeIn K cd_is_integer_from "is_integer_from" = true)
    (k_is_integer_from : PySem.W.keepIn K (.ref f_is_integer_from) = true)
    (a_is_sequence : PySem.W.nsIn K mainGlobals "is_sequence" = some (some (.ref f_is_sequence)))
    (l_is_sequence : K.lookup f_is_sequence = some ⟨oc_is_sequence, od_is_sequence, .func (PySem.W.fnOf "is_sequence" "is_sequence" (defArgs s_is_sequence) (defBody s_is_sequence) (defScope s_is_sequence) .none kV_is_sequence dc_is_sequence pm_is_sequence an_is_sequence cd_is_sequence ct_is_sequence), sl_is_sequence⟩)
    (cI_is_sequence : PySem.W.codeIn K cd_is_sequence "is_sequence" = true)
    (k_is_sequence : PySem.W.keepIn K (.ref f_is_sequence) = true)
    (a_InvalidFault_init : PySem.W.findIn K (.ref C_InvalidFault) "__init__" = some (some (.ref f_InvalidFault_init)))
    (t_InvalidFault_init : PySem.W.typeIn K (.ref f_InvalidFault_init) = some (.type "function"))
    (l_InvalidFault_init : K.lookup f_InvalidFault_init = some ⟨oc_InvalidFault_init, od_InvalidFault_init, .func (PySem.W.fnOf "__init__" "InvalidFault.__init__" (defArgs s_InvalidFault_init) (defBody s_InvalidFault_init) (defScope s_InvalidFault_init) .none kV_InvalidFault_init dc_InvalidFault_init pm_InvalidFault_init an_InvalidFault_init cd_InvalidFault_init ct_InvalidFault_init), sl_InvalidFault_init⟩)
    (cI_InvalidFault_init : PySem.W.codeIn K cd_InvalidFault_init "InvalidFault.__init__" = true)
    (k_InvalidFault_init : PySem.W.keepIn K (.ref f_InvalidFault_init) = true)
    (a_is_event : PySem.W.nsIn K mainGlobals "is_event" = some (some (.ref f_is_event)))
    (l_is_event : K.lookup f_is_event = some ⟨oc_is_event, od_is_event, .func (PySem.W.fnOf "is_event" "is_event" (defArgs s_is_event) (defBody s_is_event) (defScope s_is_event) .none kV_is_event dc_is_event pm_is_event an_is_event cd_is_event ct_is_event), sl_is_event⟩)
    (cI_is_event : PySem.W.codeIn K cd_is_event "is_event" = true)
    (k_is_event : PySem.W.keepIn K (.ref f_is_event) = true)
    (a_first_wrong_days : PySem.W.nsIn K mainGlobals "first_wrong_days" = some (some (.ref f_first_wrong_days)))
    (l_first_wrong_days : K.lookup f_first_wrong_days = some ⟨oc_first_wrong_days, od_first_wrong_days, .func (PySem.W.fnOf "first_wrong" "first_wrong" (defArgs s_first_wrong_days) (defBody s_first_wrong_days) (defScope s_first_wrong_days) .none kV_first_wrong_days dc_first_wrong_days pm_first_wrong_days an_first_wrong_days cd_first_wrong_days ct_first_wrong_days), sl_first_wrong_days⟩)
    (cI_first_wrong_days : PySem.W.codeIn K cd_first_wrong_days "first_wrong" = true)
    (k_first_wrong_days : PySem.W.keepIn K (.ref f_first_wrong_days) = true)
    (a_Day_init : PySem.W.findIn K (.ref C_Day) "__init__" = some (some (.ref f_Day_init)))
    (i_Day_init : PySem.W.isFn K (.ref f_Day_init) = true)
    (l_Day_init : K.lookup f_Day_init = some ⟨oc_Day_init, od_Day_init, .func (PySem.W.fnOf "__init__" "Day.__init__" (defArgs s_Day_init) (defBody s_Day_init) (defScope s_Day_init) (.ref Td_Day_init) kV_Day_init dc_Day_init pm_Day_init an_Day_init cd_Day_init ct_Day_init), sl_Day_init⟩)
    (cI_Day_init : PySem.W.codeIn K cd_Day_init "Day.__init__" = true)
    (k_Day_init : PySem.W.keepIn K (.ref f_Day_init) = true)
    (lT_Day_init : K.lookup Td_Day_init = some ⟨ocT_Day_init, odT_Day_init, .seq #[.ref Te_Day_init] mT_Day_init, slT_Day_init⟩)
    (lE_Day_init : K.lookup Te_Day_init = some ⟨.type "tuple", odE_Day_init, .seq #[] mE_Day_init, slE_Day_init⟩)
    (a_most_at_one_seat : PySem.W.nsIn K mainGlobals "most_at_one_seat" = some (some (.ref f_most_at_one_seat)))
    (l_most_at_one_seat : K.lookup f_most_at_one_seat = some ⟨oc_most_at_one_seat, od_most_at_one_seat, .func (PySem.W.fnOf "most_at_one_seat" "most_at_one_seat" (defArgs s_most_at_one_seat) (defBody s_most_at_one_seat) (defScope s_most_at_one_seat) .none kV_most_at_one_seat dc_most_at_one_seat pm_most_at_one_seat an_most_at_one_seat cd_most_at_one_seat ct_most_at_one_seat), sl_most_at_one_seat⟩)
    (cI_most_at_one_seat : PySem.W.codeIn K cd_most_at_one_seat "most_at_one_seat" = true)
    (k_most_at_one_seat : PySem.W.keepIn K (.ref f_most_at_one_seat) = true)
    (a_can_share : PySem.W.nsIn K mainGlobals "can_share" = some (some (.ref f_can_share)))
    (l_can_share : K.lookup f_can_share = some ⟨oc_can_share, od_can_share, .func (PySem.W.fnOf "can_share" "can_share" (defArgs s_can_share) (defBody s_can_share) (defScope s_can_share) .none kV_can_share dc_can_share pm_can_share an_can_share cd_can_share ct_can_share), sl_can_share⟩)
    (cI_can_share : PySem.W.codeIn K cd_can_share "can_share" = true)
    (k_can_share : PySem.W.keepIn K (.ref f_can_share) = true)
    (a_can_be_silent : PySem.W.nsIn K mainGlobals "can_be_silent" = some (some (.ref f_can_be_silent)))
    (l_can_be_silent : K.lookup f_can_be_silent = some ⟨oc_can_be_silent, od_can_be_silent, .func (PySem.W.fnOf "can_be_silent" "can_be_silent" (defArgs s_can_be_silent) (defBody s_can_be_silent) (defScope s_can_be_silent) .none kV_can_be_silent dc_can_be_silent pm_can_be_silent an_can_be_silent cd_can_be_silent ct_can_be_silent), sl_can_be_silent⟩)
    (cI_can_be_silent : PySem.W.codeIn K cd_can_be_silent "can_be_silent" = true)
    (k_can_be_silent : PySem.W.keepIn K (.ref f_can_be_silent) = true)
    (a_silent_borrow : PySem.W.nsIn K mainGlobals "silent_borrow" = some (some (.ref f_silent_borrow)))
    (l_silent_borrow : K.lookup f_silent_borrow = some ⟨oc_silent_borrow, od_silent_borrow, .func (PySem.W.fnOf "silent_borrow" "silent_borrow" (defArgs s_silent_borrow) (defBody s_silent_borrow) (defScope s_silent_borrow) .none kV_silent_borrow dc_silent_borrow pm_silent_borrow an_silent_borrow cd_silent_borrow ct_silent_borrow), sl_silent_borrow⟩)
    (cI_silent_borrow : PySem.W.codeIn K cd_silent_borrow "silent_borrow" = true)
    (k_silent_borrow : PySem.W.keepIn K (.ref f_silent_borrow) = true)
    (a_over_plan : PySem.W.nsIn K mainGlobals "over_plan" = some (some (.ref f_over_plan)))
    (l_over_plan : K.lookup f_over_plan = some ⟨oc_over_plan, od_over_plan, .func (PySem.W.fnOf "over_plan" "over_plan" (defArgs s_over_plan) (defBody s_over_plan) (defScope s_over_plan) .none kV_over_plan dc_over_plan pm_over_plan an_over_plan cd_over_plan ct_over_plan), sl_over_plan⟩)
    (cI_over_plan : PySem.W.codeIn K cd_over_plan "over_plan" = true)
    (k_over_plan : PySem.W.keepIn K (.ref f_over_plan) = true)
    (a_taken_plan : PySem.W.nsIn K mainGlobals "taken_plan" = some (some (.ref f_taken_plan)))
    (l_taken_plan : K.lookup f_taken_plan = some ⟨oc_taken_plan, od_taken_plan, .func (PySem.W.fnOf "taken_plan" "taken_plan" (defArgs s_taken_plan) (defBody s_taken_plan) (defScope s_taken_plan) .none kV_taken_plan dc_taken_plan pm_taken_plan an_taken_plan cd_taken_plan ct_taken_plan), sl_taken_plan⟩)
    (cI_taken_plan : PySem.W.codeIn K cd_taken_plan "taken_plan" = true)
    (k_taken_plan : PySem.W.keepIn K (.ref f_taken_plan) = true)
    (a_twice_plan : PySem.W.nsIn K mainGlobals "twice_plan" = some (some (.ref f_twice_plan)))
    (l_twice_plan : K.lookup f_twice_plan = some ⟨oc_twice_plan, od_twice_plan, .func (PySem.W.fnOf "twice_plan" "twice_plan" (defArgs s_twice_plan) (defBody s_twice_plan) (defScope s_twice_plan) .none kV_twice_plan dc_twice_plan pm_twice_plan an_twice_plan cd_twice_plan ct_twice_plan), sl_twice_plan⟩)
    (cI_twice_plan : PySem.W.codeIn K cd_twice_plan "twice_plan" = true)
    (k_twice_plan : PySem.W.keepIn K (.ref f_twice_plan) = true)
    (a_waits_plan : PySem.W.nsIn K mainGlobals "waits_plan" = some (some (.ref f_waits_plan)))
    (l_waits_plan : K.lookup f_waits_plan = some ⟨oc_waits_plan, od_waits_plan, .func (PySem.W.fnOf "waits_plan" "waits_plan" (defArgs s_waits_plan) (defBody s_waits_plan) (defScope s_waits_plan) .none kV_waits_plan dc_waits_plan pm_waits_plan an_waits_plan cd_waits_plan ct_waits_plan), sl_waits_plan⟩)
    (cI_waits_plan : PySem.W.codeIn K cd_waits_plan "waits_plan" = true)
    (k_waits_plan : PySem.W.keepIn K (.ref f_waits_plan) = true)
    (a_plan : PySem.W.nsIn K mainGlobals "plan" = some (some (.ref f_plan)))
    (l_plan : K.lookup f_plan = some ⟨oc_plan, od_plan, .func (PySem.W.fnOf "plan" "plan" (defArgs s_plan) (defBody s_plan) (defScope s_plan) .none kV_plan dc_plan pm_plan an_plan cd_plan ct_plan), sl_plan⟩)
    (cI_plan : PySem.W.codeIn K cd_plan "plan" = true)
    (k_plan : PySem.W.keepIn K (.ref f_plan) = true)
    (a_happens : PySem.W.nsIn K mainGlobals "happens" = some (some (.ref f_happens)))
    (l_happens : K.lookup f_happens = some ⟨oc_happens, od_happens, .func (PySem.W.fnOf "happens" "happens" (defArgs s_happens) (defBody s_happens) (defScope s_happens) .none kV_happens dc_happens pm_happens an_happens cd_happens ct_happens), sl_happens⟩)
    (cI_happens : PySem.W.codeIn K cd_happens "happens" = true)
    (k_happens : PySem.W.keepIn K (.ref f_happens) = true)
    (a_least_events : PySem.W.nsIn K mainGlobals "least_events" = some (some (.ref f_least_events)))
    (l_least_events : K.lookup f_least_events = some ⟨oc_least_events, od_least_events, .func (PySem.W.fnOf "least_events" "least_events" (defArgs s_least_events) (defBody s_least_events) (defScope s_least_events) .none kV_least_events dc_least_events pm_least_events an_least_events cd_least_events ct_least_events), sl_least_events⟩)
    (cI_least_events : PySem.W.codeIn K cd_least_events "least_events" = true)
    (k_least_events : PySem.W.keepIn K (.ref f_least_events) = true)
    (a_day : PySem.W.nsIn K mainGlobals "day" = some (some (.ref f_day)))
    (l_day : K.lookup f_day = some ⟨oc_day, od_day, .func (PySem.W.fnOf "day" "day" (defArgs s_day) (defBody s_day) (defScope s_day) .none kV_day dc_day pm_day an_day cd_day ct_day), sl_day⟩)
    (cI_day : PySem.W.codeIn K cd_day "day" = true)
    (k_day : PySem.W.keepIn K (.ref f_day) = true)
    (a_is_number_for : PySem.W.nsIn K mainGlobals "is_number_for" = some (some (.ref f_is_number_for)))
    (l_is_number_for : K.lookup f_is_number_for = some ⟨oc_is_number_for, od_is_number_for, .func (PySem.W.fnOf "is_number_for" "is_number_for" (defArgs s_is_number_for) (defBody s_is_number_for) (defScope s_is_number_for) .none kV_is_number_for dc_is_number_for pm_is_number_for an_is_number_for cd_is_number_for ct_is_number_for), sl_is_number_for⟩)
    (cI_is_number_for : PySem.W.codeIn K cd_is_number_for "is_number_for" = true)
    (k_is_number_for : PySem.W.keepIn K (.ref f_is_number_for) = true)
    (a_Rule_init : PySem.W.findIn K (.ref C_Rule) "__init__" = some (some (.ref f_Rule_init)))
    (i_Rule_init : PySem.W.isFn K (.ref f_Rule_init) = true)
    (l_Rule_init : K.lookup f_Rule_init = some ⟨oc_Rule_init, od_Rule_init, .func (PySem.W.fnOf "__init__" "Rule.__init__" (defArgs s_Rule_init) (defBody s_Rule_init) (defScope s_Rule_init) (.ref Td_Rule_init) kV_Rule_init dc_Rule_init pm_Rule_init an_Rule_init cd_Rule_init ct_Rule_init), sl_Rule_init⟩)
    (cI_Rule_init : PySem.W.codeIn K cd_Rule_init "Rule.__init__" = true)
    (k_Rule_init : PySem.W.keepIn K (.ref f_Rule_init) = true)
    (lT_Rule_init : K.lookup Td_Rule_init = some ⟨ocT_Rule_init, odT_Rule_init, .seq #[.int 0 t0_Rule_init] mT_Rule_init, slT_Rule_init⟩)
    (a_Rule_eq : PySem.W.findIn K (.ref C_Rule) "__eq__" = some (some (.ref f_Rule_eq)))
    (i_Rule_eq : PySem.W.isFn K (.ref f_Rule_eq) = true)
    (ne_Rule : PySem.W.findIn K (.ref C_Rule) "__ne__" = some (some (.builtin "object.__ne__")))
    (l_Rule_eq : K.lookup f_Rule_eq = some ⟨oc_Rule_eq, od_Rule_eq, .func (PySem.W.fnOf "__eq__" "Rule.__eq__" (defArgs s_Rule_eq) (defBody s_Rule_eq) (defScope s_Rule_eq) .none kV_Rule_eq dc_Rule_eq pm_Rule_eq an_Rule_eq cd_Rule_eq ct_Rule_eq), sl_Rule_eq⟩)
    (cI_Rule_eq : PySem.W.codeIn K cd_Rule_eq "Rule.__eq__" = true)
    (k_Rule_eq : PySem.W.keepIn K (.ref f_Rule_eq) = true)
    (a_Rule_str : PySem.W.findIn K (.ref C_Rule) "__str__" = some (some (.ref f_Rule_str)))
    (i_Rule_str : PySem.W.isFn K (.ref f_Rule_str) = true)
    (l_Rule_str : K.lookup f_Rule_str = some ⟨oc_Rule_str, od_Rule_str, .func (PySem.W.fnOf "__str__" "Rule.__str__" (defArgs s_Rule_str) (defBody s_Rule_str) (defScope s_Rule_str) .none kV_Rule_str dc_Rule_str pm_Rule_str an_Rule_str cd_Rule_str ct_Rule_str), sl_Rule_str⟩)
    (cI_Rule_str : PySem.W.codeIn K cd_Rule_str "Rule.__str__" = true)
    (k_Rule_str : PySem.W.keepIn K (.ref f_Rule_str) = true)
    (a_l_any : PySem.W.nsIn K mainGlobals "_law_any" = some (some (.ref f_l_any)))
    (l_l_any : K.lookup f_l_any = some ⟨oc_l_any, od_l_any, .func (PySem.W.fnOf "_law_any" "_law_any" (defArgs s_l_any) (defBody s_l_any) (defScope s_l_any) .none kV_l_any dc_l_any pm_l_any an_l_any cd_l_any ct_l_any), sl_l_any⟩)
    (cI_l_any : PySem.W.codeIn K cd_l_any "_law_any" = true)
    (k_l_any : PySem.W.keepIn K (.ref f_l_any) = true)
    (a_l_heard : PySem.W.nsIn K mainGlobals "_law_heard" = some (some (.ref f_l_heard)))
    (l_l_heard : K.lookup f_l_heard = some ⟨oc_l_heard, od_l_heard, .func (PySem.W.fnOf "_law_heard" "_law_heard" (defArgs s_l_heard) (defBody s_l_heard) (defScope s_l_heard) .none kV_l_heard dc_l_heard pm_l_heard an_l_heard cd_l_heard ct_l_heard), sl_l_heard⟩)
    (cI_l_heard : PySem.W.codeIn K cd_l_heard "_law_heard" = true)
    (k_l_heard : PySem.W.keepIn K (.ref f_l_heard) = true)
    (a_l_deal : PySem.W.nsIn K mainGlobals "_law_deal" = some (some (.ref f_l_deal)))
    (l_l_deal : K.lookup f_l_deal = some ⟨oc_l_deal, od_l_deal, .func (PySem.W.fnOf "_law_deal" "_law_deal" (defArgs s_l_deal) (defBody s_l_deal) (defScope s_l_deal) .none kV_l_deal dc_l_deal pm_l_deal an_l_deal cd_l_deal ct_l_deal), sl_l_deal⟩)
    (cI_l_deal : PySem.W.codeIn K cd_l_deal "_law_deal" = true)
    (k_l_deal : PySem.W.keepIn K (.ref f_l_deal) = true)
    (a_l_draw : PySem.W.nsIn K mainGlobals "_law_draw" = some (some (.ref f_l_draw)))
    (l_l_draw : K.lookup f_l_draw = some ⟨oc_l_draw, od_l_draw, .func (PySem.W.fnOf "_law_draw" "_law_draw" (defArgs s_l_draw) (defBody s_l_draw) (defScope s_l_draw) .none kV_l_draw dc_l_draw pm_l_draw an_l_draw cd_l_draw ct_l_draw), sl_l_draw⟩)
    (cI_l_draw : PySem.W.codeIn K cd_l_draw "_law_draw" = true)
    (k_l_draw : PySem.W.keepIn K (.ref f_l_draw) = true)
    (a_l_pick : PySem.W.nsIn K mainGlobals "_law_pick" = some (some (.ref f_l_pick)))
    (l_l_pick : K.lookup f_l_pick = some ⟨oc_l_pick, od_l_pick, .func (PySem.W.fnOf "_law_pick" "_law_pick" (defArgs s_l_pick) (defBody s_l_pick) (defScope s_l_pick) .none kV_l_pick dc_l_pick pm_l_pick an_l_pick cd_l_pick ct_l_pick), sl_l_pick⟩)
    (cI_l_pick : PySem.W.codeIn K cd_l_pick "_law_pick" = true)
    (k_l_pick : PySem.W.keepIn K (.ref f_l_pick) = true)
    (a_l_numbers : PySem.W.nsIn K mainGlobals "_law_numbers" = some (some (.ref f_l_numbers)))
    (l_l_numbers : K.lookup f_l_numbers = some ⟨oc_l_numbers, od_l_numbers, .func (PySem.W.fnOf "_law_numbers" "_law_numbers" (defArgs s_l_numbers) (defBody s_l_numbers) (defScope s_l_numbers) .none kV_l_numbers dc_l_numbers pm_l_numbers an_l_numbers cd_l_numbers ct_l_numbers), sl_l_numbers⟩)
    (cI_l_numbers : PySem.W.codeIn K cd_l_numbers "_law_numbers" = true)
    (k_l_numbers : PySem.W.keepIn K (.ref f_l_numbers) = true)
    (a_l_rule : PySem.W.nsIn K mainGlobals "_law_rule" = some (some (.ref f_l_rule)))
    (l_l_rule : K.lookup f_l_rule = some ⟨oc_l_rule, od_l_rule, .func (PySem.W.fnOf "_law_rule" "_law_rule" (defArgs s_l_rule) (defBody s_l_rule) (defScope s_l_rule) .none kV_l_rule dc_l_rule pm_l_rule an_l_rule cd_l_rule ct_l_rule), sl_l_rule⟩)
    (cI_l_rule : PySem.W.codeIn K cd_l_rule "_law_rule" = true)
    (k_l_rule : PySem.W.keepIn K (.ref f_l_rule) = true)
    (a_law : PySem.W.nsIn K mainGlobals "law" = some (some (.ref f_law)))
    (l_law : K.lookup f_law = some ⟨oc_law, od_law, .func (PySem.W.fnOf "law" "law" (defArgs s_law) (defBody s_law) (defScope s_law) .none kV_law dc_law pm_law an_law cd_law ct_law), sl_law⟩)
    (cI_law : PySem.W.codeIn K cd_law "law" = true)
    (k_law : PySem.W.keepIn K (.ref f_law) = true)
    (z_range : PySem.W.nsIn K mainGlobals "range" = some none)
    (z_max : PySem.W.nsIn K mainGlobals "max" = some none)
    (z_min : PySem.W.nsIn K mainGlobals "min" = some none)
    (z_len : PySem.W.nsIn K mainGlobals "len" = some none)
    (z_isinstance : PySem.W.nsIn K mainGlobals "isinstance" = some none)
    (z_str : PySem.W.nsIn K mainGlobals "str" = some none)
    (z_abs : PySem.W.nsIn K mainGlobals "abs" = some none)
    (z_int : PySem.W.nsIn K mainGlobals "int" = some none)
    (z_tuple : PySem.W.nsIn K mainGlobals "tuple" = some none)
    (z_zip : PySem.W.nsIn K mainGlobals "zip" = some none)
    (z_bool : PySem.W.nsIn K mainGlobals "bool" = some none)
    (z_enumerate : PySem.W.nsIn K mainGlobals "enumerate" = some none)
    (z_list : PySem.W.nsIn K mainGlobals "list" = some none)
    (gc_WORDS : PySem.W.nsIn K mainGlobals "WORDS" = some (some (.ref a_WORDS)))
    (lC_WORDS : K.lookup a_WORDS = some ⟨.type "tuple", odC_WORDS, .seq #[.str "seats" tc0_WORDS, .str "lapse" tc1_WORDS, .str "beat" tc2_WORDS, .str "grace" tc3_WORDS, .str "late" tc4_WORDS] mC_WORDS, slC_WORDS⟩)
    (gc_PASS : PySem.W.nsIn K mainGlobals "PASS" = some (some (.ref a_PASS)))
    (lC_PASS : K.lookup a_PASS = some ⟨.type "tuple", odC_PASS, .seq #[.str "pass" tc0_PASS] mC_PASS, slC_PASS⟩)
    (gc_FAULTS : PySem.W.nsIn K mainGlobals "FAULTS" = some (some (.ref a_FAULTS)))
    (lC_FAULTS : K.lookup a_FAULTS = some ⟨.type "tuple", odC_FAULTS, .seq #[.str "over" tc0_FAULTS, .str "taken" tc1_FAULTS, .str "twice" tc2_FAULTS, .str "waits" tc3_FAULTS] mC_FAULTS, slC_FAULTS⟩)
    (gc_PLANS : PySem.W.nsIn K mainGlobals "PLANS" = some (some (.ref a_PLANS)))
    (lC_PLANS : K.lookup a_PLANS = some ⟨.type "dict", none, .dict es_PLANS nD_PLANS, #[]⟩)
    (kl_PLANS : PySem.W.KeysLit w.params es_PLANS.toList)
    (nd_PLANS_over : PySem.W.nsIn K a_PLANS "over" = some (some (.ref f_over_plan)))
    (nd_PLANS_taken : PySem.W.nsIn K a_PLANS "taken" = some (some (.ref f_taken_plan)))
    (nd_PLANS_twice : PySem.W.nsIn K a_PLANS "twice" = some (some (.ref f_twice_plan)))
    (nd_PLANS_waits : PySem.W.nsIn K a_PLANS "waits" = some (some (.ref f_waits_plan)))
    (gc_USER_WORDS : PySem.W.nsIn K mainGlobals "USER_WORDS" = some (some (.ref a_USER_WORDS)))
    (lC_USER_WORDS : K.lookup a_USER_WORDS = some ⟨.type "tuple", odC_USER_WORDS, .seq #[.str "borrow" tc0_USER_WORDS, .str "word" tc1_USER_WORDS, .str "back" tc2_USER_WORDS, .str "crash" tc3_USER_WORDS, .str "stop" tc4_USER_WORDS, .str "cut" tc5_USER_WORDS, .str "join" tc6_USER_WORDS] mC_USER_WORDS, slC_USER_WORDS⟩)
    (x_kRs : PySem.W.kitOne K (.ref C_Rule) (.type "str") = some false)
    (x_ksR : PySem.W.kitOne K (.type "str") (.ref C_Rule) = some false)
    (x_sb_Rule : PySem.W.subIn K (.ref C_Rule) (.type "str") = some false) :
    ∃ fd : FuncData, (∀ (s : Shared) (v : Value), BindsTo s fd ⟨[v], []⟩ [("_law_script", v)]) ∧ ∀ base : Heap, K.In base → base.Ns mainGlobals mg → FnG l.prog w K mg base CX0 26 fa fd ["_law_script"] (spLaw K) := by
  have e := hfa.symm.trans (PySem.W.mg_of X G a_law)
  cases e
  have F_is_integer_from := fun_mk (st := s_is_integer_from) l_is_integer_from cI_is_integer_from k_is_integer_from
  have b_is_integer_from := F_is_integer_from.binds (ps := ["value", "least"]) fun _ _ _ _ _ _ us hl => match us, hl with | [_, _], _ => rfl
  have F_is_sequence := fun_mk (st := s_is_sequence) l_is_sequence cI_is_sequence k_is_sequence
  have b_is_sequence := F_is_sequence.binds (ps := ["value"]) fun _ _ _ _ _ _ us hl => match us, hl with | [_], _ => rfl
  have F_InvalidFault_init := fun_mk (st := s_InvalidFault_init) l_InvalidFault_init cI_InvalidFault_init k_InvalidFault_init
  have b_InvalidFault_init := F_InvalidFault_init.binds (ps := ["self"]) fun _ _ _ _ _ _ us hl => match us, hl with | [_], _ => rfl
  have F_is_event := fun_mk (st := s_is_event) l_is_event cI_is_event k_is_event
  have b_is_event := F_is_event.binds (ps := ["value"]) fun _ _ _ _ _ _ us hl => match us, hl with | [_], _ => rfl
  have F_first_wrong_days := fun_mk (st := s_first_wrong_days) l_first_wrong_days cI_first_wrong_days k_first_wrong_days
  have b_first_wrong_days := F_first_wrong_days.binds (ps := ["values"]) fun _ _ _ _ _ _ us hl => match us, hl with | [_], _ => rfl
  have F_Day_init : FunD K "__init__" "Day.__init__" (defArgs s_Day_init) (defBody s_Day_init) (defScope s_Day_init) [.ref Te_Day_init] [] f_Day_init (PySem.W.fnOf "__init__" "Day.__init__" (defArgs s_Day_init) (defBody s_Day_init) (defScope s_Day_init) (.ref Td_Day_init) kV_Day_init dc_Day_init pm_Day_init an_Day_init cd_Day_init ct_Day_init) := ⟨⟨_, _, _, _, _, _, _, _, _, _, rfl, l_Day_init, cI_Day_init, .inr ⟨by simp, Td_Day_init, _, [.ref Te_Day_init], mT_Day_init, rfl, lT_Day_init, rfl, .cons rfl .nil⟩, .inl rfl⟩, k_Day_init⟩
  have bd_Day_init := F_Day_init.binds1 (ps := ["self", "events"]) 1 0 (by simp) rfl (fun _ _ _ _ _ _ _ us its hl ht => match us, its, hl, ht with | [_], [_], _, _ => ⟨_, rfl, rfl⟩)
  have b_Day_init := b6_of (F_Day_init.binds1 (ps := ["self", "events"]) 2 1 (by simp) rfl (fun _ _ _ _ _ _ _ us its hl ht => match us, its, hl, ht with | [_, _], [_], _, _ => ⟨_, rfl, rfl⟩))
  have F_most_at_one_seat := fun_mk (st := s_most_at_one_seat) l_most_at_one_seat cI_most_at_one_seat k_most_at_one_seat
  have b_most_at_one_seat := F_most_at_one_seat.binds (ps := ["rule"]) fun _ _ _ _ _ _ us hl => match us, hl with | [_], _ => rfl
  have F_can_share := fun_mk (st := s_can_share) l_can_share cI_can_share k_can_share
  have b_can_share := F_can_share.binds (ps := ["rule"]) fun _ _ _ _ _ _ us hl => match us, hl with | [_], _ => rfl
  have F_can_be_silent := fun_mk (st := s_can_be_silent) l_can_be_silent cI_can_be_silent k_can_be_silent
  have b_can_be_silent := F_can_be_silent.binds (ps := ["rule"]) fun _ _ _ _ _ _ us hl => match us, hl with | [_], _ => rfl
  have F_silent_borrow := fun_mk (st := s_silent_borrow) l_silent_borrow cI_silent_borrow k_silent_borrow
  have b_silent_borrow := F_silent_borrow.binds (ps := ["rule"]) fun _ _ _ _ _ _ us hl => match us, hl with | [_], _ => rfl
  have F_over_plan := fun_mk (st := s_over_plan) l_over_plan cI_over_plan k_over_plan
  have b_over_plan := F_over_plan.binds (ps := ["rule", "users"]) fun _ _ _ _ _ _ us hl => match us, hl with | [_, _], _ => rfl
  have F_taken_plan := fun_mk (st := s_taken_plan) l_taken_plan cI_taken_plan k_taken_plan
  have b_taken_plan := F_taken_plan.binds (ps := ["rule", "users"]) fun _ _ _ _ _ _ us hl => match us, hl with | [_, _], _ => rfl
  have F_twice_plan := fun_mk (st := s_twice_plan) l_twice_plan cI_twice_plan k_twice_plan
  have b_twice_plan := F_twice_plan.binds (ps := ["rule", "users"]) fun _ _ _ _ _ _ us hl => match us, hl with | [_, _], _ => rfl
  have F_waits_plan := fun_mk (st := s_waits_plan) l_waits_plan cI_waits_plan k_waits_plan
  have b_waits_plan := F_waits_plan.binds (ps := ["rule", "users"]) fun _ _ _ _ _ _ us hl => match us, hl with | [_, _], _ => rfl
  have F_plan := fun_mk (st := s_plan) l_plan cI_plan k_plan
  have b_plan := F_plan.binds (ps := ["rule", "users", "fault"]) fun _ _ _ _ _ _ us hl => match us, hl with | [_, _, _], _ => rfl
  have F_happens := fun_mk (st := s_happens) l_happens cI_happens k_happens
  have b_happens := F_happens.binds (ps := ["rule", "users", "fault"]) fun _ _ _ _ _ _ us hl => match us, hl with | [_, _, _], _ => rfl
  have F_least_events := fun_mk (st := s_least_events) l_least_events cI_least_events k_least_events
  have b_least_events := F_least_events.binds (ps := ["rule", "users", "fault"]) fun _ _ _ _ _ _ us hl => match us, hl with | [_, _, _], _ => rfl
  have F_day := fun_mk (st := s_day) l_day cI_day k_day
  have b_day := F_day.binds (ps := ["rule", "users", "fault"]) fun _ _ _ _ _ _ us hl => match us, hl with | [_, _, _], _ => rfl
  have F_is_number_for := fun_mk (st := s_is_number_for) l_is_number_for cI_is_number_for k_is_number_for
  have b_is_number_for := F_is_number_for.binds (ps := ["word", "number"]) fun _ _ _ _ _ _ us hl => match us, hl with | [_, _], _ => rfl
  have F_Rule_init : FunD K "__init__" "Rule.__init__" (defArgs s_Rule_init) (defBody s_Rule_init) (defScope s_Rule_init) [.int 0] [] f_Rule_init (PySem.W.fnOf "__init__" "Rule.__init__" (defArgs s_Rule_init) (defBody s_Rule_init) (defScope s_Rule_init) (.ref Td_Rule_init) kV_Rule_init dc_Rule_init pm_Rule_init an_Rule_init cd_Rule_init ct_Rule_init) := ⟨⟨_, _, _, _, _, _, _, _, _, _, rfl, l_Rule_init, cI_Rule_init, .inr ⟨by simp, Td_Rule_init, _, [.int 0 t0_Rule_init], mT_Rule_init, rfl, lT_Rule_init, rfl, .cons ⟨_, rfl⟩ .nil⟩, .inl rfl⟩, k_Rule_init⟩
  have bd_Rule_init := F_Rule_init.binds1 (ps := ["self", "seats", "lapse", "beat", "grace", "late"]) 5 0 (by simp) rfl (fun _ _ _ _ _ _ _ us its hl ht => match us, its, hl, ht with | [_, _, _, _, _], [_], _, _ => ⟨_, rfl, rfl⟩)
  have b_Rule_init := b6_of (F_Rule_init.binds1 (ps := ["self", "seats", "lapse", "beat", "grace", "late"]) 6 1 (by simp) rfl (fun _ _ _ _ _ _ _ us its hl ht => match us, its, hl, ht with | [_, _, _, _, _, _], [_], _, _ => ⟨_, rfl, rfl⟩))
  have F_Rule_eq := fun_mk (st := s_Rule_eq) l_Rule_eq cI_Rule_eq k_Rule_eq
  have b_Rule_eq := F_Rule_eq.binds (ps := ["self", "other"]) fun _ _ _ _ _ _ us hl => match us, hl with | [_, _], _ => rfl
  have F_Rule_str := fun_mk (st := s_Rule_str) l_Rule_str cI_Rule_str k_Rule_str
  have b_Rule_str := F_Rule_str.binds (ps := ["self"]) fun _ _ _ _ _ _ us hl => match us, hl with | [_], _ => rfl
  have F_l_any := fun_mk (st := s_l_any) l_l_any cI_l_any k_l_any
  have b_l_any := F_l_any.binds (ps := ["_law_deal_here", "_law_deep", "_law_rule_here"]) fun _ _ _ _ _ _ us hl => match us, hl with | [_, _, _], _ => rfl
  have F_l_heard := fun_mk (st := s_l_heard) l_l_heard cI_l_heard k_l_heard
  have b_l_heard := F_l_heard.binds (ps := ["_law_form", "_law_rule_here", "_law_value"]) fun _ _ _ _ _ _ us hl => match us, hl with | [_, _, _], _ => rfl
  have F_l_deal := fun_mk (st := s_l_deal) l_l_deal cI_l_deal k_l_deal
  have b_l_deal := F_l_deal.binds (ps := ["_law_script", "_law_base"]) fun _ _ _ _ _ _ us hl => match us, hl with | [_, _], _ => rfl
  have F_l_draw := fun_mk (st := s_l_draw) l_l_draw cI_l_draw k_l_draw
  have b_l_draw := F_l_draw.binds (ps := ["_law_deal_here", "_law_bound"]) fun _ _ _ _ _ _ us hl => match us, hl with | [_, _], _ => rfl
  have F_l_pick := fun_mk (st := s_l_pick) l_l_pick cI_l_pick k_l_pick
  have b_l_pick := F_l_pick.binds (ps := ["_law_deal_here", "_law_some"]) fun _ _ _ _ _ _ us hl => match us, hl with | [_, _], _ => rfl
  have F_l_numbers := fun_mk (st := s_l_numbers) l_l_numbers cI_l_numbers k_l_numbers
  have b_l_numbers := F_l_numbers.binds (ps := ["_law_deal_here", "_law_seats", "_law_wide"]) fun _ _ _ _ _ _ us hl => match us, hl with | [_, _, _], _ => rfl
  have F_l_rule := fun_mk (st := s_l_rule) l_l_rule cI_l_rule k_l_rule
  have b_l_rule := F_l_rule.binds (ps := ["_law_numbers_here"]) fun _ _ _ _ _ _ us hl => match us, hl with | [_], _ => rfl
  have F_law := fun_mk (st := s_law) l_law cI_law k_law
  have b_law := F_law.binds (ps := ["_law_script"]) fun _ _ _ _ _ _ us hl => match us, hl with | [_], _ => rfl
  exact ⟨PySem.W.fnOf "law" "law" (defArgs s_law) (defBody s_law) (defScope s_law) .none kV_law dc_law pm_law an_law cd_law ct_law, fun s v => .of_eq rfl, fun base _ _ => G_law l.prog w base ({
    range := PySem.W.mg_none_of X G z_range
    max := PySem.W.mg_none_of X G z_max
    min := PySem.W.mg_none_of X G z_min
    len := PySem.W.mg_none_of X G z_len
    isinstance := PySem.W.mg_none_of X G z_isinstance
    str := PySem.W.mg_none_of X G z_str
    abs := PySem.W.mg_none_of X G z_abs
    int := PySem.W.mg_none_of X G z_int
    tuple := PySem.W.mg_none_of X G z_tuple
    zip := PySem.W.mg_none_of X G z_zip
    bool := PySem.W.mg_none_of X G z_bool
    enumerate := PySem.W.mg_none_of X G z_enumerate
    list := PySem.W.mg_none_of X G z_list
    C_Day := C_Day
    c_Day := ⟨PySem.W.mg_of X G aC_Day, ⟨pg_Day, hd_Day, po_Day, sa_Day⟩, ha_Day, hn_, ht_, hm_Day⟩
    na_Day_events := na_Day_events
    C_Rule := C_Rule
    c_Rule := ⟨PySem.W.mg_of X G aC_Rule, ⟨pg_Rule, hd_Rule, po_Rule, sa_Rule⟩, ha_Rule, hn_, ht_, hm_Rule⟩
    na_Rule_seats := na_Rule_seats
    na_Rule_lapse := na_Rule_lapse
    na_Rule_beat := na_Rule_beat
    na_Rule_grace := na_Rule_grace
    na_Rule_late := na_Rule_late
    C_SeatError := C_SeatError
    ge_SeatError := PySem.W.mg_of X G aC_SeatError
    C_InvalidDay := C_InvalidDay
    ge_InvalidDay := PySem.W.mg_of X G aC_InvalidDay
    C_InvalidFault := C_InvalidFault
    ge_InvalidFault := PySem.W.mg_of X G aC_InvalidFault
    C_InvalidRule := C_InvalidRule
    ge_InvalidRule := PySem.W.mg_of X G aC_InvalidRule
    xo_InvalidFault := ⟨⟨nm_InvalidFault, q_InvalidFault, N_InvalidFault, bs_InvalidFault, _, sn_InvalidFault, sub_InvalidFault, ab_InvalidFault, col_InvalidFault, dd_InvalidFault, m0_InvalidFault, m1_InvalidFault, m2_InvalidFault, m3_InvalidFault, m5_InvalidFault, xL_InvalidFault, by show PySem.HandSPX.refsVE PySem.HandSPX.veTail = true; decide +kernel⟩, sa_InvalidFault, eC_InvalidFault, tC_InvalidFault, kC_InvalidFault⟩
    xf_InvalidFault := ⟨ga_InvalidFault, gg_InvalidFault, eC_InvalidFault, hC_InvalidFault⟩
    xc_InvalidFault := ⟨ga_InvalidFault, gg_InvalidFault, eC_InvalidFault, hC_InvalidFault, ha_InvalidFault, hn_, ht_, hm_InvalidFault⟩
    xm_InvalidFault := PySem.W.exm_ref eC_InvalidFault hC_InvalidFault tC_InvalidFault sC_InvalidFault
    xi_InvalidFault := a_InvalidFault_init
    xt_InvalidFault := t_InvalidFault_init
    kit_InvalidFault_SeatError := kit_InvalidFault_SeatError
    kit_InvalidFault_InvalidRule := kit_InvalidFault_InvalidRule
    kit_InvalidFault_InvalidDay := kit_InvalidFault_InvalidDay
    f_is_integer_from := f_is_integer_from
    d_is_integer_from := _
    F_is_integer_from := F_is_integer_from
    b_is_integer_from := b_is_integer_from
    g_is_integer_from := PySem.W.mg_of X G a_is_integer_from
    f_is_sequence := f_is_sequence
    d_is_sequence := _
    F_is_sequence := F_is_sequence
    b_is_sequence := b_is_sequence
    g_is_sequence := PySem.W.mg_of X G a_is_sequence
    f_InvalidFault_init := f_InvalidFault_init
    d_InvalidFault_init := _
    F_InvalidFault_init := F_InvalidFault_init
    b_InvalidFault_init := b_InvalidFault_init
    f_is_event := f_is_event
    d_is_event := _
    F_is_event := F_is_event
    b_is_event := b_is_event
    g_is_event := PySem.W.mg_of X G a_is_event
    f_first_wrong_days := f_first_wrong_days
    d_first_wrong_days := _
    F_first_wrong_days := F_first_wrong_days
    b_first_wrong_days := b_first_wrong_days
    g_first_wrong_days := PySem.W.mg_of X G a_first_wrong_days
    f_Day_init := f_Day_init
    d_Day_init := _
    F_Day_init := F_Day_init
    b_Day_init := b_Day_init
    e_Day_init := Te_Day_init
    el_Day_init := ⟨_, lE_Day_init, rfl⟩
    es_Day_init := fun _ => .inr ⟨_, _, _, lE_Day_init, rfl, rfl, Nat.le_of_ble_eq_true rfl, .nil⟩
    bd_Day_init := bd_Day_init
    mk_Day := ⟨mk_Day, a_Day_init, i_Day_init, kc_Day⟩
    f_most_at_one_seat := f_most_at_one_seat
    d_most_at_one_seat := _
    F_most_at_one_seat := F_most_at_one_seat
    b_most_at_one_seat := b_most_at_one_seat
    g_most_at_one_seat := PySem.W.mg_of X G a_most_at_one_seat
    f_can_share := f_can_share
    d_can_share := _
    F_can_share := F_can_share
    b_can_share := b_can_share
    g_can_share := PySem.W.mg_of X G a_can_share
    f_can_be_silent := f_can_be_silent
    d_can_be_silent := _
    F_can_be_silent := F_can_be_silent
    b_can_be_silent := b_can_be_silent
    g_can_be_silent := PySem.W.mg_of X G a_can_be_silent
    f_silent_borrow := f_silent_borrow
    d_silent_borrow := _
    F_silent_borrow := F_silent_borrow
    b_silent_borrow := b_silent_borrow
    g_silent_borrow := PySem.W.mg_of X G a_silent_borrow
    f_over_plan := f_over_plan
    d_over_plan := _
    F_over_plan := F_over_plan
    b_over_plan := b_over_plan
    g_over_plan := PySem.W.mg_of X G a_over_plan
    f_taken_plan := f_taken_plan
    d_taken_plan := _
    F_taken_plan := F_taken_plan
    b_taken_plan := b_taken_plan
    g_taken_plan := PySem.W.mg_of X G a_taken_plan
    f_twice_plan := f_twice_plan
    d_twice_plan := _
    F_twice_plan := F_twice_plan
    b_twice_plan := b_twice_plan
    g_twice_plan := PySem.W.mg_of X G a_twice_plan
    f_waits_plan := f_waits_plan
    d_waits_plan := _
    F_waits_plan := F_waits_plan
    b_waits_plan := b_waits_plan
    g_waits_plan := PySem.W.mg_of X G a_waits_plan
    f_plan := f_plan
    d_plan := _
    F_plan := F_plan
    b_plan := b_plan
    g_plan := PySem.W.mg_of X G a_plan
    f_happens := f_happens
    d_happens := _
    F_happens := F_happens
    b_happens := b_happens
    g_happens := PySem.W.mg_of X G a_happens
    f_least_events := f_least_events
    d_least_events := _
    F_least_events := F_least_events
    b_least_events := b_least_events
    g_least_events := PySem.W.mg_of X G a_least_events
    f_day := f_day
    d_day := _
    F_day := F_day
    b_day := b_day
    g_day := PySem.W.mg_of X G a_day
    f_is_number_for := f_is_number_for
    d_is_number_for := _
    F_is_number_for := F_is_number_for
    b_is_number_for := b_is_number_for
    g_is_number_for := PySem.W.mg_of X G a_is_number_for
    f_Rule_init := f_Rule_init
    d_Rule_init := _
    F_Rule_init := F_Rule_init
    b_Rule_init := b_Rule_init
    bd_Rule_init := bd_Rule_init
    mk_Rule := ⟨mk_Rule, a_Rule_init, i_Rule_init, kc_Rule⟩
    f_Rule_eq := f_Rule_eq
    d_Rule_eq := _
    F_Rule_eq := F_Rule_eq
    b_Rule_eq := b_Rule_eq
    i_Rule_eq := a_Rule_eq
    j_Rule_eq := i_Rule_eq
    i_Rule_ne := ne_Rule
    f_Rule_str := f_Rule_str
    d_Rule_str := _
    F_Rule_str := F_Rule_str
    b_Rule_str := b_Rule_str
    i_Rule_str := a_Rule_str
    j_Rule_str := i_Rule_str
    f_l_any := f_l_any
    d_l_any := _
    F_l_any := F_l_any
    b_l_any := b_l_any
    g_l_any := PySem.W.mg_of X G a_l_any
    f_l_heard := f_l_heard
    d_l_heard := _
    F_l_heard := F_l_heard
    b_l_heard := b_l_heard
    g_l_heard := PySem.W.mg_of X G a_l_heard
    f_l_deal := f_l_deal
    d_l_deal := _
    F_l_deal := F_l_deal
    b_l_deal := b_l_deal
    g_l_deal := PySem.W.mg_of X G a_l_deal
    f_l_draw := f_l_draw
    d_l_draw := _
    F_l_draw := F_l_draw
    b_l_draw := b_l_draw
    g_l_draw := PySem.W.mg_of X G a_l_draw
    f_l_pick := f_l_pick
    d_l_pick := _
    F_l_pick := F_l_pick
    b_l_pick := b_l_pick
    g_l_pick := PySem.W.mg_of X G a_l_pick
    f_l_numbers := f_l_numbers
    d_l_numbers := _
    F_l_numbers := F_l_numbers
    b_l_numbers := b_l_numbers
    g_l_numbers := PySem.W.mg_of X G a_l_numbers
    f_l_rule := f_l_rule
    d_l_rule := _
    F_l_rule := F_l_rule
    b_l_rule := b_l_rule
    g_l_rule := PySem.W.mg_of X G a_l_rule
    f_law := fa
    d_law := _
    F_law := F_law
    b_law := b_law
    g_law := PySem.W.mg_of X G a_law
    a_WORDS := a_WORDS
    g_WORDS := PySem.W.mg_of X G gc_WORDS
    s_WORDS := fun _ => .inr ⟨_, _, _, lC_WORDS, rfl, rfl, Nat.le_of_ble_eq_true rfl, (.cons ⟨_, rfl⟩ (.cons ⟨_, rfl⟩ (.cons ⟨_, rfl⟩ (.cons ⟨_, rfl⟩ (.cons ⟨_, rfl⟩ .nil)))))⟩
    a_PASS := a_PASS
    g_PASS := PySem.W.mg_of X G gc_PASS
    s_PASS := fun _ => .inr ⟨_, _, _, lC_PASS, rfl, rfl, Nat.le_of_ble_eq_true rfl, (.cons ⟨_, rfl⟩ .nil)⟩
    a_FAULTS := a_FAULTS
    g_FAULTS := PySem.W.mg_of X G gc_FAULTS
    s_FAULTS := fun _ => .inr ⟨_, _, _, lC_FAULTS, rfl, rfl, Nat.le_of_ble_eq_true rfl, (.cons ⟨_, rfl⟩ (.cons ⟨_, rfl⟩ (.cons ⟨_, rfl⟩ (.cons ⟨_, rfl⟩ .nil))))⟩
    a_PLANS := a_PLANS
    g_PLANS := PySem.W.mg_of X G gc_PLANS
    kd_PLANS_over := ⟨_, _, _, lC_PLANS, kl_PLANS, nd_PLANS_over, rfl⟩
    kd_PLANS_taken := ⟨_, _, _, lC_PLANS, kl_PLANS, nd_PLANS_taken, rfl⟩
    kd_PLANS_twice := ⟨_, _, _, lC_PLANS, kl_PLANS, nd_PLANS_twice, rfl⟩
    kd_PLANS_waits := ⟨_, _, _, lC_PLANS, kl_PLANS, nd_PLANS_waits, rfl⟩
    a_USER_WORDS := a_USER_WORDS
    g_USER_WORDS := PySem.W.mg_of X G gc_USER_WORDS
    s_USER_WORDS := fun _ => .inr ⟨_, _, _, lC_USER_WORDS, rfl, rfl, Nat.le_of_ble_eq_true rfl, (.cons ⟨_, rfl⟩ (.cons ⟨_, rfl⟩ (.cons ⟨_, rfl⟩ (.cons ⟨_, rfl⟩ (.cons ⟨_, rfl⟩ (.cons ⟨_, rfl⟩ (.cons ⟨_, rfl⟩ .nil)))))))⟩
    kRs := x_kRs
    ksR := x_ksR
    sb_Rule := x_sb_Rule } : Tx w K mg)⟩
theorem walk {l : PySem.W.OpenLaw} {q : Program} {loose : List Str} {XP : (Str → Option Value) → Heap → Prop} {YP : World → Heap → Prop} {d : DefRec} {K : Params → PySem.W.Frag} (hn : l.most = some 63) (hdf : d.params.defaults = [])
    (hY : ∀ (w : World) (h : Heap), YP w h → (K w.params).In h)
    (F : ∀ (w : World) (mg : Str → Option Value) (fa : Addr) (h : Heap), (K w.params).In h → h.Ns mainGlobals mg → mg d.name = some (.ref fa) →
      ∃ fd : FuncData, (∀ (s : Shared) (u : Value), BindsTo s fd ⟨[u], []⟩ [("_law_script", u)]) ∧ ∀ base : Heap, (K w.params).In base → base.Ns mainGlobals mg → FnG l.prog w (K w.params) mg base CX0 26 fa fd ["_law_script"] (spLaw (K w.params))) :
    PySem.W.WalkO q loose XP YP l.row.toRowW d [] (fun f vs => PySem.call f vs) :=
  OW.walkS (n := 63) (k := 26) (x := "_law_script") (sp := fun w => spLaw (K w.params)) hn (by decide) hdf ⟨rfl, by decide, by decide⟩ hY F fun _ _ a ns hl hS => ⟨a, ns, rfl, hS, hl, fun _ => rfl⟩
end My
end
open PySem PySem.W PyProof.Rows in
set_option maxRecDepth 100000 in
set_option maxHeartbeats 0 in
theorem PySem.Challenge.cw_lapseseats_k27_values_that_are_no_faults_holds : PySem.Challenge.rw_lapseseats_k27_values_that_are_no_faults.Holds := by
  w_on; o_law; k_head; (case hw => w_witness2)
  k_fill
  refine My.walk (l := PySem.Challenge.rw_lapseseats_k27_values_that_are_no_faults) rfl rfl (fun w h Y => PySem.W.kIn_of Y) ?F
  case F =>
    intro w mg fa h KX G hmg
    refine' My.all_mk KX G hmg ?aC_Day ?pg_Day ?hd_Day ?po_Day ?sa_Day ?mk_Day ?kc_Day ?ha_Day ?hm_Day ?na_Day_events ?aC_Rule ?pg_Rule ?hd_Rule ?po_Rule ?sa_Rule ?mk_Rule ?kc_Rule ?ha_Rule ?hm_Rule ?na_Rule_seats ?na_Rule_lapse ?na_Rule_beat ?na_Rule_grace ?na_Rule_late ?aC_SeatError ?aC_InvalidDay ?aC_InvalidFault ?aC_InvalidRule ?xL_InvalidFault ?sa_InvalidFault ?ga_InvalidFault ?gg_InvalidFault ?kC_InvalidFault ?eC_InvalidFault ?tC_InvalidFault ?hC_InvalidFault ?ha_InvalidFault ?hm_InvalidFault ?sC_InvalidFault ?kit_InvalidFault_SeatError ?kit_InvalidFault_InvalidRule ?kit_InvalidFault_InvalidDay ?hn_ ?ht_ ?a_is_integer_from ?l_is_integer_from ?cI_is_integer_from ?k_is_integer_from ?a_is_sequence ?l_is_sequence ?cI_is_sequence ?k_is_sequence ?a_InvalidFault_init ?t_InvalidFault_init ?l_InvalidFault_init ?cI_InvalidFault_init ?k_InvalidFault_init ?a_is_event ?l_is_event ?cI_is_event ?k_is_event ?a_first_wrong_days ?l_first_wrong_days ?cI_first_wrong_days ?k_first_wrong_days ?a_Day_init ?i_Day_init ?l_Day_init ?cI_Day_init ?k_Day_init ?lT_Day_init ?lE_Day_init ?a_most_at_one_seat ?l_most_at_one_seat ?cI_most_at_one_seat ?k_most_at_one_seat ?a_can_share ?l_can_share ?cI_can_share ?k_can_share ?a_can_be_silent ?l_can_be_silent ?cI_can_be_silent ?k_can_be_silent ?a_silent_borrow ?l_silent_borrow ?cI_silent_borrow ?k_silent_borrow ?a_over_plan ?l_over_plan ?cI_over_plan ?k_over_plan ?a_taken_plan ?l_taken_plan ?cI_taken_plan ?k_taken_plan ?a_twice_plan ?l_twice_plan ?cI_twice_plan ?k_twice_plan ?a_waits_plan ?l_waits_plan ?cI_waits_plan ?k_waits_plan ?a_plan ?l_plan ?cI_plan ?k_plan ?a_happens ?l_happens ?cI_happens ?k_happens ?a_least_events ?l_least_events ?cI_least_events ?k_least_events ?a_day ?l_day ?cI_day ?k_day ?a_is_number_for ?l_is_number_for ?cI_is_number_for ?k_is_number_for ?a_Rule_init ?i_Rule_init ?l_Rule_init ?cI_Rule_init ?k_Rule_init ?lT_Rule_init ?a_Rule_eq ?i_Rule_eq ?ne_Rule ?l_Rule_eq ?cI_Rule_eq ?k_Rule_eq ?a_Rule_str ?i_Rule_str ?l_Rule_str ?cI_Rule_str ?k_Rule_str ?a_l_any ?l_l_any ?cI_l_any ?k_l_any ?a_l_heard ?l_l_heard ?cI_l_heard ?k_l_heard ?a_l_deal ?l_l_deal ?cI_l_deal ?k_l_deal ?a_l_draw ?l_l_draw ?cI_l_draw ?k_l_draw ?a_l_pick ?l_l_pick ?cI_l_pick ?k_l_pick ?a_l_numbers ?l_l_numbers ?cI_l_numbers ?k_l_numbers ?a_l_rule ?l_l_rule ?cI_l_rule ?k_l_rule ?a_law ?l_law ?cI_law ?k_law ?z_range ?z_max ?z_min ?z_len ?z_isinstance ?z_str ?z_abs ?z_int ?z_tuple ?z_zip ?z_bool ?z_enumerate ?z_list ?gc_WORDS ?lC_WORDS ?gc_PASS ?lC_PASS ?gc_FAULTS ?lC_FAULTS ?gc_PLANS ?lC_PLANS ?kl_PLANS ?nd_PLANS_over ?nd_PLANS_taken ?nd_PLANS_twice ?nd_PLANS_waits ?gc_USER_WORDS ?lC_USER_WORDS ?x_kRs ?x_ksR ?x_sb_Rule
    (case aC_Day => first | k_is | rfl | decide +kernel)
    (case pg_Day => first | k_is | rfl | decide +kernel)
    (case hd_Day => first | k_is | rfl | decide +kernel)
    (case po_Day => first | k_is | rfl | decide +kernel)
    (case sa_Day => first | k_is | rfl | decide +kernel)
    (case mk_Day => first | k_is | rfl | decide +kernel)
    (case kc_Day => first | k_is | rfl | decide +kernel)
    (case ha_Day => first | k_is | rfl | decide +kernel)
    (case hm_Day => first | k_is | rfl | decide +kernel)
    (case na_Day_events => first | k_is | rfl | decide +kernel)
    (case aC_Rule => first | k_is | rfl | decide +kernel)
    (case pg_Rule => first | k_is | rfl | decide +kernel)
    (case hd_Rule => first | k_is | rfl | decide +kernel)
    (case po_Rule => first | k_is | rfl | decide +kernel)
    (case sa_Rule => first | k_is | rfl | decide +kernel)
    (case mk_Rule => first | k_is | rfl | decide +kernel)
    (case kc_Rule => first | k_is | rfl | decide +kernel)
    (case ha_Rule => first | k_is | rfl | decide +kernel)
    (case hm_Rule => first | k_is | rfl | decide +kernel)
    (case na_Rule_seats => first | k_is | rfl | decide +kernel)
    (case na_Rule_lapse => first | k_is | rfl | decide +kernel)
    (case na_Rule_beat => first | k_is | rfl | decide +kernel)
    (case na_Rule_grace => first | k_is | rfl | decide +kernel)
    (case na_Rule_late => first | k_is | rfl | decide +kernel)
    (case aC_SeatError => first | k_is | rfl | decide +kernel)
    (case aC_InvalidDay => first | k_is | rfl | decide +kernel)
    (case aC_InvalidFault => first | k_is | rfl | decide +kernel)
    (case aC_InvalidRule => first | k_is | rfl | decide +kernel)
    (case xL_InvalidFault => first | k_is | rfl | decide +kernel)
    (case sa_InvalidFault => first | k_is | rfl | decide +kernel)
    (case ga_InvalidFault => first | k_is | rfl | decide +kernel)
    (case gg_InvalidFault => first | k_is | rfl | decide +kernel)
    (case kC_InvalidFault => first | k_is | rfl | decide +kernel)
    (case eC_InvalidFault => first | k_is | rfl | decide +kernel)
    (case tC_InvalidFault => first | k_is | rfl | decide +kernel)
    (case hC_InvalidFault => first | k_is | rfl | decide +kernel)
    (case ha_InvalidFault => first | k_is | rfl | decide +kernel)
    (case hm_InvalidFault => first | k_is | rfl | decide +kernel)
    (case sC_InvalidFault => first | k_is | rfl | decide +kernel)
    (case kit_InvalidFault_SeatError => first | k_is | rfl | decide +kernel)
    (case kit_InvalidFault_InvalidRule => first | k_is | rfl | decide +kernel)
    (case kit_InvalidFault_InvalidDay => first | k_is | rfl | decide +kernel)
    (case hn_ => first | k_is | rfl | decide +kernel)
    (case ht_ => first | k_is | rfl | decide +kernel)
    (case a_is_integer_from => first | k_is | rfl | decide +kernel)
    (case l_is_integer_from => first | k_is | rfl | decide +kernel)
    (case cI_is_integer_from => first | k_is | rfl | decide +kernel)
    (case k_is_integer_from => first | k_is | rfl | decide +kernel)
    (case a_is_sequence => first | k_is | rfl | decide +kernel)
    (case l_is_sequence => first | k_is | rfl | decide +kernel)
    (case cI_is_sequence => first | k_is | rfl | decide +kernel)
    (case k_is_sequence => first | k_is | rfl | decide +kernel)
    (case a_InvalidFault_init => first | k_is | rfl | decide +kernel)
    (case t_InvalidFault_init => first | k_is | rfl | decide +kernel)
    (case l_InvalidFault_init => first | k_is | rfl | decide +kernel)
    (case cI_InvalidFault_init => first | k_is | rfl | decide +kernel)
    (case k_InvalidFault_init => first | k_is | rfl | decide +kernel)
    (case a_is_event => first | k_is | rfl | decide +kernel)
    (case l_is_event => first | k_is | rfl | decide +kernel)
    (case cI_is_event => first | k_is | rfl | decide +kernel)
    (case k_is_event => first | k_is | rfl | decide +kernel)
    (case a_first_wrong_days => first | k_is | rfl | decide +kernel)
    (case l_first_wrong_days => first | k_is | rfl | decide +kernel)
    (case cI_first_wrong_days => first | k_is | rfl | decide +kernel)
    (case k_first_wrong_days => first | k_is | rfl | decide +kernel)
    (case a_Day_init => first | k_is | rfl | decide +kernel)
    (case i_Day_init => first | k_is | rfl | decide +kernel)
    (case l_Day_init => first | k_is | rfl | decide +kernel)
    (case cI_Day_init => first | k_is | rfl | decide +kernel)
    (case k_Day_init => first | k_is | rfl | decide +kernel)
    (case lT_Day_init => first | k_is | rfl | decide +kernel)
    (case lE_Day_init => first | k_is | rfl | decide +kernel)
    (case a_most_at_one_seat => first | k_is | rfl | decide +kernel)
    (case l_most_at_one_seat => first | k_is | rfl | decide +kernel)
    (case cI_most_at_one_seat => first | k_is | rfl | decide +kernel)
    (case k_most_at_one_seat => first | k_is | rfl | decide +kernel)
    (case a_can_share => first | k_is | rfl | decide +kernel)
    (case l_can_share => first | k_is | rfl | decide +kernel)
    (case cI_can_share => first | k_is | rfl | decide +kernel)
    (case k_can_share => first | k_is | rfl | decide +kernel)
    (case a_can_be_silent => first | k_is | rfl | decide +kernel)
    (case l_can_be_silent => first | k_is | rfl | decide +kernel)
    (case cI_can_be_silent => first | k_is | rfl | decide +kernel)
    (case k_can_be_silent => first | k_is | rfl | decide +kernel)
    (case a_silent_borrow => first | k_is | rfl | decide +kernel)
    (case l_silent_borrow => first | k_is | rfl | decide +kernel)
    (case cI_silent_borrow => first | k_is | rfl | decide +kernel)
    (case k_silent_borrow => first | k_is | rfl | decide +kernel)
    (case a_over_plan => first | k_is | rfl | decide +kernel)
    (case l_over_plan => first | k_is | rfl | decide +kernel)
    (case cI_over_plan => first | k_is | rfl | decide +kernel)
    (case k_over_plan => first | k_is | rfl | decide +kernel)
    (case a_taken_plan => first | k_is | rfl | decide +kernel)
    (case l_taken_plan => first | k_is | rfl | decide +kernel)
    (case cI_taken_plan => first | k_is | rfl | decide +kernel)
    (case k_taken_plan => first | k_is | rfl | decide +kernel)
    (case a_twice_plan => first | k_is | rfl | decide +kernel)
    (case l_twice_plan => first | k_is | rfl | decide +kernel)
    (case cI_twice_plan => first | k_is | rfl | decide +kernel)
    (case k_twice_plan => first | k_is | rfl | decide +kernel)
    (case a_waits_plan => first | k_is | rfl | decide +kernel)
    (case l_waits_plan => first | k_is | rfl | decide +kernel)
    (case cI_waits_plan => first | k_is | rfl | decide +kernel)
    (case k_waits_plan => first | k_is | rfl | decide +kernel)
    (case a_plan => first | k_is | rfl | decide +kernel)
    (case l_plan => first | k_is | rfl | decide +kernel)
    (case cI_plan => first | k_is | rfl | decide +kernel)
    (case k_plan => first | k_is | rfl | decide +kernel)
    (case a_happens => first | k_is | rfl | decide +kernel)
    (case l_happens => first | k_is | rfl | decide +kernel)
    (case cI_happens => first | k_is | rfl | decide +kernel)
    (case k_happens => first | k_is | rfl | decide +kernel)
    (case a_least_events => first | k_is | rfl | decide +kernel)
    (case l_least_events => first | k_is | rfl | decide +kernel)
    (case cI_least_events => first | k_is | rfl | decide +kernel)
    (case k_least_events => first | k_is | rfl | decide +kernel)
    (case a_day => first | k_is | rfl | decide +kernel)
    (case l_day => first | k_is | rfl | decide +kernel)
    (case cI_day => first | k_is | rfl | decide +kernel)
    (case k_day => first | k_is | rfl | decide +kernel)
    (case a_is_number_for => first | k_is | rfl | decide +kernel)
    (case l_is_number_for => first | k_is | rfl | decide +kernel)
    (case cI_is_number_for => first | k_is | rfl | decide +kernel)
    (case k_is_number_for => first | k_is | rfl | decide +kernel)
    (case a_Rule_init => first | k_is | rfl | decide +kernel)
    (case i_Rule_init => first | k_is | rfl | decide +kernel)
    (case l_Rule_init => first | k_is | rfl | decide +kernel)
    (case cI_Rule_init => first | k_is | rfl | decide +kernel)
    (case k_Rule_init => first | k_is | rfl | decide +kernel)
    (case lT_Rule_init => first | k_is | rfl | decide +kernel)
    (case a_Rule_eq => first | k_is | rfl | decide +kernel)
    (case i_Rule_eq => first | k_is | rfl | decide +kernel)
    (case ne_Rule => first | k_is | rfl | decide +kernel)
    (case l_Rule_eq => first | k_is | rfl | decide +kernel)
    (case cI_Rule_eq => first | k_is | rfl | decide +kernel)
    (case k_Rule_eq => first | k_is | rfl | decide +kernel)
    (case a_Rule_str => first | k_is | rfl | decide +kernel)
    (case i_Rule_str => first | k_is | rfl | decide +kernel)
    (case l_Rule_str => first | k_is | rfl | decide +kernel)
    (case cI_Rule_str => first | k_is | rfl | decide +kernel)
    (case k_Rule_str => first | k_is | rfl | decide +kernel)
    (case a_l_any => first | k_is | rfl | decide +kernel)
    (case l_l_any => first | k_is | rfl | decide +kernel)
    (case cI_l_any => first | k_is | rfl | decide +kernel)
    (case k_l_any => first | k_is | rfl | decide +kernel)
    (case a_l_heard => first | k_is | rfl | decide +kernel)
    (case l_l_heard => first | k_is | rfl | decide +kernel)
    (case cI_l_heard => first | k_is | rfl | decide +kernel)
    (case k_l_heard => first | k_is | rfl | decide +kernel)
    (case a_l_deal => first | k_is | rfl | decide +kernel)
    (case l_l_deal => first | k_is | rfl | decide +kernel)
    (case cI_l_deal => first | k_is | rfl | decide +kernel)
    (case k_l_deal => first | k_is | rfl | decide +kernel)
    (case a_l_draw => first | k_is | rfl | decide +kernel)
    (case l_l_draw => first | k_is | rfl | decide +kernel)
    (case cI_l_draw => first | k_is | rfl | decide +kernel)
    (case k_l_draw => first | k_is | rfl | decide +kernel)
    (case a_l_pick => first | k_is | rfl | decide +kernel)
    (case l_l_pick => first | k_is | rfl | decide +kernel)
    (case cI_l_pick => first | k_is | rfl | decide +kernel)
    (case k_l_pick => first | k_is | rfl | decide +kernel)
    (case a_l_numbers => first | k_is | rfl | decide +kernel)
    (case l_l_numbers => first | k_is | rfl | decide +kernel)
    (case cI_l_numbers => first | k_is | rfl | decide +kernel)
    (case k_l_numbers => first | k_is | rfl | decide +kernel)
    (case a_l_rule => first | k_is | rfl | decide +kernel)
    (case l_l_rule => first | k_is | rfl | decide +kernel)
    (case cI_l_rule => first | k_is | rfl | decide +kernel)
    (case k_l_rule => first | k_is | rfl | decide +kernel)
    (case a_law => first | k_is | rfl | decide +kernel)
    (case l_law => first | k_is | rfl | decide +kernel)
    (case cI_law => first | k_is | rfl | decide +kernel)
    (case k_law => first | k_is | rfl | decide +kernel)
    (case z_range => first | k_is | rfl | decide +kernel)
    (case z_max => first | k_is | rfl | decide +kernel)
    (case z_min => first | k_is | rfl | decide +kernel)
    (case z_len => first | k_is | rfl | decide +kernel)
    (case z_isinstance => first | k_is | rfl | decide +kernel)
    (case z_str => first | k_is | rfl | decide +kernel)
    (case z_abs => first | k_is | rfl | decide +kernel)
    (case z_int => first | k_is | rfl | decide +kernel)
    (case z_tuple => first | k_is | rfl | decide +kernel)
    (case z_zip => first | k_is | rfl | decide +kernel)
    (case z_bool => first | k_is | rfl | decide +kernel)
    (case z_enumerate => first | k_is | rfl | decide +kernel)
    (case z_list => first | k_is | rfl | decide +kernel)
    (case gc_WORDS => first | k_is | rfl | decide +kernel)
    (case lC_WORDS => first | k_is | rfl | decide +kernel)
    (case gc_PASS => first | k_is | rfl | decide +kernel)
    (case lC_PASS => first | k_is | rfl | decide +kernel)
    (case gc_FAULTS => first | k_is | rfl | decide +kernel)
    (case lC_FAULTS => first | k_is | rfl | decide +kernel)
    (case gc_PLANS => first | k_is | rfl | decide +kernel)
    (case lC_PLANS => first | k_is | rfl | decide +kernel)
    (case kl_PLANS => exact ⟨⟨_, _, rfl, rfl⟩, ⟨⟨_, _, rfl, rfl⟩, ⟨⟨_, _, rfl, rfl⟩, ⟨⟨_, _, rfl, rfl⟩, trivial⟩⟩⟩⟩)
    (case nd_PLANS_over => first | k_is | rfl | decide +kernel)
    (case nd_PLANS_taken => first | k_is | rfl | decide +kernel)
    (case nd_PLANS_twice => first | k_is | rfl | decide +kernel)
    (case nd_PLANS_waits => first | k_is | rfl | decide +kernel)
    (case gc_USER_WORDS => first | k_is | rfl | decide +kernel)
    (case lC_USER_WORDS => first | k_is | rfl | decide +kernel)
    (case x_kRs => first | k_is | rfl | decide +kernel)
    (case x_ksR => first | k_is | rfl | decide +kernel)
    (case x_sb_Rule => first | k_is | rfl | decide +kernel)
