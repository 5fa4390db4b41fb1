import PyProof.Rows.All
import Wide.All
import OpenK.AllK
import Wide.FinOn
import HandS.ForMost
import HandS.ForExc
import HandS.Zip
import HandS.Wide
import HandS.IsInst
import HandS.Defaults
import HandS.ExcInit
import HandS.ExcField
import HandS.TryMany
import HandS.RaiseMore
import HandS.FStr
import HandS.OwnEq
import HandS.Star
import HandS.ClsMeth
import HandS.TupAny
import HandS.Flow
import HandS.MakeKw
import PyProof.ReprRoads
import PyProof.CallFns
import HandS.Style
import HandS.CallLocal
import HandS.Sort
import HandS.More
import HandS.Flt
import HandS.Dict
import HandS.Iter
import HandS.Text
import KE.KDictList
import HandS.Conv
import HandS.Walk
import HandS.Deep
import HandS.NoneIn
import HandS.WordsExc
import HandS.ExcOwn
import HandS.CallSlots
import HandS.ExcIs
import KE.KExcIs
import KE.GoesEnum
import HandS.TupSets
import HandS.SetFor
import HandS.Small
import HandS.DictComp
import HandS.StrMore
import HandS.WideBits
import HandS.MakeKwOnly
import HandS.TupMul
import KE.KOpsOwn
import HandS.ListEq
import PyProof.NeKinds
import KE.KDictPairs
import PySem.Challenge.RW_lapseseats_k71_whole_rules_beat_one_anot
set_option Elab.async false
set_option linter.all false
set_option maxRecDepth 100000
set_option maxHeartbeats 2000000
namespace CL
open PySem PySem.Spec PyProof.Rows L2
structure Chk (P k : Prop) : Prop where
  p : P
  k : k
structure New (H : Hp) (o : HO) (k : Addr → Hp → Prop) : Prop where
  k : ∀ p, H p = none → k p (upd H p o)
structure Br (c : Bool) (A B : Prop) : Prop where
  t : c = true → A
  f : c = false → B
theorem Br.ite {c : Bool} {A B : Prop} (h : Br c A B) : if c = true then A else B := by
  cases c with
  | true => rw [if_pos rfl]; exact h.t rfl
  | false => rw [if_neg Bool.false_ne_true]; exact h.f rfl
theorem br_t {c : Bool} {A B : Prop} (h : c = true) (a : A) : Br c A B := Br.mk (fun _ => a) (fun z => by rw [h] at z; cases z)
theorem br_f {c : Bool} {A B : Prop} (h : c = false) (b : B) : Br c A B := Br.mk (fun z => by rw [h] at z; cases z) (fun _ => b)
/-- a list or a tuple is read -/
structure Sq (K : PySem.W.Frag) (H : Hp) (p : Addr) (k : List V → Prop) : Prop where
  ex : ∃ xs, (SqL K H p xs ∨ SqT K H p xs) ∧ k xs
theorem Sq.l {K : PySem.W.Frag} {H : Hp} {p : Addr} {k : List V → Prop} {xs : List V} (h : SqL K H p xs) (q : k xs) : Sq K H p k := ⟨xs, .inl h, q⟩
theorem Sq.t {K : PySem.W.Frag} {H : Hp} {p : Addr} {k : List V → Prop} {xs : List V} (h : SqT K H p xs) (q : k xs) : Sq K H p k := ⟨xs, .inr h, q⟩
/-- a mutable list -/
structure Ls (H : Hp) (p : Addr) (k : List V → Prop) : Prop where
  ex : ∃ xs, H p = some (.lst xs) ∧ k xs
theorem Ls.mk' {H : Hp} {p : Addr} {k : List V → Prop} {xs : List V} (h : H p = some (.lst xs)) (q : k xs) : Ls H p k := ⟨xs, h, q⟩
/-- a field of an instance -/
structure Fld (K : PySem.W.Frag) (H : Hp) (p : Addr) (f : Str) (k : V → Prop) : Prop where
  ex : ∃ C dx fs v, H p = some (.ins C dx fs) ∧ Cls K C ∧ NoAttr K C f ∧ fs.lookup f = some v ∧ k v
structure SetF (K : PySem.W.Frag) (H : Hp) (p : Addr) (f : Str) (y : V) (k : Hp → Prop) : Prop where
  ex : ∃ C dx fs, H p = some (.ins C dx fs) ∧ Cls K C ∧ NoAttr K C f ∧ fs.length < 1000 ∧ k (upd H p (.ins C dx (putF f y fs)))
/-- a call of a def: its promise -/
structure Ask (P : Prop) : Prop where
  a : P
/-- isinstance of anything -/
structure IsI (K : PySem.W.Frag) (H : Hp) (x : V) (u : Value) (k : Bool → Prop) : Prop where
  ex : ∃ t b, TyX K H x t ∧ PySem.W.kitOne K t u = some b ∧ k b
section
variable {X : Cx}
theorem weak {e : Expr} {t t' : TE} (h : PE X e t) (w : ∀ σ H Q, t' σ H Q → t σ H Q) : PE X e t' := ⟨fun pins s σ H Q I q => h.run pins s σ H Q I (w _ _ _ q)⟩
theorem weakS {e : Stmt} {t t' : TS} (h : PS X e t) (w : ∀ D σ H, t' D σ H → t D σ H) : PS X e t' := ⟨fun pins s σ H D I q => h.run pins s σ H D I (w _ _ _ q)⟩
end
def cVar (i : Nat) : TE := fun σ H Q => match σ[i]? with
  | some (some v) => Q v H
  | _ => False
theorem c_var {X : Cx} (i : Nat) {x : Str} {pos : Pos} (hN : X.N[i]? = some x := by rfl) (hv : Vis X.env.scope x := by first | exact Or.inl rfl | exact Or.inr (Or.inl rfl) | exact Or.inr (Or.inr rfl)) (hd : (x == ("__debug__" : Str)) = false := by decide)
    (hcd : (x == ("__classdict__" : Str)) = false := by decide) : PE X (.Name x pos) (cVar i) := weak (pe_var hN hv hd hcd) fun σ H Q h => by
  unfold cVar at h
  split at h
  · rename_i v e; exact ⟨v, e, h⟩
  · exact h.elim
def rSubC : R2 := fun x y H Q => match x, y with
  | .int i, .int j => Q (.int (i - j)) H
  | _, _ => False
theorem c_sub {X : Cx} : OpR X (binaryOp .Sub) rSubC := by
  intro pins s σ H x y v u Q I rx ry h
  unfold rSubC at h
  split at h
  · exact op_sub pins s σ H _ _ v u Q I rx ry ⟨_, _, rfl, rfl, h⟩
  · exact h.elim
def rMulC : R2 := fun x y H Q => match x, y with
  | .int i, .int j => Chk (CMul i j ∨ CMulW i j) (Q (.int (i * j)) H)
  | .ref p, .int k => Ls H p fun xs => Chk (-(2 ^ 63) ≤ k ∧ k < 2 ^ 63 ∧ xs.length * k.toNat ≤ sizeLine) (rRep (.ref p) (.int k) H Q)
  | _, _ => False
theorem c_mul {X : Cx} : OpR X (binaryOp .Mult) rMulC := by
  intro pins s σ H x y v u Q I rx ry h
  unfold rMulC at h
  split at h
  · rcases h.p with z | z
    · exact op_mul pins s σ H _ _ v u Q I rx ry ⟨_, _, rfl, rfl, z, h.k⟩
    · exact op_mulW pins s σ H _ _ v u Q I rx ry ⟨_, _, rfl, rfl, z, h.k⟩
  · obtain ⟨⟨xs, h1, h2⟩⟩ := h
    exact op_rep pins s σ H _ _ v u Q I rx ry h2.k
  · exact h.elim
def rDivC : R2 := fun x y H Q => match x, y with
  | .int i, .int j => Chk (CDiv i j ∨ CDivW i j) (Q (.int (i / j)) H)
  | _, _ => False
theorem c_div {X : Cx} : OpR X (binaryOp .FloorDiv) rDivC := by
  intro pins s σ H x y v u Q I rx ry h
  unfold rDivC at h
  split at h
  · rcases h.p with z | z
    · exact op_fdiv pins s σ H _ _ v u Q I rx ry ⟨_, _, rfl, rfl, z, h.k⟩
    · exact op_fdivW pins s σ H _ _ v u Q I rx ry ⟨_, _, rfl, rfl, z, h.k⟩
  · exact h.elim
def rModC : R2 := fun x y H Q => match x, y with
  | .int i, .int j => Chk (0 < j) (Q (.int (i % j)) H)
  | _, _ => False
theorem c_mod {X : Cx} : OpR X (binaryOp .Mod) rModC := by
  intro pins s σ H x y v u Q I rx ry h
  unfold rModC at h
  split at h
  · exact op_mod pins s σ H _ _ v u Q I rx ry ⟨_, _, rfl, rfl, h.p, h.k⟩
  · exact h.elim
def rPowC : R2 := fun x y H Q => match x, y with
  | .int i, .int j => Chk (CPow i j) (Q (.int (i ^ j.toNat)) H)
  | _, _ => False
theorem c_pow {X : Cx} : OpR X (binaryOp .Pow) rPowC := by
  intro pins s σ H x y v u Q I rx ry h
  unfold rPowC at h
  split at h
  · exact op_pow pins s σ H _ _ v u Q I rx ry ⟨_, _, rfl, rfl, h.p, h.k⟩
  · exact h.elim
def rCmpC (p : Int → Int → Bool) : R2 := fun x y H Q => match x, y with
  | .int i, .int j => Q (.bl (p i j)) H
  | _, _ => False
theorem c_cmp {X : Cx} {f : Value → Value → Sem Value} {p : Int → Int → Bool} (h0 : OpR X f (rI0 fun i j => .bl (p i j))) : OpR X f (rCmpC p) := by
  intro pins s σ H x y v u Q I rx ry h
  unfold rCmpC at h
  split at h
  · exact h0 pins s σ H _ _ v u Q I rx ry ⟨_, _, rfl, rfl, h⟩
  · exact h.elim
abbrev rLtC : R2 := rCmpC fun i j => decide (i < j)
abbrev rLeC : R2 := rCmpC fun i j => decide (i ≤ j)
abbrev rGtC : R2 := rCmpC fun i j => decide (j < i)
abbrev rGeC : R2 := rCmpC fun i j => decide (j ≤ i)
theorem c_lt {X : Cx} : OpR X (compareOp .Lt) rLtC := c_cmp op_lt
theorem c_le {X : Cx} : OpR X (compareOp .LtE) rLeC := c_cmp op_le
theorem c_gt {X : Cx} : OpR X (compareOp .Gt) rGtC := c_cmp op_gt
theorem c_ge {X : Cx} : OpR X (compareOp .GtE) rGeC := c_cmp op_ge
/-- two things at heap places compared: as data (an own == is another rule) -/
structure EqD (K : PySem.W.Frag) (H : Hp) (x y : V) (k : Bool → Prop) : Prop where
  ex : ∃ d e, Dp K H x d ∧ Dp K H y e ∧ SeqAt.shaped d = true ∧ SeqAt.shaped e = true ∧ k (PyData.eqv d e)
def rEqC (K : PySem.W.Frag) (neg : Bool) : R2 := fun x y H Q => match scal x y with
  | true => Q (.bl (if neg then !decide (x = y) else decide (x = y))) H
  | false => EqD K H x y fun b => Q (.bl (if neg then !b else b)) H
theorem c_eq {X : Cx} (hu : X.A.units + 64 < cLine) : OpR X (compareOp .Eq) (rEqC X.K false) := by
  intro pins s σ H x y v u Q I rx ry h
  unfold rEqC at h
  split at h
  · rename_i e
    exact op_eq pins s σ H _ _ v u Q I rx ry ⟨e, h⟩
  · obtain ⟨⟨d, e, h1, h2, h3, h4, q⟩⟩ := h
    exact op_eqD hu pins s σ H _ _ v u Q I rx ry ⟨d, e, h1, h2, h3, h4, q⟩
theorem c_ne {X : Cx} (hu : X.A.units + 64 < cLine) : OpR X (compareOp .NotEq) (rEqC X.K true) := by
  intro pins s σ H x y v u Q I rx ry h
  unfold rEqC at h
  split at h
  · rename_i e
    exact op_ne pins s σ H _ _ v u Q I rx ry ⟨e, h⟩
  · obtain ⟨⟨d, e, h1, h2, h3, h4, q⟩⟩ := h
    exact op_neD hu pins s σ H _ _ v u Q I rx ry ⟨d, e, h1, h2, h3, h4, q⟩
/-- in a list or tuple of flat things; a text in a text -/
def rInC (K : PySem.W.Frag) (neg : Bool) : R2 := fun x y H Q => match y with
  | .ref p => Sq K H p fun xs => Chk (flatV x = true ∧ xs.all flatV = true) (Q (.bl (if neg then !inV x xs else inV x xs)) H)
  | _ => False
theorem c_in {X : Cx} : OpR X (compareOp .In) (rInC X.K false) := by
  intro pins s σ H x y v u Q I rx ry h
  unfold rInC at h
  split at h
  · obtain ⟨⟨xs, h1, h2⟩⟩ := h
    exact op_in_seq pins s σ H _ _ v u Q I rx ry ⟨_, _, rfl, h1, h2.p.1, h2.p.2, h2.k⟩
  · exact h.elim
theorem c_notin {X : Cx} : OpR X (compareOp .NotIn) (rInC X.K true) := by
  intro pins s σ H x y v u Q I rx ry h
  unfold rInC at h
  split at h
  · obtain ⟨⟨xs, h1, h2⟩⟩ := h
    exact op_notIn_seq pins s σ H _ _ v u Q I rx ry ⟨_, _, rfl, h1, h2.p.1, h2.p.2, h2.k⟩
  · exact h.elim
/-- an item at a place that holds it -/
structure At {α : Type} (xs : List α) (i : Int) (k : α → Prop) : Prop where
  ex : ∃ v, atI xs i = some v ∧ k v
def rIxC (K : PySem.W.Frag) : R2 := fun x y H Q => match x, y with
  | .ref p, .int i => Sq K H p fun xs => At xs i fun v => Q v H
  | .str z, .int i => Chk (z.length ≤ sizeLine) (At z.cps.toList i fun c => Q (.str ⟨#[c]⟩) H)
  | _, _ => False
theorem c_ix {X : Cx} : IxR X (rIxC X.K) := by
  intro value slice pins s σ H x y v u Q I rx ry h hs
  unfold rIxC at h
  split at h
  · obtain ⟨⟨xs, h1 | h1, ⟨v, h2, h3⟩⟩⟩ := h
    · exact ix_list value slice pins s σ H _ _ _ _ Q I rx ry ⟨_, _, _, _, rfl, rfl, h1, h2, h3⟩ hs
    · exact ix_tup value slice pins s σ H _ _ _ _ Q I rx ry ⟨_, _, _, _, rfl, rfl, h1, h2, h3⟩ hs
  · obtain ⟨h0, ⟨v, h2, h3⟩⟩ := h
    exact ix_str value slice pins s σ H _ _ _ _ Q I rx ry ⟨_, _, _, rfl, rfl, h0, h2, h3⟩ hs
  · exact h.elim
end CL
set_option Elab.async false
set_option linter.all false
set_option maxRecDepth 100000
set_option maxHeartbeats 2000000
namespace CL
open PySem PySem.Spec PyProof.Rows L2
/-- truth of a value -/
def Tru (K : PySem.W.Frag) (x : V) (H : Hp) (k : Bool → Prop) : Prop := match x with
  | .bl b => k b
  | .int i => k (i != 0)
  | .non => k false
  | .str y => Chk (y.length ≤ sizeLine) (k ((y.length : Int) != 0))
  | .ref p => Sq K H p fun xs => k (!xs.isEmpty)
  | _ => False
theorem Tru.ok {K : PySem.W.Frag} {x : V} {H : Hp} {k : Bool → Prop} (h : Tru K x H k) : ∃ b, TruV K x H b ∧ k b := by
  unfold Tru at h
  split at h
  · exact ⟨_, rfl, h⟩
  · exact ⟨_, rfl, h⟩
  · exact ⟨_, rfl, h⟩
  · exact ⟨_, ⟨h.p, rfl⟩, h.k⟩
  · obtain ⟨⟨xs, h1 | h1, h2⟩⟩ := h
    · exact ⟨_, .inl ⟨xs, h1, rfl⟩, h2⟩
    · exact ⟨_, .inr (.inl ⟨xs, h1, rfl⟩), h2⟩
  · exact h.elim
def cTest (te : TE) : TT := fun σ H Q => te σ H fun x H1 => match x with
  | .bl b => Q b H1
  | _ => False
def cTruth (K : PySem.W.Frag) (te : TE) : TT := fun σ H Q => te σ H fun x H1 => Tru K x H1 fun b => Q b H1
section
variable {X : Cx} {a b c : Expr} {ta tb tc : TE} {pos : Pos}
/-- a comparison as a test -/
theorem t_cmp {op : CmpOp} {r : R2} (ho : OpR X (compareOp op) r) (ha : PE X a ta) (hb : PE X b tb) (hm : behindInMarks op b = false) : PT X (.Compare a [op] [b] pos) (cTest (tOp r ta tb)) := by
  refine ⟨fun pins s σ H Q I h => ?_⟩
  refine wpAny_isTrue_Compare1 (thn (ha.run pins s σ H _ I h) fun v s1 ⟨x, H1, I1, r1, q1⟩ => thn (hb.run pins s1 σ H1 _ I1 q1) fun u s2 ⟨y, H2, I2, r2, q2⟩ =>
    thn (ho pins s2 σ H2 x y v u _ I2 r1 r2 q2) fun d s3 ⟨z, H3, I3, r3, q3⟩ => ?_) hm
  cases z with
  | bl k => cases r3; exact wpAny_truthy_bool ⟨H3, I3, q3⟩
  | _ => exact (show False from q3).elim
theorem t_truth (ha : PE X a ta) (he : ∀ whole, isTrue a X.env whole = (do let v ← whole; standAt a.pos; holding [v] (truthy v))) : PT X a (cTruth X.K ta) := by
  refine ⟨fun pins s σ H Q I h => ?_⟩
  exact isTrue_plain (thn (ha.run pins s σ H _ I h) fun v s1 ⟨x, H1, I1, r1, q1⟩ => by
    obtain ⟨k, e, q⟩ := Tru.ok q1
    exact tru_ok pins s1 σ H1 x v Q I1 r1 ⟨k, e, q⟩) (he _)
def cAnd (t u : TT) : TT := fun σ H Q => t σ H fun c H1 => Br c (u σ H1 Q) (Q false H1)
def cOr (t u : TT) : TT := fun σ H Q => t σ H fun c H1 => Br c (Q true H1) (u σ H1 Q)
def cNot (t : TT) : TT := fun σ H Q => t σ H fun c H1 => Q (!c) H1
variable {tA tB' : TT} {rest : List Expr}
theorem w_and1 (ha : PT X a tA) : PW X (.BoolOp .And [a] pos) tA := pw_and1 ha
theorem w_or1 (ha : PT X a tA) : PW X (.BoolOp .Or [a] pos) tA := pw_or1 ha
theorem w_and (ha : PT X a tA) (hb : PW X (.BoolOp .And (b :: rest) pos) tB') : PW X (.BoolOp .And (a :: b :: rest) pos) (cAnd tA tB') := by
  refine ⟨fun whole pins s σ H Q I h => ?_⟩
  have key : PW X (.BoolOp .And (a :: b :: rest) pos) (tAnd tA tB') := pw_and ha hb
  have h2 : tAnd (fun σ' H' Q' => tA σ H Q' ∧ σ' = σ ∧ H' = H) tB' σ H Q → True := fun _ => trivial
  have hx : PW X (.BoolOp .And (a :: b :: rest) pos) (tAnd (fun σ' H' Q' => tA σ' H' fun c H1 => Q' c H1) tB') := key
  refine key.run whole pins s σ H Q I ?_
  unfold tAnd
  unfold cAnd at h
  have e : (fun (c : Bool) (H1 : Hp) => Br c (tB' σ H1 Q) (Q false H1)) = fun c H1 => (if c = true then tB' σ H1 Q else Q false H1) := by
    funext c H1
    apply propext
    constructor
    · exact Br.ite
    · intro q
      refine Br.mk (fun z => ?_) (fun z => ?_)
      · rw [if_pos z] at q; exact q
      · rw [z, if_neg Bool.false_ne_true] at q; exact q
  rw [e] at h
  exact h
theorem br_eq {c : Bool} {A B : Prop} : Br c A B = (if c = true then A else B) := by
  apply propext
  constructor
  · exact Br.ite
  · intro q
    refine Br.mk (fun z => ?_) (fun z => ?_)
    · rw [if_pos z] at q; exact q
    · rw [z, if_neg Bool.false_ne_true] at q; exact q
theorem w_or (ha : PT X a tA) (hb : PW X (.BoolOp .Or (b :: rest) pos) tB') : PW X (.BoolOp .Or (a :: b :: rest) pos) (cOr tA tB') := by
  have e : cOr tA tB' = tOr tA tB' := by
    funext σ H Q
    unfold cOr tOr
    simp only [br_eq]
  rw [e]
  exact pw_or ha hb
theorem t_not (ha : PT X a tA) : PT X (.UnaryOp .Not a pos) (cNot tA) := pt_not ha
/-- values by and, or: Booleans -/
def cAndV (ta tb : TE) : TE := fun σ H Q => ta σ H fun x H1 => match x with
  | .bl c => Br c (tb σ H1 Q) (Q (.bl false) H1)
  | _ => False
def cNotV (ta : TE) : TE := fun σ H Q => ta σ H fun x H1 => match x with
  | .bl c => Q (.bl (!c)) H1
  | _ => False
/-- what follows a Boolean -/
def onB (k : Bool → Hp → Prop) : VK := fun x H => match x with
  | .bl c => k c H
  | _ => False
theorem onB_eq (k : Bool → Hp → Prop) : onB k = fun x H => ∃ c, x = .bl c ∧ k c H := by
  funext x H
  apply propext
  unfold onB
  constructor
  · intro h
    split at h
    · exact ⟨_, rfl, h⟩
    · exact h.elim
  · rintro ⟨c, rfl, h⟩
    exact h
theorem e_and (ha : PE X a ta) (hb : PE X (.BoolOp .And (b :: rest) pos) tb) : PE X (.BoolOp .And (a :: b :: rest) pos) (cAndV ta tb) := by
  have e : cAndV ta tb = tAndV ta tb := by
    funext σ H Q
    show ta σ H (onB fun c H1 => Br c (tb σ H1 Q) (Q (.bl false) H1)) = _
    rw [onB_eq]
    simp only [br_eq]
    rfl
  rw [e]
  exact pe_and ha hb
theorem e_not (ha : PE X a ta) : PE X (.UnaryOp .Not a pos) (cNotV ta) := by
  have e : cNotV ta = tNotV ta := by
    funext σ H Q
    show ta σ H (onB fun c H1 => Q (.bl (!c)) H1) = _
    rw [onB_eq]
    rfl
  rw [e]
  exact pe_not ha
def cIf (t : TT) (ta tb : TE) : TE := fun σ H Q => t σ H fun c H1 => Br c (ta σ H1 Q) (tb σ H1 Q)
theorem e_if {c : Expr} (hc : PT X c tA) (ha : PE X a ta) (hb : PE X b tb) : PE X (.IfExp c a b pos) (cIf tA ta tb) := by
  have e : cIf tA ta tb = tIf tA ta tb := by
    funext σ H Q
    unfold cIf tIf
    simp only [br_eq]
  rw [e]
  exact pe_ifExp hc ha hb
def cIfS (c : TT) (t u : TS) : TS := fun D σ H => c σ H fun b H1 => Br b (t D σ H1) (u D σ H1)
theorem s_if {c : Expr} {sa sb : List Stmt} {t u : TS} (hc : PT X c tA) (ha : PSs X sa t) (hb : PSs X sb u) : PS X (.If c sa sb pos) (cIfS tA t u) := by
  have e : cIfS tA t u = tIfS tA t u := by
    funext D σ H
    unfold cIfS tIfS
    simp only [br_eq]
  rw [e]
  exact ps_if hc ha hb
end
def cTup (t : TA) : TE := fun σ H Q => t σ H fun xs H1 => Chk (xs.length ≤ sizeLine) (New H1 (.tup xs) fun p H' => Q (.ref p) H')
def cLst (t : TA) : TE := fun σ H Q => t σ H fun xs H1 => Chk (xs.length ≤ sizeLine) (New H1 (.lst xs) fun p H' => Q (.ref p) H')
theorem new_eq {H : Hp} {o : HO} {k : Addr → Hp → Prop} : New H o k = ∀ p, H p = none → k p (upd H p o) := propext ⟨fun h => h.k, fun h => ⟨h⟩⟩
theorem chk_eq {P k : Prop} : Chk P k = (P ∧ k) := propext ⟨fun h => ⟨h.p, h.k⟩, fun h => ⟨h.1, h.2⟩⟩
section
variable {X : Cx} {es : List Expr} {t : TA} {pos : Pos}
theorem e_tup {x1} (h : PA X es t) : PE X (.Tuple es x1 pos) (cTup t) := by
  have e : cTup t = tTup t := by
    funext σ H Q
    unfold cTup tTup
    simp only [chk_eq, new_eq]
  rw [e]
  exact pe_tup h
theorem e_lst (h : PA X es t) : PE X (.List es pos) (cLst t) := by
  have e : cLst t = tLst t := by
    funext σ H Q
    unfold cLst tLst
    simp only [chk_eq, new_eq]
  rw [e]
  exact pe_lst h
end
def cFld (K : PySem.W.Frag) (ta : TE) (f : Str) : TE := fun σ H Q => ta σ H fun x H1 => match x with
  | .ref a => Fld K H1 a f fun v => Q v H1
  | _ => False
def cSetF (K : PySem.W.Frag) (ta tv : TE) (f : Str) : TS := fun D σ H => tv σ H fun y H1 => ta σ H1 fun x H2 => match x with
  | .ref a => SetF K H2 a f y fun H' => D.nx σ H'
  | _ => False
def onR (k : Addr → Hp → Prop) : VK := fun x H => match x with
  | .ref c => k c H
  | _ => False
theorem onR_eq (k : Addr → Hp → Prop) : onR k = fun x H => ∃ c, x = .ref c ∧ k c H := by
  funext x H
  apply propext
  unfold onR
  constructor
  · intro h
    split at h
    · exact ⟨_, rfl, h⟩
    · exact h.elim
  · rintro ⟨c, rfl, h⟩
    exact h
section
variable {X : Cx} {o e value : Expr} {f : Str} {pos pos' : Pos} {ta tv : TE}
theorem e_fld (he : PE X e ta) (hb : attributeBase e f X.env (eval e X.env) = eval e X.env := by rfl) : PE X (.Attribute e f pos) (cFld X.K ta f) := by
  have e2 : cFld X.K ta f = tFld X.K ta f := by
    funext σ H Q
    show ta σ H (onR fun a H1 => Fld X.K H1 a f fun v => Q v H1) = _
    rw [onR_eq]
    have e3 : ∀ (x : V) (H1 : Hp), (∃ a, x = V.ref a ∧ Fld X.K H1 a f fun v => Q v H1) = ∃ a C dx fs v, x = .ref a ∧ H1 a = some (.ins C dx fs) ∧ Cls X.K C ∧ NoAttr X.K C f ∧ fs.lookup f = some v ∧ Q v H1 := fun x H1 => by
      apply propext
      constructor
      · rintro ⟨a, h, ⟨C, dx, fs, v, h1, h2, h3, h4, h5⟩⟩
        exact ⟨a, C, dx, fs, v, h, h1, h2, h3, h4, h5⟩
      · rintro ⟨a, C, dx, fs, v, h, h1, h2, h3, h4, h5⟩
        exact ⟨a, h, ⟨C, dx, fs, v, h1, h2, h3, h4, h5⟩⟩
    simp only [e3]
    rfl
  rw [e2]
  exact pe_fld he hb
theorem s_fld (ha : PE X o ta) (hv : PE X value tv) (hs : swapsWith value (some (.Attribute o f pos')) pos.line X.env = pure false := by rfl) : PS X (.Assign [.Attribute o f pos'] value pos) (cSetF X.K ta tv f) := by
  refine weakS (ps_fld ha hv hs) fun D σ H h => ?_
  have h' : tv σ H fun y H1 => ta σ H1 (onR fun a H2 => SetF X.K H2 a f y fun H' => D.nx σ H') := h
  simp only [onR_eq] at h'
  have e3 : ∀ (x y : V) (H2 : Hp), (∃ a, x = V.ref a ∧ SetF X.K H2 a f y fun H' => D.nx σ H') = ∃ a C dx fs, x = .ref a ∧ H2 a = some (.ins C dx fs) ∧ Cls X.K C ∧ NoAttr X.K C f ∧ fs.length < 1000 ∧ D.nx σ (upd H2 a (.ins C dx (putF f y fs))) := fun x y H2 => by
    apply propext
    constructor
    · rintro ⟨a, h, ⟨C, dx, fs, h1, h2, h3, h4, h5⟩⟩
      exact ⟨a, C, dx, fs, h, h1, h2, h3, h4, h5⟩
    · rintro ⟨a, C, dx, fs, h, h1, h2, h3, h4, h5⟩
      exact ⟨a, h, ⟨C, dx, fs, h1, h2, h3, h4, h5⟩⟩
  simp only [e3] at h'
  exact h'
end
end CL
set_option Elab.async false
set_option linter.all false
set_option maxRecDepth 100000
set_option maxHeartbeats 2000000
namespace CL
open PySem PySem.Spec PyProof.Rows L2 RZ SkE
def rLenC (K : PySem.W.Frag) : List V → Hp → VK → Prop := fun xs H Q => match xs with
  | [.str s] => Chk (s.length ≤ sizeLine) (Q (.int s.length) H)
  | [.ref p] => Sq K H p fun ys => Q (.int ys.length) H
  | _ => False
def rAbsC : List V → Hp → VK → Prop := fun xs H Q => match xs with
  | [.int i] => Q (.int (if i < 0 then -i else i)) H
  | _ => False
def rStrC : List V → Hp → VK → Prop := fun xs H Q => match xs with
  | [.int i] => Chk (i.natAbs.log2 < 1920) (Q (.str (toString i)) H)
  | [.str s] => Q (.str s) H
  | _ => False
def rListC (K : PySem.W.Frag) : List V → Hp → VK → Prop := fun xs H Q => match xs with
  | [.ref p] => Sq K H p fun ys => New H (.lst ys) fun q H' => Q (.ref q) H'
  | _ => False
structure TupR (K : PySem.W.Frag) (H : Hp) (p : Addr) (Q : VK) : Prop where
  ex : ∃ ys, (SqL K H p ys ∧ New H (.tup ys) fun q H' => Q (.ref q) H') ∨ (SqT K H p ys ∧ Q (.ref p) H)
def rTupC (K : PySem.W.Frag) : List V → Hp → VK → Prop := fun xs H Q => match xs with
  | [.ref p] => TupR K H p Q
  | _ => False
/-- isinstance: a built-in class, or what stands at c: an own class, or a new tuple of classes -/
structure IsR (K : PySem.W.Frag) (H : Hp) (x : V) (c : Addr) (k : Bool → Prop) : Prop where
  ex : (∃ t b, TyX K H x t ∧ PySem.W.kitOne K t (.ref c) = some b ∧ k b) ∨
    ∃ cs us t b, H c = some (.tup cs) ∧ Paired ClsV cs us ∧ TyX K H x t ∧ PySem.W.kitAny K t us = some b ∧ k b
def rIsC (K : PySem.W.Frag) : List V → Hp → VK → Prop := fun xs H Q => match xs with
  | [x, .ty n] => IsI K H x (.type n) fun b => Q (.bl b) H
  | [x, .ref c] => IsR K H x c fun b => Q (.bl b) H
  | _ => False
section
variable {X : Cx}
theorem k_len : CallR X (.builtin "len") (rLenC X.K) := by
  intro pins s σ H xs us Q I r h
  unfold rLenC at h
  split at h
  · exact call_len pins s σ H _ us Q I r ⟨_, _, rfl, ⟨h.p, rfl⟩, h.k⟩
  · obtain ⟨⟨ys, h1, h2⟩⟩ := h
    exact call_len_seq pins s σ H _ us Q I r ⟨_, _, rfl, h1, h2⟩
  · exact h.elim
theorem k_abs : CallR X (.builtin "abs") rAbsC := by
  intro pins s σ H xs us Q I r h
  unfold rAbsC at h
  split at h
  · exact call_abs pins s σ H _ us Q I r ⟨_, rfl, h⟩
  · exact h.elim
theorem k_str : CallR X (.type "str") rStrC := by
  intro pins s σ H xs us Q I r h
  unfold rStrC at h
  split at h
  · exact call_str_int pins s σ H _ us Q I r ⟨_, rfl, h.p, h.k⟩
  · exact call_str_str pins s σ H _ us Q I r ⟨_, rfl, h⟩
  · exact h.elim
theorem k_list : CallR X (.type "list") (rListC X.K) := by
  intro pins s σ H xs us Q I r h
  unfold rListC at h
  split at h
  · obtain ⟨⟨ys, h1, h2⟩⟩ := h
    exact call_list_of pins s σ H _ us Q I r ⟨_, _, rfl, h1, h2.k⟩
  · exact h.elim
theorem k_tuple : CallR X (.type "tuple") (rTupC X.K) := by
  intro pins s σ H xs us Q I r h
  unfold rTupC at h
  split at h
  · obtain ⟨⟨ys, ⟨h1, h2⟩ | ⟨h1, h2⟩⟩⟩ := h
    · exact call_tuple_of pins s σ H _ us Q I r ⟨_, _, rfl, .inl ⟨h1, h2.k⟩⟩
    · exact call_tuple_of pins s σ H _ us Q I r ⟨_, _, rfl, .inr ⟨h1, h2⟩⟩
  · exact h.elim
theorem k_isi : CallR X (.builtin "isinstance") (rIsC X.K) := by
  intro pins s σ H xs us Q I r h
  unfold rIsC at h
  split at h
  · obtain ⟨⟨t, b, h1, h2, h3⟩⟩ := h
    exact call_isi pins s σ H _ us Q I r ⟨_, _, t, _, b, rfl, .ty _, h1, h2, h3⟩
  · obtain ⟨⟨t, b, h1, h2, h3⟩ | ⟨cs, ws, t, b, h1, h2, h3, h4, h5⟩⟩ := h
    · exact call_isi pins s σ H _ us Q I r ⟨_, _, t, _, b, rfl, .own _, h1, h2, h3⟩
    · exact call_isiT pins s σ H _ us Q I r ⟨_, _, cs, t, ws, b, rfl, h1, h2, h3, h4, h5⟩
  · exact h.elim
end
def cCall (sp : Sp) (dvs : List V) (E : XK) (t : TA) : TE := fun σ H Q => t σ H fun vs H1 => Ask (sp (vs ++ dvs) H1 Q E)
theorem ask_eq {P : Prop} : Ask P = P := propext ⟨fun h => h.a, fun h => ⟨h⟩⟩
section
variable {X : Cx} {e : Expr} {es : List Expr} {t : TA} {x : Str} {p pos : Pos} {CX : CXT} {k : Nat} {f C : Addr} {fd : FuncData} {ps : List Str} {sp : Sp} {E : XK} {ds : List Value} {dvs : List V}
theorem e_call (F : FnOk X.prog X.w X.K X.mg X.base CX k f fd ps sp) (hr : Room k X.A) (hg : Gl X x) (hm : X.mg x = some (.ref f)) (hk : PySem.W.keepIn X.K (.ref f) = true) (hb : Binds X.K fd ps ds) (hd : Vals dvs ds) (hx : Passes CX X E)
    (ha : PA X (e :: es) t) (hdb : (x == ("__debug__" : Str)) = false := by decide) (he : starEach (e :: es) X.env = (false, eval e X.env) :: starEach es X.env := by rfl) (hpl : (backTo pos (starEach es X.env)).any (·.1) = false := by rfl) :
    PE X (.Call (.Name x p) (e :: es) [] pos) (cCall sp dvs E t) := by
  have e2 : cCall sp dvs E t = tCall sp dvs E t := by
    funext σ H Q
    unfold cCall tCall
    simp only [ask_eq]
  rw [e2]
  exact pe_call F hr hg hm hk hb hd hx ha hdb he hpl
def cMake (C : Addr) (sp : Sp) (dvs : List V) (E : XK) (t : TA) : TE := fun σ H Q => t σ H fun vs H1 => Ask (∀ x dx, H1 x = none → H1 dx = none → dx ≠ x → sp (.ref x :: (vs ++ dvs)) (upd (upd H1 dx (.own x)) x (.ins C dx [])) (fun v H2 => v = .non ∧ Q (.ref x) H2) E)
theorem e_make (M : Mk X.K C f) (F : FnOk X.prog X.w X.K X.mg X.base CX k f fd ps sp) (hr : Room (k + 1) X.A) (hg : Gl X x) (hm : X.mg x = some (.ref C)) (hb : Binds X.K fd ps ds) (hd : Vals dvs ds) (hx : Passes CX X E)
    (ha : PA X (e :: es) t) (hdb : (x == ("__debug__" : Str)) = false := by decide) (he : starEach (e :: es) X.env = (false, eval e X.env) :: starEach es X.env := by rfl) (hpl : (backTo pos (starEach es X.env)).any (·.1) = false := by rfl) :
    PE X (.Call (.Name x p) (e :: es) [] pos) (cMake C sp dvs E t) := by
  have e2 : cMake C sp dvs E t = tMake C sp dvs E t := by
    funext σ H Q
    unfold cMake tMake
    simp only [ask_eq]
  rw [e2]
  exact pe_make M F hr hg hm hb hd hx ha hdb he hpl
end
structure ForW (J : It) (g : TG) (tb : TS) (D : Ends) (σ : L2.St) (H : Hp) : Prop where
  ex : ∃ W : Nat → Nat → L2.St → Hp → Prop, (∃ m, W 0 m σ H) ∧ ∀ i m σ H, W i m σ H →
    (J.stop i H ∧ D.nx σ H) ∨ (J.go i H ∧ ∃ N : L2.St → Hp → Prop, (∀ σ' H', N σ' H' → ∃ m', m' < m ∧ W (i + 1) m' σ' H') ∧ ∀ x H', J.yld i H x H' → g x σ H' fun σ2 H2 => tb { D with nx := N, ct := N, bk := D.nx } σ2 H2)
def cFor (wi : TI) (g : TG) (tb : TS) : TS := fun D σ H => wi σ H fun J H1 => ForW J g tb D σ H1
theorem forw_eq {J : It} {g : TG} {tb : TS} {D : Ends} {σ : L2.St} {H : Hp} : ForW J g tb D σ H = (∃ W : Nat → Nat → L2.St → Hp → Prop, (∃ m, W 0 m σ H) ∧ ∀ i m σ H, W i m σ H →
    (J.stop i H ∧ D.nx σ H) ∨ (J.go i H ∧ ∃ N : L2.St → Hp → Prop, (∀ σ' H', N σ' H' → ∃ m', m' < m ∧ W (i + 1) m' σ' H') ∧ ∀ x H', J.yld i H x H' → g x σ H' fun σ2 H2 => tb { D with nx := N, ct := N, bk := D.nx } σ2 H2)) := propext ⟨fun h => h.ex, fun h => ⟨h⟩⟩
section
variable {X : Cx} {tg : Expr}
theorem s_for {iter : Expr} {body : List Stmt} {wi : TI} {g : TG} {tb : TS} {pos : Pos} (hp : PassesOwn (model X.prog X.w) X.A X.env X.xe) (hc : X.calm = true) (hi : PI X tg iter wi) (hg : PG X tg g) (hb : PSs X body tb)
    (hs : ∀ x, foldedSetIterable iter X.env x = pure x := by intro _; rfl) : PS X (.For tg iter body [] pos) (cFor wi g tb) := by
  have e2 : cFor wi g tb = tFor wi g tb := by
    funext D σ H
    unfold cFor tFor
    simp only [forw_eq]
  rw [e2]
  exact ps_for hp hc hi hg hb hs
def onI1 (k : Int → Hp → Prop) : List V → Hp → Prop := fun xs H => match xs with
  | [.int i] => k i H
  | _ => False
theorem onI1_eq (k : Int → Hp → Prop) : onI1 k = fun xs H => ∃ i, xs = [.int i] ∧ k i H := by
  funext x H
  apply propext
  unfold onI1
  constructor
  · intro h
    split at h
    · exact ⟨_, rfl, h⟩
    · exact h.elim
  · rintro ⟨c, rfl, h⟩
    exact h
def cRng1 (ta : TA) : TI := fun σ H R => ta σ H (onI1 fun j H1 => Chk (-(2 ^ 62) ≤ j ∧ j < 2 ^ 62) (R (Itr 0 j.toNat) H1))
theorem i_range1 {a : Expr} {ta : TA} {p pos : Pos} (hg : Gl X "range") (hm : X.mg "range" = none) (ha : PA X [a] ta) (hs : starEach [a] X.env = [(false, eval a X.env)] := by rfl) : PI X tg (.Call (.Name "range" p) [a] [] pos) (cRng1 ta) := by
  have e2 : cRng1 ta = iRng1 ta := by
    funext σ H R
    unfold cRng1 iRng1
    simp only [onI1_eq, chk_eq, and_assoc]
  rw [e2]
  exact pi_range1 hg hm ha hs
/-- over what a value is: a list or a tuple -/
structure ItS (K : PySem.W.Frag) (H : Hp) (a : Addr) (R : It → Hp → Prop) : Prop where
  ex : ((∃ xs, SqL K H a xs) ∧ R (Itl K a) H) ∨ ((∃ xs, SqT K H a xs) ∧ R (Itt K a) H)
end
/-- two lists or two tuples, zipped -/
structure ItZ (K : PySem.W.Frag) (H : Hp) (a b : Addr) (R : It → Hp → Prop) : Prop where
  ex : ∃ xs ys, (SqL K H a xs ∧ SqL K H b ys ∧ R (Itz K a b) H) ∨ (SqT K H a xs ∧ SqT K H b ys ∧ R (ItzT K a b) H)
def onRR (k : Addr → Addr → Hp → Prop) : List V → Hp → Prop := fun xs H => match xs with
  | [.ref a, .ref b] => k a b H
  | _ => False
theorem onRR_ok {k : Addr → Addr → Hp → Prop} {xs : List V} {H : Hp} (h : onRR k xs H) : ∃ a b, xs = [.ref a, .ref b] ∧ k a b H := by
  unfold onRR at h
  split at h
  · exact ⟨_, _, rfl, h⟩
  · exact h.elim
/-- an argument list's reading may be weakened -/
def cZip (K : PySem.W.Frag) (ta : TA) : TI := fun σ H R => ta σ H (onRR fun a b H1 => ItZ K H1 a b R)
theorem i_zip {X : Cx} {e e2 : Expr} {ta : TA} {p pos tpos : Pos} {elts : List Expr} {kk : Nat} (hg : Gl X "zip") (hm : X.mg "zip" = none) (ha : PA X [e, e2] ta)
    (hs : starEach [e, e2] X.env = (false, eval e X.env) :: starEach [e2] X.env := by rfl) (hpl : (backTo pos (starEach [e2] X.env)).any (·.1) = false := by rfl) :
    PI X (.Tuple elts kk tpos) (.Call (.Name "zip" p) [e, e2] [] pos) (cZip X.K ta) := by
  have e2 : cZip X.K ta = iZipA X.K ta := by
    funext σ H R
    unfold cZip iZipA
    have e3 : (onRR fun a b H1 => ItZ X.K H1 a b R) = fun vs H1 => ∃ a b xs ys, vs = [V.ref a, V.ref b] ∧ ((SqL X.K H1 a xs ∧ SqL X.K H1 b ys ∧ R (Itz X.K a b) H1) ∨ (SqT X.K H1 a xs ∧ SqT X.K H1 b ys ∧ R (ItzT X.K a b) H1)) := by
      funext vs H1
      apply propext
      constructor
      · intro h
        obtain ⟨a, b, rfl, ⟨xs, ys, q⟩⟩ := onRR_ok h
        exact ⟨a, b, xs, ys, rfl, q⟩
      · rintro ⟨a, b, xs, ys, rfl, q⟩
        exact ⟨xs, ys, q⟩
    rw [e3]
  rw [e2]
  exact pi_zipA hg hm ha hs hpl
structure ItE (K : PySem.W.Frag) (H : Hp) (a : Addr) (R : It → Hp → Prop) : Prop where
  ex : (∃ xs, SqL K H a xs) ∧ R (Ite K a) H
def onR1 (k : Addr → Hp → Prop) : List V → Hp → Prop := fun xs H => match xs with
  | [.ref a] => k a H
  | _ => False
theorem onR1_ok {k : Addr → Hp → Prop} {xs : List V} {H : Hp} (h : onR1 k xs H) : ∃ a, xs = [.ref a] ∧ k a H := by
  unfold onR1 at h
  split at h
  · exact ⟨_, rfl, h⟩
  · exact h.elim
def cEnum (K : PySem.W.Frag) (ta : TA) : TI := fun σ H R => ta σ H (onR1 fun a H1 => ItE K H1 a R)
theorem i_enum {X : Cx} {e : Expr} {ta : TA} {p pos tpos : Pos} {elts : List Expr} {kk : Nat} (hg : Gl X "enumerate") (hm : X.mg "enumerate" = none) (ha : PA X [e] ta) (hs : starEach [e] X.env = [(false, eval e X.env)] := by rfl) :
    PI X (.Tuple elts kk tpos) (.Call (.Name "enumerate" p) [e] [] pos) (cEnum X.K ta) := by
  have e2 : cEnum X.K ta = iEnum X.K ta := by
    funext σ H R
    unfold cEnum iEnum
    have e3 : (onR1 fun a H1 => ItE X.K H1 a R) = fun vs H1 => ∃ a xs, vs = [V.ref a] ∧ SqL X.K H1 a xs ∧ R (Ite X.K a) H1 := by
      funext vs H1
      apply propext
      constructor
      · intro h
        obtain ⟨a, rfl, ⟨⟨xs, q⟩, r⟩⟩ := onR1_ok h
        exact ⟨a, xs, rfl, q, r⟩
      · rintro ⟨a, xs, rfl, q, r⟩
        exact ⟨⟨xs, q⟩, r⟩
    rw [e3]
  rw [e2]
  exact pi_enum hg hm ha hs
structure UnT (K : PySem.W.Frag) (H : Hp) (a : Addr) (n : Nat) (k : List V → Prop) : Prop where
  ex : ∃ xs, SqT K H a xs ∧ xs.length = n ∧ k xs
def cGNil : TGs := fun vs σ H Q => match vs with
  | [] => Q σ H
  | _ => False
def cGCons (t : TG) (u : TGs) : TGs := fun vs σ H Q => match vs with
  | v :: r => t v σ H fun σ' H' => u r σ' H' Q
  | _ => False
def cGTup (K : PySem.W.Frag) (n : Nat) (t : TGs) : TG := fun v σ H Q => match v with
  | .ref a => UnT K H a n fun xs => t xs σ H Q
  | _ => False
section
variable {X : Cx} {pos : Pos}
theorem weakG {e : Expr} {t t' : TG} (h : PG X e t) (w : ∀ v σ H Q, t' v σ H Q → t v σ H Q) : PG X e t' := ⟨fun pins s σ H v u Q I r q => h.run pins s σ H v u Q I r (w _ _ _ _ q)⟩
theorem weakGs {e : List Expr} {t t' : TGs} (h : PGs X e t) (w : ∀ v σ H Q, t' v σ H Q → t v σ H Q) : PGs X e t' := ⟨fun pins s σ H v u Q I r q => h.run pins s σ H v u Q I r (w _ _ _ _ q)⟩
theorem g_nil : PGs X [] cGNil := weakGs pgs_nil fun vs σ H Q h => by
  unfold cGNil at h
  split at h
  · exact ⟨rfl, h⟩
  · exact h.elim
theorem g_cons {e : Expr} {es : List Expr} {t : TG} {u : TGs} (h1 : PG X e t) (h2 : PGs X es u)
    (hs : (assignEach (e :: es) X.env).map (·.2) = assign e X.env :: (assignEach es X.env).map (·.2) := by rfl) : PGs X (e :: es) (cGCons t u) := weakGs (pgs_cons h1 h2 hs) fun vs σ H Q h => by
  unfold cGCons at h
  split at h
  · exact ⟨_, _, rfl, h⟩
  · exact h.elim
theorem g_tup {es : List Expr} {k : Nat} {t : TGs} {n : Nat} (hc : X.calm = true) (h : PGs X es t)
    (hn : (assignEach es X.env).length = n := by rfl) (hst : (assignEach es X.env).findIdx? (·.1) = none := by rfl) : PG X (.Tuple es k pos) (cGTup X.K n t) := weakG (pg_tup hc h hn hst) fun v σ H Q q => by
  unfold cGTup at q
  split at q
  · obtain ⟨⟨xs, h1, h2, h3⟩⟩ := q
    exact ⟨_, xs, rfl, h1, h2, h3⟩
  · exact q.elim
/-- o[i] = v in a list -/
structure SetL (H : Hp) (p : Addr) (k : Int) (v : V) (Q : Hp → Prop) : Prop where
  ex : ∃ xs j, H p = some (.lst xs) ∧ ixN xs.length k = some j ∧ Q (upd H p (.lst (xs.set j v)))
def rSetC : V → V → V → Hp → (Hp → Prop) → Prop := fun o i v H Q => match o, i with
  | .ref p, .int k => SetL H p k v Q
  | _, _ => False
theorem p_set : PSet X rSetC := by
  intro pins s σ H o i v ov iv u Q I ro ri rv h
  unfold rSetC at h
  split at h
  · obtain ⟨⟨xs, j, h1, h2, h3⟩⟩ := h
    exact set_list pins s σ H _ _ _ _ _ _ Q I ro ri rv ⟨_, xs, _, j, rfl, rfl, h1, h2, h3⟩
  · exact h.elim
/-- xs.append(e), a statement -/
def rAppC : V → List V → Hp → VK → Prop := fun x vs H Q => match x, vs with
  | .ref l, [y] => Ls H l fun xs => Chk (xs.length < sizeLine) (Q .non (upd H l (.lst (xs ++ [y]))))
  | _, _ => False
end
end CL
set_option Elab.async false
set_option linter.all false
set_option maxRecDepth 100000
set_option maxHeartbeats 2000000
namespace CL
open PySem PySem.Spec PyProof.Rows L2 RZ SkE
section
variable {X : Cx}
theorem m_append : MtR X "list.append" rAppC := by
  intro pins s σ H x xs v us Q I rx rs h
  unfold rAppC at h
  split at h
  · obtain ⟨⟨ys, h1, h2⟩⟩ := h
    exact mt_append pins s σ H _ _ v us Q I rx rs ⟨_, _, _, rfl, rfl, h1, h2.p, h2.k⟩
  · exact h.elim
end
structure LcW (J : It) (g : TG) (tt : TT) (te : TE) (vs : List Nat) (σ : L2.St) (D : Addr) (Qd : Hp → Prop) (H0 : Hp) : Prop where
  ex : ∃ W : Nat → Nat → Hp → Prop, (∃ m, W 0 m (upd H0 D (.lst []))) ∧ ∀ i m H, W i m H → (J.stop i H ∧ Qd H) ∨ (J.go i H ∧ ∃ Nx : Hp → Prop, (∀ H', Nx H' → ∃ m', m' < m ∧ W (i + 1) m' H') ∧
    ∀ x H', J.yld i H x H' → g x (wipe σ vs) H' fun σ2 H2 => wipe σ2 vs = wipe σ vs ∧ tt σ2 H2 fun b H3 => if b = true then te σ2 H3 fun y H4 => ∃ acc, H4 D = some (.lst acc) ∧ acc.length < sizeLine ∧ Nx (upd H4 D (.lst (acc ++ [y]))) else Nx H3)
structure NewA (H : Hp) (k : Addr → Prop) : Prop where
  k : ∀ p, H p = none → k p
def cLc (wi : TI) (g : TG) (tt : TT) (te : TE) (vs : List Nat) : TE := fun σ H Q => wi σ H fun J H1 => NewA H1 fun D => LcW J g tt te vs σ D (fun H' => Q (.ref D) H') H1
theorem lcw_eq {J : It} {g : TG} {tt : TT} {te : TE} {vs : List Nat} {σ : L2.St} {D : Addr} {Qd : Hp → Prop} {H0 : Hp} : LcW J g tt te vs σ D Qd H0 = ∃ W : Nat → Nat → Hp → Prop, (∃ m, W 0 m (upd H0 D (.lst []))) ∧ ∀ i m H, W i m H → (J.stop i H ∧ Qd H) ∨ (J.go i H ∧ ∃ Nx : Hp → Prop, (∀ H', Nx H' → ∃ m', m' < m ∧ W (i + 1) m' H') ∧
    ∀ x H', J.yld i H x H' → g x (wipe σ vs) H' fun σ2 H2 => wipe σ2 vs = wipe σ vs ∧ tt σ2 H2 fun b H3 => if b = true then te σ2 H3 fun y H4 => ∃ acc, H4 D = some (.lst acc) ∧ acc.length < sizeLine ∧ Nx (upd H4 D (.lst (acc ++ [y]))) else Nx H3) := propext ⟨fun h => h.ex, fun h => ⟨h⟩⟩
theorem newa_eq {H : Hp} {k : Addr → Prop} : NewA H k = ∀ p, H p = none → k p := propext ⟨fun h => h.k, fun h => ⟨h⟩⟩
theorem clc_eq {wi : TI} {g : TG} {tt : TT} {te : TE} {vs : List Nat} : cLc wi g tt te vs = tLc wi g tt te vs := by
  funext σ H Q
  unfold cLc tLc
  simp only [newa_eq, lcw_eq]
section
variable {X : Cx} {elt tg iter : Expr} {ifs : List Expr} {scope : Scope} {own : List (Str × Nat)} {pos : Pos} {wi : TI} {g : TG} {tt : TT} {te : TE}
theorem e_lc (hc : X.calm = true) (hN : X.N.Nodup) (hi : PI X tg iter wi) (ok : BlkOk X.N X.env.scope scope own)
    (hg : ∀ (s : Shared) (H : Hp) (C : Addr) (cl : List (Str × Addr)) (fp : List Addr), PG (X.blk s H scope (compEnvC scope cl C X.env) fp) tg g)
    (ht : ∀ (s : Shared) (H : Hp) (C : Addr) (cl : List (Str × Addr)) (fp : List Addr), PTs (X.blk s H scope (compEnvC scope cl C X.env) fp) ifs tt)
    (he : ∀ (s : Shared) (H : Hp) (C : Addr) (cl : List (Str × Addr)) (fp : List Addr), PE (X.blk s H scope (compEnvC scope cl C X.env) fp) elt te)
    (hs : ∀ x, foldedSetIterable iter X.env x = pure x := by intro _; rfl) :
    PE X (.ListComp elt [⟨tg, iter, ifs, 0⟩] scope pos) (cLc wi g tt te (own.map (·.2))) := by
  rw [clc_eq]
  exact pe_lc hc hN hi ok hg ht he hs
end
def cPar (i j : Nat) (ta : TA) : TS := fun D σ H => ta σ H fun vs H1 => match vs with
  | [v, w] => D.nx ((σ.set i (some v)).set j (some w)) H1
  | _ => False
theorem s_par {X : Cx} {pos : Pos} {i j : Nat} {x y : Str} {a b : Expr} {ta : TA} {px py pt : Pos} {kt k2 pt2} (hc : X.calm = true) (hN : X.N.Nodup) (hi : X.N[i]? = some x) (hj : X.N[j]? = some y) (hij : i ≠ j)
    (hx : X.env.scope.names.lookup x = some .local) (hy : X.env.scope.names.lookup y = some .local) (ha : PA X [a, b] ta)
    (hw : swappedStores [.Tuple [.Name x px, .Name y py] kt pt] (.Tuple [a, b] k2 pt2) X.env = pure (some [x, y]))
    (hs : swapsWithSole [.Tuple [.Name x px, .Name y py] kt pt] (.Tuple [a, b] k2 pt2) pos.line X.env = pure false := by rfl) :
    PS X (.Assign [.Tuple [.Name x px, .Name y py] kt pt] (.Tuple [a, b] k2 pt2) pos) (cPar i j ta) := by
  have e : cPar i j ta = tPar i j ta := by
    funext D σ H
    unfold cPar tPar
    have e2 : (fun (vs : List V) (H1 : Hp) => (match vs with | [v, w] => D.nx ((σ.set i (some v)).set j (some w)) H1 | _ => False)) = fun vs H1 => ∃ v w, vs = [v, w] ∧ D.nx ((σ.set i (some v)).set j (some w)) H1 := by
      funext vs H1
      apply propext
      constructor
      · intro h
        split at h
        · exact ⟨_, _, rfl, h⟩
        · exact h.elim
      · rintro ⟨v, w, rfl, h⟩
        exact h
    rw [e2]
  rw [e]
  exact ps_par hc hN hi hj hij hx hy ha hw hs
theorem Same.up {H H' : Hp} (e : Same H H') {a : Addr} {o : HO} (h : H a = some o) : H' a = some o := e a o h
/-- all but b is as it was -/
def But (b : Addr) (H H' : Hp) : Prop := ∀ a o, a ≠ b → H a = some o → H' a = some o
theorem But.up {b : Addr} {H H' : Hp} (e : But b H H') {a : Addr} {o : HO} (n : a ≠ b) (h : H a = some o) : H' a = some o := e a o n h
theorem upd_to {H : Hp} {a b : Addr} {o : HO} {r : Option HO} (n : b ≠ a) (h : H b = r) : upd H a o b = r := by rw [upd_ne n]; exact h
theorem At.nat {α : Type} {xs : List α} {i : Int} {k : α → Prop} {v : α} (j : Nat) (e : i = (j : Int)) (h : xs[j]? = some v) (q : k v) : At xs i k := ⟨v, by rw [e]; exact atI_nat h, q⟩
end CL
set_option Elab.async false
set_option linter.all false
set_option maxRecDepth 100000
set_option maxHeartbeats 2000000
namespace CL
open PySem PySem.Spec PyProof.Rows L2 RZ SkE
section
variable {X : Cx} {CX : CXT} {n : Nat} {f C : Addr} {fd : FuncData} {ps : List Str} {sp : Sp} {E : XK}
/-- a def run below the body, where there is room -/
theorem run_at {A : Around} {pins : List (Addr × Obj)} {σ : L2.St} {H : Hp} {s : Shared} {Q : VK} {us : List Value} {vs : List V} (F : FnOk X.prog X.w X.K X.mg X.base CX n f fd ps sp) (hb : Binds X.K fd ps []) (hx : Passes CX X E) (room : Room n A) (fr : A.frames = X.A.frames)
    (I : Inv X pins σ H s) (r : Vals vs us) (h : sp vs H Q E) : wpAny (model X.prog X.w) A (call (.ref f) us) (EP X pins σ Q) X.xe s := by
  have e := I.env0
  have e1 : Env0 X.prog X.w X.K X.mg X.base A X.stack s H := ⟨by rw [fr]; exact e.frames, e.mod, e.bs, e.bsz, e.funs, e.frf, e.hok, e.bare⟩
  have hl : (us ++ []).length = ps.length := by
    rw [List.append_nil, ← r.length]
    exact F.len _ _ _ _ h
  have b1 := hb s us I.kIn hl
  rw [List.append_nil] at b1
  refine wpAny_call (codeAny_mono (F.run A X.stack s H ⟨us, []⟩ us vs Q E room e1 b1 r h) fun res s' hq => ?_)
  cases res with
  | error er => exact hx pins σ H s er s' I hq
  | ok fl =>
    cases fl with
    | ret u => exact I.after hq
    | next => exact False.elim hq
    | brk => exact False.elim hq
    | cont => exact False.elim hq
/-- an instance as the machine sees it -/
theorem inst_at {pins : List (Addr × Obj)} {σ : L2.St} {H : Hp} {s : Shared} {a dx : Addr} {fs : List (Str × V)} (I : Inv X pins σ H s) (h : H a = some (.ins C dx fs)) : ∃ od, PySem.W.InstAt s.heap a (PySem.W.instObj C dx) C (some od) := by
  obtain ⟨mA, J, _⟩ := ins_get I.hok h
  obtain ⟨od, J, _⟩ := J.look
  exact ⟨od, J⟩
/-- str(x): an int, a text, an instance with an own __str__ -/
def BackS (Q : VK) : VK := fun v H => match v with
  | .str z => Q (.str z) H
  | _ => False
structure OwnS (C : Addr) (sp : Sp) (E : XK) (a : Addr) (H : Hp) (Q : VK) : Prop where
  ex : ∃ dx fs, H a = some (.ins C dx fs) ∧ sp [.ref a] H (BackS Q) E
def rStrO (C : Addr) (sp : Sp) (E : XK) : List V → Hp → VK → Prop := fun xs H Q => match xs with
  | [.ref a] => OwnS C sp E a H Q
  | ys => rStrC ys H Q
theorem k_strO (F : FnOk X.prog X.w X.K X.mg X.base CX n f fd ps sp) (hb : Binds X.K fd ps []) (hx : Passes CX X E) (room : Room (n + 2) X.A)
    (hs : PySem.W.findIn X.K (.ref C) "__str__" = some (some (.ref f))) (hf : PySem.W.isFn X.K (.ref f) = true) : CallR X (.type "str") (rStrO C sp E) := by
  intro pins s σ H xs us Q I r h
  unfold rStrO at h
  split at h
  · rename_i a
    obtain ⟨⟨dx, fs, h1, h2⟩⟩ := h
    obtain ⟨u, rfl, ru⟩ := vals1 r
    cases ru
    obtain ⟨od, J⟩ := inst_at I h1
    have r2 : Room n X.A.in1.in1 := (show Room (n + 1) X.A.in1 from room.in1).in1
    refine PySem.W.kso_call r2.units0 I.kIn J hs hf ?_
    refine wpAny_mono (run_at F hb hx r2 rfl I (vs := [.ref a]) (.cons rfl .nil) h2) (fun v s' q => ?_) fun _ _ z => z
    obtain ⟨w, H', I', rw', q'⟩ := q
    unfold BackS at q'
    split at q'
    · rename_i z0
      obtain ⟨t, rfl⟩ := rw'
      exact ⟨.str z0, H', I', ⟨t, rfl⟩, q'⟩
    · exact q'.elim
  · exact k_str pins s σ H xs us Q I r h
end
end CL
set_option Elab.async false
set_option linter.all false
set_option maxRecDepth 100000
set_option maxHeartbeats 2000000
namespace CL
open PySem PySem.Spec PyProof.Rows L2 RZ SkE
def cFmt (te : TE) : TE := fun σ H Q => te σ H fun x H1 => match x with
  | .str y => Chk (y.length ≤ sizeLine) (Q (.str y) H1)
  | .int i => Chk (i.natAbs.log2 < 1920) (Q (.str (toString i)) H1)
  | _ => False
def onF (Q : VK) : VK := fun x H1 => match x with
  | .str y => Chk (y.length ≤ sizeLine) (Q (.str y) H1)
  | .int i => Chk (i.natAbs.log2 < 1920) (Q (.str (toString i)) H1)
  | _ => False
theorem onF_ok {Q : VK} {x : V} {H : Hp} : onF Q x H = ((∃ y : Str, x = .str y ∧ y.length ≤ sizeLine ∧ Q (.str y) H) ∨ ∃ i : Int, x = .int i ∧ i.natAbs.log2 < 1920 ∧ Q (.str (toString i)) H) := by
  apply propext
  unfold onF
  constructor
  · intro h
    split at h
    · exact .inl ⟨_, rfl, h.p, h.k⟩
    · exact .inr ⟨_, rfl, h.p, h.k⟩
    · exact h.elim
  · rintro (⟨y, rfl, h, q⟩ | ⟨i, rfl, h, q⟩)
    · exact ⟨h, q⟩
    · exact ⟨h, q⟩
section
variable {X : Cx} {e : Expr} {te : TE} {pos : Pos}
theorem e_fmt (he : PE X e te) : PE X (.FormattedValue e (-1) none pos) (cFmt te) := by
  have e2 : cFmt te = tFmt te := by
    funext σ H Q
    show te σ H (onF Q) = _
    have e3 : onF Q = fun x H1 => ((∃ y : Str, x = .str y ∧ y.length ≤ sizeLine ∧ Q (.str y) H1) ∨ ∃ i : Int, x = .int i ∧ i.natAbs.log2 < 1920 ∧ Q (.str (toString i)) H1) := by
      funext x H1
      exact onF_ok
    rw [e3]
    rfl
  rw [e2]
  exact pe_fmt he
def cJs : List TE → Str → L2.St → Hp → (Str → Hp → Prop) → Prop
  | [], acc, _, H, Q => Q acc H
  | t :: ts, acc, σ, H, Q => t σ H fun x H1 => match x with
    | .str y => Chk ((acc ++ y).length ≤ sizeLine) (cJs ts (acc ++ y) σ H1 Q)
    | _ => False
def onJ (k : Str → Hp → Prop) : VK := fun x H => match x with
  | .str y => k y H
  | _ => False
theorem onJ_eq (k : Str → Hp → Prop) : onJ k = fun x H => ∃ y, x = .str y ∧ k y H := by
  funext x H
  apply propext
  unfold onJ
  constructor
  · intro h
    split at h
    · exact ⟨_, rfl, h⟩
    · exact h.elim
  · rintro ⟨y, rfl, h⟩
    exact h
theorem cJs_eq : ∀ (ts : List TE) (acc : Str) (σ : L2.St) (H : Hp) (Q : Str → Hp → Prop), cJs ts acc σ H Q = tJs ts acc σ H Q
  | [], _, _, _, _ => rfl
  | t :: ts, acc, σ, H, Q => by
    show t σ H (onJ fun y H1 => Chk ((acc ++ y).length ≤ sizeLine) (cJs ts (acc ++ y) σ H1 Q)) = _
    rw [onJ_eq]
    simp only [chk_eq, cJs_eq ts]
    rfl
theorem e_joined {v1 v2 : Expr} {rest : List Expr} {ts : List TE} {pos : Pos} (h : PJ X (v1 :: v2 :: rest) ts) : PE X (.JoinedStr (v1 :: v2 :: rest) pos) (fun σ H Q => cJs ts Str.empty σ H fun out H1 => Q (.str out) H1) := by
  simp only [cJs_eq]
  exact pe_joined h
end
def cPart (t : TE) : TO := fun σ H Q => t σ H fun x H1 => match x with
  | .int i => Q (some i) H1
  | _ => False
def onZ (k : Int → Hp → Prop) : VK := fun x H => match x with
  | .int i => k i H
  | _ => False
theorem onZ_eq (k : Int → Hp → Prop) : onZ k = fun x H => ∃ i, x = .int i ∧ k i H := by
  funext x H
  apply propext
  unfold onZ
  constructor
  · intro h
    split at h
    · exact ⟨_, rfl, h⟩
    · exact h.elim
  · rintro ⟨c, rfl, h⟩
    exact h
theorem o_some {X : Cx} {e : Expr} {te : TE} (h : PE X e te) : PO X (some e) (cPart te) := by
  have e2 : cPart te = tPart te := by
    funext σ H Q
    show te σ H (onZ fun i H1 => Q (some i) H1) = _
    rw [onZ_eq]
    rfl
  rw [e2]
  exact po_some h
structure SlL (K : PySem.W.Frag) (H : Hp) (a : Addr) (lo hi : Option Int) (Q : VK) : Prop where
  ex : (∃ xs, SqL K H a xs ∧ New H (.lst (cutV xs lo hi)) fun p H' => Q (.ref p) H')
structure MethR (H : Hp) (C : Addr) (m : Str) (a : Addr) (k : Prop) : Prop where
  ex : ∃ dx fs, H a = some (.ins C dx fs) ∧ fs.lookup m = none ∧ k
section
variable {K : PySem.W.Frag} {g : TG} {tb : TS} {D : Ends} {σ : L2.St} {H : Hp} {a b : Addr} {xs ys : List V}
theorem fw_range {lo : Int} {n : Nat} (Pv : Nat → L2.St → Hp → Prop) (h0 : Pv 0 σ H) (hs : ∀ i σ H, i < n → Pv i σ H → g (.int (lo + i)) σ H fun σ2 H2 => tb { D with nx := Pv (i + 1), ct := Pv (i + 1), bk := D.nx } σ2 H2) (hd : ∀ σ H, Pv n σ H → D.nx σ H) : ForW (Itr lo n) g tb D σ H := ⟨for_range Pv h0 hs hd⟩
theorem fw_list (Pv : Nat → L2.St → Hp → Prop) (h0 : Pv 0 σ H) (hl : ∀ i σ H, i ≤ xs.length → Pv i σ H → SqL K H a xs) (hs : ∀ i x σ H, xs[i]? = some x → Pv i σ H → g x σ H fun σ2 H2 => tb { D with nx := Pv (i + 1), ct := Pv (i + 1), bk := D.nx } σ2 H2)
    (hd : ∀ σ H, Pv xs.length σ H → D.nx σ H) : ForW (Itl K a) g tb D σ H := ⟨for_list Pv h0 hl hs hd⟩
theorem fw_zipT (hl : xs.length = ys.length) (Pv : Nat → L2.St → Hp → Prop) (h0 : Pv 0 σ H) (hq : ∀ i σ H, Pv i σ H → SqT K H a xs ∧ SqT K H b ys)
    (hs : ∀ (i : Nat) (x y : V) (T : Addr) (σ : L2.St) (H : Hp), xs[i]? = some x → ys[i]? = some y → Pv i σ H → H T = none → g (.ref T) σ (upd H T (.tup [x, y])) fun σ2 H2 => tb { D with nx := Pv (i + 1), ct := Pv (i + 1), bk := D.nx } σ2 H2) (hd : ∀ σ H, Pv xs.length σ H → D.nx σ H) :
    ForW (ItzT K a b) g tb D σ H := ⟨for_zipT hl Pv h0 hq hs hd⟩
variable {tt : TT} {te : TE} {vs : List Nat} {Qd : Hp → Prop} {p : Addr}
/-- one turn of a comprehension without a test -/
def LcStep (g : TG) (tt : TT) (te : TE) (vs : List Nat) (σ : L2.St) (p : Addr) (x : V) (H : Hp) (Nx : Hp → Prop) : Prop := g x (wipe σ vs) H fun σ2 H2 => wipe σ2 vs = wipe σ vs ∧ tt σ2 H2 fun b H3 =>
    if b = true then te σ2 H3 fun y H4 => ∃ acc, H4 p = some (.lst acc) ∧ acc.length < sizeLine ∧ Nx (upd H4 p (.lst (acc ++ [y]))) else Nx H3
theorem lw_range {lo : Int} {n : Nat} (Pv : Nat → Hp → Prop) (h0 : Pv 0 (upd H p (.lst []))) (hs : ∀ i H, i < n → Pv i H → LcStep g tt te vs σ p (.int (lo + i)) H (Pv (i + 1))) (hd : ∀ H, Pv n H → Qd H) : LcW (Itr lo n) g tt te vs σ p Qd H := ⟨lc_range Pv h0 hs hd⟩
theorem lw_list (Pv : Nat → Hp → Prop) (h0 : Pv 0 (upd H p (.lst []))) (hl : ∀ i H, i ≤ xs.length → Pv i H → SqL K H a xs) (hs : ∀ i x H, xs[i]? = some x → Pv i H → LcStep g tt te vs σ p x H (Pv (i + 1))) (hd : ∀ H, Pv xs.length H → Qd H) : LcW (Itl K a) g tt te vs σ p Qd H := ⟨lc_list Pv h0 hl hs hd⟩
theorem lw_tup (Pv : Nat → Hp → Prop) (h0 : Pv 0 (upd H p (.lst []))) (hl : ∀ i H, i ≤ xs.length → Pv i H → SqT K H a xs) (hs : ∀ i x H, xs[i]? = some x → Pv i H → LcStep g tt te vs σ p x H (Pv (i + 1))) (hd : ∀ H, Pv xs.length H → Qd H) : LcW (Itt K a) g tt te vs σ p Qd H := ⟨lc_tup Pv h0 hl hs hd⟩
theorem lw_zipT (hl : xs.length = ys.length) (Pv : Nat → Hp → Prop) (h0 : Pv 0 (upd H p (.lst []))) (hq : ∀ i H, Pv i H → SqT K H a xs ∧ SqT K H b ys)
    (hs : ∀ (i : Nat) (x y : V) (T : Addr) (H : Hp), xs[i]? = some x → ys[i]? = some y → Pv i H → H T = none → LcStep g tt te vs σ p (.ref T) (upd H T (.tup [x, y])) (Pv (i + 1))) (hd : ∀ H, Pv xs.length H → Qd H) : LcW (ItzT K a b) g tt te vs σ p Qd H := by
  refine ⟨fun i m H => m = xs.length - i ∧ i ≤ xs.length ∧ Pv i H, ⟨xs.length, rfl, Nat.zero_le _, h0⟩, ?_⟩
  rintro i m H' ⟨rfl, hi, pv⟩
  obtain ⟨qx, qy⟩ := hq i H' pv
  by_cases hlt : i < xs.length
  · have ix := List.getElem?_eq_getElem hlt
    have hlt2 : i < ys.length := hl ▸ hlt
    have iy := List.getElem?_eq_getElem hlt2
    refine .inr ⟨⟨xs, ys, _, _, qx, qy, ix, iy⟩, Pv (i + 1), fun H2 p2 => ⟨xs.length - (i + 1), by omega, rfl, hlt, p2⟩, fun v H2 y => ?_⟩
    obtain ⟨T, x', y', rfl, hT, rfl, f1, f2⟩ := y
    exact hs i x' y' T H' (f1 xs qx) (f2 ys qy) pv hT
  · have e : i = xs.length := by omega
    subst e
    exact .inl ⟨⟨xs, ys, qx, qy, Or.inl (Nat.le_refl _)⟩, hd H' pv⟩
end
end CL
set_option Elab.async false
set_option linter.all false
set_option maxRecDepth 100000
set_option maxHeartbeats 2000000
namespace CL
open PySem PySem.Spec PyProof.Rows L2 RZ SkE
section
variable {X : Cx} {elt tg iter : Expr} {ifs : List Expr} {scope : Scope} {own : List (Str × Nat)} {pos spos py : Pos} {wi : TI} {g : TG} {tt : TT} {te : TE} {i : Nat} {y : Str}
theorem s_setlc (hc : X.calm = true) (hN : X.N.Nodup) (hy : X.N[i]? = some y) (hyl : X.env.scope.names.lookup y = some .local)
    (hsw : swapsWith (.ListComp elt [⟨tg, iter, ifs, 0⟩] scope pos) (some (.Name y py)) spos.line X.env = pure true) (hi : PI X tg iter wi) (ok : BlkOk X.N X.env.scope scope own)
    (hg : ∀ (s : Shared) (H : Hp) (C : Addr) (cl : List (Str × Addr)) (fp : List Addr), PG (X.blk s H scope (compEnvC scope cl C X.env) fp) tg g)
    (ht : ∀ (s : Shared) (H : Hp) (C : Addr) (cl : List (Str × Addr)) (fp : List Addr), PTs (X.blk s H scope (compEnvC scope cl C X.env) fp) ifs tt)
    (he : ∀ (s : Shared) (H : Hp) (C : Addr) (cl : List (Str × Addr)) (fp : List Addr), PE (X.blk s H scope (compEnvC scope cl C X.env) fp) elt te)
    (hs : ∀ x, foldedSetIterable iter X.env x = pure x := by intro _; rfl) :
    PS X (.Assign [.Name y py] (.ListComp elt [⟨tg, iter, ifs, 0⟩] scope pos) spos) (tAsg (cLc wi g tt te (own.map (·.2))) (gName i)) := by
  rw [clc_eq]
  exact ps_setLc hc hN hy hyl hsw hi ok hg ht he hs
end
theorem c_ixK {X : Cx} {K : PySem.W.Frag} (h : X.K = K) : IxR X (rIxC K) := h ▸ c_ix
/-- nothing is tracked at p -/
structure Fre (H : Hp) (p : Addr) : Prop where
  n : H p = none
section
variable {H H1 H2 Y : Hp} {a b p : Addr} {o : HO}
/-- an object that H does not know -/
theorem But.fresh (x : But b H H1) (n : Fre H p) : But b H (upd H1 p o) := fun a _ na h => upd_to (ne_of_none h n.n) (x a _ na h)
theorem Same.fresh (x : Same H H1) (n : Fre H p) : Same H (upd H1 p o) := fun a _ h => upd_to (ne_of_none h n.n) (x a _ h)
theorem But.back (x : But b H Y) (n : p ≠ b) (h : Fre Y p) : Fre H p := ⟨by
  cases e : H p with
  | none => rfl
  | some u =>
    have q := x p u n e
    rw [h.n] at q
    cases q⟩
theorem Same.bk (x : Same H Y) (h : Fre Y p) : Fre H p := ⟨by
  cases e : H p with
  | none => rfl
  | some u =>
    have q := x p u e
    rw [h.n] at q
    cases q⟩
/-- the script: no list of ours, or the module's -/
structure Scr (K : PySem.W.Frag) (H : Hp) (a : Addr) (xs : List V) : Prop where
  sq : SqL K H a xs
  no : ∀ u, H a = some u → ∃ ob ys, u = .frz ob (.lst ys)
end
/-- an own class -/
structure ClsT (K : PySem.W.Frag) (mg : Str → Option Value) (C : Addr) (name : Str) : Prop where
  g : mg name = some (.ref C)
  cl : Cls K C
  ha : PySem.W.findIn K (.ref C) "__class__" = some (some (.builtin "object.__class__"))
  hn : PySem.W.specialIn K (.builtin "object.__class__") "__get__" = some (some (.builtin "getset_descriptor.__get__"))
  ht : PySem.W.takesIn K (.builtin "object.__class__") = some true
  hm : PySem.W.mroIn K C (.type "object") = some true
theorem ClsT.ty {K : PySem.W.Frag} {mg : Str → Option Value} {C : Addr} {name : Str} (t : ClsT K mg C name) {H : Hp} {a dx : Addr} {fs : List (Str × V)} (e : H a = some (.ins C dx fs)) : TyX K H (.ref a) (.ref C) := .base (.ins e t.cl t.ha t.hn t.ht t.hm)
theorem kit_self {K : PySem.W.Frag} {C : Addr} : PySem.W.kitOne K (.ref C) (.ref C) = some true := by
  unfold PySem.W.kitOne
  rw [if_pos (by simp)]
theorem isr_own {K : PySem.W.Frag} {mg : Str → Option Value} {C : Addr} {name : Str} (t : ClsT K mg C name) {H : Hp} {a dx : Addr} {fs : List (Str × V)} {k : Bool → Prop} (e : H a = some (.ins C dx fs)) (q : k true) : IsR K H (.ref a) C k := ⟨.inl ⟨_, _, t.ty e, kit_self, q⟩⟩
theorem notFirst_self {K : PySem.W.Frag} {C : Addr} : PySem.W.notFirst K C (.ref C) = true := by
  unfold PySem.W.notFirst
  rw [Bool.or_eq_true]
  exact .inl (by simp)
theorem kit_int_int {K : PySem.W.Frag} : PySem.W.kitOne K (.type "int") (.type "int") = some true := kit_ty (by decide +kernel)
theorem kit_int_bool {K : PySem.W.Frag} : PySem.W.kitOne K (.type "int") (.type "bool") = some false := kit_ty (by decide +kernel)
theorem kit_int_str {K : PySem.W.Frag} : PySem.W.kitOne K (.type "int") (.type "str") = some false := kit_ty (by decide +kernel)
theorem kit_int_list {K : PySem.W.Frag} : PySem.W.kitOne K (.type "int") (.type "list") = some false := kit_ty (by decide +kernel)
theorem kit_int_tuple {K : PySem.W.Frag} : PySem.W.kitOne K (.type "int") (.type "tuple") = some false := kit_ty (by decide +kernel)
theorem kit_bool_int {K : PySem.W.Frag} : PySem.W.kitOne K (.type "bool") (.type "int") = some true := kit_ty (by decide +kernel)
theorem kit_bool_bool {K : PySem.W.Frag} : PySem.W.kitOne K (.type "bool") (.type "bool") = some true := kit_ty (by decide +kernel)
theorem kit_bool_str {K : PySem.W.Frag} : PySem.W.kitOne K (.type "bool") (.type "str") = some false := kit_ty (by decide +kernel)
theorem kit_bool_list {K : PySem.W.Frag} : PySem.W.kitOne K (.type "bool") (.type "list") = some false := kit_ty (by decide +kernel)
theorem kit_bool_tuple {K : PySem.W.Frag} : PySem.W.kitOne K (.type "bool") (.type "tuple") = some false := kit_ty (by decide +kernel)
theorem kit_str_int {K : PySem.W.Frag} : PySem.W.kitOne K (.type "str") (.type "int") = some false := kit_ty (by decide +kernel)
theorem kit_str_bool {K : PySem.W.Frag} : PySem.W.kitOne K (.type "str") (.type "bool") = some false := kit_ty (by decide +kernel)
theorem kit_str_str {K : PySem.W.Frag} : PySem.W.kitOne K (.type "str") (.type "str") = some true := kit_ty (by decide +kernel)
theorem kit_str_list {K : PySem.W.Frag} : PySem.W.kitOne K (.type "str") (.type "list") = some false := kit_ty (by decide +kernel)
theorem kit_str_tuple {K : PySem.W.Frag} : PySem.W.kitOne K (.type "str") (.type "tuple") = some false := kit_ty (by decide +kernel)
theorem kit_list_int {K : PySem.W.Frag} : PySem.W.kitOne K (.type "list") (.type "int") = some false := kit_ty (by decide +kernel)
theorem kit_list_bool {K : PySem.W.Frag} : PySem.W.kitOne K (.type "list") (.type "bool") = some false := kit_ty (by decide +kernel)
theorem kit_list_str {K : PySem.W.Frag} : PySem.W.kitOne K (.type "list") (.type "str") = some false := kit_ty (by decide +kernel)
theorem kit_list_list {K : PySem.W.Frag} : PySem.W.kitOne K (.type "list") (.type "list") = some true := kit_ty (by decide +kernel)
theorem kit_list_tuple {K : PySem.W.Frag} : PySem.W.kitOne K (.type "list") (.type "tuple") = some false := kit_ty (by decide +kernel)
theorem kit_tuple_int {K : PySem.W.Frag} : PySem.W.kitOne K (.type "tuple") (.type "int") = some false := kit_ty (by decide +kernel)
theorem kit_tuple_bool {K : PySem.W.Frag} : PySem.W.kitOne K (.type "tuple") (.type "bool") = some false := kit_ty (by decide +kernel)
theorem kit_tuple_str {K : PySem.W.Frag} : PySem.W.kitOne K (.type "tuple") (.type "str") = some false := kit_ty (by decide +kernel)
theorem kit_tuple_list {K : PySem.W.Frag} : PySem.W.kitOne K (.type "tuple") (.type "list") = some false := kit_ty (by decide +kernel)
theorem kit_tuple_tuple {K : PySem.W.Frag} : PySem.W.kitOne K (.type "tuple") (.type "tuple") = some true := kit_ty (by decide +kernel)
theorem kit_NoneType_int {K : PySem.W.Frag} : PySem.W.kitOne K (.type "NoneType") (.type "int") = some false := kit_ty (by decide +kernel)
theorem kit_NoneType_bool {K : PySem.W.Frag} : PySem.W.kitOne K (.type "NoneType") (.type "bool") = some false := kit_ty (by decide +kernel)
theorem kit_NoneType_str {K : PySem.W.Frag} : PySem.W.kitOne K (.type "NoneType") (.type "str") = some false := kit_ty (by decide +kernel)
theorem kit_NoneType_list {K : PySem.W.Frag} : PySem.W.kitOne K (.type "NoneType") (.type "list") = some false := kit_ty (by decide +kernel)
theorem kit_NoneType_tuple {K : PySem.W.Frag} : PySem.W.kitOne K (.type "NoneType") (.type "tuple") = some false := kit_ty (by decide +kernel)
/-- a value, an integer of ours that is not below l -/
def intFrom (x : V) (l : Int) : Bool := match x with
  | .int i => decide (l ≤ i)
  | _ => false
/-- a list or a tuple that is tracked, or a flat value -/
inductive AnyV (H : Hp) : V → Prop
  | non : AnyV H .non
  | bl (b : Bool) : AnyV H (.bl b)
  | int (i : Int) : AnyV H (.int i)
  | str (z : Str) : AnyV H (.str z)
  | lst {a : Addr} {xs : List V} (e : H a = some (.lst xs)) : AnyV H (.ref a)
  | tup {a : Addr} {xs : List V} (e : H a = some (.tup xs)) : AnyV H (.ref a)
theorem log_small {i : Int} (h : i.natAbs < 2 ^ 200) : i.natAbs.log2 < 1920 := Nat.lt_of_lt_of_le (PySem.Flt.log2_lt_of (by decide) h) (by decide)
theorem log_of {i : Int} (h0 : 0 ≤ i) (h : i ≤ 10000000) : i.natAbs.log2 < 1920 := log_small (by
  have : (10000001 : Nat) ≤ 2 ^ 200 := by
    refine Nat.le_trans (by decide : (10000001 : Nat) ≤ 2 ^ 24) (Nat.pow_le_pow_right (by decide) (by decide))
  omega)
end CL
set_option Elab.async false
set_option linter.all false
set_option maxRecDepth 100000
set_option maxHeartbeats 2000000
namespace CL
open PySem PySem.Spec PyProof.Rows L2 RZ SkE
structure FnG (P : Program) (W0 : World) (K : PySem.W.Frag) (mg : Str → Option Value) (base : Heap) (CX : CXT) (k : Nat) (f : Addr) (fd : FuncData) (ps : List Str) (sp : Sp) : Prop where
  len : ∀ vs H Q E, sp vs H Q E → vs.length = ps.length
  run : ∀ (A : Around) (outer : List Env) (s : Shared) (H : Hp) (args : Args) (us : List Value) (vs : List V) (Q : VK) (E : XK), A.guards = some [] → Room k A → Env0 P W0 K mg base A outer s H → BindsTo s fd args (ps.zip us) → Vals vs us → sp vs H Q E →
    codeAny (model P W0) A (.call (.ref f) args) (CR CX outer P W0 H s Q E) s
section
variable {CX : CXT} {P : Program} {W0 : World} {K : PySem.W.Frag} {mg : Str → Option Value} {base : Heap} {k : Nat} {f : Addr} {fd : FuncData} {qual x : Str} {st : Stmt} {N ps : List Str} {sp : Sp}
/-- the rule for a def of the module, as Fun.ok, with the empty guard -/
theorem fun_okG (F : Fun K x qual st f fd) (S : FnScope N ps (defScope st)) (len : ∀ vs H Q E, sp vs H Q E → vs.length = ps.length)
    (hbody : ∀ (cdv : Value) (A : Around) (outer : List Env) (s : Shared) (H : Hp) (vs : List V) (Q : VK) (E : XK), A.guards = some [] → Room k (A.deeper (envOfC qual (defScope st) s.heap.objs.size f cdv)) → sp vs H Q E →
      ∃ t, PSs (cxOf CX0 P W0 K mg base N qual (defScope st) f cdv A outer s H E).nox (defBody st) t ∧ t { nx := fun _ H' => Q .non H', rt := Q } (L2.start N vs) H) : FnG P W0 K mg base CX0 (k + 1) f fd ps sp := by
  obtain ⟨oc, od, kV, doc, pm, an, cdv, ct, osl, rfl, lk, hcd⟩ := F.ex
  constructor
  · exact len
  · intro A outer s H args us vs Q E hG hr e0 hb r hsp
    obtain ⟨t, ht, hq⟩ := hbody cdv A outer s H vs Q E hG (hr.deeper _) hsp
    have inK : K.In s.heap := e0.mod.kin.keeps fun b o e => (e0.bs b o e).1
    have noL : s.heap.NoLimit := e0.mod.nolimit.keeps fun b o e => (e0.bs b o e).1
    refine codeAny_call_function hr.depth (inK _ _ lk) rfl S.co S.gen rfl (PySem.W.codeRec_of inK hcd) (hb _ _ _ _ ?_)
    refine wpAny_newFunctionEnv_cells S.kind (fun y hy => ?_) fun env he s1 z => ?_
    · obtain ⟨n, v⟩ := y
      exact (S.par n (List.of_mem_zip hy).1).elim .inl fun q => .inr ⟨q, PySem.W.cellsFrom_some _ _ _ (.inl q)⟩
    · subst he
      refine ⟨noL.keeps z.toInCall.keep, codeAny_func ?_⟩
      have I0 : Inv (cxOf CX0 P W0 K mg base N qual (defScope st) f cdv A outer s H E) [] (L2.start N vs) H s1 := inv_start S hr.hd e0 (len _ _ _ _ hsp) r z
      refine wpAny_mono (ht.nox.run [] s1 (L2.start N vs) H _ I0 hq) (fun fl s' hs => ?_) fun e s' hs => hs
      cases fl with
      | ret u => exact let ⟨v, σ', H', J, rv, q⟩ := hs; ⟨v, H', J.os, J.bare, J.base, J.hok, rv, q⟩
      | next => exact let ⟨σ', H', J, q⟩ := hs; ⟨V.non, H', J.os, J.bare, J.base, J.hok, rfl, q⟩
      | brk => exact let ⟨_, _, _, q⟩ := hs; q.elim
      | cont => exact let ⟨_, _, _, q⟩ := hs; q.elim
end
end CL
set_option Elab.async false
set_option linter.all false
set_option maxRecDepth 100000
set_option maxHeartbeats 2000000
namespace CL
open PySem PySem.Spec PyProof.Rows L2 RZ SkE
end CL
set_option Elab.async false
set_option linter.all false
set_option maxRecDepth 100000
set_option maxHeartbeats 2000000
namespace OW
open PySem PySem.Spec PyProof.Rows L2 RZ SkE CL
/-- an instance that is done: it never changes from now on -/
def doneF (fs : List (Str × V)) : Bool := (fs.lookup ("late" : Str)).isSome || ((fs.lookup ("events" : Str)).isSome || ((fs.lookup ("peak" : Str)).isSome && (fs.lookup ("rule" : Str)).isNone))
def imm : HO → Bool
  | .tup _ => true
  | .frz _ (.lst _) => true
  | .frz _ (.tup _) => true
  | .ins _ _ fs => doneF fs
  | _ => false
/-- what never changes stands as it stood -/
def Keep (H H' : Hp) : Prop := ∀ a o, H a = some o → imm o = true → H' a = some o
def Stable (R : Hp → Prop) : Prop := ∀ H H', Keep H H' → R H → R H'
structure OwnF (H : Hp) (L : List (Addr × HO)) (I : List (Hp → Prop)) : Prop where
  at_ : ∀ c ∈ L, H c.1 = some c.2
  nd : (L.map Prod.fst).Nodup
  im : ∀ R ∈ I, R H ∧ Stable R
/-- one of a list, the others -/
inductive Pull {α : Type} : List α → α → List α → Prop
  | head {c : α} {L : List α} : Pull (c :: L) c L
  | tail {c d : α} {L R : List α} (h : Pull L c R) : Pull (d :: L) c (d :: R)
theorem Pull.perm {α : Type} {L : List α} {c : α} {R : List α} (h : Pull L c R) : L.Perm (c :: R) := by
  induction h with
  | head => exact List.Perm.refl _
  | tail h ih => exact (List.Perm.cons _ ih).trans (List.Perm.swap _ _ _)
/-- some of a list, in this order -/
inductive Pick {α : Type} : List α → List α → Prop
  | nil {L : List α} : Pick L []
  | all {L : List α} : Pick L L
  | cons {L R M : List α} {c : α} (h : Pull L c R) (t : Pick R M) : Pick L (c :: M)
  | skip {L M : List α} {c : α} (t : Pick L M) : Pick (c :: L) M
theorem Pick.sub {α : Type} {L M : List α} (h : Pick L M) : ∃ G, L.Perm (M ++ G) := by
  induction h with
  | nil => exact ⟨_, List.Perm.refl _⟩
  | @all L => exact ⟨[], by rw [List.append_nil]⟩
  | cons h t ih =>
    obtain ⟨G, e⟩ := ih
    exact ⟨G, h.perm.trans (List.Perm.cons _ e)⟩
  | @skip L M c t ih =>
    obtain ⟨G, e⟩ := ih
    exact ⟨c :: G, (List.Perm.cons _ e).trans List.perm_middle.symm⟩
section
variable {H H' : Hp} {L R M : List (Addr × HO)} {I J : List (Hp → Prop)} {a b p : Addr} {o o' : HO}
theorem OwnF.perm (h : OwnF H L I) (e : L.Perm M) : OwnF H M I := ⟨fun c m => h.at_ c (e.mem_iff.mpr m), (e.map Prod.fst).nodup_iff.mp h.nd, h.im⟩
theorem OwnF.pre {G : List (Addr × HO)} (h : OwnF H (L ++ G) I) : OwnF H L I := ⟨fun c m => h.at_ c (List.mem_append_left _ m), by
  have := h.nd
  rw [List.map_append] at this
  exact (List.nodup_append.mp this).1, h.im⟩
theorem OwnF.subI (h : OwnF H L I) (e : ∀ R ∈ J, R ∈ I) : OwnF H L J := ⟨h.at_, h.nd, fun R m => h.im R (e R m)⟩
theorem OwnF.pull (h : OwnF H L I) (e : Pull L (a, o) R) : OwnF H ((a, o) :: R) I := h.perm e.perm
theorem OwnF.get (h : OwnF H L I) (e : Pull L (a, o) R) : H a = some o := h.at_ (a, o) (e.perm.mem_iff.mpr List.mem_cons_self)
theorem OwnF.hd (h : OwnF H ((a, o) :: R) I) : H a = some o := h.at_ (a, o) List.mem_cons_self
theorem OwnF.tl (h : OwnF H ((a, o) :: R) I) : OwnF H R I := ⟨fun c m => h.at_ c (List.mem_cons_of_mem _ m), (List.nodup_cons.mp h.nd).2, h.im⟩
theorem OwnF.new (h : OwnF H L I) (n : H p = none) : OwnF (upd H p o) ((p, o) :: L) I := by
  refine ⟨fun c m => ?_, ?_, fun R m => ⟨?_, (h.im R m).2⟩⟩
  · rcases List.mem_cons.mp m with rfl | m
    · exact upd_same
    · have q := h.at_ c m
      rw [upd_ne (ne_of_none q n)]
      exact q
  · rw [List.map_cons, List.nodup_cons]
    refine ⟨fun m => ?_, h.nd⟩
    obtain ⟨c, mc, e⟩ := List.mem_map.mp m
    have q := h.at_ c mc
    rw [e, show (p, o).1 = p from rfl, n] at q
    cases q
  · refine (h.im R m).2 H _ (fun a u q _ => ?_) (h.im R m).1
    rw [upd_ne (ne_of_none q n)]
    exact q
theorem OwnF.put (h : OwnF H L I) (e : Pull L (a, o) R) (m : imm o = false) : OwnF (upd H a o') ((a, o') :: R) I := by
  have h1 := h.pull e
  have nd := List.nodup_cons.mp h1.nd
  refine ⟨fun c mc => ?_, ?_, fun S mS => ⟨?_, (h.im S mS).2⟩⟩
  · rcases List.mem_cons.mp mc with rfl | mc
    · exact upd_same
    · have q := h1.at_ c (List.mem_cons_of_mem _ mc)
      rw [upd_ne (fun e => nd.1 (List.mem_map.mpr ⟨c, mc, e⟩))]
      exact q
  · exact List.nodup_cons.mpr nd
  · refine (h.im S mS).2 H _ (fun b u q i => ?_) (h.im S mS).1
    rw [upd_ne (fun e => ?_)]
    · exact q
    · subst e
      rw [h1.hd] at q
      cases q
      rw [m] at i
      cases i
theorem OwnF.imp {S : Hp → Prop} (h : OwnF H L I) (m : S ∈ I) : S H := (h.im S m).1
theorem OwnF.addI {S : Hp → Prop} (h : OwnF H L I) (s : Stable S) (q : S H) : OwnF H L (S :: I) := ⟨h.at_, h.nd, fun R m => by
  rcases List.mem_cons.mp m with rfl | m
  · exact ⟨q, s⟩
  · exact h.im R m⟩
end
inductive Ck where
  | pt (a : Addr) (o : HO)
  | ab (P : List (Addr × HO) → Prop)
inductive Flat : List Ck → List (Addr × HO) → Prop
  | nil : Flat [] []
  | pt {a : Addr} {o : HO} {L : List Ck} {F : List (Addr × HO)} (h : Flat L F) : Flat (.pt a o :: L) ((a, o) :: F)
  | ab {P : List (Addr × HO) → Prop} {l F : List (Addr × HO)} {L : List Ck} (p : P l) (h : Flat L F) : Flat (.ab P :: L) (l ++ F)
theorem Flat.perm {L M : List Ck} (e : L.Perm M) : ∀ {F : List (Addr × HO)}, Flat L F → ∃ G, Flat M G ∧ F.Perm G := by
  induction e with
  | nil => exact fun h => ⟨_, h, List.Perm.refl _⟩
  | cons x _ ih =>
    intro F h
    cases h with
    | pt h => obtain ⟨G, f, p⟩ := ih h; exact ⟨_, .pt f, List.Perm.cons _ p⟩
    | ab q h => obtain ⟨G, f, p⟩ := ih h; exact ⟨_, .ab q f, List.Perm.append_left _ p⟩
  | swap x y _ =>
    intro F h
    cases h with
    | pt h =>
      cases h with
      | pt h => exact ⟨_, .pt (.pt h), List.Perm.swap _ _ _⟩
      | ab q h => exact ⟨_, .ab q (.pt h), List.perm_middle.symm⟩
    | ab q h =>
      cases h with
      | pt h => exact ⟨_, .pt (.ab q h), List.perm_middle⟩
      | ab q2 h => exact ⟨_, .ab q2 (.ab q h), by rw [← List.append_assoc, ← List.append_assoc]; exact List.Perm.append_right _ List.perm_append_comm⟩
  | trans _ _ ih1 ih2 =>
    intro F h
    obtain ⟨G, f, p⟩ := ih1 h
    obtain ⟨G2, f2, p2⟩ := ih2 f
    exact ⟨G2, f2, p.trans p2⟩
theorem Flat.app {L M : List Ck} : ∀ {F : List (Addr × HO)}, Flat (L ++ M) F → ∃ A B, Flat L A ∧ Flat M B ∧ F = A ++ B := by
  induction L with
  | nil => exact fun h => ⟨[], _, .nil, h, rfl⟩
  | cons c L ih =>
    intro F h
    cases h with
    | pt h => obtain ⟨A, B, f, g, rfl⟩ := ih h; exact ⟨_, B, .pt f, g, rfl⟩
    | ab q h => obtain ⟨A, B, f, g, rfl⟩ := ih h; exact ⟨_, B, .ab q f, g, (List.append_assoc _ _ _).symm⟩
structure Own (H : Hp) (L : List Ck) (I : List (Hp → Prop)) : Prop where
  ex : ∃ F, Flat L F ∧ OwnF H F I
section
variable {H H' : Hp} {L R M : List Ck} {I J : List (Hp → Prop)} {a b p : Addr} {o o' : HO} {c : Ck}
theorem Own.perm (h : Own H L I) (e : L.Perm M) : Own H M I := by
  obtain ⟨F, f, w⟩ := h.ex
  obtain ⟨G, g, p⟩ := f.perm e
  exact ⟨G, g, w.perm p⟩
theorem Own.pre {G : List Ck} (h : Own H (L ++ G) I) : Own H L I := by
  obtain ⟨F, f, w⟩ := h.ex
  obtain ⟨A, B, f1, _, rfl⟩ := f.app
  exact ⟨A, f1, w.pre⟩
theorem Own.pick (h : Own H L I) (e : Pick L M) : Own H M I := let ⟨_, e⟩ := e.sub; (h.perm e).pre
theorem Own.subI (h : Own H L I) (e : ∀ R ∈ J, R ∈ I) : Own H L J := let ⟨F, f, w⟩ := h.ex; ⟨F, f, w.subI e⟩
theorem Own.pull (h : Own H L I) (e : Pull L c R) : Own H (c :: R) I := h.perm e.perm
theorem Own.hd (h : Own H (.pt a o :: R) I) : H a = some o := by
  obtain ⟨F, f, w⟩ := h.ex
  cases f with
  | pt f => exact w.hd
theorem Own.get (h : Own H L I) (e : Pull L (.pt a o) R) : H a = some o := (h.pull e).hd
theorem Own.tl (h : Own H (c :: R) I) : Own H R I := (h.perm (M := R ++ [c]) (List.perm_append_comm (l₁ := [c]))).pre
theorem Own.new (h : Own H L I) (n : H p = none) : Own (upd H p o) (.pt p o :: L) I := let ⟨F, f, w⟩ := h.ex; ⟨_, .pt f, w.new n⟩
theorem Own.put (h : Own H L I) (e : Pull L (.pt a o) R) (m : imm o = false) : Own (upd H a o') (.pt a o' :: R) I := by
  obtain ⟨F, f, w⟩ := (h.pull e).ex
  cases f with
  | pt f => exact ⟨_, .pt f, w.put .head m⟩
theorem Own.imp {S : Hp → Prop} (h : Own H L I) (m : S ∈ I) : S H := let ⟨_, _, w⟩ := h.ex; w.imp m
theorem Own.addI {S : Hp → Prop} (h : Own H L I) (s : Stable S) (q : S H) : Own H L (S :: I) := let ⟨F, f, w⟩ := h.ex; ⟨F, f, w.addI s q⟩
/-- a bundle opened and closed -/
theorem Own.open_ {P : List (Addr × HO) → Prop} (h : Own H (.ab P :: R) I) : ∃ l, P l ∧ Own H (l.map (fun x => Ck.pt x.1 x.2) ++ R) I := by
  obtain ⟨F, f, w⟩ := h.ex
  cases f with
  | @ab _ l F _ p f =>
    refine ⟨l, p, _, ?_, w⟩
    clear w p
    induction l with
    | nil => exact f
    | cons x l ih => exact .pt ih
theorem Own.close {P : List (Addr × HO) → Prop} {l : List (Addr × HO)} (p : P l) (h : Own H (l.map (fun x => Ck.pt x.1 x.2) ++ R) I) : Own H (.ab P :: R) I := by
  obtain ⟨F, f, w⟩ := h.ex
  have : ∃ G, Flat R G ∧ F = l ++ G := by
    clear w p h
    induction l generalizing F with
    | nil => exact ⟨F, f, rfl⟩
    | cons x l ih =>
      cases f with
      | pt f => obtain ⟨G, g, rfl⟩ := ih _ f; exact ⟨G, g, rfl⟩
  obtain ⟨G, g, rfl⟩ := this
  exact ⟨_, .ab p g, w⟩
end
/-- a tuple that stays -/
abbrev tupI (a : Addr) (xs : List V) : Hp → Prop := fun H => H a = some (.tup xs)
theorem stable_tup {a : Addr} {xs : List V} : Stable (tupI a xs) := fun H H' k h => k _ _ h rfl
/-- the script in a form that stays: locked, or of the module's own -/
abbrev seqI (K : PySem.W.Frag) (a : Addr) (xs : List V) : Hp → Prop := fun H => SqL K H a xs ∧ ((∃ o, H a = some (.frz o (.lst xs))) ∨ ∀ H', SqL K H' a xs)
theorem stable_seq {K : PySem.W.Frag} {a : Addr} {xs : List V} : Stable (seqI K a xs) := fun H H' k h => by
  obtain ⟨h, ⟨o, f⟩ | f⟩ := h
  · have q := k _ _ f rfl
    exact ⟨.inl (.inr ⟨o, q⟩), .inl ⟨o, q⟩⟩
  · exact ⟨f H', .inr f⟩
theorem seqI_of {K : PySem.W.Frag} {H : Hp} {a : Addr} {xs : List V} (s : Scr K H a xs) : seqI K a xs H := by
  refine ⟨s.sq, ?_⟩
  rcases s.sq with (h | ⟨o, h⟩) | h
  · obtain ⟨ob, ys, e⟩ := s.no _ h
    cases e
  · exact .inl ⟨o, h⟩
  · exact .inr fun H' => .inr h
theorem own_nil {H : Hp} : Own H [] [] := ⟨[], .nil, ⟨fun c m => (List.not_mem_nil m).elim, List.nodup_nil, fun R m => (List.not_mem_nil m).elim⟩⟩
section
variable {K : PySem.W.Frag} {H : Hp} {L R M : List Ck} {I : List (Hp → Prop)} {a b p : Addr} {o o' : HO} {xs ys : List V}
theorem new_o {k : Addr → Hp → Prop} (h : Own H L I) (q : ∀ p H', Own H' (.pt p o :: L) I → k p H') : New H o k := ⟨fun p n => q p _ (h.new n)⟩
theorem sq_l {k : List V → Prop} (h : Own H L I) (e : Pull L (.pt a (.lst xs)) R) (q : k xs) : Sq K H a k := Sq.l (SqL.of (h.get e)) q
theorem sq_t {k : List V → Prop} (h : Own H L I) (e : Pull L (.pt a (.tup xs)) R) (q : k xs) : Sq K H a k := Sq.t (SqT.of (h.get e)) q
theorem sq_s {k : List V → Prop} (h : Own H L I) (e : seqI K a xs ∈ I) (q : k xs) : Sq K H a k := Sq.l (h.imp e).1 q
theorem sq_i {k : List V → Prop} (h : Own H L I) (e : tupI a xs ∈ I) (q : k xs) : Sq K H a k := Sq.t (SqT.of (h.imp e)) q
theorem ls_o {k : List V → Prop} (h : Own H L I) (e : Pull L (.pt a (.lst xs)) R) (q : k xs) : Ls H a k := Ls.mk' (h.get e) q
theorem fld_o {C dx : Addr} {fs : List (Str × V)} {f : Str} {v : V} {k : V → Prop} (h : Own H L I) (e : Pull L (.pt a (.ins C dx fs)) R) (c : Cls K C) (n : NoAttr K C f) (l : fs.lookup f = some v) (q : k v) : Fld K H a f k := ⟨C, dx, fs, v, h.get e, c, n, l, q⟩
theorem setf_o {C dx : Addr} {fs : List (Str × V)} {f : Str} {y : V} {k : Hp → Prop} (h : Own H L I) (e : Pull L (.pt a (.ins C dx fs)) R) (c : Cls K C) (n : NoAttr K C f) (l : fs.length < 1000) (m : doneF fs = false) (q : ∀ H', Own H' (.pt a (.ins C dx (putF f y fs)) :: R) I → k H') : SetF K H a f y k := ⟨C, dx, fs, h.get e, c, n, l, q _ (h.put e m)⟩
theorem setl_o {i : Int} {j : Nat} {v : V} {Q : Hp → Prop} (h : Own H L I) (e : Pull L (.pt a (.lst xs)) R) (x : ixN xs.length i = some j) (q : ∀ H', Own H' (.pt a (.lst (xs.set j v)) :: R) I → Q H') : SetL H a i v Q := ⟨xs, j, h.get e, x, q _ (h.put e rfl)⟩
theorem unt_o {n : Nat} {k : List V → Prop} (h : Own H L I) (e : Pull L (.pt a (.tup xs)) R) (l : xs.length = n) (q : k xs) : UnT K H a n k := ⟨xs, SqT.of (h.get e), l, q⟩
theorem sll_o {lo hi : Option Int} {Q : VK} (h : Own H L I) (e : Pull L (.pt a (.lst xs)) R) (q : ∀ p H', Own H' (.pt p (.lst (cutV xs lo hi)) :: L) I → Q (.ref p) H') : SlL K H a lo hi Q := ⟨xs, SqL.of (h.get e), new_o h q⟩
theorem sll_s {lo hi : Option Int} {Q : VK} (h : Own H L I) (e : seqI K a xs ∈ I) (q : ∀ p H', Own H' (.pt p (.lst (cutV xs lo hi)) :: L) I → Q (.ref p) H') : SlL K H a lo hi Q := ⟨xs, (h.imp e).1, new_o h q⟩
theorem tupr_l {Q : VK} (h : Own H L I) (e : Pull L (.pt a (.lst xs)) R) (q : ∀ p H', Own H' (.pt p (.tup xs) :: L) I → Q (.ref p) H') : TupR K H a Q := ⟨xs, .inl ⟨SqL.of (h.get e), new_o h q⟩⟩
theorem tupr_t {Q : VK} (h : Own H L I) (e : Pull L (.pt a (.tup xs)) R) (q : Q (.ref a) H) : TupR K H a Q := ⟨xs, .inr ⟨SqT.of (h.get e), q⟩⟩
theorem meth_o {C dx : Addr} {fs : List (Str × V)} {m : Str} {k : Prop} (h : Own H L I) (e : Pull L (.pt a (.ins C dx fs)) R) (l : fs.lookup m = none) (q : k) : MethR H C m a k := ⟨dx, fs, h.get e, l, q⟩
theorem its_l {P : It → Hp → Prop} (h : Own H L I) (e : Pull L (.pt a (.lst xs)) R) (q : P (Itl K a) H) : ItS K H a P := ⟨.inl ⟨⟨xs, SqL.of (h.get e)⟩, q⟩⟩
theorem its_t {P : It → Hp → Prop} (h : Own H L I) (e : Pull L (.pt a (.tup xs)) R) (q : P (Itt K a) H) : ItS K H a P := ⟨.inr ⟨⟨xs, SqT.of (h.get e)⟩, q⟩⟩
theorem its_s {P : It → Hp → Prop} (h : Own H L I) (e : seqI K a xs ∈ I) (q : P (Itl K a) H) : ItS K H a P := ⟨.inl ⟨⟨xs, (h.imp e).1⟩, q⟩⟩
theorem ite_l {P : It → Hp → Prop} (h : Own H L I) (e : Pull L (.pt a (.lst xs)) R) (q : P (Ite K a) H) : ItE K H a P := ⟨⟨xs, SqL.of (h.get e)⟩, q⟩
end
/-- a list that a method changes -/
structure Grow (H : Hp) (l : Addr) (o : HO) (Q : VK) (v : V) : Prop where
  q : Q v (upd H l o)
def rAppG : V → List V → Hp → VK → Prop := fun x vs H Q => match x, vs with
  | .ref l, [y] => Ls H l fun xs => Chk (xs.length < sizeLine) (Grow H l (.lst (xs ++ [y])) Q .non)
  | _, _ => False
theorem m_appG {X : Cx} : MtR X "list.append" rAppG := by
  intro pins s σ H x xs v us Q I rx rs h
  unfold rAppG at h
  split at h
  · obtain ⟨⟨ys, h1, h2⟩⟩ := h
    exact m_append pins s σ H _ _ v us Q I rx rs ⟨ys, h1, ⟨h2.p, h2.k.q⟩⟩
  · exact h.elim
theorem grow_o {H : Hp} {L R : List Ck} {I : List (Hp → Prop)} {l : Addr} {o o' : HO} {Q : VK} {v : V} (h : Own H L I) (e : Pull L (.pt l o) R) (m : imm o = false) (q : ∀ H', Own H' (.pt l o' :: R) I → Q v H') : Grow H l o' Q v := ⟨q _ (h.put e m)⟩
section
variable {K : PySem.W.Frag} {g : TG} {tt : TT} {te : TE} {vs : List Nat} {σ : L2.St} {H : Hp} {L : List Ck} {I : List (Hp → Prop)} {a b : Addr} {xs ys : List V} {Qd : Addr → Hp → Prop}
theorem newa_o {k : Addr → Prop} (h : Own H L I) (q : ∀ p, Own (upd H p (.lst [])) (.pt p (.lst []) :: L) I → k p) : NewA H k := ⟨fun p n => q p (h.new n)⟩
/-- a turn's end -/
structure Acc (p : Addr) (y : V) (H : Hp) (N : Hp → Prop) : Prop where
  ex : ∃ acc, H p = some (.lst acc) ∧ acc.length < sizeLine ∧ N (upd H p (.lst (acc ++ [y])))
end
structure NxW (W : Nat → L2.St → Hp → Prop) (m : Nat) (t : (L2.St → Hp → Prop) → Prop) : Prop where
  ex : ∃ N : L2.St → Hp → Prop, (∀ σ' H', N σ' H' → ∃ m', m' < m ∧ W m' σ' H') ∧ t N
theorem nxw_mk {W : Nat → L2.St → Hp → Prop} {m : Nat} {t : (L2.St → Hp → Prop) → Prop} (h : t fun σ' H' => ∃ m', m' < m ∧ W m' σ' H') : NxW W m t := ⟨_, fun _ _ z => z, h⟩
end OW
set_option Elab.async false
set_option linter.all false
set_option maxRecDepth 100000
set_option maxHeartbeats 2000000
namespace OW
open PySem PySem.Spec PyProof.Rows L2 RZ SkE CL
mutual
def bnd : PyData → Nat
  | .none => 4
  | .bool _ => 5
  | .int _ => 1921
  | .str x => (reprText x).length
  | .list xs => bndAll xs + 2
  | .tuple xs => bndAll xs + 3
  | .dict _ => 0
def bndAll : List PyData → Nat
  | [] => 0
  | x :: xs => bnd x + 2 + bndAll xs
end
/-- a value that can be shown: its data -/
structure RepV (K : PySem.W.Frag) (H : Hp) (x : V) (k : Str → Prop) : Prop where
  ex : ∃ d, Dp K H x d ∧ d.showable = true ∧ d.hasDict = false ∧ d.depth ≤ 60 ∧ bnd d ≤ sizeLine ∧ k d.shown
theorem rep_int {K : PySem.W.Frag} {H : Hp} {i : Int} {k : Str → Prop} (h : i.natAbs.log2 < 1920) (q : k (PyData.int i).shown) : RepV K H (.int i) k := ⟨.int i, .int i, by simp [PyData.showable, h], rfl, Nat.zero_le _, by show 1921 ≤ sizeLine; rw [sizeLine_eq]; decide, q⟩
theorem rep_non {K : PySem.W.Frag} {H : Hp} {k : Str → Prop} (q : k PyData.none.shown) : RepV K H .non k := ⟨.none, .non, rfl, rfl, by decide, by show 4 ≤ sizeLine; rw [sizeLine_eq]; decide, q⟩
theorem rep_bl {K : PySem.W.Frag} {H : Hp} {b : Bool} {k : Str → Prop} (q : k (PyData.bool b).shown) : RepV K H (.bl b) k := ⟨.bool b, .bl b, rfl, rfl, Nat.zero_le _, by show 5 ≤ sizeLine; rw [sizeLine_eq]; decide, q⟩
theorem rep_mk {K : PySem.W.Frag} {H : Hp} {x : V} {d : PyData} {k : Str → Prop} (h : Dp K H x d) (h1 : d.showable = true) (h2 : d.hasDict = false) (h3 : d.depth ≤ 60) (h4 : bnd d ≤ 16000000) (q : k d.shown) : RepV K H x k := ⟨d, h, h1, h2, h3, Nat.le_trans h4 (by rw [sizeLine_eq]; decide), q⟩
theorem dpAll_ints {K : PySem.W.Frag} {H : Hp} : ∀ ns : List Int, DpAll K H (ns.map V.int) (ns.map PyData.int)
  | [] => .nil
  | n :: ns => .cons (.int n) (dpAll_ints ns)
theorem dpAll_strs {K : PySem.W.Frag} {H : Hp} : ∀ ns : List Str, DpAll K H (ns.map V.str) (ns.map PyData.str)
  | [] => .nil
  | n :: ns => .cons (.str n) (dpAll_strs ns)
theorem eqd_mk {K : PySem.W.Frag} {H : Hp} {x y : V} {d e : PyData} {k : Bool → Prop} (h : Dp K H x d) (g : Dp K H y e) (h1 : SeqAt.shaped d = true) (g1 : SeqAt.shaped e = true) (q : k (PyData.eqv d e)) : EqD K H x y k := ⟨d, e, h, g, h1, g1, q⟩
theorem eqv_ints : ∀ (xs ys : List Int), PyData.eqvAll (xs.map PyData.int) (ys.map PyData.int) = decide (xs = ys)
  | [], [] => rfl
  | [], y :: ys => rfl
  | x :: xs, [] => rfl
  | x :: xs, y :: ys => by
    show ((x == y) && PyData.eqvAll (xs.map PyData.int) (ys.map PyData.int)) = _
    rw [eqv_ints xs ys]
    by_cases h : x = y
    · subst h
      by_cases g : xs = ys
      · subst g; simp
      · rw [decide_eq_false g, decide_eq_false fun e => g (List.cons.inj e).2]; simp
    · rw [decide_eq_false fun e => h (List.cons.inj e).1]; simp [h]
theorem eqv_ints_nil (xs : List Int) : PyData.eqvAll (xs.map PyData.int) [] = decide (xs = []) := eqv_ints xs []
end OW
set_option Elab.async false
set_option linter.all false
set_option maxRecDepth 100000
set_option maxHeartbeats 2000000
namespace OW
open PySem PySem.Spec PyProof.Rows L2 RZ SkE CL
structure LastOf (xs : List V) (k : V → Prop) : Prop where
  ex : ∃ y, xs[xs.length - 1]? = some y ∧ k y
structure RevR (K : PySem.W.Frag) (H : Hp) (a : Addr) (Q : VK) : Prop where
  ex : ∃ xs, SqL K H a xs ∧ New H (.lst xs.reverse) fun p H' => Q (.ref p) H'
section
variable {K : PySem.W.Frag} {H : Hp} {L R : List Ck} {I : List (Hp → Prop)} {a p : Addr} {xs : List V}
theorem rev_o {Q : VK} (h : Own H L I) (e : Pull L (.pt a (.lst xs)) R) (q : ∀ p H', Own H' (.pt p (.lst xs.reverse) :: L) I → Q (.ref p) H') : RevR K H a Q := ⟨xs, SqL.of (h.get e), new_o h q⟩
/-- a new instance handed to its __init__ -/
theorem make_o {C : Addr} {k : Addr → Hp → Prop} (h : Own H L I) (q : ∀ x dx H', Own H' (.pt x (.ins C dx []) :: L) I → k x H') : ∀ x dx, H x = none → H dx = none → dx ≠ x → k x (upd (upd H dx (.own x)) x (.ins C dx [])) := fun x dx hx hd ne => by
  have h1 := h.new (o := .own x) hd
  have h2 := h1.new (o := .ins C dx []) (p := x) (by rw [upd_ne (Ne.symm ne)]; exact hx)
  exact q x dx _ ((h2.perm (List.Perm.swap _ _ _)).tl)
end
end OW
set_option Elab.async false
set_option linter.all false
set_option maxRecDepth 100000
set_option maxHeartbeats 2000000
namespace OW
open PySem PySem.Spec PyProof.Rows L2 RZ SkE CL
/-- the law called by the caller, its promise in the form FnG -/
theorem callS {P : Program} {W0 : World} {K : PySem.W.Frag} {mg mb : Str → Option Value} {k : Nat} {fa a : Addr} {fd : FuncData} {x : Str} {sp : Sp} {t : Shared} {us : List Value} {ns : List Int}
    (inK : K.In t.heap) (gN : t.heap.Ns mainGlobals mg) (bN : t.heap.Ns builtinsNs mb) (bB : ∀ x : Str, x ≠ "__name__" → mb x = bootBuiltins x) (noL : t.heap.NoLimit) (noG : t.gens = #[])
    (at_ : t.heap.get? a = some { cls := .type "list", data := .seq us.toArray }) (are : IntsAre us ns) (len : ns.length ≤ sizeLine) (rm : Room k callerA)
    (F : ∀ base : Heap, K.In base → base.Ns mainGlobals mg → FnG P W0 K mg base CX0 k fa fd [x] sp) (bd : ∀ (s : Shared) (u : Value), BindsTo s fd ⟨[u], []⟩ [(x, u)])
    (prom : ∀ H : Hp, Own H [] [seqI K a (ns.map V.int)] → sp [.ref a] H (fun v _ => v = .bl true) fun _ _ _ => False) :
    codeAny (model P W0) callerA (.call (.ref fa) ⟨[.ref a], []⟩) (fun r s' => r = .ok (.ret (.bool true)) ∧ OldK t.heap s'.heap ∧ s'.os = t.os ∧ AllBare s'.gens) t := by
  have vi := vals_ints are
  have same := are.length
  -- H tracks at most the script, as the module's own or frozen
  have go : ∀ H : Hp, (∀ b, H b = none ∨ ∃ ob xs, H b = some (.frz ob (.lst xs))) → SqL K H a (ns.map V.int) → HOk P W0 H t.heap → (∀ b, H b ≠ none → b = a) → (H a ≠ none → K.lookup a = none) →
      codeAny (model P W0) callerA (.call (.ref fa) ⟨[.ref a], []⟩) (fun r s' => r = .ok (.ret (.bool true)) ∧ OldK t.heap s'.heap ∧ s'.os = t.os ∧ AllBare s'.gens) t := by
    intro H frz sq hok only own
    have notDict : ∀ {b : Addr} {o : Obj} {es : Array DictEntry} {ep : Nat}, t.heap.get? b = some o → o.data = .dict es ep → H b = none := by
      intro b o es ep e d
      by_cases q : H b = none
      · exact q
      · have z := only b q
        rw [z, at_] at e
        cases e
        exact absurd (show Data.seq us.toArray _ = Data.dict es ep from d) (by simp)
    have low : ∀ {b : Addr} {m : Str → Option Value}, t.heap.Ns b m → (hidT t.heap H).Ns b m := by
      rintro b m ⟨o, es, ep, e, d, r⟩
      exact ⟨o, es, ep, hidT_get e (notDict e d), d, r⟩
    have lowK : K.In (hidT t.heap H) := by
      intro b o e
      refine hidT_get (inK b o e) ?_
      by_cases q : H b = none
      · exact q
      · have z := only b q
        rw [z] at q e
        rw [own q] at e
        cases e
    obtain ⟨mc, l1, l2⟩ := noL
    have top : Mod K mg (hidT t.heap H) := ⟨lowK, low gN, ⟨mb, low bN, bB⟩, ⟨mc, low l1, l2⟩⟩
    have e0 : Env0 P W0 K mg (hidT t.heap H) callerA [] t H := ⟨rfl, top, fun b o e => of_hidT e, Nat.le_of_eq (hidT_size _ _), trivial, fun b hb => absurd (show b ∈ ([] : List Addr) from hb) List.not_mem_nil, hok, .of_eq noG⟩
    refine codeAny_mono ((F _ lowK (low gN)).run callerA [] t H ⟨[.ref a], []⟩ [.ref a] [.ref a] _ _ rfl rm e0 (bd t (.ref a)) (.cons rfl .nil) (prom H (own_nil.addI stable_seq (seqI_of ⟨sq, fun u z => (frz a).elim (fun n => by rw [n] at z; cases z) fun ⟨ob, xs, e⟩ => ⟨ob, xs, Option.some.inj (z.symm.trans e)⟩⟩)))) (fun r s' h => ?_)
    rcases r with e | fl
    · exact absurd h (by intro z; exact z)
    · cases fl with
      | ret u =>
        obtain ⟨v, H', os, bare, un, hok', rv, q⟩ := h
        obtain rfl : v = .bl true := q
        obtain rfl : u = Value.bool true := rv
        refine ⟨rfl, OldK.of_keep (fun b o e => ?_), os, bare⟩
        rcases frz b with z | ⟨ob, xs, z⟩
        · exact un.keep b o e z (fun y => absurd (show b ∈ ([] : List Addr) from y) List.not_mem_nil) (by simp)
        · obtain ⟨e1, _⟩ := hok b _ z
          obtain ⟨e2, _⟩ := hok' b _ (un.frzs b ob _ z)
          exact e2.trans (e1.symm.trans e)
      | next => exact absurd h (by intro z; exact z)
      | brk => exact absurd h (by intro z; exact z)
      | cont => exact absurd h (by intro z; exact z)
  cases own : K.lookup a with
  | some o =>
    obtain rfl : ({ cls := .type "list", data := .seq us.toArray } : Obj) = o := Option.some.inj (at_.symm.trans (inK a o own))
    exact go (fun _ => none) (fun _ => .inl rfl) (.inr ⟨_, us.toArray, _, own, rfl, rfl, rfl, by rw [List.size_toArray, same]; exact len, by simpa using vi⟩) (fun b u z => by cases (show (none : Option HO) = some u from z)) (fun b z => absurd rfl z) (fun z => absurd rfl z)
  | none =>
    have here : ∀ {b : Addr}, b ≠ a → (fun b => if b = a then some (HO.frz { cls := .type "list", data := .seq us.toArray } (.lst (ns.map V.int))) else none) b = none := fun n => if_neg n
    refine go (fun b => if b = a then some (.frz { cls := .type "list", data := .seq us.toArray } (.lst (ns.map V.int))) else none) (fun b => ?_) (.inl (.inr ⟨_, if_pos rfl⟩)) (fun b u z => ?_) (fun b z => ?_) (fun _ => own)
    · by_cases n : b = a
      · exact .inr ⟨_, _, if_pos n⟩
      · exact .inl (if_neg n)
    · by_cases n : b = a
      · have z' := (if_pos n).symm.trans z
        cases z'
        subst n
        exact ⟨at_, by rw [List.length_map]; exact len, us, _, vi, at_⟩
      · cases (if_neg n).symm.trans z
    · by_cases n : b = a
      · exact n
      · exact absurd (if_neg n) z
/-- the end, from a promise in the form FnG -/
theorem walkS {l : PySem.W.OpenLaw} {n k : Nat} {q : Program} {loose : List Str} {XP : (Str → Option Value) → Heap → Prop} {YP : World → Heap → Prop} {d : DefRec} {K : Params → PySem.W.Frag} {sp : World → Sp} {x : Str}
    (hn : l.most = some n) (small : n ≤ sizeLine) (df : d.params.defaults = []) (rm : Room k callerA) (hY : ∀ (w : World) (h : Heap), YP w h → (K w.params).In h)
    (F : ∀ (w : World) (mg : Str → Option Value) (fa : Addr) (h : Heap), (K w.params).In h → h.Ns mainGlobals mg → mg d.name = some (.ref fa) →
      ∃ fd : FuncData, (∀ (s : Shared) (u : Value), BindsTo s fd ⟨[u], []⟩ [(x, u)]) ∧ ∀ base : Heap, (K w.params).In base → base.Ns mainGlobals mg → FnG l.prog w (K w.params) mg base CX0 k fa fd [x] (sp w))
    (prom : ∀ (w : World) (H : Hp) (a : Addr) (ns : List Int), ns.length ≤ n → Own H [] [seqI (K w.params) a (ns.map V.int)] → sp w [.ref a] H (fun v _ => v = .bl true) fun _ _ _ => False) :
    PySem.W.WalkO q loose XP YP l.row.toRowW d [] (fun f vs => PySem.call f vs) := by
  refine Att.attach_call hn df (fun w s₀ s₁ mg mb fa o pm cd doc a vs ns G Y ho hd hcd hmg obj areInts few gens => ?_)
  have inK := hY w _ Y
  obtain ⟨fd, bd, hF⟩ := F w mg fa _ inK G.T.g hmg
  exact callS inK G.T.g G.T.b G.T.builtins G.T.nolimit gens obj areInts (Nat.le_trans few small) rm hF bd (fun H sq => prom w H a ns few sq)
end OW
set_option Elab.async false
set_option linter.all false
set_option maxRecDepth 100000
set_option maxHeartbeats 2000000
namespace OW
open PySem PySem.Spec PyProof.Rows L2 RZ SkE CL
theorem cutV_ints (ns : List Int) (lo hi : Option Int) : ∃ ms : List Int, cutV (ns.map V.int) lo hi = ms.map V.int ∧ ms.length ≤ ns.length := by
  refine ⟨(ns.drop (HT.sIx (ns.map V.int).length 0 lo)).take (HT.sIx (ns.map V.int).length (ns.map V.int).length hi - HT.sIx (ns.map V.int).length 0 lo), ?_, ?_⟩
  · unfold cutV
    rw [List.map_take, List.map_drop]
  · rw [List.length_take, List.length_drop]
    omega
theorem map_snoc {α β : Type} (f : α → β) (l : List α) (x : α) : (l ++ [x]).map f = l.map f ++ [f x] := by rw [List.map_append]; rfl
theorem int_at {ns : List Int} {j : Nat} (h : j < ns.length) : (ns.map V.int)[j]? = some (V.int (ns.getD j 0)) := by
  rw [List.getElem?_map, List.getD_eq_getElem?_getD, List.getElem?_eq_getElem h]
  rfl
theorem shp_ints : ∀ xs : List Int, PyData.canLayAll0 (xs.map PyData.int) = true ∧ PyData.depthAll (xs.map PyData.int) = 0
  | [] => ⟨rfl, rfl⟩
  | x :: xs => by
    have h := shp_ints xs
    exact ⟨by simp [PyData.canLayAll0, PyData.canLay0, h.1], by simp [PyData.depthAll, PyData.depth, h.2]⟩
theorem shaped_ints (xs : List Int) : SeqAt.shaped (.list (xs.map PyData.int)) = true := by
  have h := shp_ints xs
  simp [SeqAt.shaped, PyData.canLay0, PyData.depth, h.1, h.2]
theorem shaped_nil : SeqAt.shaped (.list []) = true := shaped_ints []
end OW
namespace OW
open PySem PySem.Spec PyProof.Rows L2 RZ SkE CL
end OW
namespace OW
open PySem PySem.Spec PyProof.Rows L2 RZ SkE CL
end OW
namespace OW
open PySem PySem.Spec PyProof.Rows L2 RZ SkE CL
theorem acc_eq {p : Addr} {y : V} {H : Hp} {N : Hp → Prop} : Acc p y H N = ∃ acc, H p = some (.lst acc) ∧ acc.length < sizeLine ∧ N (upd H p (.lst (acc ++ [y]))) := propext ⟨fun h => h.ex, fun h => ⟨h⟩⟩
theorem acc_a {p : Addr} {y : V} {H : Hp} {N : Hp → Prop} {L R : List Ck} {I : List (Hp → Prop)} {xs : List V} (h : Own H L I) (e : Pull L (.pt p (.lst xs)) R) (l : xs.length < sizeLine) (q : ∀ H', Own H' (.pt p (.lst (xs ++ [y])) :: R) I → N H') : Acc p y H N := ⟨xs, h.get e, l, q _ (h.put e rfl)⟩
/-- one turn of a comprehension -/
def LcT (g : TG) (tt : TT) (te : TE) (vs : List Nat) (σ : L2.St) (p : Addr) (x : V) (H : Hp) (Nx : Hp → Prop) : Prop := g x (wipe σ vs) H fun σ2 H2 => wipe σ2 vs = wipe σ vs ∧ tt σ2 H2 fun b H3 => Br b (te σ2 H3 fun y H4 => Acc p y H4 Nx) (Nx H3)
theorem lct_eq {g : TG} {tt : TT} {te : TE} {vs : List Nat} {σ : L2.St} {p : Addr} {x : V} {H : Hp} {Nx : Hp → Prop} : LcT g tt te vs σ p x H Nx = LcStep g tt te vs σ p x H Nx := by
  unfold LcT LcStep
  simp only [br_eq, acc_eq]
section
variable {K : PySem.W.Frag} {g : TG} {tt : TT} {te : TE} {vs : List Nat} {σ : L2.St} {H : Hp} {a b p : Addr} {xs ys : List V} {Qd : Hp → Prop}
theorem la_range {lo : Int} {n : Nat} (Pv : Nat → Hp → Prop) (h0 : Pv 0 (upd H p (.lst []))) (hs : ∀ i H, i < n → Pv i H → LcT g tt te vs σ p (.int (lo + i)) H (Pv (i + 1))) (hd : ∀ H, Pv n H → Qd H) : LcW (Itr lo n) g tt te vs σ p Qd H := lw_range Pv h0 (fun i H h q => lct_eq ▸ hs i H h q) hd
theorem la_list (Pv : Nat → Hp → Prop) (h0 : Pv 0 (upd H p (.lst []))) (hl : ∀ i H, i ≤ xs.length → Pv i H → SqL K H a xs) (hs : ∀ i x H, xs[i]? = some x → Pv i H → LcT g tt te vs σ p x H (Pv (i + 1))) (hd : ∀ H, Pv xs.length H → Qd H) : LcW (Itl K a) g tt te vs σ p Qd H := lw_list Pv h0 hl (fun i x H h q => lct_eq ▸ hs i x H h q) hd
theorem la_tup (Pv : Nat → Hp → Prop) (h0 : Pv 0 (upd H p (.lst []))) (hl : ∀ i H, i ≤ xs.length → Pv i H → SqT K H a xs) (hs : ∀ i x H, xs[i]? = some x → Pv i H → LcT g tt te vs σ p x H (Pv (i + 1))) (hd : ∀ H, Pv xs.length H → Qd H) : LcW (Itt K a) g tt te vs σ p Qd H := lw_tup Pv h0 hl (fun i x H h q => lct_eq ▸ hs i x H h q) hd
end
end OW
namespace OW
theorem log_of2 {i : Int} (h : i.natAbs < 18446744073709551616) : i.natAbs.log2 < 1920 := CL.log_small (Nat.lt_of_lt_of_le h (by rw [show (18446744073709551616 : Nat) = 2 ^ 64 by decide]; exact Nat.pow_le_pow_right (by decide) (by decide)))
end OW
set_option Elab.async false
set_option linter.all false
set_option maxRecDepth 100000
set_option maxHeartbeats 2000000
namespace OW
open PySem PySem.Spec PyProof.Rows L2 RZ SkE CL
structure CallV (P : Program) (w : World) (K : PySem.W.Frag) (mg : Str → Option Value) (base : Heap) (k : Nat) (v : Option (Option V)) (go : Sp → Prop) : Prop where
  ex : ∃ f sp, v = some (some (.ref f)) ∧ Held P w K mg base k f sp ∧ go sp
def cCallV (P : Program) (w : World) (K : PySem.W.Frag) (mg : Str → Option Value) (base : Heap) (k i : Nat) (t : TA) : TE := fun σ H Q => CallV P w K mg base k σ[i]? fun sp => t σ H fun vs H1 => Ask (sp vs H1 Q (fun _ _ _ => False))
section
variable {X : Cx} {k i : Nat} {x : Str} {p pos : Pos} {e : Expr} {es : List Expr} {t : TA}
theorem e_callV (k : Nat) (hr : Room k X.A) (hN : X.N[i]? = some x) (hv : Vis X.env.scope x) (ha : PA X (e :: es) t)
    (hdb : (x == ("__debug__" : Str)) = false := by decide) (hcd : (x == ("__classdict__" : Str)) = false := by decide)
    (he : starEach (e :: es) X.env = (false, eval e X.env) :: starEach es X.env := by rfl) (hpl : (backTo pos (starEach es X.env)).any (·.1) = false := by rfl) : PE X (.Call (.Name x p) (e :: es) [] pos) (cCallV X.prog X.w X.K X.mg X.base k i t) := by
  refine ⟨fun pins s σ H Q I h => ?_⟩
  obtain ⟨⟨f, sp, hs, hH, ht⟩⟩ := (show CallV X.prog X.w X.K X.mg X.base k σ[i]? _ from h)
  obtain ⟨fd, ps, F, hk, hb⟩ := hH.ex
  refine (pe_callL (i := i) (f := f) (sp := sp) (dvs := []) (E := fun _ _ _ => False) F hr hN hv hk hb .nil (fun _ _ _ _ _ _ _ z => z.elim) ha hdb hcd he hpl).run pins s σ H Q I ⟨hs, ?_⟩
  have e0 : (fun (vs : List V) (H1 : Hp) => sp (vs ++ []) H1 Q (fun _ _ _ => False)) = fun vs H1 => Ask (sp vs H1 Q (fun _ _ _ => False)) := by
    funext vs H1
    rw [List.append_nil, ask_eq]
  rw [e0]
  exact ht
end
theorem callv_mk {P : Program} {w : World} {K : PySem.W.Frag} {mg : Str → Option Value} {base : Heap} {k : Nat} {f : Addr} {sp : Sp} {go : Sp → Prop} (h : Held P w K mg base k f sp) (q : go sp) : CallV P w K mg base k (some (some (.ref f))) go := ⟨⟨f, sp, rfl, h, q⟩⟩
structure KD (K : PySem.W.Frag) (w : World) (p : Addr) (z : Str) (k : V → Prop) : Prop where
  ex : ∃ v, KDct K w p z v ∧ k v
def rIxDC (K : PySem.W.Frag) (w : World) : R2 := fun x y H Q => match x, y with
  | .ref p, .str z => KD K w p z fun v => Q v H
  | _, _ => False
theorem c_ixD {X : Cx} : IxR X (rIxDC X.K X.w) := by
  intro value slice pins s σ H x y v u Q I rx ry h hs
  unfold rIxDC at h
  split at h
  · obtain ⟨⟨v0, h1, h2⟩⟩ := h
    exact ix_kdict value slice pins s σ H _ _ _ _ Q I rx ry ⟨_, _, v0, rfl, rfl, h1, h2⟩ hs
  · exact h.elim
def rRngC : List V → Hp → VK → Prop := fun vs H Q => match vs with
  | [.int i, .int j] => New H (.rng i j) fun p H' => Q (.ref p) H'
  | _ => False
theorem k_rng {X : Cx} : CallR X (.type "range") rRngC := by
  intro pins s σ H vs us Q I r h
  unfold rRngC at h
  split at h
  · exact cr_range2 pins s σ H _ us Q I r ⟨_, _, rfl, h.k⟩
  · exact h.elim
structure ItV (K : PySem.W.Frag) (H : Hp) (a : Addr) (R : It → Hp → Prop) : Prop where
  ex : ((∃ xs, SqL K H a xs) ∧ R (Itl K a) H) ∨ ((∃ xs, SqT K H a xs) ∧ R (Itt K a) H) ∨ ∃ lo hi : Int, H a = some (.rng lo hi) ∧ (-(2 ^ 62) ≤ lo ∧ lo < 2 ^ 62 ∧ -(2 ^ 62) ≤ hi ∧ hi < 2 ^ 62) ∧ R (Itr lo (hi - lo).toNat) H
def cVal (K : PySem.W.Frag) (tl : TE) : TI := fun σ H R => tl σ H (onR fun a H1 => ItV K H1 a R)
theorem i_val {X : Cx} {tg l : Expr} {tl : TE} (hl : PE X l tl) : PI X tg l (cVal X.K tl) := by
  refine ⟨fun pins s σ H R I h => ?_⟩
  have h' := h
  refine thn (hl.run pins s σ H _ I h) fun v s1 ⟨x, H1, I1, r1, q1⟩ => ?_
  rw [onR_eq] at q1
  obtain ⟨a, rfl, ⟨q⟩⟩ := q1
  rcases q with ⟨⟨xs, hq⟩, q⟩ | ⟨⟨xs, hq⟩, q⟩ | ⟨lo, hi, ha, ⟨b1, b2, b3, b4⟩, q⟩
  · cases r1
    obtain ⟨vs, _, pl, _⟩ := I1.list hq
    refine wpAny_pyIter_list pl.isList ⟨s1.heap.objs.size, [s1.heap.objs.size], _, _, H1, rfl, I1.kept (t' := s1.toks) fun b o z => Heap.get?_push_of_some _ z, turn_list a _, ⟨_, Heap.get?_push_size _ rfl, rfl, rfl⟩, fun b hb => ?_, q⟩
    obtain rfl : b = s1.heap.objs.size := by simpa using hb
    exact I1.fpOk (Nat.le_refl _) (I1.hok.fresh (Nat.le_refl _))
  · cases r1
    obtain ⟨vs, _, pl, _⟩ := I1.tuple hq
    refine wpAny_pyIter_tuple (show s1.heap.IsTuple a vs.toArray from pl) ⟨s1.heap.objs.size, [s1.heap.objs.size], _, _, H1, rfl, I1.kept (t' := s1.toks) fun b o z => Heap.get?_push_of_some _ z, turn_tuple a _, ⟨_, Heap.get?_push_size _ rfl, rfl, rfl⟩, fun b hb => ?_, q⟩
    obtain rfl : b = s1.heap.objs.size := by simpa using hb
    exact I1.fpOk (Nat.le_refl _) (I1.hok.fresh (Nat.le_refl _))
  · cases r1
    obtain ⟨t, u, v, ho⟩ := I1.hok a _ ha
    refine wpAny_pyIter_range (show IsRange s1.heap a lo hi 1 t u v from ho) (small_one b1 b2 b3 b4) ?_
    refine ⟨s1.heap.objs.size, [s1.heap.objs.size], _, _, H1, rfl, I1.kept (t' := s1.toks) fun b o z => Heap.get?_push_of_some _ z, turn_range _ lo (hi - lo).toNat, ?_, fun b hb => ?_, q⟩
    · have e1 : lo + ((0 : Nat) : Int) * 1 = lo := by simp
      have e2 : (((hi - lo).toNat : Nat) : Int) - ((0 : Nat) : Int) = Builtin.Range.rangeSize lo hi 1 := by rw [rangeSize_one]; split <;> omega
      show IsRangeIter _ _ (lo + ((0 : Nat) : Int) * 1) ((((hi - lo).toNat : Nat) : Int) - ((0 : Nat) : Int)) 1
      rw [e1, e2]
      exact Heap.get?_push_size _ rfl
    · obtain rfl : b = s1.heap.objs.size := by simpa using hb
      exact I1.fpOk (Nat.le_refl _) (I1.hok.fresh (Nat.le_refl _))
section
variable {K : PySem.W.Frag} {H : Hp} {L R : List Ck} {I : List (Hp → Prop)} {a : Addr} {xs : List V}
theorem itv_l {P : It → Hp → Prop} (h : Own H L I) (e : Pull L (.pt a (.lst xs)) R) (q : P (Itl K a) H) : ItV K H a P := ⟨.inl ⟨⟨xs, SqL.of (h.get e)⟩, q⟩⟩
theorem itv_t {P : It → Hp → Prop} (h : Own H L I) (e : Pull L (.pt a (.tup xs)) R) (q : P (Itt K a) H) : ItV K H a P := ⟨.inr (.inl ⟨⟨xs, SqT.of (h.get e)⟩, q⟩)⟩
theorem itv_s {P : It → Hp → Prop} (h : Own H L I) (e : seqI K a xs ∈ I) (q : P (Itl K a) H) : ItV K H a P := ⟨.inl ⟨⟨xs, (h.imp e).1⟩, q⟩⟩
theorem itv_k {P : It → Hp → Prop} (h : SqT K H a xs) (q : P (Itt K a) H) : ItV K H a P := ⟨.inr (.inl ⟨⟨xs, h⟩, q⟩)⟩
theorem itv_r {lo hi : Int} {P : It → Hp → Prop} (h : Own H L I) (e : Pull L (.pt a (.rng lo hi)) R) (b : -(2 ^ 62) ≤ lo ∧ lo < 2 ^ 62 ∧ -(2 ^ 62) ≤ hi ∧ hi < 2 ^ 62) (q : P (Itr lo (hi - lo).toNat) H) : ItV K H a P := ⟨.inr (.inr ⟨lo, hi, h.get e, b, q⟩)⟩
end
end OW
namespace OW
open PySem PySem.Spec PyProof.Rows L2 RZ SkE CL
theorem fnok_mono {P : Program} {W0 : World} {K : PySem.W.Frag} {mg : Str → Option Value} {base : Heap} {CX : CXT} {k j : Nat} {f : Addr} {fd : FuncData} {ps : List Str} {sp : Sp} (h : k ≤ j) (F : FnOk P W0 K mg base CX k f fd ps sp) : FnOk P W0 K mg base CX j f fd ps sp := ⟨F.len, fun A outer s H args us vs Q E hr e b v q => F.run A outer s H args us vs Q E (hr.mono h) e b v q⟩
end OW
set_option Elab.async false
set_option linter.all false
set_option maxRecDepth 100000
set_option maxHeartbeats 2000000
namespace OW
open PySem PySem.Spec PyProof.Rows L2 RZ SkE CL
mutual
inductive IDp (H : Hp) : V → PyData → Prop
  | non : IDp H .non .none
  | bl (b : Bool) : IDp H (.bl b) (.bool b)
  | int (i : Int) : IDp H (.int i) (.int i)
  | str (x : Str) : IDp H (.str x) (.str x)
  | tup {a : Addr} {xs : List V} {ds : List PyData} (h : H a = some (.tup xs)) (g : IDpAll H xs ds) : IDp H (.ref a) (.tuple ds)
inductive IDpAll (H : Hp) : List V → List PyData → Prop
  | nil : IDpAll H [] []
  | cons {v : V} {vs : List V} {d : PyData} {ds : List PyData} (h : IDp H v d) (g : IDpAll H vs ds) : IDpAll H (v :: vs) (d :: ds)
end
mutual
theorem IDp.keep {H H' : Hp} (k : Keep H H') : ∀ (d : PyData) (v : V), IDp H v d → IDp H' v d
  | .none, v, h => by cases h; exact .non
  | .bool b, v, h => by cases h; exact .bl b
  | .int i, v, h => by cases h; exact .int i
  | .str x, v, h => by cases h; exact .str x
  | .tuple ds, v, h => by
    cases h with
    | tup h g => exact .tup (k _ _ h rfl) (IDpAll.keep k ds _ g)
  | .list ds, v, h => by cases h
  | .dict ds, v, h => by cases h
theorem IDpAll.keep {H H' : Hp} (k : Keep H H') : ∀ (ds : List PyData) (vs : List V), IDpAll H vs ds → IDpAll H' vs ds
  | [], vs, h => by cases h; exact .nil
  | d :: ds, vs, h => by
    cases h with
    | cons h g => exact .cons (IDp.keep k d _ h) (IDpAll.keep k ds _ g)
end
mutual
theorem IDp.dp {K : PySem.W.Frag} {H : Hp} : ∀ (d : PyData) (v : V), IDp H v d → Dp K H v d
  | .none, v, h => by cases h; exact .non
  | .bool b, v, h => by cases h; exact .bl b
  | .int i, v, h => by cases h; exact .int i
  | .str x, v, h => by cases h; exact .str x
  | .tuple ds, v, h => by
    cases h with
    | tup h g => exact .tup (SqT.of h) (IDpAll.dp ds _ g)
  | .list ds, v, h => by cases h
  | .dict ds, v, h => by cases h
theorem IDpAll.dp {K : PySem.W.Frag} {H : Hp} : ∀ (ds : List PyData) (vs : List V), IDpAll H vs ds → DpAll K H vs ds
  | [], vs, h => by cases h; exact .nil
  | d :: ds, vs, h => by
    cases h with
    | cons h g => exact .cons (IDp.dp d _ h) (IDpAll.dp ds _ g)
end
abbrev idI (v : V) (d : PyData) : Hp → Prop := fun H => IDp H v d
abbrev idsI (vs : List V) (ds : List PyData) : Hp → Prop := fun H => IDpAll H vs ds
theorem stable_ids {v : List V} {d : List PyData} : Stable (idsI v d) := fun H H' k h => IDpAll.keep k d v h
theorem IDpAll.append {H : Hp} : ∀ {vs ws : List V} {ds es : List PyData}, IDpAll H vs ds → IDpAll H ws es → IDpAll H (vs ++ ws) (ds ++ es)
  | _, _, _, _, .nil, h => h
  | _, _, _, _, .cons a b, h => .cons a (IDpAll.append b h)
theorem IDpAll.len {H : Hp} : ∀ {vs : List V} {ds : List PyData}, IDpAll H vs ds → vs.length = ds.length
  | _, _, .nil => rfl
  | _, _, .cons _ b => congrArg (· + 1) b.len
section
variable {K : PySem.W.Frag} {H : Hp} {L R M : List Ck} {I : List (Hp → Prop)} {a b p : Addr} {xs ys : List V} {ds : List PyData} {d : PyData} {v : V}
theorem Own.idsD (h : Own H L I) (g : IDpAll H xs ds) : Own H L (idsI xs ds :: I) := h.addI stable_ids g
structure Cat (K : PySem.W.Frag) (H : Hp) (p q : Addr) (Q : VK) : Prop where
  ex : (∃ xs ys, H p = some (.lst xs) ∧ H q = some (.lst ys) ∧ xs.length + ys.length ≤ sizeLine ∧ New H (.lst (xs ++ ys)) fun r H' => Q (.ref r) H') ∨
    ∃ xs ys, SqT K H p xs ∧ SqT K H q ys ∧ xs ≠ [] ∧ ys ≠ [] ∧ xs.length + ys.length ≤ sizeLine ∧ New H (.tup (xs ++ ys)) fun r H' => Q (.ref r) H'
def rAddG (K : PySem.W.Frag) : R2 := fun x y H Q => match x, y with
  | .int i, .int j => Q (.int (i + j)) H
  | .str a, .str b => Chk (a.length + b.length ≤ sizeLine) (Q (.str (a ++ b)) H)
  | .ref p, .ref q => Cat K H p q Q
  | _, _ => False
theorem c_addG {X : Cx} : OpR X (binaryOp .Add) (rAddG X.K) := by
  intro pins s σ H x y v u Q I rx ry h
  unfold rAddG at h
  split at h
  · exact op_add pins s σ H _ _ v u Q I rx ry ⟨_, _, rfl, rfl, h⟩
  · exact op_add_str pins s σ H _ _ v u Q I rx ry ⟨_, _, rfl, rfl, h.p, h.k⟩
  · obtain ⟨⟨xs, ys, h1, h2, h3, h4⟩ | ⟨xs, ys, h1, h2, h3, h4, h5, h6⟩⟩ := h
    · exact op_cat pins s σ H _ _ v u Q I rx ry ⟨_, _, _, _, rfl, rfl, h1, h2, h3, h4.k⟩
    · exact op_catT pins s σ H _ _ v u Q I rx ry ⟨_, _, _, _, rfl, rfl, h1, h2, h3, h5, fun z => (h4 z).elim, fun _ => h6.k⟩
  · exact h.elim
theorem cat_l {Q : VK} (h : Own H L I) (e : Pull L (.pt a (.lst xs)) R) (f : Pull L (.pt b (.lst ys)) M) (l : xs.length + ys.length ≤ sizeLine) (q : ∀ p H', Own H' (.pt p (.lst (xs ++ ys)) :: L) I → Q (.ref p) H') : Cat K H a b Q := ⟨.inl ⟨xs, ys, h.get e, h.get f, l, new_o h q⟩⟩
theorem cat_t {Q : VK} (h : Own H L I) (e : Pull L (.pt a (.tup xs)) R) (f : Pull L (.pt b (.tup ys)) M) (n : xs ≠ []) (m : ys ≠ []) (l : xs.length + ys.length ≤ sizeLine) (q : ∀ p H', Own H' (.pt p (.tup (xs ++ ys)) :: L) I → Q (.ref p) H') : Cat K H a b Q := ⟨.inr ⟨xs, ys, SqT.of (h.get e), SqT.of (h.get f), n, m, l, new_o h q⟩⟩
structure SlG (K : PySem.W.Frag) (H : Hp) (a : Addr) (lo hi : Option Int) (Q : VK) : Prop where
  ex : (∃ xs, SqL K H a xs ∧ New H (.lst (cutV xs lo hi)) fun p H' => Q (.ref p) H') ∨ ∃ xs, SqT K H a xs ∧ ¬ (HT.sIx xs.length 0 lo = 0 ∧ HT.sIx xs.length xs.length hi = xs.length) ∧ New H (.tup (cutV xs lo hi)) fun p H' => Q (.ref p) H'
def rSlG (K : PySem.W.Frag) : V → Option Int → Option Int → Hp → VK → Prop := fun x lo hi H Q => match x with
  | .ref a => SlG K H a lo hi Q
  | .str z => Chk (z.length ≤ sizeLine) (Q (.str (cutS z lo hi)) H)
  | _ => False
theorem c_slG {X : Cx} : SlR X (rSlG X.K) := by
  intro pins s σ H x v vl vu lo hi sl Q I rx hs pl pu h
  unfold rSlG at h
  split at h
  · obtain ⟨⟨xs, h1, h2⟩ | ⟨xs, h1, h3, h2⟩⟩ := h
    · exact sl_list pins s σ H _ v vl vu lo hi sl Q I rx hs pl pu ⟨_, xs, rfl, h1, h2.k⟩
    · exact sl_tup pins s σ H _ v vl vu lo hi sl Q I rx hs pl pu ⟨_, xs, rfl, h1, h3, h2.k⟩
  · exact sl_str pins s σ H _ v vl vu lo hi sl Q I rx hs pl pu ⟨_, rfl, h.p, h.k⟩
  · exact h.elim
theorem slg_l {lo hi : Option Int} {Q : VK} (h : Own H L I) (e : Pull L (.pt a (.lst xs)) R) (q : ∀ p H', Own H' (.pt p (.lst (cutV xs lo hi)) :: L) I → Q (.ref p) H') : SlG K H a lo hi Q := ⟨.inl ⟨xs, SqL.of (h.get e), new_o h q⟩⟩
theorem slg_s {lo hi : Option Int} {Q : VK} (h : Own H L I) (e : seqI K a xs ∈ I) (q : ∀ p H', Own H' (.pt p (.lst (cutV xs lo hi)) :: L) I → Q (.ref p) H') : SlG K H a lo hi Q := ⟨.inl ⟨xs, (h.imp e).1, new_o h q⟩⟩
theorem slg_t {lo hi : Option Int} {Q : VK} (h : Own H L I) (e : Pull L (.pt a (.tup xs)) R) (n : ¬ (HT.sIx xs.length 0 lo = 0 ∧ HT.sIx xs.length xs.length hi = xs.length)) (q : ∀ p H', Own H' (.pt p (.tup (cutV xs lo hi)) :: L) I → Q (.ref p) H') : SlG K H a lo hi Q := ⟨.inr ⟨xs, SqT.of (h.get e), n, new_o h q⟩⟩
end
def rMinG : List V → Hp → VK → Prop := fun xs H Q => match xs with
  | [.int i, .int j] => Q (.int (if j < i then j else i)) H
  | [.int i, .int j, .int k] => Q (.int (if k < (if j < i then j else i) then k else (if j < i then j else i))) H
  | _ => False
theorem k_minG {X : Cx} (hc : X.calm = true) : CallR X (.builtin "min") rMinG := by
  intro pins s σ H xs us Q I r h
  unfold rMinG at h
  split at h
  · exact call_min2 hc pins s σ H _ us Q I r ⟨_, _, rfl, h⟩
  · rename_i i j k
    refine call_min3Nu hc pins s σ H _ us Q I r ⟨_, _, _, _, rfl, ?_, h⟩
    show (nuMin2 (.int i) (.int j)).bind (fun m => nuMin2 m (.int k)) = _
    have e : ∀ a b : Int, nuMin2 (.int a) (.int b) = some (.int (if b < a then b else a)) := fun a b => by
      show (nuLt (.int b) (.int a)).map _ = _
      have : nuLt (.int b) (.int a) = some (decide (b < a)) := rfl
      rw [this]
      by_cases h : b < a
      · simp [h]
      · simp [h]
    rw [e, Option.bind_some, e]
  · exact h.elim
end OW
namespace OW
open PySem PySem.Spec PyProof.Rows L2 RZ SkE CL
section
variable {X : Cx} {K : PySem.W.Frag} {a : Expr} {ta : TE} {pos : Pos}
theorem t_truthK (h : X.K = K) (ha : PE X a ta) (he : ∀ whole, isTrue a X.env whole = (do let v ← whole; standAt a.pos; holding [v] (truthy v))) : PT X a (cTruth K ta) := h ▸ t_truth ha he
theorem c_addGK (h : X.K = K) : OpR X (binaryOp .Add) (rAddG K) := h ▸ c_addG
theorem c_neK (h : X.K = K) (hu : X.A.units + 64 < cLine) : OpR X (compareOp .NotEq) (rEqC K true) := h ▸ c_ne hu
theorem g_tupKK {es : List Expr} {k : Nat} {t : TGs} {n : Nat} (hk : X.K = K) (hc : X.calm = true) (h : PGs X es t)
    (hn : (assignEach es X.env).length = n := by rfl) (hst : (assignEach es X.env).findIdx? (·.1) = none := by rfl) : PG X (.Tuple es k pos) (cGTup K n t) := hk ▸ g_tup hc h hn hst
end
end OW
namespace OW
open PySem PySem.Spec PyProof.Rows L2 RZ SkE CL
theorem IDpAll.snoc {H : Hp} {xs : List V} {ds : List PyData} {v : V} {d : PyData} (h : IDpAll H xs ds) (g : IDp H v d) : IDpAll H (xs ++ [v]) (ds ++ [d]) := h.append (.cons g .nil)
end OW
namespace OW
open PySem PySem.Spec PyProof.Rows L2 RZ SkE CL
theorem cut_a {a b c d e : V} : cutV [a,b,c,d,e] none (some 2) = [a,b] := rfl
theorem cut_b {a b c d e : V} : cutV [a,b,c,d,e] (some 3) none = [d,e] := rfl
theorem cut_c {a b c d e : V} : cutV [a,b,c,d,e] none (some 1) = [a] := rfl
theorem cut_d {a b c d e : V} : cutV [a,b,c,d,e] (some 2) none = [c,d,e] := rfl
theorem cut_e {a b c d e : V} : cutV [a,b,c,d,e] (some 1) none = [b,c,d,e] := rfl
theorem cutM_a {a b c d e : Int} : cutV (List.map V.int [a,b,c,d,e]) none (some 2) = [.int a,.int b] := rfl
theorem cutM_b {a b c d e : Int} : cutV (List.map V.int [a,b,c,d,e]) (some 3) none = [.int d,.int e] := rfl
theorem cutM_c {a b c d e : Int} : cutV (List.map V.int [a,b,c,d,e]) none (some 1) = [.int a] := rfl
theorem cutM_d {a b c d e : Int} : cutV (List.map V.int [a,b,c,d,e]) (some 2) none = [.int c,.int d,.int e] := rfl
theorem cutM_e {a b c d e : Int} : cutV (List.map V.int [a,b,c,d,e]) (some 1) none = [.int b,.int c,.int d,.int e] := rfl
end OW
namespace OW
open PySem PySem.Spec PyProof.Rows L2 RZ SkE CL
theorem Own.ids {H : Hp} {L : List Ck} {I : List (Hp → Prop)} {xs : List V} {ds : List PyData} (h : Own H L I) (m : idsI xs ds ∈ I) : IDpAll H xs ds := h.imp m
theorem Own.idd {H : Hp} {L : List Ck} {I : List (Hp → Prop)} {v : V} {d : PyData} (h : Own H L I) (m : idI v d ∈ I) : IDp H v d := h.imp m
theorem Own.tupx {H : Hp} {L : List Ck} {I : List (Hp → Prop)} {a : Addr} {xs : List V} (h : Own H L I) (m : tupI a xs ∈ I) : H a = some (.tup xs) := h.imp m
end OW
namespace OW
open PySem PySem.Spec PyProof.Rows L2 RZ SkE CL
end OW
namespace OW
end OW
set_option Elab.async false
set_option linter.all false
set_option maxRecDepth 100000
set_option maxHeartbeats 2000000
namespace OW
open PySem PySem.Spec PyProof.Rows L2 RZ SkE CL
structure DGt (H : Hp) (a : Addr) (y : V) (k : Option V → Prop) : Prop where
  ex : ∃ o, DGet H a y o ∧ k o
structure DGv (H : Hp) (a : Addr) (y : V) (k : V → Prop) : Prop where
  ex : ∃ v, DGet H a y (some v) ∧ k v
structure DPt (H : Hp) (a : Addr) (y v : V) (k : Hp → Prop) : Prop where
  ex : ∃ H', DPut H a y v H' ∧ k H'
structure DDl (H : Hp) (a : Addr) (y : V) (k : Hp → Prop) : Prop where
  ex : ∃ kvs key, H a = some (.dK kvs) ∧ y = kV key ∧ (valV kvs key).isSome = true ∧ k (upd H a (.dK (dropK kvs key)))
section
variable {H : Hp} {L R : List Ck} {I : List (Hp → Prop)} {a : Addr} {kvs : List (Key × V)} {od : Obj}
theorem dgt_i {i : Int} {k : Option V → Prop} (h : Own H L I) (e : Pull L (.pt a (.dK kvs)) R) (q : k (valV kvs (.inl i))) : DGt H a (.int i) k := ⟨_, DGet.k (k := .inl i) (h.get e), q⟩
theorem dgt_s {z : Str} {k : Option V → Prop} (h : Own H L I) (e : Pull L (.pt a (.dK kvs)) R) (q : k (valV kvs (.inr z))) : DGt H a (.str z) k := ⟨_, DGet.k (k := .inr z) (h.get e), q⟩
theorem dgt_if {i : Int} {k : Option V → Prop} (h : Own H L I) (e : Pull L (.pt a (.frz od (.dK kvs))) R) (q : k (valV kvs (.inl i))) : DGt H a (.int i) k := ⟨_, .inl ⟨kvs, .inl i, .inr ⟨od, h.get e⟩, rfl, rfl⟩, q⟩
theorem dgt_sf {z : Str} {k : Option V → Prop} (h : Own H L I) (e : Pull L (.pt a (.frz od (.dK kvs))) R) (q : k (valV kvs (.inr z))) : DGt H a (.str z) k := ⟨_, .inl ⟨kvs, .inr z, .inr ⟨od, h.get e⟩, rfl, rfl⟩, q⟩
theorem dgv_i {i : Int} {v : V} {k : V → Prop} (h : Own H L I) (e : Pull L (.pt a (.dK kvs)) R) (x : valV kvs (.inl i) = some v) (q : k v) : DGv H a (.int i) k := ⟨v, x ▸ DGet.k (k := .inl i) (h.get e), q⟩
theorem dgv_s {z : Str} {v : V} {k : V → Prop} (h : Own H L I) (e : Pull L (.pt a (.dK kvs)) R) (x : valV kvs (.inr z) = some v) (q : k v) : DGv H a (.str z) k := ⟨v, x ▸ DGet.k (k := .inr z) (h.get e), q⟩
theorem dgv_if {i : Int} {v : V} {k : V → Prop} (h : Own H L I) (e : Pull L (.pt a (.frz od (.dK kvs))) R) (x : valV kvs (.inl i) = some v) (q : k v) : DGv H a (.int i) k := ⟨v, .inl ⟨kvs, .inl i, .inr ⟨od, h.get e⟩, rfl, x.symm⟩, q⟩
theorem dpt_i {i : Int} {v : V} {k : Hp → Prop} (h : Own H L I) (e : Pull L (.pt a (.dK kvs)) R) (l : kvs.length < sizeLine) (q : ∀ H', Own H' (.pt a (.dK (putK kvs (.inl i) v)) :: R) I → k H') : DPt H a (.int i) v k := ⟨_, DPut.k (k := .inl i) (h.get e) l, q _ (h.put e rfl)⟩
theorem dpt_s {z : Str} {v : V} {k : Hp → Prop} (h : Own H L I) (e : Pull L (.pt a (.dK kvs)) R) (l : kvs.length < sizeLine) (q : ∀ H', Own H' (.pt a (.dK (putK kvs (.inr z) v)) :: R) I → k H') : DPt H a (.str z) v k := ⟨_, DPut.k (k := .inr z) (h.get e) l, q _ (h.put e rfl)⟩
theorem ddl_i {i : Int} {k : Hp → Prop} (h : Own H L I) (e : Pull L (.pt a (.dK kvs)) R) (x : (valV kvs (.inl i)).isSome = true) (q : ∀ H', Own H' (.pt a (.dK (dropK kvs (.inl i))) :: R) I → k H') : DDl H a (.int i) k := ⟨kvs, .inl i, h.get e, rfl, x, q _ (h.put e rfl)⟩
end
structure UnL (H : Hp) (d : Addr) (od : Obj) (u : HO) (k : Hp → Prop) : Prop where
  at_ : H d = some (.frz od u)
  k : k (upd H d u)
structure LockE (t : TE) (σ : L2.St) (H : Hp) (Q : VK) : Prop where
  ex : ∃ d u, H d = some u ∧ Mut (some u) ∧ ∀ od, t σ (upd H d (.frz od u)) fun v H' => UnL H' d od u (Q v)
section
variable {H : Hp} {L R : List Ck} {I : List (Hp → Prop)} {d : Addr} {kvs : List (Key × V)} {od : Obj}
theorem lockE_o {t : TE} {σ : L2.St} {Q : VK} (h : Own H L I) (e : Pull L (.pt d (.dK kvs)) R) (q : ∀ od H', Own H' (.pt d (.frz od (.dK kvs)) :: R) I → t σ H' fun v H' => UnL H' d od (.dK kvs) (Q v)) : LockE t σ H Q := ⟨d, _, h.get e, trivial, fun od => q od _ (h.put e rfl)⟩
theorem unl_o {k : Hp → Prop} (h : Own H L I) (e : Pull L (.pt d (.frz od (.dK kvs))) R) (q : ∀ H', Own H' (.pt d (.dK kvs) :: R) I → k H') : UnL H d od (.dK kvs) k := ⟨h.get e, q _ (h.put e rfl)⟩
end
structure ItK (H : Hp) (d : Addr) (R : It → Hp → Prop) : Prop where
  ex : ∃ o kvs, H d = some (.frz o (.dK kvs)) ∧ R (Itk d o kvs) H
section
variable {g : TG} {tb : TS} {D : Ends} {σ : L2.St} {H : Hp} {d p : Addr} {o : Obj} {kvs : List (Key × V)} {tt : TT} {te : TE} {vs : List Nat} {Qd : Hp → Prop} {L R : List Ck} {I : List (Hp → Prop)}
theorem itk_o {P : It → Hp → Prop} (h : Own H L I) (e : Pull L (.pt d (.frz o (.dK kvs))) R) (q : P (Itk d o kvs) H) : ItK H d P := ⟨o, kvs, h.get e, q⟩
end
end OW
set_option Elab.async false
set_option linter.all false
set_option maxRecDepth 100000
set_option maxHeartbeats 2000000
namespace OW
open PySem PySem.Spec PyProof.Rows L2 RZ SkE CL
theorem dgv_sf {H : Hp} {L R : List Ck} {I : List (Hp → Prop)} {a : Addr} {kvs : List (Key × V)} {od : Obj} {z : Str} {v : V} {k : V → Prop} (h : Own H L I) (e : Pull L (.pt a (.frz od (.dK kvs))) R) (x : valV kvs (.inr z) = some v) (q : k v) : DGv H a (.str z) k := ⟨v, .inl ⟨kvs, .inr z, .inr ⟨od, h.get e⟩, rfl, x.symm⟩, q⟩
end OW
set_option Elab.async false
set_option linter.all false
set_option maxRecDepth 100000
set_option maxHeartbeats 2000000
namespace OW
open PySem PySem.Spec PyProof.Rows L2 RZ SkE CL
theorem PE.by_ {X : Cx} {e : Expr} {t u : TE} (h : PE X e t) (w : ∀ σ H Q, u σ H Q → t σ H Q) : PE X e u := ⟨fun pins s σ H Q I q => h.run pins s σ H Q I (w σ H Q q)⟩
structure IntS (a : Str) (k : Int → Prop) : Prop where
  ex : ∃ n, PySem.intText? a = some n ∧ a.length ≤ 640 ∧ k n
def rIntG : List V → Hp → VK → Prop := fun xs H Q => match xs with
  | [.int i] => Q (.int i) H
  | [.bl b] => Q (.int (if b then 1 else 0)) H
  | [.str a] => IntS a fun n => Q (.int n) H
  | _ => False
theorem k_intG {X : Cx} : CallR X (.type "int") rIntG := by
  intro pins s σ H xs us Q I r h
  unfold rIntG at h
  split at h
  · exact call_int1 pins s σ H _ us Q I r (.inl ⟨_, rfl, h⟩)
  · exact call_int1 pins s σ H _ us Q I r (.inr ⟨_, rfl, h⟩)
  · obtain ⟨⟨n, h1, h2, h3⟩⟩ := h
    exact call_int_str pins s σ H _ us Q I r ⟨_, n, rfl, h1, h2, h3⟩
  · exact h.elim
theorem unt_i {K : PySem.W.Frag} {H : Hp} {L : List Ck} {I : List (Hp → Prop)} {a : Addr} {xs : List V} {n : Nat} {k : List V → Prop} (h : Own H L I) (m : tupI a xs ∈ I) (l : xs.length = n) (q : k xs) : UnT K H a n k := ⟨xs, SqT.of (h.imp m), l, q⟩
theorem IDpAll.mem {H : Hp} : ∀ {xs : List V} {ds : List PyData} {y : V}, IDpAll H xs ds → y ∈ xs → ∃ d ∈ ds, IDp H y d
  | _, _, y, .nil, m => (List.not_mem_nil m).elim
  | _, _, y, .cons a b, m => by
    rcases List.mem_cons.mp m with rfl | m
    · exact ⟨_, List.mem_cons_self, a⟩
    · obtain ⟨d, hd, h⟩ := b.mem m
      exact ⟨d, List.mem_cons_of_mem _ hd, h⟩
theorem IDpAll.ints_inv {H : Hp} : ∀ {ns : List Int} {xs : List V}, IDpAll H xs (ns.map PyData.int) → xs = ns.map V.int
  | [], xs, h => by cases h; rfl
  | n :: ns, xs, h => by
    cases h with
    | cons a g =>
      cases a
      rw [g.ints_inv]
      rfl
theorem IDp.tup_inv {H : Hp} {v : V} {ds : List PyData} (h : IDp H v (.tuple ds)) : ∃ a xs, v = .ref a ∧ H a = some (.tup xs) ∧ IDpAll H xs ds := by
  cases h with
  | tup h g => exact ⟨_, _, rfl, h, g⟩
theorem IDp.ints_inv {H : Hp} {v : V} {ns : List Int} (h : IDp H v (.tuple (ns.map PyData.int))) : ∃ a, v = .ref a ∧ H a = some (.tup (ns.map V.int)) := by
  obtain ⟨a, xs, rfl, h1, h2⟩ := h.tup_inv
  rw [h2.ints_inv] at h1
  exact ⟨a, rfl, h1⟩
theorem IDpAll.cons_inv {H : Hp} {xs : List V} {d : PyData} {ds : List PyData} (h : IDpAll H xs (d :: ds)) : ∃ v vs, xs = v :: vs ∧ IDp H v d ∧ IDpAll H vs ds := by
  cases h with
  | cons a g => exact ⟨_, _, rfl, a, g⟩
theorem DpAll.len {K : PySem.W.Frag} {H : Hp} : ∀ {xs : List V} {ds : List PyData}, DpAll K H xs ds → xs.length = ds.length
  | _, _, .nil => rfl
  | _, _, .cons _ g => congrArg (· + 1) (DpAll.len g)
theorem DpAll.erase {K : PySem.W.Frag} {H : Hp} : ∀ {xs : List V} {ds : List PyData} (i : Nat), DpAll K H xs ds → DpAll K H (xs.eraseIdx i) (ds.eraseIdx i)
  | _, _, _, .nil => .nil
  | _, _, 0, .cons _ g => g
  | _, _, i + 1, .cons a g => .cons a (DpAll.erase i g)
theorem lay_all : ∀ {ds : List PyData}, (∀ d ∈ ds, d.canLay0 = true ∧ d.depth ≤ 60) → PyData.canLayAll0 ds = true ∧ PyData.depthAll ds ≤ 61
  | [], _ => ⟨rfl, Nat.zero_le _⟩
  | d :: ds, h => by
    have a := h d List.mem_cons_self
    have b := lay_all (fun e m => h e (List.mem_cons_of_mem _ m))
    exact ⟨by simp [PyData.canLayAll0, a.1, b.1], by simp [PyData.depthAll]; omega⟩
theorem shaped_lst {ds : List PyData} (h : ∀ d ∈ ds, d.canLay0 = true ∧ d.depth ≤ 60) : SeqAt.shaped (.list ds) = true := by
  have a := lay_all h
  have d : PyData.depthAll ds + 1 ≤ 64 := by omega
  simp [SeqAt.shaped, PyData.canLay0, PyData.depth, a.1, d]
theorem shaped_tup {ds : List PyData} (h : ∀ d ∈ ds, d.canLay0 = true ∧ d.depth ≤ 60) : SeqAt.shaped (.tuple ds) = true := by
  have a := lay_all h
  have d : PyData.depthAll ds + 1 ≤ 64 := by omega
  simp [SeqAt.shaped, PyData.canLay0, PyData.depth, a.1, d]
end OW
set_option Elab.async false
set_option linter.all false
set_option maxRecDepth 100000
set_option maxHeartbeats 2000000
namespace OW
open PySem PySem.Spec PyProof.Rows L2 RZ SkE CL
end OW
set_option Elab.async false
set_option linter.all false
set_option maxRecDepth 100000
set_option maxHeartbeats 2000000
namespace OW
open PySem PySem.Spec PyProof.Rows L2 RZ SkE CL
structure ValsL (H : Hp) (d : Addr) (Q : VK) : Prop where
  ex : ∃ kvs, H d = some (.dK kvs) ∧ New H (.lst (kvs.map (·.2))) fun p H' => Q (.ref p) H'
theorem vals_o {H : Hp} {L R : List Ck} {I : List (Hp → Prop)} {d : Addr} {kvs : List (Key × V)} {Q : VK} (h : Own H L I) (e : Pull L (.pt d (.dK kvs)) R) (q : ∀ p H', Own H' (.pt p (.lst (kvs.map (·.2))) :: L) I → Q (.ref p) H') : ValsL H d Q := ⟨kvs, h.get e, new_o h q⟩
end OW
set_option Elab.async false
set_option linter.all false
set_option maxRecDepth 100000
set_option maxHeartbeats 2000000
namespace OW
open PySem PySem.Spec PyProof.Rows L2 RZ SkE CL
def toK : V → Key
  | .int i => .inl i
  | .str z => .inr z
  | _ => .inl 0
def toKs (ps : List (V × V)) : List (Key × V) := ps.map fun p => (toK p.1, p.2)
structure DDsp (H : Hp) (p : Addr) (ps : List (V × V)) (Q : VK) : Prop where
  ex : H p = some (.dK []) ∧ ∃ kvs : List (Key × V), ps = kvs.map (fun kv => (kV kv.1, kv.2)) ∧ kvs.length ≤ 15 ∧ Q (.ref p) (upd H p (.dK (mergeK [] kvs)))
theorem ddsp_o {H : Hp} {L R : List Ck} {I : List (Hp → Prop)} {p : Addr} {ps : List (V × V)} {Q : VK} (h : Own H L I) (e : Pull L (.pt p (.dK [])) R) (f : ps = (toKs ps).map (fun kv => (kV kv.1, kv.2))) (l : (toKs ps).length ≤ 15) (q : ∀ H', Own H' (.pt p (.dK (mergeK [] (toKs ps))) :: R) I → Q (.ref p) H') : DDsp H p ps Q := ⟨h.get e, toKs ps, f, l, q _ (h.put e rfl)⟩
end OW
set_option Elab.async false
set_option linter.all false
set_option maxRecDepth 100000
set_option maxHeartbeats 2000000
namespace OW
open PySem PySem.Spec PyProof.Rows L2 RZ SkE CL
def maxI : List Int → Int
  | [] => 0
  | [x] => x
  | x :: y :: r => if x < maxI (y :: r) then maxI (y :: r) else x
def minI : List Int → Int
  | [] => 0
  | [x] => x
  | x :: y :: r => if minI (y :: r) < x then minI (y :: r) else x
theorem maxI_mem : ∀ {ns : List Int}, 0 < ns.length → maxI ns ∈ ns
  | [x], _ => List.mem_singleton.mpr rfl
  | x :: y :: r, _ => by
    have ih := maxI_mem (ns := y :: r) (Nat.succ_pos _)
    show (if x < maxI (y :: r) then maxI (y :: r) else x) ∈ _
    split
    · exact List.mem_cons_of_mem _ ih
    · exact List.mem_cons_self
theorem maxI_le : ∀ {ns : List Int} {z : Int}, z ∈ ns → z ≤ maxI ns
  | [x], z, m => by rw [List.mem_singleton.mp m]; exact Int.le_refl _
  | x :: y :: r, z, m => by
    show z ≤ (if x < maxI (y :: r) then maxI (y :: r) else x)
    rcases List.mem_cons.mp m with rfl | m
    · split <;> omega
    · have ih := maxI_le m
      split <;> omega
theorem minI_mem : ∀ {ns : List Int}, 0 < ns.length → minI ns ∈ ns
  | [x], _ => List.mem_singleton.mpr rfl
  | x :: y :: r, _ => by
    have ih := minI_mem (ns := y :: r) (Nat.succ_pos _)
    show (if minI (y :: r) < x then minI (y :: r) else x) ∈ _
    split
    · exact List.mem_cons_of_mem _ ih
    · exact List.mem_cons_self
theorem minI_le : ∀ {ns : List Int} {z : Int}, z ∈ ns → minI ns ≤ z
  | [x], z, m => by rw [List.mem_singleton.mp m]; exact Int.le_refl _
  | x :: y :: r, z, m => by
    show (if minI (y :: r) < x then minI (y :: r) else x) ≤ z
    rcases List.mem_cons.mp m with rfl | m
    · split <;> omega
    · have ih := minI_le m
      split <;> omega
theorem maxI_is {ns : List Int} {m : Int} (h : m ∈ ns) (g : ∀ z ∈ ns, z ≤ m) : maxI ns = m := by
  have h0 : 0 < ns.length := List.length_pos_of_mem h
  have a := maxI_le h
  have b := g _ (maxI_mem h0)
  omega
theorem minI_is {ns : List Int} {m : Int} (h : m ∈ ns) (g : ∀ z ∈ ns, m ≤ z) : minI ns = m := by
  have h0 : 0 < ns.length := List.length_pos_of_mem h
  have a := minI_le h
  have b := g _ (minI_mem h0)
  omega
structure MaxL (K : PySem.W.Frag) (H : Hp) (a : Addr) (f : List Int → Int) (k : Int → Prop) : Prop where
  ex : ∃ ns, SqL K H a (ns.map V.int) ∧ 0 < ns.length ∧ k (f ns)
def rMaxG (K : PySem.W.Frag) : List V → Hp → VK → Prop := fun xs H Q => match xs with
  | [.int i, .int j] => Q (.int (if j > i then j else i)) H
  | [.int i, .int j, .int k] => Q (.int (if (if j > i then j else i) < k then k else (if j > i then j else i))) H
  | [.ref a] => MaxL K H a maxI fun m => Q (.int m) H
  | _ => False
theorem k_maxG {X : Cx} (hc : X.calm = true) : CallR X (.builtin "max") (rMaxG X.K) := by
  intro pins s σ H xs us Q I r h
  unfold rMaxG at h
  split at h
  · exact call_max2 hc pins s σ H _ us Q I r ⟨_, _, rfl, h⟩
  · rename_i i j k
    refine call_max3Nu hc pins s σ H _ us Q I r ⟨_, _, _, _, rfl, ?_, h⟩
    show (nuMax2 (.int i) (.int j)).bind (fun m => nuMax2 m (.int k)) = _
    have e : ∀ a b : Int, nuMax2 (.int a) (.int b) = some (.int (if a < b then b else a)) := fun a b => by
      show (nuLt (.int a) (.int b)).map (fun c => if c = true then V.int b else V.int a) = _
      show some (if decide (a < b) = true then V.int b else V.int a) = _
      by_cases h : a < b
      · rw [if_pos (decide_eq_true h), if_pos h]
      · rw [if_neg (by simpa using h), if_neg h]
    rw [e]
    show nuMax2 _ _ = _
    rw [e]
  · obtain ⟨⟨ns, h1, h2, h3⟩⟩ := h
    exact cr_max hc pins s σ H _ us Q I r ⟨_, ns, rfl, h1, h2, fun m a b => maxI_is a b ▸ h3⟩
  · exact h.elim
def rMinL (K : PySem.W.Frag) : List V → Hp → VK → Prop := fun xs H Q => match xs with
  | [.int i, .int j] => Q (.int (if j < i then j else i)) H
  | [.int i, .int j, .int k] => Q (.int (if k < (if j < i then j else i) then k else (if j < i then j else i))) H
  | [.ref a] => MaxL K H a minI fun m => Q (.int m) H
  | _ => False
theorem k_minL {X : Cx} (hc : X.calm = true) : CallR X (.builtin "min") (rMinL X.K) := by
  intro pins s σ H xs us Q I r h
  unfold rMinL at h
  split at h
  · exact k_minG hc pins s σ H _ us Q I r h
  · exact k_minG hc pins s σ H _ us Q I r h
  · obtain ⟨⟨ns, h1, h2, h3⟩⟩ := h
    exact cr_min hc pins s σ H _ us Q I r ⟨_, ns, rfl, h1, h2, fun m a b => minI_is a b ▸ h3⟩
  · exact h.elim
structure AllL (K : PySem.W.Frag) (H : Hp) (a : Addr) (f : List Bool → Bool) (k : Bool → Prop) : Prop where
  ex : ∃ bs, SqL K H a (bs.map V.bl) ∧ k (f bs)
def rAllC (K : PySem.W.Frag) (f : List Bool → Bool) : List V → Hp → VK → Prop := fun xs H Q => match xs with
  | [.ref a] => AllL K H a f fun b => Q (.bl b) H
  | _ => False
theorem k_all {X : Cx} (hc : X.calm = true) : CallR X (.builtin "all") (rAllC X.K fun bs => bs.all id) := by
  intro pins s σ H xs us Q I r h
  unfold rAllC at h
  split at h
  · obtain ⟨⟨bs, h1, h2⟩⟩ := h
    exact cr_all hc pins s σ H _ us Q I r ⟨_, bs, rfl, h1, h2⟩
  · exact h.elim
theorem k_any {X : Cx} (hc : X.calm = true) : CallR X (.builtin "any") (rAllC X.K fun bs => bs.any id) := by
  intro pins s σ H xs us Q I r h
  unfold rAllC at h
  split at h
  · obtain ⟨⟨bs, h1, h2⟩⟩ := h
    exact cr_any hc pins s σ H _ us Q I r ⟨_, bs, rfl, h1, h2⟩
  · exact h.elim
structure SortG (K : PySem.W.Frag) (H : Hp) (a : Addr) (Q : VK) : Prop where
  ex : (∃ xs : List Str, SqL K H a (xs.map V.str) ∧ xs.length < 64 ∧ ∀ ys : List Str, ys.Perm xs → sortedS ys = true → New H (.lst (ys.map V.str)) fun p H' => Q (.ref p) H') ∨
    ∃ ns : List Int, SqL K H a (ns.map V.int) ∧ ns.length < 64 ∧ ∀ ms : List Int, ms.Perm ns → ms.Pairwise (· ≤ ·) → New H (.lst (ms.map V.int)) fun p H' => Q (.ref p) H'
def rSortG (K : PySem.W.Frag) : List V → Hp → VK → Prop := fun vs H Q => match vs with
  | [.ref a] => SortG K H a Q
  | _ => False
theorem k_sortG {X : Cx} : CallR X (.builtin "sorted") (rSortG X.K) := by
  intro pins s σ H vs us Q I r h
  unfold rSortG at h
  split at h
  · obtain ⟨⟨xs, h1, h2, h3⟩ | ⟨ns, h1, h2, h3⟩⟩ := h
    · exact cr_sortedS pins s σ H _ us Q I r ⟨_, xs, rfl, h1, h2, fun ys p e f n => (h3 ys e f).k p n⟩
    · exact cr_sorted pins s σ H _ us Q I r ⟨_, ns, rfl, h1, h2, fun ms p e f n => (h3 ms e f).k p n⟩
  · exact h.elim
def rgI (a b : Int) : List Int := (List.range (b - a).toNat).map fun i : Nat => a + (i : Int)
theorem rgV_eq (a b : Int) : rgV a b = (rgI a b).map V.int := by
  unfold rgV rgI
  rw [List.map_map]
  rfl
structure InD (K : PySem.W.Frag) (H : Hp) (x y : V) (k : Bool → Prop) : Prop where
  ex : ∃ d ds, Dp K H x d ∧ Dp K H y (.list ds) ∧ SeqAt.shaped d = true ∧ SeqAt.shaped (.list ds) = true ∧ k (ds.any fun z => PyData.eqv z d)
theorem k_anyK {X : Cx} {K : PySem.W.Frag} (h : X.K = K) (hc : X.calm = true) : CallR X (.builtin "any") (rAllC K fun bs => bs.any id) := h ▸ k_any hc
section
variable {K : PySem.W.Frag} {g : TG} {tb : TS} {D : Ends} {σ : L2.St} {H : Hp} {a b p : Addr} {xs ys : List V} {tt : TT} {te : TE} {vs : List Nat} {Qd : Hp → Prop}
theorem la_enum (Pv : Nat → Hp → Prop) (h0 : Pv 0 (upd H p (.lst []))) (hl : ∀ i H, i ≤ xs.length → Pv i H → SqL K H a xs)
    (hs : ∀ (i : Nat) (x : V) (T : Addr) (H : Hp), xs[i]? = some x → Pv i H → H T = none → LcT g tt te vs σ p (.ref T) (upd H T (.tup [.int (i : Nat), x])) (Pv (i + 1))) (hd : ∀ H, Pv xs.length H → Qd H) :
    LcW (Ite K a) g tt te vs σ p Qd H := ⟨lc_it walk_enum Pv h0 hl (fun i x H H' hi hp ⟨T, x1, y1, e1, hT, e2, e3, e4⟩ => by
      subst e1 e2
      cases e3
      have z := hs i y1 T H e4 hp hT
      rw [lct_eq] at z
      exact z) hd⟩
theorem la_zipT (hl : xs.length = ys.length) (Pv : Nat → Hp → Prop) (h0 : Pv 0 (upd H p (.lst []))) (hq : ∀ i H, Pv i H → SqT K H a xs ∧ SqT K H b ys)
    (hs : ∀ (i : Nat) (x y : V) (T : Addr) (H : Hp), xs[i]? = some x → ys[i]? = some y → Pv i H → H T = none → LcT g tt te vs σ p (.ref T) (upd H T (.tup [x, y])) (Pv (i + 1))) (hd : ∀ H, Pv xs.length H → Qd H) :
    LcW (ItzT K a b) g tt te vs σ p Qd H := lw_zipT hl Pv h0 hq (fun i x y T H hx hy hp hT => lct_eq ▸ hs i x y T H hx hy hp hT) hd
end
section
variable {K : PySem.W.Frag} {H : Hp} {L R M : List Ck} {I : List (Hp → Prop)} {a b : Addr} {xs ys : List V}
theorem maxl_o {ns : List Int} {f : List Int → Int} {k : Int → Prop} (h : Own H L I) (e : Pull L (.pt a (.lst (ns.map V.int))) R) (n : 0 < ns.length) (q : k (f ns)) : MaxL K H a f k := ⟨ns, SqL.of (h.get e), n, q⟩
theorem alll_o {bs : List Bool} {f : List Bool → Bool} {k : Bool → Prop} (h : Own H L I) (e : Pull L (.pt a (.lst (bs.map V.bl))) R) (q : k (f bs)) : AllL K H a f k := ⟨bs, SqL.of (h.get e), q⟩
theorem sorti_o {ns : List Int} {Q : VK} (h : Own H L I) (e : Pull L (.pt a (.lst (ns.map V.int))) R) (n : ns.length < 64) (q : ∀ ms : List Int, ms.Perm ns → ms.Pairwise (· ≤ ·) → ∀ p H', Own H' (.pt p (.lst (ms.map V.int)) :: L) I → Q (.ref p) H') : SortG K H a Q := ⟨.inr ⟨ns, SqL.of (h.get e), n, fun ms p s => new_o h (q ms p s)⟩⟩
theorem sorts_o {ns : List Str} {Q : VK} (h : Own H L I) (e : Pull L (.pt a (.lst (ns.map V.str))) R) (n : ns.length < 64) (q : ∀ ms : List Str, ms.Perm ns → sortedS ms = true → ∀ p H', Own H' (.pt p (.lst (ms.map V.str)) :: L) I → Q (.ref p) H') : SortG K H a Q := ⟨.inl ⟨ns, SqL.of (h.get e), n, fun ms p s => new_o h (q ms p s)⟩⟩
theorem ind_o {ds : List PyData} {d : PyData} {x y : V} {k : Bool → Prop} (h1 : Dp K H x d) (h2 : Dp K H y (.list ds)) (h3 : SeqAt.shaped d = true) (h4 : SeqAt.shaped (.list ds) = true) (q : k (ds.any fun z => PyData.eqv z d)) : InD K H x y k := ⟨d, ds, h1, h2, h3, h4, q⟩
end
def SeqW (k : Bool) (L : List Ck) (I : List (Hp → Prop)) (w : Addr) (xs : List V) : Prop := match k with
  | true => ∃ R, Pull L (.pt w (.lst xs)) R
  | false => (∃ R, Pull L (.pt w (.tup xs)) R) ∨ tupI w xs ∈ I
section
variable {K : PySem.W.Frag} {g : TG} {tb : TS} {D : Ends} {σ : L2.St} {H : Hp} {L M R : List Ck} {I J : List (Hp → Prop)} {a b p w : Addr} {xs ys : List V} {tt : TT} {te : TE} {vs : List Nat} {k : Bool} {c : Ck}
theorem SeqW.tail (h : SeqW k L I w xs) : SeqW k (c :: L) I w xs := match k, h with
  | true, ⟨R, h⟩ => ⟨_, .tail h⟩
  | false, .inl ⟨R, h⟩ => .inl ⟨_, .tail h⟩
  | false, .inr h => .inr h
theorem SeqW.more {S : Hp → Prop} (h : SeqW k L I w xs) : SeqW k L (S :: I) w xs := match k, h with
  | true, h => h
  | false, .inl h => .inl h
  | false, .inr h => .inr (List.mem_cons_of_mem _ h)
theorem SeqW.l (h : Own H L I) (e : SeqW true L I w xs) : SqL K H w xs := let ⟨_, e⟩ := e; SqL.of (h.get e)
theorem SeqW.t (h : Own H L I) (e : SeqW false L I w xs) : SqT K H w xs := match e with
  | .inl ⟨_, e⟩ => SqT.of (h.get e)
  | .inr e => SqT.of (h.imp e)
theorem seqw_la {Qd : Addr → Hp → Prop} (h : Own H L I) (e : SeqW k L I w xs) (Pv : Addr → Nat → Hp → Prop) (h0 : ∀ p H', Own H' (.pt p (.lst []) :: L) I → Pv p 0 H') (hk : ∀ p i H', Pv p i H' → ∃ M J, Own H' M J ∧ SeqW k M J w xs)
    (hs : ∀ p (i : Nat) x H', xs[i]? = some x → Pv p i H' → LcT g tt te vs σ p x H' (Pv p (i + 1))) (hd : ∀ p H', Pv p xs.length H' → Qd p H') : ItV K H w fun J H1 => NewA H1 fun D => LcW J g tt te vs σ D (Qd D) H1 := by
  cases k with
  | true => exact ⟨.inl ⟨⟨xs, SeqW.l h e⟩, newa_o h fun p w1 => la_list (Pv p) (h0 p _ w1) (fun i H' _ q => let ⟨M, J, o, z⟩ := hk p i H' q; SeqW.l o z) (hs p) (hd p)⟩⟩
  | false => exact ⟨.inr (.inl ⟨⟨xs, SeqW.t h e⟩, newa_o h fun p w1 => la_tup (Pv p) (h0 p _ w1) (fun i H' _ q => let ⟨M, J, o, z⟩ := hk p i H' q; SeqW.t o z) (hs p) (hd p)⟩)⟩
end
theorem IDpAll.at {H : Hp} : ∀ {xs : List V} {ds : List PyData} {i : Nat} {x : V}, IDpAll H xs ds → xs[i]? = some x → ∃ d, ds[i]? = some d ∧ IDp H x d
  | _, _, 0, x, .cons a g, h => by
    cases h
    exact ⟨_, rfl, a⟩
  | _, _, i + 1, x, .cons a g, h => IDpAll.at (i := i) g h
theorem take_get {α : Type} {l : List α} {i : Nat} {x : α} (h : l[i]? = some x) : l.take (i + 1) = l.take i ++ [x] := by
  rw [List.take_add_one, h]
  rfl
theorem take_map {α β : Type} (f : α → β) {l : List α} {i : Nat} {x : α} (h : l[i]? = some x) : (l.take (i + 1)).map f = (l.take i).map f ++ [f x] := by
  rw [take_get h, List.map_append]
  rfl
theorem lt_get {α : Type} {l : List α} {i : Nat} {x : α} (h : l[i]? = some x) : i < l.length := (List.getElem?_eq_some_iff.mp h).1
end OW
set_option Elab.async false
set_option linter.all false
set_option maxRecDepth 100000
set_option maxHeartbeats 2000000
namespace OW
open PySem PySem.Spec PyProof.Rows L2 RZ SkE CL
structure ShwB (d : PyData) (m B : Nat) : Prop where
  s : d.showable = true
  h : d.hasDict = false
  l : d.canLay0 = true
  q : d.depth ≤ m
  b : bnd d ≤ B
structure ShwA (ds : List PyData) (m B : Nat) : Prop where
  s : PyData.showableAll ds = true
  h : PyData.hasDictAll ds = false
  l : PyData.canLayAll0 ds = true
  q : PyData.depthAll ds ≤ m
  b : bndAll ds ≤ B
def smI (i : Int) : Prop := i.natAbs < 18446744073709551616
theorem shw_int {i : Int} (h : smI i) : ShwB (.int i) 0 1921 := ⟨by simp [PyData.showable, log_of2 h], rfl, rfl, Nat.le_refl _, Nat.le_refl _⟩
theorem shw_str {z : Str} (h : PyData.canLay0 (.str z) = true) : ShwB (.str z) 0 (reprText z).length := ⟨rfl, rfl, h, Nat.le_refl _, Nat.le_refl _⟩
theorem ShwB.up {d : PyData} {m B m' B' : Nat} (h : ShwB d m B) (a : m ≤ m') (b : B ≤ B') : ShwB d m' B' := ⟨h.s, h.h, h.l, Nat.le_trans h.q a, Nat.le_trans h.b b⟩
theorem shwA {m B : Nat} : ∀ {ds : List PyData}, (∀ d ∈ ds, ShwB d m B) → ShwA ds m (ds.length * (B + 2))
  | [], _ => ⟨rfl, rfl, rfl, Nat.zero_le _, Nat.zero_le _⟩
  | d :: ds, h => by
    have a := h d List.mem_cons_self
    have i := shwA (fun e m => h e (List.mem_cons_of_mem _ m))
    refine ⟨?_, ?_, ?_, ?_, ?_⟩
    · simp [PyData.showableAll, a.s, i.s]
    · simp [PyData.hasDictAll, a.h, i.h]
    · simp [PyData.canLayAll0, a.l, i.l]
    · have := a.q; have := i.q; simp [PyData.depthAll]; omega
    · have := a.b
      have := i.b
      show bnd d + 2 + bndAll ds ≤ (ds.length + 1) * (B + 2)
      rw [Nat.add_mul]
      omega
theorem ShwA.tup {ds : List PyData} {m B : Nat} (h : ShwA ds m B) : ShwB (.tuple ds) (m + 1) (B + 3) := ⟨by simpa [PyData.showable] using h.s, by simpa [PyData.hasDict] using h.h, by simpa [PyData.canLay0] using h.l, by have := h.q; simp [PyData.depth]; omega, by have := h.b; show bndAll ds + 3 ≤ B + 3; omega⟩
theorem ShwA.lst {ds : List PyData} {m B : Nat} (h : ShwA ds m B) : ShwB (.list ds) (m + 1) (B + 3) := ⟨by simpa [PyData.showable] using h.s, by simpa [PyData.hasDict] using h.h, by simpa [PyData.canLay0] using h.l, by have := h.q; simp [PyData.depth]; omega, by have := h.b; show bndAll ds + 2 ≤ B + 3; omega⟩
theorem ShwB.shaped {d : PyData} {m B : Nat} (h : ShwB d m B) (a : m ≤ 64) : SeqAt.shaped d = true := by
  have l := h.l
  have e : d.depth ≤ 64 := Nat.le_trans h.q a
  simp [SeqAt.shaped, l, e]
theorem ShwB.refl {d : PyData} {m B : Nat} (h : ShwB d m B) : PyData.eqv d d = true := SeqAt.eqv_refl d h.l
theorem shw_ints {ns : List Int} (h : ∀ z ∈ ns, smI z) : ShwA (ns.map PyData.int) 0 (ns.length * 1923) := by
  have := shwA (m := 0) (B := 1921) (ds := ns.map PyData.int) (fun d m => by
    obtain ⟨z, hz, rfl⟩ := List.mem_map.mp m
    exact shw_int (h z hz))
  rwa [List.length_map] at this
/-- two things of equal data, compared -/
theorem eqd_same {K : PySem.W.Frag} {H : Hp} {x y : V} {d : PyData} {k : Bool → Prop} {m B : Nat} (h : Dp K H x d) (g : Dp K H y d) (s : ShwB d m B) (a : m ≤ 64) (q : k true) : EqD K H x y k := eqd_mk h g (s.shaped a) (s.shaped a) (by rw [s.refl]; exact q)
/-- 0 .. n - 1 -/
def upI (n : Nat) : List Int := (List.range n).map fun i : Nat => (i : Int)
theorem upI_succ (n : Nat) : upI (n + 1) = upI n ++ [(n : Int)] := by unfold upI; rw [List.range_succ, List.map_append]; rfl
theorem upI_len (n : Nat) : (upI n).length = n := by unfold upI; rw [List.length_map, List.length_range]
theorem mem_upI {n : Nat} {z : Int} : z ∈ upI n ↔ 0 ≤ z ∧ z < n := by
  unfold upI
  rw [List.mem_map]
  constructor
  · rintro ⟨i, hi, rfl⟩
    have := List.mem_range.mp hi
    omega
  · rintro ⟨h1, h2⟩
    exact ⟨z.toNat, List.mem_range.mpr (by omega), by omega⟩
theorem upI_asc (n : Nat) : (upI n).Pairwise (· < ·) := by
  unfold upI
  rw [List.pairwise_map]
  exact List.Pairwise.imp (fun {x y} h => by omega) List.pairwise_lt_range
theorem sub_nil {α : Type} {M : List α} : ∀ S ∈ ([] : List α), S ∈ M := fun S h => (List.not_mem_nil h).elim
theorem sub_cons {α : Type} {R : α} {L M : List α} (h : R ∈ M) (t : ∀ S ∈ L, S ∈ M) : ∀ S ∈ R :: L, S ∈ M := fun S m => by
  rcases List.mem_cons.mp m with rfl | m
  · exact h
  · exact t S m
theorem seqw_l {L R : List Ck} {I : List (Hp → Prop)} {w : Addr} {xs : List V} (e : Pull L (.pt w (.lst xs)) R) : SeqW true L I w xs := ⟨_, e⟩
end OW
set_option Elab.async false
set_option linter.all false
set_option maxRecDepth 100000
set_option maxHeartbeats 2000000
namespace OW
open PySem PySem.Spec PyProof.Rows L2 RZ SkE CL
def rIsG (neg : Bool) : R2 := fun x y H Q => match y with
  | .non => Q (.bl (if neg then !decide (x = .non) else decide (x = .non))) H
  | .bl b => match x with
    | .bl a => Q (.bl (if neg then !decide (a = b) else decide (a = b))) H
    | _ => False
  | _ => False
theorem c_isnotG {X : Cx} : OpR X (compareOp .IsNot) (rIsG true) := by
  intro pins s σ H x y v u Q I rx ry h
  unfold rIsG at h
  split at h
  · exact op_notN pins s σ H _ _ v u Q I rx ry ⟨rfl, h⟩
  · split at h
    · exact op_notBl pins s σ H _ _ v u Q I rx ry ⟨_, _, rfl, rfl, h⟩
    · exact h.elim
  · exact h.elim
def numD (ns : List Int) : PyData := .tuple (ns.map PyData.int)
theorem ids_nums {H : Hp} {xs : List V} {nss : List (List Int)} {i : Nat} {x : V} (h : IDpAll H xs (nss.map numD)) (hx : xs[i]? = some x) : ∃ a ns, x = .ref a ∧ nss[i]? = some ns ∧ H a = some (.tup (ns.map V.int)) := by
  obtain ⟨d, hd, g⟩ := h.at hx
  rw [List.getElem?_map] at hd
  cases hp : nss[i]? with
  | none => rw [hp] at hd; cases hd
  | some ns =>
    rw [hp] at hd
    cases hd
    obtain ⟨a, e1, e2⟩ := IDp.ints_inv g
    exact ⟨a, ns, e1, rfl, e2⟩
theorem IDpAll.ints' {H : Hp} : ∀ ns : List Int, IDpAll H (ns.map V.int) (ns.map PyData.int)
  | [] => .nil
  | n :: ns => .cons (.int n) (IDpAll.ints' ns)
theorem IDp.nums {H : Hp} {a : Addr} {ns : List Int} (h : H a = some (.tup (ns.map V.int))) : IDp H (.ref a) (numD ns) := .tup h (IDpAll.ints' ns)
theorem eqd_ints {K : PySem.W.Frag} {H : Hp} {L : List Ck} {I : List (Hp → Prop)} {a b : Addr} {x y : List Int} {k : Bool → Prop} (h : Own H L I) (ma : tupI a (x.map V.int) ∈ I) (mb : tupI b (y.map V.int) ∈ I) (q : k (decide (x = y))) : EqD K H (.ref a) (.ref b) k := by
  have e : PyData.eqv (.tuple (x.map PyData.int)) (.tuple (y.map PyData.int)) = decide (x = y) := eqv_ints x y
  refine eqd_mk (.tup (SqT.of (h.imp ma)) (dpAll_ints x)) (.tup (SqT.of (h.imp mb)) (dpAll_ints y)) ?_ ?_ (by rw [e]; exact q)
  · exact shaped_tup (fun d m => by obtain ⟨z, _, rfl⟩ := List.mem_map.mp m; exact ⟨rfl, Nat.zero_le _⟩)
  · exact shaped_tup (fun d m => by obtain ⟨z, _, rfl⟩ := List.mem_map.mp m; exact ⟨rfl, Nat.zero_le _⟩)
theorem get_D {l : List Int} {i : Nat} (h : i < l.length) : l[i]? = some (l.getD i 0) := by rw [List.getD_eq_getElem?_getD, List.getElem?_eq_getElem h]; rfl
theorem i_valK {X : Cx} {K : PySem.W.Frag} {tg l : Expr} {tl : TE} (h : X.K = K) (hl : PE X l tl) : PI X tg l (cVal K tl) := h ▸ i_val hl
end OW
set_option Elab.async false
set_option linter.all false
set_option maxRecDepth 100000
set_option maxHeartbeats 2000000
namespace OW
open PySem PySem.Spec PyProof.Rows L2 RZ SkE CL
structure UnU (K : PySem.W.Frag) (H : Hp) (a : Addr) (n : Nat) (k : List V → Prop) : Prop where
  ex : ∃ xs, SqL K H a xs ∧ xs.length = n ∧ k xs
theorem unu_o {K : PySem.W.Frag} {H : Hp} {L R : List Ck} {I : List (Hp → Prop)} {a : Addr} {xs : List V} {n : Nat} {k : List V → Prop} (h : Own H L I) (e : Pull L (.pt a (.lst xs)) R) (l : xs.length = n) (q : k xs) : UnU K H a n k := ⟨xs, SqL.of (h.get e), l, q⟩
end OW
set_option Elab.async false
set_option linter.all false
set_option maxRecDepth 100000
set_option maxHeartbeats 4000000
namespace OW
open PySem PySem.Spec PyProof.Rows L2 RZ SkE CL
/-- raise C(v) -/
structure RaiseR (C : Addr) (f : Str) (v : V) (W : WX) (σ : L2.St) (H : Hp) : Prop where
  ex : ∀ d, H d = none → W (.ref C) (some d) σ (upd H d (.xd [(f, v)]))
/-- self.f = v in the __init__ of an error -/
structure StX (K : PySem.W.Frag) (f : Str) (a : V) (y : V) (H : Hp) (k : Hp → Prop) : Prop where
  ex : ∃ b C : Addr, a = .ref b ∧ OexC K C ∧ PySem.W.findIn K (.ref C) f = some none ∧ H b = some (exo b C none) ∧ ∀ d, H d = none → d ≠ b → k (upd (upd H d (exd d [(f, y)])) b (exo b C (some d)))
structure Wr (p : Prop) : Prop where
  q : p
theorem catch_yes {K : PySem.W.Frag} {c cls : Value} {i : Nat} {ts : Addr → Value → Option Addr → TS} {Wout : WX} {D : Ends} {d : Option Addr} {σ : L2.St} {H : Hp} (e : PySem.W.exmOne K cls c = some true)
    (h : ∀ a, H a = none → ts a cls d { nx := fun σ' H' => D.nx (σ'.set i none) H', rt := D.rt, bk := fun σ' H' => D.bk (σ'.set i none) H', ct := fun σ' H' => D.ct (σ'.set i none) H' } (σ.set i (some (.ref a))) H) : Wr (wAs K c i ts Wout D cls d σ H) :=
  ⟨⟨true, e, fun _ => h, fun z => by cases z⟩⟩
/-- e.f, e what was caught -/
structure XfG (x : V) (a : Addr) (cls : Value) (d : Option Addr) (C : Addr) (f : Str) (H : Hp) (Q : VK) : Prop where
  ex : x = .ref a ∧ cls = .ref C ∧ ∃ (dd : Addr) (fs : List (Str × V)) (v : V), d = some dd ∧ H dd = some (.xd fs) ∧ fs.lookup f = some v ∧ Q v H
theorem xf_o {H : Hp} {L R : List Ck} {I : List (Hp → Prop)} {a C dd : Addr} {fs : List (Str × V)} {f : Str} {v : V} {Q : VK} (h : Own H L I) (p : Pull L (.pt dd (.xd fs)) R) (l : fs.lookup f = some v) (q : Q v H) : XfG (.ref a) a (.ref C) (some dd) C f H Q :=
  ⟨rfl, rfl, dd, fs, v, rfl, h.get p, l, q⟩
/-- isinstance(e, c), e what was caught -/
structure IsEG (K : PySem.W.Frag) (D a : Addr) (cls : Value) (d : Option Addr) (x c : V) (H : Hp) (Q : VK) : Prop where
  ex : ∃ (cv : Value) (b : Bool) (dd : Addr) (fs : List (Str × V)), x = .ref a ∧ cls = .ref D ∧ d = some dd ∧ H dd = some (.xd fs) ∧ (∀ u, RelV c u → u = cv) ∧ PySem.W.kitOne K (.ref D) cv = some b ∧ Q (.bl b) H
theorem isE_o {K : PySem.W.Frag} {H : Hp} {L R : List Ck} {I : List (Hp → Prop)} {a D c dd : Addr} {fs : List (Str × V)} {b : Bool} {Q : VK} (h : Own H L I) (p : Pull L (.pt dd (.xd fs)) R) (e : PySem.W.kitOne K (.ref D) (.ref c) = some b) (q : Q (.bl b) H) : IsEG K D a (.ref D) (some dd) (.ref a) (.ref c) H Q :=
  ⟨.ref c, b, dd, fs, rfl, rfl, rfl, h.get p, fun u r => r, e, q⟩
theorem raise_o {H : Hp} {L : List Ck} {I : List (Hp → Prop)} {C : Addr} {f : Str} {v : V} {W : WX} {σ : L2.St} (h : Own H L I) (q : ∀ d H', Own H' (.pt d (.xd [(f, v)]) :: L) I → W (.ref C) (some d) σ H') : RaiseR C f v W σ H := ⟨fun d hd => q d _ (h.new hd)⟩
end OW
set_option Elab.async false
set_option linter.all false
set_option maxRecDepth 100000
set_option maxHeartbeats 2000000
namespace OW
open PySem PySem.Spec PyProof.Rows L2 RZ SkE CL
mutual
inductive VO (l : List (Addr × HO)) : V → PyData → Prop
  | non : VO l .non .none
  | bl (b : Bool) : VO l (.bl b) (.bool b)
  | int (i : Int) : VO l (.int i) (.int i)
  | str (z : Str) : VO l (.str z) (.str z)
  | lst {a : Addr} {xs : List V} {ds : List PyData} (m : (a, HO.lst xs) ∈ l) (g : VOAll l xs ds) : VO l (.ref a) (.list ds)
  | tup {a : Addr} {xs : List V} {ds : List PyData} (m : (a, HO.tup xs) ∈ l) (g : VOAll l xs ds) : VO l (.ref a) (.tuple ds)
inductive VOAll (l : List (Addr × HO)) : List V → List PyData → Prop
  | nil : VOAll l [] []
  | cons {v : V} {vs : List V} {d : PyData} {ds : List PyData} (h : VO l v d) (g : VOAll l vs ds) : VOAll l (v :: vs) (d :: ds)
end
section
variable {l l' : List (Addr × HO)} {H : Hp} {K : PySem.W.Frag}
mutual
theorem VO.up (k : ∀ p ∈ l, p ∈ l') : ∀ (d : PyData) (v : V), VO l v d → VO l' v d
  | .none, _, h => by cases h; exact .non
  | .bool b, _, h => by cases h; exact .bl b
  | .int i, _, h => by cases h; exact .int i
  | .str z, _, h => by cases h; exact .str z
  | .list ds, _, h => by cases h with | lst m g => exact .lst (k _ m) (VOAll.up k ds _ g)
  | .tuple ds, _, h => by cases h with | tup m g => exact .tup (k _ m) (VOAll.up k ds _ g)
  | .dict es, _, h => by cases h
theorem VOAll.up (k : ∀ p ∈ l, p ∈ l') : ∀ (ds : List PyData) (vs : List V), VOAll l vs ds → VOAll l' vs ds
  | [], _, h => by cases h; exact .nil
  | d :: ds, _, h => by cases h with | cons h g => exact .cons (VO.up k d _ h) (VOAll.up k ds _ g)
end
theorem VO.any {d : PyData} {v : V} (k : ∀ p ∈ l, H p.1 = some p.2) (h : VO l v d) : AnyV H v := by
  cases h with
  | non => exact .non
  | bl b => exact .bl b
  | int i => exact .int i
  | str z => exact .str z
  | lst m g => exact .lst (k _ m)
  | tup m g => exact .tup (k _ m)
theorem VOAll.len : ∀ {vs : List V} {ds : List PyData}, VOAll l vs ds → vs.length = ds.length
  | _, _, .nil => rfl
  | _, _, .cons h g => by rw [List.length_cons, List.length_cons, g.len]
theorem VOAll.at : ∀ {vs : List V} {ds : List PyData} {i : Nat} {x : V}, VOAll l vs ds → vs[i]? = some x → ∃ d, ds[i]? = some d ∧ VO l x d
  | _, _, i, x, .nil, h => by cases h
  | _, _, 0, x, .cons h g, e => by cases e; exact ⟨_, rfl, h⟩
  | _, _, i + 1, x, .cons h g, e => g.at (i := i) e
theorem VOAll.set {y : V} {e : PyData} (h : VO l y e) : ∀ {vs : List V} {ds : List PyData} {i : Nat}, VOAll l vs ds → VOAll l (vs.set i y) (ds.set i e)
  | _, _, i, .nil => .nil
  | _, _, 0, .cons _ g => .cons h g
  | _, _, i + 1, .cons h2 g => .cons h2 (g.set (i := i) h)
end
end OW
set_option Elab.async false
set_option linter.all false
set_option maxRecDepth 100000
set_option maxHeartbeats 2000000
namespace PySem
open Sem (wp)
end PySem
namespace L2
open PySem PySem.Spec PyProof.Rows
end L2
namespace OW
open PySem PySem.Spec PyProof.Rows L2 RZ SkE CL
end OW
set_option Elab.async false
set_option linter.all false
set_option maxRecDepth 100000
set_option maxHeartbeats 2000000
namespace OW
open PySem PySem.Spec PyProof.Rows L2 RZ SkE CL
/-- whether a value is a list or a tuple -/
inductive SeqB (K : PySem.W.Frag) (H : Hp) : V → Bool → Prop
  | non : SeqB K H .non false
  | bl (b : Bool) : SeqB K H (.bl b) false
  | int (i : Int) : SeqB K H (.int i) false
  | str (z : Str) : SeqB K H (.str z) false
  | lst {a : Addr} {xs : List V} (e : H a = some (.lst xs)) : SeqB K H (.ref a) true
  | tup {a : Addr} {xs : List V} (e : H a = some (.tup xs)) : SeqB K H (.ref a) true
  | oth {x : V} {t : Value} {b : Bool} (ty : TyX K H x t) (k : PySem.W.kitAny K t [.type "list", .type "tuple"] = some b) : SeqB K H x b
def seqD : PyData → Bool
  | .list _ => true
  | .tuple _ => true
  | _ => false
theorem VO.seq {K : PySem.W.Frag} {l : List (Addr × HO)} {H : Hp} {d : PyData} {v : V} (k : ∀ p ∈ l, H p.1 = some p.2) (h : VO l v d) : SeqB K H v (seqD d) := by
  cases h with
  | non => exact .non
  | bl b => exact .bl b
  | int i => exact .int i
  | str z => exact .str z
  | lst m g => exact .lst (k _ m)
  | tup m g => exact .tup (k _ m)
end OW
set_option Elab.async false
set_option linter.all false
set_option maxRecDepth 100000
set_option maxHeartbeats 2000000
namespace L2
open PySem PySem.Spec PyProof.Rows SeqAt
end L2
namespace OW
open PySem PySem.Spec PyProof.Rows L2 RZ SkE CL
end OW
set_option Elab.async false
set_option linter.all false
set_option maxRecDepth 100000
set_option maxHeartbeats 2000000
namespace OW
open PySem PySem.Spec PyProof.Rows L2 RZ SkE CL
structure LenD (H : Hp) (a : Addr) (k : Nat → Prop) : Prop where
  ex : ∃ kvs : List (Key × V), H a = some (.dK kvs) ∧ k kvs.length
structure RepL (H : Hp) (a : Addr) (n : Int) (Q : VK) : Prop where
  ex : ∃ xs, H a = some (.lst xs) ∧ (-(2 ^ 63) ≤ n ∧ n < 2 ^ 63 ∧ xs.length * n.toNat ≤ sizeLine) ∧ New H (.lst (List.replicate n.toNat xs).flatten) fun p H' => Q (.ref p) H'
structure FldInc (K : PySem.W.Frag) (H : Hp) (a : Addr) (f : Str) (c : Int) (k : Hp → Prop) : Prop where
  ex : ∃ C dx fs i, H a = some (.ins C dx fs) ∧ Cls K C ∧ NoAttr K C f ∧ fs.lookup f = some (.int i) ∧ fs.length < 1000 ∧ k (upd H a (.ins C dx (putF f (.int (i + c)) fs)))
structure ItD (H : Hp) (d : Addr) (T : Addr → Obj → List (Key × V) → It) (R : It → Hp → Prop) : Prop where
  ex : ∃ o kvs, H d = some (.frz o (.dK kvs)) ∧ R (T d o kvs) H
section
variable {g : TG} {tb : TS} {D : Ends} {σ : L2.St} {H : Hp} {d p : Addr} {o : Obj} {kvs : List (Key × V)} {tt : TT} {te : TE} {vs : List Nat} {Qd : Hp → Prop} {L R : List Ck} {I : List (Hp → Prop)}
theorem itd_o {T : Addr → Obj → List (Key × V) → It} {P : It → Hp → Prop} (h : Own H L I) (e : Pull L (.pt d (.frz o (.dK kvs))) R) (q : P (T d o kvs) H) : ItD H d T P := ⟨o, kvs, h.get e, q⟩
end
def ddN (ns : List Int) : Nat := (PyProof.Rows.firstMet (fun i => ns.getD i 0) ns.length).length
structure LenSet (K : PySem.W.Frag) (H : Hp) (a : Addr) (k : Nat → Prop) : Prop where
  ex : ∃ ns : List Int, SqL K H a (ns.map V.int) ∧ ns.length ≤ 4000 ∧ k (ddN ns)
theorem lenset_o {K : PySem.W.Frag} {H : Hp} {L R : List Ck} {I : List (Hp → Prop)} {a : Addr} {ns : List Int} {k : Nat → Prop} (h : Own H L I) (e : Pull L (.pt a (.lst (ns.map V.int))) R) (l : ns.length ≤ 4000) (q : k (ddN ns)) : LenSet K H a k := ⟨ns, SqL.of (h.get e), l, q⟩
theorem lend_o {H : Hp} {L R : List Ck} {I : List (Hp → Prop)} {a : Addr} {kvs : List (Key × V)} {k : Nat → Prop} (h : Own H L I) (e : Pull L (.pt a (.dK kvs)) R) (q : k kvs.length) : LenD H a k := ⟨kvs, h.get e, q⟩
theorem repl_o {H : Hp} {L R : List Ck} {I : List (Hp → Prop)} {a : Addr} {xs : List V} {n : Int} {Q : VK} (h : Own H L I) (e : Pull L (.pt a (.lst xs)) R) (b : -(2 ^ 63) ≤ n ∧ n < 2 ^ 63 ∧ xs.length * n.toNat ≤ sizeLine) (q : ∀ p H', Own H' (.pt p (.lst (List.replicate n.toNat xs).flatten) :: L) I → Q (.ref p) H') : RepL H a n Q := ⟨xs, h.get e, b, new_o h q⟩
theorem fldinc_o {K : PySem.W.Frag} {H : Hp} {L R : List Ck} {I : List (Hp → Prop)} {a C dx : Addr} {fs : List (Str × V)} {f : Str} {i c : Int} {k : Hp → Prop} (h : Own H L I) (e : Pull L (.pt a (.ins C dx fs)) R) (hc : Cls K C) (n : NoAttr K C f) (l : fs.lookup f = some (.int i)) (s : fs.length < 1000) (m : doneF fs = false)
    (q : ∀ H', Own H' (.pt a (.ins C dx (putF f (.int (i + c)) fs)) :: R) I → k H') : FldInc K H a f c k := ⟨C, dx, fs, i, h.get e, hc, n, l, s, q _ (h.put e m)⟩
structure DPop (H : Hp) (a : Addr) (y : V) (Q : VK) : Prop where
  ex : ∃ kvs key v, H a = some (.dK kvs) ∧ y = kV key ∧ valV kvs key = some v ∧ Q v (upd H a (.dK (dropK kvs key)))
structure IsDk (H : Hp) (a : Addr) (k : Prop) : Prop where
  ex : (∃ kvs : List (Key × V), H a = some (.dK kvs)) ∧ k
theorem dpop_i {H : Hp} {L R : List Ck} {I : List (Hp → Prop)} {a : Addr} {kvs : List (Key × V)} {i : Int} {v : V} {Q : VK} (h : Own H L I) (e : Pull L (.pt a (.dK kvs)) R) (l : valV kvs (.inl i) = some v) (q : ∀ H', Own H' (.pt a (.dK (dropK kvs (.inl i))) :: R) I → Q v H') : DPop H a (.int i) Q := ⟨kvs, .inl i, v, h.get e, rfl, l, q _ (h.put e rfl)⟩
theorem isdk_o {H : Hp} {L R : List Ck} {I : List (Hp → Prop)} {a : Addr} {kvs : List (Key × V)} {k : Prop} (h : Own H L I) (e : Pull L (.pt a (.dK kvs)) R) (q : k) : IsDk H a k := ⟨⟨kvs, h.get e⟩, q⟩
structure RemI (H : Hp) (a : Addr) (k : Int) (Q : VK) : Prop where
  ex : ∃ ns : List Int, H a = some (.lst (ns.map V.int)) ∧ k ∈ ns ∧ Q .non (upd H a (.lst ((ns.erase k).map V.int)))
structure CntI (K : PySem.W.Frag) (H : Hp) (a : Addr) (k : Int) (Q : Nat → Prop) : Prop where
  ex : ∃ ns : List Int, SqL K H a (ns.map V.int) ∧ Q (ns.count k)
theorem remi_o {H : Hp} {L R : List Ck} {I : List (Hp → Prop)} {a : Addr} {ns : List Int} {k : Int} {Q : VK} (h : Own H L I) (e : Pull L (.pt a (.lst (ns.map V.int))) R) (m : k ∈ ns) (q : ∀ H', Own H' (.pt a (.lst ((ns.erase k).map V.int)) :: R) I → Q .non H') : RemI H a k Q := ⟨ns, h.get e, m, q _ (h.put e rfl)⟩
theorem cnti_o {K : PySem.W.Frag} {H : Hp} {L R : List Ck} {I : List (Hp → Prop)} {a : Addr} {ns : List Int} {k : Int} {Q : Nat → Prop} (h : Own H L I) (e : Pull L (.pt a (.lst (ns.map V.int))) R) (q : Q (ns.count k)) : CntI K H a k Q := ⟨ns, SqL.of (h.get e), q⟩
end OW
set_option Elab.async false
set_option linter.all false
set_option maxRecDepth 100000
set_option maxHeartbeats 2000000
namespace OW
open PySem PySem.Spec PyProof.Rows L2 RZ SkE CL
/-- the numbers of a rule -/
structure Ru where
  se : Int
  la : Int
  be : Int
  gr : Int
  lt : Int
abbrev Ru.l (r : Ru) : List Int := [r.se, r.la, r.be, r.gr, r.lt]
/-- how things stand: the moment; who uses which seat since which answer; what is kept; who is cut off -/
structure Hs where
  mo : Int
  us : List (Int × Int × Int)
  kp : List (Option (Int × Int))
  ct : List Int
def usesB (s : Hs) (u : Int) : Bool := (s.us.lookup u).isSome
def cutB (s : Hs) (u : Int) : Bool := decide (u ∈ s.ct)
def speakB (s : Hs) (u : Int) : Bool := usesB s u && !cutB s u
def putU (us : List (Int × Int × Int)) (u : Int) (v : Int × Int) : List (Int × Int × Int) := if (us.lookup u).isSome then us.map (fun p => if p.1 = u then (p.1, v) else p) else us ++ [(u, v)]
def delU (us : List (Int × Int × Int)) (u : Int) : List (Int × Int × Int) := us.filter fun p => decide (p.1 ≠ u)
def ansH (s : Hs) (u : Int) (i : Nat) : Hs := { s with us := putU s.us u (i, s.mo), kp := s.kp.set i (some (u, s.mo)) }
def outK (la mo : Int) : Option (Int × Int) → Bool
  | none => false
  | some p => decide (mo - p.2 = la)
def takenK (s : Hs) (la mo : Int) : Option (Int × Int) → Bool
  | none => false
  | some p => decide (mo - p.2 = la) && speakB s p.1
inductive Wd
  | borrow | word | back | crash | stop | cut | join
  deriving DecidableEq
def Wd.s : Wd → Str
  | .borrow => "borrow"
  | .word => "word"
  | .back => "back"
  | .crash => "crash"
  | .stop => "stop"
  | .cut => "cut"
  | .join => "join"
inductive Ev
  | pass
  | on (w : Wd) (u : Int)
/-- whether a deed of a user is possible -/
def canU (r : Ru) (s : Hs) : Wd → Int → Bool
  | .borrow, u => !usesB s u && !cutB s u
  | .word, u => speakB s u
  | .back, u => speakB s u
  | .crash, u => usesB s u
  | .stop, u => match s.us.lookup u with
    | none => false
    | some p => decide (r.gr ≤ s.mo - p.2)
  | .cut, u => !cutB s u
  | .join, u => cutB s u
def passOk (r : Ru) (s : Hs) (p : Int × Int × Int) : Bool := !decide (r.gr + r.lt ≤ s.mo - p.2.2) && !(decide (r.be + r.lt ≤ s.mo - p.2.2) && !cutB s p.1)
def canH (r : Ru) (s : Hs) : Ev → Bool
  | .pass => s.us.all (passOk r s)
  | .on w u => canU r s w u
def leaveH (s : Hs) (u : Int) : Hs := { s with us := delU s.us u }
def passK (la mo : Int) (h : Option (Int × Int)) : Option (Int × Int) := if outK la mo h then none else h
def doPass (r : Ru) (s : Hs) : Hs × List Str :=
  ({ s with mo := s.mo + 1, kp := s.kp.map (passK r.la (s.mo + 1)) }, if s.kp.any (takenK s r.la (s.mo + 1)) then ["taken"] else [])
/-- a dict of users -/
inductive UsR (l : List (Addr × HO)) : List (Key × V) → List (Int × Int × Int) → Prop
  | nil : UsR l [] []
  | cons {u i t : Int} {a : Addr} {kvs : List (Key × V)} {us : List (Int × Int × Int)} (m : (a, HO.tup [.int i, .int t]) ∈ l) (g : UsR l kvs us) : UsR l ((.inl u, .ref a) :: kvs) ((u, i, t) :: us)
section
variable {l l' : List (Addr × HO)} {kvs : List (Key × V)} {us : List (Int × Int × Int)}
theorem UsR.up (k : ∀ p ∈ l, p ∈ l') (h : UsR l kvs us) : UsR l' kvs us := by
  induction h with
  | nil => exact .nil
  | cons m g ih => exact .cons (k _ m) ih
theorem UsR.len (h : UsR l kvs us) : kvs.length = us.length := by
  induction h with
  | nil => rfl
  | cons m g ih => rw [List.length_cons, List.length_cons, ih]
theorem lookup_pos {u v : Int} {x : Int × Int} (e : v = u) : List.lookup u ((v, x) :: us) = some x := by subst e; exact List.lookup_cons_self
theorem lookup_neg {u v : Int} {x : Int × Int} (e : v ≠ u) : List.lookup u ((v, x) :: us) = List.lookup u us := by
  rw [List.lookup_cons, beq_false_of_ne (Ne.symm e)]
theorem UsR.noneU {u : Int} (h : UsR l kvs us) (e : us.lookup u = none) : valV kvs (.inl u) = none := by
  induction h with
  | nil => rfl
  | @cons v i t a kvs us m g ih =>
    by_cases z : v = u
    · rw [lookup_pos z] at e; cases e
    · rw [lookup_neg z] at e
      rw [valV_neg (p := ((Sum.inl v : Key), V.ref a)) (fun q => z (Sum.inl.inj q))]
      exact ih e
theorem UsR.someU {u : Int} {x : Int × Int} (h : UsR l kvs us) (e : us.lookup u = some x) : ∃ a, valV kvs (.inl u) = some (.ref a) ∧ (a, HO.tup [.int x.1, .int x.2]) ∈ l := by
  induction h with
  | nil => cases e
  | @cons v i t a kvs us m g ih =>
    by_cases z : v = u
    · rw [lookup_pos z] at e
      cases e
      exact ⟨a, valV_pos (p := ((Sum.inl v : Key), V.ref a)) (congrArg Sum.inl z), m⟩
    · rw [lookup_neg z] at e
      obtain ⟨b, h1, h2⟩ := ih e
      exact ⟨b, by rw [valV_neg (p := ((Sum.inl v : Key), V.ref a)) (fun q => z (Sum.inl.inj q))]; exact h1, h2⟩
theorem UsR.isSomeU {u : Int} (h : UsR l kvs us) : (valV kvs (.inl u)).isSome = (us.lookup u).isSome := by
  cases e : us.lookup u with
  | none => rw [h.noneU e]; rfl
  | some x => obtain ⟨a, h1, _⟩ := h.someU e; rw [h1]; rfl
theorem UsR.snoc {u i t : Int} {a : Addr} (m : (a, HO.tup [.int i, .int t]) ∈ l) (h : UsR l kvs us) : UsR l (kvs ++ [(.inl u, .ref a)]) (us ++ [(u, i, t)]) := by
  induction h with
  | nil => exact .cons m .nil
  | cons m2 g ih => exact .cons m2 ih
theorem UsR.mapU {u i t : Int} {a : Addr} (m : (a, HO.tup [.int i, .int t]) ∈ l) (h : UsR l kvs us) : UsR l (kvs.map fun kv => if kv.1 = .inl u then (kv.1, .ref a) else kv) (us.map fun p => if p.1 = u then (p.1, i, t) else p) := by
  induction h with
  | nil => exact .nil
  | @cons v j w b kvs us m2 g ih =>
    rw [List.map_cons, List.map_cons]
    by_cases z : v = u
    · rw [if_pos (congrArg Sum.inl z), if_pos z]
      exact .cons m ih
    · rw [if_neg fun q => z (Sum.inl.inj q), if_neg z]
      exact .cons m2 ih
theorem UsR.put {u i t : Int} {a : Addr} (m : (a, HO.tup [.int i, .int t]) ∈ l) (h : UsR l kvs us) : UsR l (putK kvs (.inl u) (.ref a)) (putU us u (i, t)) := by
  unfold putK putU
  rw [valV_any, h.isSomeU]
  by_cases e : (us.lookup u).isSome = true
  · rw [if_pos e, if_pos e]
    have := h.mapU (u := u) m
    refine cast ?_ this
    congr 1
  · rw [if_neg e, if_neg e]
    exact h.snoc m
theorem UsR.drop {u : Int} (h : UsR l kvs us) : UsR l (dropK kvs (.inl u)) (delU us u) := by
  unfold dropK delU
  induction h with
  | nil => exact .nil
  | @cons v j w b kvs us m2 g ih =>
    by_cases z : v = u
    · rw [List.filter_cons_of_neg (by simp [z]), List.filter_cons_of_neg (by simp [z])]
      exact ih
    · rw [List.filter_cons_of_pos (by simp [z]), List.filter_cons_of_pos (by simp [z])]
      exact .cons m2 ih
theorem UsR.at {i : Nat} {k : Key} {v : V} (h : UsR l kvs us) (e : kvs[i]? = some (k, v)) : ∃ u j t a, k = .inl u ∧ v = .ref a ∧ us[i]? = some (u, j, t) ∧ (a, HO.tup [.int j, .int t]) ∈ l := by
  induction h generalizing i with
  | nil => cases e
  | @cons u j t a kvs us m g ih =>
    cases i with
    | zero => cases e; exact ⟨u, j, t, a, rfl, rfl, rfl, m⟩
    | succ i => exact ih e
end
/-- each user once -/
def NdU (us : List (Int × Int × Int)) : Prop := (us.map (·.1)).Nodup
theorem lookup_none {us : List (Int × Int × Int)} {u : Int} (e : us.lookup u = none) : u ∉ us.map (·.1) := by
  induction us with
  | nil => exact List.not_mem_nil
  | cons p us ih =>
    by_cases z : p.1 = u
    · rw [show p = (p.1, p.2) from rfl, lookup_pos z] at e
      cases e
    · rw [show p = (p.1, p.2) from rfl, lookup_neg z] at e
      intro m
      rcases List.mem_cons.mp m with q | q
      · exact z q.symm
      · exact ih e q
theorem NdU.put {us : List (Int × Int × Int)} (u : Int) (v : Int × Int) (h : NdU us) : NdU (putU us u v) := by
  unfold putU
  by_cases e : (us.lookup u).isSome = true
  · rw [if_pos e]
    unfold NdU
    rw [List.map_map]
    have : (Prod.fst ∘ fun p : Int × Int × Int => if p.1 = u then (p.1, v) else p) = Prod.fst := by
      funext p
      show (if p.1 = u then (p.1, v) else p).1 = p.1
      split <;> rfl
    rw [this]
    exact h
  · rw [if_neg e]
    have e : us.lookup u = none := by
      cases q : us.lookup u with
      | none => rfl
      | some x => rw [q] at e; exact absurd rfl e
    unfold NdU
    rw [List.map_append]
    refine List.nodup_append.mpr ⟨h, by simp, fun a ha b hb => ?_⟩
    have hb : b = u := by simpa using hb
    rintro rfl
    exact lookup_none e (hb ▸ ha)
theorem NdU.nil : NdU [] := List.nodup_nil
/-- what is kept for a seat -/
inductive KpV (l : List (Addr × HO)) : V → Option (Int × Int) → Prop
  | non : KpV l .non none
  | tup {a : Addr} {u t : Int} (m : (a, HO.tup [.int u, .int t]) ∈ l) : KpV l (.ref a) (some (u, t))
inductive KpR (l : List (Addr × HO)) : List V → List (Option (Int × Int)) → Prop
  | nil : KpR l [] []
  | cons {v : V} {h : Option (Int × Int)} {vs : List V} {hs : List (Option (Int × Int))} (a : KpV l v h) (g : KpR l vs hs) : KpR l (v :: vs) (h :: hs)
/-- what was met -/
inductive MtR (l : List (Addr × HO)) : List V → List (Int × Str) → Prop
  | nil : MtR l [] []
  | cons {a : Addr} {i : Int} {z : Str} {vs : List V} {ms : List (Int × Str)} (m : (a, HO.tup [.int i, .str z]) ∈ l) (g : MtR l vs ms) : MtR l (.ref a :: vs) ((i, z) :: ms)
section
variable {l l' : List (Addr × HO)} {vs ws : List V} {hs : List (Option (Int × Int))} {ms ns : List (Int × Str)}
theorem KpV.up {v : V} {h : Option (Int × Int)} (k : ∀ p ∈ l, p ∈ l') (a : KpV l v h) : KpV l' v h := by
  cases a with
  | non => exact .non
  | tup m => exact .tup (k _ m)
theorem KpR.up (k : ∀ p ∈ l, p ∈ l') (h : KpR l vs hs) : KpR l' vs hs := by
  induction h with
  | nil => exact .nil
  | cons a g ih => exact .cons (a.up k) ih
theorem KpR.len (h : KpR l vs hs) : vs.length = hs.length := by
  induction h with
  | nil => rfl
  | cons a g ih => rw [List.length_cons, List.length_cons, ih]
theorem KpR.at {i : Nat} {v : V} (h : KpR l vs hs) (e : vs[i]? = some v) : ∃ x, hs[i]? = some x ∧ KpV l v x := by
  induction h generalizing i with
  | nil => cases e
  | cons a g ih =>
    cases i with
    | zero => cases e; exact ⟨_, rfl, a⟩
    | succ i => exact ih e
theorem KpR.set {i : Nat} {v : V} {x : Option (Int × Int)} (a : KpV l v x) (h : KpR l vs hs) : KpR l (vs.set i v) (hs.set i x) := by
  induction h generalizing i with
  | nil => exact .nil
  | cons b g ih =>
    cases i with
    | zero => exact .cons a g
    | succ i => exact .cons b ih
theorem MtR.up (k : ∀ p ∈ l, p ∈ l') (h : MtR l vs ms) : MtR l' vs ms := by
  induction h with
  | nil => exact .nil
  | cons m g ih => exact .cons (k _ m) ih
theorem MtR.len (h : MtR l vs ms) : vs.length = ms.length := by
  induction h with
  | nil => rfl
  | cons a g ih => rw [List.length_cons, List.length_cons, ih]
theorem MtR.app (h : MtR l vs ms) (g : MtR l ws ns) : MtR l (vs ++ ws) (ms ++ ns) := by
  induction h with
  | nil => exact g
  | cons m _ ih => exact .cons m ih
end
/-- the fields of a house -/
def hf (rr pu pk pc pm : Addr) (mo pe ev : Int) : List (Str × V) := [("rule", .ref rr), ("moment", .int mo), ("using", .ref pu), ("kept", .ref pk), ("cut", .ref pc), ("met", .ref pm), ("peak", .int pe), ("many_events", .int ev)]
theorem pwU {α : Type} {R : α → α → Prop} : ∀ {l m : List α}, (∀ a b, a ∈ l → b ∈ l → R a b → R b a → a = b) → l.Perm m → l.Pairwise R → m.Pairwise R → l = m
  | [], m, _, p, _, _ => p.nil_eq
  | a :: l, [], _, p, _, _ => by have := p.length_eq; cases this
  | a :: l, b :: m, anti, p, hl, hm => by
    have hab : a = b := by
      rcases List.mem_cons.mp (p.mem_iff.mp List.mem_cons_self) with e | h1
      · exact e
      rcases List.mem_cons.mp (p.mem_iff.mpr List.mem_cons_self) with e | h2
      · exact e.symm
      exact anti a b List.mem_cons_self (List.mem_cons_of_mem _ h2) ((List.pairwise_cons.mp hl).1 b h2) ((List.pairwise_cons.mp hm).1 a h1)
    subst hab
    rw [pwU (fun x y hx hy => anti x y (List.mem_cons_of_mem _ hx) (List.mem_cons_of_mem _ hy)) p.cons_inv (List.pairwise_cons.mp hl).2 (List.pairwise_cons.mp hm).2]
/-- not more than so many -/
structure Few (s : Hs) (n m : Nat) : Prop where
  us : s.us.length ≤ n
  ct : s.ct.length ≤ n
  kp : s.kp.length = m
theorem Few.up {s : Hs} {n k m : Nat} (h : Few s n m) (e : n ≤ k) : Few s k m := ⟨Nat.le_trans h.us e, Nat.le_trans h.ct e, h.kp⟩
abbrev stayI (K : PySem.W.Frag) (t : Addr) (xs : List V) : Hp → Prop := fun H => H t = some (.tup xs) ∨ ∀ H', SqT K H' t xs
theorem stay_sq {K : PySem.W.Frag} {t : Addr} {xs : List V} {H : Hp} {L : List Ck} {I : List (Hp → Prop)} (w : Own H L I) (m : stayI K t xs ∈ I) : SqT K H t xs := (w.imp m).elim (fun e => SqT.of e) fun e => e H
/-- users that events speak of -/
def evU : Ev → Prop
  | .pass => True
  | .on _ u => 0 ≤ u ∧ u < 1000
structure KeysL (H : Hp) (d : Addr) (Q : VK) : Prop where
  ex : ∃ kvs : List (Key × V), H d = some (.dK kvs) ∧ New H (.lst (kvs.map fun kv => kV kv.1)) fun p H' => Q (.ref p) H'
theorem keysl_o {H : Hp} {L R : List Ck} {I : List (Hp → Prop)} {d : Addr} {kvs : List (Key × V)} {Q : VK} (h : Own H L I) (e : Pull L (.pt d (.dK kvs)) R) (q : ∀ p H', Own H' (.pt p (.lst (kvs.map fun kv => kV kv.1)) :: L) I → Q (.ref p) H') : KeysL H d Q := ⟨kvs, h.get e, new_o h q⟩
end OW
set_option Elab.async false
set_option linter.all false
set_option maxRecDepth 100000
set_option maxHeartbeats 2000000
namespace OW
open PySem PySem.Spec PyProof.Rows L2 RZ SkE CL
end OW
set_option Elab.async false
set_option linter.all false
set_option maxRecDepth 100000
set_option maxHeartbeats 2000000
namespace OW
open PySem PySem.Spec PyProof.Rows L2 RZ SkE CL
theorem wipe_cons (σ : L2.St) (i : Nat) (vs : List Nat) : L2.wipe σ (i :: vs) = (L2.wipe σ vs).set i none := rfl
theorem wipe_out {σ : L2.St} {v : Option V} {i : Nat} : ∀ {vs : List Nat}, i ∉ vs → L2.wipe (σ.set i v) vs = (L2.wipe σ vs).set i v
  | [], _ => rfl
  | j :: vs, h => by
    have ne : i ≠ j := fun e => h (by rw [e]; exact List.mem_cons_self)
    rw [wipe_cons, wipe_cons, wipe_out (fun m => h (List.mem_cons_of_mem _ m))]
    exact List.set_comm _ _ ne
theorem wipe_setN {σ : L2.St} {v : Option V} {i : Nat} : ∀ {vs : List Nat}, i ∈ vs → L2.wipe (σ.set i v) vs = L2.wipe σ vs
  | [], h => (List.not_mem_nil h).elim
  | j :: vs, h => by
    rw [wipe_cons, wipe_cons]
    by_cases e : i ∈ vs
    · rw [wipe_setN e]
    · have : i = j := (List.mem_cons.mp h).resolve_right e
      subst this
      rw [wipe_out e, List.set_set]
theorem wipe_twice {σ : L2.St} : ∀ {vs : List Nat}, L2.wipe (L2.wipe σ vs) vs = L2.wipe σ vs
  | [] => rfl
  | j :: vs => by
    rw [wipe_cons, wipe_cons]
    by_cases e : j ∈ vs
    · rw [wipe_setN e, wipe_twice]
    · rw [wipe_out e, wipe_twice, List.set_set]
end OW
set_option Elab.async false
set_option linter.all false
set_option maxRecDepth 100000
set_option maxHeartbeats 2000000
namespace OW
open PySem PySem.Spec PyProof.Rows L2 RZ SkE CL
end OW
set_option Elab.async false
set_option linter.all false
set_option maxRecDepth 100000
set_option maxHeartbeats 2000000
namespace OW
open PySem PySem.Spec PyProof.Rows L2 RZ SkE CL
structure DictCp (H : Hp) (a : Addr) (Q : VK) : Prop where
  ex : ∃ kvs, H a = some (.dK kvs) ∧ New H (.dK kvs) fun p => Q (.ref p)
theorem dictcp_o {H : Hp} {L R : List Ck} {I : List (Hp → Prop)} {a : Addr} {kvs : List (Key × V)} {Q : VK} (h : Own H L I) (e : Pull L (.pt a (.dK kvs)) R) (q : ∀ p H', Own H' (.pt p (.dK kvs) :: L) I → Q (.ref p) H') : DictCp H a Q := ⟨⟨kvs, h.get e, new_o h q⟩⟩
end OW
set_option Elab.async false
set_option linter.all false
set_option maxRecDepth 100000
set_option maxHeartbeats 2000000
namespace OW
open PySem PySem.Spec PyProof.Rows L2 RZ SkE CL
/-- a dict of users -/
inductive StR (l : Addr → Int → Int → Prop) : List (Key × V) → List (Int × Int × Int) → Prop
  | nil : StR l [] []
  | cons {u i t : Int} {a : Addr} {kvs : List (Key × V)} {us : List (Int × Int × Int)} (m : l a i t) (g : StR l kvs us) : StR l ((.inl u, .ref a) :: kvs) ((u, i, t) :: us)
section
variable {l l' : Addr → Int → Int → Prop} {kvs : List (Key × V)} {us : List (Int × Int × Int)}
theorem StR.up (k : ∀ a i t, l a i t → l' a i t) (h : StR l kvs us) : StR l' kvs us := by
  induction h with
  | nil => exact .nil
  | cons m g ih => exact .cons (k _ _ _ m) ih
theorem StR.len (h : StR l kvs us) : kvs.length = us.length := by
  induction h with
  | nil => rfl
  | cons m g ih => rw [List.length_cons, List.length_cons, ih]
theorem StR.noneU {u : Int} (h : StR l kvs us) (e : us.lookup u = none) : valV kvs (.inl u) = none := by
  induction h with
  | nil => rfl
  | @cons v i t a kvs us m g ih =>
    by_cases z : v = u
    · rw [lookup_pos z] at e; cases e
    · rw [lookup_neg z] at e
      rw [valV_neg (p := ((Sum.inl v : Key), V.ref a)) (fun q => z (Sum.inl.inj q))]
      exact ih e
theorem StR.someU {u : Int} {x : Int × Int} (h : StR l kvs us) (e : us.lookup u = some x) : ∃ a, valV kvs (.inl u) = some (.ref a) ∧ l a x.1 x.2 := by
  induction h with
  | nil => cases e
  | @cons v i t a kvs us m g ih =>
    by_cases z : v = u
    · rw [lookup_pos z] at e
      cases e
      exact ⟨a, valV_pos (p := ((Sum.inl v : Key), V.ref a)) (congrArg Sum.inl z), m⟩
    · rw [lookup_neg z] at e
      obtain ⟨b, h1, h2⟩ := ih e
      exact ⟨b, by rw [valV_neg (p := ((Sum.inl v : Key), V.ref a)) (fun q => z (Sum.inl.inj q))]; exact h1, h2⟩
theorem StR.isSomeU {u : Int} (h : StR l kvs us) : (valV kvs (.inl u)).isSome = (us.lookup u).isSome := by
  cases e : us.lookup u with
  | none => rw [h.noneU e]; rfl
  | some x => obtain ⟨a, h1, _⟩ := h.someU e; rw [h1]; rfl
theorem StR.snoc {u i t : Int} {a : Addr} (m : l a i t) (h : StR l kvs us) : StR l (kvs ++ [(.inl u, .ref a)]) (us ++ [(u, i, t)]) := by
  induction h with
  | nil => exact .cons m .nil
  | cons m2 g ih => exact .cons m2 ih
theorem StR.mapU {u i t : Int} {a : Addr} (m : l a i t) (h : StR l kvs us) : StR l (kvs.map fun kv => if kv.1 = .inl u then (kv.1, .ref a) else kv) (us.map fun p => if p.1 = u then (p.1, i, t) else p) := by
  induction h with
  | nil => exact .nil
  | @cons v j w b kvs us m2 g ih =>
    rw [List.map_cons, List.map_cons]
    by_cases z : v = u
    · rw [if_pos (congrArg Sum.inl z), if_pos z]
      exact .cons m ih
    · rw [if_neg fun q => z (Sum.inl.inj q), if_neg z]
      exact .cons m2 ih
theorem StR.put {u i t : Int} {a : Addr} (m : l a i t) (h : StR l kvs us) : StR l (putK kvs (.inl u) (.ref a)) (putU us u (i, t)) := by
  unfold putK putU
  rw [valV_any, h.isSomeU]
  by_cases e : (us.lookup u).isSome = true
  · rw [if_pos e, if_pos e]
    have := h.mapU (u := u) m
    refine cast ?_ this
    congr 1
  · rw [if_neg e, if_neg e]
    exact h.snoc m
theorem StR.drop {u : Int} (h : StR l kvs us) : StR l (dropK kvs (.inl u)) (delU us u) := by
  unfold dropK delU
  induction h with
  | nil => exact .nil
  | @cons v j w b kvs us m2 g ih =>
    by_cases z : v = u
    · rw [List.filter_cons_of_neg (by simp [z]), List.filter_cons_of_neg (by simp [z])]
      exact ih
    · rw [List.filter_cons_of_pos (by simp [z]), List.filter_cons_of_pos (by simp [z])]
      exact .cons m2 ih
theorem StR.at {i : Nat} {k : Key} {v : V} (h : StR l kvs us) (e : kvs[i]? = some (k, v)) : ∃ u j t a, k = .inl u ∧ v = .ref a ∧ us[i]? = some (u, j, t) ∧ l a j t := by
  induction h generalizing i with
  | nil => cases e
  | @cons u j t a kvs us m g ih =>
    cases i with
    | zero => cases e; exact ⟨u, j, t, a, rfl, rfl, rfl, m⟩
    | succ i => exact ih e
end
theorem inV_intsA (b : Int) (zs : List Int) : inV (.int b) (zs.map V.int) = decide (b ∈ zs) := by
  unfold inV
  rw [List.any_map]
  by_cases h : b ∈ zs
  · rw [decide_eq_true h]
    exact List.any_eq_true.mpr ⟨b, h, by show (b == b) = true; simp⟩
  · rw [decide_eq_false h]
    refine List.any_eq_false.mpr (fun z m e => h ?_)
    have e : (z == b) = true := e
    rw [beq_iff_eq] at e
    exact e ▸ m
end OW
set_option Elab.async false
set_option linter.all false
set_option maxRecDepth 100000
set_option maxHeartbeats 2000000
namespace OW
open PySem PySem.Spec PyProof.Rows L2 RZ SkE CL
def putA {β : Type} (l : List (Int × β)) (u : Int) (b : β) : List (Int × β) := if (l.lookup u).isSome then l.map fun p => if p.1 = u then (p.1, b) else p else l ++ [(u, b)]
def dropA {β : Type} (l : List (Int × β)) (u : Int) : List (Int × β) := l.filter fun p => decide (p.1 ≠ u)
/-- the keys stand once -/
def NdA {β : Type} (l : List (Int × β)) : Prop := (l.map (·.1)).Nodup
theorem lkA_pos {β : Type} {v u : Int} {x : β} {l : List (Int × β)} (z : v = u) : ((v, x) :: l).lookup u = some x := by
  subst z
  rw [List.lookup_cons, show (v == v) = true from beq_self_eq_true v]
theorem lkA_neg {β : Type} {v u : Int} {x : β} {l : List (Int × β)} (z : ¬ v = u) : ((v, x) :: l).lookup u = l.lookup u := by
  rw [List.lookup_cons, show (u == v) = false from beq_false_of_ne (fun e => z e.symm)]
theorem lkA_mem {β : Type} {u : Int} {b : β} : ∀ {l : List (Int × β)}, l.lookup u = some b → (u, b) ∈ l
  | [], h => by cases h
  | (v, x) :: l, h => by
    by_cases z : v = u
    · rw [lkA_pos z] at h
      cases h
      rw [z]
      exact List.mem_cons_self
    · rw [lkA_neg z] at h
      exact List.mem_cons_of_mem _ (lkA_mem h)
theorem lkA_none {β : Type} {u : Int} : ∀ {l : List (Int × β)}, l.lookup u = none → u ∉ l.map (·.1)
  | [], _ => fun m => (List.not_mem_nil m).elim
  | (v, x) :: l, h => by
    by_cases z : v = u
    · rw [lkA_pos z] at h; cases h
    · rw [lkA_neg z] at h
      intro m
      rcases List.mem_cons.mp m with e | m
      · exact z e.symm
      · exact lkA_none h m
theorem lkA_out {β : Type} {u : Int} {l : List (Int × β)} (h : u ∉ l.map (·.1)) : l.lookup u = none := by
  cases e : l.lookup u with
  | none => rfl
  | some b => exact (h (List.mem_map.mpr ⟨_, lkA_mem e, rfl⟩)).elim
theorem lkA_nd {β : Type} {u : Int} {b : β} {l : List (Int × β)} (n : NdA l) (m : (u, b) ∈ l) : l.lookup u = some b := by
  induction l with
  | nil => exact (List.not_mem_nil m).elim
  | cons p l ih =>
    obtain ⟨v, x⟩ := p
    have nd := List.nodup_cons.mp (show (v :: l.map (·.1)).Nodup from n)
    rcases List.mem_cons.mp m with e | m
    · cases e; exact lkA_pos rfl
    · rw [lkA_neg (fun z => nd.1 (List.mem_map.mpr ⟨_, m, z.symm⟩))]
      exact ih nd.2 m
theorem keysA_map {β : Type} (l : List (Int × β)) (u : Int) (b : β) : (l.map fun p => if p.1 = u then (p.1, b) else p).map (·.1) = l.map (·.1) := by
  rw [List.map_map]
  refine List.map_congr_left fun p _ => ?_
  show (if p.1 = u then (p.1, b) else p).1 = p.1
  split <;> rfl
theorem NdA.put {β : Type} {l : List (Int × β)} {u : Int} {b : β} (n : NdA l) : NdA (putA l u b) := by
  unfold putA NdA
  cases e : l.lookup u with
  | some x =>
    rw [show (some x).isSome = true from rfl, if_pos rfl, keysA_map]
    exact n
  | none =>
    rw [show (none : Option β).isSome = false from rfl, if_neg (by decide), List.map_append]
    refine List.nodup_append.mpr ⟨n, List.nodup_cons.mpr ⟨fun m => (List.not_mem_nil m).elim, List.nodup_nil⟩, fun x hx y hy => ?_⟩
    rcases List.mem_cons.mp hy with rfl | hy
    · exact fun z => lkA_none e (z ▸ hx)
    · exact (List.not_mem_nil hy).elim
theorem NdA.filter {β : Type} {l : List (Int × β)} (q : Int × β → Bool) (n : NdA l) : NdA (l.filter q) := List.Pairwise.sublist (List.Sublist.map _ List.filter_sublist) n
theorem NdA.drop {β : Type} {l : List (Int × β)} {u : Int} (n : NdA l) : NdA (dropA l u) := n.filter _
theorem lkA_put {β : Type} (l : List (Int × β)) (u v : Int) (b : β) : (putA l u b).lookup v = if u = v then some b else l.lookup v := by
  have app : ∀ m : List (Int × β), m.lookup u = none → (m ++ [(u, b)]).lookup v = if u = v then some b else m.lookup v := by
    intro m
    induction m with
    | nil =>
      intro _
      by_cases z : u = v
      · rw [if_pos z]; exact lkA_pos z
      · rw [if_neg z]; exact lkA_neg z
    | cons p m ih =>
      obtain ⟨w, x⟩ := p
      intro h
      by_cases z : w = u
      · rw [lkA_pos z] at h; cases h
      · rw [lkA_neg z] at h
        by_cases y : w = v
        · rw [if_neg (fun e => z (y.trans e.symm)), List.cons_append, lkA_pos y, lkA_pos y]
        · rw [List.cons_append, lkA_neg y, lkA_neg y]
          exact ih h
  unfold putA
  cases e : l.lookup u with
  | none =>
    rw [show (none : Option β).isSome = false from rfl, if_neg (by decide)]
    exact app l e
  | some y =>
    rw [show (some y).isSome = true from rfl, if_pos rfl]
    have go : ∀ m : List (Int × β), (m.lookup u).isSome = true → (m.map fun p => if p.1 = u then (p.1, b) else p).lookup v = if u = v then some b else m.lookup v := by
      intro m
      induction m with
      | nil => intro h; cases h
      | cons p m ih =>
        obtain ⟨w, x⟩ := p
        intro h
        rw [List.map_cons]
        by_cases z : w = u
        · rw [show (if (w, x).1 = u then ((w, x).1, b) else (w, x)) = (w, b) from if_pos z]
          by_cases y : w = v
          · rw [lkA_pos y, if_pos (z.symm.trans y)]
          · rw [lkA_neg y, lkA_neg y, if_neg (fun e => y (z.trans e))]
            clear ih h
            induction m with
            | nil => rfl
            | cons q m ih =>
              obtain ⟨w2, x2⟩ := q
              rw [List.map_cons]
              by_cases z2 : w2 = u
              · rw [show (if (w2, x2).1 = u then ((w2, x2).1, b) else (w2, x2)) = (w2, b) from if_pos z2, lkA_neg (fun e => y (z.trans (z2.symm.trans e))), lkA_neg (fun e => y (z.trans (z2.symm.trans e)))]
                exact ih
              · rw [show (if (w2, x2).1 = u then ((w2, x2).1, b) else (w2, x2)) = (w2, x2) from if_neg z2]
                by_cases y2 : w2 = v
                · rw [lkA_pos y2, lkA_pos y2]
                · rw [lkA_neg y2, lkA_neg y2]
                  exact ih
        · rw [show (if (w, x).1 = u then ((w, x).1, b) else (w, x)) = (w, x) from if_neg z]
          rw [lkA_neg z] at h
          by_cases y : w = v
          · rw [lkA_pos y, lkA_pos y, if_neg (fun e => z (y.trans e.symm))]
          · rw [lkA_neg y, lkA_neg y]
            exact ih h
    exact go l (by rw [e]; rfl)
/-- a dict in the heap that holds these -/
inductive KvR {β : Type} (r : V → β → Prop) : List (Key × V) → List (Int × β) → Prop
  | nil : KvR r [] []
  | cons {u : Int} {b : β} {v : V} {kvs : List (Key × V)} {l : List (Int × β)} (m : r v b) (g : KvR r kvs l) : KvR r ((.inl u, v) :: kvs) ((u, b) :: l)
section
variable {β : Type} {r r' : V → β → Prop} {kvs : List (Key × V)} {l : List (Int × β)}
theorem KvR.up (k : ∀ a t, r a t → r' a t) (h : KvR r kvs l) : KvR r' kvs l := by
  induction h with
  | nil => exact .nil
  | cons m g ih => exact .cons (k _ _ m) ih
theorem KvR.len (h : KvR r kvs l) : kvs.length = l.length := by
  induction h with
  | nil => rfl
  | cons m g ih => rw [List.length_cons, List.length_cons, ih]
theorem KvR.noneU {u : Int} (h : KvR r kvs l) (e : l.lookup u = none) : valV kvs (.inl u) = none := by
  induction h with
  | nil => rfl
  | @cons v b x kvs l m g ih =>
    by_cases z : v = u
    · rw [lkA_pos z] at e; cases e
    · rw [lkA_neg z] at e
      rw [valV_neg (p := ((Sum.inl v : Key), x)) (fun q => z (Sum.inl.inj q))]
      exact ih e
theorem KvR.someU {u : Int} {b : β} (h : KvR r kvs l) (e : l.lookup u = some b) : ∃ v, valV kvs (.inl u) = some v ∧ r v b := by
  induction h with
  | nil => cases e
  | @cons v b x kvs l m g ih =>
    by_cases z : v = u
    · rw [lkA_pos z] at e
      cases e
      exact ⟨x, valV_pos (p := ((Sum.inl v : Key), x)) (congrArg Sum.inl z), m⟩
    · rw [lkA_neg z] at e
      obtain ⟨b, h1, h2⟩ := ih e
      exact ⟨b, by rw [valV_neg (p := ((Sum.inl v : Key), x)) (fun q => z (Sum.inl.inj q))]; exact h1, h2⟩
theorem KvR.isSomeU {u : Int} (h : KvR r kvs l) : (valV kvs (.inl u)).isSome = (l.lookup u).isSome := by
  cases e : l.lookup u with
  | none => rw [h.noneU e]; rfl
  | some x => obtain ⟨a, h1, _⟩ := h.someU e; rw [h1]; rfl
theorem KvR.snoc {u : Int} {b : β} {v : V} (m : r v b) (h : KvR r kvs l) : KvR r (kvs ++ [(.inl u, v)]) (l ++ [(u, b)]) := by
  induction h with
  | nil => exact .cons m .nil
  | cons m2 g ih => exact .cons m2 ih
theorem KvR.mapU {u : Int} {b : β} {v : V} (m : r v b) (h : KvR r kvs l) : KvR r (kvs.map fun kv => if kv.1 = .inl u then (kv.1, v) else kv) (l.map fun p => if p.1 = u then (p.1, b) else p) := by
  induction h with
  | nil => exact .nil
  | @cons w c x kvs l m2 g ih =>
    rw [List.map_cons, List.map_cons]
    by_cases z : w = u
    · rw [if_pos (congrArg Sum.inl z), if_pos z]
      exact .cons m ih
    · rw [if_neg fun q => z (Sum.inl.inj q), if_neg z]
      exact .cons m2 ih
theorem KvR.put {u : Int} {b : β} {v : V} (m : r v b) (h : KvR r kvs l) : KvR r (putK kvs (.inl u) v) (putA l u b) := by
  unfold putK putA
  rw [valV_any, h.isSomeU]
  by_cases e : (l.lookup u).isSome = true
  · rw [if_pos e, if_pos e]
    have := h.mapU (u := u) m
    refine cast ?_ this
    congr 1
  · rw [if_neg e, if_neg e]
    exact h.snoc m
theorem KvR.drop {u : Int} (h : KvR r kvs l) : KvR r (dropK kvs (.inl u)) (dropA l u) := by
  unfold dropK dropA
  induction h with
  | nil => exact .nil
  | @cons v b x kvs l m2 g ih =>
    by_cases z : v = u
    · rw [List.filter_cons_of_neg (by simp [z]), List.filter_cons_of_neg (by simp [z])]
      exact ih
    · rw [List.filter_cons_of_pos (by simp [z]), List.filter_cons_of_pos (by simp [z])]
      exact .cons m2 ih
theorem KvR.at {i : Nat} {k : Key} {v : V} (h : KvR r kvs l) (e : kvs[i]? = some (k, v)) : ∃ u b, k = .inl u ∧ l[i]? = some (u, b) ∧ r v b := by
  induction h generalizing i with
  | nil => cases e
  | @cons u b x kvs l m g ih =>
    cases i with
    | zero => cases e; exact ⟨u, b, rfl, rfl, m⟩
    | succ i => exact ih e
end
end OW
set_option Elab.async false
set_option linter.all false
set_option maxRecDepth 100000
set_option maxHeartbeats 2000000
namespace OW
open PySem PySem.Spec PyProof.Rows L2 RZ SkE CL
def SeqA (K : PySem.W.Frag) (k : Bool) (L : List Ck) (I : List (Hp → Prop)) (w : Addr) (xs : List V) : Prop := match k with
  | true => ∃ R, Pull L (.pt w (.lst xs)) R
  | false => stayI K w xs ∈ I
section
variable {K : PySem.W.Frag} {g : TG} {tb : TS} {D : Ends} {σ : L2.St} {H : Hp} {L M R : List Ck} {I J : List (Hp → Prop)} {a b p w : Addr} {xs ys : List V} {tt : TT} {te tk tv : TE} {vs : List Nat} {k : Bool} {c : Ck}
theorem SeqA.tail (h : SeqA K k L I w xs) : SeqA K k (c :: L) I w xs := match k, h with
  | true, ⟨R, h⟩ => ⟨_, .tail h⟩
  | false, h => h
theorem SeqA.more {S : Hp → Prop} (h : SeqA K k L I w xs) : SeqA K k L (S :: I) w xs := match k, h with
  | true, h => h
  | false, h => List.mem_cons_of_mem _ h
theorem SeqA.sub (h : SeqA K k L I w xs) (s : ∀ S ∈ I, S ∈ J) : SeqA K k L J w xs := match k, h with
  | true, h => h
  | false, h => s _ h
theorem SeqA.l (h : Own H L I) (e : SeqA K true L I w xs) : SqL K H w xs := let ⟨_, e⟩ := e; SqL.of (h.get e)
theorem SeqA.t (h : Own H L I) (e : SeqA K false L I w xs) : SqT K H w xs := stay_sq h e
theorem SeqA.any (h : Own H L I) (e : SeqA K k L I w xs) {P : Prop} (q1 : SqL K H w xs → P) (q2 : SqT K H w xs → P) : P := match k, e with
  | true, e => q1 (SeqA.l h e)
  | false, e => q2 (SeqA.t h e)
end
/-- data, as a list or a tuple -/
structure DArg (K : PySem.W.Frag) (L : List Ck) (I : List (Hp → Prop)) (a : Addr) (ds : List PyData) : Prop where
  ex : ∃ k xs, SeqA K k L I a xs ∧ idsI xs ds ∈ I
section
variable {K : PySem.W.Frag} {H : Hp} {L R : List Ck} {I J : List (Hp → Prop)} {a : Addr} {xs : List V} {ds : List PyData} {c : Ck}
theorem DArg.lst (e : Pull L (.pt a (.lst xs)) R) (m : idsI xs ds ∈ I) : DArg K L I a ds := ⟨true, xs, ⟨_, e⟩, m⟩
theorem DArg.tup (e : stayI K a xs ∈ I) (m : idsI xs ds ∈ I) : DArg K L I a ds := ⟨false, xs, e, m⟩
theorem DArg.tail (h : DArg K L I a ds) : DArg K (c :: L) I a ds := let ⟨⟨k, xs, s, m⟩⟩ := h; ⟨k, xs, s.tail, m⟩
theorem DArg.more {S : Hp → Prop} (h : DArg K L I a ds) : DArg K L (S :: I) a ds := let ⟨⟨k, xs, s, m⟩⟩ := h; ⟨k, xs, s.more, List.mem_cons_of_mem _ m⟩
theorem DArg.sub (h : DArg K L I a ds) (s : ∀ S ∈ I, S ∈ J) : DArg K L J a ds := let ⟨⟨k, xs, z, m⟩⟩ := h; ⟨k, xs, z.sub s, s _ m⟩
end
end OW
set_option Elab.async false
set_option linter.all false
set_option maxRecDepth 100000
set_option maxHeartbeats 2000000
namespace OW
open PySem PySem.Spec PyProof.Rows L2 RZ SkE CL
structure En where
  t : Int
  w : Str
  u : Int
def stillL (la mo : Int) (k : List (Int × Int)) : List (Int × Int) := k.filter fun p => decide (mo - p.2 < la)
def grantL (r : Ru) (k : List (Int × Int)) (e : En) : Bool := if e.w = "borrow" then (k.lookup e.u).isSome || decide ((k.length : Int) < r.se) else match k.lookup e.u with
  | none => false
  | some t => decide (e.t - t ≤ r.gr + r.lt)
def nextL (k : List (Int × Int)) (e : En) : List (Int × Int) := if e.w = "back" then dropA k e.u else putA k e.u e.t
def stepL (r : Ru) (k : List (Int × Int)) (e : En) : List (Int × Int) := nextL (stillL r.la e.t k) e
def misL (r : Ru) : List (Int × Int) → List En → Nat → Option Nat
  | _, [], _ => none
  | k, e :: es, i => if grantL r (stillL r.la e.t k) e then misL r (stepL r k e) es (i + 1) else some i
def logL (r : Ru) (k : List (Int × Int)) (es : List En) : List (Int × Int) := es.foldl (stepL r) k
theorem NdA.next {k : List (Int × Int)} {e : En} (n : NdA k) : NdA (nextL k e) := by
  unfold nextL
  split
  · exact n.drop
  · exact n.put
theorem sorted_one : ∀ {l m : List Int}, l.Perm m → l.Pairwise (· ≤ ·) → m.Pairwise (· ≤ ·) → l = m
  | [], m, p, _, _ => (List.nil_perm.mp p).symm
  | x :: l, [], p, _, _ => by have := p.length_eq; cases this
  | x :: l, y :: m, p, h1, h2 => by
    have a := List.pairwise_cons.mp h1
    have b := List.pairwise_cons.mp h2
    have e : x = y := by
      rcases List.mem_cons.mp (p.mem_iff.mp List.mem_cons_self) with e | mx
      · exact e
      · rcases List.mem_cons.mp (p.mem_iff.mpr List.mem_cons_self) with e | my
        · exact e.symm
        · have := a.1 y my
          have := b.1 x mx
          omega
    subst e
    rw [sorted_one (List.perm_cons x |>.mp p) a.2 b.2]
end OW
set_option Elab.async false
set_option linter.all false
set_option maxRecDepth 100000
set_option maxHeartbeats 2000000
namespace OW
open PySem PySem.Spec PyProof.Rows L2 RZ SkE CL
section
variable {l : List (Addr × HO)} {H : Hp} {L R : List Ck} {I : List (Hp → Prop)} {a : Addr} {o : HO}
theorem VO.tup_inv {v : V} {ds : List PyData} (h : VO l v (.tuple ds)) : ∃ a xs, v = .ref a ∧ (a, HO.tup xs) ∈ l ∧ VOAll l xs ds := by
  cases h with | tup m g => exact ⟨_, _, rfl, m, g⟩
end
end OW
set_option Elab.async false
set_option linter.all false
set_option maxRecDepth 100000
set_option maxHeartbeats 2000000
namespace OW
open PySem PySem.Spec PyProof.Rows L2 RZ SkE CL
structure DGet2 (H : Hp) (a : Addr) (y z : V) (Q : VK) : Prop where
  ex : ∃ o, DGet H a y o ∧ Q (o.getD z) H
section
variable {H : Hp} {L R : List Ck} {I : List (Hp → Prop)} {a : Addr} {kvs : List (Key × V)} {i : Int} {z : V} {Q : VK}
theorem dget2_i (h : Own H L I) (e : Pull L (.pt a (.dK kvs)) R) (q : Q ((valV kvs (.inl i)).getD z) H) : DGet2 H a (.int i) z Q := ⟨_, DGet.k (k := .inl i) (h.get e), q⟩
end
theorem lkA_drop {β : Type} (l : List (Int × β)) (u v : Int) : (dropA l u).lookup v = if u = v then none else l.lookup v := by
  unfold dropA
  induction l with
  | nil => split <;> rfl
  | cons p l ih =>
    obtain ⟨w, x⟩ := p
    by_cases z : w = u
    · rw [List.filter_cons_of_neg (by simp [z]), ih]
      by_cases y : u = v
      · rw [if_pos y, if_pos y]
      · rw [if_neg y, if_neg y, lkA_neg (fun e => y (z.symm.trans e))]
    · rw [List.filter_cons_of_pos (by simp [z])]
      by_cases y : w = v
      · rw [lkA_pos y, lkA_pos y, if_neg (fun e => z (y.trans e.symm))]
      · rw [lkA_neg y, lkA_neg y, ih]
theorem lkA_filter {β : Type} {q : Int × β → Bool} {l : List (Int × β)} (n : NdA l) (u : Int) : (l.filter q).lookup u = match l.lookup u with
    | some b => if q (u, b) then some b else none
    | none => none := by
  cases e : l.lookup u with
  | none =>
    refine lkA_out fun m => ?_
    obtain ⟨x, hx, hu⟩ := List.mem_map.mp m
    exact lkA_none e (List.mem_map.mpr ⟨x, (List.mem_filter.mp hx).1, hu⟩)
  | some b =>
    show _ = if q (u, b) then some b else none
    cases hq : q (u, b) with
    | true =>
      rw [if_pos rfl]
      exact lkA_nd (n.filter q) (List.mem_filter.mpr ⟨lkA_mem e, hq⟩)
    | false =>
      rw [if_neg (by decide)]
      refine lkA_out fun m => ?_
      obtain ⟨⟨w, x⟩, hx, hu⟩ := List.mem_map.mp m
      obtain rfl : w = u := hu
      have hx := List.mem_filter.mp hx
      have := lkA_nd n hx.1
      rw [e] at this
      cases this
      rw [hq] at hx
      cases hx.2
end OW
set_option Elab.async false
set_option linter.all false
set_option maxRecDepth 100000
set_option maxHeartbeats 2000000
namespace OW
open PySem PySem.Spec PyProof.Rows L2 RZ SkE CL
section
variable {β : Type} {k l : List (Int × β)} {u : Int} {b : β}
theorem NdA.perm (n : NdA k) (p : l.Perm k) : NdA l := (p.map (fun x : Int × β => x.1)).nodup_iff.mpr n
end
/-- a log that fits, so far -/
def FitsL (r : Ru) (es : List En) : Prop := misL r [] es 0 = none
theorem misL_split {r : Ru} : ∀ (as bs : List En) (k : List (Int × Int)) (j : Nat), misL r k (as ++ bs) j = match misL r k as j with
    | some i => some i
    | none => misL r (logL r k as) bs (j + as.length)
  | [], bs, k, j => rfl
  | a :: as, bs, k, j => by
    rw [List.cons_append, misL, misL]
    cases g : grantL r (stillL r.la a.t k) a with
    | false => rw [if_neg (by decide)]; rfl
    | true =>
      rw [if_pos rfl, if_pos rfl, misL_split as bs _ _, List.length_cons, show j + 1 + as.length = j + (as.length + 1) by omega]
      rfl
theorem FitsL.take {r : Ru} {es : List En} (h : FitsL r es) (i : Nat) : FitsL r (es.take i) := by
  unfold FitsL at h ⊢
  have := misL_split (r := r) (es.take i) (es.drop i) [] 0
  rw [List.take_append_drop, h] at this
  cases e : misL r [] (es.take i) 0 with
  | none => rfl
  | some j => rw [e] at this; cases this
end OW
set_option Elab.async false
set_option linter.all false
set_option maxRecDepth 100000
set_option maxHeartbeats 2000000
namespace OW
open PySem PySem.Spec PyProof.Rows L2 RZ SkE CL
structure MakeV (C : Addr) (v : Option (Option V)) (k : Prop) : Prop where
  e : v = some (some (.ref C))
  k : k
structure CMethR (C : Addr) (x : V) (k : Prop) : Prop where
  e : x = .ref C
  k : k
end OW
set_option Elab.async false
set_option linter.all false
set_option maxRecDepth 100000
set_option maxHeartbeats 2000000
namespace OW
open PySem PySem.Spec PyProof.Rows L2 RZ SkE CL
mutual
inductive IDk (K : PySem.W.Frag) (H : Hp) : V → PyData → Prop
  | non : IDk K H .non .none
  | bl (b : Bool) : IDk K H (.bl b) (.bool b)
  | int (i : Int) : IDk K H (.int i) (.int i)
  | str (x : Str) : IDk K H (.str x) (.str x)
  | tup {a : Addr} {xs : List V} {ds : List PyData} (h : H a = some (.tup xs) ∨ ∀ H', SqT K H' a xs) (g : IDkAll K H xs ds) : IDk K H (.ref a) (.tuple ds)
inductive IDkAll (K : PySem.W.Frag) (H : Hp) : List V → List PyData → Prop
  | nil : IDkAll K H [] []
  | cons {v : V} {vs : List V} {d : PyData} {ds : List PyData} (h : IDk K H v d) (g : IDkAll K H vs ds) : IDkAll K H (v :: vs) (d :: ds)
end
section
variable {K : PySem.W.Frag} {H H' : Hp}
mutual
theorem IDk.keep (k : Keep H H') : ∀ (d : PyData) (v : V), IDk K H v d → IDk K H' v d
  | .none, _, h => by cases h; exact .non
  | .bool b, _, h => by cases h; exact .bl b
  | .int i, _, h => by cases h; exact .int i
  | .str z, _, h => by cases h; exact .str z
  | .list ds, _, h => by cases h
  | .tuple ds, _, h => by cases h with | tup m g => exact .tup (m.elim (fun e => .inl (k _ _ e rfl)) .inr) (IDkAll.keep k ds _ g)
  | .dict es, _, h => by cases h
theorem IDkAll.keep (k : Keep H H') : ∀ (ds : List PyData) (vs : List V), IDkAll K H vs ds → IDkAll K H' vs ds
  | [], _, h => by cases h; exact .nil
  | d :: ds, _, h => by cases h with | cons h g => exact .cons (IDk.keep k d _ h) (IDkAll.keep k ds _ g)
end
theorem IDkAll.len : ∀ {vs : List V} {ds : List PyData}, IDkAll K H vs ds → vs.length = ds.length
  | _, _, .nil => rfl
  | _, _, .cons _ g => congrArg (· + 1) g.len
theorem IDkAll.append : ∀ {vs ws : List V} {ds es : List PyData}, IDkAll K H vs ds → IDkAll K H ws es → IDkAll K H (vs ++ ws) (ds ++ es)
  | _, _, _, _, .nil, h => h
  | _, _, _, _, .cons a g, h => .cons a (g.append h)
theorem IDkAll.at : ∀ {xs : List V} {ds : List PyData} {i : Nat} {x : V}, IDkAll K H xs ds → xs[i]? = some x → ∃ d, ds[i]? = some d ∧ IDk K H x d
  | _, _, 0, x, .cons a g, h => by
    cases h
    exact ⟨_, rfl, a⟩
  | _, _, i + 1, x, .cons a g, h => IDkAll.at (i := i) g h
end
def evU2 : Ev → Prop
  | .pass => True
  | .on _ u => 0 ≤ u ∧ u < 100
theorem evU2.u : ∀ {e : Ev}, evU2 e → evU e
  | .pass, _ => trivial
  | .on _ _, h => ⟨h.1, Int.lt_of_lt_of_le h.2 (by decide)⟩
instance : DecidableEq Ev := fun a b => match a, b with
  | .pass, .pass => .isTrue rfl
  | .pass, .on _ _ => .isFalse Ev.noConfusion
  | .on _ _, .pass => .isFalse Ev.noConfusion
  | .on w u, .on x v => if h : w = x ∧ u = v then .isTrue (by rw [h.1, h.2]) else .isFalse fun e => h (by cases e; exact ⟨rfl, rfl⟩)
end OW
set_option Elab.async false
set_option linter.all false
set_option maxRecDepth 100000
set_option maxHeartbeats 2000000
namespace OW
open PySem PySem.Spec PyProof.Rows L2 RZ SkE CL
/-- how a house stands while its day is possible: each user has one kept seat at most, nobody is too old, and who uses has the moment of its seat -/
structure LgS (r : Ru) (s : Hs) : Prop where
  once : ∀ (i j : Nat) (u t t' : Int), s.kp[i]? = some (some (u, t)) → s.kp[j]? = some (some (u, t')) → i = j
  age : ∀ p ∈ s.us, s.mo - p.2.2 ≤ r.gr + r.lt
  same : ∀ p ∈ s.us, ∀ t, some (p.1, t) ∈ s.kp → t = p.2.2
  nd : NdA s.us
theorem mem_at {α : Type} {l : List α} {x : α} : x ∈ l ↔ ∃ j : Nat, l[j]? = some x := List.mem_iff_getElem?
theorem clr_mem {kp : List (Option (Int × Int))} {u : Int} {i : Nat} (hu : ∀ (j : Nat) (t : Int), kp[j]? = some (some (u, t)) → j = i) (hv : ∀ v t, kp[i]? = some (some (v, t)) → v = u) (v t : Int) :
    some (v, t) ∈ kp.set i none ↔ v ≠ u ∧ some (v, t) ∈ kp := by
  rw [mem_at, mem_at]
  constructor
  · rintro ⟨j, hj⟩
    rw [List.getElem?_set] at hj
    by_cases e : i = j
    · rw [if_pos e] at hj
      split at hj <;> cases hj
    · rw [if_neg e] at hj
      exact ⟨fun z => by subst z; exact e (hu j t hj).symm, j, hj⟩
  · rintro ⟨z, j, hj⟩
    refine ⟨j, ?_⟩
    rw [List.getElem?_set, if_neg (fun e => z (hv v t (by rw [e]; exact hj)))]
    exact hj
theorem put_mem {β : Type} {l : List (Int × β)} {u : Int} {b : β} {p : Int × β} (h : p ∈ putA l u b) : p = (u, b) ∨ (p ∈ l ∧ p.1 ≠ u) := by
  unfold putA at h
  split at h
  · obtain ⟨q, m, rfl⟩ := List.mem_map.mp h
    by_cases e : q.1 = u
    · rw [if_pos e, e]; exact .inl rfl
    · rw [if_neg e]; exact .inr ⟨m, e⟩
  · rename_i c
    rcases List.mem_append.mp h with m | m
    · refine .inr ⟨m, fun e => c ?_⟩
      subst e
      cases g : l.lookup p.1 with
      | some x => rfl
      | none => exact absurd (List.mem_map.mpr ⟨p, m, rfl⟩) (lkA_none g)
    · exact .inl (List.mem_singleton.mp m)
theorem LgS.pass {r : Ru} {s : Hs} (h : LgS r s) (ok : canH r s .pass = true) : LgS r (doPass r s).1 := by
  have sub : ∀ (j : Nat) (x : Int × Int), (s.kp.map (passK r.la (s.mo + 1)))[j]? = some (some x) → s.kp[j]? = some (some x) := fun j x hj => by
    rw [List.getElem?_map] at hj
    obtain ⟨y, hy, e⟩ := Option.map_eq_some_iff.mp hj
    unfold passK at e
    split at e
    · cases e
    · rw [hy, e]
  refine ⟨fun j k v t t' hj hk => h.once j k v t t' (sub j _ hj) (sub k _ hk), fun p m => ?_, fun p m t hm => ?_, h.nd⟩
  · have o := List.all_eq_true.mp ok p m
    unfold passOk at o
    have o := (Bool.and_eq_true _ _ |>.mp o).1
    have o : ¬ (r.gr + r.lt ≤ s.mo - p.2.2) := by simpa using o
    show s.mo + 1 - p.2.2 ≤ _
    omega
  · obtain ⟨j, hj⟩ := mem_at.mp hm
    exact h.same p m t (mem_at.mpr ⟨j, sub j _ hj⟩)
/-- what is kept by the log is what is kept -/
structure KpL (r : Ru) (k : List (Int × Int)) (s : Hs) : Prop where
  nd : NdA k
  mem : ∀ u t, (stillL r.la s.mo k).lookup u = some t ↔ some (u, t) ∈ s.kp
theorem still_nd {la mo : Int} {k : List (Int × Int)} (n : NdA k) : NdA (stillL la mo k) := n.filter _
theorem still_lk {la mo : Int} {k : List (Int × Int)} (n : NdA k) (u t : Int) : (stillL la mo k).lookup u = some t ↔ k.lookup u = some t ∧ mo - t < la := by
  unfold stillL
  rw [lkA_filter n]
  cases e : k.lookup u with
  | none => simp
  | some x =>
    show (if decide (mo - x < la) then some x else none) = some t ↔ _
    by_cases h : mo - x < la
    · rw [decide_eq_true h, if_pos rfl]
      constructor
      · intro q; cases q; exact ⟨rfl, h⟩
      · rintro ⟨q, _⟩; exact q
    · rw [decide_eq_false h, if_neg (by decide)]
      constructor
      · intro q; cases q
      · rintro ⟨q, z⟩; cases q; exact absurd z h
/-- a kept seat is not yet lost -/
theorem KpL.fresh {r : Ru} {k : List (Int × Int)} {s : Hs} (h : KpL r k s) {u t : Int} (m : some (u, t) ∈ s.kp) : s.mo - t < r.la := ((still_lk h.nd u t).mp ((h.mem u t).mpr m)).2
theorem KpL.same {r : Ru} {k : List (Int × Int)} {s s' : Hs} (h : KpL r k s) (a : s'.mo = s.mo) (b : s'.kp = s.kp) : KpL r k s' := ⟨h.nd, fun u t => by rw [a, b]; exact h.mem u t⟩
theorem KpL.pass {r : Ru} {k : List (Int × Int)} {s : Hs} (h : KpL r k s) : KpL r k (doPass r s).1 := by
  refine ⟨h.nd, fun u t => ?_⟩
  show (stillL r.la (s.mo + 1) k).lookup u = some t ↔ some (u, t) ∈ s.kp.map (passK r.la (s.mo + 1))
  rw [still_lk h.nd]
  constructor
  · rintro ⟨a, b⟩
    have m := (h.mem u t).mp ((still_lk h.nd u t).mpr ⟨a, by omega⟩)
    refine List.mem_map.mpr ⟨_, m, ?_⟩
    unfold passK outK
    rw [if_neg (by rw [decide_eq_true_eq]; show ¬ s.mo + 1 - t = r.la; omega)]
  · intro m
    obtain ⟨x, hx, e⟩ := List.mem_map.mp m
    unfold passK at e
    split at e
    · cases e
    · rename_i o
      subst e
      have f := h.fresh hx
      have o : ¬ (s.mo + 1 - t = r.la) := fun z => o (decide_eq_true z)
      exact ⟨((still_lk h.nd u t).mp ((h.mem u t).mpr hx)).1, by omega⟩
theorem KpL.back {r : Ru} {k : List (Int × Int)} {s : Hs} {u : Int} {i : Nat} (h : KpL r k s) (hu : ∀ (j : Nat) (t : Int), s.kp[j]? = some (some (u, t)) → j = i) (hv : ∀ v t, s.kp[i]? = some (some (v, t)) → v = u) : KpL r (stepL r k ⟨s.mo, "back", u⟩) (leaveH { s with kp := s.kp.set i none } u) := by
  have n := still_nd (la := r.la) (mo := s.mo) h.nd
  have e : stepL r k ⟨s.mo, "back", u⟩ = dropA (stillL r.la s.mo k) u := by
    unfold stepL nextL
    rw [if_pos rfl]
  rw [e]
  refine ⟨n.drop, fun v t => ?_⟩
  rw [still_lk n.drop, lkA_drop]
  show _ ∧ s.mo - t < r.la ↔ some (v, t) ∈ s.kp.set i none
  rw [clr_mem hu hv]
  by_cases z : u = v
  · rw [if_pos z]
    exact ⟨fun q => absurd q.1 (by intro y; cases y), fun q => absurd z.symm q.1⟩
  · rw [if_neg z, h.mem]
    exact ⟨fun q => ⟨fun y => z y.symm, q.1⟩, fun q => ⟨q.2, h.fresh q.2⟩⟩
def lastA (es : List En) : List (Int × Int × Str) := es.foldl (fun m e => putA m e.u (e.t, e.w)) []
theorem lastA_snoc (es : List En) (e : En) : lastA (es ++ [e]) = putA (lastA es) e.u (e.t, e.w) := by
  unfold lastA
  rw [List.foldl_append]
  rfl
/-- who uses has an entry of the moment of its seat, and gave nothing back -/
def UsL (log : List En) (s : Hs) : Prop := ∀ p ∈ s.us, ∃ w : Str, (lastA log).lookup p.1 = some (p.2.2, w) ∧ w ≠ "back"
theorem UsL.sub {log : List En} {s s' : Hs} (h : UsL log s) (e : ∀ p ∈ s'.us, p ∈ s.us) : UsL log s' := fun p m => h p (e p m)
theorem UsL.put {log : List En} {s : Hs} {u : Int} {i : Nat} {w : Str} (h : UsL log s) (nb : w ≠ "back") : UsL (log ++ [⟨s.mo, w, u⟩]) (ansH s u i) := fun p m => by
  rw [lastA_snoc, lkA_put]
  rcases put_mem (show p ∈ putA s.us u (((i : Nat) : Int), s.mo) from m) with e | ⟨m, e⟩
  · rw [e, if_pos rfl]
    exact ⟨w, rfl, nb⟩
  · rw [if_neg fun q => e q.symm]
    exact h p m
theorem UsL.back {log : List En} {s s' : Hs} {u mo : Int} {w : Str} (h : UsL log s) (e : ∀ p ∈ s'.us, p ∈ s.us ∧ p.1 ≠ u) : UsL (log ++ [⟨mo, w, u⟩]) s' := fun p m => by
  rw [lastA_snoc, lkA_put, if_neg fun q => (e p m).2 q.symm]
  exact h p (e p m).1
end OW
set_option Elab.async false
set_option linter.all false
set_option maxRecDepth 100000
set_option maxHeartbeats 2000000
namespace L2
open PySem PySem.Spec PyProof.Rows
end L2
namespace OW
open PySem PySem.Spec PyProof.Rows L2 RZ SkE CL
end OW
set_option Elab.async false
set_option linter.all false
set_option maxRecDepth 100000
set_option maxHeartbeats 2000000
namespace OW
open PySem PySem.Spec PyProof.Rows L2 RZ SkE CL
end OW
set_option Elab.async false
set_option linter.all false
set_option maxRecDepth 100000
set_option maxHeartbeats 2000000
section
open PySem PySem.Spec PyProof.Rows L2 RZ SkE CL OW
local macro_rules | `(tactic| walk_at "subi") => `(tactic| first
  | exact fun _ z => z
  | exact fun _ z => List.mem_cons_of_mem _ z
  | exact fun _ z => List.mem_cons_of_mem _ (List.mem_cons_of_mem _ z)
  | exact fun _ z => List.mem_cons_of_mem _ (List.mem_cons_of_mem _ (List.mem_cons_of_mem _ z))
  | exact fun _ z => List.mem_cons_of_mem _ (List.mem_cons_of_mem _ (List.mem_cons_of_mem _ (List.mem_cons_of_mem _ z)))
  | exact fun _ z => List.mem_cons_of_mem _ (List.mem_cons_of_mem _ (List.mem_cons_of_mem _ (List.mem_cons_of_mem _ (List.mem_cons_of_mem _ z))))
  | exact fun _ z => List.mem_cons_of_mem _ (List.mem_cons_of_mem _ (List.mem_cons_of_mem _ (List.mem_cons_of_mem _ (List.mem_cons_of_mem _ (List.mem_cons_of_mem _ z)))))
  | exact fun _ z => List.mem_cons_of_mem _ (List.mem_cons_of_mem _ (List.mem_cons_of_mem _ (List.mem_cons_of_mem _ (List.mem_cons_of_mem _ (List.mem_cons_of_mem _ (List.mem_cons_of_mem _ z))))))
  | exact fun _ z => List.mem_cons_of_mem _ (List.mem_cons_of_mem _ (List.mem_cons_of_mem _ (List.mem_cons_of_mem _ (List.mem_cons_of_mem _ (List.mem_cons_of_mem _ (List.mem_cons_of_mem _ (List.mem_cons_of_mem _ z)))))))
  | exact fun _ z => (List.not_mem_nil z).elim
  | exact sub_nil
  | (refine sub_cons (by walk_at "mem") ?_; walk_at "subi")
  | (intro R z; apply List.mem_cons_of_mem; revert z; revert R; walk_at "subi"))
local macro_rules | `(tactic| walk_at "pull1") => `(tactic| first | assumption | exact Pull.head | (apply Pull.tail; walk_at "pull1"))
local macro_rules | `(tactic| walk_at "pull") => `(tactic| first | assumption | exact Pull.head | exact (Pull.tail Pull.head) | exact (Pull.tail (Pull.tail Pull.head)) | exact (Pull.tail (Pull.tail (Pull.tail Pull.head))) | exact (Pull.tail (Pull.tail (Pull.tail (Pull.tail Pull.head)))) | exact (Pull.tail (Pull.tail (Pull.tail (Pull.tail (Pull.tail Pull.head))))) | exact (Pull.tail (Pull.tail (Pull.tail (Pull.tail (Pull.tail (Pull.tail Pull.head)))))) | exact (Pull.tail (Pull.tail (Pull.tail (Pull.tail (Pull.tail (Pull.tail (Pull.tail Pull.head))))))) | exact (Pull.tail (Pull.tail (Pull.tail (Pull.tail (Pull.tail (Pull.tail (Pull.tail (Pull.tail Pull.head)))))))) | exact (Pull.tail (Pull.tail (Pull.tail (Pull.tail (Pull.tail (Pull.tail (Pull.tail (Pull.tail (Pull.tail Pull.head))))))))) | exact (Pull.tail (Pull.tail (Pull.tail (Pull.tail (Pull.tail (Pull.tail (Pull.tail (Pull.tail (Pull.tail (Pull.tail Pull.head)))))))))) | exact (Pull.tail (Pull.tail (Pull.tail (Pull.tail (Pull.tail (Pull.tail (Pull.tail (Pull.tail (Pull.tail (Pull.tail (Pull.tail Pull.head))))))))))) | (apply Pull.tail; walk_at "pull1"))
local macro_rules | `(tactic| walk_at "mem1") => `(tactic| first | assumption | exact List.mem_cons_self | (refine List.mem_cons_of_mem _ ?_; walk_at "mem1"))
local macro_rules | `(tactic| walk_at "mem") => `(tactic| first | assumption | exact List.mem_cons_self | exact (List.mem_cons_of_mem _ List.mem_cons_self) | exact (List.mem_cons_of_mem _ (List.mem_cons_of_mem _ List.mem_cons_self)) | exact (List.mem_cons_of_mem _ (List.mem_cons_of_mem _ (List.mem_cons_of_mem _ List.mem_cons_self))) | exact (List.mem_cons_of_mem _ (List.mem_cons_of_mem _ (List.mem_cons_of_mem _ (List.mem_cons_of_mem _ List.mem_cons_self)))) | exact (List.mem_cons_of_mem _ (List.mem_cons_of_mem _ (List.mem_cons_of_mem _ (List.mem_cons_of_mem _ (List.mem_cons_of_mem _ List.mem_cons_self))))) | exact (List.mem_cons_of_mem _ (List.mem_cons_of_mem _ (List.mem_cons_of_mem _ (List.mem_cons_of_mem _ (List.mem_cons_of_mem _ (List.mem_cons_of_mem _ List.mem_cons_self)))))) | exact (List.mem_cons_of_mem _ (List.mem_cons_of_mem _ (List.mem_cons_of_mem _ (List.mem_cons_of_mem _ (List.mem_cons_of_mem _ (List.mem_cons_of_mem _ (List.mem_cons_of_mem _ List.mem_cons_self))))))) | exact (List.mem_cons_of_mem _ (List.mem_cons_of_mem _ (List.mem_cons_of_mem _ (List.mem_cons_of_mem _ (List.mem_cons_of_mem _ (List.mem_cons_of_mem _ (List.mem_cons_of_mem _ (List.mem_cons_of_mem _ List.mem_cons_self)))))))) | exact (List.mem_cons_of_mem _ (List.mem_cons_of_mem _ (List.mem_cons_of_mem _ (List.mem_cons_of_mem _ (List.mem_cons_of_mem _ (List.mem_cons_of_mem _ (List.mem_cons_of_mem _ (List.mem_cons_of_mem _ (List.mem_cons_of_mem _ List.mem_cons_self))))))))) | exact (List.mem_cons_of_mem _ (List.mem_cons_of_mem _ (List.mem_cons_of_mem _ (List.mem_cons_of_mem _ (List.mem_cons_of_mem _ (List.mem_cons_of_mem _ (List.mem_cons_of_mem _ (List.mem_cons_of_mem _ (List.mem_cons_of_mem _ (List.mem_cons_of_mem _ List.mem_cons_self)))))))))) | exact (List.mem_cons_of_mem _ (List.mem_cons_of_mem _ (List.mem_cons_of_mem _ (List.mem_cons_of_mem _ (List.mem_cons_of_mem _ (List.mem_cons_of_mem _ (List.mem_cons_of_mem _ (List.mem_cons_of_mem _ (List.mem_cons_of_mem _ (List.mem_cons_of_mem _ (List.mem_cons_of_mem _ List.mem_cons_self))))))))))) | exact (List.mem_cons_of_mem _ (List.mem_cons_of_mem _ (List.mem_cons_of_mem _ (List.mem_cons_of_mem _ (List.mem_cons_of_mem _ (List.mem_cons_of_mem _ (List.mem_cons_of_mem _ (List.mem_cons_of_mem _ (List.mem_cons_of_mem _ (List.mem_cons_of_mem _ (List.mem_cons_of_mem _ (List.mem_cons_of_mem _ List.mem_cons_self)))))))))))) | exact (List.mem_cons_of_mem _ (List.mem_cons_of_mem _ (List.mem_cons_of_mem _ (List.mem_cons_of_mem _ (List.mem_cons_of_mem _ (List.mem_cons_of_mem _ (List.mem_cons_of_mem _ (List.mem_cons_of_mem _ (List.mem_cons_of_mem _ (List.mem_cons_of_mem _ (List.mem_cons_of_mem _ (List.mem_cons_of_mem _ (List.mem_cons_of_mem _ List.mem_cons_self))))))))))))) | exact (List.mem_cons_of_mem _ (List.mem_cons_of_mem _ (List.mem_cons_of_mem _ (List.mem_cons_of_mem _ (List.mem_cons_of_mem _ (List.mem_cons_of_mem _ (List.mem_cons_of_mem _ (List.mem_cons_of_mem _ (List.mem_cons_of_mem _ (List.mem_cons_of_mem _ (List.mem_cons_of_mem _ (List.mem_cons_of_mem _ (List.mem_cons_of_mem _ (List.mem_cons_of_mem _ List.mem_cons_self)))))))))))))) | exact (List.mem_cons_of_mem _ (List.mem_cons_of_mem _ (List.mem_cons_of_mem _ (List.mem_cons_of_mem _ (List.mem_cons_of_mem _ (List.mem_cons_of_mem _ (List.mem_cons_of_mem _ (List.mem_cons_of_mem _ (List.mem_cons_of_mem _ (List.mem_cons_of_mem _ (List.mem_cons_of_mem _ (List.mem_cons_of_mem _ (List.mem_cons_of_mem _ (List.mem_cons_of_mem _ (List.mem_cons_of_mem _ List.mem_cons_self))))))))))))))) | (refine List.mem_cons_of_mem _ ?_; walk_at "mem1"))
local macro_rules | `(tactic| walk_at "hp") => `(tactic| first | assumption | exact Own.get (by assumption) (by walk_at "pull") | exact Own.tupx (by assumption) (by walk_at "mem"))
local macro_rules | `(tactic| walk_at "pick") => `(tactic| first | exact Pick.all | exact Pick.nil | (refine Pick.cons (by walk_at "pull") ?_; walk_at "pick") | (refine Pick.skip ?_; walk_at "pick"))
local macro_rules | `(tactic| walk_at "own") => `(tactic| first | assumption | exact Own.subI (Own.pick (by assumption) (by walk_at "pick")) (by walk_at "subi"))
local macro_rules | `(tactic| walk_at "dps") => `(tactic| first
  | exact DpAll.nil
  | exact dpAll_ints _
  | exact dpAll_strs _
  | assumption
  | exact IDpAll.dp _ _ (Own.ids (by assumption) (by walk_at "mem"))
  | (apply DpAll.cons; (focus (walk_at "dp")); walk_at "dps"))
local macro_rules | `(tactic| walk_at "dp") => `(tactic| first
  | exact Dp.int _
  | exact Dp.str _
  | exact Dp.non
  | exact Dp.bl _
  | assumption
  | exact IDp.dp _ _ (Own.idd (by assumption) (by walk_at "mem"))
  | (apply Dp.tup; (focus (exact SqT.of (by walk_at "hp"))); walk_at "dps")
  | (apply Dp.lst; (focus (exact SqL.of (by walk_at "hp"))); walk_at "dps")
  | (apply Dp.tup; (focus (walk_at "seq")); walk_at "dps"))
local macro_rules | `(tactic| walk_at "sd") => `(tactic| first
  | assumption
  | (exact ⟨by decide, by decide⟩)
  | exact ⟨rfl, rfl⟩
  | (show (_ : Nat) ≤ sizeLine; (try simp only [List.length_cons, List.length_nil, List.length_append, List.length_map, List.length_take]); rw [sizeLine_eq]; omega)
  | (show (_ : Nat) < sizeLine; (try simp only [List.length_cons, List.length_nil, List.length_append, List.length_map, List.length_take]); rw [sizeLine_eq]; omega)
  | omega
  | (exact Or.inl (Or.inl ⟨by omega, by omega⟩))
  | (exact Or.inl (Or.inr ⟨by omega, by omega⟩))
  | (exact Or.inl ⟨by omega, by omega⟩)
  | (exact ⟨by omega, by omega⟩)
  | (exact ⟨by decide, by decide, by decide⟩)
  | decide
  | walk_at "len")
local macro_rules | `(tactic| walk_at "br") => `(tactic| first
  | refine br_t (by first | rfl | assumption) ?_
  | refine br_f (by first | rfl | assumption) ?_
  | refine br_t (by exact decide_eq_true (by omega)) ?_
  | refine br_f (by exact decide_eq_false (by omega)) ?_
  | walk_at "br2")
local macro_rules | `(tactic| walk_at "kit") => `(tactic| first
  | exact kit_int_int | exact kit_int_bool | exact kit_int_str | exact kit_int_list | exact kit_int_tuple
  | exact kit_bool_int | exact kit_bool_bool | exact kit_bool_str | exact kit_bool_list | exact kit_bool_tuple
  | exact kit_str_int | exact kit_str_bool | exact kit_str_str | exact kit_str_list | exact kit_str_tuple
  | exact kit_list_int | exact kit_list_bool | exact kit_list_str | exact kit_list_list | exact kit_list_tuple
  | exact kit_tuple_int | exact kit_tuple_bool | exact kit_tuple_str | exact kit_tuple_list | exact kit_tuple_tuple
  | exact kit_NoneType_int | exact kit_NoneType_bool | exact kit_NoneType_str | exact kit_NoneType_list | exact kit_NoneType_tuple)
local macro_rules | `(tactic| walk_at "isi") => `(tactic| first
  | refine IsI.mk ⟨_, _, .base (.int _), (by walk_at "kit"), ?_⟩
  | refine IsI.mk ⟨_, _, .base (.str _), (by walk_at "kit"), ?_⟩
  | refine IsI.mk ⟨_, _, .base .non, (by walk_at "kit"), ?_⟩
  | refine IsI.mk ⟨_, _, .base (.bl _), (by walk_at "kit"), ?_⟩
  | refine IsI.mk ⟨_, _, .base (.lst (by walk_at "hp")), (by walk_at "kit"), ?_⟩
  | refine IsI.mk ⟨_, _, .base (.tup (by walk_at "hp")), (by walk_at "kit"), ?_⟩)
local macro_rules | `(tactic| walk_at "log") => `(tactic| first | assumption | exact log_of2 (by omega))
set_option hygiene false in
local macro_rules | `(tactic| walk_at "one") => `(tactic| first
  | ((with_reducible show Sq _ _ _ _); first
    | refine sq_l (by assumption) (by walk_at "pull") ?_
    | refine sq_t (by assumption) (by walk_at "pull") ?_
    | refine sq_s (by assumption) (by walk_at "mem") ?_
    | refine sq_i (by assumption) (by walk_at "mem") ?_
    | refine Sq.t (by walk_at "seq") ?_)
  | ((with_reducible show Ls _ _ _); refine ls_o (by assumption) (by walk_at "pull") ?_)
  | ((with_reducible show Fld _ _ _ _ _); first | refine fld_o (by assumption) (by walk_at "pull") (by walk_at "cls") (by walk_at "cls") rfl ?_ | walk_at "fld")
  | ((with_reducible show SetF _ _ _ _ _ _); refine setf_o (by assumption) (by walk_at "pull") (by walk_at "cls") (by walk_at "cls") (by first | decide | exact Nat.le_of_ble_eq_true rfl) (by first | rfl | decide +kernel) (fun HH w => ?_))
  | ((with_reducible show New _ _ _); refine new_o (by assumption) (fun pp HH w => ?_))
  | ((with_reducible show Grow _ _ _ _ _); refine grow_o (by assumption) (by walk_at "pull") rfl (fun HH w => ?_))
  | ((with_reducible show Chk _ _); refine Chk.mk (by walk_at "sd") ?_)
  | ((with_reducible show Br _ _ _); walk_at "br")
  | ((with_reducible show Ask _); walk_at "ask")
  | ((with_reducible show IsI _ _ _ _ _); walk_at "isi")
  | ((with_reducible show At _ _ _); first | refine At.mk ⟨_, rfl, ?_⟩ | walk_at "at")
  | ((with_reducible show LastOf _ _); refine LastOf.mk ⟨_, rfl, ?_⟩)
  | ((with_reducible show SetL _ _ _ _ _); refine setl_o (by assumption) (by walk_at "pull") rfl (fun HH w => ?_))
  | ((with_reducible show UnT _ _ _ _ _); first | refine unt_o (by assumption) (by walk_at "pull") rfl ?_ | refine unt_i (by assumption) (by walk_at "mem") rfl ?_ | refine ⟨_, (by walk_at "seq"), rfl, ?_⟩)
  | ((with_reducible show RaiseR _ _ _ _ _ _); refine raise_o (by assumption) (fun dx HH w => ?_))
  | ((with_reducible show Wr _); refine catch_yes (by walk_at "exm") (fun ea hea => ?_))
  | ((with_reducible show XfG _ _ _ _ _ _ _ _); refine xf_o (by assumption) (by walk_at "pull") rfl ?_)
  | ((with_reducible show IsEG _ _ _ _ _ _ _ _ _); refine isE_o (by assumption) (by walk_at "pull") (by walk_at "kitE") ?_)
  | ((with_reducible show UnU _ _ _ _ _); refine unu_o (by assumption) (by walk_at "pull") rfl ?_)
  | ((with_reducible show SlL _ _ _ _ _ _); first | refine sll_o (by assumption) (by walk_at "pull") (fun pp HH w => ?_) | refine sll_s (by assumption) (by walk_at "mem") (fun pp HH w => ?_))
  | ((with_reducible show Cat _ _ _ _ _); first | refine cat_l (by assumption) (by walk_at "pull") (by walk_at "pull") (by walk_at "sd") (fun pp HH w => ?_) | (refine cat_t (by assumption) (by walk_at "pull") (by walk_at "pull") (List.cons_ne_nil _ _) (List.cons_ne_nil _ _) (by walk_at "sd") (fun pp HH w => ?_); (try simp only [List.cons_append, List.nil_append] at w)))
  | ((with_reducible show SlG _ _ _ _ _ _); first | refine slg_l (by assumption) (by walk_at "pull") (fun pp HH w => ?_) | refine slg_s (by assumption) (by walk_at "mem") (fun pp HH w => ?_) | (refine slg_t (by assumption) (by walk_at "pull") (by show ¬ (HT.sIx 5 0 _ = 0 ∧ HT.sIx 5 5 _ = 5); decide) (fun pp HH w => ?_); (try simp only [cut_a, cut_b, cut_c, cut_d, cut_e, cutM_a, cutM_b, cutM_c, cutM_d, cutM_e] at w)))
  | ((with_reducible show RevR _ _ _ _); refine rev_o (by assumption) (by walk_at "pull") (fun pp HH w => ?_))
  | ((with_reducible show TupR _ _ _ _); first | refine tupr_l (by assumption) (by walk_at "pull") (fun pp HH w => ?_) | refine tupr_t (by assumption) (by walk_at "pull") ?_)
  | ((with_reducible show EqD _ _ _ _ _); apply eqd_mk; (focus (walk_at "dp")); (focus (walk_at "dp")); (focus (walk_at "shp")); (focus (walk_at "shp")))
  | ((with_reducible show RepV _ _ _ _); first
    | refine rep_int (by walk_at "log") ?_
    | refine rep_non ?_
    | refine rep_bl ?_
    | (apply rep_mk; (focus (walk_at "dp")); (focus (walk_at "shw")); (focus (walk_at "shw")); (focus (walk_at "shw")); (focus (walk_at "shw"))))
  | ((with_reducible show ItS _ _ _ _); first | refine its_l (by assumption) (by walk_at "pull") ?_ | refine its_t (by assumption) (by walk_at "pull") ?_ | refine its_s (by assumption) (by walk_at "mem") ?_)
  | ((with_reducible show ItV _ _ _ _); first | refine itv_l (by assumption) (by walk_at "pull") ?_ | refine itv_t (by assumption) (by walk_at "pull") ?_ | refine itv_s (by assumption) (by walk_at "mem") ?_ | refine itv_r (by assumption) (by walk_at "pull") (by walk_at "sd") ?_ | refine itv_k (by walk_at "seq") ?_)
  | ((with_reducible show KD _ _ _ _ _); refine KD.mk ⟨_, by walk_at "kd", ?_⟩)
  | ((with_reducible show CallV _ _ _ _ _ _ _ _); refine callv_mk (by walk_at "held") ?_)
  | ((with_reducible show DGt _ _ _ _); first | refine dgt_i (by assumption) (by walk_at "pull") ?_ | refine dgt_s (by assumption) (by walk_at "pull") ?_ | refine dgt_if (by assumption) (by walk_at "pull") ?_ | refine dgt_sf (by assumption) (by walk_at "pull") ?_ | walk_at "dgt")
  | ((with_reducible show DGv _ _ _ _); first | refine dgv_i (by assumption) (by walk_at "pull") (by walk_at "dv") ?_ | refine dgv_s (by assumption) (by walk_at "pull") (by walk_at "dv") ?_ | refine dgv_if (by assumption) (by walk_at "pull") (by walk_at "dv") ?_ | refine dgv_sf (by assumption) (by walk_at "pull") (by walk_at "dv") ?_ | walk_at "dgv")
  | ((with_reducible show DPt _ _ _ _ _); first | refine dpt_i (by assumption) (by walk_at "pull") (by walk_at "sd") (fun HH w => ?_) | refine dpt_s (by assumption) (by walk_at "pull") (by walk_at "sd") (fun HH w => ?_))
  | ((with_reducible show DDl _ _ _ _); refine ddl_i (by assumption) (by walk_at "pull") (by walk_at "dv") (fun HH w => ?_))
  | ((with_reducible show LenD _ _ _); refine lend_o (by assumption) (by walk_at "pull") ?_)
  | ((with_reducible show DictCp _ _ _); refine dictcp_o (by assumption) (by walk_at "pull") (fun pp HH w => ?_))
  | ((with_reducible show KeysL _ _ _); refine keysl_o (by assumption) (by walk_at "pull") (fun pp HH w => ?_))
  | ((with_reducible show RepL _ _ _ _); refine repl_o (by assumption) (by walk_at "pull") (by walk_at "sd") (fun pp HH w => ?_))
  | ((with_reducible show FldInc _ _ _ _ _ _); refine fldinc_o (by assumption) (by walk_at "pull") (by walk_at "cls") (by walk_at "cls") rfl (by first | decide | exact Nat.le_of_ble_eq_true rfl) (by first | rfl | decide +kernel) (fun HH w => ?_))
  | ((with_reducible show ItD _ _ _ _); refine itd_o (by assumption) (by walk_at "pull") ?_)
  | ((with_reducible show LenSet _ _ _ _); refine lenset_o (by assumption) (by walk_at "pull") (by walk_at "len") ?_)
  | ((with_reducible show DPop _ _ _ _); refine dpop_i (by assumption) (by walk_at "pull") (by walk_at "dv") (fun HH w => ?_))
  | ((with_reducible show DGet2 _ _ _ _ _); refine dget2_i (by assumption) (by walk_at "pull") ?_)
  | ((with_reducible show MakeV _ _ _); refine MakeV.mk rfl ?_)
  | ((with_reducible show CMethR _ _ _); refine CMethR.mk rfl ?_)
  | ((with_reducible show IsDk _ _ _); refine isdk_o (by assumption) (by walk_at "pull") ?_)
  | ((with_reducible show RemI _ _ _ _); refine remi_o (by assumption) (by walk_at "pull") (by walk_at "mem") (fun HH w => ?_))
  | ((with_reducible show CntI _ _ _ _ _); refine cnti_o (by assumption) (by walk_at "pull") ?_)
  | ((with_reducible show LockE _ _ _ _); refine lockE_o (by assumption) (by walk_at "pull") (fun od HH w => ?_))
  | ((with_reducible show UnL _ _ _ _ _); refine unl_o (by assumption) (by walk_at "pull") (fun HH w => ?_))
  | ((with_reducible show ItK _ _ _); refine itk_o (by assumption) (by walk_at "pull") ?_)
  | ((with_reducible show ValsL _ _ _); refine vals_o (by assumption) (by walk_at "pull") (fun pp HH w => ?_))
  | ((with_reducible show DDsp _ _ _ _); refine ddsp_o (by assumption) (by walk_at "pull") rfl (by first | decide | exact Nat.le_of_ble_eq_true rfl) (fun HH w => ?_))
  | ((with_reducible show ItE _ _ _ _); refine ite_l (by assumption) (by walk_at "pull") ?_)
  | ((with_reducible show MaxL _ _ _ _ _); refine maxl_o (by assumption) (by walk_at "pull") (by walk_at "len") ?_)
  | ((with_reducible show AllL _ _ _ _ _); refine alll_o (by assumption) (by walk_at "pull") ?_)
  | ((with_reducible show InD _ _ _ _ _); apply ind_o; (focus (walk_at "dp")); (focus (walk_at "dp")); (focus (walk_at "shp")); (focus (walk_at "shp")))
  | ((with_reducible show MethR _ _ _ _ _); first | refine meth_o (by assumption) (by walk_at "pull") rfl ?_ | walk_at "meth")
  | ((with_reducible show OwnS _ _ _ _ _ _); walk_at "owns")
  | ((with_reducible show NxW _ _ _); refine nxw_mk ?_)
  | ((with_reducible show IsR _ _ _ _ _); refine isr_own (by walk_at "cls") (by walk_at "hp") ?_)
  | ((with_reducible show And _ _); first | refine And.intro (by (with_reducible show wipe _ _ = wipe _ _); (repeat (first | exact wipe_twice | refine (wipe_setN (by decide)).trans ?_)); done) ?_ | refine And.intro (rfl : wipe _ _ = wipe _ _) ?_ | refine And.intro (Or.inl ⟨rfl, _, SqL.of (by walk_at "hp")⟩) ?_)
  | ((with_reducible show Exists _); refine Exists.intro _ (And.intro rfl ?_))
  | ((with_reducible show Exists _); refine Exists.intro _ (Exists.intro _ (And.intro rfl (And.intro (Or.inr (SqL.of (by walk_at "hp"))) ?_))))
  | ((with_reducible show Exists _); refine Exists.intro _ (Exists.intro _ (And.intro rfl (And.intro (Or.inl (SqT.of (by walk_at "hp"))) ?_))))
  | ((with_reducible show Acc _ _ _ _); refine acc_a (by assumption) (by walk_at "pull") (by walk_at "sd") (fun HH w => ?_)))
local macro_rules | `(tactic| walk_at "go") => `(tactic| ((repeat ((try (conv => whnf)); walk_at "one")); (try (conv => whnf))))
set_option Elab.async false
set_option linter.all false
set_option maxRecDepth 100000
set_option maxHeartbeats 2000000
namespace L2
open PySem PySem.Spec PyProof.Rows
end L2
namespace OW
open PySem PySem.Spec PyProof.Rows L2 RZ SkE CL
theorem ints_inv {H : Hp} : ∀ {zs : List Int} {xs : List V}, IDpAll H xs (zs.map PyData.int) → xs = zs.map V.int
  | [], xs, h => by cases h; rfl
  | z :: zs, xs, h => by
    cases h with
    | cons a g => cases a; rw [ints_inv g]; rfl
end OW
set_option Elab.async false
set_option linter.all false
set_option maxRecDepth 100000
set_option maxHeartbeats 2000000
namespace OW
open PySem PySem.Spec PyProof.Rows L2 RZ SkE CL
/-- the signs of a text, walked -/
structure ItS (v : V) (H : Hp) (R : It → Hp → Prop) : Prop where
  ex : ∃ x, v = .str x ∧ R (Its x) H
end OW
set_option Elab.async false
set_option linter.all false
set_option maxRecDepth 100000
set_option maxHeartbeats 2000000
namespace OW
open PySem PySem.Spec PyProof.Rows L2 RZ SkE CL
/-- texts of plain signs -/
def AsZ (z : Str) : Prop := ∀ c ∈ TL.tl z, c < 128
theorem AsZ.app {a b : Str} (h : AsZ a) (g : AsZ b) : AsZ (a ++ b) := fun c m => by
  rw [TL.tl_append] at m
  exact (List.mem_append.mp m).elim (h c) (g c)
theorem AsZ.ok {z : Str} (h : AsZ z) : PyData.strOk z = true := by
  unfold PyData.strOk
  rw [← Array.all_toList, List.all_eq_true]
  exact fun c m => decide_eq_true (Nat.lt_trans (h c m) (by decide))
end OW
set_option Elab.async false
set_option linter.all false
set_option maxRecDepth 100000
set_option maxHeartbeats 2000000
namespace OW
open PySem PySem.Spec PyProof.Rows L2 RZ SkE CL
end OW
set_option Elab.async false
set_option linter.all false
set_option maxRecDepth 100000
set_option maxHeartbeats 2000000
namespace OW
open PySem PySem.Spec PyProof.Rows L2 RZ SkE CL
end OW
set_option Elab.async false
set_option linter.all false
set_option maxRecDepth 100000
set_option maxHeartbeats 2000000
namespace OW
open PySem PySem.Spec PyProof.Rows L2 RZ SkE CL
end OW
set_option Elab.async false
set_option linter.all false
set_option maxRecDepth 100000
set_option maxHeartbeats 2000000
namespace PySem.SeqAt
open MeetsSeq MeetsSeq2 MeetsSeq3 SeqRoads2
end PySem.SeqAt
namespace OW
open PySem PySem.Spec PyProof.Rows L2 RZ SkE CL
end OW
set_option Elab.async false
set_option linter.all false
set_option maxRecDepth 100000
set_option maxHeartbeats 2000000
namespace L2
open PySem PySem.Spec PyProof.Rows
variable {X : Cx}
/-- a tuple whose record is known: it has no own fields -/
def FzT (H : Hp) (a : Addr) (xs : List V) : Prop := ∃ o, H a = some (.frz o (.tup xs)) ∧ o.dict = none
theorem FzT.sq {K : PySem.W.Frag} {H : Hp} {a : Addr} {xs : List V} (h : FzT H a xs) : SqT K H a xs := let ⟨o, e, _⟩ := h; .inl (.inr ⟨o, e⟩)
end L2
namespace OW
open PySem PySem.Spec PyProof.Rows L2 RZ SkE CL
end OW
set_option Elab.async false
set_option linter.all false
set_option maxRecDepth 100000
set_option maxHeartbeats 2000000
namespace PySem.SeqAt
open MeetsSeq MeetsSeq2 MeetsSeq3 SeqRoads2
/-- a list of n items: the one at j is x by its own __eq__, none ahead of it is -/
structure HitL (prog : Program) (w : World) (A : Around) (P : Shared → Prop) (l : Addr) (x : Value) (n j : Nat) (s : Shared) : Prop where
  ex : ∃ (its : Array Value) (n1 : Nat) (d1 : Option Addr) (s1 : Array (Option Value)), s.heap.get? l = some { cls := .type "list", dict := d1, data := .seq its n1, slots := s1 } ∧ its.size = n ∧ j < n ∧
    ∀ m (h1 : m < its.size) (E : Value → Shared → Prop) (Q : Bool → Shared → Prop), m ≤ j → (∀ s', P s' → Q (decide (m = j)) s') → wpAny (model prog w) A.in1 (eqBool its[m] x) Q E s
section
variable {prog : Program} {w : World} {P : Shared → Prop} {A0 : Around} {l : Addr} {x : Value} {n j : Nat}
theorem ix_loopW (same : ∀ s, P s → HitL prog w A0 P l x n j s) (upto : Int) (hu : (j : Int) < upto) (k : Nat) : ∀ i : Nat, j - i = k → i ≤ j → MeetsIn prog w (Builtin.«list.index.loop» ⟨[.ref l, x, rawInt i, rawInt upto], []⟩) (fun A R s => A = A0 ∧ P s ∧ ∀ s', P s' → R (.ok (.ret (.int j s'.toks))) { s' with toks := s'.toks + 1 }) := by
  induction k with
  | zero =>
    intro i hk hij A R s h
    obtain ⟨rfl, hP, h⟩ := h
    obtain ⟨its, n1, d1, s1, hl, z1, z2, he⟩ := (same s hP).ex
    have e : i = j := by omega
    subst e
    obtain ⟨hp, g, d, tk, os⟩ := s
    wp_walk using _root_.PySem.AutoSeq1.wpAny_loadPart' hl
    have l1 : i < its.size := by omega
    have hi : (if (i : Int) < upto then its[((i : Nat) : Int).toNat]? else none) = some its[i] := by simp [hu, l1]
    rw [hi]
    refine wpAny_bind (he i l1 _ _ (Nat.le_refl _) (fun s' hP' => ?_))
    obtain ⟨hp', g', d', tk', os'⟩ := s'
    rw [decide_eq_true rfl]
    wp_walk
    exact h _ hP'
  | succ k ih =>
    intro i hk hij A R s h
    obtain ⟨rfl, hP, h⟩ := h
    obtain ⟨its, n1, d1, s1, hl, z1, z2, he⟩ := (same s hP).ex
    obtain ⟨hp, g, d, tk, os⟩ := s
    wp_walk using _root_.PySem.AutoSeq1.wpAny_loadPart' hl
    have l1 : i < its.size := by omega
    have hst : (i : Int) < upto := by omega
    have hi : (if (i : Int) < upto then its[((i : Nat) : Int).toNat]? else none) = some its[i] := by simp [hst, l1]
    rw [hi]
    refine wpAny_bind (he i l1 _ _ (by omega) (fun s' hP' => ?_))
    obtain ⟨hp', g', d', tk', os'⟩ := s'
    rw [decide_eq_false (show ¬ i = j by omega)]
    wp_walk
    rw [show ((i : Int) + 1) = ((i + 1 : Nat) : Int) from by push_cast; rfl]
    exact ⟨plainId_quiet plain_index_loop _, codeAny_builtin entry_index_loop (by
      rw [Around.under_plainId plain_index_loop _]
      exact ih (i + 1) (by omega) (by omega) A R _ ⟨rfl, hP', h⟩)⟩
theorem list_ixW (hj : (j : Int) < 2 ^ 63 - 1) (same : ∀ s, P s → HitL prog w A0 P l x n j s) : MeetsIn prog w (Builtin.«list.index» ⟨[.ref l, x], []⟩) (fun A R s => A = A0 ∧ P s ∧ ∀ s', P s' → R (.ok (.ret (.int j s'.toks))) { s' with toks := s'.toks + 1 }) := by
  intro A R s h
  obtain ⟨rfl, hP, h⟩ := h
  obtain ⟨its, n1, d1, s1, hl, z1, z2, he⟩ := (same s hP).ex
  obtain ⟨hp, g, d, tk, os⟩ := s
  wp_walk using _root_.PySem.AutoSeq1.wpAny_loadPart' hl
  have a1 : ((fun i : Int => if i < 0 then max 0 (i + (its.size : Int)) else i) ((none : Option Int).getD 0)) = ((0 : Nat) : Int) := by simp
  have a2 : ((fun i : Int => if i < 0 then max 0 (i + (its.size : Int)) else i) ((none : Option Int).getD (2 ^ 63 - 1))) = 2 ^ 63 - 1 := by simp
  rw [a1, a2]
  exact ⟨plainId_quiet plain_index_loop _, codeAny_builtin entry_index_loop (by
    rw [Around.under_plainId plain_index_loop _]
    exact ix_loopW same _ hj _ 0 rfl (Nat.zero_le _) A R _ ⟨rfl, hP, h⟩)⟩
end
end PySem.SeqAt
namespace OW
open PySem PySem.Spec PyProof.Rows L2 RZ SkE CL
/-- an instance whose own == with q answers bv wherever PH holds -/
def IxPair (K : PySem.W.Frag) (C : Addr) (sp : Sp) (PH : Hp → Prop) (x : V) (q : Addr) (bv : Bool) : Prop := ∃ p, x = .ref p ∧ (p = q → bv = true) ∧ ∀ H, PH H → ∃ dx fs t, H p = some (.ins C dx fs) ∧ TyX K H (.ref q) t ∧ PySem.W.notFirst K C t = true ∧ sp [.ref p, .ref q] H (fun v H' => v = .bl bv ∧ PH H') E0
structure IxO (K : PySem.W.Frag) (C : Addr) (sp : Sp) (H : Hp) (a : Addr) (y : V) (Q : Nat → Hp → Prop) : Prop where
  ex : ∃ (xs : List V) (j : Nat) (q : Addr) (PH : Hp → Prop), y = .ref q ∧ PH H ∧ j < xs.length ∧ (∀ H', PH H' → H' a = some (.lst xs)) ∧ (∀ (m : Nat) (x : V), xs[m]? = some x → m ≤ j → IxPair K C sp PH x q (decide (m = j))) ∧ ∀ H', PH H' → Q j H'
def rIxO (K : PySem.W.Frag) (C : Addr) (sp : Sp) : V → List V → Hp → VK → Prop := fun x xs H Q => match x, xs with
  | .ref a, [y] => IxO K C sp H a y fun j H' => Q (.int (j : Nat)) H'
  | _, _ => False
section
variable {X : Cx} {n : Nat} {f C : Addr} {fd : FuncData} {ps : List Str} {sp : Sp}
theorem eq_in2 {pins : List (Addr × Obj)} {σ : L2.St} {H : Hp} {s : Shared} {p q dx : Addr} {fs : List (Str × V)} {t : Value} {PH : Hp → Prop} {bv : Bool} {E Q : Value → Shared → Prop} (F : FnOk X.prog X.w X.K X.mg X.base CX0 n f fd ps sp) (hb : Binds X.K fd ps []) (room : Room (n + 1) X.A)
    (hs : PySem.W.findIn X.K (.ref C) "__eq__" = some (some (.ref f))) (hf : PySem.W.isFn X.K (.ref f) = true) (I : Inv X pins σ H s) (h1 : H p = some (.ins C dx fs)) (h2 : TyX X.K H (.ref q) t) (h3 : PySem.W.notFirst X.K C t = true)
    (h4 : sp [.ref p, .ref q] H (fun v H' => v = .bl bv ∧ PH H') E0) (k : ∀ H' s', Inv X pins σ H' s' → PH H' → Q (.bool bv) s') : wpAny (model X.prog X.w) X.A.in1 (richCompare .Eq (.ref p) (.ref q)) Q E s := by
  obtain ⟨od, J⟩ := inst_at I h1
  obtain ⟨m, hF⟩ := I.fr
  obtain ⟨Pk, Z, hP, _⟩ := kit_of I (show RelV (.ref q) (.ref q) from rfl) h2
  have r1 := room.in1
  refine PySem.W.cmp_K (op := .Eq) (tb := t) r1.units0 hF I.ok.mod.kin J (Z.ty _ _ I.kIn hP) h3 hs hf ?_
  have e := I.env0
  have e1 : Env0 X.prog X.w X.K X.mg X.base X.A.in1 X.stack s H := ⟨e.frames, e.mod, e.bs, e.bsz, e.funs, e.frf, e.hok, e.bare⟩
  have vals : Vals [V.ref p, .ref q] [Value.ref p, .ref q] := .cons rfl (.cons rfl .nil)
  have hl : ([Value.ref p, .ref q] ++ []).length = ps.length := by
    rw [List.append_nil, ← vals.length]
    exact F.len _ _ _ _ h4
  have b1 := hb s [.ref p, .ref q] I.kIn hl
  rw [List.append_nil] at b1
  refine wpAny_call (codeAny_mono (F.run X.A.in1 X.stack s H ⟨[.ref p, .ref q], []⟩ [.ref p, .ref q] [.ref p, .ref q] _ E0 r1 e1 b1 vals h4) fun res s' hq => ?_)
  match res, hq with
  | .error er, hq => exact hq.elim
  | .ok (.ret u), hq =>
    obtain ⟨v, H', I', rv, ev, ph⟩ := I.after hq
    subst ev
    obtain rfl : u = .bool bv := rv
    exact k H' s' I' ph
  | .ok .next, hq => exact hq.elim
  | .ok .brk, hq => exact hq.elim
  | .ok .cont, hq => exact hq.elim
theorem m_indexO (F : FnOk X.prog X.w X.K X.mg X.base CX0 n f fd ps sp) (hb : Binds X.K fd ps []) (room : Room (n + 1) X.A)
    (hs : PySem.W.findIn X.K (.ref C) "__eq__" = some (some (.ref f))) (hf : PySem.W.isFn X.K (.ref f) = true) : L2.MtR X "list.index" (rIxO X.K C sp) := by
  intro pins s σ H x xs v us Q I rx rs h
  unfold rIxO at h
  split at h
  · obtain ⟨ys, j, q, PH, rfl, ph, jl, at_, same, k⟩ := h.ex
    cases rx
    cases rs with
    | cons ry rt =>
    rename_i uy ut
    cases rt
    obtain rfl : uy = Value.ref q := ry
    obtain ⟨_, its0, n0, r0, e0, o0⟩ := I.lstM (at_ H ph)
    have jb : (j : Int) < 2 ^ 63 - 1 := by
      have hsl := sizeLine_eq
      have := I.list (SqL.of (at_ H ph))
      obtain ⟨its, rv, hh, hlen⟩ := this
      have hvl := rv.length
      omega
    refine call_meetsIn PySem.F.slot_list_index ⟨_, o0, rfl⟩ PySem.F.entry_list_index (PySem.F.args_list_index_2 _ _)
      (PySem.SeqAt.list_ixW (P := fun s' => ∃ H', Inv X pins σ H' s' ∧ PH H') (n := ys.length) (j := j) (A0 := X.A) jb ?_) ⟨rfl, ⟨H, I, ph⟩, fun s' hP => ?_⟩
    · rintro s' ⟨H', I', ph'⟩
      obtain ⟨_, its, n1, r1, e1, o1⟩ := I'.lstM (at_ H' ph')
      refine ⟨its.toArray, n1, none, #[], o1, by simpa using e1.symm, jl, fun m h1 E2 Q2 mj k2 => ?_⟩
      have g1 : m < its.length := by simpa using h1
      have lx : m < ys.length := by omega
      obtain ⟨u1, w1, q1⟩ := r1.get (List.getElem?_eq_getElem lx)
      have z1 : its.toArray[m] = u1 := by
        have := (List.getElem?_eq_some_iff.mp w1).2
        simpa using this
      rw [z1]
      obtain ⟨p, ex, pq, hp⟩ := same m _ (List.getElem?_eq_getElem lx) mj
      rw [ex] at q1
      obtain rfl : u1 = .ref p := q1
      by_cases hpq : p = q
      · subst hpq
        unfold eqBool
        refine wpAny_holding (wpAny_ite_split (fun _ => ?_) (fun no => absurd (by simp) no))
        have := k2 s' ⟨H', I', ph'⟩
        rw [pq rfl] at this
        exact wpAny_bind (wpAny_rule (wpAny_pure this))
      · obtain ⟨dx, fs, t, m1, m2, m3, m4⟩ := hp H' ph'
        unfold eqBool
        refine wpAny_holding (wpAny_ite_split (fun hab => absurd (by have := eq_of_beq hab; injection this) hpq) (fun _ => ?_))
        exact wpAny_bind (eq_in2 F hb room hs hf I' m1 m2 m3 m4 (fun H2 s2 I2 ph2 => wpAny_truthy_bool (k2 s2 ⟨H2, I2, ph2⟩)))
    · obtain ⟨H', I', ph'⟩ := hP
      exact ⟨.int (j : Nat), H', I'.tok _, ⟨_, rfl⟩, k H' ph'⟩
  · exact h.elim
end
end OW
set_option Elab.async false
set_option linter.all false
set_option maxRecDepth 100000
set_option maxHeartbeats 800000
namespace My
open PySem PySem.Spec PyProof.Rows L2 RZ SkE CL OW
def topS (i : Nat) : Stmt := PySem.Challenge.pw_lapseseats_k71_whole_rules_beat_one_anot.main.body.getD i (.Pass ⟨0, 0, 0, 0⟩)
abbrev s_is_integer_from : Stmt := topS 2
theorem sc_is_integer_from : FnScope ["value", "least"] ["value", "least"] (defScope s_is_integer_from) := ⟨rfl, rfl, rfl, by decide +kernel, rfl, by decide +kernel, by decide +kernel⟩
abbrev s_most_at_one_seat : Stmt := topS 11
theorem sc_most_at_one_seat : FnScope ["rule"] ["rule"] (defScope s_most_at_one_seat) := ⟨rfl, rfl, rfl, by decide +kernel, rfl, by decide +kernel, by decide +kernel⟩
abbrev s_can_share : Stmt := topS 12
theorem sc_can_share : FnScope ["rule"] ["rule"] (defScope s_can_share) := ⟨rfl, rfl, rfl, by decide +kernel, rfl, by decide +kernel, by decide +kernel⟩
abbrev s_can_be_silent : Stmt := topS 13
theorem sc_can_be_silent : FnScope ["rule"] ["rule"] (defScope s_can_be_silent) := ⟨rfl, rfl, rfl, by decide +kernel, rfl, by decide +kernel, by decide +kernel⟩
abbrev s_most_of_all : Stmt := topS 14
theorem sc_most_of_all : FnScope ["rule"] ["rule"] (defScope s_most_of_all) := ⟨rfl, rfl, rfl, by decide +kernel, rfl, by decide +kernel, by decide +kernel⟩
abbrev s_most : Stmt := topS 15
theorem sc_most : FnScope ["rule", "users"] ["rule", "users"] (defScope s_most) := ⟨rfl, rfl, rfl, by decide +kernel, rfl, by decide +kernel, by decide +kernel⟩
abbrev s_silent_borrow : Stmt := topS 16
theorem sc_silent_borrow : FnScope ["rule"] ["rule"] (defScope s_silent_borrow) := ⟨rfl, rfl, rfl, by decide +kernel, rfl, by decide +kernel, by decide +kernel⟩
abbrev s_over_plan : Stmt := topS 17
theorem sc_over_plan : FnScope ["rule", "users", "others", "user"] ["rule", "users"] (defScope s_over_plan) := ⟨rfl, rfl, rfl, by decide +kernel, rfl, by decide +kernel, by decide +kernel⟩
abbrev s_taken_plan : Stmt := topS 18
theorem sc_taken_plan : FnScope ["rule", "users"] ["rule", "users"] (defScope s_taken_plan) := ⟨rfl, rfl, rfl, by decide +kernel, rfl, by decide +kernel, by decide +kernel⟩
abbrev s_twice_plan : Stmt := topS 19
theorem sc_twice_plan : FnScope ["rule", "users"] ["rule", "users"] (defScope s_twice_plan) := ⟨rfl, rfl, rfl, by decide +kernel, rfl, by decide +kernel, by decide +kernel⟩
abbrev s_waits_plan : Stmt := topS 20
theorem sc_waits_plan : FnScope ["rule", "users", "borrows", "user"] ["rule", "users"] (defScope s_waits_plan) := ⟨rfl, rfl, rfl, by decide +kernel, rfl, by decide +kernel, by decide +kernel⟩
abbrev s_plan : Stmt := topS 22
theorem sc_plan : FnScope ["rule", "users", "fault", "make"] ["rule", "users", "fault"] (defScope s_plan) := ⟨rfl, rfl, rfl, by decide +kernel, rfl, by decide +kernel, by decide +kernel⟩
abbrev s_happens : Stmt := topS 23
theorem sc_happens : FnScope ["rule", "users", "fault"] ["rule", "users", "fault"] (defScope s_happens) := ⟨rfl, rfl, rfl, by decide +kernel, rfl, by decide +kernel, by decide +kernel⟩
abbrev s_longest_kept : Stmt := topS 24
theorem sc_longest_kept : FnScope ["rule"] ["rule"] (defScope s_longest_kept) := ⟨rfl, rfl, rfl, by decide +kernel, rfl, by decide +kernel, by decide +kernel⟩
abbrev s_no_more : Stmt := topS 26
theorem sc_no_more : FnScope ["p", "q"] ["p", "q"] (defScope s_no_more) := ⟨rfl, rfl, rfl, by decide +kernel, rfl, by decide +kernel, by decide +kernel⟩
abbrev s_drawbacks : Stmt := topS 27
theorem sc_drawbacks : FnScope ["rule", "beyond"] ["rule"] (defScope s_drawbacks) := ⟨rfl, rfl, rfl, by decide +kernel, rfl, by decide +kernel, by decide +kernel⟩
abbrev s_is_better : Stmt := topS 28
theorem sc_is_better : FnScope ["own", "other", "mine", "its"] ["own", "other"] (defScope s_is_better) := ⟨rfl, rfl, rfl, by decide +kernel, rfl, by decide +kernel, by decide +kernel⟩
abbrev s_beats : Stmt := topS 29
theorem sc_beats : FnScope ["p", "q"] ["p", "q"] (defScope s_beats) := ⟨rfl, rfl, rfl, by decide +kernel, rfl, by decide +kernel, by decide +kernel⟩
abbrev s_best_of : Stmt := topS 30
theorem sc_best_of : FnScope ["rules", "found", "rule", "at", "own", "other"] ["rules"] (defScope s_best_of) := ⟨rfl, rfl, rfl, by decide +kernel, rfl, by decide +kernel, by decide +kernel⟩
abbrev s_is_number_for : Stmt := topS 35
theorem sc_is_number_for : FnScope ["word", "number", "least"] ["word", "number"] (defScope s_is_number_for) := ⟨rfl, rfl, rfl, by decide +kernel, rfl, by decide +kernel, by decide +kernel⟩
abbrev s_Rule_init : Stmt := inClass (topS 38) 0
theorem sc_Rule_init : FnScope ["self", "seats", "lapse", "beat", "grace", "late", "word", "number"] ["self", "seats", "lapse", "beat", "grace", "late"] (defScope s_Rule_init) := ⟨rfl, rfl, rfl, by decide +kernel, rfl, by decide +kernel, by decide +kernel⟩
abbrev s_Rule_eq : Stmt := inClass (topS 38) 3
theorem sc_Rule_eq : FnScope ["self", "other"] ["self", "other"] (defScope s_Rule_eq) := ⟨rfl, rfl, rfl, by decide +kernel, rfl, by decide +kernel, by decide +kernel⟩
abbrev s_Rule_str : Stmt := inClass (topS 38) 4
theorem sc_Rule_str : FnScope ["self"] ["self"] (defScope s_Rule_str) := ⟨rfl, rfl, rfl, by decide +kernel, rfl, by decide +kernel, by decide +kernel⟩
abbrev s_l_box : Stmt := topS 40
theorem sc_l_box : FnScope ["_law_script", "_law_k", "_law_own", "_law_cell", "_law_seed", "_law_one"] ["_law_script", "_law_k", "_law_own"] (defScope s_l_box) := ⟨rfl, rfl, rfl, by decide +kernel, rfl, by decide +kernel, by decide +kernel⟩
abbrev s_l_take : Stmt := topS 41
theorem sc_l_take : FnScope ["_law_box_here", "_law_limit", "_law_digit"] ["_law_box_here", "_law_limit"] (defScope s_l_take) := ⟨rfl, rfl, rfl, by decide +kernel, rfl, by decide +kernel, by decide +kernel⟩
abbrev s_l_pick : Stmt := topS 42
theorem sc_l_pick : FnScope ["_law_box_here", "_law_some"] ["_law_box_here", "_law_some"] (defScope s_l_pick) := ⟨rfl, rfl, rfl, by decide +kernel, rfl, by decide +kernel, by decide +kernel⟩
abbrev s_l_numbers : Stmt := topS 43
theorem sc_l_numbers : FnScope ["_law_box_here", "_law_some", "_law_turn"] ["_law_box_here"] (defScope s_l_numbers) := ⟨rfl, rfl, rfl, by decide +kernel, rfl, by decide +kernel, by decide +kernel⟩
abbrev s_l_ruled : Stmt := topS 44
theorem sc_l_ruled : FnScope ["_law_given"] ["_law_given"] (defScope s_l_ruled) := ⟨rfl, rfl, rfl, by decide +kernel, rfl, by decide +kernel, by decide +kernel⟩
abbrev s_l_near : Stmt := topS 45
theorem sc_l_near : FnScope ["_law_box_here", "_law_given", "_law_found", "_law_at"] ["_law_box_here", "_law_given"] (defScope s_l_near) := ⟨rfl, rfl, rfl, by decide +kernel, rfl, by decide +kernel, by decide +kernel⟩
abbrev s_l_pair_right : Stmt := topS 46
theorem sc_l_pair_right : FnScope ["_law_p", "_law_q", "_law_once", "_law_users"] ["_law_p", "_law_q"] (defScope s_l_pair_right) := ⟨rfl, rfl, rfl, by decide +kernel, rfl, by decide +kernel, by decide +kernel⟩
abbrev s_law : Stmt := topS 47
theorem sc_law : FnScope ["_law_script", "_law_k", "_law_box_here", "_law_some", "_law_more", "_law_made", "_law_best", "_law_beaten", "_law_p", "_law_q", "_law_half", "_law_given", "_law_at", "_law_one", "_law_r"] ["_law_script"] (defScope s_law) := ⟨rfl, rfl, rfl, by decide +kernel, rfl, by decide +kernel, by decide +kernel⟩
structure Tx (W0 : World) (K : PySem.W.Frag) (mg : Str → Option Value) where
  range : mg "range" = none
  max : mg "max" = none
  min : mg "min" = none
  sorted : mg "sorted" = none
  len : mg "len" = none
  list : mg "list" = none
  str : mg "str" = none
  int : mg "int" = none
  abs : mg "abs" = none
  tuple : mg "tuple" = none
  enumerate : mg "enumerate" = none
  any : mg "any" = none
  all : mg "all" = none
  zip : mg "zip" = none
  isinstance : mg "isinstance" = none
  bool : mg "bool" = none
  C_Rule : Addr
  c_Rule : ClsT K mg C_Rule "Rule"
  na_Rule_seats : NoAttr K C_Rule "seats"
  na_Rule_lapse : NoAttr K C_Rule "lapse"
  na_Rule_beat : NoAttr K C_Rule "beat"
  na_Rule_grace : NoAttr K C_Rule "grace"
  na_Rule_late : NoAttr K C_Rule "late"
  f_is_integer_from : Addr
  d_is_integer_from : FuncData
  F_is_integer_from : Fun K "is_integer_from" "is_integer_from" s_is_integer_from f_is_integer_from d_is_integer_from
  b_is_integer_from : Binds K d_is_integer_from ["value", "least"] []
  g_is_integer_from : mg "is_integer_from" = some (.ref f_is_integer_from)
  f_most_at_one_seat : Addr
  d_most_at_one_seat : FuncData
  F_most_at_one_seat : Fun K "most_at_one_seat" "most_at_one_seat" s_most_at_one_seat f_most_at_one_seat d_most_at_one_seat
  b_most_at_one_seat : Binds K d_most_at_one_seat ["rule"] []
  g_most_at_one_seat : mg "most_at_one_seat" = some (.ref f_most_at_one_seat)
  f_can_share : Addr
  d_can_share : FuncData
  F_can_share : Fun K "can_share" "can_share" s_can_share f_can_share d_can_share
  b_can_share : Binds K d_can_share ["rule"] []
  g_can_share : mg "can_share" = some (.ref f_can_share)
  f_can_be_silent : Addr
  d_can_be_silent : FuncData
  F_can_be_silent : Fun K "can_be_silent" "can_be_silent" s_can_be_silent f_can_be_silent d_can_be_silent
  b_can_be_silent : Binds K d_can_be_silent ["rule"] []
  g_can_be_silent : mg "can_be_silent" = some (.ref f_can_be_silent)
  f_most_of_all : Addr
  d_most_of_all : FuncData
  F_most_of_all : Fun K "most_of_all" "most_of_all" s_most_of_all f_most_of_all d_most_of_all
  b_most_of_all : Binds K d_most_of_all ["rule"] []
  g_most_of_all : mg "most_of_all" = some (.ref f_most_of_all)
  f_most : Addr
  d_most : FuncData
  F_most : Fun K "most" "most" s_most f_most d_most
  b_most : Binds K d_most ["rule", "users"] []
  g_most : mg "most" = some (.ref f_most)
  f_silent_borrow : Addr
  d_silent_borrow : FuncData
  F_silent_borrow : Fun K "silent_borrow" "silent_borrow" s_silent_borrow f_silent_borrow d_silent_borrow
  b_silent_borrow : Binds K d_silent_borrow ["rule"] []
  g_silent_borrow : mg "silent_borrow" = some (.ref f_silent_borrow)
  f_over_plan : Addr
  d_over_plan : FuncData
  F_over_plan : Fun K "over_plan" "over_plan" s_over_plan f_over_plan d_over_plan
  b_over_plan : Binds K d_over_plan ["rule", "users"] []
  g_over_plan : mg "over_plan" = some (.ref f_over_plan)
  f_taken_plan : Addr
  d_taken_plan : FuncData
  F_taken_plan : Fun K "taken_plan" "taken_plan" s_taken_plan f_taken_plan d_taken_plan
  b_taken_plan : Binds K d_taken_plan ["rule", "users"] []
  g_taken_plan : mg "taken_plan" = some (.ref f_taken_plan)
  f_twice_plan : Addr
  d_twice_plan : FuncData
  F_twice_plan : Fun K "twice_plan" "twice_plan" s_twice_plan f_twice_plan d_twice_plan
  b_twice_plan : Binds K d_twice_plan ["rule", "users"] []
  g_twice_plan : mg "twice_plan" = some (.ref f_twice_plan)
  f_waits_plan : Addr
  d_waits_plan : FuncData
  F_waits_plan : Fun K "waits_plan" "waits_plan" s_waits_plan f_waits_plan d_waits_plan
  b_waits_plan : Binds K d_waits_plan ["rule", "users"] []
  g_waits_plan : mg "waits_plan" = some (.ref f_waits_plan)
  f_plan : Addr
  d_plan : FuncData
  F_plan : Fun K "plan" "plan" s_plan f_plan d_plan
  b_plan : Binds K d_plan ["rule", "users", "fault"] []
  g_plan : mg "plan" = some (.ref f_plan)
  f_happens : Addr
  d_happens : FuncData
  F_happens : Fun K "happens" "happens" s_happens f_happens d_happens
  b_happens : Binds K d_happens ["rule", "users", "fault"] []
  g_happens : mg "happens" = some (.ref f_happens)
  f_longest_kept : Addr
  d_longest_kept : FuncData
  F_longest_kept : Fun K "longest_kept" "longest_kept" s_longest_kept f_longest_kept d_longest_kept
  b_longest_kept : Binds K d_longest_kept ["rule"] []
  g_longest_kept : mg "longest_kept" = some (.ref f_longest_kept)
  f_no_more : Addr
  d_no_more : FuncData
  F_no_more : Fun K "no_more" "no_more" s_no_more f_no_more d_no_more
  b_no_more : Binds K d_no_more ["p", "q"] []
  g_no_more : mg "no_more" = some (.ref f_no_more)
  f_drawbacks : Addr
  d_drawbacks : FuncData
  F_drawbacks : Fun K "drawbacks" "drawbacks" s_drawbacks f_drawbacks d_drawbacks
  b_drawbacks : Binds K d_drawbacks ["rule"] []
  g_drawbacks : mg "drawbacks" = some (.ref f_drawbacks)
  f_is_better : Addr
  d_is_better : FuncData
  F_is_better : Fun K "is_better" "is_better" s_is_better f_is_better d_is_better
  b_is_better : Binds K d_is_better ["own", "other"] []
  g_is_better : mg "is_better" = some (.ref f_is_better)
  f_beats : Addr
  d_beats : FuncData
  F_beats : Fun K "beats" "beats" s_beats f_beats d_beats
  b_beats : Binds K d_beats ["p", "q"] []
  g_beats : mg "beats" = some (.ref f_beats)
  f_best_of : Addr
  d_best_of : FuncData
  F_best_of : Fun K "best_of" "best_of" s_best_of f_best_of d_best_of
  b_best_of : Binds K d_best_of ["rules"] []
  g_best_of : mg "best_of" = some (.ref f_best_of)
  f_is_number_for : Addr
  d_is_number_for : FuncData
  F_is_number_for : Fun K "is_number_for" "is_number_for" s_is_number_for f_is_number_for d_is_number_for
  b_is_number_for : Binds K d_is_number_for ["word", "number"] []
  g_is_number_for : mg "is_number_for" = some (.ref f_is_number_for)
  f_Rule_init : Addr
  d_Rule_init : FuncData
  F_Rule_init : FunD K "__init__" "Rule.__init__" (defArgs s_Rule_init) (defBody s_Rule_init) (defScope s_Rule_init) [.int 0] [] f_Rule_init d_Rule_init
  b_Rule_init : Binds K d_Rule_init ["self", "seats", "lapse", "beat", "grace", "late"] []
  bd_Rule_init : ∃ ds, Vals [.int 0] ds ∧ Binds K d_Rule_init ["self", "seats", "lapse", "beat", "grace", "late"] ds
  mk_Rule : Mk K C_Rule f_Rule_init
  f_Rule_eq : Addr
  d_Rule_eq : FuncData
  F_Rule_eq : Fun K "__eq__" "Rule.__eq__" s_Rule_eq f_Rule_eq d_Rule_eq
  b_Rule_eq : Binds K d_Rule_eq ["self", "other"] []
  i_Rule_eq : PySem.W.findIn K (.ref C_Rule) "__eq__" = some (some (.ref f_Rule_eq))
  j_Rule_eq : PySem.W.isFn K (.ref f_Rule_eq) = true
  i_Rule_ne : PySem.W.findIn K (.ref C_Rule) "__ne__" = some (some (.builtin "object.__ne__"))
  f_Rule_str : Addr
  d_Rule_str : FuncData
  F_Rule_str : Fun K "__str__" "Rule.__str__" s_Rule_str f_Rule_str d_Rule_str
  b_Rule_str : Binds K d_Rule_str ["self"] []
  i_Rule_str : PySem.W.findIn K (.ref C_Rule) "__str__" = some (some (.ref f_Rule_str))
  j_Rule_str : PySem.W.isFn K (.ref f_Rule_str) = true
  f_l_box : Addr
  d_l_box : FuncData
  F_l_box : Fun K "_law_box" "_law_box" s_l_box f_l_box d_l_box
  b_l_box : Binds K d_l_box ["_law_script", "_law_k", "_law_own"] []
  g_l_box : mg "_law_box" = some (.ref f_l_box)
  f_l_take : Addr
  d_l_take : FuncData
  F_l_take : Fun K "_law_take" "_law_take" s_l_take f_l_take d_l_take
  b_l_take : Binds K d_l_take ["_law_box_here", "_law_limit"] []
  g_l_take : mg "_law_take" = some (.ref f_l_take)
  f_l_pick : Addr
  d_l_pick : FuncData
  F_l_pick : Fun K "_law_pick" "_law_pick" s_l_pick f_l_pick d_l_pick
  b_l_pick : Binds K d_l_pick ["_law_box_here", "_law_some"] []
  g_l_pick : mg "_law_pick" = some (.ref f_l_pick)
  f_l_numbers : Addr
  d_l_numbers : FuncData
  F_l_numbers : Fun K "_law_numbers" "_law_numbers" s_l_numbers f_l_numbers d_l_numbers
  b_l_numbers : Binds K d_l_numbers ["_law_box_here"] []
  g_l_numbers : mg "_law_numbers" = some (.ref f_l_numbers)
  f_l_ruled : Addr
  d_l_ruled : FuncData
  F_l_ruled : Fun K "_law_ruled" "_law_ruled" s_l_ruled f_l_ruled d_l_ruled
  b_l_ruled : Binds K d_l_ruled ["_law_given"] []
  g_l_ruled : mg "_law_ruled" = some (.ref f_l_ruled)
  f_l_near : Addr
  d_l_near : FuncData
  F_l_near : Fun K "_law_near" "_law_near" s_l_near f_l_near d_l_near
  b_l_near : Binds K d_l_near ["_law_box_here", "_law_given"] []
  g_l_near : mg "_law_near" = some (.ref f_l_near)
  f_l_pair_right : Addr
  d_l_pair_right : FuncData
  F_l_pair_right : Fun K "_law_pair_right" "_law_pair_right" s_l_pair_right f_l_pair_right d_l_pair_right
  b_l_pair_right : Binds K d_l_pair_right ["_law_p", "_law_q"] []
  g_l_pair_right : mg "_law_pair_right" = some (.ref f_l_pair_right)
  f_law : Addr
  d_law : FuncData
  F_law : Fun K "law" "law" s_law f_law d_law
  b_law : Binds K d_law ["_law_script"] []
  g_law : mg "law" = some (.ref f_law)
  a_WORDS : Addr
  g_WORDS : mg "WORDS" = some (.ref a_WORDS)
  s_WORDS : ∀ H : Hp, SqT K H a_WORDS [.str "seats", .str "lapse", .str "beat", .str "grace", .str "late"]
  a_FAULTS : Addr
  g_FAULTS : mg "FAULTS" = some (.ref a_FAULTS)
  s_FAULTS : ∀ H : Hp, SqT K H a_FAULTS [.str "over", .str "taken", .str "twice", .str "waits"]
  a_PLANS : Addr
  g_PLANS : mg "PLANS" = some (.ref a_PLANS)
  kd_PLANS_over : KDct K W0 a_PLANS "over" (.ref f_over_plan)
  kd_PLANS_taken : KDct K W0 a_PLANS "taken" (.ref f_taken_plan)
  kd_PLANS_twice : KDct K W0 a_PLANS "twice" (.ref f_twice_plan)
  kd_PLANS_waits : KDct K W0 a_PLANS "waits" (.ref f_waits_plan)
end My
set_option Elab.async false
set_option linter.all false
set_option maxRecDepth 100000
set_option maxHeartbeats 800000
namespace My
open PySem PySem.Spec PyProof.Rows L2 RZ SkE CL OW
/-- five numbers of a rule -/
def Good (ns : List Int) : Prop := ∃ s l b g t : Int, ns = [s, l, b, g, t] ∧ (1 ≤ s ∧ 1 ≤ l ∧ 1 ≤ b ∧ 1 ≤ g ∧ 0 ≤ t) ∧ s ≤ 10000000 ∧ l ≤ 10000000 ∧ b ≤ 10000000 ∧ g ≤ 10000000 ∧ t ≤ 10000000
theorem good_mk {s l b g t : Int} (h : (1 ≤ s ∧ 1 ≤ l ∧ 1 ≤ b ∧ 1 ≤ g ∧ 0 ≤ t) ∧ s ≤ 10000000 ∧ l ≤ 10000000 ∧ b ≤ 10000000 ∧ g ≤ 10000000 ∧ t ≤ 10000000) : Good [s, l, b, g, t] := ⟨_, _, _, _, _, rfl, h⟩
theorem Good.len {ns : List Int} (h : Good ns) : ns.length = 5 := by
  obtain ⟨_, _, _, _, _, rfl, _⟩ := h
  rfl
def leastOf (w : Str) : Int := if w = "late" then 0 else 1
theorem lo_0 : leastOf "seats" = 1 := by decide +kernel
theorem lo_1 : leastOf "lapse" = 1 := by decide +kernel
theorem lo_2 : leastOf "beat" = 1 := by decide +kernel
theorem lo_3 : leastOf "grace" = 1 := by decide +kernel
theorem lo_4 : leastOf "late" = 0 := by decide +kernel
theorem not_from {i : Int} {z : Str} (h : leastOf z ≤ i) : (!intFrom (.int i) (leastOf z)) = false := by
  show (!decide (leastOf z ≤ i)) = false
  rw [decide_eq_true h]
  rfl
def spIntFrom : Sp := fun vs H Q _ => ∃ (x : V) (l : Int), vs = [x, .int l] ∧ AnyV H x ∧ Q (.bl (intFrom x l)) H
def spNumFor : Sp := fun vs H Q _ => ∃ (w : Str) (x : V), vs = [.str w, x] ∧ AnyV H x ∧ Q (.bl (intFrom x (leastOf w))) H
theorem ask_intfrom {x : V} {l : Int} {H : Hp} {Q : VK} {E : XK} (h : AnyV H x) (q : Q (.bl (intFrom x l)) H) : Ask (spIntFrom ([x, .int l] ++ []) H Q E) := ⟨x, l, rfl, h, q⟩
theorem ask_numfor {x : V} {w : Str} {H : Hp} {Q : VK} {E : XK} (h : AnyV H x) (q : Q (.bl (intFrom x (leastOf w))) H) : Ask (spNumFor ([.str w, x] ++ []) H Q E) := ⟨w, x, rfl, h, q⟩
/-- the fields of a rule -/
def rf (ns : List Int) : List (Str × V) := (["seats", "lapse", "beat", "grace", "late"] : List Str).zip (ns.map V.int)
/-- a rule that is made never changes -/
@[irreducible] def ruleI (C : Addr) (r : Addr) (ns : List Int) : Hp → Prop := fun H => Good ns ∧ ∃ dx, H r = some (.ins C dx (rf ns))
theorem stable_rule {C r : Addr} {ns : List Int} : Stable (ruleI C r ns) := fun H H' k h => by
  unfold ruleI at h ⊢
  obtain ⟨g, dx, e⟩ := h
  refine ⟨g, dx, k _ _ e ?_⟩
  obtain ⟨s, l, b, g, t, rfl, _⟩ := g
  rfl
theorem rule_open {C r : Addr} {ns : List Int} {H : Hp} {L : List Ck} {I : List (Hp → Prop)} (h : Own H L I) (e : ruleI C r ns ∈ I) : ∃ dx, H r = some (.ins C dx (rf ns)) := by
  have w := h.imp e
  unfold ruleI at w
  exact w.2
theorem rule_g {C r : Addr} {ns : List Int} {H : Hp} {L : List Ck} {I : List (Hp → Prop)} (h : Own H L I) (e : ruleI C r ns ∈ I) : Good ns := by
  have w := h.imp e
  unfold ruleI at w
  exact w.1
theorem rule_close {C r dx : Addr} {ns : List Int} {H : Hp} {R : List Ck} {I : List (Hp → Prop)} (g : Good ns) (h : Own H (.pt r (.ins C dx (rf ns)) :: R) I) : Own H R (ruleI C r ns :: I) := h.tl.addI stable_rule (by unfold ruleI; exact ⟨g, dx, h.hd⟩)
theorem fld_rule {K : PySem.W.Frag} {C r : Addr} {ns : List Int} {H : Hp} {L : List Ck} {I : List (Hp → Prop)} {f : Str} {v : V} {k : V → Prop} (h : Own H L I) (e : ruleI C r ns ∈ I) (c : Cls K C) (n : NoAttr K C f) (l : (rf ns).lookup f = some v) (q : k v) : Fld K H r f k := by
  obtain ⟨dx, w⟩ := rule_open h e
  exact ⟨C, dx, _, v, w, c, n, l, q⟩
def spInit (C : Addr) : Sp := fun vs H Q _ => ∃ (p dx : Addr) (ns : List Int) (L : List Ck) (I : List (Hp → Prop)), vs = .ref p :: ns.map V.int ∧ Good ns ∧ Own H (.pt p (.ins C dx []) :: L) I ∧ ∀ H', Own H' (.pt p (.ins C dx (rf ns)) :: L) I → Q .non H'
theorem ask_init {C : Addr} {H : Hp} {k : Addr → Hp → Prop} {E : XK} {L : List Ck} {I : List (Hp → Prop)} {ns : List Int} {vs : List V} (e : vs = ns.map V.int) (g : Good ns) (h : Own H L I) (q : ∀ r H', Own H' L (ruleI C r ns :: I) → k r H') :
    Ask (∀ x dx, H x = none → H dx = none → dx ≠ x → spInit C (.ref x :: vs) (upd (upd H dx (.own x)) x (.ins C dx [])) (fun v H2 => v = .non ∧ k x H2) E) :=
  ⟨make_o (k := fun x H' => spInit C (.ref x :: vs) H' (fun v H2 => v = .non ∧ k x H2) E) h fun x dx H' w => ⟨x, dx, ns, L, I, by rw [e], g, w, fun H2 w2 => ⟨rfl, q x H2 (rule_close g w2)⟩⟩⟩
section
variable (P : Program) (W0 : World) {K : PySem.W.Frag} {mg : Str → Option Value} (base : Heap)
set_option hygiene false in
local macro_rules | `(tactic| walk_at "ask") => `(tactic| first
  | fail)
theorem G_is_integer_from (T : Tx W0 K mg) : FnOk P W0 K mg base CX0 1 T.f_is_integer_from T.d_is_integer_from ["value", "least"] spIntFrom := by
  refine T.F_is_integer_from.ok sc_is_integer_from (fun vs H Q E h => ?_) (fun cdv A outer s H vs Q E hr h => ?_)
  · obtain ⟨x, l, rfl, _⟩ := h
    rfl
  · obtain ⟨x, l, rfl, hx, q⟩ := h
    refine ⟨_, (pss_one (ps_ret (e_and (pe_callB k_isi (by rfl) T.isinstance (by decide +kernel) (pa_cons (c_var 0) (pa_cons (pe_bltn (v := .ty "int") (by rfl) T.int (by decide +kernel) rfl) pa_nil))) (e_and (e_not (pe_callB k_isi (by rfl) T.isinstance (by decide +kernel) (pa_cons (c_var 0) (pa_cons (pe_bltn (v := .ty "bool") (by rfl) T.bool (by decide +kernel) rfl) pa_nil)))) (pe_one (pe_cmpR c_ge (c_var 0) (c_var 1) (nomark _))))))), ?_⟩
    cases hx with
    | non => walk_at "go"; exact q
    | bl b => walk_at "go"; exact q
    | int i => walk_at "go"; exact q
    | str z => walk_at "go"; exact q
    | lst e =>
      (conv => whnf)
      refine IsI.mk ⟨_, _, .base (.lst e), (by walk_at "kit"), ?_⟩
      walk_at "go"
      exact q
    | tup e =>
      (conv => whnf)
      refine IsI.mk ⟨_, _, .base (.tup e), (by walk_at "kit"), ?_⟩
      walk_at "go"
      exact q
theorem G_is_number_for (T : Tx W0 K mg) : FnOk P W0 K mg base CX0 2 T.f_is_number_for T.d_is_number_for ["word", "number"] spNumFor := by
  refine T.F_is_number_for.ok sc_is_number_for (fun vs H Q E h => ?_) (fun cdv A outer s H vs Q E hr h => ?_)
  · obtain ⟨w, x, rfl, _⟩ := h
    rfl
  · obtain ⟨w, x, rfl, hx, q⟩ := h
    have hu64 := Room.units hr
    refine ⟨_, (pss_cons (ps_set (i := 2) sc_is_number_for.nd rfl (Or.inl rfl) (e_if (t_cmp (c_eq hu64) (c_var 0) pe_str (nomark _)) pe_int pe_int))
    (pss_one (ps_ret (e_call (G_is_integer_from P W0 base T) (hr.mono (by decide)) (by rfl) T.g_is_integer_from T.F_is_integer_from.kp T.b_is_integer_from .nil pass0 (pa_cons (c_var 1) (pa_cons (c_var 2) pa_nil)))))), ?_⟩
    walk_at "go"
    refine Br.mk (fun hw => ?_) (fun hw => ?_)
    · have e : leastOf w = 0 := if_pos (V.str.inj (of_decide_eq_true hw))
      rw [e] at q
      walk_at "go"
      exact ask_intfrom hx q
    · have e : leastOf w = 1 := if_neg fun z => of_decide_eq_false hw (congrArg V.str z)
      rw [e] at q
      walk_at "go"
      exact ask_intfrom hx q
set_option hygiene false in
local macro_rules | `(tactic| walk_at "cls") => `(tactic| first | exact T.c_Rule.cl | exact T.na_Rule_seats | exact T.na_Rule_lapse | exact T.na_Rule_beat | exact T.na_Rule_grace | exact T.na_Rule_late)
theorem G_Rule_init (T : Tx W0 K mg) : FnOk P W0 K mg base CX0 3 T.f_Rule_init T.d_Rule_init ["self", "seats", "lapse", "beat", "grace", "late"] (spInit T.C_Rule) := by
  refine T.F_Rule_init.ok sc_Rule_init (fun vs H Q E h => ?_) (fun cdv A outer s H vs Q E hr h => ?_)
  · obtain ⟨p, dx, ns, L, I, rfl, ⟨s, l, b, g, t, rfl, _⟩, _⟩ := h
    rfl
  · obtain ⟨p, dx, ns, L, I, rfl, ⟨s, l, b, g, t, rfl, ⟨g0, g1, g2, g3, g4⟩, _⟩, hp, q⟩ := h
    refine ⟨_, PSs.nox (pss_cons (s_for PassesOwn.never (by rfl) (i_zip (by rfl) T.zip (pa_cons (pe_glob (v := .ref _) (by rfl) T.g_WORDS rfl) (pa_cons (e_tup (pa_cons (c_var 1) (pa_cons (c_var 2) (pa_cons (c_var 3) (pa_cons (c_var 4) (pa_cons (c_var 5) pa_nil)))))) pa_nil))) (g_tup (by rfl) (g_cons (pg_name (i := 6) sc_Rule_init.nd rfl (Or.inl rfl)) (g_cons (pg_name (i := 7) sc_Rule_init.nd rfl (Or.inl rfl)) g_nil))) (pss_one (s_if (t_not (t_truth (e_call (G_is_number_for P W0 base T) (hr.mono (by decide)) (by rfl) T.g_is_number_for T.F_is_number_for.kp T.b_is_number_for .nil pass0 (pa_cons (c_var 6) (pa_cons (c_var 7) pa_nil))) (fun _ => rfl))) (pss_one ps_never) pss_nil)))
    (pss_cons (s_fld (c_var 0) (c_var 1))
    (pss_cons (s_fld (c_var 0) (c_var 2))
    (pss_cons (s_fld (c_var 0) (c_var 3))
    (pss_cons (s_fld (c_var 0) (c_var 4))
    (pss_one (s_fld (c_var 0) (c_var 5)))))))), ?_⟩
    walk_at "go"
    have hO := w
    obtain ⟨tp, htp⟩ : ∃ x, x = pp := ⟨_, rfl⟩
    subst htp
    refine ItZ.mk ⟨_, _, .inr ⟨T.s_WORDS _, SqT.of hO.hd, ?_⟩⟩
    (conv => whnf)
    refine fw_zipT (xs := [.str "seats", .str "lapse", .str "beat", .str "grace", .str "late"]) (ys := [.int s, .int l, .int b, .int g, .int t]) rfl (fun i σ H' => ∃ v u, σ = [some (.ref p), some (.int s), some (.int l), some (.int b), some (.int g), some (.int t), v, u] ∧ Own H' (.pt tp (.tup [.int s, .int l, .int b, .int g, .int t]) :: .pt p (.ins T.C_Rule dx []) :: L) I) ⟨_, _, rfl, hO⟩ (fun i σ H' ⟨_, _, _, e⟩ => ⟨T.s_WORDS _, SqT.of e.hd⟩) ?_ ?_
    · rintro i x y tq σ H' hx hy ⟨v, u, rfl, e⟩ htq
      have hi : i < 5 := (List.getElem?_eq_some_iff.mp hx).1
      have e2 := e.new (o := .tup [x, y]) htq
      obtain rfl | rfl | rfl | rfl | rfl : i = 0 ∨ i = 1 ∨ i = 2 ∨ i = 3 ∨ i = 4 := by omega
      all_goals (cases hx; cases hy; walk_at "go"; refine ask_numfor (.int _) ?_; walk_at "go"; refine br_f (not_from (by simp only [lo_0, lo_1, lo_2, lo_3, lo_4]; assumption)) ?_; walk_at "go"; exact ⟨_, _, rfl, e2.tl⟩)
    · rintro σ H' ⟨v, u, rfl, e⟩
      walk_at "go"
      exact q _ (by walk_at "own")
end
end My
set_option Elab.async false
set_option linter.all false
set_option maxRecDepth 100000
set_option maxHeartbeats 800000
namespace My
open PySem PySem.Spec PyProof.Rows L2 RZ SkE CL OW
/-- where draws come from: a great cell, a number -/
@[irreducible] def boxCk (b : Addr) : Ck := .ab fun l => ∃ x s : Int, l = [(b, .lst [.int x, .int s])]
theorem box_open {b : Addr} {H : Hp} {L R : List Ck} {I : List (Hp → Prop)} (h : Own H L I) (e : Pull L (boxCk b) R) : ∃ x s : Int, Own H (.pt b (.lst [.int x, .int s]) :: R) I := by
  have h1 := h.pull e
  unfold boxCk at h1
  obtain ⟨l, ⟨x, s, rfl⟩, w⟩ := h1.open_
  exact ⟨x, s, w⟩
theorem box_close {b : Addr} {x s : Int} {H : Hp} {R : List Ck} {I : List (Hp → Prop)} (h : Own H (.pt b (.lst [.int x, .int s]) :: R) I) : Own H (boxCk b :: R) I := by
  unfold boxCk
  exact Own.close (l := [(b, .lst [.int x, .int s])]) ⟨x, s, rfl⟩ h
def spTake : Sp := fun vs H Q _ => ∃ (b : Addr) (n : Int) (L R : List Ck) (I : List (Hp → Prop)), vs = [.ref b, .int n] ∧ Own H L I ∧ Pull L (boxCk b) R ∧ 0 < n ∧ n < 10000000 ∧ ∀ H' d, 0 ≤ d → d < n → Own H' (boxCk b :: R) I → Q (.int d) H'
theorem ask_take {b : Addr} {n : Int} {H : Hp} {Q : VK} {E : XK} {L R : List Ck} {I : List (Hp → Prop)} (h : Own H L I) (p : Pull L (boxCk b) R) (h0 : 0 < n) (h1 : n < 10000000) (k : ∀ H' d, 0 ≤ d → d < n → Own H' (boxCk b :: R) I → Q (.int d) H') : Ask (spTake ([.ref b, .int n] ++ []) H Q E) := ⟨b, n, L, R, I, rfl, h, p, h0, h1, k⟩
def spBox (K : PySem.W.Frag) : Sp := fun vs H Q _ => ∃ (a : Addr) (k o : Int) (ns : List Int) (L : List Ck) (I : List (Hp → Prop)), vs = [.ref a, .int k, .int o] ∧ Own H L I ∧ seqI K a (ns.map V.int) ∈ I ∧ ns.length ≤ 63 ∧ (0 ≤ k ∧ k < 1000 ∧ 0 ≤ o ∧ o < 1000) ∧ ∀ H' p, Own H' (boxCk p :: L) I → Q (.ref p) H'
theorem ask_box {K : PySem.W.Frag} {a : Addr} {k o : Int} {ns : List Int} {H : Hp} {Q : VK} {E : XK} {L : List Ck} {I : List (Hp → Prop)} (h : Own H L I) (p : seqI K a (ns.map V.int) ∈ I) (l : ns.length ≤ 63) (h0 : 0 ≤ k ∧ k < 1000 ∧ 0 ≤ o ∧ o < 1000) (q : ∀ H' p, Own H' (boxCk p :: L) I → Q (.ref p) H') : Ask (spBox K ([.ref a, .int k, .int o] ++ []) H Q E) := ⟨a, k, o, ns, L, I, rfl, h, p, l, h0, q⟩
theorem pull_mem {α : Type} {d : α} : ∀ {R : List α}, d ∈ R → ∃ R3, Pull R d R3
  | x :: R, m => by
    rcases List.mem_cons.mp m with rfl | m
    · exact ⟨_, .head⟩
    · obtain ⟨R3, e⟩ := pull_mem m
      exact ⟨_, .tail e⟩
theorem pull_other {α : Type} {L R R2 : List α} {c d : α} (h : Pull L c R) (g : Pull L d R2) (n : c ≠ d) : ∃ R3, Pull R d R3 := by
  have m : d ∈ c :: R := h.perm.mem_iff.mp (g.perm.mem_iff.mpr List.mem_cons_self)
  rcases List.mem_cons.mp m with e | m
  · exact (n e.symm).elim
  · exact pull_mem m
def spPick : Sp := fun vs H Q _ => ∃ (b l : Addr) (xs : List V) (L R R2 : List Ck) (I : List (Hp → Prop)), vs = [.ref b, .ref l] ∧ Own H L I ∧ Pull L (boxCk b) R ∧ (Pull L (.pt l (.lst xs)) R2 ∨ Pull L (.pt l (.tup xs)) R2) ∧ (0 < xs.length ∧ xs.length < 1000) ∧ ∀ H' x, x ∈ xs → Own H' (boxCk b :: R) I → Q x H'
theorem ask_pick {b l : Addr} {xs : List V} {H : Hp} {Q : VK} {E : XK} {L R R2 : List Ck} {I : List (Hp → Prop)} (h : Own H L I) (p : Pull L (boxCk b) R) (p2 : Pull L (.pt l (.lst xs)) R2 ∨ Pull L (.pt l (.tup xs)) R2) (n : 0 < xs.length ∧ xs.length < 1000) (q : ∀ H' x, x ∈ xs → Own H' (boxCk b :: R) I → Q x H') : Ask (spPick ([.ref b, .ref l] ++ []) H Q E) := ⟨b, l, xs, L, R, R2, I, rfl, h, p, p2, n, q⟩
section
variable (P : Program) (W0 : World) {K : PySem.W.Frag} {mg : Str → Option Value} (base : Heap)
set_option hygiene false in
local macro_rules | `(tactic| walk_at "cls") => `(tactic| first | exact T.c_Rule.cl | exact T.na_Rule_seats | exact T.na_Rule_lapse | exact T.na_Rule_beat | exact T.na_Rule_grace | exact T.na_Rule_late)
local macro_rules | `(tactic| walk_at "fld") => `(tactic| refine fld_rule (by assumption) (by walk_at "mem") (by walk_at "cls") (by walk_at "cls") rfl ?_)
local macro_rules | `(tactic| walk_at "good") => `(tactic| first | assumption | exact good_mk (by omega))
local macro_rules | `(tactic| walk_at "sm") => `(tactic| assumption)
local macro_rules | `(tactic| walk_at "lo") => `(tactic| first | omega | (simp only [lo_0, lo_1, lo_2, lo_3, lo_4]; omega))
set_option hygiene false in
local macro_rules | `(tactic| walk_at "seq") => `(tactic| first | exact T.s_WORDS _ | exact T.s_FAULTS _)
set_option hygiene false in
local macro_rules | `(tactic| walk_at "ask") => `(tactic| first
  | fail)
theorem G_l_take (T : Tx W0 K mg) : FnOk P W0 K mg base CX0 1 T.f_l_take T.d_l_take ["_law_box_here", "_law_limit"] spTake := by
  refine T.F_l_take.ok sc_l_take (fun vs H Q E h => ?_) (fun cdv A outer s H vs Q E hr h => ?_)
  · obtain ⟨b, n, L, R, I, rfl, _⟩ := h
    rfl
  · obtain ⟨b, n, L, R, I, rfl, hO, hp, h0, h1, k⟩ := h
    obtain ⟨x, s', hO⟩ := box_open hO hp
    refine ⟨_, (pss_cons (s_if (t_cmp c_gt (pe_ix (c_ixK (K := K) rfl) (c_var 0) pe_int (fun _ _ => rfl)) pe_int (nomark _)) (pss_cons (ps_set (i := 2) sc_l_take.nd rfl (Or.inl rfl) (pe_op c_mod (pe_callTy k_intG (by rfl) T.int (by decide +kernel) (pa_cons (pe_ix (c_ixK (K := K) rfl) (c_var 0) pe_int (fun _ _ => rfl)) pa_nil)) (c_var 1)))
    (pss_cons (ps_asg (pe_op c_div (pe_ix (c_ixK (K := K) rfl) (c_var 0) pe_int (fun _ _ => rfl)) (c_var 1)) (pg_sub (c_var 0) pe_int p_set))
    (pss_one (ps_ret (c_var 2))))) pss_nil)
    (pss_cons (ps_asg (pe_op c_mod (pe_callTy k_intG (by rfl) T.int (by decide +kernel) (pa_cons (pe_op c_addG (pe_op c_mul (pe_ix (c_ixK (K := K) rfl) (c_var 0) pe_int (fun _ _ => rfl)) pe_int) pe_int) pa_nil)) pe_int) (pg_sub (c_var 0) pe_int p_set))
    (pss_one (ps_ret (pe_op c_mod (pe_callTy k_intG (by rfl) T.int (by decide +kernel) (pa_cons (pe_op c_div (pe_ix (c_ixK (K := K) rfl) (c_var 0) pe_int (fun _ _ => rfl)) pe_int) pa_nil)) (c_var 1)))))), ?_⟩
    walk_at "go"
    refine Br.mk (fun hx => ?_) (fun hx => ?_)
    · walk_at "go"
      exact k _ _ (Int.emod_nonneg _ (by omega)) (Int.emod_lt_of_pos _ h0) (box_close (by walk_at "own"))
    · walk_at "go"
      exact k _ _ (Int.emod_nonneg _ (by omega)) (Int.emod_lt_of_pos _ h0) (box_close (by walk_at "own"))
theorem G_l_box (T : Tx W0 K mg) : FnOk P W0 K mg base CX0 1 T.f_l_box T.d_l_box ["_law_script", "_law_k", "_law_own"] (spBox K) := by
  refine T.F_l_box.ok sc_l_box (fun vs H Q E h => ?_) (fun cdv A outer s H vs Q E hr h => ?_)
  · obtain ⟨a, k, o, ns, L, I, rfl, _⟩ := h
    rfl
  · obtain ⟨a, k, o, ns, L, I, rfl, hO, hI, hl, hk, q⟩ := h
    refine ⟨_, (pss_cons (ps_set (i := 3) sc_l_box.nd rfl (Or.inl rfl) (e_if (t_cmp c_lt (c_var 1) (pe_callB k_len (by rfl) T.len PySem.boot_len (pa_cons (c_var 0) pa_nil)) (nomark _)) (pe_callB k_abs (by rfl) T.abs (by decide +kernel) (pa_cons (pe_ix (c_ixK (K := K) rfl) (c_var 0) (c_var 1) (fun _ _ => rfl)) pa_nil)) pe_int))
    (pss_cons (ps_set (i := 4) sc_l_box.nd rfl (Or.inl rfl) (pe_op c_addG (pe_op c_addG (pe_op c_mul pe_int (c_var 2)) (pe_op c_mul pe_int (c_var 1))) pe_int))
    (pss_cons (s_for PassesOwn.never (by rfl) (i_val (pe_slice c_slG (c_var 0) po_none (o_some pe_int))) (pg_name (i := 5) sc_l_box.nd rfl (Or.inl rfl)) (pss_one (ps_set (i := 4) sc_l_box.nd rfl (Or.inl rfl) (pe_op c_mod (pe_callTy k_intG (by rfl) T.int (by decide +kernel) (pa_cons (pe_op c_addG (pe_op c_addG (pe_op c_mul (c_var 4) pe_int) (pe_op c_mod (pe_callB k_abs (by rfl) T.abs (by decide +kernel) (pa_cons (c_var 5) pa_nil)) pe_int)) (c_var 1)) pa_nil)) pe_int))))
    (pss_one (ps_ret (e_lst (pa_cons (e_if (t_cmp c_ge (c_var 3) (pe_op c_pow pe_int pe_int) (nomark _)) (c_var 3) pe_int) (pa_cons (pe_op c_addG (c_var 4) pe_int) pa_nil)))))))), ?_⟩
    obtain ⟨ms, em, lm⟩ := cutV_ints ns none (some 40)
    have rest : ∀ (cell : Int) (H1 : Hp), Own H1 L I → ∀ sl, Own H1 (.pt sl (.lst (ms.map V.int)) :: L) I → True := fun _ _ _ _ _ => trivial
    walk_at "go"
    refine Br.mk (fun hx => ?_) (fun hx => ?_)
    · have hx' : k < ((ns.map V.int).length : Int) := of_decide_eq_true hx
      rw [List.length_map] at hx'
      walk_at "go"
      refine At.nat k.toNat (by omega) (int_at (by omega)) ?_
      walk_at "go"
      rw [em] at w
      refine fw_list (xs := ms.map V.int) (fun i σ H' => ∃ (cell s : Int) (v : Option V), 0 ≤ s ∧ s < 2147483647 ∧ σ = [some (.ref a), some (.int k), some (.int o), some (.int cell), some (.int s), v] ∧ Own H' (.pt pp (.lst (ms.map V.int)) :: L) I) ⟨_, _, _, by omega, by omega, rfl, w⟩ (fun i σ H' _ ⟨_, _, _, _, _, _, e⟩ => SqL.of e.hd) ?_ ?_
      · rintro i x σ H2 hx ⟨cell, s2, v, hb0, hb1, rfl, e⟩
        have hi : i < ms.length := by have := (List.getElem?_eq_some_iff.mp hx).1; rwa [List.length_map] at this
        rw [int_at hi] at hx
        cases hx
        walk_at "go"
        exact ⟨_, _, _, Int.emod_nonneg _ (by decide), Int.emod_lt_of_pos _ (by decide), rfl, e⟩
      · rintro σ H2 ⟨cell, s2, v, hb0, hb1, rfl, e⟩
        walk_at "go"
        refine Br.mk (fun _ => ?_) (fun _ => ?_)
        · walk_at "go"
          exact q _ _ (box_close (by walk_at "own"))
        · walk_at "go"
          exact q _ _ (box_close (by walk_at "own"))
    · walk_at "go"
      rw [em] at w
      refine fw_list (xs := ms.map V.int) (fun i σ H' => ∃ (cell s : Int) (v : Option V), 0 ≤ s ∧ s < 2147483647 ∧ σ = [some (.ref a), some (.int k), some (.int o), some (.int cell), some (.int s), v] ∧ Own H' (.pt pp (.lst (ms.map V.int)) :: L) I) ⟨_, _, _, by omega, by omega, rfl, w⟩ (fun i σ H' _ ⟨_, _, _, _, _, _, e⟩ => SqL.of e.hd) ?_ ?_
      · rintro i x σ H2 hx ⟨cell, s2, v, hb0, hb1, rfl, e⟩
        have hi : i < ms.length := by have := (List.getElem?_eq_some_iff.mp hx).1; rwa [List.length_map] at this
        rw [int_at hi] at hx
        cases hx
        walk_at "go"
        exact ⟨_, _, _, Int.emod_nonneg _ (by decide), Int.emod_lt_of_pos _ (by decide), rfl, e⟩
      · rintro σ H2 ⟨cell, s2, v, hb0, hb1, rfl, e⟩
        walk_at "go"
        refine Br.mk (fun _ => ?_) (fun _ => ?_)
        · walk_at "go"
          exact q _ _ (box_close (by walk_at "own"))
        · walk_at "go"
          exact q _ _ (box_close (by walk_at "own"))
section
set_option hygiene false in
local macro_rules | `(tactic| walk_at "ask") => `(tactic| refine ask_take (by assumption) (by walk_at "pull") (by walk_at "sd") (by walk_at "sd") (fun HH d d0 d1 w => ?_))
theorem G_l_pick (T : Tx W0 K mg) : FnOk P W0 K mg base CX0 2 T.f_l_pick T.d_l_pick ["_law_box_here", "_law_some"] spPick := by
  refine T.F_l_pick.ok sc_l_pick (fun vs H Q E h => ?_) (fun cdv A outer s H vs Q E hr h => ?_)
  · obtain ⟨b, l, xs, L, R, R2, I, rfl, _⟩ := h
    rfl
  · obtain ⟨b, l, xs, L, R, R2, I, rfl, hO, hp, hp2, hn, k⟩ := h
    refine ⟨_, (pss_one (ps_ret (pe_ix (c_ixK (K := K) rfl) (c_var 1) (e_call (G_l_take P W0 base T) (hr.mono (by decide)) (by rfl) T.g_l_take T.F_l_take.kp T.b_l_take .nil pass0 (pa_cons (c_var 0) (pa_cons (pe_callB k_len (by rfl) T.len PySem.boot_len (pa_cons (c_var 1) pa_nil)) pa_nil))) (fun _ _ => rfl)))), ?_⟩
    (conv => whnf)
    rcases hp2 with hp2 | hp2
    · refine sq_l hO hp2 ?_
      walk_at "go"
      have hi : d.toNat < xs.length := by omega
      obtain ⟨R3, hp3⟩ : ∃ R3, Pull R (.pt l (.lst xs)) R3 := pull_other hp hp2 (fun z => by unfold boxCk at z; cases z)
      refine sq_l w (.tail hp3) ?_
      refine At.nat d.toNat (by omega) (List.getElem?_eq_getElem hi) ?_
      exact k _ _ (List.getElem_mem hi) w
    · refine sq_t hO hp2 ?_
      walk_at "go"
      have hi : d.toNat < xs.length := by omega
      obtain ⟨R3, hp3⟩ : ∃ R3, Pull R (.pt l (.tup xs)) R3 := pull_other hp hp2 (fun z => by unfold boxCk at z; cases z)
      refine sq_t w (.tail hp3) ?_
      refine At.nat d.toNat (by omega) (List.getElem?_eq_getElem hi) ?_
      exact k _ _ (List.getElem_mem hi) w
end
end
end My
set_option Elab.async false
set_option linter.all false
set_option maxRecDepth 100000
set_option maxHeartbeats 800000
namespace My
open PySem PySem.Spec PyProof.Rows L2 RZ SkE CL OW
/-- how many can have one seat -/
def perSeat : List Int → Int
  | [_, l, _, g, t] => (g + t) / l + 1
  | _ => 0
def seatsOf : List Int → Int
  | [s, _, _, _, _] => s
  | _ => 0
def mostv (ns : List Int) (u : Int) : Int := if seatsOf ns * perSeat ns < u then seatsOf ns * perSeat ns else u
theorem Good.per {ns : List Int} (g : Good ns) : 1 ≤ perSeat ns ∧ perSeat ns ≤ 20000001 := by
  obtain ⟨s, l, b, g, t, rfl, ⟨h0, h1, h2, h3, h4⟩, h5, h6, h7, h8, h9⟩ := g
  have z0 : 0 ≤ (g + t) / l := Int.ediv_nonneg (by omega) (by omega)
  have z1 : (g + t) / l ≤ g + t := Int.ediv_le_self _ (by omega)
  show 1 ≤ (g + t) / l + 1 ∧ (g + t) / l + 1 ≤ 20000001
  omega
def lapseOf : List Int → Int
  | [_, l, _, _, _] => l
  | _ => 0
theorem Good.seats {ns : List Int} (g : Good ns) : 1 ≤ seatsOf ns ∧ seatsOf ns ≤ 10000000 ∧ 1 ≤ lapseOf ns ∧ lapseOf ns ≤ 10000000 := by
  obtain ⟨s, l, b, g, t, rfl, h⟩ := g
  show 1 ≤ s ∧ s ≤ 10000000 ∧ 1 ≤ l ∧ l ≤ 10000000
  omega
/-- a function of a rule, an integer -/
def spRI (C : Addr) (f : List Int → Int) : Sp := fun vs H Q _ => ∃ (r : Addr) (ns : List Int) (L : List Ck) (I : List (Hp → Prop)), vs = [.ref r] ∧ Own H L I ∧ ruleI C r ns ∈ I ∧ Good ns ∧ Q (.int (f ns)) H
theorem ask_ri {C r : Addr} {f : List Int → Int} {ns : List Int} {H : Hp} {Q : VK} {E : XK} {L : List Ck} {I : List (Hp → Prop)} (h : Own H L I) (p : ruleI C r ns ∈ I) (g : Good ns) (q : Q (.int (f ns)) H) : Ask (spRI C f ([.ref r] ++ []) H Q E) := ⟨r, ns, L, I, rfl, h, p, g, q⟩
def spMost (C : Addr) : Sp := fun vs H Q _ => ∃ (r : Addr) (u : Int) (ns : List Int) (L : List Ck) (I : List (Hp → Prop)), vs = [.ref r, .int u] ∧ Own H L I ∧ ruleI C r ns ∈ I ∧ Good ns ∧ Q (.int (mostv ns u)) H
theorem ask_most {C r : Addr} {u : Int} {ns : List Int} {H : Hp} {Q : VK} {E : XK} {L : List Ck} {I : List (Hp → Prop)} (h : Own H L I) (p : ruleI C r ns ∈ I) (g : Good ns) (q : Q (.int (mostv ns u)) H) : Ask (spMost C ([.ref r, .int u] ++ []) H Q E) := ⟨r, u, ns, L, I, rfl, h, p, g, q⟩
section
variable (P : Program) (W0 : World) {K : PySem.W.Frag} {mg : Str → Option Value} (base : Heap)
set_option hygiene false in
local macro_rules | `(tactic| walk_at "cls") => `(tactic| first | exact T.c_Rule.cl | exact T.na_Rule_seats | exact T.na_Rule_lapse | exact T.na_Rule_beat | exact T.na_Rule_grace | exact T.na_Rule_late)
local macro_rules | `(tactic| walk_at "fld") => `(tactic| refine fld_rule (by assumption) (by walk_at "mem") (by walk_at "cls") (by walk_at "cls") rfl ?_)
local macro_rules | `(tactic| walk_at "good") => `(tactic| first | assumption | exact good_mk (by omega))
local macro_rules | `(tactic| walk_at "sm") => `(tactic| assumption)
local macro_rules | `(tactic| walk_at "lo") => `(tactic| first | omega | (simp only [lo_0, lo_1, lo_2, lo_3, lo_4]; omega))
set_option hygiene false in
local macro_rules | `(tactic| walk_at "seq") => `(tactic| first | exact T.s_WORDS _ | exact T.s_FAULTS _)
set_option hygiene false in
local macro_rules | `(tactic| walk_at "ask") => `(tactic| first
  | fail)
theorem G_most_at_one_seat (T : Tx W0 K mg) : FnOk P W0 K mg base CX0 1 T.f_most_at_one_seat T.d_most_at_one_seat ["rule"] (spRI T.C_Rule perSeat) := by
  refine T.F_most_at_one_seat.ok sc_most_at_one_seat (fun vs H Q E h => ?_) (fun cdv A outer s H vs Q E hr h => ?_)
  · obtain ⟨r, ns, L, I, rfl, _⟩ := h
    rfl
  · obtain ⟨r, ns, L, I, rfl, hO, hp, ⟨s, l, b, g, t, rfl, ⟨h0, h1, h2, h3, h4⟩, h5, h6, h7, h8, h9⟩, q⟩ := h
    refine ⟨_, (pss_one (ps_ret (pe_op c_addG (pe_op c_div (pe_op c_addG (e_fld (c_var 0)) (e_fld (c_var 0))) (e_fld (c_var 0))) pe_int))), ?_⟩
    walk_at "go"
    exact q
section
local macro_rules | `(tactic| walk_at "ask") => `(tactic| refine ask_ri (by assumption) (by assumption) (by assumption) ?_)
theorem G_most_of_all (T : Tx W0 K mg) : FnOk P W0 K mg base CX0 2 T.f_most_of_all T.d_most_of_all ["rule"] (spRI T.C_Rule fun ns => seatsOf ns * perSeat ns) := by
  refine T.F_most_of_all.ok sc_most_of_all (fun vs H Q E h => ?_) (fun cdv A outer s H vs Q E hr h => ?_)
  · obtain ⟨r, ns, L, I, rfl, _⟩ := h
    rfl
  · obtain ⟨r, ns, L, I, rfl, hO, hp, gg, q⟩ := h
    have gp := gg.per
    obtain ⟨s, l, b, g, t, rfl, ⟨h0, h1, h2, h3, h4⟩, h5, h6, h7, h8, h9⟩ := id gg
    refine ⟨_, (pss_one (ps_ret (pe_op c_mul (e_fld (c_var 0)) (e_call (G_most_at_one_seat P W0 base T) (hr.mono (by decide)) (by rfl) T.g_most_at_one_seat T.F_most_at_one_seat.kp T.b_most_at_one_seat .nil pass0 (pa_cons (c_var 0) pa_nil))))), ?_⟩
    walk_at "go"
    exact q
theorem G_most (T : Tx W0 K mg) : FnOk P W0 K mg base CX0 3 T.f_most T.d_most ["rule", "users"] (spMost T.C_Rule) := by
  refine T.F_most.ok sc_most (fun vs H Q E h => ?_) (fun cdv A outer s H vs Q E hr h => ?_)
  · obtain ⟨r, u, ns, L, I, rfl, _⟩ := h
    rfl
  · obtain ⟨r, u, ns, L, I, rfl, hO, hp, gg, q⟩ := h
    have gp := gg.per
    obtain ⟨s, l, b, g, t, rfl, ⟨h0, h1, h2, h3, h4⟩, h5, h6, h7, h8, h9⟩ := id gg
    refine ⟨_, (pss_one (ps_ret (pe_callB (k_minL (by rfl)) (by rfl) T.min (by decide +kernel) (pa_cons (c_var 1) (pa_cons (e_call (G_most_of_all P W0 base T) (hr.mono (by decide)) (by rfl) T.g_most_of_all T.F_most_of_all.kp T.b_most_of_all .nil pass0 (pa_cons (c_var 0) pa_nil)) pa_nil))))), ?_⟩
    walk_at "go"
    exact q
end
end
end My
set_option Elab.async false
set_option linter.all false
set_option maxRecDepth 100000
set_option maxHeartbeats 800000
namespace My
open PySem PySem.Spec PyProof.Rows L2 RZ SkE CL OW
def shareB (ns : List Int) : Bool := decide (1 < perSeat ns)
def silentB : List Int → Bool
  | [_, l, b, _, t] => decide (l ≤ b + t)
  | _ => false
def silN (ns : List Int) : Int := if silentB ns then 1 else 2
/-- a function of a rule, a truth -/
def spRB (C : Addr) (f : List Int → Bool) : Sp := fun vs H Q _ => ∃ (r : Addr) (ns : List Int) (L : List Ck) (I : List (Hp → Prop)), vs = [.ref r] ∧ Own H L I ∧ ruleI C r ns ∈ I ∧ Good ns ∧ Q (.bl (f ns)) H
theorem ask_rb {C r : Addr} {f : List Int → Bool} {ns : List Int} {H : Hp} {Q : VK} {E : XK} {L : List Ck} {I : List (Hp → Prop)} (h : Own H L I) (p : ruleI C r ns ∈ I) (g : Good ns) (q : Q (.bl (f ns)) H) : Ask (spRB C f ([.ref r] ++ []) H Q E) := ⟨r, ns, L, I, rfl, h, p, g, q⟩
/-- the first events of a plan, their number -/
def spSilent (C : Addr) : Sp := fun vs H Q _ => ∃ (r : Addr) (ns : List Int) (L : List Ck) (I : List (Hp → Prop)), vs = [.ref r] ∧ Own H L I ∧ ruleI C r ns ∈ I ∧ Good ns ∧ ∀ H' p xs, ((xs : List V).length : Int) = silN ns → Own H' (.pt p (.lst xs) :: L) I → Q (.ref p) H'
theorem ask_silent {C r : Addr} {ns : List Int} {H : Hp} {Q : VK} {E : XK} {L : List Ck} {I : List (Hp → Prop)} (h : Own H L I) (p : ruleI C r ns ∈ I) (g : Good ns) (q : ∀ H' p xs, ((xs : List V).length : Int) = silN ns → Own H' (.pt p (.lst xs) :: L) I → Q (.ref p) H') : Ask (spSilent C ([.ref r] ++ []) H Q E) := ⟨r, ns, L, I, rfl, h, p, g, q⟩
/-- how long the parts of a plan are -/
def planN (z : Str) (ns : List Int) (u : Int) : Option (Int × Int × Int) :=
  if z = "over" then (if u ≤ seatsOf ns ∨ shareB ns = false then none else some (silN ns, lapseOf ns, seatsOf ns))
  else if z = "taken" then (if shareB ns = false ∨ silentB ns = false then none else some (1, lapseOf ns, 0))
  else if z = "twice" then (if u < 2 ∨ shareB ns = false then none else some (silN ns, lapseOf ns, 1))
  else (if u ≤ seatsOf ns then none else some (seatsOf ns + 2, 0, 0))
def PlanV (v : V) (H : Hp) (L : List Ck) (I : List (Hp → Prop)) : Option (Int × Int × Int) → Prop
  | none => v = .non ∧ Own H L I
  | some (a, n, b) => ∃ p pa pb xs ys, v = .ref p ∧ ((xs : List V).length : Int) = a ∧ ((ys : List V).length : Int) = b ∧ Own H (.pt p (.tup [.ref pa, .int n, .ref pb]) :: .pt pa (.lst xs) :: .pt pb (.lst ys) :: L) I
def spPlanF (C : Addr) (z : Str) : Sp := fun vs H Q _ => ∃ (r : Addr) (u : Int) (ns : List Int) (L : List Ck) (I : List (Hp → Prop)), vs = [.ref r, .int u] ∧ Own H L I ∧ ruleI C r ns ∈ I ∧ Good ns ∧ seatsOf ns ≤ 1000 ∧ ∀ H' v, PlanV v H' L I (planN z ns u) → Q v H'
def Fault (z : Str) : Prop := z = "over" ∨ z = "taken" ∨ z = "twice" ∨ z = "waits"
def spPlan (C : Addr) : Sp := fun vs H Q _ => ∃ (r : Addr) (u : Int) (z : Str) (ns : List Int) (L : List Ck) (I : List (Hp → Prop)), vs = [.ref r, .int u, .str z] ∧ Own H L I ∧ ruleI C r ns ∈ I ∧ Good ns ∧ seatsOf ns ≤ 1000 ∧ Fault z ∧ ∀ H' v, PlanV v H' L I (planN z ns u) → Q v H'
theorem ask_plan {C r : Addr} {u : Int} {z : Str} {ns : List Int} {H : Hp} {Q : VK} {E : XK} {L : List Ck} {I : List (Hp → Prop)} (h : Own H L I) (p : ruleI C r ns ∈ I) (g : Good ns) (s : seatsOf ns ≤ 1000) (f : Fault z) (q : ∀ H' v, PlanV v H' L I (planN z ns u) → Q v H') : Ask (spPlan C ([.ref r, .int u, .str z] ++ []) H Q E) := ⟨r, u, z, ns, L, I, rfl, h, p, g, s, f, q⟩
def spHappens (C : Addr) : Sp := fun vs H Q _ => ∃ (r : Addr) (u : Int) (z : Str) (ns : List Int) (L : List Ck) (I : List (Hp → Prop)), vs = [.ref r, .int u, .str z] ∧ Own H L I ∧ ruleI C r ns ∈ I ∧ Good ns ∧ seatsOf ns ≤ 1000 ∧ Fault z ∧ ∀ H', Own H' L I → Q (.bl (planN z ns u).isSome) H'
theorem ask_happens {C r : Addr} {u : Int} {z : Str} {ns : List Int} {H : Hp} {Q : VK} {E : XK} {L : List Ck} {I : List (Hp → Prop)} (h : Own H L I) (p : ruleI C r ns ∈ I) (g : Good ns) (s : seatsOf ns ≤ 1000) (f : Fault z) (q : ∀ H', Own H' L I → Q (.bl (planN z ns u).isSome) H') : Ask (spHappens C ([.ref r, .int u, .str z] ++ []) H Q E) := ⟨r, u, z, ns, L, I, rfl, h, p, g, s, f, q⟩
section
variable (P : Program) (W0 : World) {K : PySem.W.Frag} {mg : Str → Option Value} (base : Heap)
set_option hygiene false in
local macro_rules | `(tactic| walk_at "cls") => `(tactic| first | exact T.c_Rule.cl | exact T.na_Rule_seats | exact T.na_Rule_lapse | exact T.na_Rule_beat | exact T.na_Rule_grace | exact T.na_Rule_late)
local macro_rules | `(tactic| walk_at "fld") => `(tactic| refine fld_rule (by assumption) (by walk_at "mem") (by walk_at "cls") (by walk_at "cls") rfl ?_)
local macro_rules | `(tactic| walk_at "good") => `(tactic| first | assumption | exact good_mk (by omega))
local macro_rules | `(tactic| walk_at "sm") => `(tactic| assumption)
local macro_rules | `(tactic| walk_at "lo") => `(tactic| first | omega | (simp only [lo_0, lo_1, lo_2, lo_3, lo_4]; omega))
set_option hygiene false in
local macro_rules | `(tactic| walk_at "seq") => `(tactic| first | exact T.s_WORDS _ | exact T.s_FAULTS _)
set_option hygiene false in
local macro_rules | `(tactic| walk_at "ask") => `(tactic| first
  | fail)
section
set_option hygiene false in
local macro_rules | `(tactic| walk_at "ask") => `(tactic| first
  | refine ask_ri (by assumption) (by walk_at "mem") (by assumption) ?_
  | refine ask_rb (by assumption) (by walk_at "mem") (by assumption) ?_
  | refine ask_silent (by assumption) (by walk_at "mem") (by assumption) (fun HH ps xs hxs w => ?_))
theorem G_can_share (T : Tx W0 K mg) : FnOk P W0 K mg base CX0 2 T.f_can_share T.d_can_share ["rule"] (spRB T.C_Rule shareB) := by
  refine T.F_can_share.ok sc_can_share (fun vs H Q E h => ?_) (fun cdv A outer s H vs Q E hr h => ?_)
  · obtain ⟨r, ns, L, I, rfl, _⟩ := h
    rfl
  · obtain ⟨r, ns, L, I, rfl, hO, hp, gg, q⟩ := h
    refine ⟨_, (pss_one (ps_ret (pe_cmpR c_gt (e_call (G_most_at_one_seat P W0 base T) (hr.mono (by decide)) (by rfl) T.g_most_at_one_seat T.F_most_at_one_seat.kp T.b_most_at_one_seat .nil pass0 (pa_cons (c_var 0) pa_nil)) pe_int (nomark _)))), ?_⟩
    walk_at "go"
    exact q
theorem G_can_be_silent (T : Tx W0 K mg) : FnOk P W0 K mg base CX0 1 T.f_can_be_silent T.d_can_be_silent ["rule"] (spRB T.C_Rule silentB) := by
  refine T.F_can_be_silent.ok sc_can_be_silent (fun vs H Q E h => ?_) (fun cdv A outer s H vs Q E hr h => ?_)
  · obtain ⟨r, ns, L, I, rfl, _⟩ := h
    rfl
  · obtain ⟨r, ns, L, I, rfl, hO, hp, gg, q⟩ := h
    obtain ⟨s', l, b, g, t, rfl, _⟩ := id gg
    refine ⟨_, (pss_one (ps_ret (pe_cmpR c_le (e_fld (c_var 0)) (pe_op c_addG (e_fld (c_var 0)) (e_fld (c_var 0))) (nomark _)))), ?_⟩
    walk_at "go"
    exact q
theorem G_silent_borrow (T : Tx W0 K mg) : FnOk P W0 K mg base CX0 2 T.f_silent_borrow T.d_silent_borrow ["rule"] (spSilent T.C_Rule) := by
  refine T.F_silent_borrow.ok sc_silent_borrow (fun vs H Q E h => ?_) (fun cdv A outer s H vs Q E hr h => ?_)
  · obtain ⟨r, ns, L, I, rfl, _⟩ := h
    rfl
  · obtain ⟨r, ns, L, I, rfl, hO, hp, gg, q⟩ := h
    refine ⟨_, (pss_cons (s_if (t_truth (e_call (G_can_be_silent P W0 base T) (hr.mono (by decide)) (by rfl) T.g_can_be_silent T.F_can_be_silent.kp T.b_can_be_silent .nil pass0 (pa_cons (c_var 0) pa_nil)) (fun _ => rfl)) (pss_one (ps_ret (e_lst (pa_cons (e_tup (pa_cons pe_str (pa_cons pe_int pa_nil))) pa_nil)))) pss_nil)
    (pss_one (ps_ret (e_lst (pa_cons (e_tup (pa_cons pe_str (pa_cons pe_int pa_nil))) (pa_cons (e_tup (pa_cons pe_str (pa_cons pe_int pa_nil))) pa_nil)))))), ?_⟩
    walk_at "go"
    refine Br.mk (fun hx => ?_) (fun hx => ?_)
    · walk_at "go"
      exact q _ _ [_] (by unfold silN; rw [hx]; rfl) (by walk_at "own")
    · walk_at "go"
      exact q _ _ [_, _] (by unfold silN; rw [hx]; rfl) (by walk_at "own")
theorem G_over_plan (T : Tx W0 K mg) : FnOk P W0 K mg base CX0 3 T.f_over_plan T.d_over_plan ["rule", "users"] (spPlanF T.C_Rule "over") := by
  refine T.F_over_plan.ok sc_over_plan (fun vs H Q E h => ?_) (fun cdv A outer s H vs Q E hr h => ?_)
  · obtain ⟨r, u, ns, L, I, rfl, _⟩ := h
    rfl
  · obtain ⟨r, u, ns, L, I, rfl, hO, hp, gg, sm, q⟩ := h
    have e0 : planN "over" ns u = if u ≤ seatsOf ns ∨ shareB ns = false then none else some (silN ns, lapseOf ns, seatsOf ns) := if_pos rfl
    rw [e0] at q
    obtain ⟨s', l, b, g, t, rfl, gb⟩ := id gg
    have sm : s' ≤ 1000 := sm
    refine ⟨_, (pss_cons (s_if (PW.pt (w_or (t_cmp c_le (c_var 1) (e_fld (c_var 0)) (nomark _)) (w_or1 (t_not (t_truth (e_call (G_can_share P W0 base T) (hr.mono (by decide)) (by rfl) T.g_can_share T.F_can_share.kp T.b_can_share .nil pass0 (pa_cons (c_var 0) pa_nil)) (fun _ => rfl)))))) (pss_one (ps_ret pe_non)) pss_nil)
    (pss_cons (ps_set (i := 2) sc_over_plan.nd rfl (Or.inl rfl) (pe_callTy k_rng (by rfl) T.range (by decide +kernel) (pa_cons pe_int (pa_cons (pe_op c_addG (e_fld (c_var 0)) pe_int) pa_nil))))
    (pss_one (ps_ret (e_tup (pa_cons (e_call (G_silent_borrow P W0 base T) (hr.mono (by decide)) (by rfl) T.g_silent_borrow T.F_silent_borrow.kp T.b_silent_borrow .nil pass0 (pa_cons (c_var 0) pa_nil)) (pa_cons (e_fld (c_var 0)) (pa_cons (e_lc (own := [("user", 3)]) (by rfl) sc_over_plan.nd (i_val (c_var 2)) (blkOk_by (own := [("user", 3)]) (N := ["rule", "users", "others", "user"]) (sc := defScope s_over_plan) (by decide +kernel)) (fun _ _ _ _ _ => (pg_name (i := 3) sc_over_plan.nd rfl (Or.inl rfl))) (fun _ _ _ _ _ => pts_nil) (fun _ _ _ _ _ => (e_tup (pa_cons pe_str (pa_cons (c_var 3) pa_nil))))) pa_nil)))))))), ?_⟩
    walk_at "go"
    refine Br.mk (fun hx => ?_) (fun hx => ?_)
    · have hx := of_decide_eq_true hx
      rw [if_pos (.inl hx)] at q
      walk_at "go"
      exact q _ _ ⟨rfl, hO⟩
    have hx := of_decide_eq_false hx
    walk_at "go"
    refine Br.mk (fun hy => ?_) (fun hy => ?_)
    · have hy : shareB [s', l, b, g, t] = false := by simpa using hy
      rw [if_pos (.inr hy)] at q
      walk_at "go"
      exact q _ _ ⟨rfl, hO⟩
    have hy : shareB [s', l, b, g, t] = true := by simpa using hy
    rw [if_neg (by rw [hy]; intro z; rcases z with z | z; exact hx z; cases z)] at q
    walk_at "go"
    rename_i pr _ _
    refine newa_o w (fun pb wb => ?_)
    refine la_range (fun i H' => ∃ ys : List V, ys.length = i ∧ Own H' (.pt pb (.lst ys) :: .pt ps (.lst xs) :: L) I) ⟨[], rfl, by walk_at "own"⟩ ?_ ?_
    · rintro i H' hi ⟨ys, hy, e⟩
      unfold LcT
      walk_at "go"
      exact ⟨ys ++ [V.ref pp], by simp [hy], by walk_at "own"⟩
    · rintro H' ⟨ys, hy, e⟩
      walk_at "go"
      exact q _ _ ⟨pp, ps, pb, xs, ys, rfl, hxs, by rw [hy]; show ((s' + 1 - 1).toNat : Int) = s'; omega, by walk_at "own"⟩
theorem G_taken_plan (T : Tx W0 K mg) : FnOk P W0 K mg base CX0 3 T.f_taken_plan T.d_taken_plan ["rule", "users"] (spPlanF T.C_Rule "taken") := by
  refine T.F_taken_plan.ok sc_taken_plan (fun vs H Q E h => ?_) (fun cdv A outer s H vs Q E hr h => ?_)
  · obtain ⟨r, u, ns, L, I, rfl, _⟩ := h
    rfl
  · obtain ⟨r, u, ns, L, I, rfl, hO, hp, gg, sm, q⟩ := h
    have e0 : planN "taken" ns u = if shareB ns = false ∨ silentB ns = false then none else some (1, lapseOf ns, 0) := by unfold planN; rw [if_neg (by decide), if_pos rfl]
    rw [e0] at q
    refine ⟨_, (pss_cons (s_if (PW.pt (w_or (t_not (t_truth (e_call (G_can_share P W0 base T) (hr.mono (by decide)) (by rfl) T.g_can_share T.F_can_share.kp T.b_can_share .nil pass0 (pa_cons (c_var 0) pa_nil)) (fun _ => rfl))) (w_or1 (t_not (t_truth (e_call (G_can_be_silent P W0 base T) (hr.mono (by decide)) (by rfl) T.g_can_be_silent T.F_can_be_silent.kp T.b_can_be_silent .nil pass0 (pa_cons (c_var 0) pa_nil)) (fun _ => rfl)))))) (pss_one (ps_ret pe_non)) pss_nil)
    (pss_one (ps_ret (e_tup (pa_cons (e_lst (pa_cons (e_tup (pa_cons pe_str (pa_cons pe_int pa_nil))) pa_nil)) (pa_cons (e_fld (c_var 0)) (pa_cons (e_lst pa_nil) pa_nil))))))), ?_⟩
    walk_at "go"
    refine Br.mk (fun hy => ?_) (fun hy => ?_)
    · have hy : shareB ns = false := by simpa using hy
      rw [if_pos (.inl hy)] at q
      walk_at "go"
      exact q _ _ ⟨rfl, hO⟩
    have hy : shareB ns = true := by simpa using hy
    walk_at "go"
    refine Br.mk (fun hz => ?_) (fun hz => ?_)
    · have hz : silentB ns = false := by simpa using hz
      rw [if_pos (.inr hz)] at q
      walk_at "go"
      exact q _ _ ⟨rfl, hO⟩
    have hz : silentB ns = true := by simpa using hz
    rw [if_neg (by rw [hy, hz]; decide)] at q
    obtain ⟨s', l, b, g, t, rfl, gb⟩ := id gg
    walk_at "go"
    exact q _ _ ⟨pp, _, _, [_], [], rfl, rfl, rfl, by walk_at "own"⟩
theorem G_twice_plan (T : Tx W0 K mg) : FnOk P W0 K mg base CX0 3 T.f_twice_plan T.d_twice_plan ["rule", "users"] (spPlanF T.C_Rule "twice") := by
  refine T.F_twice_plan.ok sc_twice_plan (fun vs H Q E h => ?_) (fun cdv A outer s H vs Q E hr h => ?_)
  · obtain ⟨r, u, ns, L, I, rfl, _⟩ := h
    rfl
  · obtain ⟨r, u, ns, L, I, rfl, hO, hp, gg, sm, q⟩ := h
    have e0 : planN "twice" ns u = if u < 2 ∨ shareB ns = false then none else some (silN ns, lapseOf ns, 1) := by unfold planN; rw [if_neg (by decide), if_neg (by decide), if_pos rfl]
    rw [e0] at q
    refine ⟨_, (pss_cons (s_if (PW.pt (w_or (t_cmp c_lt (c_var 1) pe_int (nomark _)) (w_or1 (t_not (t_truth (e_call (G_can_share P W0 base T) (hr.mono (by decide)) (by rfl) T.g_can_share T.F_can_share.kp T.b_can_share .nil pass0 (pa_cons (c_var 0) pa_nil)) (fun _ => rfl)))))) (pss_one (ps_ret pe_non)) pss_nil)
    (pss_one (ps_ret (e_tup (pa_cons (e_call (G_silent_borrow P W0 base T) (hr.mono (by decide)) (by rfl) T.g_silent_borrow T.F_silent_borrow.kp T.b_silent_borrow .nil pass0 (pa_cons (c_var 0) pa_nil)) (pa_cons (e_fld (c_var 0)) (pa_cons (e_lst (pa_cons (e_tup (pa_cons pe_str (pa_cons pe_int pa_nil))) pa_nil)) pa_nil))))))), ?_⟩
    walk_at "go"
    refine Br.mk (fun hx => ?_) (fun hx => ?_)
    · have hx := of_decide_eq_true hx
      rw [if_pos (.inl hx)] at q
      walk_at "go"
      exact q _ _ ⟨rfl, hO⟩
    have hx := of_decide_eq_false hx
    walk_at "go"
    refine Br.mk (fun hy => ?_) (fun hy => ?_)
    · have hy : shareB ns = false := by simpa using hy
      rw [if_pos (.inr hy)] at q
      walk_at "go"
      exact q _ _ ⟨rfl, hO⟩
    have hy : shareB ns = true := by simpa using hy
    rw [if_neg (by rw [hy]; intro z; rcases z with z | z; exact hx z; cases z)] at q
    obtain ⟨s', l, b, g, t, rfl, gb⟩ := id gg
    walk_at "go"
    exact q _ _ ⟨pp, _, _, xs, [_], rfl, hxs, rfl, by walk_at "own"⟩
theorem G_waits_plan (T : Tx W0 K mg) : FnOk P W0 K mg base CX0 1 T.f_waits_plan T.d_waits_plan ["rule", "users"] (spPlanF T.C_Rule "waits") := by
  refine T.F_waits_plan.ok sc_waits_plan (fun vs H Q E h => ?_) (fun cdv A outer s H vs Q E hr h => ?_)
  · obtain ⟨r, u, ns, L, I, rfl, _⟩ := h
    rfl
  · obtain ⟨r, u, ns, L, I, rfl, hO, hp, gg, sm, q⟩ := h
    have e0 : planN "waits" ns u = if u ≤ seatsOf ns then none else some (seatsOf ns + 2, 0, 0) := by unfold planN; rw [if_neg (by decide), if_neg (by decide), if_neg (by decide)]
    rw [e0] at q
    obtain ⟨s', l, b, g, t, rfl, gb⟩ := id gg
    have sm : s' ≤ 1000 := sm
    refine ⟨_, (pss_cons (s_if (t_cmp c_le (c_var 1) (e_fld (c_var 0)) (nomark _)) (pss_one (ps_ret pe_non)) pss_nil)
    (pss_cons (s_setlc (i := 2) (own := [("user", 3)]) (by rfl) sc_waits_plan.nd rfl rfl (sw_true rfl rfl rfl (by decide +kernel)) (i_range1 (by rfl) T.range (pa_cons (e_fld (c_var 0)) pa_nil)) (blkOk_by (own := [("user", 3)]) (N := ["rule", "users", "borrows", "user"]) (sc := defScope s_waits_plan) (by decide +kernel)) (fun _ _ _ _ _ => (pg_name (i := 3) sc_waits_plan.nd rfl (Or.inl rfl))) (fun _ _ _ _ _ => pts_nil) (fun _ _ _ _ _ => (e_tup (pa_cons pe_str (pa_cons (c_var 3) pa_nil)))))
    (pss_one (ps_ret (e_tup (pa_cons (e_lst (StX.pa_star (c_var 2) (pa_cons (e_tup (pa_cons pe_str (pa_cons pe_int pa_nil))) (pa_cons (e_tup (pa_cons pe_str (pa_cons (e_fld (c_var 0)) pa_nil))) pa_nil)))) (pa_cons pe_int (pa_cons (e_lst pa_nil) pa_nil)))))))), ?_⟩
    walk_at "go"
    refine Br.mk (fun hx => ?_) (fun hx => ?_)
    · have hx := of_decide_eq_true hx
      have q := (show ∀ H' v, PlanV v H' L I (if u ≤ s' then none else some (s' + 2, 0, 0)) → Q v H' from q)
      rw [if_pos hx] at q
      walk_at "go"
      exact q _ _ ⟨rfl, hO⟩
    have hx := of_decide_eq_false hx
    have q := (show ∀ H' v, PlanV v H' L I (if u ≤ s' then none else some (s' + 2, 0, 0)) → Q v H' from q)
    rw [if_neg hx] at q
    walk_at "go"
    refine newa_o (by assumption) (fun pb wb => ?_)
    refine la_range (fun i H' => ∃ ys : List V, ys.length = i ∧ Own H' (.pt pb (.lst ys) :: L) I) ⟨[], rfl, by walk_at "own"⟩ ?_ ?_
    · rintro i H' hi ⟨ys, hy, e⟩
      unfold LcT
      walk_at "go"
      exact ⟨ys ++ [V.ref pp], by simp [hy], by walk_at "own"⟩
    · rintro H' ⟨ys, hy, e⟩
      walk_at "go"
      exact q _ _ ⟨pp, _, _, ys ++ [_, _], [], rfl, by simp only [List.length_append, hy, List.length_cons, List.length_nil]; omega, rfl, by walk_at "own"⟩
end
theorem held_over (T : Tx W0 K mg) : Held P W0 K mg base 3 T.f_over_plan (spPlanF T.C_Rule "over") := ⟨_, _, fnok_mono (by decide) (G_over_plan P W0 base T), T.F_over_plan.kp, T.b_over_plan⟩
theorem held_taken (T : Tx W0 K mg) : Held P W0 K mg base 3 T.f_taken_plan (spPlanF T.C_Rule "taken") := ⟨_, _, fnok_mono (by decide) (G_taken_plan P W0 base T), T.F_taken_plan.kp, T.b_taken_plan⟩
theorem held_twice (T : Tx W0 K mg) : Held P W0 K mg base 3 T.f_twice_plan (spPlanF T.C_Rule "twice") := ⟨_, _, fnok_mono (by decide) (G_twice_plan P W0 base T), T.F_twice_plan.kp, T.b_twice_plan⟩
theorem held_waits (T : Tx W0 K mg) : Held P W0 K mg base 3 T.f_waits_plan (spPlanF T.C_Rule "waits") := ⟨_, _, fnok_mono (by decide) (G_waits_plan P W0 base T), T.F_waits_plan.kp, T.b_waits_plan⟩
theorem fault_in {z : Str} (h : Fault z) : inV (.str z) [.str "over", .str "taken", .str "twice", .str "waits"] = true := by
  rcases h with rfl | rfl | rfl | rfl <;> decide +kernel
theorem G_plan (T : Tx W0 K mg) : FnOk P W0 K mg base CX0 4 T.f_plan T.d_plan ["rule", "users", "fault"] (spPlan T.C_Rule) := by
  refine T.F_plan.ok sc_plan (fun vs H Q E h => ?_) (fun cdv A outer s H vs Q E hr h => ?_)
  · obtain ⟨r, u, z, ns, L, I, rfl, _⟩ := h
    rfl
  · obtain ⟨r, u, z, ns, L, I, rfl, hO, hp, gg, sm, hz, q⟩ := h
    have hi := fault_in hz
    refine ⟨_, (pss_cons (s_if (t_cmp c_notin (c_var 2) (pe_glob (v := .ref _) (by rfl) T.g_FAULTS rfl) (by with_unfolding_all rfl)) (pss_one ps_never) pss_nil)
    (pss_cons (ps_set (i := 3) sc_plan.nd rfl (Or.inl rfl) (pe_ix c_ixD (pe_glob (v := .ref _) (by rfl) T.g_PLANS rfl) (c_var 2) (fun _ _ => rfl)))
    (pss_one (ps_ret (e_callV (i := 3) 3 (hr.mono (by decide)) rfl (by first | exact Or.inl rfl | exact Or.inr (Or.inl rfl) | exact Or.inr (Or.inr rfl)) (pa_cons (c_var 0) (pa_cons (c_var 1) pa_nil))))))), ?_⟩
    walk_at "go"
    refine br_f (by show (!inV _ _) = false; rw [hi]; rfl) ?_
    walk_at "go"
    rcases hz with rfl | rfl | rfl | rfl
    · refine KD.mk ⟨_, T.kd_PLANS_over, ?_⟩
      walk_at "go"
      refine callv_mk (held_over P W0 base T) ?_
      walk_at "go"
      exact ⟨r, u, ns, L, I, rfl, hO, hp, gg, sm, q⟩
    · refine KD.mk ⟨_, T.kd_PLANS_taken, ?_⟩
      walk_at "go"
      refine callv_mk (held_taken P W0 base T) ?_
      walk_at "go"
      exact ⟨r, u, ns, L, I, rfl, hO, hp, gg, sm, q⟩
    · refine KD.mk ⟨_, T.kd_PLANS_twice, ?_⟩
      walk_at "go"
      refine callv_mk (held_twice P W0 base T) ?_
      walk_at "go"
      exact ⟨r, u, ns, L, I, rfl, hO, hp, gg, sm, q⟩
    · refine KD.mk ⟨_, T.kd_PLANS_waits, ?_⟩
      walk_at "go"
      refine callv_mk (held_waits P W0 base T) ?_
      walk_at "go"
      exact ⟨r, u, ns, L, I, rfl, hO, hp, gg, sm, q⟩
section
set_option hygiene false in
local macro_rules | `(tactic| walk_at "ask") => `(tactic| refine ask_plan (by assumption) (by walk_at "mem") (by assumption) (by assumption) (by assumption) (fun HH v w => ?_))
theorem G_happens (T : Tx W0 K mg) : FnOk P W0 K mg base CX0 5 T.f_happens T.d_happens ["rule", "users", "fault"] (spHappens T.C_Rule) := by
  refine T.F_happens.ok sc_happens (fun vs H Q E h => ?_) (fun cdv A outer s H vs Q E hr h => ?_)
  · obtain ⟨r, u, z, ns, L, I, rfl, _⟩ := h
    rfl
  · obtain ⟨r, u, z, ns, L, I, rfl, hO, hp, gg, sm, hz, q⟩ := h
    refine ⟨_, (pss_one (ps_ret (pe_cmpR c_isnotG (e_call (G_plan P W0 base T) (hr.mono (by decide)) (by rfl) T.g_plan T.F_plan.kp T.b_plan .nil pass0 (pa_cons (c_var 0) (pa_cons (c_var 1) (pa_cons (c_var 2) pa_nil)))) pe_non (nomark _)))), ?_⟩
    walk_at "go"
    generalize planN z ns u = o at w q
    cases o with
    | none =>
      obtain ⟨e, w⟩ := w
      subst e
      exact q _ w
    | some x =>
      obtain ⟨a, n, b⟩ := x
      obtain ⟨p, pa, pb, xs, ys, e, _, _, w⟩ := w
      subst e
      exact q _ (by walk_at "own")
end
end
end My
set_option Elab.async false
set_option linter.all false
set_option maxRecDepth 100000
set_option maxHeartbeats 800000
namespace My
open PySem PySem.Spec PyProof.Rows L2 RZ SkE CL OW
def takenB (ns : List Int) : Bool := (planN "taken" ns 1).isSome
def drawL (ns : List Int) : List Int := [seatsOf ns * perSeat ns - seatsOf ns, lapseOf ns, if takenB ns then 1 else 0]
/-- no less anywhere, more somewhere -/
def betterB (x y : List Int) : Bool := !decide (x = y) && ((x.zip y).map fun p : Int × Int => decide (p.1 ≤ p.2)).all id
def beatsB (n m : List Int) : Bool := betterB (drawL n) (drawL m)
def noMoreB (n m : List Int) : Bool := decide (seatsOf n * perSeat n ≤ seatsOf m * perSeat m)
def spDraws (C : Addr) : Sp := fun vs H Q _ => ∃ (r : Addr) (ns : List Int) (L : List Ck) (I : List (Hp → Prop)), vs = [.ref r] ∧ Own H L I ∧ ruleI C r ns ∈ I ∧ seatsOf ns ≤ 1000 ∧ ∀ H' p, Own H' L (tupI p ((drawL ns).map V.int) :: I) → Q (.ref p) H'
theorem ask_draws {C r : Addr} {ns : List Int} {H : Hp} {Q : VK} {E : XK} {L : List Ck} {I : List (Hp → Prop)} (h : Own H L I) (p : ruleI C r ns ∈ I) (s : seatsOf ns ≤ 1000) (q : ∀ H' p, Own H' L (tupI p ((drawL ns).map V.int) :: I) → Q (.ref p) H') : Ask (spDraws C ([.ref r] ++ []) H Q E) := ⟨r, ns, L, I, rfl, h, p, s, q⟩
def spBetter : Sp := fun vs H Q _ => ∃ (a b : Addr) (x y : List Int) (L : List Ck) (I : List (Hp → Prop)), vs = [.ref a, .ref b] ∧ Own H L I ∧ tupI a (x.map V.int) ∈ I ∧ tupI b (y.map V.int) ∈ I ∧ x.length = y.length ∧ x.length ≤ 1000 ∧ ∀ H', Own H' L I → Q (.bl (betterB x y)) H'
theorem ask_better {a b : Addr} {x y : List Int} {H : Hp} {Q : VK} {E : XK} {L : List Ck} {I : List (Hp → Prop)} (h : Own H L I) (p : tupI a (x.map V.int) ∈ I) (p2 : tupI b (y.map V.int) ∈ I) (l : x.length = y.length) (l2 : x.length ≤ 1000) (q : ∀ H', Own H' L I → Q (.bl (betterB x y)) H') : Ask (spBetter ([.ref a, .ref b] ++ []) H Q E) := ⟨a, b, x, y, L, I, rfl, h, p, p2, l, l2, q⟩
/-- of two rules, a truth -/
def spRRB (C : Addr) (f : List Int → List Int → Bool) : Sp := fun vs H Q _ => ∃ (a b : Addr) (n m : List Int) (L : List Ck) (I : List (Hp → Prop)), vs = [.ref a, .ref b] ∧ Own H L I ∧ ruleI C a n ∈ I ∧ ruleI C b m ∈ I ∧ seatsOf n ≤ 1000 ∧ seatsOf m ≤ 1000 ∧ ∀ H', Own H' L I → Q (.bl (f n m)) H'
theorem ask_rrb {C a b : Addr} {f : List Int → List Int → Bool} {n m : List Int} {H : Hp} {Q : VK} {E : XK} {L : List Ck} {I : List (Hp → Prop)} (h : Own H L I) (p : ruleI C a n ∈ I) (p2 : ruleI C b m ∈ I) (s : seatsOf n ≤ 1000) (s2 : seatsOf m ≤ 1000) (q : ∀ H', Own H' L I → Q (.bl (f n m)) H') : Ask (spRRB C f ([.ref a, .ref b] ++ []) H Q E) := ⟨a, b, n, m, L, I, rfl, h, p, p2, s, s2, q⟩
section
variable (P : Program) (W0 : World) {K : PySem.W.Frag} {mg : Str → Option Value} (base : Heap)
local macro_rules | `(tactic| walk_at "len") => `(tactic| first | assumption | omega | (rw [List.length_map]; omega))
set_option hygiene false in
local macro_rules | `(tactic| walk_at "cls") => `(tactic| first | exact T.c_Rule.cl | exact T.na_Rule_seats | exact T.na_Rule_lapse | exact T.na_Rule_beat | exact T.na_Rule_grace | exact T.na_Rule_late)
local macro_rules | `(tactic| walk_at "fld") => `(tactic| refine fld_rule (by assumption) (by walk_at "mem") (by walk_at "cls") (by walk_at "cls") rfl ?_)
local macro_rules | `(tactic| walk_at "good") => `(tactic| first | assumption | exact good_mk (by omega))
local macro_rules | `(tactic| walk_at "sm") => `(tactic| assumption)
local macro_rules | `(tactic| walk_at "lo") => `(tactic| first | omega | (simp only [lo_0, lo_1, lo_2, lo_3, lo_4]; omega))
set_option hygiene false in
local macro_rules | `(tactic| walk_at "seq") => `(tactic| first | exact T.s_WORDS _ | exact T.s_FAULTS _)
set_option hygiene false in
local macro_rules | `(tactic| walk_at "ask") => `(tactic| first
  | fail)
theorem G_longest_kept (T : Tx W0 K mg) : FnOk P W0 K mg base CX0 1 T.f_longest_kept T.d_longest_kept ["rule"] (spRI T.C_Rule lapseOf) := by
  refine T.F_longest_kept.ok sc_longest_kept (fun vs H Q E h => ?_) (fun cdv A outer s H vs Q E hr h => ?_)
  · obtain ⟨r, ns, L, I, rfl, _⟩ := h
    rfl
  · obtain ⟨r, ns, L, I, rfl, hO, hp, ⟨s', l, b, g, t, rfl, _⟩, q⟩ := h
    refine ⟨_, (pss_one (ps_ret (e_fld (c_var 0)))), ?_⟩
    walk_at "go"
    exact q
set_option hygiene false in
local macro_rules | `(tactic| walk_at "ask") => `(tactic| first
  | refine ask_ri (by assumption) (by walk_at "mem") (by assumption) ?_
  | refine ask_happens (by assumption) (by walk_at "mem") (by assumption) (by assumption) (.inr (.inl rfl)) (fun HH w => ?_)
  | refine ask_draws (by assumption) (by walk_at "mem") (by assumption) (fun HH pq w => ?_)
  | refine ask_better (by assumption) (by walk_at "mem") (by walk_at "mem") rfl (by decide) (fun HH w => ?_))
theorem G_no_more (T : Tx W0 K mg) : FnOk P W0 K mg base CX0 3 T.f_no_more T.d_no_more ["p", "q"] (spRRB T.C_Rule noMoreB) := by
  refine T.F_no_more.ok sc_no_more (fun vs H Q E h => ?_) (fun cdv A outer s H vs Q E hr h => ?_)
  · obtain ⟨a, b, n, m, L, I, rfl, _⟩ := h
    rfl
  · obtain ⟨a, b, n, m, L, I, rfl, hO, ha, hb, _, _, q⟩ := h
    have gn := rule_g hO ha
    have gm := rule_g hO hb
    refine ⟨_, (pss_one (ps_ret (pe_cmpR c_le (e_call (G_most_of_all P W0 base T) (hr.mono (by decide)) (by rfl) T.g_most_of_all T.F_most_of_all.kp T.b_most_of_all .nil pass0 (pa_cons (c_var 0) pa_nil)) (e_call (G_most_of_all P W0 base T) (hr.mono (by decide)) (by rfl) T.g_most_of_all T.F_most_of_all.kp T.b_most_of_all .nil pass0 (pa_cons (c_var 1) pa_nil)) (nomark _)))), ?_⟩
    (conv => whnf)
    refine ask_ri hO ha gn ?_
    (conv => whnf)
    refine ask_ri hO hb gm ?_
    walk_at "go"
    exact q _ hO
theorem G_drawbacks (T : Tx W0 K mg) : FnOk P W0 K mg base CX0 6 T.f_drawbacks T.d_drawbacks ["rule"] (spDraws T.C_Rule) := by
  refine T.F_drawbacks.ok sc_drawbacks (fun vs H Q E h => ?_) (fun cdv A outer s H vs Q E hr h => ?_)
  · obtain ⟨r, ns, L, I, rfl, _⟩ := h
    rfl
  · obtain ⟨r, ns, L, I, rfl, hO, hp, sm, q⟩ := h
    have gg := rule_g hO hp
    obtain ⟨s', l, b, g, t, rfl, gb⟩ := id gg
    refine ⟨_, (pss_cons (ps_set (i := 1) sc_drawbacks.nd rfl (Or.inl rfl) (pe_op c_sub (e_call (G_most_of_all P W0 base T) (hr.mono (by decide)) (by rfl) T.g_most_of_all T.F_most_of_all.kp T.b_most_of_all .nil pass0 (pa_cons (c_var 0) pa_nil)) (e_fld (c_var 0))))
    (pss_one (ps_ret (e_tup (pa_cons (c_var 1) (pa_cons (e_call (G_longest_kept P W0 base T) (hr.mono (by decide)) (by rfl) T.g_longest_kept T.F_longest_kept.kp T.b_longest_kept .nil pass0 (pa_cons (c_var 0) pa_nil)) (pa_cons (pe_callTy k_intG (by rfl) T.int (by decide +kernel) (pa_cons (e_call (G_happens P W0 base T) (hr.mono (by decide)) (by rfl) T.g_happens T.F_happens.kp T.b_happens .nil pass0 (pa_cons (c_var 0) (pa_cons pe_int (pa_cons pe_str pa_nil)))) pa_nil)) pa_nil))))))), ?_⟩
    walk_at "go"
    have w2 := w.addI stable_tup (w.get .head)
    exact q _ pp (by walk_at "own")
theorem G_is_better (T : Tx W0 K mg) : FnOk P W0 K mg base CX0 1 T.f_is_better T.d_is_better ["own", "other"] spBetter := by
  refine T.F_is_better.ok sc_is_better (fun vs H Q E h => ?_) (fun cdv A outer s H vs Q E hr h => ?_)
  · obtain ⟨a, b, x, y, L, I, rfl, _⟩ := h
    rfl
  · obtain ⟨a, b, x, y, L, I, rfl, hO, ha, hb, hl, hl2, q⟩ := h
    have hu64 := Room.units hr
    refine ⟨_, (pss_one (ps_ret (e_and (pe_cmpR (c_ne hu64) (c_var 0) (c_var 1) (nomark _)) (pe_one (pe_callB (k_all (by rfl)) (by rfl) T.all (by decide +kernel) (pa_cons (e_lc (own := [("mine", 2), ("its", 3)]) (by rfl) sc_is_better.nd (i_zip (by rfl) T.zip (pa_cons (c_var 0) (pa_cons (c_var 1) pa_nil))) (blkOk_by (own := [("mine", 2), ("its", 3)]) (N := ["own", "other", "mine", "its"]) (sc := defScope s_is_better) (by decide +kernel)) (fun _ _ _ _ _ => (g_tupKK (K := K) (n := 2) rfl (by rfl) (g_cons (pg_name (i := 2) sc_is_better.nd rfl (Or.inl rfl)) (g_cons (pg_name (i := 3) sc_is_better.nd rfl (Or.inl rfl)) g_nil)))) (fun _ _ _ _ _ => pts_nil) (fun _ _ _ _ _ => (pe_cmpR c_le (c_var 2) (c_var 3) (nomark _)))) pa_nil)))))), ?_⟩
    (conv => whnf)
    refine eqd_ints hO ha hb ?_
    (conv => whnf)
    refine Br.mk (fun hx => ?_) (fun hx => ?_)
    · have hx : decide (x = y) = false := by simpa using hx
      (conv => whnf)
      refine ItZ.mk ⟨_, _, .inr ⟨SqT.of (hO.imp ha), SqT.of (hO.imp hb), ?_⟩⟩
      (conv => whnf)
      refine newa_o hO (fun pb wb => ?_)
      refine la_zipT (xs := x.map V.int) (ys := y.map V.int) (by rw [List.length_map, List.length_map]; exact hl) (fun i H' => i ≤ x.length ∧ Own H' (.pt pb (.lst (((((x.zip y).take i).map fun p : Int × Int => decide (p.1 ≤ p.2)).map V.bl))) :: L) I) ⟨Nat.zero_le _, by walk_at "own"⟩ (fun i H' ⟨_, e⟩ => ⟨SqT.of (e.imp ha), SqT.of (e.imp hb)⟩) ?_ ?_
      · rintro i u v tq H' hx hy ⟨hi, e⟩ htq
        have i1 := lt_get hx
        have i2 := lt_get hy
        rw [List.length_map] at i1 i2
        rw [int_at i1] at hx
        rw [int_at i2] at hy
        have e := e.new (o := .tup [u, v]) htq
        cases hx
        cases hy
        have zg : (x.zip y)[i]? = some (x.getD i 0, y.getD i 0) := by
          rw [List.getElem?_zip_eq_some]
          exact ⟨get_D i1, get_D i2⟩
        have tl : ((x.zip y).take i).length ≤ i := by rw [List.length_take]; omega
        rw [take_map _ zg]
        unfold LcT
        walk_at "go"
        refine ⟨i1, ?_⟩
        rw [map_snoc]
        walk_at "own"
      · rintro H' ⟨_, e⟩
        rw [List.length_map, List.take_of_length_le (by rw [List.length_zip]; omega)] at e
        walk_at "go"
        have e2 : betterB x y = (((x.zip y).map fun p : Int × Int => decide (p.1 ≤ p.2)).all id) := by unfold betterB; rw [hx]; rfl
        rw [← e2]
        exact q _ (by walk_at "own")
    · have hx : decide (x = y) = true := by simpa using hx
      have e2 : betterB x y = false := by unfold betterB; rw [hx]; rfl
      rw [e2] at q
      walk_at "go"
      exact q _ hO
theorem G_beats (T : Tx W0 K mg) : FnOk P W0 K mg base CX0 7 T.f_beats T.d_beats ["p", "q"] (spRRB T.C_Rule beatsB) := by
  refine T.F_beats.ok sc_beats (fun vs H Q E h => ?_) (fun cdv A outer s H vs Q E hr h => ?_)
  · obtain ⟨a, b, n, m, L, I, rfl, _⟩ := h
    rfl
  · obtain ⟨a, b, n, m, L, I, rfl, hO, ha, hb, sn, sm, q⟩ := h
    refine ⟨_, (pss_one (ps_ret (e_call (G_is_better P W0 base T) (hr.mono (by decide)) (by rfl) T.g_is_better T.F_is_better.kp T.b_is_better .nil pass0 (pa_cons (e_call (G_drawbacks P W0 base T) (hr.mono (by decide)) (by rfl) T.g_drawbacks T.F_drawbacks.kp T.b_drawbacks .nil pass0 (pa_cons (c_var 0) pa_nil)) (pa_cons (e_call (G_drawbacks P W0 base T) (hr.mono (by decide)) (by rfl) T.g_drawbacks T.F_drawbacks.kp T.b_drawbacks .nil pass0 (pa_cons (c_var 1) pa_nil)) pa_nil))))), ?_⟩
    (conv => whnf)
    refine ask_draws hO ha sn (fun H1 p w => ?_)
    (conv => whnf)
    refine ask_draws w (List.mem_cons_of_mem _ hb) sm (fun H2 p2 w => ?_)
    (conv => whnf)
    refine ask_better w (List.mem_cons_of_mem _ List.mem_cons_self) List.mem_cons_self rfl (by show 3 ≤ 1000; decide) (fun H3 w => ?_)
    exact q _ (by walk_at "own")
end
end My
set_option Elab.async false
set_option linter.all false
set_option maxRecDepth 100000
set_option maxHeartbeats 800000
namespace My
open PySem PySem.Spec PyProof.Rows L2 RZ SkE CL OW
/-- five numbers drawn: seats to four, others to B -/
def NumB (B : Int) (ns : List Int) : Prop := ∃ s l b g t : Int, ns = [s, l, b, g, t] ∧ (1 ≤ s ∧ s ≤ 4) ∧ (1 ≤ l ∧ l ≤ B) ∧ (1 ≤ b ∧ b ≤ B) ∧ (1 ≤ g ∧ g ≤ B) ∧ 0 ≤ t ∧ t ≤ B
theorem NumB.good {B : Int} {ns : List Int} (h : NumB B ns) (hb : B ≤ 10000000) : Good ns := by
  obtain ⟨s, l, b, g, t, rfl, h⟩ := h
  exact good_mk (by omega)
theorem NumB.up {B C : Int} {ns : List Int} (h : NumB B ns) (hb : B ≤ C) : NumB C ns := by
  obtain ⟨s, l, b, g, t, rfl, h⟩ := h
  exact ⟨s, l, b, g, t, rfl, by omega⟩
theorem NumB.seats {B : Int} {ns : List Int} (h : NumB B ns) : seatsOf ns ≤ 1000 := by
  obtain ⟨s, l, b, g, t, rfl, h⟩ := h
  show s ≤ 1000
  omega
def spNums (B : Int) : Sp := fun vs H Q _ => ∃ (b : Addr) (L R : List Ck) (I : List (Hp → Prop)), vs = [.ref b] ∧ Own H L I ∧ Pull L (boxCk b) R ∧ ∀ H' p ns, NumB B ns → Own H' (boxCk b :: R) (tupI p (ns.map V.int) :: I) → Q (.ref p) H'
theorem ask_nums {B : Int} {b : Addr} {H : Hp} {Q : VK} {E : XK} {L R : List Ck} {I : List (Hp → Prop)} (h : Own H L I) (p : Pull L (boxCk b) R) (q : ∀ H' p ns, NumB B ns → Own H' (boxCk b :: R) (tupI p (ns.map V.int) :: I) → Q (.ref p) H') : Ask (spNums B ([.ref b] ++ []) H Q E) := ⟨b, L, R, I, rfl, h, p, q⟩
def spNear : Sp := fun vs H Q _ => ∃ (b p : Addr) (B : Int) (ns : List Int) (L R : List Ck) (I : List (Hp → Prop)), vs = [.ref b, .ref p] ∧ Own H L I ∧ Pull L (boxCk b) R ∧ tupI p (ns.map V.int) ∈ I ∧ NumB B ns ∧ ∀ H' p ns, NumB (B + 2) ns → Own H' (boxCk b :: R) (tupI p (ns.map V.int) :: I) → Q (.ref p) H'
theorem ask_near {b p : Addr} {B : Int} {ns : List Int} {H : Hp} {Q : VK} {E : XK} {L R : List Ck} {I : List (Hp → Prop)} (h : Own H L I) (e : Pull L (boxCk b) R) (m : tupI p (ns.map V.int) ∈ I) (n : NumB B ns) (q : ∀ H' p ns, NumB (B + 2) ns → Own H' (boxCk b :: R) (tupI p (ns.map V.int) :: I) → Q (.ref p) H') : Ask (spNear ([.ref b, .ref p] ++ []) H Q E) := ⟨b, p, B, ns, L, R, I, rfl, h, e, m, n, q⟩
def spRuled (C : Addr) : Sp := fun vs H Q _ => ∃ (p : Addr) (ns : List Int) (L : List Ck) (I : List (Hp → Prop)), vs = [.ref p] ∧ Own H L I ∧ tupI p (ns.map V.int) ∈ I ∧ Good ns ∧ ∀ H' r, Own H' L (ruleI C r ns :: I) → Q (.ref r) H'
theorem ask_ruled {C p : Addr} {ns : List Int} {H : Hp} {Q : VK} {E : XK} {L : List Ck} {I : List (Hp → Prop)} (h : Own H L I) (e : tupI p (ns.map V.int) ∈ I) (g : Good ns) (q : ∀ H' r, Own H' L (ruleI C r ns :: I) → Q (.ref r) H') : Ask (spRuled C ([.ref p] ++ []) H Q E) := ⟨p, ns, L, I, rfl, h, e, g, q⟩
section
variable (P : Program) (W0 : World) {K : PySem.W.Frag} {mg : Str → Option Value} (base : Heap)
local macro_rules | `(tactic| walk_at "len") => `(tactic| first | assumption | omega | (rw [List.length_map]; omega))
set_option hygiene false in
local macro_rules | `(tactic| walk_at "cls") => `(tactic| first | exact T.c_Rule.cl | exact T.na_Rule_seats | exact T.na_Rule_lapse | exact T.na_Rule_beat | exact T.na_Rule_grace | exact T.na_Rule_late)
local macro_rules | `(tactic| walk_at "fld") => `(tactic| refine fld_rule (by assumption) (by walk_at "mem") (by walk_at "cls") (by walk_at "cls") rfl ?_)
local macro_rules | `(tactic| walk_at "good") => `(tactic| first | assumption | exact good_mk (by omega))
local macro_rules | `(tactic| walk_at "sm") => `(tactic| assumption)
local macro_rules | `(tactic| walk_at "lo") => `(tactic| first | omega | (simp only [lo_0, lo_1, lo_2, lo_3, lo_4]; omega))
set_option hygiene false in
local macro_rules | `(tactic| walk_at "seq") => `(tactic| first | exact T.s_WORDS _ | exact T.s_FAULTS _)
set_option hygiene false in
local macro_rules | `(tactic| walk_at "ask") => `(tactic| first
  | fail)
section
set_option hygiene false in
local macro_rules | `(tactic| walk_at "ask") => `(tactic| first
  | ((with_reducible show Ask (spTake _ _ _ _)); refine ask_take (by assumption) (by walk_at "pull") (by walk_at "sd") (by walk_at "sd") (fun HH d d0 d1 w => ?_)))
theorem G_l_numbers (T : Tx W0 K mg) : FnOk P W0 K mg base CX0 2 T.f_l_numbers T.d_l_numbers ["_law_box_here"] (spNums 4) := by
  refine T.F_l_numbers.ok sc_l_numbers (fun vs H Q E h => ?_) (fun cdv A outer s H vs Q E hr h => ?_)
  · obtain ⟨b, L, R, I, rfl, _⟩ := h
    rfl
  · obtain ⟨b, L, R, I, rfl, hO, hp, q⟩ := h
    refine ⟨_, (pss_cons (s_setlc (i := 1) (own := [("_law_turn", 2)]) (by rfl) sc_l_numbers.nd rfl rfl (sw_true rfl rfl rfl (by decide +kernel)) (i_range1 (by rfl) T.range (pa_cons pe_int pa_nil)) (blkOk_by (own := [("_law_turn", 2)]) (N := ["_law_box_here", "_law_some", "_law_turn"]) (sc := defScope s_l_numbers) (by decide +kernel)) (fun _ _ _ _ _ => (pg_name (i := 2) sc_l_numbers.nd rfl (Or.inl rfl))) (fun _ _ _ _ _ => pts_nil) (fun _ _ _ _ _ => (pe_op (c_addGK (K := K) rfl) pe_int (e_call (G_l_take P W0 base T) (hr.mono (by decide)) (by rfl) T.g_l_take T.F_l_take.kp T.b_l_take .nil pass0 (pa_cons (c_var 0) (pa_cons pe_int pa_nil))))))
    (pss_one (ps_ret (e_tup (pa_cons (pe_op c_addG pe_int (e_call (G_l_take P W0 base T) (hr.mono (by decide)) (by rfl) T.g_l_take T.F_l_take.kp T.b_l_take .nil pass0 (pa_cons (c_var 0) (pa_cons pe_int pa_nil)))) (pa_cons (pe_ix (c_ixK (K := K) rfl) (c_var 1) pe_int (fun _ _ => rfl)) (pa_cons (pe_ix (c_ixK (K := K) rfl) (c_var 1) pe_int (fun _ _ => rfl)) (pa_cons (pe_ix (c_ixK (K := K) rfl) (c_var 1) pe_int (fun _ _ => rfl)) (pa_cons (e_call (G_l_take P W0 base T) (hr.mono (by decide)) (by rfl) T.g_l_take T.F_l_take.kp T.b_l_take .nil pass0 (pa_cons (c_var 0) (pa_cons pe_int pa_nil))) pa_nil))))))))), ?_⟩
    walk_at "go"
    refine newa_o (by assumption) (fun p w => ?_)
    have w1 := w.pull (.tail hp)
    refine la_range (fun i H' => ∃ cs : List Int, cs.length = i ∧ (∀ c ∈ cs, 1 ≤ c ∧ c ≤ 4) ∧ Own H' (.pt p (.lst (cs.map V.int)) :: boxCk b :: R) I) ⟨[], rfl, fun c m => (List.not_mem_nil m).elim, by walk_at "own"⟩ ?_ ?_
    · rintro i H' hi ⟨cs, hc, hb, e⟩
      have hi : i < 3 := hi
      unfold LcT
      walk_at "go"
      rw [← map_snoc V.int] at w
      exact ⟨cs ++ [1 + d], by simp [hc], fun c m => by rcases List.mem_append.mp m with m | m; exact hb c m; rw [List.mem_singleton.mp m]; omega, by walk_at "own"⟩
    · rintro H' ⟨cs, hc, hb, e⟩
      have hc : cs.length = 3 := hc
      match cs, hc with
      | [l, bb, g], _ =>
      have h1 := hb l (by simp)
      have h2 := hb bb (by simp)
      have h3 := hb g (by simp)
      walk_at "go"
      rename_i _ sd sd0 sd1 _ _ _
      have w := w.addI (S := tupI pp ([1 + sd, l, bb, g, d].map V.int)) stable_tup (w.get .head)
      exact q _ _ [1 + sd, l, bb, g, d] ⟨_, _, _, _, _, rfl, by omega, by omega, by omega, by omega, by omega, by omega⟩ (by walk_at "own")
theorem G_l_near (T : Tx W0 K mg) : FnOk P W0 K mg base CX0 2 T.f_l_near T.d_l_near ["_law_box_here", "_law_given"] spNear := by
  refine T.F_l_near.ok sc_l_near (fun vs H Q E h => ?_) (fun cdv A outer s H vs Q E hr h => ?_)
  · obtain ⟨b, p, B, ns, L, R, I, rfl, _⟩ := h
    rfl
  · obtain ⟨b, p, B, ns, L, R, I, rfl, hO, hp, hm, hn, q⟩ := h
    obtain ⟨s', l, bb, g, t, rfl, n1, n2, n3, n4, n5⟩ := id hn
    refine ⟨_, (pss_cons (s_par (i := 2) (j := 3) (by rfl) sc_l_near.nd rfl rfl (by decide) rfl rfl (pa_cons (pe_callTy k_list (by rfl) T.list (by decide +kernel) (pa_cons (c_var 1) pa_nil)) (pa_cons (e_call (G_l_take P W0 base T) (hr.mono (by decide)) (by rfl) T.g_l_take T.F_l_take.kp T.b_l_take .nil pass0 (pa_cons (c_var 0) (pa_cons pe_int pa_nil))) pa_nil)) (by rfl))
    (pss_cons (ps_asg (pe_callB (k_maxG (by rfl)) (by rfl) T.max (by decide +kernel) (pa_cons (pe_ix (c_ixK (K := K) rfl) (e_lst (pa_cons pe_int (pa_cons pe_int (pa_cons pe_int (pa_cons pe_int (pa_cons pe_int pa_nil)))))) (c_var 3) (fun _ _ => rfl)) (pa_cons (pe_op c_sub (pe_op c_addG (pe_ix (c_ixK (K := K) rfl) (c_var 2) (c_var 3) (fun _ _ => rfl)) (e_call (G_l_take P W0 base T) (hr.mono (by decide)) (by rfl) T.g_l_take T.F_l_take.kp T.b_l_take .nil pass0 (pa_cons (c_var 0) (pa_cons pe_int pa_nil)))) pe_int) pa_nil))) (pg_sub (c_var 2) (c_var 3) p_set))
    (pss_one (ps_ret (e_if (t_cmp c_lt (pe_ix (c_ixK (K := K) rfl) (c_var 2) pe_int (fun _ _ => rfl)) pe_int (nomark _)) (pe_callTy k_tuple (by rfl) T.tuple (by decide +kernel) (pa_cons (c_var 2) pa_nil)) (c_var 1)))))), ?_⟩
    walk_at "go"
    have hd : d = 0 ∨ d = 1 ∨ d = 2 ∨ d = 3 ∨ d = 4 := by omega
    rcases hd with rfl | rfl | rfl | rfl | rfl
    · walk_at "go"
      have hv : 1 ≤ (if s' + d - 2 > 1 then s' + d - 2 else 1) := by split <;> omega
      refine Br.mk (fun hx => ?_) (fun hx => ?_)
      · have hx : (if s' + d - 2 > 1 then s' + d - 2 else 1) < 5 := of_decide_eq_true hx
        walk_at "go"
        have w := w.addI (S := tupI pp ([(if s' + d - 2 > 1 then s' + d - 2 else 1), l, bb, g, t].map V.int)) stable_tup (w.get .head)
        exact q _ _ [(if s' + d - 2 > 1 then s' + d - 2 else 1), l, bb, g, t] ⟨_, _, _, _, _, rfl, by omega, by omega, by omega, by omega, by omega, by omega⟩ (by walk_at "own")
      · walk_at "go"
        exact q _ _ _ (hn.up (by omega)) (by walk_at "own")
    · walk_at "go"
      have hv : 1 ≤ (if l + d - 2 > 1 then l + d - 2 else 1) ∧ (if l + d - 2 > 1 then l + d - 2 else 1) ≤ B + 2 := by split <;> omega
      have w := w.addI (S := tupI pp ([s', (if l + d - 2 > 1 then l + d - 2 else 1), bb, g, t].map V.int)) stable_tup (w.get .head)
      exact q _ _ [s', (if l + d - 2 > 1 then l + d - 2 else 1), bb, g, t] ⟨_, _, _, _, _, rfl, by omega, by omega, by omega, by omega, by omega, by omega⟩ (by walk_at "own")
    · walk_at "go"
      have hv : 1 ≤ (if bb + d - 2 > 1 then bb + d - 2 else 1) ∧ (if bb + d - 2 > 1 then bb + d - 2 else 1) ≤ B + 2 := by split <;> omega
      have w := w.addI (S := tupI pp ([s', l, (if bb + d - 2 > 1 then bb + d - 2 else 1), g, t].map V.int)) stable_tup (w.get .head)
      exact q _ _ [s', l, (if bb + d - 2 > 1 then bb + d - 2 else 1), g, t] ⟨_, _, _, _, _, rfl, by omega, by omega, by omega, by omega, by omega, by omega⟩ (by walk_at "own")
    · walk_at "go"
      have hv : 1 ≤ (if g + d - 2 > 1 then g + d - 2 else 1) ∧ (if g + d - 2 > 1 then g + d - 2 else 1) ≤ B + 2 := by split <;> omega
      have w := w.addI (S := tupI pp ([s', l, bb, (if g + d - 2 > 1 then g + d - 2 else 1), t].map V.int)) stable_tup (w.get .head)
      exact q _ _ [s', l, bb, (if g + d - 2 > 1 then g + d - 2 else 1), t] ⟨_, _, _, _, _, rfl, by omega, by omega, by omega, by omega, by omega, by omega⟩ (by walk_at "own")
    · walk_at "go"
      have hv : 0 ≤ (if t + d - 2 > 0 then t + d - 2 else 0) ∧ (if t + d - 2 > 0 then t + d - 2 else 0) ≤ B + 2 := by split <;> omega
      have w := w.addI (S := tupI pp ([s', l, bb, g, (if t + d - 2 > 0 then t + d - 2 else 0)].map V.int)) stable_tup (w.get .head)
      exact q _ _ [s', l, bb, g, (if t + d - 2 > 0 then t + d - 2 else 0)] ⟨_, _, _, _, _, rfl, by omega, by omega, by omega, by omega, by omega, by omega⟩ (by walk_at "own")
end
theorem G_l_ruled (T : Tx W0 K mg) : FnOk P W0 K mg base CX0 5 T.f_l_ruled T.d_l_ruled ["_law_given"] (spRuled T.C_Rule) := by
  refine T.F_l_ruled.ok sc_l_ruled (fun vs H Q E h => ?_) (fun cdv A outer s H vs Q E hr h => ?_)
  · obtain ⟨p, ns, L, I, rfl, _⟩ := h
    rfl
  · obtain ⟨p, ns, L, I, rfl, hO, hp, gg, q⟩ := h
    obtain ⟨s, l, b, g, t, rfl, _⟩ := id gg
    refine ⟨_, (pss_one (ps_ret (e_make T.mk_Rule (G_Rule_init P W0 base T) (hr.mono (by decide)) (by rfl) T.c_Rule.g T.b_Rule_init .nil pass0 (pa_cons (pe_ix (c_ixK (K := K) rfl) (c_var 0) pe_int (fun _ _ => rfl)) (pa_cons (pe_ix (c_ixK (K := K) rfl) (c_var 0) pe_int (fun _ _ => rfl)) (pa_cons (pe_ix (c_ixK (K := K) rfl) (c_var 0) pe_int (fun _ _ => rfl)) (pa_cons (pe_ix (c_ixK (K := K) rfl) (c_var 0) pe_int (fun _ _ => rfl)) (pa_cons (pe_ix (c_ixK (K := K) rfl) (c_var 0) pe_int (fun _ _ => rfl)) pa_nil)))))))), ?_⟩
    walk_at "go"
    exact ask_init (ns := [s, l, b, g, t]) rfl gg hO (fun r H' w => q _ _ w)
end
end My
set_option Elab.async false
set_option linter.all false
set_option maxRecDepth 100000
set_option maxHeartbeats 800000
namespace My
open PySem PySem.Spec PyProof.Rows L2 RZ SkE CL OW
/-- a row of rules -/
@[irreducible] def rulesI (C : Addr) (rs : List Addr) (nss : List (List Int)) : Hp → Prop := fun H => rs.length = nss.length ∧ ∀ (i : Nat) (r : Addr) (ns : List Int), rs[i]? = some r → nss[i]? = some ns → ruleI C r ns H
theorem stable_rules {C : Addr} {rs : List Addr} {nss : List (List Int)} : Stable (rulesI C rs nss) := fun H H' k h => by
  unfold rulesI at h ⊢
  exact ⟨h.1, fun i r ns a b => stable_rule H H' k (h.2 i r ns a b)⟩
theorem rules_nil {C : Addr} {H : Hp} : rulesI C [] [] H := by
  unfold rulesI
  exact ⟨rfl, fun i r ns a _ => by cases a⟩
theorem rules_snoc {C : Addr} {rs : List Addr} {nss : List (List Int)} {r : Addr} {ns : List Int} {H : Hp} (h : rulesI C rs nss H) (g : ruleI C r ns H) : rulesI C (rs ++ [r]) (nss ++ [ns]) H := by
  unfold rulesI at h ⊢
  refine ⟨by rw [List.length_append, List.length_append, h.1]; rfl, fun i r' ns' a b => ?_⟩
  by_cases hi : i < rs.length
  · rw [List.getElem?_append_left hi] at a
    rw [List.getElem?_append_left (by rw [← h.1]; exact hi)] at b
    exact h.2 i r' ns' a b
  · have e : i = rs.length := by
      have := lt_get a
      rw [List.length_append] at this
      simp at this
      omega
    subst e
    rw [List.getElem?_append_right (Nat.le_refl _), Nat.sub_self] at a
    rw [h.1, List.getElem?_append_right (Nat.le_refl _), Nat.sub_self] at b
    cases a
    cases b
    exact g
theorem rules_len {C : Addr} {rs : List Addr} {nss : List (List Int)} {H : Hp} {L : List Ck} {I : List (Hp → Prop)} (h : Own H L I) (m : rulesI C rs nss ∈ I) : rs.length = nss.length := by
  have q := h.imp m
  unfold rulesI at q
  exact q.1
theorem rules_at {C : Addr} {rs : List Addr} {nss : List (List Int)} {H : Hp} {L : List Ck} {I : List (Hp → Prop)} {i : Nat} {x : V} (h : Own H L I) (m : rulesI C rs nss ∈ I) (hx : (rs.map V.ref)[i]? = some x) : ∃ r ns, x = .ref r ∧ rs[i]? = some r ∧ nss[i]? = some ns ∧ ruleI C r ns H := by
  have q := h.imp m
  unfold rulesI at q
  rw [List.getElem?_map] at hx
  cases hr : rs[i]? with
  | none => rw [hr] at hx; cases hx
  | some r =>
    rw [hr] at hx
    cases hx
    have hi := lt_get hr
    have hn : nss[i]? = some (nss[i]'(by rw [← q.1]; exact hi)) := List.getElem?_eq_getElem _
    exact ⟨r, _, rfl, rfl, hn, q.2 i r _ hr hn⟩
/-- which are beaten by none -/
def bestD (dr : List (List Int)) : List Int := (upI dr.length).filter fun i => !((dr.map fun o => betterB o (dr.getD i.toNat [])).any id)
def bestL (nss : List (List Int)) : List Int := bestD (nss.map drawL)
def bestU (dr : List (List Int)) (n : Nat) : List Int := (upI n).filter fun i => !((dr.map fun o => betterB o (dr.getD i.toNat [])).any id)
theorem bestU_succ (dr : List (List Int)) (n : Nat) : bestU dr (n + 1) = bestU dr n ++ (if (dr.map fun o => betterB o (dr.getD n [])).any id = true then [] else [(n : Int)]) := by
  unfold bestU
  rw [upI_succ, List.filter_append]
  congr 1
  rw [List.filter_cons, Int.toNat_natCast]
  cases (dr.map fun o => betterB o (dr.getD n [])).any id <;> rfl
theorem bestU_len (dr : List (List Int)) (n : Nat) : (bestU dr n).length ≤ n := Nat.le_trans (List.length_filter_le _ _) (by rw [upI_len]; exact Nat.le_refl _)
def spBestOf (C : Addr) : Sp := fun vs H Q _ => ∃ (w : Addr) (k : Bool) (rs : List Addr) (nss : List (List Int)) (L : List Ck) (I : List (Hp → Prop)), vs = [.ref w] ∧ Own H L I ∧ SeqW k L I w (rs.map V.ref) ∧ rulesI C rs nss ∈ I ∧ (∀ ns ∈ nss, seatsOf ns ≤ 1000) ∧ nss.length ≤ 1000 ∧ ∀ H' p, Own H' (.pt p (.tup ((bestL nss).map V.int)) :: L) I → Q (.ref p) H'
theorem ask_bestof {C w : Addr} (k : Bool) {rs : List Addr} {nss : List (List Int)} {H : Hp} {Q : VK} {E : XK} {L : List Ck} {I : List (Hp → Prop)} (h : Own H L I) (e : SeqW k L I w (rs.map V.ref)) (m : rulesI C rs nss ∈ I) (s : ∀ ns ∈ nss, seatsOf ns ≤ 1000) (l : nss.length ≤ 1000) (q : ∀ H' p, Own H' (.pt p (.tup ((bestL nss).map V.int)) :: L) I → Q (.ref p) H') : Ask (spBestOf C ([.ref w] ++ []) H Q E) := ⟨w, k, rs, nss, L, I, rfl, h, e, m, s, l, q⟩
section
variable (P : Program) (W0 : World) {K : PySem.W.Frag} {mg : Str → Option Value} (base : Heap)
local macro_rules | `(tactic| walk_at "len") => `(tactic| first | assumption | omega | (rw [List.length_map]; omega))
set_option hygiene false in
local macro_rules | `(tactic| walk_at "cls") => `(tactic| first | exact T.c_Rule.cl | exact T.na_Rule_seats | exact T.na_Rule_lapse | exact T.na_Rule_beat | exact T.na_Rule_grace | exact T.na_Rule_late)
local macro_rules | `(tactic| walk_at "fld") => `(tactic| refine fld_rule (by assumption) (by walk_at "mem") (by walk_at "cls") (by walk_at "cls") rfl ?_)
local macro_rules | `(tactic| walk_at "good") => `(tactic| first | assumption | exact good_mk (by omega))
local macro_rules | `(tactic| walk_at "sm") => `(tactic| assumption)
local macro_rules | `(tactic| walk_at "lo") => `(tactic| first | omega | (simp only [lo_0, lo_1, lo_2, lo_3, lo_4]; omega))
set_option hygiene false in
local macro_rules | `(tactic| walk_at "seq") => `(tactic| first | exact T.s_WORDS _ | exact T.s_FAULTS _)
set_option hygiene false in
local macro_rules | `(tactic| walk_at "ask") => `(tactic| first
  | fail)
theorem G_best_of (T : Tx W0 K mg) : FnOk P W0 K mg base CX0 7 T.f_best_of T.d_best_of ["rules"] (spBestOf T.C_Rule) := by
  refine T.F_best_of.ok sc_best_of (fun vs H Q E h => ?_) (fun cdv A outer s H vs Q E hr h => ?_)
  · obtain ⟨w, k, rs, nss, L, I, rfl, _⟩ := h
    rfl
  · obtain ⟨w, k, rs, nss, L, I, rfl, hO, hw, hm, hs, hl, q⟩ := h
    have rl := rules_len hO hm
    refine ⟨_, (pss_cons (ps_set (i := 1) sc_best_of.nd rfl (Or.inr rfl) (e_lc (own := [("rule", 2)]) (by rfl) sc_best_of.nd (i_val (c_var 0)) (blkOk_by (own := [("rule", 2)]) (N := ["rules", "found", "rule", "at", "own", "other"]) (sc := defScope s_best_of) (by decide +kernel)) (fun _ _ _ _ _ => (pg_name (i := 2) sc_best_of.nd rfl (Or.inl rfl))) (fun _ _ _ _ _ => pts_nil) (fun _ _ _ _ _ => (e_call (G_drawbacks P W0 base T) (hr.mono (by decide)) (by rfl) T.g_drawbacks T.F_drawbacks.kp T.b_drawbacks .nil pass0 (pa_cons (c_var 2) pa_nil)))))
    (pss_one (ps_ret (pe_callTy k_tuple (by rfl) T.tuple (by decide +kernel) (pa_cons (e_lc (own := [("at", 3), ("own", 4)]) (by rfl) sc_best_of.nd (i_enum (by rfl) T.enumerate (pa_cons (c_var 1) pa_nil)) (blkOk_by (own := [("at", 3), ("own", 4)]) (N := ["rules", "found", "rule", "at", "own", "other"]) (sc := defScope s_best_of) (by decide +kernel)) (fun _ _ _ _ _ => (g_tupKK (K := K) (n := 2) rfl (by rfl) (g_cons (pg_name (i := 3) sc_best_of.nd rfl (Or.inl rfl)) (g_cons (pg_name (i := 4) sc_best_of.nd rfl (Or.inr rfl)) g_nil)))) (fun _ _ _ _ _ => (pts_one (t_not (t_truthK (K := K) rfl (pe_callB (k_anyK (K := K) rfl (by rfl)) (by rfl) T.any (by decide +kernel) (pa_cons (e_lc (own := [("other", 5)]) (by rfl) sc_best_of.nd (i_valK (K := K) rfl (c_var 1)) (by (conv => arg 2; whnf); exact blkOk_by (own := [("other", 5)]) (N := ["rules", "found", "rule", "at", "own", "other"]) (by rfl)) (fun _ _ _ _ _ => (pg_name (i := 5) sc_best_of.nd rfl (Or.inl rfl))) (fun _ _ _ _ _ => pts_nil) (fun _ _ _ _ _ => (e_call (G_is_better P W0 base T) (hr.mono (by decide)) (by rfl) T.g_is_better T.F_is_better.kp T.b_is_better .nil pass0 (pa_cons (c_var 5) (pa_cons (c_var 4) pa_nil))))) pa_nil)) (fun _ => rfl))))) (fun _ _ _ _ _ => (c_var 3))) pa_nil))))), ?_⟩
    (conv => whnf)
    refine seqw_la hO hw (fun p i H' => ∃ xs : List V, i ≤ nss.length ∧ Own H' (.pt p (.lst xs) :: L) (idsI xs (((nss.take i).map drawL).map numD) :: I)) (fun p H' w => ⟨[], Nat.zero_le _, by have w := w.idsD IDpAll.nil; walk_at "own"⟩) (fun p i H' ⟨_, _, q⟩ => ⟨_, _, q, hw.tail.more⟩) ?_ ?_
    · rintro p i x H' hx ⟨xs, hi, e⟩
      obtain ⟨r, ns, rfl, hr', hn, hR⟩ := rules_at e (List.mem_cons_of_mem _ hm) hx
      have e := e.addI stable_rule hR
      have i1 := lt_get hn
      have xl := (e.imp (List.mem_cons_of_mem _ List.mem_cons_self)).len
      rw [List.length_map, List.length_map, List.length_take] at xl
      have te : (((nss.take (i + 1)).map drawL).map numD) = ((nss.take i).map drawL).map numD ++ [numD (drawL ns)] := by rw [take_map _ hn, map_snoc]
      unfold LcT
      walk_at "go"
      refine ask_draws e List.mem_cons_self (hs _ (List.mem_of_getElem? hn)) (fun HH pq w => ?_)
      walk_at "go"
      have w2 := w.idsD (IDpAll.snoc (d := numD (drawL ns)) (w.imp (S := idsI xs (((nss.take i).map drawL).map numD)) (by walk_at "mem")) (IDp.nums (w.imp (by walk_at "mem"))))
      rw [te]
      exact ⟨_, i1, by walk_at "own"⟩
    rintro pl H' ⟨xs, _, e⟩
    rw [List.length_map, rl, List.take_length] at e
    obtain ⟨dr, hdr⟩ : ∃ x, x = nss.map drawL := ⟨_, rfl⟩
    have d3 : ∀ o ∈ dr, o.length = 3 := fun o m => by
      rw [hdr] at m
      obtain ⟨ns, _, rfl⟩ := List.mem_map.mp m
      rfl
    have dl : dr.length ≤ 1000 := by rw [hdr, List.length_map]; exact hl
    rw [← hdr] at e
    have xl := (e.imp List.mem_cons_self).len
    rw [List.length_map] at xl
    walk_at "go"
    refine newa_o e (fun pe we => ?_)
    refine la_enum (xs := xs) (fun i H' => Own H' (.pt pe (.lst ((bestU dr i).map V.int)) :: .pt pl (.lst xs) :: L) (idsI xs (dr.map numD) :: I)) (by walk_at "own") (fun i H' _ e => SqL.of (e.get (by walk_at "pull"))) ?_ ?_
    · rintro i x tq H2 hx e htq
      obtain ⟨ao, own, rfl, ho, hao⟩ := ids_nums (e.imp List.mem_cons_self) hx
      have e := (e.addI stable_tup hao).new (o := .tup [.int (i : Nat), .ref ao]) htq
      have i1 := lt_get ho
      have bl := bestU_len dr i
      have dg : dr.getD i [] = own := by rw [List.getD_eq_getElem?_getD, ho]; rfl
      have bs := bestU_succ dr i
      rw [dg] at bs
      have own3 := d3 own (List.mem_of_getElem? ho)
      unfold LcT
      walk_at "go"
      refine newa_o e (fun pi wi => ?_)
      refine la_list (xs := xs) (fun j H3 => Own H3 (.pt pi (.lst (((dr.take j).map fun o => betterB o own).map V.bl)) :: .pt tq (.tup [.int (i : Nat), .ref ao]) :: .pt pe (.lst ((bestU dr i).map V.int)) :: .pt pl (.lst xs) :: L) (tupI ao (own.map V.int) :: idsI xs (dr.map numD) :: I)) (by walk_at "own") (fun j H' _ e => SqL.of (e.get (by walk_at "pull"))) ?_ ?_
      · rintro j y H3 hy e
        obtain ⟨a2, o, rfl, ho2, ha2⟩ := ids_nums (e.imp (List.mem_cons_of_mem _ List.mem_cons_self)) hy
        have e := e.addI stable_tup ha2
        have j1 := lt_get ho2
        have o3 := d3 o (List.mem_of_getElem? ho2)
        rw [take_map (fun o => betterB o own) ho2]
        unfold LcT
        walk_at "go"
        refine ask_better e List.mem_cons_self (List.mem_cons_of_mem _ List.mem_cons_self) (by omega) (by omega) (fun HH w => ?_)
        walk_at "go"
        rw [map_snoc]
        walk_at "own"
      · rintro H3 e
        rw [xl, List.take_length] at e
        walk_at "go"
        refine Br.mk (fun hz => ?_) (fun hz => ?_)
        · have hz : (dr.map fun o => betterB o own).any id = false := by simpa using hz
          rw [if_neg (by rw [hz]; decide)] at bs
          rw [bs, map_snoc]
          walk_at "go"
          walk_at "own"
        · have hz : (dr.map fun o => betterB o own).any id = true := by simpa using hz
          rw [if_pos hz, List.append_nil] at bs
          rw [bs]
          walk_at "own"
    · rintro H2 e
      rw [xl] at e
      walk_at "go"
      have be : bestU dr dr.length = bestL nss := by unfold bestL; rw [hdr]; rfl
      rw [be] at w
      exact q _ _ (by walk_at "own")
end
end My
set_option Elab.async false
set_option linter.all false
set_option maxRecDepth 100000
set_option maxHeartbeats 800000
namespace My
open PySem PySem.Spec PyProof.Rows L2 RZ SkE CL OW
def rtext : List Int → Str
  | [a0, a1, a2, a3, a4] => Str.empty ++ Str.ofString "seats " ++ Str.ofString (toString a0) ++ Str.ofString " lapse " ++ Str.ofString (toString a1) ++ Str.ofString " beat " ++ Str.ofString (toString a2) ++ Str.ofString " grace " ++ Str.ofString (toString a3) ++ Str.ofString " late " ++ Str.ofString (toString a4)
  | _ => Str.empty
def spStr (C : Addr) : Sp := fun vs H Q _ => ∃ (r : Addr) (ns : List Int) (L : List Ck) (I : List (Hp → Prop)), vs = [.ref r] ∧ Own H L I ∧ ruleI C r ns ∈ I ∧ Good ns ∧ Q (.str (rtext ns)) H
theorem owns_rule {C r : Addr} {ns : List Int} {H : Hp} {Q : VK} {E : XK} {L : List Ck} {I : List (Hp → Prop)} (h : Own H L I) (p : ruleI C r ns ∈ I) (g : Good ns) (q : Q (.str (rtext ns)) H) : OwnS C (spStr C) E r H Q := by
  obtain ⟨dx, w⟩ := rule_open h p
  exact ⟨dx, _, w, r, ns, L, I, rfl, h, p, g, q⟩
theorem e_0 : Str.length Str.empty = 0 := rfl
theorem e_1 : Str.length "seats " = 6 := by decide +kernel
theorem e_2 : Str.length " lapse " = 7 := by decide +kernel
theorem e_3 : Str.length " beat " = 6 := by decide +kernel
theorem e_4 : Str.length " grace " = 7 := by decide +kernel
theorem e_5 : Str.length " late " = 6 := by decide +kernel
section
variable (P : Program) (W0 : World) {K : PySem.W.Frag} {mg : Str → Option Value} (base : Heap)
local macro_rules | `(tactic| walk_at "len") => `(tactic| (have sl := sizeLine_eq; simp only [Str.length_append, e_0, e_1, e_2, e_3, e_4, e_5]; omega))
set_option hygiene false in
local macro_rules | `(tactic| walk_at "cls") => `(tactic| first | exact T.c_Rule.cl | exact T.na_Rule_seats | exact T.na_Rule_lapse | exact T.na_Rule_beat | exact T.na_Rule_grace | exact T.na_Rule_late)
local macro_rules | `(tactic| walk_at "fld") => `(tactic| refine fld_rule (by assumption) (by walk_at "mem") (by walk_at "cls") (by walk_at "cls") rfl ?_)
local macro_rules | `(tactic| walk_at "good") => `(tactic| first | assumption | exact good_mk (by omega))
local macro_rules | `(tactic| walk_at "sm") => `(tactic| assumption)
local macro_rules | `(tactic| walk_at "lo") => `(tactic| first | omega | (simp only [lo_0, lo_1, lo_2, lo_3, lo_4]; omega))
set_option hygiene false in
local macro_rules | `(tactic| walk_at "seq") => `(tactic| first | exact T.s_WORDS _ | exact T.s_FAULTS _)
set_option hygiene false in
local macro_rules | `(tactic| walk_at "ask") => `(tactic| first
  | fail)
theorem G_Rule_str (T : Tx W0 K mg) : FnOk P W0 K mg base CX0 1 T.f_Rule_str T.d_Rule_str ["self"] (spStr T.C_Rule) := by
  refine T.F_Rule_str.ok sc_Rule_str (fun vs H Q E h => ?_) (fun cdv A outer s H vs Q E hr h => ?_)
  · obtain ⟨r, ns, L, I, rfl, _⟩ := h
    rfl
  · obtain ⟨r, ns, L, I, rfl, hO, hp, ⟨a0, a1, a2, a3, a4, rfl, ⟨l0, l1, l2, l3, l4⟩, u0, u1, u2, u3, u4⟩, k⟩ := h
    have z0 := log_of (by omega) u0
    have z1 := log_of (by omega) u1
    have z2 := log_of (by omega) u2
    have z3 := log_of (by omega) u3
    have z4 := log_of l4 u4
    have y0 := int_text_len_1921 z0
    have y1 := int_text_len_1921 z1
    have y2 := int_text_len_1921 z2
    have y3 := int_text_len_1921 z3
    have y4 := int_text_len_1921 z4
    refine ⟨_, (pss_one (ps_ret (e_joined (PJ.cons pe_str (PJ.cons (e_fmt (e_fld (c_var 0))) (PJ.cons pe_str (PJ.cons (e_fmt (e_fld (c_var 0))) (PJ.cons pe_str (PJ.cons (e_fmt (e_fld (c_var 0))) (PJ.cons pe_str (PJ.cons (e_fmt (e_fld (c_var 0))) (PJ.cons pe_str (PJ.cons (e_fmt (e_fld (c_var 0))) PJ.nil))))))))))))), ?_⟩
    walk_at "go"
    exact k
end
end My
set_option Elab.async false
set_option linter.all false
set_option maxRecDepth 100000
set_option maxHeartbeats 800000
namespace My
open PySem PySem.Spec PyProof.Rows L2 RZ SkE CL OW
def spEqR (C : Addr) : Sp := fun vs H Q _ => ∃ (a b : Addr) (n m : List Int) (L : List Ck) (I : List (Hp → Prop)), vs = [.ref a, .ref b] ∧ Own H L I ∧ ruleI C a n ∈ I ∧ ruleI C b m ∈ I ∧ Q (.bl (decide (n = m))) H
section
variable (P : Program) (W0 : World) {K : PySem.W.Frag} {mg : Str → Option Value} (base : Heap)
set_option hygiene false in
local macro_rules | `(tactic| walk_at "cls") => `(tactic| first | exact T.c_Rule.cl | exact T.na_Rule_seats | exact T.na_Rule_lapse | exact T.na_Rule_beat | exact T.na_Rule_grace | exact T.na_Rule_late)
local macro_rules | `(tactic| walk_at "fld") => `(tactic| refine fld_rule (by assumption) (by walk_at "mem") (by walk_at "cls") (by walk_at "cls") rfl ?_)
local macro_rules | `(tactic| walk_at "good") => `(tactic| first | assumption | exact good_mk (by omega))
local macro_rules | `(tactic| walk_at "sm") => `(tactic| assumption)
local macro_rules | `(tactic| walk_at "lo") => `(tactic| first | omega | (simp only [lo_0, lo_1, lo_2, lo_3, lo_4]; omega))
set_option hygiene false in
local macro_rules | `(tactic| walk_at "seq") => `(tactic| first | exact T.s_WORDS _ | exact T.s_FAULTS _)
set_option hygiene false in
local macro_rules | `(tactic| walk_at "ask") => `(tactic| first
  | fail)
set_option hygiene false in
local macro_rules | `(tactic| walk_at "cls") => `(tactic| first | exact T.c_Rule.cl | exact T.c_Rule | exact T.na_Rule_seats | exact T.na_Rule_lapse | exact T.na_Rule_beat | exact T.na_Rule_grace | exact T.na_Rule_late)
set_option hygiene false in
local macro_rules | `(tactic| walk_at "fld") => `(tactic| refine fld_rule (by assumption) (by assumption) (by walk_at "cls") (by walk_at "cls") rfl ?_)
theorem G_Rule_eq (T : Tx W0 K mg) : FnOk P W0 K mg base CX0 1 T.f_Rule_eq T.d_Rule_eq ["self", "other"] (spEqR T.C_Rule) := by
  refine T.F_Rule_eq.ok sc_Rule_eq (fun vs H Q E h => ?_) (fun cdv A outer s H vs Q E hr h => ?_)
  · obtain ⟨a, b, n, m, L, I, rfl, _⟩ := h
    rfl
  · obtain ⟨a, b, n, m, L, I, rfl, hO, pa, pb, k⟩ := h
    have hu64 := Room.units hr
    obtain ⟨a0, a1, a2, a3, a4, rfl, _⟩ := rule_g hO pa
    obtain ⟨b0, b1, b2, b3, b4, rfl, _⟩ := rule_g hO pb
    obtain ⟨dy, hpb⟩ := rule_open hO pb
    refine ⟨_, (pss_one (ps_ret (e_and (pe_callB k_isi (by rfl) T.isinstance (by decide +kernel) (pa_cons (c_var 1) (pa_cons (pe_glob (v := .ref _) (by rfl) T.c_Rule.g rfl) pa_nil))) (e_and (pe_cmpR (c_eq hu64) (e_fld (c_var 0)) (e_fld (c_var 1)) (nomark _)) (e_and (pe_cmpR (c_eq hu64) (e_fld (c_var 0)) (e_fld (c_var 1)) (nomark _)) (e_and (pe_cmpR (c_eq hu64) (e_fld (c_var 0)) (e_fld (c_var 1)) (nomark _)) (e_and (pe_cmpR (c_eq hu64) (e_fld (c_var 0)) (e_fld (c_var 1)) (nomark _)) (pe_one (pe_cmpR (c_eq hu64) (e_fld (c_var 0)) (e_fld (c_var 1)) (nomark _)))))))))), ?_⟩
    walk_at "go"
    have no : ∀ {x y : Int}, decide (V.int x = V.int y) = false → x ≠ y := fun h z => of_decide_eq_false h (congrArg V.int z)
    have ye : ∀ {x y : Int}, decide (V.int x = V.int y) = true → x = y := fun h => V.int.inj (of_decide_eq_true h)
    refine Br.mk (fun h0 => ?_) (fun h0 => ?_)
    rotate_left
    · have e : decide ([a0, a1, a2, a3, a4] = [b0, b1, b2, b3, b4]) = false := decide_eq_false fun z => no h0 (by injections)
      rw [e] at k
      exact k
    walk_at "go"
    refine Br.mk (fun h1 => ?_) (fun h1 => ?_)
    rotate_left
    · have e : decide ([a0, a1, a2, a3, a4] = [b0, b1, b2, b3, b4]) = false := decide_eq_false fun z => no h1 (by injections)
      rw [e] at k
      exact k
    walk_at "go"
    refine Br.mk (fun h2 => ?_) (fun h2 => ?_)
    rotate_left
    · have e : decide ([a0, a1, a2, a3, a4] = [b0, b1, b2, b3, b4]) = false := decide_eq_false fun z => no h2 (by injections)
      rw [e] at k
      exact k
    walk_at "go"
    refine Br.mk (fun h3 => ?_) (fun h3 => ?_)
    rotate_left
    · have e : decide ([a0, a1, a2, a3, a4] = [b0, b1, b2, b3, b4]) = false := decide_eq_false fun z => no h3 (by injections)
      rw [e] at k
      exact k
    walk_at "go"
    have e : decide ([a0, a1, a2, a3, a4] = [b0, b1, b2, b3, b4]) = decide (V.int a4 = V.int b4) := by
      rw [ye h0, ye h1, ye h2, ye h3]
      by_cases z : a4 = b4
      · rw [z, decide_eq_true rfl, decide_eq_true rfl]
      · rw [decide_eq_false fun q => z (by simpa using q), decide_eq_false fun q => z (V.int.inj q)]
    rw [e] at k
    exact k
end
end My
set_option Elab.async false
set_option linter.all false
set_option maxRecDepth 100000
set_option maxHeartbeats 800000
namespace My
open PySem PySem.Spec PyProof.Rows L2 RZ SkE CL OW
def cRgL1 (ta : TE) : TE := fun σ H Q => ta σ H fun x H1 => match x with
  | .int j => Chk (-(2 ^ 62) ≤ (0 : Int) ∧ (0 : Int) < 2 ^ 62 ∧ -(2 ^ 62) ≤ j ∧ j < 2 ^ 62 ∧ (j - 0).toNat ≤ 16777216) (New H1 (.lst ((rgI 0 j).map V.int)) fun q H' => Q (.ref q) H')
  | _ => False
theorem e_lstRg1 {X : Cx} {a : Expr} {ta : TE} {p pos p2 pos2 : Pos} (hc : X.calm = true) (hg : Gl X "list") (hm : X.mg "list" = none) (hg2 : Gl X "range") (hm2 : X.mg "range" = none) (ha : PE X a ta) (na : starEach [a] X.env = (false, eval a X.env) :: starEach [] X.env := by rfl)
    (ne : starEach [.Call (.Name "range" p) [a] [] pos] X.env = (false, eval (.Call (.Name "range" p) [a] [] pos) X.env) :: starEach [] X.env := by rfl) :
    PE X (.Call (.Name "list" p2) [.Call (.Name "range" p) [a] [] pos] [] pos2) (cRgL1 ta) := by
  refine PE.by_ (pe_listRg hc hg hm (prg_1 hg2 hm2 ha na) ne) (fun σ H Q h => ?_)
  unfold tLstRg tRg1
  have e : (fun x H1 => ∃ n, x = V.int n ∧ (RgOk 0 n ∧ ∀ q, H1 q = none → Q (.ref q) (upd H1 q (.lst (rgV 0 n))))) = fun x H1 => match x with
      | .int j => Chk (-(2 ^ 62) ≤ (0 : Int) ∧ (0 : Int) < 2 ^ 62 ∧ -(2 ^ 62) ≤ j ∧ j < 2 ^ 62 ∧ (j - 0).toNat ≤ 16777216) (New H1 (.lst ((rgI 0 j).map V.int)) fun q H' => Q (.ref q) H')
      | _ => False := by
    funext x H1
    apply propext
    constructor
    · rintro ⟨j, rfl, h1, h2⟩
      exact ⟨h1, ⟨fun q hq => rgV_eq 0 j ▸ h2 q hq⟩⟩
    · intro h
      split at h
      · exact ⟨_, rfl, h.p, fun q hq => by rw [rgV_eq]; exact h.k.k q hq⟩
      · exact h.elim
  exact Eq.mp (congrArg (ta σ H) e).symm h
end My
set_option Elab.async false
set_option linter.all false
set_option maxRecDepth 100000
set_option maxHeartbeats 800000
namespace My
open PySem PySem.Spec PyProof.Rows L2 RZ SkE CL OW
theorem ltc_lt {x y : Str} : (!ltCps x.cps.toList y.cps.toList) = true ↔ y.cps.toList ≤ x.cps.toList := by
  rw [ltCps_eq, Bool.not_eq_true', decide_eq_false_iff_not]
  exact List.not_lt
theorem risingU : ∀ {r : List Str} {p : Str}, risingS p r = true → (∀ z ∈ r, p.cps.toList ≤ z.cps.toList) ∧ r.Pairwise (fun a b => a.cps.toList ≤ b.cps.toList)
  | [], p, _ => ⟨fun z h => (List.not_mem_nil h).elim, .nil⟩
  | x :: r, p, h => by
    have h : ((!ltCps x.cps.toList p.cps.toList) && risingS x r) = true := h
    rw [Bool.and_eq_true] at h
    have a := ltc_lt.mp h.1
    obtain ⟨b, c⟩ := risingU h.2
    refine ⟨fun z m => ?_, .cons b c⟩
    rcases List.mem_cons.mp m with rfl | m
    · exact a
    · exact List.le_trans a (b z m)
theorem sortedU {r : List Str} (h : sortedS r = true) : r.Pairwise (fun a b => a.cps.toList ≤ b.cps.toList) := by
  cases r with
  | nil => exact .nil
  | cons x r =>
    obtain ⟨b, c⟩ := risingU h
    exact .cons b c
theorem sortS_one {xs ys zs : List Str} (p : xs.Perm zs) (q : ys.Perm zs) (h : sortedS xs = true) (k : sortedS ys = true) : xs = ys := by
  refine pwU (R := fun a b => a.cps.toList ≤ b.cps.toList) (fun a b _ _ h1 h2 => ?_) (p.trans q.symm) (sortedU h) (sortedU k)
  have e := List.le_antisymm h1 h2
  obtain ⟨⟨l⟩⟩ := a
  obtain ⟨⟨m⟩⟩ := b
  cases e
  rfl
end My
set_option Elab.async false
set_option linter.all false
set_option maxRecDepth 100000
set_option maxHeartbeats 800000
namespace My
open PySem PySem.Spec PyProof.Rows L2 RZ SkE CL OW
/-- a 1 for each that is so -/
def hitL (f : List Int → Bool) (l : List (List Int)) : List (List Int) := l.filter f
theorem hitL_snoc (f : List Int → Bool) (l : List (List Int)) (o : List Int) : hitL f (l ++ [o]) = hitL f l ++ (if f o = true then [o] else []) := by
  unfold hitL
  rw [List.filter_append]
  congr 1
  rw [List.filter_cons]
  cases f o <;> rfl
theorem hit_eq (z : List (List Int)) : PyData.eqv (.list (z.map fun _ => PyData.int 1)) (.list []) = decide (z = []) := by
  cases z with
  | nil => rfl
  | cons p z => rfl
theorem dp_hits {K : PySem.W.Frag} {H : Hp} : ∀ z : List (List Int), DpAll K H (z.map fun _ => V.int 1) (z.map fun _ => PyData.int 1)
  | [] => .nil
  | p :: z => .cons (.int 1) (dp_hits z)
theorem shp_hits (z : List (List Int)) : SeqAt.shaped (.list (z.map fun _ => PyData.int 1)) = true := shaped_lst (fun d m => by obtain ⟨z, _, rfl⟩ := List.mem_map.mp m; exact ⟨rfl, Nat.zero_le _⟩)
theorem hit_none (f : List Int → Bool) (l : List (List Int)) : decide (hitL f l = []) = !(l.map f).any id := by
  unfold hitL
  by_cases h : l.filter f = []
  · rw [decide_eq_true h]
    have := List.filter_eq_nil_iff.mp h
    have e : (l.map f).any id = false := by
      rw [List.any_map]
      exact List.any_eq_false.mpr fun x hx => by simpa using this x hx
    rw [e]; rfl
  · rw [decide_eq_false h]
    have e : (l.map f).any id = true := by
      rw [List.any_map]
      cases h2 : l.any (id ∘ f)
      · exact absurd (List.filter_eq_nil_iff.mpr fun x hx => by have := List.any_eq_false.mp h2 x hx; simpa using this) h
      · rfl
    rw [e]; rfl
theorem hit_len (f : List Int → Bool) (l : List (List Int)) : (hitL f l).length ≤ l.length := List.length_filter_le _ _
theorem bestU_draw (nss : List (List Int)) (i : Nat) (own : List Int) (h : nss[i]? = some own) : ((nss.map drawL).map fun o => betterB o ((nss.map drawL).getD i [])).any id = (nss.map fun o => beatsB o own).any id := by
  have : (nss.map drawL).getD i [] = drawL own := by rw [List.getD_eq_getElem?_getD, List.getElem?_map, h]; rfl
  rw [this, List.map_map]
  rfl
theorem best_beaten {nss : List (List Int)} {z : Int} (h : z ∈ bestL nss) : (0 ≤ z ∧ z < nss.length) ∧ ∀ own, nss[z.toNat]? = some own → (nss.map fun o => beatsB o own).any id = false := by
  unfold bestL bestD at h
  obtain ⟨h1, h2⟩ := List.mem_filter.mp h
  rw [List.length_map] at h1
  refine ⟨mem_upI.mp h1, fun own ho => ?_⟩
  have e := bestU_draw nss z.toNat own ho
  rw [← e]
  simpa using h2
end My
set_option Elab.async false
set_option linter.all false
set_option maxRecDepth 100000
set_option maxHeartbeats 800000
namespace My
open PySem PySem.Spec PyProof.Rows L2 RZ SkE CL OW
def tkI (ns : List Int) : Int := if takenB ns then 1 else 0
def exI (ns : List Int) : Int := seatsOf ns * perSeat ns - seatsOf ns
theorem beats_iff (n m : List Int) : beatsB n m = true ↔ (exI n ≤ exI m ∧ lapseOf n ≤ lapseOf m ∧ tkI n ≤ tkI m) ∧ ¬ (exI n = exI m ∧ lapseOf n = lapseOf m ∧ tkI n = tkI m) := by
  have e : beatsB n m = (!decide ([exI n, lapseOf n, tkI n] = [exI m, lapseOf m, tkI m]) && (decide (exI n ≤ exI m) && (decide (lapseOf n ≤ lapseOf m) && (decide (tkI n ≤ tkI m) && true)))) := rfl
  rw [e, Bool.and_eq_true, Bool.not_eq_true', decide_eq_false_iff_not, Bool.and_true, Bool.and_eq_true, Bool.and_eq_true, decide_eq_true_iff, decide_eq_true_iff, decide_eq_true_iff]
  constructor
  · rintro ⟨h1, h2⟩
    exact ⟨h2, fun ⟨a, b, c⟩ => h1 (by rw [a, b, c])⟩
  · rintro ⟨h1, h2⟩
    exact ⟨fun h => h2 (by
      have h3 := List.cons.inj h
      have h4 := List.cons.inj h3.2
      have h5 := List.cons.inj h4.2
      exact ⟨h3.1, h4.1, h5.1⟩), h1⟩
def sumI (ns : List Int) : Int := exI ns + lapseOf ns + tkI ns
theorem beats_sum {n m : List Int} (h : beatsB n m = true) : sumI n < sumI m := by
  obtain ⟨⟨a, b, c⟩, d⟩ := (beats_iff n m).mp h
  unfold sumI
  omega
theorem beats_irr (n : List Int) : beatsB n n = false := by
  cases h : beatsB n n
  · rfl
  · exact absurd (beats_sum h) (Int.lt_irrefl _)
theorem beats_asym {n m : List Int} (h : beatsB n m = true) : beatsB m n = false := by
  cases h2 : beatsB m n
  · rfl
  · have := beats_sum h
    have := beats_sum h2
    omega
theorem beats_trans {n m o : List Int} (h : beatsB n m = true) (k : beatsB m o = true) : beatsB n o = true := by
  have s1 := beats_sum h
  have s2 := beats_sum k
  obtain ⟨⟨a, b, c⟩, d⟩ := (beats_iff n m).mp h
  obtain ⟨⟨a2, b2, c2⟩, d2⟩ := (beats_iff m o).mp k
  refine (beats_iff n o).mpr ⟨⟨by omega, by omega, by omega⟩, fun ⟨x, y, z⟩ => ?_⟩
  unfold sumI at s1 s2
  omega
/-- beaten by none of some -/
def king (l : List (List Int)) (n : List Int) : Bool := !(l.map fun o => beatsB o n).any id
theorem king_iff {l : List (List Int)} {n : List Int} : king l n = true ↔ ∀ o ∈ l, beatsB o n = false := by
  unfold king
  rw [Bool.not_eq_true', List.any_map, List.any_eq_false]
  constructor
  · intro h o ho
    have := h o ho
    simpa using this
  · intro h o ho
    have := h o ho
    simpa using this
theorem sum_low : ∀ l : List (List Int), ∃ B : Int, ∀ o ∈ l, B ≤ sumI o
  | [] => ⟨0, fun o m => (List.not_mem_nil m).elim⟩
  | x :: l => by
    obtain ⟨B, h⟩ := sum_low l
    refine ⟨min B (sumI x), fun o m => ?_⟩
    rcases List.mem_cons.mp m with rfl | m
    · exact Int.min_le_right _ _
    · exact Int.le_trans (Int.min_le_left _ _) (h o m)
theorem king_over (l : List (List Int)) {n : List Int} (hn : n ∈ l) : ∃ k ∈ l, king l k = true ∧ (k = n ∨ beatsB k n = true) := by
  obtain ⟨B, hB⟩ := sum_low l
  obtain ⟨t, ht⟩ : ∃ t : Nat, t = (sumI n - B).toNat := ⟨_, rfl⟩
  induction t using Nat.strongRecOn generalizing n with
  | ind t ih =>
    cases hk : king l n with
    | true => exact ⟨n, hn, hk, .inl rfl⟩
    | false =>
      have : ∃ o ∈ l, beatsB o n = true := by
        unfold king at hk
        have h2 : ((l.map fun o => beatsB o n).any id) = true := by simpa using hk
        rw [List.any_map, List.any_eq_true] at h2
        obtain ⟨o, ho, hb⟩ := h2
        exact ⟨o, ho, by simpa using hb⟩
      obtain ⟨o, ho, hb⟩ := this
      have s := beats_sum hb
      have b1 := hB o ho
      obtain ⟨k, hk1, hk2, hk3⟩ := ih (sumI o - B).toNat (by omega) ho rfl
      refine ⟨k, hk1, hk2, .inr ?_⟩
      rcases hk3 with rfl | h3
      · exact hb
      · exact beats_trans h3 hb
/-- the places of the best, of the others -/
theorem best_king (nss : List (List Int)) : bestL nss = (upI nss.length).filter fun i => king nss (nss.getD i.toNat []) := by
  unfold bestL bestD
  rw [List.length_map]
  refine List.filter_congr fun z hz => ?_
  have zb := mem_upI.mp hz
  have hown : nss[z.toNat]? = some (nss[z.toNat]'(by omega)) := List.getElem?_eq_getElem _
  have e := bestU_draw nss z.toNat _ hown
  have g : nss.getD z.toNat [] = nss[z.toNat]'(by omega) := by rw [List.getD_eq_getElem?_getD, hown]; rfl
  rw [e, g]
  rfl
def lostL (nss : List (List Int)) (n : Nat) : List Int := (upI n).filter fun i => !king nss (nss.getD i.toNat [])
theorem lostL_succ (nss : List (List Int)) (n : Nat) : lostL nss (n + 1) = lostL nss n ++ (if king nss (nss.getD n []) = true then [] else [(n : Int)]) := by
  unfold lostL
  rw [upI_succ, List.filter_append]
  congr 1
  rw [List.filter_cons, Int.toNat_natCast]
  cases king nss (nss.getD n []) <;> rfl
theorem best_lost (nss : List (List Int)) : (bestL nss ++ lostL nss nss.length).Perm (upI nss.length) := by
  rw [best_king]
  exact List.filter_append_perm _ _
theorem upI_asc (n : Nat) : (upI n).Pairwise (· ≤ ·) := by
  unfold upI
  rw [List.pairwise_map]
  exact List.Pairwise.imp (fun {a b} (h : a < b) => by show (a : Int) ≤ b; omega) List.pairwise_lt_range
theorem srt_best {nss : List (List Int)} {ms : List Int} (p : ms.Perm (bestL nss ++ lostL nss nss.length)) (s : ms.Pairwise (· ≤ ·)) : ms = upI nss.length := sorted_one (p.trans (best_lost nss)) s (upI_asc _)
theorem best_some {nss : List (List Int)} (h : 0 < nss.length) : bestL nss ≠ [] := by
  intro e
  obtain ⟨k, hk, hk2, _⟩ := king_over nss (n := nss[0]'h) (List.getElem_mem h)
  obtain ⟨i, hi, hik⟩ := List.getElem_of_mem hk
  have : (i : Int) ∈ bestL nss := by
    rw [best_king]
    refine List.mem_filter.mpr ⟨mem_upI.mpr (by omega), ?_⟩
    rw [Int.toNat_natCast, List.getD_eq_getElem?_getD, List.getElem?_eq_getElem hi]
    show king nss nss[i] = true
    rw [hik]
    exact hk2
  rw [e] at this
  exact List.not_mem_nil this
/-- in best is who is beaten by none -/
theorem mem_best {nss : List (List Int)} {i : Nat} {own : List Int} (h : nss[i]? = some own) : (i : Int) ∈ bestL nss ↔ king nss own = true := by
  have hi := lt_get h
  rw [best_king, List.mem_filter, mem_upI, Int.toNat_natCast, List.getD_eq_getElem?_getD, h]
  constructor
  · exact fun q => q.2
  · exact fun q => ⟨by omega, q⟩
/-- the best ones' numbers -/
def bestN (nss : List (List Int)) : List (List Int) := (bestL nss).map fun z => nss.getD z.toNat []
theorem up_map : ∀ l : List (List Int), (upI l.length).map (fun z => l.getD z.toNat []) = l := by
  intro l
  refine List.ext_getElem? fun i => ?_
  unfold upI
  rw [List.map_map, List.getElem?_map]
  by_cases hi : i < l.length
  · rw [List.getElem?_eq_getElem (by rw [List.length_range]; exact hi), List.getElem_range]
    show some (l.getD (i : Int).toNat []) = _
    rw [Int.toNat_natCast, List.getD_eq_getElem?_getD, List.getElem?_eq_getElem hi]
    rfl
  · rw [List.getElem?_eq_none (by rw [List.length_range]; omega), List.getElem?_eq_none (by omega)]
    rfl
theorem bestN_is (nss : List (List Int)) : bestN nss = nss.filter (king nss) := by
  unfold bestN
  rw [best_king]
  have e : ((upI nss.length).filter fun i => king nss (nss.getD i.toNat [])).map (fun z => nss.getD z.toNat []) = ((upI nss.length).map (fun z => nss.getD z.toNat [])).filter (king nss) := by
    rw [List.filter_map]
    rfl
  rw [e, up_map]
/-- the best of the best of some with the rest are the best of all -/
theorem best_half (l m : List (List Int)) : bestN (bestN l ++ m) = bestN (l ++ m) := by
  rw [bestN_is, bestN_is (l ++ m), bestN_is l, List.filter_append, List.filter_append, List.filter_filter]
  have key : ∀ x, king (l.filter (king l) ++ m) x = king (l ++ m) x := by
    intro x
    cases h : king (l ++ m) x with
    | true =>
      refine king_iff.mpr fun o ho => king_iff.mp h o ?_
      rcases List.mem_append.mp ho with q | q
      · exact List.mem_append.mpr (.inl (List.mem_filter.mp q).1)
      · exact List.mem_append.mpr (.inr q)
    | false =>
      cases h2 : king (l.filter (king l) ++ m) x with
      | false => rfl
      | true =>
        have : king (l ++ m) x = true := king_iff.mpr fun o ho => by
          rcases List.mem_append.mp ho with q | q
          · obtain ⟨k, hk, hk2, hk3⟩ := king_over l q
            have f := king_iff.mp h2 k (List.mem_append.mpr (.inl (List.mem_filter.mpr ⟨hk, hk2⟩)))
            cases hb : beatsB o x with
            | false => rfl
            | true =>
              rcases hk3 with rfl | hk3
              · rw [f] at hb
                cases hb
              · rw [beats_trans hk3 hb] at f
                cases f
          · exact king_iff.mp h2 o (List.mem_append.mpr (.inr q))
        rw [this] at h
        cases h
  congr 1
  · refine List.filter_congr fun x hx => ?_
    rw [key]
    cases h : king (l ++ m) x with
    | false => rfl
    | true =>
      rw [Bool.true_and]
      exact king_iff.mpr fun o ho => king_iff.mp h o (List.mem_append.mpr (.inl ho))
  · exact List.filter_congr fun x _ => key x
/-- what is told of two rules goes together -/
theorem nomore_most {n m : List Int} (h : noMoreB n m = true) (u : Int) : mostv n u ≤ mostv m u := by
  have h : seatsOf n * perSeat n ≤ seatsOf m * perSeat m := of_decide_eq_true h
  unfold mostv
  split <;> split <;> omega
theorem nomore_or {n m : List Int} (h : noMoreB n m = false) : noMoreB m n = true := by
  have h : ¬ seatsOf n * perSeat n ≤ seatsOf m * perSeat m := of_decide_eq_false h
  exact decide_eq_true (by omega)
theorem nomore_trans {n m o : List Int} (h : noMoreB n m = true) (k : noMoreB m o = true) : noMoreB n o = true := by
  have h : seatsOf n * perSeat n ≤ seatsOf m * perSeat m := of_decide_eq_true h
  have k : seatsOf m * perSeat m ≤ seatsOf o * perSeat o := of_decide_eq_true k
  exact decide_eq_true (by omega)
theorem nomore_not {n m : List Int} (h : noMoreB n m = false) (a : mostv n 60 ≤ mostv m 60) (b : mostv m 60 < 60) : False := by
  have h : ¬ seatsOf n * perSeat n ≤ seatsOf m * perSeat m := of_decide_eq_false h
  unfold mostv at a b
  split at a <;> split at a <;> split at b <;> omega
theorem beats_lapse {n m : List Int} (h : beatsB n m = true) : lapseOf n ≤ lapseOf m := ((beats_iff n m).mp h).1.2.1
theorem beats_taken {n m : List Int} (h : beatsB n m = true) (k : takenB n = true) : takenB m = true := by
  have := ((beats_iff n m).mp h).1.2.2
  unfold tkI at this
  rw [if_pos k] at this
  split at this
  · assumption
  · omega
end My
set_option Elab.async false
set_option linter.all false
set_option maxRecDepth 100000
set_option maxHeartbeats 800000
namespace My
open PySem PySem.Spec PyProof.Rows L2 RZ SkE CL OW
def spPairR (C : Addr) : Sp := fun vs H Q _ => ∃ (a b : Addr) (n m : List Int) (L : List Ck) (I : List (Hp → Prop)), vs = [.ref a, .ref b] ∧ Own H L I ∧ ruleI C a n ∈ I ∧ ruleI C b m ∈ I ∧ Good n ∧ Good m ∧ seatsOf n ≤ 1000 ∧ seatsOf m ≤ 1000 ∧ ∀ H', Own H' L I → Q (.bl true) H'
theorem ask_pairR {C a b : Addr} {n m : List Int} {H : Hp} {Q : VK} {E : XK} {L : List Ck} {I : List (Hp → Prop)} (h : Own H L I) (p : ruleI C a n ∈ I) (p2 : ruleI C b m ∈ I) (g : Good n) (g2 : Good m) (s : seatsOf n ≤ 1000) (s2 : seatsOf m ≤ 1000) (q : ∀ H', Own H' L I → Q (.bl true) H') : Ask (spPairR C ([.ref a, .ref b] ++ []) H Q E) := ⟨a, b, n, m, L, I, rfl, h, p, p2, g, g2, s, s2, q⟩
theorem onceL_any : ∀ bs : List Bool, (∀ b ∈ bs, b = true) → (bs.map V.bl).any (fun z => eqV z (V.bl false)) = false := by
  intro bs h
  rw [List.any_map, List.any_eq_false]
  intro b hb
  rw [h b hb]
  decide
section
variable (P : Program) (W0 : World) {K : PySem.W.Frag} {mg : Str → Option Value} (base : Heap)
local macro_rules | `(tactic| walk_at "len") => `(tactic| first | assumption | omega | (rw [List.length_map]; omega))
set_option hygiene false in
local macro_rules | `(tactic| walk_at "cls") => `(tactic| first | exact T.c_Rule.cl | exact T.na_Rule_seats | exact T.na_Rule_lapse | exact T.na_Rule_beat | exact T.na_Rule_grace | exact T.na_Rule_late)
local macro_rules | `(tactic| walk_at "fld") => `(tactic| refine fld_rule (by assumption) (by walk_at "mem") (by walk_at "cls") (by walk_at "cls") rfl ?_)
local macro_rules | `(tactic| walk_at "good") => `(tactic| first | assumption | exact good_mk (by omega))
local macro_rules | `(tactic| walk_at "sm") => `(tactic| assumption)
local macro_rules | `(tactic| walk_at "lo") => `(tactic| first | omega | (simp only [lo_0, lo_1, lo_2, lo_3, lo_4]; omega))
set_option hygiene false in
local macro_rules | `(tactic| walk_at "seq") => `(tactic| first | exact T.s_WORDS _ | exact T.s_FAULTS _)
set_option hygiene false in
local macro_rules | `(tactic| walk_at "ask") => `(tactic| first
  | fail)
set_option hygiene false in
local macro_rules | `(tactic| walk_at "ask") => `(tactic| first
  | ((with_reducible show Ask (spMost _ _ _ _ _)); refine ask_most (by assumption) (by walk_at "mem") (by assumption) ?_)
  | ((with_reducible show Ask (spHappens _ _ _ _ _)); refine ask_happens (by assumption) (by walk_at "mem") (by assumption) (by assumption) (.inr (.inl rfl)) (fun HH w => ?_))
  | ((with_reducible show Ask (spRRB _ _ _ _ _ _)); refine ask_rrb (by assumption) (by walk_at "mem") (by walk_at "mem") (by assumption) (by assumption) (fun HH w => ?_))
  | ((with_reducible show Ask (spRI _ _ _ _ _ _)); refine ask_ri (by assumption) (by walk_at "mem") (by assumption) ?_))
theorem G_l_pair_right (T : Tx W0 K mg) : FnOk P W0 K mg base CX0 8 T.f_l_pair_right T.d_l_pair_right ["_law_p", "_law_q"] (spPairR T.C_Rule) := by
  refine T.F_l_pair_right.ok sc_l_pair_right (fun vs H Q E h => ?_) (fun cdv A outer s H vs Q E hr h => ?_)
  · obtain ⟨a, b, n, m, L, I, rfl, _⟩ := h
    rfl
  · obtain ⟨a, b, n, m, L, I, rfl, hO, ha, hb, gn, gm, sn, sm, q⟩ := h
    refine ⟨_, (pss_cons (s_setlc (i := 2) (own := [("_law_users", 3)]) (by rfl) sc_l_pair_right.nd rfl rfl (sw_true rfl rfl rfl (by decide +kernel)) (i_val (e_tup (pa_cons pe_int (pa_cons pe_int (pa_cons pe_int (pa_cons pe_int (pa_cons pe_int (pa_cons pe_int (pa_cons pe_int pa_nil))))))))) (blkOk_by (own := [("_law_users", 3)]) (N := ["_law_p", "_law_q", "_law_once", "_law_users"]) (sc := defScope s_l_pair_right) (by decide +kernel)) (fun _ _ _ _ _ => (pg_name (i := 3) sc_l_pair_right.nd rfl (Or.inl rfl))) (fun _ _ _ _ _ => pts_nil) (fun _ _ _ _ _ => (pe_cmpR c_le (e_call (G_most P W0 base T) (hr.mono (by decide)) (by rfl) T.g_most T.F_most.kp T.b_most .nil pass0 (pa_cons (c_var 0) (pa_cons (c_var 3) pa_nil))) (e_call (G_most P W0 base T) (hr.mono (by decide)) (by rfl) T.g_most T.F_most.kp T.b_most .nil pass0 (pa_cons (c_var 1) (pa_cons (c_var 3) pa_nil))) (nomark _))))
    (pss_cons (s_if (PW.pt (w_or (PW.pt (w_and (t_truth (e_call (G_no_more P W0 base T) (hr.mono (by decide)) (by rfl) T.g_no_more T.F_no_more.kp T.b_no_more .nil pass0 (pa_cons (c_var 0) (pa_cons (c_var 1) pa_nil))) (fun _ => rfl)) (w_and1 (t_cmp c_in pe_bl (c_var 2) (by with_unfolding_all rfl))))) (w_or1 (PW.pt (w_and (t_not (t_truth (e_call (G_no_more P W0 base T) (hr.mono (by decide)) (by rfl) T.g_no_more T.F_no_more.kp T.b_no_more .nil pass0 (pa_cons (c_var 0) (pa_cons (c_var 1) pa_nil))) (fun _ => rfl))) (w_and1 (t_not (t_truth (e_call (G_no_more P W0 base T) (hr.mono (by decide)) (by rfl) T.g_no_more T.F_no_more.kp T.b_no_more .nil pass0 (pa_cons (c_var 1) (pa_cons (c_var 0) pa_nil))) (fun _ => rfl))))))))) (pss_one (ps_ret pe_bl)) pss_nil)
    (pss_cons (s_if (PW.pt (w_and (t_not (t_truth (e_call (G_no_more P W0 base T) (hr.mono (by decide)) (by rfl) T.g_no_more T.F_no_more.kp T.b_no_more .nil pass0 (pa_cons (c_var 0) (pa_cons (c_var 1) pa_nil))) (fun _ => rfl))) (w_and (t_cmp c_le (e_call (G_most P W0 base T) (hr.mono (by decide)) (by rfl) T.g_most T.F_most.kp T.b_most .nil pass0 (pa_cons (c_var 0) (pa_cons pe_int pa_nil))) (e_call (G_most P W0 base T) (hr.mono (by decide)) (by rfl) T.g_most T.F_most.kp T.b_most .nil pass0 (pa_cons (c_var 1) (pa_cons pe_int pa_nil))) (nomark _)) (w_and1 (t_cmp c_lt (e_call (G_most P W0 base T) (hr.mono (by decide)) (by rfl) T.g_most T.F_most.kp T.b_most .nil pass0 (pa_cons (c_var 1) (pa_cons pe_int pa_nil))) pe_int (nomark _)))))) (pss_one (ps_ret pe_bl)) pss_nil)
    (pss_cons (s_if (t_truth (e_call (G_beats P W0 base T) (hr.mono (by decide)) (by rfl) T.g_beats T.F_beats.kp T.b_beats .nil pass0 (pa_cons (c_var 0) (pa_cons (c_var 1) pa_nil))) (fun _ => rfl)) (pss_cons (s_if (PW.pt (w_or (t_truth (e_call (G_beats P W0 base T) (hr.mono (by decide)) (by rfl) T.g_beats T.F_beats.kp T.b_beats .nil pass0 (pa_cons (c_var 1) (pa_cons (c_var 0) pa_nil))) (fun _ => rfl)) (w_or1 (t_cmp c_gt (e_call (G_longest_kept P W0 base T) (hr.mono (by decide)) (by rfl) T.g_longest_kept T.F_longest_kept.kp T.b_longest_kept .nil pass0 (pa_cons (c_var 0) pa_nil)) (e_call (G_longest_kept P W0 base T) (hr.mono (by decide)) (by rfl) T.g_longest_kept T.F_longest_kept.kp T.b_longest_kept .nil pass0 (pa_cons (c_var 1) pa_nil)) (nomark _))))) (pss_one (ps_ret pe_bl)) pss_nil)
    (pss_one (s_if (PW.pt (w_and (t_truth (e_call (G_happens P W0 base T) (hr.mono (by decide)) (by rfl) T.g_happens T.F_happens.kp T.b_happens .nil pass0 (pa_cons (c_var 0) (pa_cons pe_int (pa_cons pe_str pa_nil)))) (fun _ => rfl)) (w_and1 (t_not (t_truth (e_call (G_happens P W0 base T) (hr.mono (by decide)) (by rfl) T.g_happens T.F_happens.kp T.b_happens .nil pass0 (pa_cons (c_var 1) (pa_cons pe_int (pa_cons pe_str pa_nil)))) (fun _ => rfl)))))) (pss_one (ps_ret pe_bl)) pss_nil))) pss_nil)
    (pss_one (ps_ret pe_bl)))))), ?_⟩
    walk_at "go"
    refine newa_o w (fun pb wb => ?_)
    refine la_tup (xs := [V.int 1, V.int 2, V.int 3, V.int 5, V.int 9, V.int 20, V.int 60]) (fun i H' => ∃ bs : List Bool, bs.length = i ∧ (noMoreB n m = true → ∀ b ∈ bs, b = true) ∧ Own H' (.pt pb (.lst (bs.map V.bl)) :: .pt pp (.tup [V.int 1, V.int 2, V.int 3, V.int 5, V.int 9, V.int 20, V.int 60]) :: L) I) ⟨[], rfl, fun _ b m => (List.not_mem_nil m).elim, by walk_at "own"⟩ (fun i H' _ ⟨_, _, _, e⟩ => SqT.of (e.get (by walk_at "pull"))) ?_ ?_
    · rintro i x H' hx ⟨bs, hl, hb2, e⟩
      have hx' : ∃ u : Int, x = .int u := by
        have := List.mem_of_getElem? hx
        simp only [List.mem_cons, List.not_mem_nil, or_false] at this
        rcases this with rfl | rfl | rfl | rfl | rfl | rfl | rfl <;> exact ⟨_, rfl⟩
      obtain ⟨u, rfl⟩ := hx'
      have i7 : i < 7 := lt_get hx
      unfold LcT
      walk_at "go"
      refine ⟨bs ++ [decide (mostv n u ≤ mostv m u)], by simp [hl], fun h b hb => ?_, by rw [List.map_append]; walk_at "own"⟩
      rcases List.mem_append.mp hb with hb | hb
      · exact hb2 h b hb
      · rw [List.mem_singleton.mp hb]
        exact decide_eq_true (nomore_most h u)
    · rintro H' ⟨bs, hl, hb2, e⟩
      have hl : bs.length = 7 := hl
      have tail : ∀ HH, Own HH L I → Q (.bl true) HH := fun HH w => q HH w
      walk_at "go"
      refine Br.mk (fun hx => ?_) (fun hx => ?_)
      · have nb := onceL_any bs (hb2 hx)
        have fl : (bs.map V.bl).all flatV = true := by rw [List.all_map, List.all_eq_true]; exact fun b _ => rfl
        walk_at "go"
        refine Chk.mk ⟨rfl, fl⟩ ?_
        (conv => whnf)
        refine br_f nb ?_
        walk_at "go"
        refine br_f (by rw [hx]; rfl) ?_
        walk_at "go"
        refine br_f (by rw [hx]; rfl) ?_
        walk_at "go"
        refine Br.mk (fun hb3 => ?_) (fun hb3 => ?_)
        · have ba := beats_asym hb3
          have bl := beats_lapse hb3
          walk_at "go"
          refine Br.mk (fun ht => ?_) (fun ht => ?_)
          · have ht2 : (planN "taken" m 2).isSome = true := beats_taken hb3 ht
            walk_at "go"
            refine br_f (by rw [ht2]; rfl) ?_
            walk_at "go"
            exact q _ (by walk_at "own")
          · walk_at "go"
            exact q _ (by walk_at "own")
        · walk_at "go"
          exact q _ (by walk_at "own")
      · have nm := nomore_or hx
        walk_at "go"
        refine br_t (by rw [hx]; rfl) ?_
        walk_at "go"
        refine br_f (by rw [nm]; rfl) ?_
        walk_at "go"
        refine br_t (by rw [hx]; rfl) ?_
        walk_at "go"
        refine Br.mk (fun h6 => ?_) (fun h6 => ?_)
        · have h6 : mostv n 60 ≤ mostv m 60 := of_decide_eq_true h6
          walk_at "go"
          refine br_f (decide_eq_false fun z => nomore_not hx h6 z) ?_
          walk_at "go"
          refine Br.mk (fun hb3 => ?_) (fun hb3 => ?_)
          · have ba := beats_asym hb3
            have bl := beats_lapse hb3
            walk_at "go"
            refine Br.mk (fun ht => ?_) (fun ht => ?_)
            · have ht2 : (planN "taken" m 2).isSome = true := beats_taken hb3 ht
              walk_at "go"
              refine br_f (by rw [ht2]; rfl) ?_
              walk_at "go"
              exact q _ (by walk_at "own")
            · walk_at "go"
              exact q _ (by walk_at "own")
          · walk_at "go"
            exact q _ (by walk_at "own")
        · walk_at "go"
          refine Br.mk (fun hb3 => ?_) (fun hb3 => ?_)
          · have ba := beats_asym hb3
            have bl := beats_lapse hb3
            walk_at "go"
            refine Br.mk (fun ht => ?_) (fun ht => ?_)
            · have ht2 : (planN "taken" m 2).isSome = true := beats_taken hb3 ht
              walk_at "go"
              refine br_f (by rw [ht2]; rfl) ?_
              walk_at "go"
              exact q _ (by walk_at "own")
            · walk_at "go"
              exact q _ (by walk_at "own")
          · walk_at "go"
            exact q _ (by walk_at "own")
end
end My
set_option Elab.async false
set_option linter.all false
set_option maxRecDepth 100000
set_option maxHeartbeats 800000
namespace My
open PySem PySem.Spec PyProof.Rows L2 RZ SkE CL OW
theorem rule_one {C r : Addr} {n m : List Int} {H : Hp} (h : ruleI C r n H) (g : ruleI C r m H) : n = m := by
  unfold ruleI at h g
  obtain ⟨gn, dx, e⟩ := h
  obtain ⟨gm, dy, e2⟩ := g
  obtain ⟨s, l, b, g, t, rfl, _⟩ := gn
  obtain ⟨s', l', b', g', t', rfl, _⟩ := gm
  rw [e] at e2
  injection e2 with e2
  injection e2 with _ _ e3
  simp only [rf, List.cons.injEq, Prod.mk.injEq, V.int.injEq] at e3
  obtain ⟨⟨_, rfl⟩, ⟨_, rfl⟩, ⟨_, rfl⟩, ⟨_, rfl⟩, ⟨_, rfl⟩, _⟩ := e3
  rfl
theorem first_at {α : Type} {l : List α} {x : α} : ∀ j : Nat, l[j]? = some x → ∃ j0 : Nat, l[j0]? = some x ∧ ∀ m : Nat, m < j0 → l[m]? ≠ some x := by
  intro j
  induction j using Nat.strongRecOn with
  | ind j ih =>
    intro h
    by_cases z : ∃ m : Nat, m < j ∧ l[m]? = some x
    · obtain ⟨m, hm, e⟩ := z
      exact ih m hm e
    · exact ⟨j, h, fun m hm e => z ⟨m, hm, e⟩⟩
theorem ixo_rules {K : PySem.W.Frag} {mg : Str → Option Value} {name : Str} {C a rp : Addr} (t : ClsT K mg C name) {rs : List Addr} {nss : List (List Int)} {np : List Int} {j : Nat} {H : Hp} {L R : List Ck} {I : List (Hp → Prop)} {Q : Nat → Hp → Prop} (h : Own H L I) (e : Pull L (.pt a (.lst (rs.map V.ref))) R) (m : rulesI C rs nss ∈ I) (m2 : ruleI C rp np ∈ I) (hj : nss[j]? = some np)
    (q : ∀ j0, nss[j0]? = some np → ∀ H', Own H' L I → Q j0 H') : IxO K C (spEqR C) H a (.ref rp) Q := by
  obtain ⟨j0, h0, hmin⟩ := first_at j hj
  have rl := rules_len h m
  have jl := lt_get h0
  refine ⟨rs.map V.ref, j0, rp, fun H' => Own H' L I, rfl, h, by rw [List.length_map]; omega, fun H' w => w.get e, fun k x hx hk => ?_, fun H' w => q j0 h0 H' w⟩
  obtain ⟨r, n, rfl, hr, hn, hR⟩ := rules_at h m hx
  have det : decide (k = j0) = decide (n = np) := by
    by_cases z : k = j0
    · subst z
      rw [hn] at h0
      rw [decide_eq_true rfl, decide_eq_true (Option.some.inj h0)]
    · rw [decide_eq_false z, decide_eq_false (fun z2 => hmin k (by omega) (by rw [hn, z2]))]
  refine ⟨r, rfl, fun z => ?_, fun H' w => ?_⟩
  · subst z
    rw [det, decide_eq_true (rule_one hR (h.imp m2))]
  · have hR2 : ruleI C r n H' := by
      obtain ⟨r', n', e1, e2, e3, e4⟩ := rules_at w m hx
      cases e1
      rw [hn] at e3
      cases e3
      exact e4
    have w2 := w.addI stable_rule hR2
    obtain ⟨dx, o1⟩ := rule_open w2 List.mem_cons_self
    obtain ⟨dy, o2⟩ := rule_open w m2
    exact ⟨dx, _, _, o1, t.ty o2, notFirst_self, r, rp, n, np, L, _, rfl, w2, List.mem_cons_self, List.mem_cons_of_mem _ m2, by rw [det], w⟩
end My
set_option Elab.async false
set_option linter.all false
set_option maxRecDepth 100000
set_option maxHeartbeats 800000
namespace My
open PySem PySem.Spec PyProof.Rows L2 RZ SkE CL OW
theorem rules_take {C : Addr} {rs : List Addr} {nss : List (List Int)} {H : Hp} (k : Nat) (h : rulesI C rs nss H) : rulesI C (rs.take k) (nss.take k) H := by
  unfold rulesI at h ⊢
  refine ⟨by rw [List.length_take, List.length_take, h.1], fun i r ns a b => ?_⟩
  rw [List.getElem?_take] at a b
  split at a
  · rename_i hi
    rw [if_pos hi] at b
    exact h.2 i r ns a b
  · cases a
theorem rules_drop {C : Addr} {rs : List Addr} {nss : List (List Int)} {H : Hp} (k : Nat) (h : rulesI C rs nss H) : rulesI C (rs.drop k) (nss.drop k) H := by
  unfold rulesI at h ⊢
  refine ⟨by rw [List.length_drop, List.length_drop, h.1], fun i r ns a b => ?_⟩
  rw [List.getElem?_drop] at a b
  exact h.2 _ r ns a b
theorem rules_app {C : Addr} {rs qs : List Addr} {nss mss : List (List Int)} {H : Hp} (h : rulesI C rs nss H) (g : rulesI C qs mss H) : rulesI C (rs ++ qs) (nss ++ mss) H := by
  unfold rulesI at h g ⊢
  refine ⟨by rw [List.length_append, List.length_append, h.1, g.1], fun i r ns a b => ?_⟩
  by_cases hi : i < rs.length
  · rw [List.getElem?_append_left hi] at a
    rw [List.getElem?_append_left (by rw [← h.1]; exact hi)] at b
    exact h.2 i r ns a b
  · rw [List.getElem?_append_right (by omega)] at a
    rw [List.getElem?_append_right (by rw [← h.1]; omega), ← h.1] at b
    exact g.2 _ r ns a b
theorem cut_toB (xs : List V) (k : Nat) : cutV xs none (some (k : Int)) = xs.take k := by
  unfold cutV
  rw [HT.sIx_nat, show HT.sIx xs.length 0 none = 0 from rfl, List.drop_zero, Nat.sub_zero]
  by_cases h : k ≤ xs.length
  · rw [Nat.min_eq_left h]
  · rw [Nat.min_eq_right (by omega), List.take_length, List.take_of_length_le (by omega)]
theorem cut_fromB (xs : List V) (k : Nat) : cutV xs (some (k : Int)) none = xs.drop k := by
  unfold cutV
  rw [HT.sIx_nat, show HT.sIx xs.length xs.length none = xs.length from rfl]
  by_cases h : k ≤ xs.length
  · rw [Nat.min_eq_left h, List.take_of_length_le (by rw [List.length_drop]; exact Nat.le_refl _)]
  · rw [Nat.min_eq_right (by omega), Nat.sub_self, List.take_zero, List.drop_eq_nil_of_le (by omega)]
end My
set_option Elab.async false
set_option linter.all false
set_option maxRecDepth 100000
set_option maxHeartbeats 800000
namespace My
open PySem PySem.Spec PyProof.Rows L2 RZ SkE CL OW
def AscS (z : Str) : Prop := ∀ c ∈ TL.tl z, c < 128
theorem AscS.app {a b : Str} (h : AscS a) (g : AscS b) : AscS (a ++ b) := fun c m => by
  rw [TL.tl_append] at m
  exact (List.mem_append.mp m).elim (h c) (g c)
theorem asc_num {n : Int} (h : 0 ≤ n) : AscS (Str.ofString (toString n)) := fun c m => by
  obtain ⟨k, rfl⟩ := Int.eq_ofNat_of_zero_le h
  rw [TL.tl_num] at m
  have := TL.numL_digits k c m
  omega
theorem AscS.ok {z : Str} (h : AscS z) : PyData.strOk z = true := by
  unfold PyData.strOk
  rw [← Array.all_toList, List.all_eq_true]
  exact fun c m => decide_eq_true (Nat.lt_trans (h c m) (by decide))
theorem AscS.shw {z : Str} (h : AscS z) (l : z.length ≤ 20000) : ShwB (.str z) 0 200100 := by
  refine (shw_str (by simp [PyData.canLay0, h.ok])).up (Nat.le_refl _) ?_
  have := StrLaws.reprText_len z (fun c m => Nat.lt_trans (h c m) (by decide))
  omega
theorem rtext_asc {ns : List Int} (g : Good ns) : AscS (rtext ns) ∧ (rtext ns).length ≤ 20000 := by
  obtain ⟨a0, a1, a2, a3, a4, rfl, ⟨l0, l1, l2, l3, l4⟩, u0, u1, u2, u3, u4⟩ := g
  have y0 := int_text_len_1921 (log_of (by omega) u0)
  have y1 := int_text_len_1921 (log_of (by omega) u1)
  have y2 := int_text_len_1921 (log_of (by omega) u2)
  have y3 := int_text_len_1921 (log_of (by omega) u3)
  have y4 := int_text_len_1921 (log_of l4 u4)
  constructor
  · show AscS (Str.empty ++ Str.ofString "seats " ++ Str.ofString (toString a0) ++ Str.ofString " lapse " ++ Str.ofString (toString a1) ++ Str.ofString " beat " ++ Str.ofString (toString a2) ++ Str.ofString " grace " ++ Str.ofString (toString a3) ++ Str.ofString " late " ++ Str.ofString (toString a4))
    exact ((((((((((AscS.app (by intro c m; cases m) (by unfold AscS; decide +kernel)).app (asc_num (by omega))).app (by unfold AscS; decide +kernel)).app (asc_num (by omega))).app (by unfold AscS; decide +kernel)).app (asc_num (by omega))).app (by unfold AscS; decide +kernel)).app (asc_num (by omega))).app (by unfold AscS; decide +kernel)).app (asc_num l4))
  · unfold rtext
    simp only [Str.length_append, e_0, e_1, e_2, e_3, e_4, e_5]
    omega
theorem rtext_shw {ns : List Int} (g : Good ns) : ShwB (.str (rtext ns)) 0 200100 := AscS.shw (rtext_asc g).1 (rtext_asc g).2
end My
set_option Elab.async false
set_option linter.all false
set_option maxRecDepth 100000
set_option maxHeartbeats 800000
namespace My
open PySem PySem.Spec PyProof.Rows L2 RZ SkE CL OW
def spLaw (K : PySem.W.Frag) : Sp := fun vs H Q _ => ∃ (a : Addr) (ns : List Int), vs = [.ref a] ∧ Own H [] [seqI K a (ns.map V.int)] ∧ ns.length ≤ 63 ∧ ∀ H', Q (.bl true) H'
section
variable (P : Program) (W0 : World) {K : PySem.W.Frag} {mg : Str → Option Value} (base : Heap)
local macro_rules | `(tactic| walk_at "len") => `(tactic| first | assumption | omega | (rw [List.length_map]; omega))
set_option hygiene false in
local macro_rules | `(tactic| walk_at "cls") => `(tactic| first | exact T.c_Rule.cl | exact T.na_Rule_seats | exact T.na_Rule_lapse | exact T.na_Rule_beat | exact T.na_Rule_grace | exact T.na_Rule_late)
local macro_rules | `(tactic| walk_at "fld") => `(tactic| refine fld_rule (by assumption) (by walk_at "mem") (by walk_at "cls") (by walk_at "cls") rfl ?_)
local macro_rules | `(tactic| walk_at "good") => `(tactic| first | assumption | exact good_mk (by omega))
local macro_rules | `(tactic| walk_at "sm") => `(tactic| assumption)
local macro_rules | `(tactic| walk_at "lo") => `(tactic| first | omega | (simp only [lo_0, lo_1, lo_2, lo_3, lo_4]; omega))
set_option hygiene false in
local macro_rules | `(tactic| walk_at "seq") => `(tactic| first | exact T.s_WORDS _ | exact T.s_FAULTS _)
local macro_rules | `(tactic| walk_at "owns") => `(tactic| refine owns_rule (by assumption) (by walk_at "mem") (by walk_at "good") ?_)
set_option hygiene false in
local macro_rules | `(tactic| walk_at "ask") => `(tactic| first
  | ((with_reducible show Ask (spTake _ _ _ _)); refine ask_take (by assumption) (by walk_at "pull") (by walk_at "sd") (by walk_at "sd") (fun HH d d0 d1 w => ?_))
  | ((with_reducible show Ask (spNums _ _ _ _ _)); refine ask_nums (by assumption) (by walk_at "pull") (fun HH pn nn hn w => ?_))
  | ((with_reducible show Ask (spNear _ _ _ _)); refine ask_near (by assumption) (by walk_at "pull") (by walk_at "mem") (by assumption) (fun HH pn nn hn w => ?_))
  | ((with_reducible show Ask (spRuled _ _ _ _ _)); refine ask_ruled (by assumption) (by walk_at "mem") (by walk_at "good") (fun HH r w => ?_))
  | ((with_reducible show Ask (spRRB _ _ _ _ _ _)); refine ask_rrb (by assumption) (by walk_at "mem") (by walk_at "mem") (by walk_at "sm") (by walk_at "sm") (fun HH w => ?_))
  | ((with_reducible show Ask (spPairR _ _ _ _ _)); refine ask_pairR (by assumption) (by walk_at "mem") (by walk_at "mem") (by walk_at "good") (by walk_at "good") (by walk_at "sm") (by walk_at "sm") (fun HH w => ?_)))
theorem G_law (T : Tx W0 K mg) : FnG P W0 K mg base CX0 10 T.f_law T.d_law ["_law_script"] (spLaw K) := by
  refine fun_okG T.F_law sc_law (fun vs H Q E h => ?_) (fun cdv A outer s H vs Q E hG hr h => ?_)
  · obtain ⟨a, ns, rfl, _⟩ := h
    rfl
  · obtain ⟨a, ns, rfl, hO, hl, q⟩ := h
    have hu64 := Room.units hr
    refine ⟨_, (pss_cons (s_for PassesOwn.never (by rfl) (i_range1 (by rfl) T.range (pa_cons (pe_callB (k_maxG (by rfl)) (by rfl) T.max (by decide +kernel) (pa_cons pe_int (pa_cons (pe_callB (k_minL (by rfl)) (by rfl) T.min (by decide +kernel) (pa_cons pe_int (pa_cons (pe_callB k_len (by rfl) T.len PySem.boot_len (pa_cons (c_var 0) pa_nil)) pa_nil))) pa_nil))) pa_nil)) (pg_name (i := 1) sc_law.nd rfl (Or.inl rfl)) (pss_cons (ps_set (i := 2) sc_law.nd rfl (Or.inl rfl) (e_call (G_l_box P W0 base T) (hr.mono (by decide)) (by rfl) T.g_l_box T.F_l_box.kp T.b_l_box .nil pass0 (pa_cons (c_var 0) (pa_cons (c_var 1) (pa_cons pe_int pa_nil)))))
    (pss_cons (ps_set (i := 3) sc_law.nd rfl (Or.inl rfl) (e_lst (pa_cons (e_call (G_l_numbers P W0 base T) (hr.mono (by decide)) (by rfl) T.g_l_numbers T.F_l_numbers.kp T.b_l_numbers .nil pass0 (pa_cons (c_var 2) pa_nil)) pa_nil)))
    (pss_cons (s_for PassesOwn.never (by rfl) (i_range1 (by rfl) T.range (pa_cons (e_call (G_l_take P W0 base T) (hr.mono (by decide)) (by rfl) T.g_l_take T.F_l_take.kp T.b_l_take .nil pass0 (pa_cons (c_var 2) (pa_cons pe_int pa_nil))) pa_nil)) (pg_name (i := 4) sc_law.nd rfl (Or.inl rfl)) (pss_one (ps_expr (pe_bm PySem.F.plainAttrs_list PySem.F.slot_list_append PySem.F.type_list_append m_appG (c_var 3) (pa_cons (e_call (G_l_near P W0 base T) (hr.mono (by decide)) (by rfl) T.g_l_near T.F_l_near.kp T.b_l_near .nil pass0 (pa_cons (c_var 2) (pa_cons (e_call (G_l_pick P W0 base T) (hr.mono (by decide)) (by rfl) T.g_l_pick T.F_l_pick.kp T.b_l_pick .nil pass0 (pa_cons (c_var 2) (pa_cons (c_var 3) pa_nil))) pa_nil))) pa_nil)))))
    (pss_cons (ps_set (i := 5) sc_law.nd rfl (Or.inr rfl) (e_lc (own := [("_law_given", 11)]) (by rfl) sc_law.nd (i_val (c_var 3)) (blkOk_by (own := [("_law_given", 11)]) (N := ["_law_script", "_law_k", "_law_box_here", "_law_some", "_law_more", "_law_made", "_law_best", "_law_beaten", "_law_p", "_law_q", "_law_half", "_law_given", "_law_at", "_law_one", "_law_r"]) (sc := defScope s_law) (by decide +kernel)) (fun _ _ _ _ _ => (pg_name (i := 11) sc_law.nd rfl (Or.inl rfl))) (fun _ _ _ _ _ => pts_nil) (fun _ _ _ _ _ => (e_call (G_l_ruled P W0 base T) (hr.mono (by decide)) (by rfl) T.g_l_ruled T.F_l_ruled.kp T.b_l_ruled .nil pass0 (pa_cons (c_var 11) pa_nil)))))
    (pss_cons (ps_set (i := 6) sc_law.nd rfl (Or.inl rfl) (e_call (G_best_of P W0 base T) (hr.mono (by decide)) (by rfl) T.g_best_of T.F_best_of.kp T.b_best_of .nil pass0 (pa_cons (c_var 5) pa_nil)))
    (pss_cons (s_setlc (i := 7) (own := [("_law_at", 12)]) (by rfl) sc_law.nd rfl rfl (sw_true rfl rfl rfl (by decide +kernel)) (i_range1 (by rfl) T.range (pa_cons (pe_callB k_len (by rfl) T.len PySem.boot_len (pa_cons (c_var 5) pa_nil)) pa_nil)) (blkOk_by (own := [("_law_at", 12)]) (N := ["_law_script", "_law_k", "_law_box_here", "_law_some", "_law_more", "_law_made", "_law_best", "_law_beaten", "_law_p", "_law_q", "_law_half", "_law_given", "_law_at", "_law_one", "_law_r"]) (sc := defScope s_law) (by decide +kernel)) (fun _ _ _ _ _ => (pg_name (i := 12) sc_law.nd rfl (Or.inr rfl))) (fun _ _ _ _ _ => (pts_one (t_cmp (c_neK (K := K) rfl (by exact hu64)) (e_lc (own := [("_law_one", 13)]) (by rfl) sc_law.nd (i_valK (K := K) rfl (c_var 5)) (by (conv => arg 2; whnf); exact blkOk_by (own := [("_law_one", 13)]) (N := ["_law_script", "_law_k", "_law_box_here", "_law_some", "_law_more", "_law_made", "_law_best", "_law_beaten", "_law_p", "_law_q", "_law_half", "_law_given", "_law_at", "_law_one", "_law_r"]) (by rfl)) (fun _ _ _ _ _ => (pg_name (i := 13) sc_law.nd rfl (Or.inl rfl))) (fun _ _ _ _ _ => (pts_one (t_truthK (K := K) rfl (e_call (G_beats P W0 base T) (hr.mono (by decide)) (by rfl) T.g_beats T.F_beats.kp T.b_beats .nil pass0 (pa_cons (c_var 13) (pa_cons (pe_ix (c_ixK (K := K) rfl) (c_var 5) (c_var 12) (fun _ _ => rfl)) pa_nil))) (fun _ => rfl)))) (fun _ _ _ _ _ => pe_int)) (e_lst pa_nil) (nomark _)))) (fun _ _ _ _ _ => (c_var 12)))
    (pss_cons (s_if (PW.pt (w_or (t_cmp (c_eq hu64) (c_var 6) (e_tup pa_nil) (nomark _)) (w_or1 (t_cmp (c_ne hu64) (pe_callB k_sortG (by rfl) T.sorted (by decide +kernel) (pa_cons (e_lc (own := [("_law_at", 12)]) (by rfl) sc_law.nd (i_val (pe_op c_addG (pe_callTy k_list (by rfl) T.list (by decide +kernel) (pa_cons (c_var 6) pa_nil)) (c_var 7))) (blkOk_by (own := [("_law_at", 12)]) (N := ["_law_script", "_law_k", "_law_box_here", "_law_some", "_law_more", "_law_made", "_law_best", "_law_beaten", "_law_p", "_law_q", "_law_half", "_law_given", "_law_at", "_law_one", "_law_r"]) (sc := defScope s_law) (by decide +kernel)) (fun _ _ _ _ _ => (pg_name (i := 12) sc_law.nd rfl (Or.inl rfl))) (fun _ _ _ _ _ => pts_nil) (fun _ _ _ _ _ => (pe_callTy k_intG (by rfl) T.int (by decide +kernel) (pa_cons (c_var 12) pa_nil)))) pa_nil)) (e_lstRg1 (by rfl) (by rfl) T.list (by rfl) T.range (pe_callB k_len (by rfl) T.len PySem.boot_len (pa_cons (c_var 5) pa_nil))) (nomark _))))) (pss_one (ps_ret pe_bl)) pss_nil)
    (pss_cons (s_for PassesOwn.never (by rfl) (i_val (c_var 5)) (pg_name (i := 8) sc_law.nd rfl (Or.inr rfl)) (pss_cons (s_if (PW.pt (w_or (t_cmp (c_ne hu64) (e_lc (own := [("_law_q", 9)]) (by rfl) sc_law.nd (i_val (c_var 5)) (blkOk_by (own := [("_law_q", 9)]) (N := ["_law_script", "_law_k", "_law_box_here", "_law_some", "_law_more", "_law_made", "_law_best", "_law_beaten", "_law_p", "_law_q", "_law_half", "_law_given", "_law_at", "_law_one", "_law_r"]) (sc := defScope s_law) (by decide +kernel)) (fun _ _ _ _ _ => (pg_name (i := 9) sc_law.nd rfl (Or.inl rfl))) (fun _ _ _ _ _ => (pts_one (t_not (t_truthK (K := K) rfl (e_call (G_l_pair_right P W0 base T) (hr.mono (by decide)) (by rfl) T.g_l_pair_right T.F_l_pair_right.kp T.b_l_pair_right .nil pass0 (pa_cons (c_var 8) (pa_cons (c_var 9) pa_nil))) (fun _ => rfl))))) (fun _ _ _ _ _ => pe_int)) (e_lst pa_nil) (nomark _)) (w_or1 (t_truth (e_call (G_beats P W0 base T) (hr.mono (by decide)) (by rfl) T.g_beats T.F_beats.kp T.b_beats .nil pass0 (pa_cons (c_var 8) (pa_cons (c_var 8) pa_nil))) (fun _ => rfl))))) (pss_one (ps_ret pe_bl)) pss_nil)
    (pss_cons (s_if (PW.pt (w_and (t_cmp c_notin (pe_bm PySem.F.plainAttrs_list PySem.F.slot_list_index PySem.F.type_list_index (m_indexO (G_Rule_eq P W0 base T) T.b_Rule_eq (hr.mono (by decide)) T.i_Rule_eq T.j_Rule_eq) (c_var 5) (pa_cons (c_var 8) pa_nil)) (c_var 6) (by with_unfolding_all rfl)) (w_and1 (t_cmp (c_eq hu64) (e_lc (own := [("_law_at", 12)]) (by rfl) sc_law.nd (i_val (c_var 6)) (blkOk_by (own := [("_law_at", 12)]) (N := ["_law_script", "_law_k", "_law_box_here", "_law_some", "_law_more", "_law_made", "_law_best", "_law_beaten", "_law_p", "_law_q", "_law_half", "_law_given", "_law_at", "_law_one", "_law_r"]) (sc := defScope s_law) (by decide +kernel)) (fun _ _ _ _ _ => (pg_name (i := 12) sc_law.nd rfl (Or.inl rfl))) (fun _ _ _ _ _ => (pts_one (t_truthK (K := K) rfl (e_call (G_beats P W0 base T) (hr.mono (by decide)) (by rfl) T.g_beats T.F_beats.kp T.b_beats .nil pass0 (pa_cons (pe_ix (c_ixK (K := K) rfl) (c_var 5) (c_var 12) (fun _ _ => rfl)) (pa_cons (c_var 8) pa_nil))) (fun _ => rfl)))) (fun _ _ _ _ _ => (c_var 12))) (e_lst pa_nil) (nomark _))))) (pss_one (ps_ret pe_bl)) pss_nil)
    (pss_one (s_for PassesOwn.never (by rfl) (i_val (c_var 5)) (pg_name (i := 9) sc_law.nd rfl (Or.inr rfl)) (pss_cons (s_if (t_cmp (c_ne hu64) (e_lc (own := [("_law_r", 14)]) (by rfl) sc_law.nd (i_val (c_var 5)) (blkOk_by (own := [("_law_r", 14)]) (N := ["_law_script", "_law_k", "_law_box_here", "_law_some", "_law_more", "_law_made", "_law_best", "_law_beaten", "_law_p", "_law_q", "_law_half", "_law_given", "_law_at", "_law_one", "_law_r"]) (sc := defScope s_law) (by decide +kernel)) (fun _ _ _ _ _ => (pg_name (i := 14) sc_law.nd rfl (Or.inl rfl))) (fun _ _ _ _ _ => (pts_one (PW.pt (w_and (t_truthK (K := K) rfl (e_call (G_beats P W0 base T) (hr.mono (by decide)) (by rfl) T.g_beats T.F_beats.kp T.b_beats .nil pass0 (pa_cons (c_var 8) (pa_cons (c_var 9) pa_nil))) (fun _ => rfl)) (w_and (t_truthK (K := K) rfl (e_call (G_beats P W0 base T) (hr.mono (by decide)) (by rfl) T.g_beats T.F_beats.kp T.b_beats .nil pass0 (pa_cons (c_var 9) (pa_cons (c_var 14) pa_nil))) (fun _ => rfl)) (w_and1 (t_not (t_truthK (K := K) rfl (e_call (G_beats P W0 base T) (hr.mono (by decide)) (by rfl) T.g_beats T.F_beats.kp T.b_beats .nil pass0 (pa_cons (c_var 8) (pa_cons (c_var 14) pa_nil))) (fun _ => rfl))))))))) (fun _ _ _ _ _ => pe_int)) (e_lst pa_nil) (nomark _)) (pss_one (ps_ret pe_bl)) pss_nil)
    (pss_one (s_if (t_cmp (c_ne hu64) (e_lc (own := [("_law_r", 14)]) (by rfl) sc_law.nd (i_val (c_var 5)) (blkOk_by (own := [("_law_r", 14)]) (N := ["_law_script", "_law_k", "_law_box_here", "_law_some", "_law_more", "_law_made", "_law_best", "_law_beaten", "_law_p", "_law_q", "_law_half", "_law_given", "_law_at", "_law_one", "_law_r"]) (sc := defScope s_law) (by decide +kernel)) (fun _ _ _ _ _ => (pg_name (i := 14) sc_law.nd rfl (Or.inl rfl))) (fun _ _ _ _ _ => (pts_one (PW.pt (w_and (t_truthK (K := K) rfl (e_call (G_no_more P W0 base T) (hr.mono (by decide)) (by rfl) T.g_no_more T.F_no_more.kp T.b_no_more .nil pass0 (pa_cons (c_var 8) (pa_cons (c_var 9) pa_nil))) (fun _ => rfl)) (w_and (t_truthK (K := K) rfl (e_call (G_no_more P W0 base T) (hr.mono (by decide)) (by rfl) T.g_no_more T.F_no_more.kp T.b_no_more .nil pass0 (pa_cons (c_var 9) (pa_cons (c_var 14) pa_nil))) (fun _ => rfl)) (w_and1 (t_not (t_truthK (K := K) rfl (e_call (G_no_more P W0 base T) (hr.mono (by decide)) (by rfl) T.g_no_more T.F_no_more.kp T.b_no_more .nil pass0 (pa_cons (c_var 8) (pa_cons (c_var 14) pa_nil))) (fun _ => rfl))))))))) (fun _ _ _ _ _ => pe_int)) (e_lst pa_nil) (nomark _)) (pss_one (ps_ret pe_bl)) pss_nil))))))))
    (pss_cons (ps_set (i := 10) sc_law.nd rfl (Or.inr rfl) (pe_op c_addG (e_lc (own := [("_law_at", 12)]) (by rfl) sc_law.nd (i_val (e_call (G_best_of P W0 base T) (hr.mono (by decide)) (by rfl) T.g_best_of T.F_best_of.kp T.b_best_of .nil pass0 (pa_cons (pe_slice c_slG (c_var 5) po_none (o_some pe_int)) pa_nil))) (blkOk_by (own := [("_law_at", 12)]) (N := ["_law_script", "_law_k", "_law_box_here", "_law_some", "_law_more", "_law_made", "_law_best", "_law_beaten", "_law_p", "_law_q", "_law_half", "_law_given", "_law_at", "_law_one", "_law_r"]) (sc := defScope s_law) (by decide +kernel)) (fun _ _ _ _ _ => (pg_name (i := 12) sc_law.nd rfl (Or.inl rfl))) (fun _ _ _ _ _ => pts_nil) (fun _ _ _ _ _ => (pe_ix (c_ixK (K := K) rfl) (c_var 5) (c_var 12) (fun _ _ => rfl)))) (pe_slice c_slG (c_var 5) (o_some pe_int) po_none)))
    (pss_one (s_if (t_cmp (c_ne hu64) (pe_callB k_sortG (by rfl) T.sorted (by decide +kernel) (pa_cons (e_lc (own := [("_law_at", 12)]) (by rfl) sc_law.nd (i_val (e_call (G_best_of P W0 base T) (hr.mono (by decide)) (by rfl) T.g_best_of T.F_best_of.kp T.b_best_of .nil pass0 (pa_cons (c_var 10) pa_nil))) (blkOk_by (own := [("_law_at", 12)]) (N := ["_law_script", "_law_k", "_law_box_here", "_law_some", "_law_more", "_law_made", "_law_best", "_law_beaten", "_law_p", "_law_q", "_law_half", "_law_given", "_law_at", "_law_one", "_law_r"]) (sc := defScope s_law) (by decide +kernel)) (fun _ _ _ _ _ => (pg_name (i := 12) sc_law.nd rfl (Or.inl rfl))) (fun _ _ _ _ _ => pts_nil) (fun _ _ _ _ _ => (pe_callTy (k_strO (G_Rule_str P W0 base T) T.b_Rule_str pass0 (hr.mono (by decide)) T.i_Rule_str T.j_Rule_str) (by rfl) T.str (by decide +kernel) (pa_cons (pe_ix (c_ixK (K := K) rfl) (c_var 10) (c_var 12) (fun _ _ => rfl)) pa_nil)))) pa_nil)) (pe_callB k_sortG (by rfl) T.sorted (by decide +kernel) (pa_cons (e_lc (own := [("_law_at", 12)]) (by rfl) sc_law.nd (i_val (c_var 6)) (blkOk_by (own := [("_law_at", 12)]) (N := ["_law_script", "_law_k", "_law_box_here", "_law_some", "_law_more", "_law_made", "_law_best", "_law_beaten", "_law_p", "_law_q", "_law_half", "_law_given", "_law_at", "_law_one", "_law_r"]) (sc := defScope s_law) (by decide +kernel)) (fun _ _ _ _ _ => (pg_name (i := 12) sc_law.nd rfl (Or.inl rfl))) (fun _ _ _ _ _ => pts_nil) (fun _ _ _ _ _ => (pe_callTy (k_strO (G_Rule_str P W0 base T) T.b_Rule_str pass0 (hr.mono (by decide)) T.i_Rule_str T.j_Rule_str) (by rfl) T.str (by decide +kernel) (pa_cons (pe_ix (c_ixK (K := K) rfl) (c_var 5) (c_var 12) (fun _ _ => rfl)) pa_nil)))) pa_nil)) (nomark _)) (pss_one (ps_ret pe_bl)) pss_nil))))))))))))
    (pss_one (ps_ret pe_bl))), ?_⟩
    walk_at "go"
    refine fw_range (fun i σ H' => ∃ v1 v2 v3 v4 v5 v6 v7 v8 v9 v10 v11 v12 v13 v14 : Option V, σ = [some (.ref a), v1, v2, v3, v4, v5, v6, v7, v8, v9, v10, v11, v12, v13, v14] ∧ Own H' [] [seqI K a (ns.map V.int)]) ⟨_, _, _, _, _, _, _, _, _, _, _, _, _, _, rfl, hO⟩ ?_ ?_
    rotate_left
    · rintro σ H1 ⟨v1, v2, v3, v4, v5, v6, v7, v8, v9, v10, v11, v12, v13, v14, rfl, e⟩
      walk_at "go"
      exact q _
    rintro i σ H1 hi ⟨v1, v2, v3, v4, v5, v6, v7, v8, v9, v10, v11, v12, v13, v14, rfl, e⟩
    walk_at "go"
    refine ask_box e List.mem_cons_self hl (by omega) (fun H2 b w => ?_)
    walk_at "go"
    obtain ⟨p0, hp0⟩ : ∃ x, x = pn := ⟨_, rfl⟩
    subst hp0
    obtain ⟨n0, hn0'⟩ : ∃ x, x = nn := ⟨_, rfl⟩
    subst hn0'
    have hn0 := hn
    obtain ⟨ps, hps⟩ : ∃ x, x = pp := ⟨_, rfl⟩
    subst hps
    obtain ⟨dn, hdn⟩ : ∃ x, x = d.toNat := ⟨_, rfl⟩
    have dn6 : dn ≤ 6 := by omega
    rw [← hdn]
    refine fw_range (fun i3 σ H' => ∃ (xs : List V) (nss : List (List Int)) (v4 v5 v6 v7 v8 v9 v10 v11 v12 v13 v14 : Option V), nss.length = i3 + 1 ∧ (∀ n ∈ nss, NumB (4 + 2 * (i3 : Int)) n) ∧ σ = [some (.ref a), some (.int (0 + (i : Int))), some (.ref b), some (.ref ps), v4, v5, v6, v7, v8, v9, v10, v11, v12, v13, v14] ∧ Own H' [.pt ps (.lst xs), boxCk b] [idsI xs (nss.map numD), seqI K a (ns.map V.int)]) ?_ ?_ ?_
    · refine ⟨[.ref p0], [n0], _, _, _, _, _, _, _, _, _, _, _, rfl, fun n m => by rw [List.mem_singleton.mp m]; exact hn0, rfl, ?_⟩
      have w := w.idsD (xs := [.ref p0]) (ds := [n0].map numD) (.cons (IDp.nums (w.imp (by walk_at "mem"))) .nil)
      walk_at "own"
    · rintro i3 σ H4 hi3 ⟨xs, nss, v4, v5, v6, v7, v8, v9, v10, v11, v12, v13, v14, hln, hN, rfl, e⟩
      have xl := (e.imp List.mem_cons_self).len
      rw [List.length_map] at xl
      walk_at "go"
      refine ask_pick e (by walk_at "pull") (.inl (by walk_at "pull")) (by omega) (fun H5 x mx w => ?_)
      obtain ⟨d2, hd2, hi2⟩ := (w.imp (S := idsI xs (nss.map numD)) (by walk_at "mem")).mem mx
      obtain ⟨n2, hn2, rfl⟩ := List.mem_map.mp hd2
      obtain ⟨a2, rfl, ha2⟩ := IDp.ints_inv hi2
      have w := w.addI stable_tup ha2
      have hN2 := hN n2 hn2
      walk_at "go"
      rename_i hn3 _ _
      have w := w.idsD (IDpAll.snoc (d := numD nn) (w.imp (S := idsI xs (nss.map numD)) (by walk_at "mem")) (IDp.nums (w.imp (by walk_at "mem"))))
      rw [← map_snoc] at w
      refine ⟨_, nss ++ [nn], _, _, _, _, _, _, _, _, _, _, _, by rw [List.length_append, hln]; rfl, fun n m => ?_, rfl, by walk_at "own"⟩
      rcases List.mem_append.mp m with m | m
      · exact (hN n m).up (by omega)
      · rw [List.mem_singleton.mp m]
        exact hn.up (by omega)
    rintro σ H4 ⟨xs, nss, v4, v5, v6, v7, v8, v9, v10, v11, v12, v13, v14, hln, hN, rfl, e⟩
    have xl := (e.imp List.mem_cons_self).len
    rw [List.length_map] at xl
    have sts : ∀ n ∈ nss, seatsOf n ≤ 1000 := fun n m => (hN n m).seats
    have gds : ∀ n ∈ nss, Good n := fun n m => (hN n m).good (by omega)
    have nl : nss.length ≤ 7 := by omega
    have n0l : 0 < nss.length := by omega
    walk_at "go"
    refine newa_o e (fun pm wm => ?_)
    refine la_list (xs := xs) (fun j H' => ∃ rs : List Addr, j ≤ nss.length ∧ rs.length = j ∧ Own H' [.pt pm (.lst (rs.map V.ref)), .pt ps (.lst xs), boxCk b] [rulesI T.C_Rule rs (nss.take j), idsI xs (nss.map numD), seqI K a (ns.map V.int)]) ⟨[], Nat.zero_le _, rfl, by have w := wm.addI (S := rulesI T.C_Rule [] (nss.take 0)) stable_rules rules_nil; walk_at "own"⟩ (fun j H' _ ⟨_, _, _, e⟩ => SqL.of (e.get (by walk_at "pull"))) ?_ ?_
    · rintro j x H5 hx ⟨rs, hj, hrl, e⟩
      obtain ⟨a2, n2, rfl, hn2, ha2⟩ := ids_nums (e.imp (by walk_at "mem" : idsI xs (nss.map numD) ∈ _)) hx
      have e := e.addI stable_tup ha2
      have j1 := lt_get hn2
      have g2 := gds n2 (List.mem_of_getElem? hn2)
      unfold LcT
      walk_at "go"
      have w := w.addI stable_rules (rules_snoc (w.imp (S := rulesI T.C_Rule rs (nss.take j)) (by walk_at "mem")) (w.imp (S := ruleI T.C_Rule r n2) (by walk_at "mem")))
      rw [← take_get hn2] at w
      refine ⟨rs ++ [r], j1, by rw [List.length_append, hrl]; rfl, ?_⟩
      rw [List.map_append]
      walk_at "own"
    rintro H5 ⟨rs, _, hrl, e⟩
    rw [xl, List.take_length] at e
    walk_at "go"
    refine ask_bestof true e (seqw_l (by walk_at "pull")) List.mem_cons_self sts (by omega) (fun HH pq w => ?_)
    walk_at "go"
    have w0 : Own HH [.pt pq (.tup ((bestL nss).map V.int)), .pt pm (.lst (rs.map V.ref)), .pt ps (.lst xs), boxCk b] [rulesI T.C_Rule rs nss, idsI xs (nss.map numD), seqI K a (ns.map V.int)] := by walk_at "own"
    clear w
    have w := w0
    have rl : rs.length = nss.length := rules_len w List.mem_cons_self
    have rat : ∀ {j : Nat} {own : List Int}, nss[j]? = some own → ∃ ro, (rs.map V.ref)[j]? = some (.ref ro) ∧ ∀ H, rulesI T.C_Rule rs nss H → ruleI T.C_Rule ro own H := by
      intro j own hj
      have j1 := lt_get hj
      refine ⟨rs[j]'(by omega), by rw [List.getElem?_map, List.getElem?_eq_getElem (by omega)]; rfl, fun H hR => ?_⟩
      unfold rulesI at hR
      exact hR.2 j _ _ (List.getElem?_eq_getElem (by omega)) hj
    refine newa_o w (fun pd wd => ?_)
    refine la_range (fun j H' => Own H' [.pt pd (.lst ((lostL nss j).map V.int)), .pt pq (.tup ((bestL nss).map V.int)), .pt pm (.lst (rs.map V.ref)), .pt ps (.lst xs), boxCk b] [rulesI T.C_Rule rs nss, idsI xs (nss.map numD), seqI K a (ns.map V.int)]) (by walk_at "own") ?_ ?_
    · rintro j H6 hj e
      have hj : j < nss.length := by rw [List.length_map, rl] at hj; omega
      have hown : nss[j]? = some (nss[j]'hj) := List.getElem?_eq_getElem hj
      obtain ⟨own, ho⟩ : ∃ x, x = nss[j]'hj := ⟨_, rfl⟩
      rw [← ho] at hown
      have bs := lostL_succ nss j
      rw [show nss.getD j [] = own by rw [List.getD_eq_getElem?_getD, hown]; rfl] at bs
      have bl : (lostL nss j).length ≤ j := Nat.le_trans (List.length_filter_le _ _) (by rw [upI_len]; exact Nat.le_refl _)
      obtain ⟨ro, hxz, hR3⟩ := rat hown
      have e := e.addI stable_rule (hR3 _ (e.imp (by walk_at "mem")))
      have sown := sts own (List.mem_of_getElem? hown)
      rw [show (0 + (j : Int)) = (j : Int) from Int.zero_add _]
      unfold LcT
      walk_at "go"
      refine newa_o e (fun pi wi => ?_)
      refine la_list (xs := rs.map V.ref) (fun j2 H' => Own H' [.pt pi (.lst ((hitL (fun o => beatsB o own) (nss.take j2)).map fun _ => V.int 1)), .pt pd (.lst ((lostL nss j).map V.int)), .pt pq (.tup ((bestL nss).map V.int)), .pt pm (.lst (rs.map V.ref)), .pt ps (.lst xs), boxCk b] [ruleI T.C_Rule ro own, rulesI T.C_Rule rs nss, idsI xs (nss.map numD), seqI K a (ns.map V.int)]) (by walk_at "own") (fun j H' _ e => SqL.of (e.get (by walk_at "pull"))) ?_ ?_
      · rintro j2 y H10 hy e
        obtain ⟨r2, o, rfl, hr4, ho2, hR4⟩ := rules_at e (List.mem_cons_of_mem _ List.mem_cons_self) hy
        have e := e.addI stable_rule hR4
        have so := sts o (List.mem_of_getElem? ho2)
        have hl2 := hit_len (fun o => beatsB o own) (nss.take j2)
        rw [List.length_take] at hl2
        rw [take_get ho2, hitL_snoc]
        unfold LcT
        walk_at "go"
        refine At.nat j rfl hxz ?_
        walk_at "go"
        refine Br.mk (fun hz => ?_) (fun hz => ?_)
        · rw [if_pos hz]
          walk_at "go"
          rw [List.map_append]
          walk_at "own"
        · rw [if_neg (by rw [hz]; decide), List.append_nil]
          walk_at "own"
      · rintro H10 e
        rw [List.length_map, rl, List.take_length] at e
        walk_at "go"
        refine eqd_mk (.lst (SqL.of ((by assumption : OW.Own _ _ _).get (by walk_at "pull"))) (dp_hits _)) (.lst (SqL.of ((by assumption : OW.Own _ _ _).get (by walk_at "pull"))) .nil) (shp_hits _) shaped_nil ?_
        rw [hit_eq, hit_none]
        have kd : (nss.map fun o => beatsB o own).any id = !king nss own := by unfold king; rw [Bool.not_not]
        rw [kd]
        refine Br.mk (fun hz => ?_) (fun hz => ?_)
        · have hz : king nss own = false := by simpa using hz
          rw [if_neg (by rw [hz]; decide)] at bs
          rw [bs, map_snoc]
          walk_at "go"
          walk_at "own"
        · have hz : king nss own = true := by simpa using hz
          rw [if_pos hz, List.append_nil] at bs
          rw [bs]
          walk_at "own"
    rintro H6 e
    rw [List.length_map, rl, show ((nss.length : Nat) : Int).toNat = nss.length by omega] at e
    have bsm := best_some n0l
    have bb0 : ∀ z ∈ bestL nss, 0 ≤ z ∧ z < nss.length := fun z hz => (best_beaten hz).1
    have bln : (bestL nss).length ≤ 7 := by
      have h1 := (best_lost nss).length_eq
      rw [List.length_append, upI_len] at h1
      omega
    have lln : (lostL nss nss.length).length ≤ 7 := by
      have h1 := (best_lost nss).length_eq
      rw [List.length_append, upI_len] at h1
      omega
    walk_at "go"
    refine eqd_mk (d := .tuple ((bestL nss).map PyData.int)) (e := .tuple []) (by walk_at "dp") (by walk_at "dp") (shaped_tup fun d m => by obtain ⟨z, _, rfl⟩ := List.mem_map.mp m; exact ⟨rfl, Nat.zero_le _⟩) (shaped_tup fun d m => (List.not_mem_nil m).elim) ?_
    rw [show PyData.eqv (.tuple ((bestL nss).map PyData.int)) (.tuple []) = decide (bestL nss = []) from eqv_ints_nil _, decide_eq_false bsm]
    refine br_f rfl ?_
    walk_at "go"
    have w0 : Own HH [.pt pp (.lst ((bestL nss ++ lostL nss nss.length).map V.int)), .pt pd (.lst ((lostL nss nss.length).map V.int)), .pt pq (.tup ((bestL nss).map V.int)), .pt pm (.lst (rs.map V.ref)), .pt ps (.lst xs), boxCk b] [rulesI T.C_Rule rs nss, idsI xs (nss.map numD), seqI K a (ns.map V.int)] := by rw [List.map_append]; walk_at "own"
    refine newa_o w0 (fun pz wz => ?_)
    refine la_list (xs := (bestL nss ++ lostL nss nss.length).map V.int) (fun j H' => Own H' [.pt pz (.lst (((bestL nss ++ lostL nss nss.length).take j).map V.int)), .pt pp (.lst ((bestL nss ++ lostL nss nss.length).map V.int)), .pt pd (.lst ((lostL nss nss.length).map V.int)), .pt pq (.tup ((bestL nss).map V.int)), .pt pm (.lst (rs.map V.ref)), .pt ps (.lst xs), boxCk b] [rulesI T.C_Rule rs nss, idsI xs (nss.map numD), seqI K a (ns.map V.int)]) (by walk_at "own") (fun j H' _ e => SqL.of (e.get (by walk_at "pull"))) ?_ ?_
    · rintro j x H7 hx e
      have hj := lt_get hx
      rw [List.length_map] at hj
      rw [int_at hj] at hx
      cases hx
      have jl : j ≤ 14 := by rw [List.length_append] at hj; omega
      have tl : ((bestL nss ++ lostL nss nss.length).take j).length ≤ 14 := by rw [List.length_take]; omega
      rw [take_get (get_D hj), List.map_append]
      unfold LcT
      walk_at "go"
      walk_at "own"
    rintro H7 e
    rw [List.length_map, List.take_length] at e
    walk_at "go"
    refine sorti_o e (by walk_at "pull") (by rw [List.length_append]; omega) (fun ms pms sms px HH w => ?_)
    have em := srt_best pms sms
    subst em
    have rgu : rgI 0 (((rs.map V.ref).length : Nat) : Int) = upI nss.length := by
      rw [List.length_map, rl]
      unfold rgI upI
      rw [show (fun i : Nat => (0 : Int) + (i : Int)) = fun i : Nat => (i : Int) from funext fun z => Int.zero_add _, Int.sub_zero, Int.toNat_natCast]
    walk_at "go"
    rw [rgu] at w
    have sb : ShwB (.list ((upI nss.length).map PyData.int)) 1 ((upI nss.length).length * 1923 + 3) := (shw_ints (fun z hz => by
      have := mem_upI.mp hz
      show z.natAbs < _
      omega)).lst
    refine eqd_same (by walk_at "dp") (by walk_at "dp") sb (by decide) ?_
    refine br_f rfl ?_
    walk_at "go"
    have w0 : Own HH [.pt pd (.lst ((lostL nss nss.length).map V.int)), .pt pq (.tup ((bestL nss).map V.int)), .pt pm (.lst (rs.map V.ref)), .pt ps (.lst xs), boxCk b] [rulesI T.C_Rule rs nss, idsI xs (nss.map numD), seqI K a (ns.map V.int)] := by walk_at "own"
    clear w
    have w := w0
    refine fw_list (xs := rs.map V.ref) (fun j σ H' => ∃ v8 v9 v10 v11 v12 v13 v14 : Option V, σ = [some (.ref a), some (.int (0 + (i : Int))), some (.ref b), some (.ref ps), v4, some (.ref pm), some (.ref pq), some (.ref pd), v8, v9, v10, v11, v12, v13, v14] ∧ Own H' [.pt pd (.lst ((lostL nss nss.length).map V.int)), .pt pq (.tup ((bestL nss).map V.int)), .pt pm (.lst (rs.map V.ref)), .pt ps (.lst xs), boxCk b] [rulesI T.C_Rule rs nss, idsI xs (nss.map numD), seqI K a (ns.map V.int)]) ?_ ?_ ?_ ?_
    · exact ⟨_, _, _, _, _, _, _, rfl, w⟩
    · rintro j σ H' _ ⟨_, _, _, _, _, _, _, rfl, e⟩
      exact SqL.of (e.get (by walk_at "pull"))
    --<
    · rintro j x σ H8 hx ⟨v8, v9, v10, v11, v12, v13, v14, rfl, e⟩
      obtain ⟨rp, np, rfl, hrp, hnp, hRp⟩ := rules_at e List.mem_cons_self hx
      have e := e.addI stable_rule hRp
      have gp := gds np (List.mem_of_getElem? hnp)
      have sp := sts np (List.mem_of_getElem? hnp)
      walk_at "go"
      refine newa_o e (fun pf wf => ?_)
      refine la_list (xs := rs.map V.ref) (fun j2 H' => Own H' [.pt pf (.lst []), .pt pd (.lst ((lostL nss nss.length).map V.int)), .pt pq (.tup ((bestL nss).map V.int)), .pt pm (.lst (rs.map V.ref)), .pt ps (.lst xs), boxCk b] [ruleI T.C_Rule rp np, rulesI T.C_Rule rs nss, idsI xs (nss.map numD), seqI K a (ns.map V.int)]) (by walk_at "own") (fun j H' _ e => SqL.of (e.get (by walk_at "pull"))) ?_ ?_
      · rintro j2 y H9 hy e
        obtain ⟨r2, o, rfl, hr4, ho2, hR4⟩ := rules_at e (by walk_at "mem") hy
        have e := e.addI stable_rule hR4
        have so := sts o (List.mem_of_getElem? ho2)
        have go := gds o (List.mem_of_getElem? ho2)
        unfold LcT
        walk_at "go"
        walk_at "own"
      rintro H9 e
      walk_at "go"
      have sn : ShwB (.list []) 1 3 := (shwA (m := 0) (B := 0) (ds := []) (fun d m => (List.not_mem_nil m).elim)).lst
      refine eqd_same (d := .list []) (by walk_at "dp") (by walk_at "dp") sn (by decide) ?_
      refine br_f rfl ?_
      walk_at "go"
      refine br_f (beats_irr np) ?_
      walk_at "go"
      have w0 : Own HH [.pt pd (.lst ((lostL nss nss.length).map V.int)), .pt pq (.tup ((bestL nss).map V.int)), .pt pm (.lst (rs.map V.ref)), .pt ps (.lst xs), boxCk b] [ruleI T.C_Rule rp np, rulesI T.C_Rule rs nss, idsI xs (nss.map numD), seqI K a (ns.map V.int)] := by walk_at "own"
      refine ixo_rules T.c_Rule w0 (by walk_at "pull") (by walk_at "mem") List.mem_cons_self hnp (fun j0 hj0 HH w => ?_)
      have mb := mem_best hj0
      have ivb := inV_intsA (j0 : Int) (bestL nss)
      have afl : ((bestL nss).map V.int).all flatV = true := by rw [List.all_map, List.all_eq_true]; exact fun b _ => rfl
      walk_at "go"
      refine Chk.mk ⟨rfl, afl⟩ ?_
      (conv => whnf)
      rw [show inV (.int (j0 : Nat)) ((bestL nss).map V.int) = decide ((j0 : Int) ∈ bestL nss) from ivb]
      refine Br.mk (fun hz => ?_) (fun hz => ?_)
      have hz : (j0 : Int) ∉ bestL nss := by simpa using hz
      have kf : king nss np = false := by
        cases hk : king nss np
        · rfl
        · exact absurd (mb.mpr hk) hz
      walk_at "go"
      have w0 : Own HH [.pt pd (.lst ((lostL nss nss.length).map V.int)), .pt pq (.tup ((bestL nss).map V.int)), .pt pm (.lst (rs.map V.ref)), .pt ps (.lst xs), boxCk b] [ruleI T.C_Rule rp np, rulesI T.C_Rule rs nss, idsI xs (nss.map numD), seqI K a (ns.map V.int)] := by walk_at "own"
      refine newa_o w0 (fun pf wf => ?_)
      refine la_tup (xs := (bestL nss).map V.int) (fun j2 H' => j2 ≤ (bestL nss).length ∧ Own H' [.pt pf (.lst ((((bestL nss).take j2).filter fun z => beatsB (nss.getD z.toNat []) np).map V.int)), .pt pd (.lst ((lostL nss nss.length).map V.int)), .pt pq (.tup ((bestL nss).map V.int)), .pt pm (.lst (rs.map V.ref)), .pt ps (.lst xs), boxCk b] [ruleI T.C_Rule rp np, rulesI T.C_Rule rs nss, idsI xs (nss.map numD), seqI K a (ns.map V.int)]) ⟨Nat.zero_le _, by walk_at "own"⟩ (fun j H' _ e => SqT.of (e.2.get (by walk_at "pull"))) ?_ ?_
      · rintro j x H9 hx ⟨_, e⟩
        have hj := lt_get hx
        rw [List.length_map] at hj
        rw [int_at hj] at hx
        cases hx
        obtain ⟨z, hz⟩ : ∃ z, z = (bestL nss).getD j 0 := ⟨_, rfl⟩
        have zm : z ∈ bestL nss := by
          have := List.mem_of_getElem? (get_D hj)
          rw [hz]
          exact this
        have zg := get_D hj
        rw [← hz] at zg ⊢
        have zb := bb0 z zm
        have hown : nss[z.toNat]? = some (nss[z.toNat]'(by omega)) := List.getElem?_eq_getElem _
        obtain ⟨own, ho⟩ : ∃ x, x = nss[z.toNat]'(by omega) := ⟨_, rfl⟩
        rw [← ho] at hown
        obtain ⟨ro, hxz, hR3⟩ := rat hown
        have e := e.addI stable_rule (hR3 _ (e.imp (by walk_at "mem")))
        have sown := sts own (List.mem_of_getElem? hown)
        have gd : nss.getD z.toNat [] = own := by rw [List.getD_eq_getElem?_getD, hown]; rfl
        have fl : (((bestL nss).take j).filter fun z => beatsB (nss.getD z.toNat []) np).length ≤ 7 := Nat.le_trans (List.length_filter_le _ _) (by rw [List.length_take]; omega)
        rw [take_get zg, List.filter_append, List.filter_cons, gd]
        unfold LcT
        walk_at "go"
        refine At.nat z.toNat (by omega) hxz ?_
        walk_at "go"
        refine Br.mk (fun hb => ?_) (fun hb => ?_)
        · rw [if_pos hb]
          walk_at "go"
          rw [List.map_append]
          exact ⟨hj, by walk_at "own"⟩
        · rw [if_neg (by rw [hb]; decide), List.filter_nil, List.append_nil]
          exact ⟨hj, by walk_at "own"⟩
      rintro H9 ⟨_, e⟩
      rw [List.length_map, List.take_length] at e
      have ne : ((bestL nss).filter fun z => beatsB (nss.getD z.toNat []) np) ≠ [] := by
        obtain ⟨kk, hk1, hk2, hk3⟩ := king_over nss (List.mem_of_getElem? hnp)
        obtain ⟨t, ht, htk⟩ := List.getElem_of_mem hk1
        have kb : beatsB kk np = true := by
          rcases hk3 with rfl | h
          · rw [hk2] at kf
            cases kf
          · exact h
        have h0 : nss[t]? = some kk := by rw [List.getElem?_eq_getElem ht, htk]
        intro z
        have : (t : Int) ∈ (bestL nss).filter fun z => beatsB (nss.getD z.toNat []) np := List.mem_filter.mpr ⟨(mem_best h0).mpr hk2, by rw [Int.toNat_natCast, List.getD_eq_getElem?_getD, h0]; exact kb⟩
        rw [z] at this
        exact List.not_mem_nil this
      obtain ⟨fz, hfz⟩ : ∃ x, x = (bestL nss).filter fun z => beatsB (nss.getD z.toNat []) np := ⟨_, rfl⟩
      rw [← hfz] at ne e
      walk_at "go"
      refine eqd_mk (d := .list (fz.map PyData.int)) (e := .list []) (by walk_at "dp") (by walk_at "dp") (shaped_ints _) shaped_nil ?_
      rw [show PyData.eqv (.list (fz.map PyData.int)) (.list []) = decide (fz = []) from eqv_ints_nil _, decide_eq_false ne]
      refine br_f rfl ?_
      walk_at "go"
      have w0 : Own HH [.pt pd (.lst ((lostL nss nss.length).map V.int)), .pt pq (.tup ((bestL nss).map V.int)), .pt pm (.lst (rs.map V.ref)), .pt ps (.lst xs), boxCk b] [ruleI T.C_Rule rp np, rulesI T.C_Rule rs nss, idsI xs (nss.map numD), seqI K a (ns.map V.int)] := by walk_at "own"
      rotate_left
      walk_at "go"
      have w0 : Own HH [.pt pd (.lst ((lostL nss nss.length).map V.int)), .pt pq (.tup ((bestL nss).map V.int)), .pt pm (.lst (rs.map V.ref)), .pt ps (.lst xs), boxCk b] [ruleI T.C_Rule rp np, rulesI T.C_Rule rs nss, idsI xs (nss.map numD), seqI K a (ns.map V.int)] := by walk_at "own"
      all_goals
        refine fw_list (xs := rs.map V.ref) (fun j σ H' => ∃ v9 v10 v11 v12 v13 v14 : Option V, σ = [some (.ref a), some (.int (0 + (i : Int))), some (.ref b), some (.ref ps), v4, some (.ref pm), some (.ref pq), some (.ref pd), some (.ref rp), v9, v10, v11, v12, v13, v14] ∧ Own H' [.pt pd (.lst ((lostL nss nss.length).map V.int)), .pt pq (.tup ((bestL nss).map V.int)), .pt pm (.lst (rs.map V.ref)), .pt ps (.lst xs), boxCk b] [ruleI T.C_Rule rp np, rulesI T.C_Rule rs nss, idsI xs (nss.map numD), seqI K a (ns.map V.int)]) ⟨_, _, _, _, _, _, rfl, w0⟩ ?_ ?_ ?_
        · rintro j σ H' _ ⟨_, _, _, _, _, _, rfl, e⟩
          exact SqL.of (e.get (by walk_at "pull"))
        · rintro j x σ H10 hx ⟨v9, v10, v11, v12, v13, v14, rfl, e⟩
          obtain ⟨rq, nq, rfl, hrq, hnq, hRq⟩ := rules_at e (by walk_at "mem") hx
          have e := e.addI stable_rule hRq
          have gq := gds nq (List.mem_of_getElem? hnq)
          have sq := sts nq (List.mem_of_getElem? hnq)
          walk_at "go"
          refine newa_o e (fun pf wf => ?_)
          refine la_list (xs := rs.map V.ref) (fun j2 H' => Own H' [.pt pf (.lst []), .pt pd (.lst ((lostL nss nss.length).map V.int)), .pt pq (.tup ((bestL nss).map V.int)), .pt pm (.lst (rs.map V.ref)), .pt ps (.lst xs), boxCk b] [ruleI T.C_Rule rq nq, ruleI T.C_Rule rp np, rulesI T.C_Rule rs nss, idsI xs (nss.map numD), seqI K a (ns.map V.int)]) (by walk_at "own") (fun j H' _ e => SqL.of (e.get (by walk_at "pull"))) ?_ ?_
          · rintro j2 y H9 hy e
            obtain ⟨r2, o, rfl, hr4, ho2, hR4⟩ := rules_at e (by walk_at "mem") hy
            have e := e.addI stable_rule hR4
            have so := sts o (List.mem_of_getElem? ho2)
            have go := gds o (List.mem_of_getElem? ho2)
            unfold LcT
            walk_at "go"
            refine Br.mk (fun h1 => ?_) (fun h1 => ?_)
            · walk_at "go"
              refine Br.mk (fun h2 => ?_) (fun h2 => ?_)
              · walk_at "go"
                refine br_f (by rw [beats_trans h1 h2]; rfl) ?_
                walk_at "own"
              · walk_at "go"
                walk_at "own"
            · walk_at "go"
              walk_at "own"
          rintro H9 e
          walk_at "go"
          refine eqd_same (d := .list []) (by walk_at "dp") (by walk_at "dp") sn (by decide) ?_
          refine br_f rfl ?_
          walk_at "go"
          have w0 : Own HH [.pt pd (.lst ((lostL nss nss.length).map V.int)), .pt pq (.tup ((bestL nss).map V.int)), .pt pm (.lst (rs.map V.ref)), .pt ps (.lst xs), boxCk b] [ruleI T.C_Rule rq nq, ruleI T.C_Rule rp np, rulesI T.C_Rule rs nss, idsI xs (nss.map numD), seqI K a (ns.map V.int)] := by walk_at "own"
          refine newa_o w0 (fun pf2 wf => ?_)
          refine la_list (xs := rs.map V.ref) (fun j2 H' => Own H' [.pt pf2 (.lst []), .pt pd (.lst ((lostL nss nss.length).map V.int)), .pt pq (.tup ((bestL nss).map V.int)), .pt pm (.lst (rs.map V.ref)), .pt ps (.lst xs), boxCk b] [ruleI T.C_Rule rq nq, ruleI T.C_Rule rp np, rulesI T.C_Rule rs nss, idsI xs (nss.map numD), seqI K a (ns.map V.int)]) (by walk_at "own") (fun j H' _ e => SqL.of (e.get (by walk_at "pull"))) ?_ ?_
          · rintro j2 y H9 hy e
            obtain ⟨r2, o, rfl, hr4, ho2, hR4⟩ := rules_at e (by walk_at "mem") hy
            have e := e.addI stable_rule hR4
            have so := sts o (List.mem_of_getElem? ho2)
            have go := gds o (List.mem_of_getElem? ho2)
            unfold LcT
            walk_at "go"
            refine Br.mk (fun h1 => ?_) (fun h1 => ?_)
            · walk_at "go"
              refine Br.mk (fun h2 => ?_) (fun h2 => ?_)
              · walk_at "go"
                refine br_f (by rw [nomore_trans h1 h2]; rfl) ?_
                walk_at "own"
              · walk_at "go"
                walk_at "own"
            · walk_at "go"
              walk_at "own"
          rintro H9 e
          walk_at "go"
          refine eqd_same (d := .list []) (by walk_at "dp") (by walk_at "dp") sn (by decide) ?_
          refine br_f rfl ?_
          exact ⟨_, _, _, _, _, _, rfl, by walk_at "own"⟩
        · rintro σ H10 ⟨v9, v10, v11, v12, v13, v14, rfl, e⟩
          exact ⟨_, _, _, _, _, _, _, rfl, by walk_at "own"⟩
    -->
    rintro σ H8 ⟨v8, v9, v10, v11, v12, v13, v14, rfl, e⟩
    walk_at "go"
    rw [show cutV (rs.map V.ref) none (some 3) = (rs.take 3).map V.ref by rw [show (3 : Int) = ((3 : Nat) : Int) from rfl, cut_toB, List.map_take]] at w
    have w := w.addI stable_rules (rules_take 3 (w.imp (S := rulesI T.C_Rule rs nss) (by walk_at "mem")))
    refine ask_bestof true w (seqw_l (by walk_at "pull")) List.mem_cons_self (fun n m => sts n (List.mem_of_mem_take m)) (by rw [List.length_take]; omega) (fun HH p3 w => ?_)
    walk_at "go"
    have b3 : ∀ z ∈ bestL (nss.take 3), 0 ≤ z ∧ z < 3 ∧ z < nss.length := fun z hz => by
      have := (best_beaten hz).1
      rw [List.length_take] at this
      omega
    have b3l : (bestL (nss.take 3)).length ≤ 3 := by
      have h1 := (best_lost (nss.take 3)).length_eq
      rw [List.length_append, upI_len, List.length_take] at h1
      omega
    have w0 : Own HH [.pt p3 (.tup ((bestL (nss.take 3)).map V.int)), .pt pd (.lst ((lostL nss nss.length).map V.int)), .pt pq (.tup ((bestL nss).map V.int)), .pt pm (.lst (rs.map V.ref)), .pt ps (.lst xs), boxCk b] [rulesI T.C_Rule rs nss, idsI xs (nss.map numD), seqI K a (ns.map V.int)] := by walk_at "own"
    refine newa_o w0 (fun ph wh => ?_)
    refine la_tup (xs := (bestL (nss.take 3)).map V.int) (fun j H' => j ≤ (bestL (nss.take 3)).length ∧ ∃ hs : List Addr, hs.length = j ∧ Own H' [.pt ph (.lst (hs.map V.ref)), .pt p3 (.tup ((bestL (nss.take 3)).map V.int)), .pt pd (.lst ((lostL nss nss.length).map V.int)), .pt pq (.tup ((bestL nss).map V.int)), .pt pm (.lst (rs.map V.ref)), .pt ps (.lst xs), boxCk b] [rulesI T.C_Rule hs (((bestL (nss.take 3)).take j).map fun z => nss.getD z.toNat []), rulesI T.C_Rule rs nss, idsI xs (nss.map numD), seqI K a (ns.map V.int)]) ⟨Nat.zero_le _, [], rfl, by have w := wh.addI (S := rulesI T.C_Rule [] []) stable_rules rules_nil; walk_at "own"⟩ (fun j H' _ ⟨_, _, _, e⟩ => SqT.of (e.get (by walk_at "pull"))) ?_ ?_
    · rintro j x H9 hx ⟨_, hs, hhl, e⟩
      have hj := lt_get hx
      rw [List.length_map] at hj
      rw [int_at hj] at hx
      cases hx
      obtain ⟨z, hz⟩ : ∃ z, z = (bestL (nss.take 3)).getD j 0 := ⟨_, rfl⟩
      have zm : z ∈ bestL (nss.take 3) := by
        have := List.mem_of_getElem? (get_D hj)
        rw [hz]
        exact this
      have zg := get_D hj
      rw [← hz] at zg ⊢
      have zb := b3 z zm
      have hown : nss[z.toNat]? = some (nss[z.toNat]'(by omega)) := List.getElem?_eq_getElem _
      obtain ⟨own, ho⟩ : ∃ x, x = nss[z.toNat]'(by omega) := ⟨_, rfl⟩
      rw [← ho] at hown
      obtain ⟨ro, hxz, hR3⟩ := rat hown
      have gd : nss.getD z.toNat [] = own := by rw [List.getD_eq_getElem?_getD, hown]; rfl
      have w := e.addI stable_rules (rules_snoc (e.imp List.mem_cons_self) (hR3 _ (e.imp (by walk_at "mem"))))
      rw [take_map (fun z : Int => nss.getD z.toNat []) zg, gd]
      unfold LcT
      walk_at "go"
      refine At.nat z.toNat (by omega) hxz ?_
      walk_at "go"
      refine ⟨hj, hs ++ [ro], by rw [List.length_append, hhl]; rfl, ?_⟩
      rw [List.map_append]
      walk_at "own"
    rintro H9 ⟨_, hs, hhl, e⟩
    rw [List.length_map, List.take_length] at e
    rw [List.length_map] at hhl
    have hN3 : (bestL (nss.take 3)).map (fun z => nss.getD z.toNat []) = bestN (nss.take 3) := by
      unfold bestN
      refine List.map_congr_left fun z hz => ?_
      have := b3 z hz
      rw [List.getD_eq_getElem?_getD, List.getD_eq_getElem?_getD, List.getElem?_take, if_pos (by omega)]
    rw [hN3] at e
    walk_at "go"
    rw [show cutV (rs.map V.ref) (some 3) none = (rs.drop 3).map V.ref by rw [show (3 : Int) = ((3 : Nat) : Int) from rfl, cut_fromB, List.map_drop]] at w
    have w := w.addI stable_rules (rules_app (w.imp (S := rulesI T.C_Rule hs (bestN (nss.take 3))) (by walk_at "mem")) (rules_drop 3 (w.imp (S := rulesI T.C_Rule rs nss) (by walk_at "mem"))))
    have dl : (rs.drop 3).length ≤ 7 := by rw [List.length_drop]; omega
    have dl2 : ((rs.drop 3).map V.ref).length ≤ 7 := by rw [List.length_map]; exact dl
    have hsl : (hs.map V.ref).length ≤ 3 := by rw [List.length_map]; omega
    walk_at "go"
    obtain ⟨mss, hmss⟩ : ∃ x, x = bestN (nss.take 3) ++ nss.drop 3 := ⟨_, rfl⟩
    obtain ⟨qs, hqs⟩ : ∃ x, x = hs ++ rs.drop 3 := ⟨_, rfl⟩
    have bm : bestN mss = bestN nss := by rw [hmss, best_half, List.take_append_drop]
    have sub : ∀ n ∈ mss, n ∈ nss := fun n m => by
      rw [hmss] at m
      rcases List.mem_append.mp m with m | m
      · rw [bestN_is] at m
        exact List.mem_of_mem_take (List.mem_filter.mp m).1
      · exact List.mem_of_mem_drop m
    have gdm : ∀ n ∈ mss, Good n := fun n m => gds n (sub n m)
    have stm : ∀ n ∈ mss, seatsOf n ≤ 1000 := fun n m => sts n (sub n m)
    have ml : mss.length ≤ 14 := by
      rw [hmss, List.length_append, bestN_is, List.length_drop]
      have := List.length_filter_le (king (nss.take 3)) (nss.take 3)
      rw [List.length_take] at this
      omega
    have bml : (bestL mss).length ≤ 14 := by
      have h1 := (best_lost mss).length_eq
      rw [List.length_append, upI_len] at h1
      omega
    rw [← List.map_append, ← hqs, ← hmss] at w
    refine ask_bestof true w (seqw_l (by walk_at "pull")) List.mem_cons_self stm (by omega) (fun HH p4 w => ?_)
    walk_at "go"
    have w0 : Own HH (.pt p4 (.tup ((bestL mss).map V.int)) :: .pt pp (.lst (qs.map V.ref)) :: .pt pq (.tup ((bestL nss).map V.int)) :: .pt pm (.lst (rs.map V.ref)) :: [boxCk b]) [rulesI T.C_Rule qs mss, rulesI T.C_Rule rs nss, seqI K a (ns.map V.int)] := by walk_at "own"
    refine newa_o w0 (fun p5 wh => ?_)
    refine la_tup (xs := (bestL mss).map V.int) (fun j H' => j ≤ (bestL mss).length ∧ Own H' (.pt p5 (.lst (((((bestL mss).take j).map fun z => mss.getD z.toNat []).map rtext).map V.str)) :: .pt p4 (.tup ((bestL mss).map V.int)) :: .pt pp (.lst (qs.map V.ref)) :: .pt pq (.tup ((bestL nss).map V.int)) :: .pt pm (.lst (rs.map V.ref)) :: [boxCk b]) [rulesI T.C_Rule qs mss, rulesI T.C_Rule rs nss, seqI K a (ns.map V.int)]) ⟨Nat.zero_le _, by walk_at "own"⟩ (fun j H' _ ⟨_, e⟩ => SqT.of (e.get (by walk_at "pull"))) ?_ ?_
    · rintro j x H9 hx ⟨_, e⟩
      have hj := lt_get hx
      rw [List.length_map] at hj
      rw [int_at hj] at hx
      cases hx
      obtain ⟨z, hz⟩ : ∃ z, z = (bestL mss).getD j 0 := ⟨_, rfl⟩
      have zm : z ∈ bestL mss := by
        have := List.mem_of_getElem? (get_D hj)
        rw [hz]
        exact this
      have zg := get_D hj
      rw [← hz] at zg ⊢
      have zb := (best_beaten zm).1
      have hown : mss[z.toNat]? = some (mss[z.toNat]'(by omega)) := List.getElem?_eq_getElem _
      obtain ⟨own, ho⟩ : ∃ x, x = mss[z.toNat]'(by omega) := ⟨_, rfl⟩
      rw [← ho] at hown
      have e := e.addI stable_rules (e.imp (by walk_at "mem" : rulesI T.C_Rule qs mss ∈ _))
      have rl2 : qs.length = mss.length := rules_len e List.mem_cons_self
      have hxz : (qs.map V.ref)[z.toNat]? = some ((qs.map V.ref)[z.toNat]'(by rw [List.length_map]; omega)) := List.getElem?_eq_getElem _
      obtain ⟨ro, n3, hao, hr3, hn3, hR3⟩ := rules_at e List.mem_cons_self hxz
      rw [hown] at hn3
      cases hn3
      rw [hao] at hxz
      have e := e.addI stable_rule hR3
      have gown := gdm own (List.mem_of_getElem? hown)
      have gd : mss.getD z.toNat [] = own := by rw [List.getD_eq_getElem?_getD, hown]; rfl
      have tl : (((bestL mss).take j).map fun z => mss.getD z.toNat []).length ≤ 14 := by rw [List.length_map, List.length_take]; omega
      rw [take_map (fun z : Int => mss.getD z.toNat []) zg, gd, List.map_append, List.map_append]
      unfold LcT
      walk_at "go"
      refine At.nat z.toNat (by omega) hxz ?_
      walk_at "go"
      exact ⟨hj, by walk_at "own"⟩
    rintro H9 ⟨_, e⟩
    rw [List.length_map, List.take_length] at e
    rw [show (bestL mss).map (fun z => mss.getD z.toNat []) = bestN mss from rfl] at e
    walk_at "go"
    have bml2 : (bestN mss).length ≤ 14 := by unfold bestN; rw [List.length_map]; exact bml
    refine sorts_o e (by walk_at "pull") (by rw [List.length_map]; omega) (fun zs pz1 sz1 p6 HH w => ?_)
    rw [bm] at pz1
    walk_at "go"
    have w0 : Own HH (.pt p6 (.lst (zs.map V.str)) :: .pt pq (.tup ((bestL nss).map V.int)) :: .pt pm (.lst (rs.map V.ref)) :: [boxCk b]) [rulesI T.C_Rule rs nss, seqI K a (ns.map V.int)] := by walk_at "own"
    refine newa_o w0 (fun p7 wh => ?_)
    refine la_tup (xs := (bestL nss).map V.int) (fun j H' => j ≤ (bestL nss).length ∧ Own H' (.pt p7 (.lst (((((bestL nss).take j).map fun z => nss.getD z.toNat []).map rtext).map V.str)) :: .pt p6 (.lst (zs.map V.str)) :: .pt pq (.tup ((bestL nss).map V.int)) :: .pt pm (.lst (rs.map V.ref)) :: [boxCk b]) [rulesI T.C_Rule rs nss, seqI K a (ns.map V.int)]) ⟨Nat.zero_le _, by walk_at "own"⟩ (fun j H' _ ⟨_, e⟩ => SqT.of (e.get (by walk_at "pull"))) ?_ ?_
    · rintro j x H9 hx ⟨_, e⟩
      have hj := lt_get hx
      rw [List.length_map] at hj
      rw [int_at hj] at hx
      cases hx
      obtain ⟨z, hz⟩ : ∃ z, z = (bestL nss).getD j 0 := ⟨_, rfl⟩
      have zm : z ∈ bestL nss := by
        have := List.mem_of_getElem? (get_D hj)
        rw [hz]
        exact this
      have zg := get_D hj
      rw [← hz] at zg ⊢
      have zb := (best_beaten zm).1
      have hown : nss[z.toNat]? = some (nss[z.toNat]'(by omega)) := List.getElem?_eq_getElem _
      obtain ⟨own, ho⟩ : ∃ x, x = nss[z.toNat]'(by omega) := ⟨_, rfl⟩
      rw [← ho] at hown
      have e := e.addI stable_rules (e.imp (by walk_at "mem" : rulesI T.C_Rule rs nss ∈ _))
      have rl2 : rs.length = nss.length := rules_len e List.mem_cons_self
      have hxz : (rs.map V.ref)[z.toNat]? = some ((rs.map V.ref)[z.toNat]'(by rw [List.length_map]; omega)) := List.getElem?_eq_getElem _
      obtain ⟨ro, n3, hao, hr3, hn3, hR3⟩ := rules_at e List.mem_cons_self hxz
      rw [hown] at hn3
      cases hn3
      rw [hao] at hxz
      have e := e.addI stable_rule hR3
      have gown := gds own (List.mem_of_getElem? hown)
      have gd : nss.getD z.toNat [] = own := by rw [List.getD_eq_getElem?_getD, hown]; rfl
      have tl : (((bestL nss).take j).map fun z => nss.getD z.toNat []).length ≤ 14 := by rw [List.length_map, List.length_take]; omega
      rw [take_map (fun z : Int => nss.getD z.toNat []) zg, gd, List.map_append, List.map_append]
      unfold LcT
      walk_at "go"
      refine At.nat z.toNat (by omega) hxz ?_
      walk_at "go"
      exact ⟨hj, by walk_at "own"⟩
    rintro H9 ⟨_, e⟩
    rw [List.length_map, List.take_length] at e
    rw [show (bestL nss).map (fun z => nss.getD z.toNat []) = bestN nss from rfl] at e
    walk_at "go"
    have bnl2 : (bestN nss).length ≤ 14 := by rw [← bm]; exact bml2
    refine sorts_o e (by walk_at "pull") (by rw [List.length_map]; omega) (fun ys py1 sy1 p8 HH w => ?_)
    have zy : zs = ys := sortS_one pz1 py1 sz1 sy1
    subst zy
    have zl : zs.length ≤ 14 := by rw [pz1.length_eq, List.length_map]; exact bnl2
    have sz : ShwB (.list (zs.map PyData.str)) (0 + 1) ((zs.map PyData.str).length * 200102 + 3) := (shwA (m := 0) (B := 200100) (ds := zs.map PyData.str) (fun d m => by
      obtain ⟨z, hz, rfl⟩ := List.mem_map.mp m
      obtain ⟨n, hn, rfl⟩ := List.mem_map.mp (pz1.mem_iff.mp hz)
      rw [bestN_is] at hn
      exact rtext_shw (gds n (List.mem_filter.mp hn).1))).lst
    walk_at "go"
    refine eqd_same (by walk_at "dp") (by walk_at "dp") sz (by decide) ?_
    refine br_f rfl ?_
    walk_at "go"
    exact ⟨_, _, _, _, _, _, _, _, _, _, _, _, _, _, rfl, by walk_at "own"⟩
end
end My
set_option Elab.async false
set_option linter.all false
set_option maxRecDepth 100000
set_option maxHeartbeats 800000
namespace My
open PySem PySem.Spec PyProof.Rows L2 RZ SkE CL OW
theorem b6_of {K : PySem.W.Frag} {fd : FuncData} {ps : List Str} (h : ∃ ds, Vals [] ds ∧ Binds K fd ps ds) : Binds K fd ps [] := by
  obtain ⟨ds, v, b⟩ := h
  cases v
  exact b
theorem all_mk {l : PySem.W.OpenLaw} {w : World} {K : PySem.W.Frag} {h : Heap} {mg : Str → Option Value} {fa f_law C_Rule f_is_integer_from f_most_at_one_seat f_can_share f_can_be_silent f_most_of_all f_most f_silent_borrow f_over_plan f_taken_plan f_twice_plan f_waits_plan f_plan f_happens f_longest_kept f_no_more f_drawbacks f_is_better f_beats f_best_of f_is_number_for f_Rule_init Td_Rule_init f_Rule_eq f_Rule_str f_l_box f_l_take f_l_pick f_l_numbers f_l_ruled f_l_near f_l_pair_right a_WORDS a_FAULTS a_PLANS : Addr} (X : K.In h) (G : h.Ns mainGlobals mg) (hfa : mg "law" = some (.ref fa))
    {od_is_integer_from an_is_integer_from od_most_at_one_seat an_most_at_one_seat od_can_share an_can_share od_can_be_silent an_can_be_silent od_most_of_all an_most_of_all od_most an_most od_silent_borrow an_silent_borrow od_over_plan an_over_plan od_taken_plan an_taken_plan od_twice_plan an_twice_plan od_waits_plan an_waits_plan od_plan an_plan od_happens an_happens od_longest_kept an_longest_kept od_no_more an_no_more od_drawbacks an_drawbacks od_is_better an_is_better od_beats an_beats od_best_of an_best_of od_is_number_for an_is_number_for od_Rule_init an_Rule_init odT_Rule_init od_Rule_eq an_Rule_eq od_Rule_str an_Rule_str od_l_box an_l_box od_l_take an_l_take od_l_pick an_l_pick od_l_numbers an_l_numbers od_l_ruled an_l_ruled od_l_near an_l_near od_l_pair_right an_l_pair_right od_law an_law odC_WORDS odC_FAULTS : Option Addr} {sl_is_integer_from sl_most_at_one_seat sl_can_share sl_can_be_silent sl_most_of_all sl_most sl_silent_borrow sl_over_plan sl_taken_plan sl_twice_plan sl_waits_plan sl_plan sl_happens sl_longest_kept sl_no_more sl_drawbacks sl_is_better sl_beats sl_best_of sl_is_number_for sl_Rule_init slT_Rule_init sl_Rule_eq sl_Rule_str sl_l_box sl_l_take sl_l_pick sl_l_numbers sl_l_ruled sl_l_near sl_l_pair_right sl_law slC_WORDS slC_FAULTS : Array (Option Value)} {oc_is_integer_from kV_is_integer_from dc_is_integer_from pm_is_integer_from cd_is_integer_from ct_is_integer_from oc_most_at_one_seat kV_most_at_one_seat dc_most_at_one_seat pm_most_at_one_seat cd_most_at_one_seat ct_most_at_one_seat oc_can_share kV_can_share dc_can_share pm_can_share cd_can_share ct_can_share oc_can_be_silent kV_can_be_silent dc_can_be_silent pm_can_be_silent cd_can_be_silent ct_can_be_silent oc_most_of_all kV_most_of_all dc_most_of_all pm_most_of_all cd_most_of_all ct_most_of_all oc_most kV_most dc_most pm_most cd_most ct_most oc_silent_borrow kV_silent_borrow dc_silent_borrow pm_silent_borrow cd_silent_borrow ct_silent_borrow oc_over_plan kV_over_plan dc_over_plan pm_over_plan cd_over_plan ct_over_plan oc_taken_plan kV_taken_plan dc_taken_plan pm_taken_plan cd_taken_plan ct_taken_plan oc_twice_plan kV_twice_plan dc_twice_plan pm_twice_plan cd_twice_plan ct_twice_plan oc_waits_plan kV_waits_plan dc_waits_plan pm_waits_plan cd_waits_plan ct_waits_plan oc_plan kV_plan dc_plan pm_plan cd_plan ct_plan oc_happens kV_happens dc_happens pm_happens cd_happens ct_happens oc_longest_kept kV_longest_kept dc_longest_kept pm_longest_kept cd_longest_kept ct_longest_kept oc_no_more kV_no_more dc_no_more pm_no_more cd_no_more ct_no_more oc_drawbacks kV_drawbacks dc_drawbacks pm_drawbacks cd_drawbacks ct_drawbacks oc_is_better kV_is_better dc_is_better pm_is_better cd_is_better ct_is_better oc_beats kV_beats dc_beats pm_beats cd_beats ct_beats oc_best_of kV_best_of dc_best_of pm_best_of cd_best_of ct_best_of oc_is_number_for kV_is_number_for dc_is_number_for pm_is_number_for cd_is_number_for ct_is_number_for oc_Rule_init kV_Rule_init dc_Rule_init pm_Rule_init cd_Rule_init ct_Rule_init ocT_Rule_init oc_Rule_eq kV_Rule_eq dc_Rule_eq pm_Rule_eq cd_Rule_eq ct_Rule_eq oc_Rule_str kV_Rule_str dc_Rule_str pm_Rule_str cd_Rule_str ct_Rule_str oc_l_box kV_l_box dc_l_box pm_l_box cd_l_box ct_l_box oc_l_take kV_l_take dc_l_take pm_l_take cd_l_take ct_l_take oc_l_pick kV_l_pick dc_l_pick pm_l_pick cd_l_pick ct_l_pick oc_l_numbers kV_l_numbers dc_l_numbers pm_l_numbers cd_l_numbers ct_l_numbers oc_l_ruled kV_l_ruled dc_l_ruled pm_l_ruled cd_l_ruled ct_l_ruled oc_l_near kV_l_near dc_l_near pm_l_near cd_l_near ct_l_near oc_l_pair_right kV_l_pair_right dc_l_pair_right pm_l_pair_right cd_l_pair_right ct_l_pair_right oc_law kV_law dc_law pm_law cd_law ct_law : Value} {mT_Rule_init mC_WORDS mC_FAULTS nD_PLANS : Nat} {t0_Rule_init tc0_WORDS tc1_WORDS tc2_WORDS tc3_WORDS tc4_WORDS tc0_FAULTS tc1_FAULTS tc2_FAULTS tc3_FAULTS : Tok} {es_PLANS : Array DictEntry}
    (aC_Rule : PySem.W.nsIn K mainGlobals "Rule" = some (some (.ref C_Rule)))
    (pg_Rule : PySem.W.plainGet K C_Rule Str.empty = true)
    (hd_Rule : PySem.W.hasDictIn K C_Rule = true)
    (po_Rule : PySem.W.plainOver K C_Rule = true)
    (sa_Rule : PySem.W.findIn K (.ref C_Rule) "__setattr__" = some (some (.builtin "object.__setattr__")))
    (mk_Rule : PySem.W.makesIn K C_Rule = true)
    (kc_Rule : PySem.W.keepIn K (.ref C_Rule) = true)
    (ha_Rule : PySem.W.findIn K (.ref C_Rule) "__class__" = some (some (.builtin "object.__class__")))
    (hm_Rule : PySem.W.mroIn K C_Rule (.type "object") = some true)
    (na_Rule_seats : PySem.W.findIn K (.ref C_Rule) "seats" = some none)
    (na_Rule_lapse : PySem.W.findIn K (.ref C_Rule) "lapse" = some none)
    (na_Rule_beat : PySem.W.findIn K (.ref C_Rule) "beat" = some none)
    (na_Rule_grace : PySem.W.findIn K (.ref C_Rule) "grace" = some none)
    (na_Rule_late : PySem.W.findIn K (.ref C_Rule) "late" = some none)
    (hn_ : PySem.W.specialIn K (.builtin "object.__class__") "__get__" = some (some (.builtin "getset_descriptor.__get__")))
    (ht_ : PySem.W.takesIn K (.builtin "object.__class__") = some true)
    (a_is_integer_from : PySem.W.nsIn K mainGlobals "is_integer_from" = some (some (.ref f_is_integer_from)))
    (l_is_integer_from : K.lookup f_is_integer_from = some ⟨oc_is_integer_from, od_is_integer_from, .func (PySem.W.fnOf "is_integer_from" "is_integer_from" (defArgs s_is_integer_from) (defBody s_is_integer_from) (defScope s_is_integer_from) .none kV_is_integer_from dc_is_integer_from pm_is_integer_from an_is_integer_from cd_is_integer_from ct_is_integer_from), sl_is_integer_from⟩)
    (cI_is_integer_from : PySem.W.codeIn K cd_is_integer_from "is_integer_from" = true)
    (k_is_integer_from : PySem.W.keepIn K (.ref f_is_integer_from) = true)
    (a_most_at_one_seat : PySem.W.nsIn K mainGlobals "most_at_one_seat" = some (some (.ref f_most_at_one_seat)))
    (l_most_at_one_seat : K.lookup f_most_at_one_seat = some ⟨oc_most_at_one_seat, od_most_at_one_seat, .func (PySem.W.fnOf "most_at_one_seat" "most_at_one_seat" (defArgs s_most_at_one_seat) (defBody s_most_at_one_seat) (defScope s_most_at_one_seat) .none kV_most_at_one_seat dc_most_at_one_seat pm_most_at_one_seat an_most_at_one_seat cd_most_at_one_seat ct_most_at_one_seat), sl_most_at_one_seat⟩)
    (cI_most_at_one_seat : PySem.W.codeIn K cd_most_at_one_seat "most_at_one_seat" = true)
    (k_most_at_one_seat : PySem.W.keepIn K (.ref f_most_at_one_seat) = true)
    (a_can_share : PySem.W.nsIn K mainGlobals "can_share" = some (some (.ref f_can_share)))
    (l_can_share : K.lookup f_can_share = some ⟨oc_can_share, od_can_share, .func (PySem.W.fnOf "can_share" "can_share" (defArgs s_can_share) (defBody s_can_share) (defScope s_can_share) .none kV_can_share dc_can_share pm_can_share an_can_share cd_can_share ct_can_share), sl_can_share⟩)
    (cI_can_share : PySem.W.codeIn K cd_can_share "can_share" = true)
    (k_can_share : PySem.W.keepIn K (.ref f_can_share) = true)
    (a_can_be_silent : PySem.W.nsIn K mainGlobals "can_be_silent" = some (some (.ref f_can_be_silent)))
    (l_can_be_silent : K.lookup f_can_be_silent = some ⟨oc_can_be_silent, od_can_be_silent, .func (PySem.W.fnOf "can_be_silent" "can_be_silent" (defArgs s_can_be_silent) (defBody s_can_be_silent) (defScope s_can_be_silent) .none kV_can_be_silent dc_can_be_silent pm_can_be_silent an_can_be_silent cd_can_be_silent ct_can_be_silent), sl_can_be_silent⟩)
    (cI_can_be_silent : PySem.W.codeIn K cd_can_be_silent "can_be_silent" = true)
    (k_can_be_silent : PySem.W.keepIn K (.ref f_can_be_silent) = true)
    (a_most_of_all : PySem.W.nsIn K mainGlobals "most_of_all" = some (some (.ref f_most_of_all)))
    (l_most_of_all : K.lookup f_most_of_all = some ⟨oc_most_of_all, od_most_of_all, .func (PySem.W.fnOf "most_of_all" "most_of_all" (defArgs s_most_of_all) (defBody s_most_of_all) (defScope s_most_of_all) .none kV_most_of_all dc_most_of_all pm_most_of_all an_most_of_all cd_most_of_all ct_most_of_all), sl_most_of_all⟩)
    (cI_most_of_all : PySem.W.codeIn K cd_most_of_all "most_of_all" = true)
    (k_most_of_all : PySem.W.keepIn K (.ref f_most_of_all) = true)
    (a_most : PySem.W.nsIn K mainGlobals "most" = some (some (.ref f_most)))
    (l_most : K.lookup f_most = some ⟨oc_most, od_most, .func (PySem.W.fnOf "most" "most" (defArgs s_most) (defBody s_most) (defScope s_most) .none kV_most dc_most pm_most an_most cd_most ct_most), sl_most⟩)
    (cI_most : PySem.W.codeIn K cd_most "most" = true)
    (k_most : PySem.W.keepIn K (.ref f_most) = true)
    (a_silent_borrow : PySem.W.nsIn K mainGlobals "silent_borrow" = some (some (.ref f_silent_borrow)))
    (l_silent_borrow : K.lookup f_silent_borrow = some ⟨oc_silent_borrow, od_silent_borrow, .func (PySem.W.fnOf "silent_borrow" "silent_borrow" (defArgs s_silent_borrow) (defBody s_silent_borrow) (defScope s_silent_borrow) .none kV_silent_borrow dc_silent_borrow pm_silent_borrow an_silent_borrow cd_silent_borrow ct_silent_borrow), sl_silent_borrow⟩)
    (cI_silent_borrow : PySem.W.codeIn K cd_silent_borrow "silent_borrow" = true)
    (k_silent_borrow : PySem.W.keepIn K (.ref f_silent_borrow) = true)
    (a_over_plan : PySem.W.nsIn K mainGlobals "over_plan" = some (some (.ref f_over_plan)))
    (l_over_plan : K.lookup f_over_plan = some ⟨oc_over_plan, od_over_plan, .func (PySem.W.fnOf "over_plan" "over_plan" (defArgs s_over_plan) (defBody s_over_plan) (defScope s_over_plan) .none kV_over_plan dc_over_plan pm_over_plan an_over_plan cd_over_plan ct_over_plan), sl_over_plan⟩)
    (cI_over_plan : PySem.W.codeIn K cd_over_plan "over_plan" = true)
    (k_over_plan : PySem.W.keepIn K (.ref f_over_plan) = true)
    (a_taken_plan : PySem.W.nsIn K mainGlobals "taken_plan" = some (some (.ref f_taken_plan)))
    (l_taken_plan : K.lookup f_taken_plan = some ⟨oc_taken_plan, od_taken_plan, .func (PySem.W.fnOf "taken_plan" "taken_plan" (defArgs s_taken_plan) (defBody s_taken_plan) (defScope s_taken_plan) .none kV_taken_plan dc_taken_plan pm_taken_plan an_taken_plan cd_taken_plan ct_taken_plan), sl_taken_plan⟩)
    (cI_taken_plan : PySem.W.codeIn K cd_taken_plan "taken_plan" = true)
    (k_taken_plan : PySem.W.keepIn K (.ref f_taken_plan) = true)
    (a_twice_plan : PySem.W.nsIn K mainGlobals "twice_plan" = some (some (.ref f_twice_plan)))
    (l_twice_plan : K.lookup f_twice_plan = some ⟨oc_twice_plan, od_twice_plan, .func (PySem.W.fnOf "twice_plan" "twice_plan" (defArgs s_twice_plan) (defBody s_twice_plan) (defScope s_twice_plan) .none kV_twice_plan dc_twice_plan pm_twice_plan an_twice_plan cd_twice_plan ct_twice_plan), sl_twice_plan⟩)
    (cI_twice_plan : PySem.W.codeIn K cd_twice_plan "twice_plan" = true)
    (k_twice_plan : PySem.W.keepIn K (.ref f_twice_plan) = true)
    (a_waits_plan : PySem.W.nsIn K mainGlobals "waits_plan" = some (some (.ref f_waits_plan)))
    (l_waits_plan : K.lookup f_waits_plan = some ⟨oc_waits_plan, od_waits_plan, .func (PySem.W.fnOf "waits_plan" "waits_plan" (defArgs s_waits_plan) (defBody s_waits_plan) (defScope s_waits_plan) .none kV_waits_plan dc_waits_plan pm_waits_plan an_waits_plan cd_waits_plan ct_waits_plan), sl_waits_plan⟩)
    (cI_waits_plan : PySem.W.codeIn K cd_waits_plan "waits_plan" = true)
    (k_waits_plan : PySem.W.keepIn K (.ref f_waits_plan) = true)
    (a_plan : PySem.W.nsIn K mainGlobals "plan" = some (some (.ref f_plan)))
    (l_plan : K.lookup f_plan = some ⟨oc_plan, od_plan, .func (PySem.W.fnOf "plan" "plan" (defArgs s_plan) (defBody s_plan) (defScope s_plan) .none kV_plan dc_plan pm_plan an_plan cd_plan ct_plan), sl_plan⟩)
    (cI_plan : PySem.W.codeIn K cd_plan "plan" = true)
    (k_plan : PySem.W.keepIn K (.ref f_plan) = true)
    (a_happens : PySem.W.nsIn K mainGlobals "happens" = some (some (.ref f_happens)))
    (l_happens : K.lookup f_happens = some ⟨oc_happens, od_happens, .func (PySem.W.fnOf "happens" "happens" (defArgs s_happens) (defBody s_happens) (defScope s_happens) .none kV_happens dc_happens pm_happens an_happens cd_happens ct_happens), sl_happens⟩)
    (cI_happens : PySem.W.codeIn K cd_happens "happens" = true)
    (k_happens : PySem.W.keepIn K (.ref f_happens) = true)
    (a_longest_kept : PySem.W.nsIn K mainGlobals "longest_kept" = some (some (.ref f_longest_kept)))
    (l_longest_kept : K.lookup f_longest_kept = some ⟨oc_longest_kept, od_longest_kept, .func (PySem.W.fnOf "longest_kept" "longest_kept" (defArgs s_longest_kept) (defBody s_longest_kept) (defScope s_longest_kept) .none kV_longest_kept dc_longest_kept pm_longest_kept an_longest_kept cd_longest_kept ct_longest_kept), sl_longest_kept⟩)
    (cI_longest_kept : PySem.W.codeIn K cd_longest_kept "longest_kept" = true)
    (k_longest_kept : PySem.W.keepIn K (.ref f_longest_kept) = true)
    (a_no_more : PySem.W.nsIn K mainGlobals "no_more" = some (some (.ref f_no_more)))
    (l_no_more : K.lookup f_no_more = some ⟨oc_no_more, od_no_more, .func (PySem.W.fnOf "no_more" "no_more" (defArgs s_no_more) (defBody s_no_more) (defScope s_no_more) .none kV_no_more dc_no_more pm_no_more an_no_more cd_no_more ct_no_more), sl_no_more⟩)
    (cI_no_more : PySem.W.codeIn K cd_no_more "no_more" = true)
    (k_no_more : PySem.W.keepIn K (.ref f_no_more) = true)
    (a_drawbacks : PySem.W.nsIn K mainGlobals "drawbacks" = some (some (.ref f_drawbacks)))
    (l_drawbacks : K.lookup f_drawbacks = some ⟨oc_drawbacks, od_drawbacks, .func (PySem.W.fnOf "drawbacks" "drawbacks" (defArgs s_drawbacks) (defBody s_drawbacks) (defScope s_drawbacks) .none kV_drawbacks dc_drawbacks pm_drawbacks an_drawbacks cd_drawbacks ct_drawbacks), sl_drawbacks⟩)
    (cI_drawbacks : PySem.W.codeIn K cd_drawbacks "drawbacks" = true)
    (k_drawbacks : PySem.W.keepIn K (.ref f_drawbacks) = true)
    (a_is_better : PySem.W.nsIn K mainGlobals "is_better" = some (some (.ref f_is_better)))
    (l_is_better : K.lookup f_is_better = some ⟨oc_is_better, od_is_better, .func (PySem.W.fnOf "is_better" "is_better" (defArgs s_is_better) (defBody s_is_better) (defScope s_is_better) .none kV_is_better dc_is_better pm_is_better an_is_better cd_is_better ct_is_better), sl_is_better⟩)
    (cI_is_better : PySem.W.codeIn K cd_is_better "is_better" = true)
    (k_is_better : PySem.W.keepIn K (.ref f_is_better) = true)
    (a_beats : PySem.W.nsIn K mainGlobals "beats" = some (some (.ref f_beats)))
    (l_beats : K.lookup f_beats = some ⟨oc_beats, od_beats, .func (PySem.W.fnOf "beats" "beats" (defArgs s_beats) (defBody s_beats) (defScope s_beats) .none kV_beats dc_beats pm_beats an_beats cd_beats ct_beats), sl_beats⟩)
    (cI_beats : PySem.W.codeIn K cd_beats "beats" = true)
    (k_beats : PySem.W.keepIn K (.ref f_beats) = true)
    (a_best_of : PySem.W.nsIn K mainGlobals "best_of" = some (some (.ref f_best_of)))
    (l_best_of : K.lookup f_best_of = some ⟨oc_best_of, od_best_of, .func (PySem.W.fnOf "best_of" "best_of" (defArgs s_best_of) (defBody s_best_of) (defScope s_best_of) .none kV_best_of dc_best_of pm_best_of an_best_of cd_best_of ct_best_of), sl_best_of⟩)
    (cI_best_of : PySem.W.codeIn K cd_best_of "best_of" = true)
    (k_best_of : PySem.W.keepIn K (.ref f_best_of) = true)
    (a_is_number_for : PySem.W.nsIn K mainGlobals "is_number_for" = some (some (.ref f_is_number_for)))
    (l_is_number_for : K.lookup f_is_number_for = some ⟨oc_is_number_for, od_is_number_for, .func (PySem.W.fnOf "is_number_for" "is_number_for" (defArgs s_is_number_for) (defBody s_is_number_for) (defScope s_is_number_for) .none kV_is_number_for dc_is_number_for pm_is_number_for an_is_number_for cd_is_number_for ct_is_number_for), sl_is_number_for⟩)
    (cI_is_number_for : PySem.W.codeIn K cd_is_number_for "is_number_for" = true)
    (k_is_number_for : PySem.W.keepIn K (.ref f_is_number_for) = true)
    (a_Rule_init : PySem.W.findIn K (.ref C_Rule) "__init__" = some (some (.ref f_Rule_init)))
    (i_Rule_init : PySem.W.isFn K (.ref f_Rule_init) = true)
    (l_Rule_init : K.lookup f_Rule_init = some ⟨oc_Rule_init, od_Rule_init, .func (PySem.W.fnOf "__init__" "Rule.__init__" (defArgs s_Rule_init) (defBody s_Rule_init) (defScope s_Rule_init) (.ref Td_Rule_init) kV_Rule_init dc_Rule_init pm_Rule_init an_Rule_init cd_Rule_init ct_Rule_init), sl_Rule_init⟩)
    (cI_Rule_init : PySem.W.codeIn K cd_Rule_init "Rule.__init__" = true)
    (k_Rule_init : PySem.W.keepIn K (.ref f_Rule_init) = true)
    (lT_Rule_init : K.lookup Td_Rule_init = some ⟨ocT_Rule_init, odT_Rule_init, .seq #[.int 0 t0_Rule_init] mT_Rule_init, slT_Rule_init⟩)
    (a_Rule_eq : PySem.W.findIn K (.ref C_Rule) "__eq__" = some (some (.ref f_Rule_eq)))
    (i_Rule_eq : PySem.W.isFn K (.ref f_Rule_eq) = true)
    (ne_Rule : PySem.W.findIn K (.ref C_Rule) "__ne__" = some (some (.builtin "object.__ne__")))
    (l_Rule_eq : K.lookup f_Rule_eq = some ⟨oc_Rule_eq, od_Rule_eq, .func (PySem.W.fnOf "__eq__" "Rule.__eq__" (defArgs s_Rule_eq) (defBody s_Rule_eq) (defScope s_Rule_eq) .none kV_Rule_eq dc_Rule_eq pm_Rule_eq an_Rule_eq cd_Rule_eq ct_Rule_eq), sl_Rule_eq⟩)
    (cI_Rule_eq : PySem.W.codeIn K cd_Rule_eq "Rule.__eq__" = true)
    (k_Rule_eq : PySem.W.keepIn K (.ref f_Rule_eq) = true)
    (a_Rule_str : PySem.W.findIn K (.ref C_Rule) "__str__" = some (some (.ref f_Rule_str)))
    (i_Rule_str : PySem.W.isFn K (.ref f_Rule_str) = true)
    (l_Rule_str : K.lookup f_Rule_str = some ⟨oc_Rule_str, od_Rule_str, .func (PySem.W.fnOf "__str__" "Rule.__str__" (defArgs s_Rule_str) (defBody s_Rule_str) (defScope s_Rule_str) .none kV_Rule_str dc_Rule_str pm_Rule_str an_Rule_str cd_Rule_str ct_Rule_str), sl_Rule_str⟩)
    (cI_Rule_str : PySem.W.codeIn K cd_Rule_str "Rule.__str__" = true)
    (k_Rule_str : PySem.W.keepIn K (.ref f_Rule_str) = true)
    (a_l_box : PySem.W.nsIn K mainGlobals "_law_box" = some (some (.ref f_l_box)))
    (l_l_box : K.lookup f_l_box = some ⟨oc_l_box, od_l_box, .func (PySem.W.fnOf "_law_box" "_law_box" (defArgs s_l_box) (defBody s_l_box) (defScope s_l_box) .none kV_l_box dc_l_box pm_l_box an_l_box cd_l_box ct_l_box), sl_l_box⟩)
    (cI_l_box : PySem.W.codeIn K cd_l_box "_law_box" = true)
    (k_l_box : PySem.W.keepIn K (.ref f_l_box) = true)
    (a_l_take : PySem.W.nsIn K mainGlobals "_law_take" = some (some (.ref f_l_take)))
    (l_l_take : K.lookup f_l_take = some ⟨oc_l_take, od_l_take, .func (PySem.W.fnOf "_law_take" "_law_take" (defArgs s_l_take) (defBody s_l_take) (defScope s_l_take) .none kV_l_take dc_l_take pm_l_take an_l_take cd_l_take ct_l_take), sl_l_take⟩)
    (cI_l_take : PySem.W.codeIn K cd_l_take "_law_take" = true)
    (k_l_take : PySem.W.keepIn K (.ref f_l_take) = true)
    (a_l_pick : PySem.W.nsIn K mainGlobals "_law_pick" = some (some (.ref f_l_pick)))
    (l_l_pick : K.lookup f_l_pick = some ⟨oc_l_pick, od_l_pick, .func (PySem.W.fnOf "_law_pick" "_law_pick" (defArgs s_l_pick) (defBody s_l_pick) (defScope s_l_pick) .none kV_l_pick dc_l_pick pm_l_pick an_l_pick cd_l_pick ct_l_pick), sl_l_pick⟩)
    (cI_l_pick : PySem.W.codeIn K cd_l_pick "_law_pick" = true)
    (k_l_pick : PySem.W.keepIn K (.ref f_l_pick) = true)
    (a_l_numbers : PySem.W.nsIn K mainGlobals "_law_numbers" = some (some (.ref f_l_numbers)))
    (l_l_numbers : K.lookup f_l_numbers = some ⟨oc_l_numbers, od_l_numbers, .func (PySem.W.fnOf "_law_numbers" "_law_numbers" (defArgs s_l_numbers) (defBody s_l_numbers) (defScope s_l_numbers) .none kV_l_numbers dc_l_numbers pm_l_numbers an_l_numbers cd_l_numbers ct_l_numbers), sl_l_numbers⟩)
    (cI_l_numbers : PySem.W.codeIn K cd_l_numbers "_law_numbers" = true)
    (k_l_numbers : PySem.W.keepIn K (.ref f_l_numbers) = true)
    (a_l_ruled : PySem.W.nsIn K mainGlobals "_law_ruled" = some (some (.ref f_l_ruled)))
    (l_l_ruled : K.lookup f_l_ruled = some ⟨oc_l_ruled, od_l_ruled, .func (PySem.W.fnOf "_law_ruled" "_law_ruled" (defArgs s_l_ruled) (defBody s_l_ruled) (defScope s_l_ruled) .none kV_l_ruled dc_l_ruled pm_l_ruled an_l_ruled cd_l_ruled ct_l_ruled), sl_l_ruled⟩)
    (cI_l_ruled : PySem.W.codeIn K cd_l_ruled "_law_ruled" = true)
    (k_l_ruled : PySem.W.keepIn K (.ref f_l_ruled) = true)
    (a_l_near : PySem.W.nsIn K mainGlobals "_law_near" = some (some (.ref f_l_near)))
    (l_l_near : K.lookup f_l_near = some ⟨oc_l_near, od_l_near, .func (PySem.W.fnOf "_law_near" "_law_near" (defArgs s_l_near) (defBody s_l_near) (defScope s_l_near) .none kV_l_near dc_l_near pm_l_near an_l_near cd_l_near ct_l_near), sl_l_near⟩)
    (cI_l_near : PySem.W.codeIn K cd_l_near "_law_near" = true)
    (k_l_near : PySem.W.keepIn K (.ref f_l_near) = true)
    (a_l_pair_right : PySem.W.nsIn K mainGlobals "_law_pair_right" = some (some (.ref f_l_pair_right)))
    (l_l_pair_right : K.lookup f_l_pair_right = some ⟨oc_l_pair_right, od_l_pair_right, .func (PySem.W.fnOf "_law_pair_right" "_law_pair_right" (defArgs s_l_pair_right) (defBody s_l_pair_right) (defScope s_l_pair_right) .none kV_l_pair_right dc_l_pair_right pm_l_pair_right an_l_pair_right cd_l_pair_right ct_l_pair_right), sl_l_pair_right⟩)
    (cI_l_pair_right : PySem.W.codeIn K cd_l_pair_right "_law_pair_right" = true)
    (k_l_pair_right : PySem.W.keepIn K (.ref f_l_pair_right) = true)
    (a_law : PySem.W.nsIn K mainGlobals "law" = some (some (.ref f_law)))
    (l_law : K.lookup f_law = some ⟨oc_law, od_law, .func (PySem.W.fnOf "law" "law" (defArgs s_law) (defBody s_law) (defScope s_law) .none kV_law dc_law pm_law an_law cd_law ct_law), sl_law⟩)
    (cI_law : PySem.W.codeIn K cd_law "law" = true)
    (k_law : PySem.W.keepIn K (.ref f_law) = true)
    (z_range : PySem.W.nsIn K mainGlobals "range" = some none)
    (z_max : PySem.W.nsIn K mainGlobals "max" = some none)
    (z_min : PySem.W.nsIn K mainGlobals "min" = some none)
    (z_sorted : PySem.W.nsIn K mainGlobals "sorted" = some none)
    (z_len : PySem.W.nsIn K mainGlobals "len" = some none)
    (z_list : PySem.W.nsIn K mainGlobals "list" = some none)
    (z_str : PySem.W.nsIn K mainGlobals "str" = some none)
    (z_int : PySem.W.nsIn K mainGlobals "int" = some none)
    (z_abs : PySem.W.nsIn K mainGlobals "abs" = some none)
    (z_tuple : PySem.W.nsIn K mainGlobals "tuple" = some none)
    (z_enumerate : PySem.W.nsIn K mainGlobals "enumerate" = some none)
    (z_any : PySem.W.nsIn K mainGlobals "any" = some none)
    (z_all : PySem.W.nsIn K mainGlobals "all" = some none)
    (z_zip : PySem.W.nsIn K mainGlobals "zip" = some none)
    (z_isinstance : PySem.W.nsIn K mainGlobals "isinstance" = some none)
    (z_bool : PySem.W.nsIn K mainGlobals "bool" = some none)
    (gc_WORDS : PySem.W.nsIn K mainGlobals "WORDS" = some (some (.ref a_WORDS)))
    (lC_WORDS : K.lookup a_WORDS = some ⟨.type "tuple", odC_WORDS, .seq #[.str "seats" tc0_WORDS, .str "lapse" tc1_WORDS, .str "beat" tc2_WORDS, .str "grace" tc3_WORDS, .str "late" tc4_WORDS] mC_WORDS, slC_WORDS⟩)
    (gc_FAULTS : PySem.W.nsIn K mainGlobals "FAULTS" = some (some (.ref a_FAULTS)))
    (lC_FAULTS : K.lookup a_FAULTS = some ⟨.type "tuple", odC_FAULTS, .seq #[.str "over" tc0_FAULTS, .str "taken" tc1_FAULTS, .str "twice" tc2_FAULTS, .str "waits" tc3_FAULTS] mC_FAULTS, slC_FAULTS⟩)
    (gc_PLANS : PySem.W.nsIn K mainGlobals "PLANS" = some (some (.ref a_PLANS)))
    (lC_PLANS : K.lookup a_PLANS = some ⟨.type "dict", none, .dict es_PLANS nD_PLANS, #[]⟩)
    (kl_PLANS : PySem.W.KeysLit w.params es_PLANS.toList)
    (nd_PLANS_over : PySem.W.nsIn K a_PLANS "over" = some (some (.ref f_over_plan)))
    (nd_PLANS_taken : PySem.W.nsIn K a_PLANS "taken" = some (some (.ref f_taken_plan)))
    (nd_PLANS_twice : PySem.W.nsIn K a_PLANS "twice" = some (some (.ref f_twice_plan)))
    (nd_PLANS_waits : PySem.W.nsIn K a_PLANS "waits" = some (some (.ref f_waits_plan))) :
    ∃ fd : FuncData, (∀ (s : Shared) (v : Value), BindsTo s fd ⟨[v], []⟩ [("_law_script", v)]) ∧ ∀ base : Heap, K.In base → base.Ns mainGlobals mg → FnG l.prog w K mg base CX0 10 fa fd ["_law_script"] (spLaw K) := by
  have e := hfa.symm.trans (PySem.W.mg_of X G a_law)
  cases e
  have F_is_integer_from := fun_mk (st := s_is_integer_from) l_is_integer_from cI_is_integer_from k_is_integer_from
  have b_is_integer_from := F_is_integer_from.binds (ps := ["value", "least"]) fun _ _ _ _ _ _ us hl => match us, hl with | [_, _], _ => rfl
  have F_most_at_one_seat := fun_mk (st := s_most_at_one_seat) l_most_at_one_seat cI_most_at_one_seat k_most_at_one_seat
  have b_most_at_one_seat := F_most_at_one_seat.binds (ps := ["rule"]) fun _ _ _ _ _ _ us hl => match us, hl with | [_], _ => rfl
  have F_can_share := fun_mk (st := s_can_share) l_can_share cI_can_share k_can_share
  have b_can_share := F_can_share.binds (ps := ["rule"]) fun _ _ _ _ _ _ us hl => match us, hl with | [_], _ => rfl
  have F_can_be_silent := fun_mk (st := s_can_be_silent) l_can_be_silent cI_can_be_silent k_can_be_silent
  have b_can_be_silent := F_can_be_silent.binds (ps := ["rule"]) fun _ _ _ _ _ _ us hl => match us, hl with | [_], _ => rfl
  have F_most_of_all := fun_mk (st := s_most_of_all) l_most_of_all cI_most_of_all k_most_of_all
  have b_most_of_all := F_most_of_all.binds (ps := ["rule"]) fun _ _ _ _ _ _ us hl => match us, hl with | [_], _ => rfl
  have F_most := fun_mk (st := s_most) l_most cI_most k_most
  have b_most := F_most.binds (ps := ["rule", "users"]) fun _ _ _ _ _ _ us hl => match us, hl with | [_, _], _ => rfl
  have F_silent_borrow := fun_mk (st := s_silent_borrow) l_silent_borrow cI_silent_borrow k_silent_borrow
  have b_silent_borrow := F_silent_borrow.binds (ps := ["rule"]) fun _ _ _ _ _ _ us hl => match us, hl with | [_], _ => rfl
  have F_over_plan := fun_mk (st := s_over_plan) l_over_plan cI_over_plan k_over_plan
  have b_over_plan := F_over_plan.binds (ps := ["rule", "users"]) fun _ _ _ _ _ _ us hl => match us, hl with | [_, _], _ => rfl
  have F_taken_plan := fun_mk (st := s_taken_plan) l_taken_plan cI_taken_plan k_taken_plan
  have b_taken_plan := F_taken_plan.binds (ps := ["rule", "users"]) fun _ _ _ _ _ _ us hl => match us, hl with | [_, _], _ => rfl
  have F_twice_plan := fun_mk (st := s_twice_plan) l_twice_plan cI_twice_plan k_twice_plan
  have b_twice_plan := F_twice_plan.binds (ps := ["rule", "users"]) fun _ _ _ _ _ _ us hl => match us, hl with | [_, _], _ => rfl
  have F_waits_plan := fun_mk (st := s_waits_plan) l_waits_plan cI_waits_plan k_waits_plan
  have b_waits_plan := F_waits_plan.binds (ps := ["rule", "users"]) fun _ _ _ _ _ _ us hl => match us, hl with | [_, _], _ => rfl
  have F_plan := fun_mk (st := s_plan) l_plan cI_plan k_plan
  have b_plan := F_plan.binds (ps := ["rule", "users", "fault"]) fun _ _ _ _ _ _ us hl => match us, hl with | [_, _, _], _ => rfl
  have F_happens := fun_mk (st := s_happens) l_happens cI_happens k_happens
  have b_happens := F_happens.binds (ps := ["rule", "users", "fault"]) fun _ _ _ _ _ _ us hl => match us, hl with | [_, _, _], _ => rfl
  have F_longest_kept := fun_mk (st := s_longest_kept) l_longest_kept cI_longest_kept k_longest_kept
  have b_longest_kept := F_longest_kept.binds (ps := ["rule"]) fun _ _ _ _ _ _ us hl => match us, hl with | [_], _ => rfl
  have F_no_more := fun_mk (st := s_no_more) l_no_more cI_no_more k_no_more
  have b_no_more := F_no_more.binds (ps := ["p", "q"]) fun _ _ _ _ _ _ us hl => match us, hl with | [_, _], _ => rfl
  have F_drawbacks := fun_mk (st := s_drawbacks) l_drawbacks cI_drawbacks k_drawbacks
  have b_drawbacks := F_drawbacks.binds (ps := ["rule"]) fun _ _ _ _ _ _ us hl => match us, hl with | [_], _ => rfl
  have F_is_better := fun_mk (st := s_is_better) l_is_better cI_is_better k_is_better
  have b_is_better := F_is_better.binds (ps := ["own", "other"]) fun _ _ _ _ _ _ us hl => match us, hl with | [_, _], _ => rfl
  have F_beats := fun_mk (st := s_beats) l_beats cI_beats k_beats
  have b_beats := F_beats.binds (ps := ["p", "q"]) fun _ _ _ _ _ _ us hl => match us, hl with | [_, _], _ => rfl
  have F_best_of := fun_mk (st := s_best_of) l_best_of cI_best_of k_best_of
  have b_best_of := F_best_of.binds (ps := ["rules"]) fun _ _ _ _ _ _ us hl => match us, hl with | [_], _ => rfl
  have F_is_number_for := fun_mk (st := s_is_number_for) l_is_number_for cI_is_number_for k_is_number_for
  have b_is_number_for := F_is_number_for.binds (ps := ["word", "number"]) fun _ _ _ _ _ _ us hl => match us, hl with | [_, _], _ => rfl
  have F_Rule_init : FunD K "__init__" "Rule.__init__" (defArgs s_Rule_init) (defBody s_Rule_init) (defScope s_Rule_init) [.int 0] [] f_Rule_init (PySem.W.fnOf "__init__" "Rule.__init__" (defArgs s_Rule_init) (defBody s_Rule_init) (defScope s_Rule_init) (.ref Td_Rule_init) kV_Rule_init dc_Rule_init pm_Rule_init an_Rule_init cd_Rule_init ct_Rule_init) := ⟨⟨_, _, _, _, _, _, _, _, _, _, rfl, l_Rule_init, cI_Rule_init, .inr ⟨by simp, Td_Rule_init, _, [.int 0 t0_Rule_init], mT_Rule_init, rfl, lT_Rule_init, rfl, .cons ⟨_, rfl⟩ .nil⟩, .inl rfl⟩, k_Rule_init⟩
  have bd_Rule_init := F_Rule_init.binds1 (ps := ["self", "seats", "lapse", "beat", "grace", "late"]) 5 0 (by simp) rfl (fun _ _ _ _ _ _ _ us its hl ht => match us, its, hl, ht with | [_, _, _, _, _], [_], _, _ => ⟨_, rfl, rfl⟩)
  have b_Rule_init := b6_of (F_Rule_init.binds1 (ps := ["self", "seats", "lapse", "beat", "grace", "late"]) 6 1 (by simp) rfl (fun _ _ _ _ _ _ _ us its hl ht => match us, its, hl, ht with | [_, _, _, _, _, _], [_], _, _ => ⟨_, rfl, rfl⟩))
  have F_Rule_eq := fun_mk (st := s_Rule_eq) l_Rule_eq cI_Rule_eq k_Rule_eq
  have b_Rule_eq := F_Rule_eq.binds (ps := ["self", "other"]) fun _ _ _ _ _ _ us hl => match us, hl with | [_, _], _ => rfl
  have F_Rule_str := fun_mk (st := s_Rule_str) l_Rule_str cI_Rule_str k_Rule_str
  have b_Rule_str := F_Rule_str.binds (ps := ["self"]) fun _ _ _ _ _ _ us hl => match us, hl with | [_], _ => rfl
  have F_l_box := fun_mk (st := s_l_box) l_l_box cI_l_box k_l_box
  have b_l_box := F_l_box.binds (ps := ["_law_script", "_law_k", "_law_own"]) fun _ _ _ _ _ _ us hl => match us, hl with | [_, _, _], _ => rfl
  have F_l_take := fun_mk (st := s_l_take) l_l_take cI_l_take k_l_take
  have b_l_take := F_l_take.binds (ps := ["_law_box_here", "_law_limit"]) fun _ _ _ _ _ _ us hl => match us, hl with | [_, _], _ => rfl
  have F_l_pick := fun_mk (st := s_l_pick) l_l_pick cI_l_pick k_l_pick
  have b_l_pick := F_l_pick.binds (ps := ["_law_box_here", "_law_some"]) fun _ _ _ _ _ _ us hl => match us, hl with | [_, _], _ => rfl
  have F_l_numbers := fun_mk (st := s_l_numbers) l_l_numbers cI_l_numbers k_l_numbers
  have b_l_numbers := F_l_numbers.binds (ps := ["_law_box_here"]) fun _ _ _ _ _ _ us hl => match us, hl with | [_], _ => rfl
  have F_l_ruled := fun_mk (st := s_l_ruled) l_l_ruled cI_l_ruled k_l_ruled
  have b_l_ruled := F_l_ruled.binds (ps := ["_law_given"]) fun _ _ _ _ _ _ us hl => match us, hl with | [_], _ => rfl
  have F_l_near := fun_mk (st := s_l_near) l_l_near cI_l_near k_l_near
  have b_l_near := F_l_near.binds (ps := ["_law_box_here", "_law_given"]) fun _ _ _ _ _ _ us hl => match us, hl with | [_, _], _ => rfl
  have F_l_pair_right := fun_mk (st := s_l_pair_right) l_l_pair_right cI_l_pair_right k_l_pair_right
  have b_l_pair_right := F_l_pair_right.binds (ps := ["_law_p", "_law_q"]) fun _ _ _ _ _ _ us hl => match us, hl with | [_, _], _ => rfl
  have F_law := fun_mk (st := s_law) l_law cI_law k_law
  have b_law := F_law.binds (ps := ["_law_script"]) fun _ _ _ _ _ _ us hl => match us, hl with | [_], _ => rfl
  exact ⟨PySem.W.fnOf "law" "law" (defArgs s_law) (defBody s_law) (defScope s_law) .none kV_law dc_law pm_law an_law cd_law ct_law, fun s v => .of_eq rfl, fun base _ _ => G_law l.prog w base ({
    range := PySem.W.mg_none_of X G z_range
    max := PySem.W.mg_none_of X G z_max
    min := PySem.W.mg_none_of X G z_min
    sorted := PySem.W.mg_none_of X G z_sorted
    len := PySem.W.mg_none_of X G z_len
    list := PySem.W.mg_none_of X G z_list
    str := PySem.W.mg_none_of X G z_str
    int := PySem.W.mg_none_of X G z_int
    abs := PySem.W.mg_none_of X G z_abs
    tuple := PySem.W.mg_none_of X G z_tuple
    enumerate := PySem.W.mg_none_of X G z_enumerate
    any := PySem.W.mg_none_of X G z_any
    all := PySem.W.mg_none_of X G z_all
    zip := PySem.W.mg_none_of X G z_zip
    isinstance := PySem.W.mg_none_of X G z_isinstance
    bool := PySem.W.mg_none_of X G z_bool
    C_Rule := C_Rule
    c_Rule := ⟨PySem.W.mg_of X G aC_Rule, ⟨pg_Rule, hd_Rule, po_Rule, sa_Rule⟩, ha_Rule, hn_, ht_, hm_Rule⟩
    na_Rule_seats := na_Rule_seats
    na_Rule_lapse := na_Rule_lapse
    na_Rule_beat := na_Rule_beat
    na_Rule_grace := na_Rule_grace
    na_Rule_late := na_Rule_late
    f_is_integer_from := f_is_integer_from
    d_is_integer_from := _
    F_is_integer_from := F_is_integer_from
    b_is_integer_from := b_is_integer_from
    g_is_integer_from := PySem.W.mg_of X G a_is_integer_from
    f_most_at_one_seat := f_most_at_one_seat
    d_most_at_one_seat := _
    F_most_at_one_seat := F_most_at_one_seat
    b_most_at_one_seat := b_most_at_one_seat
    g_most_at_one_seat := PySem.W.mg_of X G a_most_at_one_seat
    f_can_share := f_can_share
    d_can_share := _
    F_can_share := F_can_share
    b_can_share := b_can_share
    g_can_share := PySem.W.mg_of X G a_can_share
    f_can_be_silent := f_can_be_silent
    d_can_be_silent := _
    F_can_be_silent := F_can_be_silent
    b_can_be_silent := b_can_be_silent
    g_can_be_silent := PySem.W.mg_of X G a_can_be_silent
    f_most_of_all := f_most_of_all
    d_most_of_all := _
    F_most_of_all := F_most_of_all
    b_most_of_all := b_most_of_all
    g_most_of_all := PySem.W.mg_of X G a_most_of_all
    f_most := f_most
    d_most := _
    F_most := F_most
    b_most := b_most
    g_most := PySem.W.mg_of X G a_most
    f_silent_borrow := f_silent_borrow
    d_silent_borrow := _
    F_silent_borrow := F_silent_borrow
    b_silent_borrow := b_silent_borrow
    g_silent_borrow := PySem.W.mg_of X G a_silent_borrow
    f_over_plan := f_over_plan
    d_over_plan := _
    F_over_plan := F_over_plan
    b_over_plan := b_over_plan
    g_over_plan := PySem.W.mg_of X G a_over_plan
    f_taken_plan := f_taken_plan
    d_taken_plan := _
    F_taken_plan := F_taken_plan
    b_taken_plan := b_taken_plan
    g_taken_plan := PySem.W.mg_of X G a_taken_plan
    f_twice_plan := f_twice_plan
    d_twice_plan := _
    F_twice_plan := F_twice_plan
    b_twice_plan := b_twice_plan
    g_twice_plan := PySem.W.mg_of X G a_twice_plan
    f_waits_plan := f_waits_plan
    d_waits_plan := _
    F_waits_plan := F_waits_plan
    b_waits_plan := b_waits_plan
    g_waits_plan := PySem.W.mg_of X G a_waits_plan
    f_plan := f_plan
    d_plan := _
    F_plan := F_plan
    b_plan := b_plan
    g_plan := PySem.W.mg_of X G a_plan
    f_happens := f_happens
    d_happens := _
    F_happens := F_happens
    b_happens := b_happens
    g_happens := PySem.W.mg_of X G a_happens
    f_longest_kept := f_longest_kept
    d_longest_kept := _
    F_longest_kept := F_longest_kept
    b_longest_kept := b_longest_kept
    g_longest_kept := PySem.W.mg_of X G a_longest_kept
    f_no_more := f_no_more
    d_no_more := _
    F_no_more := F_no_more
    b_no_more := b_no_more
    g_no_more := PySem.W.mg_of X G a_no_more
    f_drawbacks := f_drawbacks
    d_drawbacks := _
    F_drawbacks := F_drawbacks
    b_drawbacks := b_drawbacks
    g_drawbacks := PySem.W.mg_of X G a_drawbacks
    f_is_better := f_is_better
    d_is_better := _
    F_is_better := F_is_better
    b_is_better := b_is_better
    g_is_better := PySem.W.mg_of X G a_is_better
    f_beats := f_beats
    d_beats := _
    F_beats := F_beats
    b_beats := b_beats
    g_beats := PySem.W.mg_of X G a_beats
    f_best_of := f_best_of
    d_best_of := _
    F_best_of := F_best_of
    b_best_of := b_best_of
    g_best_of := PySem.W.mg_of X G a_best_of
    f_is_number_for := f_is_number_for
    d_is_number_for := _
    F_is_number_for := F_is_number_for
    b_is_number_for := b_is_number_for
    g_is_number_for := PySem.W.mg_of X G a_is_number_for
    f_Rule_init := f_Rule_init
    d_Rule_init := _
    F_Rule_init := F_Rule_init
    b_Rule_init := b_Rule_init
    bd_Rule_init := bd_Rule_init
    mk_Rule := ⟨mk_Rule, a_Rule_init, i_Rule_init, kc_Rule⟩
    f_Rule_eq := f_Rule_eq
    d_Rule_eq := _
    F_Rule_eq := F_Rule_eq
    b_Rule_eq := b_Rule_eq
    i_Rule_eq := a_Rule_eq
    j_Rule_eq := i_Rule_eq
    i_Rule_ne := ne_Rule
    f_Rule_str := f_Rule_str
    d_Rule_str := _
    F_Rule_str := F_Rule_str
    b_Rule_str := b_Rule_str
    i_Rule_str := a_Rule_str
    j_Rule_str := i_Rule_str
    f_l_box := f_l_box
    d_l_box := _
    F_l_box := F_l_box
    b_l_box := b_l_box
    g_l_box := PySem.W.mg_of X G a_l_box
    f_l_take := f_l_take
    d_l_take := _
    F_l_take := F_l_take
    b_l_take := b_l_take
    g_l_take := PySem.W.mg_of X G a_l_take
    f_l_pick := f_l_pick
    d_l_pick := _
    F_l_pick := F_l_pick
    b_l_pick := b_l_pick
    g_l_pick := PySem.W.mg_of X G a_l_pick
    f_l_numbers := f_l_numbers
    d_l_numbers := _
    F_l_numbers := F_l_numbers
    b_l_numbers := b_l_numbers
    g_l_numbers := PySem.W.mg_of X G a_l_numbers
    f_l_ruled := f_l_ruled
    d_l_ruled := _
    F_l_ruled := F_l_ruled
    b_l_ruled := b_l_ruled
    g_l_ruled := PySem.W.mg_of X G a_l_ruled
    f_l_near := f_l_near
    d_l_near := _
    F_l_near := F_l_near
    b_l_near := b_l_near
    g_l_near := PySem.W.mg_of X G a_l_near
    f_l_pair_right := f_l_pair_right
    d_l_pair_right := _
    F_l_pair_right := F_l_pair_right
    b_l_pair_right := b_l_pair_right
    g_l_pair_right := PySem.W.mg_of X G a_l_pair_right
    f_law := fa
    d_law := _
    F_law := F_law
    b_law := b_law
    g_law := PySem.W.mg_of X G a_law
    a_WORDS := a_WORDS
    g_WORDS := PySem.W.mg_of X G gc_WORDS
    s_WORDS := fun _ => .inr ⟨_, _, _, lC_WORDS, rfl, rfl, Nat.le_of_ble_eq_true rfl, (.cons ⟨_, rfl⟩ (.cons ⟨_, rfl⟩ (.cons ⟨_, rfl⟩ (.cons ⟨_, rfl⟩ (.cons ⟨_, rfl⟩ .nil)))))⟩
    a_FAULTS := a_FAULTS
    g_FAULTS := PySem.W.mg_of X G gc_FAULTS
    s_FAULTS := fun _ => .inr ⟨_, _, _, lC_FAULTS, rfl, rfl, Nat.le_of_ble_eq_true rfl, (.cons ⟨_, rfl⟩ (.cons ⟨_, rfl⟩ (.cons ⟨_, rfl⟩ (.cons ⟨_, rfl⟩ .nil))))⟩
    a_PLANS := a_PLANS
    g_PLANS := PySem.W.mg_of X G gc_PLANS
    kd_PLANS_over := ⟨_, _, _, lC_PLANS, kl_PLANS, nd_PLANS_over, rfl⟩
    kd_PLANS_taken := ⟨_, _, _, lC_PLANS, kl_PLANS, nd_PLANS_taken, rfl⟩
    kd_PLANS_twice := ⟨_, _, _, lC_PLANS, kl_PLANS, nd_PLANS_twice, rfl⟩
    kd_PLANS_waits := ⟨_, _, _, lC_PLANS, kl_PLANS, nd_PLANS_waits, rfl⟩ } : Tx w K mg)⟩
theorem walk {l : PySem.W.OpenLaw} {q : Program} {loose : List Str} {XP : (Str → Option Value) → Heap → Prop} {YP : World → Heap → Prop} {d : DefRec} {K : Params → PySem.W.Frag} (hn : l.most = some 63) (hdf : d.params.defaults = [])
    (hY : ∀ (w : World) (h : Heap), YP w h → (K w.params).In h)
    (F : ∀ (w : World) (mg : Str → Option Value) (fa : Addr) (h : Heap), (K w.params).In h → h.Ns mainGlobals mg → mg d.name = some (.ref fa) →
      ∃ fd : FuncData, (∀ (s : Shared) (u : Value), BindsTo s fd ⟨[u], []⟩ [("_law_script", u)]) ∧ ∀ base : Heap, (K w.params).In base → base.Ns mainGlobals mg → FnG l.prog w (K w.params) mg base CX0 10 fa fd ["_law_script"] (spLaw (K w.params))) :
    PySem.W.WalkO q loose XP YP l.row.toRowW d [] (fun f vs => PySem.call f vs) :=
  OW.walkS (n := 63) (k := 10) (x := "_law_script") (sp := fun w => spLaw (K w.params)) hn (by decide) hdf ⟨rfl, by decide, by decide⟩ hY F fun _ _ a ns hl hS => ⟨a, ns, rfl, hS, hl, fun _ => rfl⟩
end My
end
open PySem PySem.W PyProof.Rows in
set_option maxRecDepth 100000 in
set_option maxHeartbeats 0 in
theorem PySem.Challenge.cw_lapseseats_k71_whole_rules_beat_one_anot_holds : PySem.Challenge.rw_lapseseats_k71_whole_rules_beat_one_anot.Holds := by
  w_on; o_law; k_head; (case hw => w_witness2)
  k_fill
  refine My.walk (l := PySem.Challenge.rw_lapseseats_k71_whole_rules_beat_one_anot) rfl rfl (fun w h Y => PySem.W.kIn_of Y) ?F
  case F =>
    intro w mg fa h KX G hmg
    refine' My.all_mk KX G hmg ?aC_Rule ?pg_Rule ?hd_Rule ?po_Rule ?sa_Rule ?mk_Rule ?kc_Rule ?ha_Rule ?hm_Rule ?na_Rule_seats ?na_Rule_lapse ?na_Rule_beat ?na_Rule_grace ?na_Rule_late ?hn_ ?ht_ ?a_is_integer_from ?l_is_integer_from ?cI_is_integer_from ?k_is_integer_from ?a_most_at_one_seat ?l_most_at_one_seat ?cI_most_at_one_seat ?k_most_at_one_seat ?a_can_share ?l_can_share ?cI_can_share ?k_can_share ?a_can_be_silent ?l_can_be_silent ?cI_can_be_silent ?k_can_be_silent ?a_most_of_all ?l_most_of_all ?cI_most_of_all ?k_most_of_all ?a_most ?l_most ?cI_most ?k_most ?a_silent_borrow ?l_silent_borrow ?cI_silent_borrow ?k_silent_borrow ?a_over_plan ?l_over_plan ?cI_over_plan ?k_over_plan ?a_taken_plan ?l_taken_plan ?cI_taken_plan ?k_taken_plan ?a_twice_plan ?l_twice_plan ?cI_twice_plan ?k_twice_plan ?a_waits_plan ?l_waits_plan ?cI_waits_plan ?k_waits_plan ?a_plan ?l_plan ?cI_plan ?k_plan ?a_happens ?l_happens ?cI_happens ?k_happens ?a_longest_kept ?l_longest_kept ?cI_longest_kept ?k_longest_kept ?a_no_more ?l_no_more ?cI_no_more ?k_no_more ?a_drawbacks ?l_drawbacks ?cI_drawbacks ?k_drawbacks ?a_is_better ?l_is_better ?cI_is_better ?k_is_better ?a_beats ?l_beats ?cI_beats ?k_beats ?a_best_of ?l_best_of ?cI_best_of ?k_best_of ?a_is_number_for ?l_is_number_for ?cI_is_number_for ?k_is_number_for ?a_Rule_init ?i_Rule_init ?l_Rule_init ?cI_Rule_init ?k_Rule_init ?lT_Rule_init ?a_Rule_eq ?i_Rule_eq ?ne_Rule ?l_Rule_eq ?cI_Rule_eq ?k_Rule_eq ?a_Rule_str ?i_Rule_str ?l_Rule_str ?cI_Rule_str ?k_Rule_str ?a_l_box ?l_l_box ?cI_l_box ?k_l_box ?a_l_take ?l_l_take ?cI_l_take ?k_l_take ?a_l_pick ?l_l_pick ?cI_l_pick ?k_l_pick ?a_l_numbers ?l_l_numbers ?cI_l_numbers ?k_l_numbers ?a_l_ruled ?l_l_ruled ?cI_l_ruled ?k_l_ruled ?a_l_near ?l_l_near ?cI_l_near ?k_l_near ?a_l_pair_right ?l_l_pair_right ?cI_l_pair_right ?k_l_pair_right ?a_law ?l_law ?cI_law ?k_law ?z_range ?z_max ?z_min ?z_sorted ?z_len ?z_list ?z_str ?z_int ?z_abs ?z_tuple ?z_enumerate ?z_any ?z_all ?z_zip ?z_isinstance ?z_bool ?gc_WORDS ?lC_WORDS ?gc_FAULTS ?lC_FAULTS ?gc_PLANS ?lC_PLANS ?kl_PLANS ?nd_PLANS_over ?nd_PLANS_taken ?nd_PLANS_twice ?nd_PLANS_waits
    (case aC_Rule => first | k_is | rfl | decide +kernel)
    (case pg_Rule => first | k_is | rfl | decide +kernel)
    (case hd_Rule => first | k_is | rfl | decide +kernel)
    (case po_Rule => first | k_is | rfl | decide +kernel)
    (case sa_Rule => first | k_is | rfl | decide +kernel)
    (case mk_Rule => first | k_is | rfl | decide +kernel)
    (case kc_Rule => first | k_is | rfl | decide +kernel)
    (case ha_Rule => first | k_is | rfl | decide +kernel)
    (case hm_Rule => first | k_is | rfl | decide +kernel)
    (case na_Rule_seats => first | k_is | rfl | decide +kernel)
    (case na_Rule_lapse => first | k_is | rfl | decide +kernel)
    (case na_Rule_beat => first | k_is | rfl | decide +kernel)
    (case na_Rule_grace => first | k_is | rfl | decide +kernel)
    (case na_Rule_late => first | k_is | rfl | decide +kernel)
    (case hn_ => first | k_is | rfl | decide +kernel)
    (case ht_ => first | k_is | rfl | decide +kernel)
    (case a_is_integer_from => first | k_is | rfl | decide +kernel)
    (case l_is_integer_from => first | k_is | rfl | decide +kernel)
    (case cI_is_integer_from => first | k_is | rfl | decide +kernel)
    (case k_is_integer_from => first | k_is | rfl | decide +kernel)
    (case a_most_at_one_seat => first | k_is | rfl | decide +kernel)
    (case l_most_at_one_seat => first | k_is | rfl | decide +kernel)
    (case cI_most_at_one_seat => first | k_is | rfl | decide +kernel)
    (case k_most_at_one_seat => first | k_is | rfl | decide +kernel)
    (case a_can_share => first | k_is | rfl | decide +kernel)
    (case l_can_share => first | k_is | rfl | decide +kernel)
    (case cI_can_share => first | k_is | rfl | decide +kernel)
    (case k_can_share => first | k_is | rfl | decide +kernel)
    (case a_can_be_silent => first | k_is | rfl | decide +kernel)
    (case l_can_be_silent => first | k_is | rfl | decide +kernel)
    (case cI_can_be_silent => first | k_is | rfl | decide +kernel)
    (case k_can_be_silent => first | k_is | rfl | decide +kernel)
    (case a_most_of_all => first | k_is | rfl | decide +kernel)
    (case l_most_of_all => first | k_is | rfl | decide +kernel)
    (case cI_most_of_all => first | k_is | rfl | decide +kernel)
    (case k_most_of_all => first | k_is | rfl | decide +kernel)
    (case a_most => first | k_is | rfl | decide +kernel)
    (case l_most => first | k_is | rfl | decide +kernel)
    (case cI_most => first | k_is | rfl | decide +kernel)
    (case k_most => first | k_is | rfl | decide +kernel)
    (case a_silent_borrow => first | k_is | rfl | decide +kernel)
    (case l_silent_borrow => first | k_is | rfl | decide +kernel)
    (case cI_silent_borrow => first | k_is | rfl | decide +kernel)
    (case k_silent_borrow => first | k_is | rfl | decide +kernel)
    (case a_over_plan => first | k_is | rfl | decide +kernel)
    (case l_over_plan => first | k_is | rfl | decide +kernel)
    (case cI_over_plan => first | k_is | rfl | decide +kernel)
    (case k_over_plan => first | k_is | rfl | decide +kernel)
    (case a_taken_plan => first | k_is | rfl | decide +kernel)
    (case l_taken_plan => first | k_is | rfl | decide +kernel)
    (case cI_taken_plan => first | k_is | rfl | decide +kernel)
    (case k_taken_plan => first | k_is | rfl | decide +kernel)
    (case a_twice_plan => first | k_is | rfl | decide +kernel)
    (case l_twice_plan => first | k_is | rfl | decide +kernel)
    (case cI_twice_plan => first | k_is | rfl | decide +kernel)
    (case k_twice_plan => first | k_is | rfl | decide +kernel)
    (case a_waits_plan => first | k_is | rfl | decide +kernel)
    (case l_waits_plan => first | k_is | rfl | decide +kernel)
    (case cI_waits_plan => first | k_is | rfl | decide +kernel)
    (case k_waits_plan => first | k_is | rfl | decide +kernel)
    (case a_plan => first | k_is | rfl | decide +kernel)
    (case l_plan => first | k_is | rfl | decide +kernel)
    (case cI_plan => first | k_is | rfl | decide +kernel)
    (case k_plan => first | k_is | rfl | decide +kernel)
    (case a_happens => first | k_is | rfl | decide +kernel)
    (case l_happens => first | k_is | rfl | decide +kernel)
    (case cI_happens => first | k_is | rfl | decide +kernel)
    (case k_happens => first | k_is | rfl | decide +kernel)
    (case a_longest_kept => first | k_is | rfl | decide +kernel)
    (case l_longest_kept => first | k_is | rfl | decide +kernel)
    (case cI_longest_kept => first | k_is | rfl | decide +kernel)
    (case k_longest_kept => first | k_is | rfl | decide +kernel)
    (case a_no_more => first | k_is | rfl | decide +kernel)
    (case l_no_more => first | k_is | rfl | decide +kernel)
    (case cI_no_more => first | k_is | rfl | decide +kernel)
    (case k_no_more => first | k_is | rfl | decide +kernel)
    (case a_drawbacks => first | k_is | rfl | decide +kernel)
    (case l_drawbacks => first | k_is | rfl | decide +kernel)
    (case cI_drawbacks => first | k_is | rfl | decide +kernel)
    (case k_drawbacks => first | k_is | rfl | decide +kernel)
    (case a_is_better => first | k_is | rfl | decide +kernel)
    (case l_is_better => first | k_is | rfl | decide +kernel)
    (case cI_is_better => first | k_is | rfl | decide +kernel)
    (case k_is_better => first | k_is | rfl | decide +kernel)
    (case a_beats => first | k_is | rfl | decide +kernel)
    (case l_beats => first | k_is | rfl | decide +kernel)
    (case cI_beats => first | k_is | rfl | decide +kernel)
    (case k_beats => first | k_is | rfl | decide +kernel)
    (case a_best_of => first | k_is | rfl | decide +kernel)
    (case l_best_of => first | k_is | rfl | decide +kernel)
    (case cI_best_of => first | k_is | rfl | decide +kernel)
    (case k_best_of => first | k_is | rfl | decide +kernel)
    (case a_is_number_for => first | k_is | rfl | decide +kernel)
    (case l_is_number_for => first | k_is | rfl | decide +kernel)
    (case cI_is_number_for => first | k_is | rfl | decide +kernel)
    (case k_is_number_for => first | k_is | rfl | decide +kernel)
    (case a_Rule_init => first | k_is | rfl | decide +kernel)
    (case i_Rule_init => first | k_is | rfl | decide +kernel)
    (case l_Rule_init => first | k_is | rfl | decide +kernel)
    (case cI_Rule_init => first | k_is | rfl | decide +kernel)
    (case k_Rule_init => first | k_is | rfl | decide +kernel)
    (case lT_Rule_init => first | k_is | rfl | decide +kernel)
    (case a_Rule_eq => first | k_is | rfl | decide +kernel)
    (case i_Rule_eq => first | k_is | rfl | decide +kernel)
    (case ne_Rule => first | k_is | rfl | decide +kernel)
    (case l_Rule_eq => first | k_is | rfl | decide +kernel)
    (case cI_Rule_eq => first | k_is | rfl | decide +kernel)
    (case k_Rule_eq => first | k_is | rfl | decide +kernel)
    (case a_Rule_str => first | k_is | rfl | decide +kernel)
    (case i_Rule_str => first | k_is | rfl | decide +kernel)
    (case l_Rule_str => first | k_is | rfl | decide +kernel)
    (case cI_Rule_str => first | k_is | rfl | decide +kernel)
    (case k_Rule_str => first | k_is | rfl | decide +kernel)
    (case a_l_box => first | k_is | rfl | decide +kernel)
    (case l_l_box => first | k_is | rfl | decide +kernel)
    (case cI_l_box => first | k_is | rfl | decide +kernel)
    (case k_l_box => first | k_is | rfl | decide +kernel)
    (case a_l_take => first | k_is | rfl | decide +kernel)
    (case l_l_take => first | k_is | rfl | decide +kernel)
    (case cI_l_take => first | k_is | rfl | decide +kernel)
    (case k_l_take => first | k_is | rfl | decide +kernel)
    (case a_l_pick => first | k_is | rfl | decide +kernel)
    (case l_l_pick => first | k_is | rfl | decide +kernel)
    (case cI_l_pick => first | k_is | rfl | decide +kernel)
    (case k_l_pick => first | k_is | rfl | decide +kernel)
    (case a_l_numbers => first | k_is | rfl | decide +kernel)
    (case l_l_numbers => first | k_is | rfl | decide +kernel)
    (case cI_l_numbers => first | k_is | rfl | decide +kernel)
    (case k_l_numbers => first | k_is | rfl | decide +kernel)
    (case a_l_ruled => first | k_is | rfl | decide +kernel)
    (case l_l_ruled => first | k_is | rfl | decide +kernel)
    (case cI_l_ruled => first | k_is | rfl | decide +kernel)
    (case k_l_ruled => first | k_is | rfl | decide +kernel)
    (case a_l_near => first | k_is | rfl | decide +kernel)
    (case l_l_near => first | k_is | rfl | decide +kernel)
    (case cI_l_near => first | k_is | rfl | decide +kernel)
    (case k_l_near => first | k_is | rfl | decide +kernel)
    (case a_l_pair_right => first | k_is | rfl | decide +kernel)
    (case l_l_pair_right => first | k_is | rfl | decide +kernel)
    (case cI_l_pair_right => first | k_is | rfl | decide +kernel)
    (case k_l_pair_right => first | k_is | rfl | decide +kernel)
    (case a_law => first | k_is | rfl | decide +kernel)
    (case l_law => first | k_is | rfl | decide +kernel)
    (case cI_law => first | k_is | rfl | decide +kernel)
    (case k_law => first | k_is | rfl | decide +kernel)
    (case z_range => first | k_is | rfl | decide +kernel)
    (case z_max => first | k_is | rfl | decide +kernel)
    (case z_min => first | k_is | rfl | decide +kernel)
    (case z_sorted => first | k_is | rfl | decide +kernel)
    (case z_len => first | k_is | rfl | decide +kernel)
    (case z_list => first | k_is | rfl | decide +kernel)
    (case z_str => first | k_is | rfl | decide +kernel)
    (case z_int => first | k_is | rfl | decide +kernel)
    (case z_abs => first | k_is | rfl | decide +kernel)
    (case z_tuple => first | k_is | rfl | decide +kernel)
    (case z_enumerate => first | k_is | rfl | decide +kernel)
    (case z_any => first | k_is | rfl | decide +kernel)
    (case z_all => first | k_is | rfl | decide +kernel)
    (case z_zip => first | k_is | rfl | decide +kernel)
    (case z_isinstance => first | k_is | rfl | decide +kernel)
    (case z_bool => first | k_is | rfl | decide +kernel)
    (case gc_WORDS => first | k_is | rfl | decide +kernel)
    (case lC_WORDS => first | k_is | rfl | decide +kernel)
    (case gc_FAULTS => first | k_is | rfl | decide +kernel)
    (case lC_FAULTS => first | k_is | rfl | decide +kernel)
    (case gc_PLANS => first | k_is | rfl | decide +kernel)
    (case lC_PLANS => first | k_is | rfl | decide +kernel)
    (case kl_PLANS => exact ⟨⟨_, _, rfl, rfl⟩, ⟨⟨_, _, rfl, rfl⟩, ⟨⟨_, _, rfl, rfl⟩, ⟨⟨_, _, rfl, rfl⟩, trivial⟩⟩⟩⟩)
    (case nd_PLANS_over => first | k_is | rfl | decide +kernel)
    (case nd_PLANS_taken => first | k_is | rfl | decide +kernel)
    (case nd_PLANS_twice => first | k_is | rfl | decide +kernel)
    (case nd_PLANS_waits => first | k_is | rfl | decide +kernel)
