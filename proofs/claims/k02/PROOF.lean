import PyProof.Rows.All
import Wide.All
import OpenK.AllK
import Wide.FinOn
import HandS.ForMost
import HandS.ForExc
import HandS.Zip
import HandS.Wide
import HandS.IsInst
import HandS.Defaults
import HandS.ExcInit
import HandS.ExcField
import HandS.TryMany
import HandS.RaiseMore
import HandS.FStr
import HandS.OwnEq
import HandS.Star
import HandS.ClsMeth
import HandS.TupAny
import HandS.Flow
import HandS.MakeKw
import PyProof.ReprRoads
import PySem.Challenge.RW_lapseseats_k02_rules_made
set_option Elab.async false
set_option linter.all false
set_option maxRecDepth 100000
set_option maxHeartbeats 2000000
namespace CL
open PySem PySem.Spec PyProof.Rows L2

/-! wrappers at which a reading rests -/
structure Chk (P k : Prop) : Prop where
  p : P
  k : k
structure New (H : Hp) (o : HO) (k : Addr → Hp → Prop) : Prop where
  k : ∀ p, H p = none → k p (upd H p o)
structure Br (c : Bool) (A B : Prop) : Prop where
  t : c = true → A
  f : c = false → B
theorem Br.ite {c : Bool} {A B : Prop} (h : Br c A B) : if c = true then A else B := by
  cases c with
  | true => rw [if_pos rfl]; exact h.t rfl
  | false => rw [if_neg Bool.false_ne_true]; exact h.f rfl
theorem br_t {c : Bool} {A B : Prop} (h : c = true) (a : A) : Br c A B := Br.mk (fun _ => a) (fun z => by rw [h] at z; cases z)
theorem br_f {c : Bool} {A B : Prop} (h : c = false) (b : B) : Br c A B := Br.mk (fun z => by rw [h] at z; cases z) (fun _ => b)
/-- a list or a tuple is read -/
structure Sq (K : PySem.W.Frag) (H : Hp) (p : Addr) (k : List V → Prop) : Prop where
  ex : ∃ xs, (SqL K H p xs ∨ SqT K H p xs) ∧ k xs
theorem Sq.l {K : PySem.W.Frag} {H : Hp} {p : Addr} {k : List V → Prop} {xs : List V} (h : SqL K H p xs) (q : k xs) : Sq K H p k := ⟨xs, .inl h, q⟩
theorem Sq.t {K : PySem.W.Frag} {H : Hp} {p : Addr} {k : List V → Prop} {xs : List V} (h : SqT K H p xs) (q : k xs) : Sq K H p k := ⟨xs, .inr h, q⟩
/-- a mutable list -/
structure Ls (H : Hp) (p : Addr) (k : List V → Prop) : Prop where
  ex : ∃ xs, H p = some (.lst xs) ∧ k xs
theorem Ls.mk' {H : Hp} {p : Addr} {k : List V → Prop} {xs : List V} (h : H p = some (.lst xs)) (q : k xs) : Ls H p k := ⟨xs, h, q⟩
/-- a field of an instance -/
structure Fld (K : PySem.W.Frag) (H : Hp) (p : Addr) (f : Str) (k : V → Prop) : Prop where
  ex : ∃ C dx fs v, H p = some (.ins C dx fs) ∧ Cls K C ∧ NoAttr K C f ∧ fs.lookup f = some v ∧ k v
structure SetF (K : PySem.W.Frag) (H : Hp) (p : Addr) (f : Str) (y : V) (k : Hp → Prop) : Prop where
  ex : ∃ C dx fs, H p = some (.ins C dx fs) ∧ Cls K C ∧ NoAttr K C f ∧ fs.length < 1000 ∧ k (upd H p (.ins C dx (putF f y fs)))
/-- a call of a def: its promise -/
structure Ask (P : Prop) : Prop where
  a : P
/-- isinstance of anything -/
structure IsI (K : PySem.W.Frag) (H : Hp) (x : V) (u : Value) (k : Bool → Prop) : Prop where
  ex : ∃ t b, TyX K H x t ∧ PySem.W.kitOne K t u = some b ∧ k b

section
variable {X : Cx}
theorem weak {e : Expr} {t t' : TE} (h : PE X e t) (w : ∀ σ H Q, t' σ H Q → t σ H Q) : PE X e t' := ⟨fun pins s σ H Q I q => h.run pins s σ H Q I (w _ _ _ q)⟩
theorem weakT {e : Expr} {t t' : TT} (h : PT X e t) (w : ∀ σ H Q, t' σ H Q → t σ H Q) : PT X e t' := ⟨fun pins s σ H Q I q => h.run pins s σ H Q I (w _ _ _ q)⟩
theorem weakS {e : Stmt} {t t' : TS} (h : PS X e t) (w : ∀ D σ H, t' D σ H → t D σ H) : PS X e t' := ⟨fun pins s σ H D I q => h.run pins s σ H D I (w _ _ _ q)⟩
theorem weakO {f : Value → Value → Sem Value} {r r' : R2} (h : OpR X f r) (w : ∀ x y H Q, r' x y H Q → r x y H Q) : OpR X f r' := fun pins s σ H x y v u Q I rx ry q => h pins s σ H x y v u Q I rx ry (w _ _ _ _ q)
theorem weakC {f : Value} {r r' : List V → Hp → VK → Prop} (h : CallR X f r) (w : ∀ xs H Q, r' xs H Q → r xs H Q) : CallR X f r' := fun pins s σ H xs us Q I r q => h pins s σ H xs us Q I r (w _ _ _ q)
end

/-! names -/
def cVar (i : Nat) : TE := fun σ H Q => match σ[i]? with
  | some (some v) => Q v H
  | _ => False
theorem c_var {X : Cx} (i : Nat) {x : Str} {pos : Pos} (hN : X.N[i]? = some x := by rfl) (hv : Vis X.env.scope x := by first | exact Or.inl rfl | exact Or.inr (Or.inl rfl) | exact Or.inr (Or.inr rfl)) (hd : (x == ("__debug__" : Str)) = false := by decide)
    (hcd : (x == ("__classdict__" : Str)) = false := by decide) : PE X (.Name x pos) (cVar i) := weak (pe_var hN hv hd hcd) fun σ H Q h => by
  unfold cVar at h
  split at h
  · rename_i v e; exact ⟨v, e, h⟩
  · exact h.elim

/-! two-place operations -/
def rAddC (K : PySem.W.Frag) : R2 := fun x y H Q => match x, y with
  | .int i, .int j => Q (.int (i + j)) H
  | .str a, .str b => Chk (a.length + b.length ≤ sizeLine) (Q (.str (a ++ b)) H)
  | .ref p, .ref q => Ls H p fun xs => Ls H q fun ys => Chk (xs.length + ys.length ≤ sizeLine) (New H (.lst (xs ++ ys)) fun r H' => Q (.ref r) H')
  | _, _ => False
theorem c_add {X : Cx} : OpR X (binaryOp .Add) (rAddC X.K) := by
  intro pins s σ H x y v u Q I rx ry h
  unfold rAddC at h
  split at h
  · exact op_add pins s σ H _ _ v u Q I rx ry ⟨_, _, rfl, rfl, h⟩
  · exact op_add_str pins s σ H _ _ v u Q I rx ry ⟨_, _, rfl, rfl, h.p, h.k⟩
  · obtain ⟨⟨xs, h1, ⟨ys, h2, h3⟩⟩⟩ := h
    exact op_cat pins s σ H _ _ v u Q I rx ry ⟨_, _, _, _, rfl, rfl, h1, h2, h3.p, h3.k.k⟩
  · exact h.elim
def rSubC : R2 := fun x y H Q => match x, y with
  | .int i, .int j => Q (.int (i - j)) H
  | _, _ => False
theorem c_sub {X : Cx} : OpR X (binaryOp .Sub) rSubC := by
  intro pins s σ H x y v u Q I rx ry h
  unfold rSubC at h
  split at h
  · exact op_sub pins s σ H _ _ v u Q I rx ry ⟨_, _, rfl, rfl, h⟩
  · exact h.elim
def rMulC : R2 := fun x y H Q => match x, y with
  | .int i, .int j => Chk (CMul i j ∨ CMulW i j) (Q (.int (i * j)) H)
  | .ref p, .int k => Ls H p fun xs => Chk (-(2 ^ 63) ≤ k ∧ k < 2 ^ 63 ∧ xs.length * k.toNat ≤ sizeLine) (rRep (.ref p) (.int k) H Q)
  | _, _ => False
theorem c_mul {X : Cx} : OpR X (binaryOp .Mult) rMulC := by
  intro pins s σ H x y v u Q I rx ry h
  unfold rMulC at h
  split at h
  · rcases h.p with z | z
    · exact op_mul pins s σ H _ _ v u Q I rx ry ⟨_, _, rfl, rfl, z, h.k⟩
    · exact op_mulW pins s σ H _ _ v u Q I rx ry ⟨_, _, rfl, rfl, z, h.k⟩
  · obtain ⟨⟨xs, h1, h2⟩⟩ := h
    exact op_rep pins s σ H _ _ v u Q I rx ry h2.k
  · exact h.elim
def rDivC : R2 := fun x y H Q => match x, y with
  | .int i, .int j => Chk (CDiv i j ∨ CDivW i j) (Q (.int (i / j)) H)
  | _, _ => False
theorem c_div {X : Cx} : OpR X (binaryOp .FloorDiv) rDivC := by
  intro pins s σ H x y v u Q I rx ry h
  unfold rDivC at h
  split at h
  · rcases h.p with z | z
    · exact op_fdiv pins s σ H _ _ v u Q I rx ry ⟨_, _, rfl, rfl, z, h.k⟩
    · exact op_fdivW pins s σ H _ _ v u Q I rx ry ⟨_, _, rfl, rfl, z, h.k⟩
  · exact h.elim
def rModC : R2 := fun x y H Q => match x, y with
  | .int i, .int j => Chk (0 < j) (Q (.int (i % j)) H)
  | _, _ => False
theorem c_mod {X : Cx} : OpR X (binaryOp .Mod) rModC := by
  intro pins s σ H x y v u Q I rx ry h
  unfold rModC at h
  split at h
  · exact op_mod pins s σ H _ _ v u Q I rx ry ⟨_, _, rfl, rfl, h.p, h.k⟩
  · exact h.elim
def rPowC : R2 := fun x y H Q => match x, y with
  | .int i, .int j => Chk (CPow i j) (Q (.int (i ^ j.toNat)) H)
  | _, _ => False
theorem c_pow {X : Cx} : OpR X (binaryOp .Pow) rPowC := by
  intro pins s σ H x y v u Q I rx ry h
  unfold rPowC at h
  split at h
  · exact op_pow pins s σ H _ _ v u Q I rx ry ⟨_, _, rfl, rfl, h.p, h.k⟩
  · exact h.elim
def rAndC : R2 := fun x y H Q => match x, y with
  | .int i, .int j => Q (.int (Builtin.bitAnd i j)) H
  | _, _ => False
theorem c_and {X : Cx} : OpR X (binaryOp .BitAnd) rAndC := by
  intro pins s σ H x y v u Q I rx ry h
  unfold rAndC at h
  split at h
  · exact op_and pins s σ H _ _ v u Q I rx ry ⟨_, _, rfl, rfl, h⟩
  · exact h.elim
def rCmpC (p : Int → Int → Bool) : R2 := fun x y H Q => match x, y with
  | .int i, .int j => Q (.bl (p i j)) H
  | _, _ => False
theorem c_cmp {X : Cx} {f : Value → Value → Sem Value} {p : Int → Int → Bool} (h0 : OpR X f (rI0 fun i j => .bl (p i j))) : OpR X f (rCmpC p) := by
  intro pins s σ H x y v u Q I rx ry h
  unfold rCmpC at h
  split at h
  · exact h0 pins s σ H _ _ v u Q I rx ry ⟨_, _, rfl, rfl, h⟩
  · exact h.elim
abbrev rLtC : R2 := rCmpC fun i j => decide (i < j)
abbrev rLeC : R2 := rCmpC fun i j => decide (i ≤ j)
abbrev rGtC : R2 := rCmpC fun i j => decide (j < i)
abbrev rGeC : R2 := rCmpC fun i j => decide (j ≤ i)
theorem c_lt {X : Cx} : OpR X (compareOp .Lt) rLtC := c_cmp op_lt
theorem c_le {X : Cx} : OpR X (compareOp .LtE) rLeC := c_cmp op_le
theorem c_gt {X : Cx} : OpR X (compareOp .Gt) rGtC := c_cmp op_gt
theorem c_ge {X : Cx} : OpR X (compareOp .GtE) rGeC := c_cmp op_ge
/-- two things at heap places compared: as data (an own == is another rule) -/
structure EqD (K : PySem.W.Frag) (H : Hp) (x y : V) (k : Bool → Prop) : Prop where
  ex : ∃ d e, Dp K H x d ∧ Dp K H y e ∧ SeqAt.shaped d = true ∧ SeqAt.shaped e = true ∧ k (PyData.eqv d e)
def isRef : V → Bool
  | .ref _ => true
  | _ => false
def rEqC (K : PySem.W.Frag) (neg : Bool) : R2 := fun x y H Q => match scal x y with
  | true => Q (.bl (if neg then !decide (x = y) else decide (x = y))) H
  | false => EqD K H x y fun b => Q (.bl (if neg then !b else b)) H
theorem c_eq {X : Cx} (hu : X.A.units + 64 < cLine) : OpR X (compareOp .Eq) (rEqC X.K false) := by
  intro pins s σ H x y v u Q I rx ry h
  unfold rEqC at h
  split at h
  · rename_i e
    exact op_eq pins s σ H _ _ v u Q I rx ry ⟨e, h⟩
  · obtain ⟨⟨d, e, h1, h2, h3, h4, q⟩⟩ := h
    exact op_eqD hu pins s σ H _ _ v u Q I rx ry ⟨d, e, h1, h2, h3, h4, q⟩
theorem c_ne {X : Cx} (hu : X.A.units + 64 < cLine) : OpR X (compareOp .NotEq) (rEqC X.K true) := by
  intro pins s σ H x y v u Q I rx ry h
  unfold rEqC at h
  split at h
  · rename_i e
    exact op_ne pins s σ H _ _ v u Q I rx ry ⟨e, h⟩
  · obtain ⟨⟨d, e, h1, h2, h3, h4, q⟩⟩ := h
    exact op_neD hu pins s σ H _ _ v u Q I rx ry ⟨d, e, h1, h2, h3, h4, q⟩
def rIsNC (neg : Bool) : R2 := fun x y H Q => match y with
  | .non => Q (.bl (if neg then !decide (x = .non) else decide (x = .non))) H
  | _ => False
theorem c_is {X : Cx} : OpR X (compareOp .Is) (rIsNC false) := by
  intro pins s σ H x y v u Q I rx ry h
  unfold rIsNC at h
  split at h
  · exact op_isN pins s σ H _ _ v u Q I rx ry ⟨rfl, h⟩
  · exact h.elim
theorem c_isnot {X : Cx} : OpR X (compareOp .IsNot) (rIsNC true) := by
  intro pins s σ H x y v u Q I rx ry h
  unfold rIsNC at h
  split at h
  · exact op_notN pins s σ H _ _ v u Q I rx ry ⟨rfl, h⟩
  · exact h.elim
/-- in a list or tuple of flat things; a text in a text -/
def rInC (K : PySem.W.Frag) (neg : Bool) : R2 := fun x y H Q => match y with
  | .ref p => Sq K H p fun xs => Chk (flatV x = true ∧ xs.all flatV = true) (Q (.bl (if neg then !inV x xs else inV x xs)) H)
  | _ => False
theorem c_in {X : Cx} : OpR X (compareOp .In) (rInC X.K false) := by
  intro pins s σ H x y v u Q I rx ry h
  unfold rInC at h
  split at h
  · obtain ⟨⟨xs, h1, h2⟩⟩ := h
    exact op_in_seq pins s σ H _ _ v u Q I rx ry ⟨_, _, rfl, h1, h2.p.1, h2.p.2, h2.k⟩
  · exact h.elim
theorem c_notin {X : Cx} : OpR X (compareOp .NotIn) (rInC X.K true) := by
  intro pins s σ H x y v u Q I rx ry h
  unfold rInC at h
  split at h
  · obtain ⟨⟨xs, h1, h2⟩⟩ := h
    exact op_notIn_seq pins s σ H _ _ v u Q I rx ry ⟨_, _, rfl, h1, h2.p.1, h2.p.2, h2.k⟩
  · exact h.elim
/-- an item at a place that holds it -/
structure At {α : Type} (xs : List α) (i : Int) (k : α → Prop) : Prop where
  ex : ∃ v, atI xs i = some v ∧ k v
def rIxC (K : PySem.W.Frag) : R2 := fun x y H Q => match x, y with
  | .ref p, .int i => Sq K H p fun xs => At xs i fun v => Q v H
  | .str z, .int i => Chk (z.length ≤ sizeLine) (At z.cps.toList i fun c => Q (.str ⟨#[c]⟩) H)
  | _, _ => False
theorem c_ix {X : Cx} : IxR X (rIxC X.K) := by
  intro value slice pins s σ H x y v u Q I rx ry h hs
  unfold rIxC at h
  split at h
  · obtain ⟨⟨xs, h1 | h1, ⟨v, h2, h3⟩⟩⟩ := h
    · exact ix_list value slice pins s σ H _ _ _ _ Q I rx ry ⟨_, _, _, _, rfl, rfl, h1, h2, h3⟩ hs
    · exact ix_tup value slice pins s σ H _ _ _ _ Q I rx ry ⟨_, _, _, _, rfl, rfl, h1, h2, h3⟩ hs
  · obtain ⟨h0, ⟨v, h2, h3⟩⟩ := h
    exact ix_str value slice pins s σ H _ _ _ _ Q I rx ry ⟨_, _, _, rfl, rfl, h0, h2, h3⟩ hs
  · exact h.elim
end CL

set_option Elab.async false
set_option linter.all false
set_option maxRecDepth 100000
set_option maxHeartbeats 2000000
namespace CL
open PySem PySem.Spec PyProof.Rows L2
/-! tests -/
/-- truth of a value -/
def Tru (K : PySem.W.Frag) (x : V) (H : Hp) (k : Bool → Prop) : Prop := match x with
  | .bl b => k b
  | .int i => k (i != 0)
  | .non => k false
  | .str y => Chk (y.length ≤ sizeLine) (k ((y.length : Int) != 0))
  | .ref p => Sq K H p fun xs => k (!xs.isEmpty)
  | _ => False
theorem Tru.ok {K : PySem.W.Frag} {x : V} {H : Hp} {k : Bool → Prop} (h : Tru K x H k) : ∃ b, TruV K x H b ∧ k b := by
  unfold Tru at h
  split at h
  · exact ⟨_, rfl, h⟩
  · exact ⟨_, rfl, h⟩
  · exact ⟨_, rfl, h⟩
  · exact ⟨_, ⟨h.p, rfl⟩, h.k⟩
  · obtain ⟨⟨xs, h1 | h1, h2⟩⟩ := h
    · exact ⟨_, .inl ⟨xs, h1, rfl⟩, h2⟩
    · exact ⟨_, .inr (.inl ⟨xs, h1, rfl⟩), h2⟩
  · exact h.elim
def cTest (te : TE) : TT := fun σ H Q => te σ H fun x H1 => match x with
  | .bl b => Q b H1
  | _ => False
def cTruth (K : PySem.W.Frag) (te : TE) : TT := fun σ H Q => te σ H fun x H1 => Tru K x H1 fun b => Q b H1
/-- a te that may be asked less -/
def Mono (te : TE) : Prop := ∀ σ H Q Q', (∀ v H, Q v H → Q' v H) → te σ H Q → te σ H Q'
section
variable {X : Cx} {a b c : Expr} {ta tb tc : TE} {pos : Pos}
/-- a comparison as a test -/
theorem t_cmp {op : CmpOp} {r : R2} (ho : OpR X (compareOp op) r) (ha : PE X a ta) (hb : PE X b tb) (hm : behindInMarks op b = false) : PT X (.Compare a [op] [b] pos) (cTest (tOp r ta tb)) := by
  refine ⟨fun pins s σ H Q I h => ?_⟩
  refine wpAny_isTrue_Compare1 (thn (ha.run pins s σ H _ I h) fun v s1 ⟨x, H1, I1, r1, q1⟩ => thn (hb.run pins s1 σ H1 _ I1 q1) fun u s2 ⟨y, H2, I2, r2, q2⟩ =>
    thn (ho pins s2 σ H2 x y v u _ I2 r1 r2 q2) fun d s3 ⟨z, H3, I3, r3, q3⟩ => ?_) hm
  cases z with
  | bl k => cases r3; exact wpAny_truthy_bool ⟨H3, I3, q3⟩
  | _ => exact (show False from q3).elim
theorem t_truth (ha : PE X a ta) (he : ∀ whole, isTrue a X.env whole = (do let v ← whole; standAt a.pos; holding [v] (truthy v))) : PT X a (cTruth X.K ta) := by
  refine ⟨fun pins s σ H Q I h => ?_⟩
  exact isTrue_plain (thn (ha.run pins s σ H _ I h) fun v s1 ⟨x, H1, I1, r1, q1⟩ => by
    obtain ⟨k, e, q⟩ := Tru.ok q1
    exact tru_ok pins s1 σ H1 x v Q I1 r1 ⟨k, e, q⟩) (he _)
def cAnd (t u : TT) : TT := fun σ H Q => t σ H fun c H1 => Br c (u σ H1 Q) (Q false H1)
def cOr (t u : TT) : TT := fun σ H Q => t σ H fun c H1 => Br c (Q true H1) (u σ H1 Q)
def cNot (t : TT) : TT := fun σ H Q => t σ H fun c H1 => Q (!c) H1
variable {tA tB' : TT} {rest : List Expr}
theorem PT.mono' (h : PT X a tA) {pins : List (Addr × Obj)} {s : Shared} {σ : L2.St} {H : Hp} {Q : Bool → Hp → Prop} (I : Inv X pins σ H s) (q : tA σ H Q) : wpAny (model X.prog X.w) X.A (isTrue a X.env (eval a X.env)) (TP X pins σ Q) X.xe s := h.run pins s σ H Q I q
theorem w_and1 (ha : PT X a tA) : PW X (.BoolOp .And [a] pos) tA := pw_and1 ha
theorem w_or1 (ha : PT X a tA) : PW X (.BoolOp .Or [a] pos) tA := pw_or1 ha
theorem w_and (ha : PT X a tA) (hb : PW X (.BoolOp .And (b :: rest) pos) tB') : PW X (.BoolOp .And (a :: b :: rest) pos) (cAnd tA tB') := by
  refine ⟨fun whole pins s σ H Q I h => ?_⟩
  have key : PW X (.BoolOp .And (a :: b :: rest) pos) (tAnd tA tB') := pw_and ha hb
  have h2 : tAnd (fun σ' H' Q' => tA σ H Q' ∧ σ' = σ ∧ H' = H) tB' σ H Q → True := fun _ => trivial
  have hx : PW X (.BoolOp .And (a :: b :: rest) pos) (tAnd (fun σ' H' Q' => tA σ' H' fun c H1 => Q' c H1) tB') := key
  refine key.run whole pins s σ H Q I ?_
  unfold tAnd
  unfold cAnd at h
  have e : (fun (c : Bool) (H1 : Hp) => Br c (tB' σ H1 Q) (Q false H1)) = fun c H1 => (if c = true then tB' σ H1 Q else Q false H1) := by
    funext c H1
    apply propext
    constructor
    · exact Br.ite
    · intro q
      refine Br.mk (fun z => ?_) (fun z => ?_)
      · rw [if_pos z] at q; exact q
      · rw [z, if_neg Bool.false_ne_true] at q; exact q
  rw [e] at h
  exact h
theorem br_eq {c : Bool} {A B : Prop} : Br c A B = (if c = true then A else B) := by
  apply propext
  constructor
  · exact Br.ite
  · intro q
    refine Br.mk (fun z => ?_) (fun z => ?_)
    · rw [if_pos z] at q; exact q
    · rw [z, if_neg Bool.false_ne_true] at q; exact q
theorem w_or (ha : PT X a tA) (hb : PW X (.BoolOp .Or (b :: rest) pos) tB') : PW X (.BoolOp .Or (a :: b :: rest) pos) (cOr tA tB') := by
  have e : cOr tA tB' = tOr tA tB' := by
    funext σ H Q
    unfold cOr tOr
    simp only [br_eq]
  rw [e]
  exact pw_or ha hb
theorem t_not (ha : PT X a tA) : PT X (.UnaryOp .Not a pos) (cNot tA) := pt_not ha
/-- a op1 b op2 c -/
def cChain (r r' : R2) (ta tb tc : TE) : TE := fun σ H Q => ta σ H fun x H1 => tb σ H1 fun y H2 => r x y H2 fun z H3 => match z with
  | .bl k => Br k (tc σ H3 fun w' H4 => r' y w' H4 Q) (Q (.bl false) H3)
  | _ => False
/-- values by and, or: Booleans -/
def cAndV (ta tb : TE) : TE := fun σ H Q => ta σ H fun x H1 => match x with
  | .bl c => Br c (tb σ H1 Q) (Q (.bl false) H1)
  | _ => False
def cOrV (ta tb : TE) : TE := fun σ H Q => ta σ H fun x H1 => match x with
  | .bl c => Br c (Q (.bl true) H1) (tb σ H1 Q)
  | _ => False
def cNotV (ta : TE) : TE := fun σ H Q => ta σ H fun x H1 => match x with
  | .bl c => Q (.bl (!c)) H1
  | _ => False
/-- what follows a Boolean -/
def onB (k : Bool → Hp → Prop) : VK := fun x H => match x with
  | .bl c => k c H
  | _ => False
theorem onB_eq (k : Bool → Hp → Prop) : onB k = fun x H => ∃ c, x = .bl c ∧ k c H := by
  funext x H
  apply propext
  unfold onB
  constructor
  · intro h
    split at h
    · exact ⟨_, rfl, h⟩
    · exact h.elim
  · rintro ⟨c, rfl, h⟩
    exact h
theorem e_and (ha : PE X a ta) (hb : PE X (.BoolOp .And (b :: rest) pos) tb) : PE X (.BoolOp .And (a :: b :: rest) pos) (cAndV ta tb) := by
  have e : cAndV ta tb = tAndV ta tb := by
    funext σ H Q
    show ta σ H (onB fun c H1 => Br c (tb σ H1 Q) (Q (.bl false) H1)) = _
    rw [onB_eq]
    simp only [br_eq]
    rfl
  rw [e]
  exact pe_and ha hb
theorem e_or (ha : PE X a ta) (hb : PE X (.BoolOp .Or (b :: rest) pos) tb) : PE X (.BoolOp .Or (a :: b :: rest) pos) (cOrV ta tb) := by
  have e : cOrV ta tb = tOrV ta tb := by
    funext σ H Q
    show ta σ H (onB fun c H1 => Br c (Q (.bl true) H1) (tb σ H1 Q)) = _
    rw [onB_eq]
    simp only [br_eq]
    rfl
  rw [e]
  exact pe_or ha hb
theorem e_not (ha : PE X a ta) : PE X (.UnaryOp .Not a pos) (cNotV ta) := by
  have e : cNotV ta = tNotV ta := by
    funext σ H Q
    show ta σ H (onB fun c H1 => Q (.bl (!c)) H1) = _
    rw [onB_eq]
    rfl
  rw [e]
  exact pe_not ha
theorem e_chain {op op' : CmpOp} {r r' : R2} (ho : OpR X (compareOp op) r) (ho' : OpR X (compareOp op') r') (ha : PE X a ta) (hb : PE X b tb) (hc : PE X c tc)
    (hm : lastMarks [op, op'] [b, c] = false := by with_unfolding_all rfl) : PE X (.Compare a [op, op'] [b, c] pos) (cChain r r' ta tb tc) := by
  have e : cChain r r' ta tb tc = tChain r r' ta tb tc := by
    funext σ H Q
    show (ta σ H fun x H1 => tb σ H1 fun y H2 => r x y H2 (onB fun k H3 => Br k (tc σ H3 fun w' H4 => r' y w' H4 Q) (Q (.bl false) H3))) = _
    simp only [onB_eq, br_eq]
    rfl
  rw [e]
  exact pe_chain ho ho' ha hb hc hm
theorem t_chain {op op' : CmpOp} {r r' : R2} (ho : OpR X (compareOp op) r) (ho' : OpR X (compareOp op') r') (ha : PE X a ta) (hb : PE X b tb) (hc : PE X c tc)
    (hm : lastMarks [op, op'] [b, c] = false := by with_unfolding_all rfl) : PT X (.Compare a [op, op'] [b, c] pos) (cTest (cChain r r' ta tb tc)) := by
  have e : cTest (cChain r r' ta tb tc) = tTest (tChain r r' ta tb tc) := by
    funext σ H Q
    show (ta σ H fun x H1 => tb σ H1 fun y H2 => r x y H2 (onB fun k H3 => Br k (tc σ H3 fun w' H4 => r' y w' H4 (onB fun b H => Q b H)) (Q false H3))) = _
    simp only [onB_eq, br_eq]
    show _ = (ta σ H fun x H1 => tb σ H1 fun y H2 => r x y H2 fun z H3 => ∃ k, z = .bl k ∧ (if k = true then tc σ H3 fun w' H4 => r' y w' H4 fun x H' => ∃ k, x = .bl k ∧ Q k H' else ∃ k, V.bl false = .bl k ∧ Q k H3))
    have e2 : ∀ H3, (∃ k, V.bl false = .bl k ∧ Q k H3) = Q false H3 := fun H3 => by
      apply propext
      constructor
      · rintro ⟨k, z, q⟩
        cases z
        exact q
      · exact fun q => ⟨false, rfl, q⟩
    simp only [e2]
  rw [e]
  exact pt_chain ho ho' ha hb hc hm
def cIf (t : TT) (ta tb : TE) : TE := fun σ H Q => t σ H fun c H1 => Br c (ta σ H1 Q) (tb σ H1 Q)
theorem e_if {c : Expr} (hc : PT X c tA) (ha : PE X a ta) (hb : PE X b tb) : PE X (.IfExp c a b pos) (cIf tA ta tb) := by
  have e : cIf tA ta tb = tIf tA ta tb := by
    funext σ H Q
    unfold cIf tIf
    simp only [br_eq]
  rw [e]
  exact pe_ifExp hc ha hb
def cIfS (c : TT) (t u : TS) : TS := fun D σ H => c σ H fun b H1 => Br b (t D σ H1) (u D σ H1)
theorem s_if {c : Expr} {sa sb : List Stmt} {t u : TS} (hc : PT X c tA) (ha : PSs X sa t) (hb : PSs X sb u) : PS X (.If c sa sb pos) (cIfS tA t u) := by
  have e : cIfS tA t u = tIfS tA t u := by
    funext D σ H
    unfold cIfS tIfS
    simp only [br_eq]
  rw [e]
  exact ps_if hc ha hb
end
/-! displays -/
def cTup (t : TA) : TE := fun σ H Q => t σ H fun xs H1 => Chk (xs.length ≤ sizeLine) (New H1 (.tup xs) fun p H' => Q (.ref p) H')
def cLst (t : TA) : TE := fun σ H Q => t σ H fun xs H1 => Chk (xs.length ≤ sizeLine) (New H1 (.lst xs) fun p H' => Q (.ref p) H')
theorem new_eq {H : Hp} {o : HO} {k : Addr → Hp → Prop} : New H o k = ∀ p, H p = none → k p (upd H p o) := propext ⟨fun h => h.k, fun h => ⟨h⟩⟩
theorem chk_eq {P k : Prop} : Chk P k = (P ∧ k) := propext ⟨fun h => ⟨h.p, h.k⟩, fun h => ⟨h.1, h.2⟩⟩
section
variable {X : Cx} {es : List Expr} {t : TA} {pos : Pos}
theorem e_tup {x1} (h : PA X es t) : PE X (.Tuple es x1 pos) (cTup t) := by
  have e : cTup t = tTup t := by
    funext σ H Q
    unfold cTup tTup
    simp only [chk_eq, new_eq]
  rw [e]
  exact pe_tup h
theorem e_lst (h : PA X es t) : PE X (.List es pos) (cLst t) := by
  have e : cLst t = tLst t := by
    funext σ H Q
    unfold cLst tLst
    simp only [chk_eq, new_eq]
  rw [e]
  exact pe_lst h
end
/-! fields -/
def cFld (K : PySem.W.Frag) (ta : TE) (f : Str) : TE := fun σ H Q => ta σ H fun x H1 => match x with
  | .ref a => Fld K H1 a f fun v => Q v H1
  | _ => False
def cSetF (K : PySem.W.Frag) (ta tv : TE) (f : Str) : TS := fun D σ H => tv σ H fun y H1 => ta σ H1 fun x H2 => match x with
  | .ref a => SetF K H2 a f y fun H' => D.nx σ H'
  | _ => False
def onR (k : Addr → Hp → Prop) : VK := fun x H => match x with
  | .ref c => k c H
  | _ => False
theorem onR_eq (k : Addr → Hp → Prop) : onR k = fun x H => ∃ c, x = .ref c ∧ k c H := by
  funext x H
  apply propext
  unfold onR
  constructor
  · intro h
    split at h
    · exact ⟨_, rfl, h⟩
    · exact h.elim
  · rintro ⟨c, rfl, h⟩
    exact h
section
variable {X : Cx} {o e value : Expr} {f : Str} {pos pos' : Pos} {ta tv : TE}
theorem e_fld (he : PE X e ta) (hb : attributeBase e f X.env (eval e X.env) = eval e X.env := by rfl) : PE X (.Attribute e f pos) (cFld X.K ta f) := by
  have e2 : cFld X.K ta f = tFld X.K ta f := by
    funext σ H Q
    show ta σ H (onR fun a H1 => Fld X.K H1 a f fun v => Q v H1) = _
    rw [onR_eq]
    have e3 : ∀ (x : V) (H1 : Hp), (∃ a, x = V.ref a ∧ Fld X.K H1 a f fun v => Q v H1) = ∃ a C dx fs v, x = .ref a ∧ H1 a = some (.ins C dx fs) ∧ Cls X.K C ∧ NoAttr X.K C f ∧ fs.lookup f = some v ∧ Q v H1 := fun x H1 => by
      apply propext
      constructor
      · rintro ⟨a, h, ⟨C, dx, fs, v, h1, h2, h3, h4, h5⟩⟩
        exact ⟨a, C, dx, fs, v, h, h1, h2, h3, h4, h5⟩
      · rintro ⟨a, C, dx, fs, v, h, h1, h2, h3, h4, h5⟩
        exact ⟨a, h, ⟨C, dx, fs, v, h1, h2, h3, h4, h5⟩⟩
    simp only [e3]
    rfl
  rw [e2]
  exact pe_fld he hb
theorem s_fld (ha : PE X o ta) (hv : PE X value tv) (hs : swapsWith value (some (.Attribute o f pos')) pos.line X.env = pure false := by rfl) : PS X (.Assign [.Attribute o f pos'] value pos) (cSetF X.K ta tv f) := by
  refine weakS (ps_fld ha hv hs) fun D σ H h => ?_
  have h' : tv σ H fun y H1 => ta σ H1 (onR fun a H2 => SetF X.K H2 a f y fun H' => D.nx σ H') := h
  simp only [onR_eq] at h'
  have e3 : ∀ (x y : V) (H2 : Hp), (∃ a, x = V.ref a ∧ SetF X.K H2 a f y fun H' => D.nx σ H') = ∃ a C dx fs, x = .ref a ∧ H2 a = some (.ins C dx fs) ∧ Cls X.K C ∧ NoAttr X.K C f ∧ fs.length < 1000 ∧ D.nx σ (upd H2 a (.ins C dx (putF f y fs))) := fun x y H2 => by
    apply propext
    constructor
    · rintro ⟨a, h, ⟨C, dx, fs, h1, h2, h3, h4, h5⟩⟩
      exact ⟨a, C, dx, fs, h, h1, h2, h3, h4, h5⟩
    · rintro ⟨a, C, dx, fs, h, h1, h2, h3, h4, h5⟩
      exact ⟨a, h, ⟨C, dx, fs, h1, h2, h3, h4, h5⟩⟩
  simp only [e3] at h'
  exact h'
end
end CL

set_option Elab.async false
set_option linter.all false
set_option maxRecDepth 100000
set_option maxHeartbeats 2000000
namespace CL
open PySem PySem.Spec PyProof.Rows L2 RZ SkE
/-! calls of built-ins -/
structure LenR (K : PySem.W.Frag) (H : Hp) (p : Addr) (k : Nat → Prop) : Prop where
  ex : ∃ xs, (SqL K H p xs ∨ SqT K H p xs) ∧ k xs.length
def rLenC (K : PySem.W.Frag) : List V → Hp → VK → Prop := fun xs H Q => match xs with
  | [.str s] => Chk (s.length ≤ sizeLine) (Q (.int s.length) H)
  | [.ref p] => Sq K H p fun ys => Q (.int ys.length) H
  | _ => False
def rIntC : List V → Hp → VK → Prop := fun xs H Q => match xs with
  | [.int i] => Q (.int i) H
  | [.bl b] => Q (.int (if b then 1 else 0)) H
  | _ => False
def rAbsC : List V → Hp → VK → Prop := fun xs H Q => match xs with
  | [.int i] => Q (.int (if i < 0 then -i else i)) H
  | _ => False
def rMaxC : List V → Hp → VK → Prop := fun xs H Q => match xs with
  | [.int i, .int j] => Q (.int (if j > i then j else i)) H
  | _ => False
def rMinC : List V → Hp → VK → Prop := fun xs H Q => match xs with
  | [.int i, .int j] => Q (.int (if j < i then j else i)) H
  | _ => False
def rStrC : List V → Hp → VK → Prop := fun xs H Q => match xs with
  | [.int i] => Chk (i.natAbs.log2 < 1920) (Q (.str (toString i)) H)
  | [.str s] => Q (.str s) H
  | _ => False
def rListC (K : PySem.W.Frag) : List V → Hp → VK → Prop := fun xs H Q => match xs with
  | [.ref p] => Sq K H p fun ys => New H (.lst ys) fun q H' => Q (.ref q) H'
  | _ => False
structure TupR (K : PySem.W.Frag) (H : Hp) (p : Addr) (Q : VK) : Prop where
  ex : ∃ ys, (SqL K H p ys ∧ New H (.tup ys) fun q H' => Q (.ref q) H') ∨ (SqT K H p ys ∧ Q (.ref p) H)
def rTupC (K : PySem.W.Frag) : List V → Hp → VK → Prop := fun xs H Q => match xs with
  | [.ref p] => TupR K H p Q
  | _ => False
/-- isinstance: a built-in class, or what stands at c: an own class, or a new tuple of classes -/
structure IsR (K : PySem.W.Frag) (H : Hp) (x : V) (c : Addr) (k : Bool → Prop) : Prop where
  ex : (∃ t b, TyX K H x t ∧ PySem.W.kitOne K t (.ref c) = some b ∧ k b) ∨
    ∃ cs us t b, H c = some (.tup cs) ∧ Paired ClsV cs us ∧ TyX K H x t ∧ PySem.W.kitAny K t us = some b ∧ k b
def rIsC (K : PySem.W.Frag) : List V → Hp → VK → Prop := fun xs H Q => match xs with
  | [x, .ty n] => IsI K H x (.type n) fun b => Q (.bl b) H
  | [x, .ref c] => IsR K H x c fun b => Q (.bl b) H
  | _ => False
section
variable {X : Cx}
theorem k_len : CallR X (.builtin "len") (rLenC X.K) := by
  intro pins s σ H xs us Q I r h
  unfold rLenC at h
  split at h
  · exact call_len pins s σ H _ us Q I r ⟨_, _, rfl, ⟨h.p, rfl⟩, h.k⟩
  · obtain ⟨⟨ys, h1, h2⟩⟩ := h
    exact call_len_seq pins s σ H _ us Q I r ⟨_, _, rfl, h1, h2⟩
  · exact h.elim
theorem k_int : CallR X (.type "int") rIntC := by
  intro pins s σ H xs us Q I r h
  unfold rIntC at h
  split at h
  · exact call_int1 pins s σ H _ us Q I r (.inl ⟨_, rfl, h⟩)
  · exact call_int1 pins s σ H _ us Q I r (.inr ⟨_, rfl, h⟩)
  · exact h.elim
theorem k_abs : CallR X (.builtin "abs") rAbsC := by
  intro pins s σ H xs us Q I r h
  unfold rAbsC at h
  split at h
  · exact call_abs pins s σ H _ us Q I r ⟨_, rfl, h⟩
  · exact h.elim
theorem k_max (hc : X.calm = true) : CallR X (.builtin "max") rMaxC := by
  intro pins s σ H xs us Q I r h
  unfold rMaxC at h
  split at h
  · exact call_max2 hc pins s σ H _ us Q I r ⟨_, _, rfl, h⟩
  · exact h.elim
theorem k_min (hc : X.calm = true) : CallR X (.builtin "min") rMinC := by
  intro pins s σ H xs us Q I r h
  unfold rMinC at h
  split at h
  · exact call_min2 hc pins s σ H _ us Q I r ⟨_, _, rfl, h⟩
  · exact h.elim
theorem k_str : CallR X (.type "str") rStrC := by
  intro pins s σ H xs us Q I r h
  unfold rStrC at h
  split at h
  · exact call_str_int pins s σ H _ us Q I r ⟨_, rfl, h.p, h.k⟩
  · exact call_str_str pins s σ H _ us Q I r ⟨_, rfl, h⟩
  · exact h.elim
theorem k_list : CallR X (.type "list") (rListC X.K) := by
  intro pins s σ H xs us Q I r h
  unfold rListC at h
  split at h
  · obtain ⟨⟨ys, h1, h2⟩⟩ := h
    exact call_list_of pins s σ H _ us Q I r ⟨_, _, rfl, h1, h2.k⟩
  · exact h.elim
theorem k_tuple : CallR X (.type "tuple") (rTupC X.K) := by
  intro pins s σ H xs us Q I r h
  unfold rTupC at h
  split at h
  · obtain ⟨⟨ys, ⟨h1, h2⟩ | ⟨h1, h2⟩⟩⟩ := h
    · exact call_tuple_of pins s σ H _ us Q I r ⟨_, _, rfl, .inl ⟨h1, h2.k⟩⟩
    · exact call_tuple_of pins s σ H _ us Q I r ⟨_, _, rfl, .inr ⟨h1, h2⟩⟩
  · exact h.elim
theorem k_isi : CallR X (.builtin "isinstance") (rIsC X.K) := by
  intro pins s σ H xs us Q I r h
  unfold rIsC at h
  split at h
  · obtain ⟨⟨t, b, h1, h2, h3⟩⟩ := h
    exact call_isi pins s σ H _ us Q I r ⟨_, _, t, _, b, rfl, .ty _, h1, h2, h3⟩
  · obtain ⟨⟨t, b, h1, h2, h3⟩ | ⟨cs, ws, t, b, h1, h2, h3, h4, h5⟩⟩ := h
    · exact call_isi pins s σ H _ us Q I r ⟨_, _, t, _, b, rfl, .own _, h1, h2, h3⟩
    · exact call_isiT pins s σ H _ us Q I r ⟨_, _, cs, t, ws, b, rfl, h1, h2, h3, h4, h5⟩
  · exact h.elim
end
/-! calls of defs -/
def cCall (sp : Sp) (dvs : List V) (E : XK) (t : TA) : TE := fun σ H Q => t σ H fun vs H1 => Ask (sp (vs ++ dvs) H1 Q E)
theorem ask_eq {P : Prop} : Ask P = P := propext ⟨fun h => h.a, fun h => ⟨h⟩⟩
section
variable {X : Cx} {e : Expr} {es : List Expr} {t : TA} {x : Str} {p pos : Pos} {CX : CXT} {k : Nat} {f C : Addr} {fd : FuncData} {ps : List Str} {sp : Sp} {E : XK} {ds : List Value} {dvs : List V}
theorem e_call (F : FnOk X.prog X.w X.K X.mg X.base CX k f fd ps sp) (hr : Room k X.A) (hg : Gl X x) (hm : X.mg x = some (.ref f)) (hk : PySem.W.keepIn X.K (.ref f) = true) (hb : Binds X.K fd ps ds) (hd : Vals dvs ds) (hx : Passes CX X E)
    (ha : PA X (e :: es) t) (hdb : (x == ("__debug__" : Str)) = false := by decide) (he : starEach (e :: es) X.env = (false, eval e X.env) :: starEach es X.env := by rfl) (hpl : (backTo pos (starEach es X.env)).any (·.1) = false := by rfl) :
    PE X (.Call (.Name x p) (e :: es) [] pos) (cCall sp dvs E t) := by
  have e2 : cCall sp dvs E t = tCall sp dvs E t := by
    funext σ H Q
    unfold cCall tCall
    simp only [ask_eq]
  rw [e2]
  exact pe_call F hr hg hm hk hb hd hx ha hdb he hpl
def cMake (C : Addr) (sp : Sp) (dvs : List V) (E : XK) (t : TA) : TE := fun σ H Q => t σ H fun vs H1 => Ask (∀ x dx, H1 x = none → H1 dx = none → dx ≠ x → sp (.ref x :: (vs ++ dvs)) (upd (upd H1 dx (.own x)) x (.ins C dx [])) (fun v H2 => v = .non ∧ Q (.ref x) H2) E)
theorem e_make (M : Mk X.K C f) (F : FnOk X.prog X.w X.K X.mg X.base CX k f fd ps sp) (hr : Room (k + 1) X.A) (hg : Gl X x) (hm : X.mg x = some (.ref C)) (hb : Binds X.K fd ps ds) (hd : Vals dvs ds) (hx : Passes CX X E)
    (ha : PA X (e :: es) t) (hdb : (x == ("__debug__" : Str)) = false := by decide) (he : starEach (e :: es) X.env = (false, eval e X.env) :: starEach es X.env := by rfl) (hpl : (backTo pos (starEach es X.env)).any (·.1) = false := by rfl) :
    PE X (.Call (.Name x p) (e :: es) [] pos) (cMake C sp dvs E t) := by
  have e2 : cMake C sp dvs E t = tMake C sp dvs E t := by
    funext σ H Q
    unfold cMake tMake
    simp only [ask_eq]
  rw [e2]
  exact pe_make M F hr hg hm hb hd hx ha hdb he hpl
end
/-! loops -/
structure ForW (J : It) (g : TG) (tb : TS) (D : Ends) (σ : L2.St) (H : Hp) : Prop where
  ex : ∃ W : Nat → Nat → L2.St → Hp → Prop, (∃ m, W 0 m σ H) ∧ ∀ i m σ H, W i m σ H →
    (J.stop i H ∧ D.nx σ H) ∨ (J.go i H ∧ ∃ N : L2.St → Hp → Prop, (∀ σ' H', N σ' H' → ∃ m', m' < m ∧ W (i + 1) m' σ' H') ∧ ∀ x H', J.yld i H x H' → g x σ H' fun σ2 H2 => tb { D with nx := N, ct := N, bk := D.nx } σ2 H2)
def cFor (wi : TI) (g : TG) (tb : TS) : TS := fun D σ H => wi σ H fun J H1 => ForW J g tb D σ H1
theorem forw_eq {J : It} {g : TG} {tb : TS} {D : Ends} {σ : L2.St} {H : Hp} : ForW J g tb D σ H = (∃ W : Nat → Nat → L2.St → Hp → Prop, (∃ m, W 0 m σ H) ∧ ∀ i m σ H, W i m σ H →
    (J.stop i H ∧ D.nx σ H) ∨ (J.go i H ∧ ∃ N : L2.St → Hp → Prop, (∀ σ' H', N σ' H' → ∃ m', m' < m ∧ W (i + 1) m' σ' H') ∧ ∀ x H', J.yld i H x H' → g x σ H' fun σ2 H2 => tb { D with nx := N, ct := N, bk := D.nx } σ2 H2)) := propext ⟨fun h => h.ex, fun h => ⟨h⟩⟩
section
variable {X : Cx} {tg : Expr}
theorem s_for {iter : Expr} {body : List Stmt} {wi : TI} {g : TG} {tb : TS} {pos : Pos} (hp : PassesOwn (model X.prog X.w) X.A X.env X.xe) (hc : X.calm = true) (hi : PI X tg iter wi) (hg : PG X tg g) (hb : PSs X body tb)
    (hs : ∀ x, foldedSetIterable iter X.env x = pure x := by intro _; rfl) : PS X (.For tg iter body [] pos) (cFor wi g tb) := by
  have e2 : cFor wi g tb = tFor wi g tb := by
    funext D σ H
    unfold cFor tFor
    simp only [forw_eq]
  rw [e2]
  exact ps_for hp hc hi hg hb hs
/-- weaker walks -/
theorem weakI {iter : Expr} {wi wi' : TI} (h : PI X tg iter wi) (w : ∀ σ H R, wi' σ H R → wi σ H R) : PI X tg iter wi' := ⟨fun pins s σ H R I q => h.run pins s σ H R I (w _ _ _ q)⟩
def onI1 (k : Int → Hp → Prop) : List V → Hp → Prop := fun xs H => match xs with
  | [.int i] => k i H
  | _ => False
theorem onI1_eq (k : Int → Hp → Prop) : onI1 k = fun xs H => ∃ i, xs = [.int i] ∧ k i H := by
  funext x H
  apply propext
  unfold onI1
  constructor
  · intro h
    split at h
    · exact ⟨_, rfl, h⟩
    · exact h.elim
  · rintro ⟨c, rfl, h⟩
    exact h
def cRng1 (ta : TA) : TI := fun σ H R => ta σ H (onI1 fun j H1 => Chk (-(2 ^ 62) ≤ j ∧ j < 2 ^ 62) (R (Itr 0 j.toNat) H1))
theorem i_range1 {a : Expr} {ta : TA} {p pos : Pos} (hg : Gl X "range") (hm : X.mg "range" = none) (ha : PA X [a] ta) (hs : starEach [a] X.env = [(false, eval a X.env)] := by rfl) : PI X tg (.Call (.Name "range" p) [a] [] pos) (cRng1 ta) := by
  have e2 : cRng1 ta = iRng1 ta := by
    funext σ H R
    unfold cRng1 iRng1
    simp only [onI1_eq, chk_eq, and_assoc]
  rw [e2]
  exact pi_range1 hg hm ha hs
/-- over what a value is: a list or a tuple -/
structure ItS (K : PySem.W.Frag) (H : Hp) (a : Addr) (R : It → Hp → Prop) : Prop where
  ex : ((∃ xs, SqL K H a xs) ∧ R (Itl K a) H) ∨ ((∃ xs, SqT K H a xs) ∧ R (Itt K a) H)
def cSeq (K : PySem.W.Frag) (tl : TE) : TI := fun σ H R => tl σ H (onR fun a H1 => ItS K H1 a R)
theorem i_seq {l : Expr} {tl : TE} (hl : PE X l tl) : PI X tg l (cSeq X.K tl) := by
  refine ⟨fun pins s σ H R I h => thn (hl.run pins s σ H _ I h) fun v s1 ⟨x, H1, I1, r1, q1⟩ => ?_⟩
  rw [onR_eq] at q1
  obtain ⟨a, rfl, ⟨⟨⟨xs, hq⟩, q⟩ | ⟨⟨xs, hq⟩, q⟩⟩⟩ := q1
  · cases r1
    obtain ⟨vs, _, pl, _⟩ := I1.list hq
    refine wpAny_pyIter_list pl.isList ⟨s1.heap.objs.size, [s1.heap.objs.size], _, _, H1, rfl, I1.kept (t' := s1.toks) fun b o z => Heap.get?_push_of_some _ z, turn_list a _, ⟨_, Heap.get?_push_size _ rfl, rfl, rfl⟩, fun b hb => ?_, q⟩
    obtain rfl : b = s1.heap.objs.size := by simpa using hb
    exact I1.fpOk (Nat.le_refl _) (I1.hok.fresh (Nat.le_refl _))
  · cases r1
    obtain ⟨vs, _, pl, _⟩ := I1.tuple hq
    refine wpAny_pyIter_tuple (show s1.heap.IsTuple a vs.toArray from pl) ⟨s1.heap.objs.size, [s1.heap.objs.size], _, _, H1, rfl, I1.kept (t' := s1.toks) fun b o z => Heap.get?_push_of_some _ z, turn_tuple a _, ⟨_, Heap.get?_push_size _ rfl, rfl, rfl⟩, fun b hb => ?_, q⟩
    obtain rfl : b = s1.heap.objs.size := by simpa using hb
    exact I1.fpOk (Nat.le_refl _) (I1.hok.fresh (Nat.le_refl _))
end
/-- two lists or two tuples, zipped -/
structure ItZ (K : PySem.W.Frag) (H : Hp) (a b : Addr) (R : It → Hp → Prop) : Prop where
  ex : ∃ xs ys, (SqL K H a xs ∧ SqL K H b ys ∧ R (Itz K a b) H) ∨ (SqT K H a xs ∧ SqT K H b ys ∧ R (ItzT K a b) H)
def onRR (k : Addr → Addr → Hp → Prop) : List V → Hp → Prop := fun xs H => match xs with
  | [.ref a, .ref b] => k a b H
  | _ => False
theorem onRR_ok {k : Addr → Addr → Hp → Prop} {xs : List V} {H : Hp} (h : onRR k xs H) : ∃ a b, xs = [.ref a, .ref b] ∧ k a b H := by
  unfold onRR at h
  split at h
  · exact ⟨_, _, rfl, h⟩
  · exact h.elim
/-- an argument list's reading may be weakened -/
def cZip (K : PySem.W.Frag) (ta : TA) : TI := fun σ H R => ta σ H (onRR fun a b H1 => ItZ K H1 a b R)
theorem i_zip {X : Cx} {e e2 : Expr} {ta : TA} {p pos tpos : Pos} {elts : List Expr} {kk : Nat} (hg : Gl X "zip") (hm : X.mg "zip" = none) (ha : PA X [e, e2] ta)
    (hs : starEach [e, e2] X.env = (false, eval e X.env) :: starEach [e2] X.env := by rfl) (hpl : (backTo pos (starEach [e2] X.env)).any (·.1) = false := by rfl) :
    PI X (.Tuple elts kk tpos) (.Call (.Name "zip" p) [e, e2] [] pos) (cZip X.K ta) := by
  have e2 : cZip X.K ta = iZipA X.K ta := by
    funext σ H R
    unfold cZip iZipA
    have e3 : (onRR fun a b H1 => ItZ X.K H1 a b R) = fun vs H1 => ∃ a b xs ys, vs = [V.ref a, V.ref b] ∧ ((SqL X.K H1 a xs ∧ SqL X.K H1 b ys ∧ R (Itz X.K a b) H1) ∨ (SqT X.K H1 a xs ∧ SqT X.K H1 b ys ∧ R (ItzT X.K a b) H1)) := by
      funext vs H1
      apply propext
      constructor
      · intro h
        obtain ⟨a, b, rfl, ⟨xs, ys, q⟩⟩ := onRR_ok h
        exact ⟨a, b, xs, ys, rfl, q⟩
      · rintro ⟨a, b, xs, ys, rfl, q⟩
        exact ⟨xs, ys, q⟩
    rw [e3]
  rw [e2]
  exact pi_zipA hg hm ha hs hpl
structure ItE (K : PySem.W.Frag) (H : Hp) (a : Addr) (R : It → Hp → Prop) : Prop where
  ex : (∃ xs, SqL K H a xs) ∧ R (Ite K a) H
def onR1 (k : Addr → Hp → Prop) : List V → Hp → Prop := fun xs H => match xs with
  | [.ref a] => k a H
  | _ => False
theorem onR1_ok {k : Addr → Hp → Prop} {xs : List V} {H : Hp} (h : onR1 k xs H) : ∃ a, xs = [.ref a] ∧ k a H := by
  unfold onR1 at h
  split at h
  · exact ⟨_, rfl, h⟩
  · exact h.elim
def cEnum (K : PySem.W.Frag) (ta : TA) : TI := fun σ H R => ta σ H (onR1 fun a H1 => ItE K H1 a R)
theorem i_enum {X : Cx} {e : Expr} {ta : TA} {p pos tpos : Pos} {elts : List Expr} {kk : Nat} (hg : Gl X "enumerate") (hm : X.mg "enumerate" = none) (ha : PA X [e] ta) (hs : starEach [e] X.env = [(false, eval e X.env)] := by rfl) :
    PI X (.Tuple elts kk tpos) (.Call (.Name "enumerate" p) [e] [] pos) (cEnum X.K ta) := by
  have e2 : cEnum X.K ta = iEnum X.K ta := by
    funext σ H R
    unfold cEnum iEnum
    have e3 : (onR1 fun a H1 => ItE X.K H1 a R) = fun vs H1 => ∃ a xs, vs = [V.ref a] ∧ SqL X.K H1 a xs ∧ R (Ite X.K a) H1 := by
      funext vs H1
      apply propext
      constructor
      · intro h
        obtain ⟨a, rfl, ⟨⟨xs, q⟩, r⟩⟩ := onR1_ok h
        exact ⟨a, xs, rfl, q, r⟩
      · rintro ⟨a, xs, rfl, q, r⟩
        exact ⟨⟨xs, q⟩, r⟩
    rw [e3]
  rw [e2]
  exact pi_enum hg hm ha hs
/-! targets -/
structure UnT (K : PySem.W.Frag) (H : Hp) (a : Addr) (n : Nat) (k : List V → Prop) : Prop where
  ex : ∃ xs, SqT K H a xs ∧ xs.length = n ∧ k xs
def cGNil : TGs := fun vs σ H Q => match vs with
  | [] => Q σ H
  | _ => False
def cGCons (t : TG) (u : TGs) : TGs := fun vs σ H Q => match vs with
  | v :: r => t v σ H fun σ' H' => u r σ' H' Q
  | _ => False
def cGTup (K : PySem.W.Frag) (n : Nat) (t : TGs) : TG := fun v σ H Q => match v with
  | .ref a => UnT K H a n fun xs => t xs σ H Q
  | _ => False
section
variable {X : Cx} {pos : Pos}
theorem weakG {e : Expr} {t t' : TG} (h : PG X e t) (w : ∀ v σ H Q, t' v σ H Q → t v σ H Q) : PG X e t' := ⟨fun pins s σ H v u Q I r q => h.run pins s σ H v u Q I r (w _ _ _ _ q)⟩
theorem weakGs {e : List Expr} {t t' : TGs} (h : PGs X e t) (w : ∀ v σ H Q, t' v σ H Q → t v σ H Q) : PGs X e t' := ⟨fun pins s σ H v u Q I r q => h.run pins s σ H v u Q I r (w _ _ _ _ q)⟩
theorem g_nil : PGs X [] cGNil := weakGs pgs_nil fun vs σ H Q h => by
  unfold cGNil at h
  split at h
  · exact ⟨rfl, h⟩
  · exact h.elim
theorem g_cons {e : Expr} {es : List Expr} {t : TG} {u : TGs} (h1 : PG X e t) (h2 : PGs X es u)
    (hs : (assignEach (e :: es) X.env).map (·.2) = assign e X.env :: (assignEach es X.env).map (·.2) := by rfl) : PGs X (e :: es) (cGCons t u) := weakGs (pgs_cons h1 h2 hs) fun vs σ H Q h => by
  unfold cGCons at h
  split at h
  · exact ⟨_, _, rfl, h⟩
  · exact h.elim
theorem g_tup {es : List Expr} {k : Nat} {t : TGs} {n : Nat} (hc : X.calm = true) (h : PGs X es t)
    (hn : (assignEach es X.env).length = n := by rfl) (hst : (assignEach es X.env).findIdx? (·.1) = none := by rfl) : PG X (.Tuple es k pos) (cGTup X.K n t) := weakG (pg_tup hc h hn hst) fun v σ H Q q => by
  unfold cGTup at q
  split at q
  · obtain ⟨⟨xs, h1, h2, h3⟩⟩ := q
    exact ⟨_, xs, rfl, h1, h2, h3⟩
  · exact q.elim
/-- o[i] = v in a list -/
structure SetL (H : Hp) (p : Addr) (k : Int) (v : V) (Q : Hp → Prop) : Prop where
  ex : ∃ xs j, H p = some (.lst xs) ∧ ixN xs.length k = some j ∧ Q (upd H p (.lst (xs.set j v)))
def rSetC : V → V → V → Hp → (Hp → Prop) → Prop := fun o i v H Q => match o, i with
  | .ref p, .int k => SetL H p k v Q
  | _, _ => False
theorem p_set : PSet X rSetC := by
  intro pins s σ H o i v ov iv u Q I ro ri rv h
  unfold rSetC at h
  split at h
  · obtain ⟨⟨xs, j, h1, h2, h3⟩⟩ := h
    exact set_list pins s σ H _ _ _ _ _ _ Q I ro ri rv ⟨_, xs, _, j, rfl, rfl, h1, h2, h3⟩
  · exact h.elim
/-- xs.append(e), a statement -/
def rAppC : V → List V → Hp → VK → Prop := fun x vs H Q => match x, vs with
  | .ref l, [y] => Ls H l fun xs => Chk (xs.length < sizeLine) (Q .non (upd H l (.lst (xs ++ [y]))))
  | _, _ => False
def rPopC : V → List V → Hp → VK → Prop := fun x vs H Q => match x, vs with
  | .ref l, [.int i] => Ls H l fun xs => At xs i fun y => Chk (-(2 ^ 63) ≤ i ∧ i < 2 ^ 63 ∧ 0 ≤ i) (Q y (upd H l (.lst (xs.eraseIdx i.toNat))))
  | _, _ => False
end
end CL

set_option Elab.async false
set_option linter.all false
set_option maxRecDepth 100000
set_option maxHeartbeats 2000000
namespace CL
open PySem PySem.Spec PyProof.Rows L2 RZ SkE
/-! methods -/
section
variable {X : Cx}
theorem m_append : MtR X "list.append" rAppC := by
  intro pins s σ H x xs v us Q I rx rs h
  unfold rAppC at h
  split at h
  · obtain ⟨⟨ys, h1, h2⟩⟩ := h
    exact mt_append pins s σ H _ _ v us Q I rx rs ⟨_, _, _, rfl, rfl, h1, h2.p, h2.k⟩
  · exact h.elim
theorem at_nn {α : Type} {xs : List α} {i : Int} {v : α} (h0 : 0 ≤ i) (h : atI xs i = some v) : seqIndex? i xs.length = some i.toNat ∧ xs[i.toNat]? = some v := by
  unfold atI ixN at h
  rw [if_pos h0] at h
  by_cases hl : i < (xs.length : Int)
  · rw [if_pos hl] at h
    exact ⟨PySem.StrLaws.seqIndex_nonneg h0 hl, h⟩
  · rw [if_neg hl] at h
    cases h
theorem m_pop : MtR X "list.pop" rPopC := by
  intro pins s σ H x xs v us Q I rx rs h
  unfold rPopC at h
  split at h
  · obtain ⟨⟨ys, h1, ⟨y, h2, h3⟩⟩⟩ := h
    obtain ⟨e1, e2⟩ := at_nn h3.p.2.2 h2
    exact mt_popAt pins s σ H _ _ v us Q I rx rs ⟨_, _, _, _, _, rfl, rfl, h1, h3.p.1, h3.p.2.1, e1, e2, h3.k⟩
  · exact h.elim
end
/-! comprehensions -/
structure LcW (J : It) (g : TG) (tt : TT) (te : TE) (vs : List Nat) (σ : L2.St) (D : Addr) (Qd : Hp → Prop) (H0 : Hp) : Prop where
  ex : ∃ W : Nat → Nat → Hp → Prop, (∃ m, W 0 m (upd H0 D (.lst []))) ∧ ∀ i m H, W i m H → (J.stop i H ∧ Qd H) ∨ (J.go i H ∧ ∃ Nx : Hp → Prop, (∀ H', Nx H' → ∃ m', m' < m ∧ W (i + 1) m' H') ∧
    ∀ x H', J.yld i H x H' → g x (wipe σ vs) H' fun σ2 H2 => wipe σ2 vs = wipe σ vs ∧ tt σ2 H2 fun b H3 => if b = true then te σ2 H3 fun y H4 => ∃ acc, H4 D = some (.lst acc) ∧ acc.length < sizeLine ∧ Nx (upd H4 D (.lst (acc ++ [y]))) else Nx H3)
structure NewA (H : Hp) (k : Addr → Prop) : Prop where
  k : ∀ p, H p = none → k p
def cLc (wi : TI) (g : TG) (tt : TT) (te : TE) (vs : List Nat) : TE := fun σ H Q => wi σ H fun J H1 => NewA H1 fun D => LcW J g tt te vs σ D (fun H' => Q (.ref D) H') H1
theorem lcw_eq {J : It} {g : TG} {tt : TT} {te : TE} {vs : List Nat} {σ : L2.St} {D : Addr} {Qd : Hp → Prop} {H0 : Hp} : LcW J g tt te vs σ D Qd H0 = ∃ W : Nat → Nat → Hp → Prop, (∃ m, W 0 m (upd H0 D (.lst []))) ∧ ∀ i m H, W i m H → (J.stop i H ∧ Qd H) ∨ (J.go i H ∧ ∃ Nx : Hp → Prop, (∀ H', Nx H' → ∃ m', m' < m ∧ W (i + 1) m' H') ∧
    ∀ x H', J.yld i H x H' → g x (wipe σ vs) H' fun σ2 H2 => wipe σ2 vs = wipe σ vs ∧ tt σ2 H2 fun b H3 => if b = true then te σ2 H3 fun y H4 => ∃ acc, H4 D = some (.lst acc) ∧ acc.length < sizeLine ∧ Nx (upd H4 D (.lst (acc ++ [y]))) else Nx H3) := propext ⟨fun h => h.ex, fun h => ⟨h⟩⟩
theorem newa_eq {H : Hp} {k : Addr → Prop} : NewA H k = ∀ p, H p = none → k p := propext ⟨fun h => h.k, fun h => ⟨h⟩⟩
theorem clc_eq {wi : TI} {g : TG} {tt : TT} {te : TE} {vs : List Nat} : cLc wi g tt te vs = tLc wi g tt te vs := by
  funext σ H Q
  unfold cLc tLc
  simp only [newa_eq, lcw_eq]
section
variable {X : Cx} {elt tg iter : Expr} {ifs : List Expr} {scope : Scope} {own : List (Str × Nat)} {pos : Pos} {wi : TI} {g : TG} {tt : TT} {te : TE}
theorem e_lc (hc : X.calm = true) (hN : X.N.Nodup) (hi : PI X tg iter wi) (ok : BlkOk X.N X.env.scope scope own)
    (hg : ∀ (s : Shared) (H : Hp) (C : Addr) (cl : List (Str × Addr)) (fp : List Addr), PG (X.blk s H scope (compEnvC scope cl C X.env) fp) tg g)
    (ht : ∀ (s : Shared) (H : Hp) (C : Addr) (cl : List (Str × Addr)) (fp : List Addr), PTs (X.blk s H scope (compEnvC scope cl C X.env) fp) ifs tt)
    (he : ∀ (s : Shared) (H : Hp) (C : Addr) (cl : List (Str × Addr)) (fp : List Addr), PE (X.blk s H scope (compEnvC scope cl C X.env) fp) elt te)
    (hs : ∀ x, foldedSetIterable iter X.env x = pure x := by intro _; rfl) :
    PE X (.ListComp elt [⟨tg, iter, ifs, 0⟩] scope pos) (cLc wi g tt te (own.map (·.2))) := by
  rw [clc_eq]
  exact pe_lc hc hN hi ok hg ht he hs
end
/-! a, b = x, y -/
def cPar (i j : Nat) (ta : TA) : TS := fun D σ H => ta σ H fun vs H1 => match vs with
  | [v, w] => D.nx ((σ.set i (some v)).set j (some w)) H1
  | _ => False
theorem s_par {X : Cx} {pos : Pos} {i j : Nat} {x y : Str} {a b : Expr} {ta : TA} {px py pt : Pos} {kt k2 pt2} (hc : X.calm = true) (hN : X.N.Nodup) (hi : X.N[i]? = some x) (hj : X.N[j]? = some y) (hij : i ≠ j)
    (hx : X.env.scope.names.lookup x = some .local) (hy : X.env.scope.names.lookup y = some .local) (ha : PA X [a, b] ta)
    (hw : swappedStores [.Tuple [.Name x px, .Name y py] kt pt] (.Tuple [a, b] k2 pt2) X.env = pure (some [x, y]))
    (hs : swapsWithSole [.Tuple [.Name x px, .Name y py] kt pt] (.Tuple [a, b] k2 pt2) pos.line X.env = pure false := by rfl) :
    PS X (.Assign [.Tuple [.Name x px, .Name y py] kt pt] (.Tuple [a, b] k2 pt2) pos) (cPar i j ta) := by
  have e : cPar i j ta = tPar i j ta := by
    funext D σ H
    unfold cPar tPar
    have e2 : (fun (vs : List V) (H1 : Hp) => (match vs with | [v, w] => D.nx ((σ.set i (some v)).set j (some w)) H1 | _ => False)) = fun vs H1 => ∃ v w, vs = [v, w] ∧ D.nx ((σ.set i (some v)).set j (some w)) H1 := by
      funext vs H1
      apply propext
      constructor
      · intro h
        split at h
        · exact ⟨_, _, rfl, h⟩
        · exact h.elim
      · rintro ⟨v, w, rfl, h⟩
        exact h
    rw [e2]
  rw [e]
  exact ps_par hc hN hi hj hij hx hy ha hw hs
/-! heaps -/
theorem Same.up {H H' : Hp} (e : Same H H') {a : Addr} {o : HO} (h : H a = some o) : H' a = some o := e a o h
/-- all but b is as it was -/
def But (b : Addr) (H H' : Hp) : Prop := ∀ a o, a ≠ b → H a = some o → H' a = some o
theorem But.up {b : Addr} {H H' : Hp} (e : But b H H') {a : Addr} {o : HO} (n : a ≠ b) (h : H a = some o) : H' a = some o := e a o n h
theorem upd_to {H : Hp} {a b : Addr} {o : HO} {r : Option HO} (n : b ≠ a) (h : H b = r) : upd H a o b = r := by rw [upd_ne n]; exact h
theorem upd_pre {H : Hp} {a b : Addr} {o : HO} (h : upd H a o b = none) : b ≠ a ∧ H b = none := by
  by_cases e : b = a
  · subst e
    rw [upd_same] at h
    cases h
  · rw [upd_ne e] at h
    exact ⟨e, h⟩
theorem nn_of {H : Hp} {a b : Addr} {o : HO} (h : H a = some o) (h' : H b = none) : b ≠ a := fun e => by rw [e, h] at h'; cases h'
theorem At.nat {α : Type} {xs : List α} {i : Int} {k : α → Prop} {v : α} (j : Nat) (e : i = (j : Int)) (h : xs[j]? = some v) (q : k v) : At xs i k := ⟨v, by rw [e]; exact atI_nat h, q⟩
end CL

set_option Elab.async false
set_option linter.all false
set_option maxRecDepth 100000
set_option maxHeartbeats 2000000
namespace CL
open PySem PySem.Spec PyProof.Rows L2 RZ SkE
section
variable {X : Cx} {CX : CXT} {n : Nat} {f C : Addr} {fd : FuncData} {ps : List Str} {sp : Sp} {E : XK}
/-- a def run below the body, where there is room -/
theorem run_at {A : Around} {pins : List (Addr × Obj)} {σ : L2.St} {H : Hp} {s : Shared} {Q : VK} {us : List Value} {vs : List V} (F : FnOk X.prog X.w X.K X.mg X.base CX n f fd ps sp) (hb : Binds X.K fd ps []) (hx : Passes CX X E) (room : Room n A) (fr : A.frames = X.A.frames)
    (I : Inv X pins σ H s) (r : Vals vs us) (h : sp vs H Q E) : wpAny (model X.prog X.w) A (call (.ref f) us) (EP X pins σ Q) X.xe s := by
  have e := I.env0
  have e1 : Env0 X.prog X.w X.K X.mg X.base A X.stack s H := ⟨by rw [fr]; exact e.frames, e.mod, e.bs, e.bsz, e.funs, e.frf, e.hok, e.bare⟩
  have hl : (us ++ []).length = ps.length := by
    rw [List.append_nil, ← r.length]
    exact F.len _ _ _ _ h
  have b1 := hb s us I.kIn hl
  rw [List.append_nil] at b1
  refine wpAny_call (codeAny_mono (F.run A X.stack s H ⟨us, []⟩ us vs Q E room e1 b1 r h) fun res s' hq => ?_)
  cases res with
  | error er => exact hx pins σ H s er s' I hq
  | ok fl =>
    cases fl with
    | ret u => exact I.after hq
    | next => exact False.elim hq
    | brk => exact False.elim hq
    | cont => exact False.elim hq
/-- an instance as the machine sees it -/
theorem inst_at {pins : List (Addr × Obj)} {σ : L2.St} {H : Hp} {s : Shared} {a dx : Addr} {fs : List (Str × V)} (I : Inv X pins σ H s) (h : H a = some (.ins C dx fs)) : ∃ od, PySem.W.InstAt s.heap a (PySem.W.instObj C dx) C (some od) := by
  obtain ⟨mA, J, _⟩ := ins_get I.hok h
  obtain ⟨od, J, _⟩ := J.look
  exact ⟨od, J⟩
/-- what a comparison by an own def must hand back: a Boolean -/
def BackB (neg : Bool) (Q : VK) : VK := fun v H => match v with
  | .bl b => Q (.bl (if neg then !b else b)) H
  | _ => False
/-- own == or != of an instance at the left: what is asked -/
structure OwnC (K : PySem.W.Frag) (C : Addr) (sp : Sp) (E : XK) (neg : Bool) (a : Addr) (y : V) (H : Hp) (Q : VK) : Prop where
  ex : ∃ dx fs t, H a = some (.ins C dx fs) ∧ TyX K H y t ∧ PySem.W.notFirst K C t = true ∧ sp [.ref a, y] H (BackB neg Q) E
def rOwn (K : PySem.W.Frag) (C : Addr) (sp : Sp) (E : XK) (neg : Bool) : R2 := fun x y H Q => match x with
  | .ref a => OwnC K C sp E neg a y H Q
  | _ => False
theorem c_eqO (F : FnOk X.prog X.w X.K X.mg X.base CX n f fd ps sp) (hb : Binds X.K fd ps []) (hx : Passes CX X E) (room : Room n X.A)
    (hs : PySem.W.findIn X.K (.ref C) "__eq__" = some (some (.ref f))) (hf : PySem.W.isFn X.K (.ref f) = true) : OpR X (compareOp .Eq) (rOwn X.K C sp E false) := by
  intro pins s σ H x y v u Q I rx ry h
  unfold rOwn at h
  split at h
  · rename_i a
    obtain ⟨⟨dx, fs, t, h1, h2, h3, h4⟩⟩ := h
    cases rx
    obtain ⟨od, J⟩ := inst_at I h1
    obtain ⟨m, hF⟩ := I.fr
    obtain ⟨Pk, Z, hP, _⟩ := kit_of I ry h2
    show wpAny (model X.prog X.w) X.A (richCompare .Eq (.ref a) u) (EP X pins σ Q) X.xe s
    refine PySem.W.cmp_K (op := .Eq) (tb := t) room.units0 hF I.ok.mod.kin J (Z.ty _ _ I.kIn hP) h3 hs hf ?_
    refine wpAny_mono (run_at F hb hx room rfl I (vs := [.ref a, y]) (.cons rfl (.cons ry .nil)) h4) (fun r s' q => ?_) fun _ _ z => z
    obtain ⟨w, H', I', rw', q'⟩ := q
    unfold BackB at q'
    split at q'
    · rename_i k0
      cases rw'
      exact ⟨.bl k0, H', I', rfl, q'⟩
    · exact q'.elim
  · exact h.elim
theorem ifBound_ne {M : Model} {A : Around} {K : PySem.W.Frag} {x : Addr} {ox : Obj} {od : Option Obj} {s : Shared} {b : Value} {Ex : Value → Shared → Prop} {Q : Option Value → Shared → Prop} (Y : K.In s.heap) (I : PySem.W.InstAt s.heap x ox C od)
    (hs : PySem.W.findIn K (.ref C) "__ne__" = some (some (.builtin "object.__ne__"))) (h : wpAny M A (call (.builtin "object.__ne__") [.ref x, b]) (fun v => Q (some v)) Ex s) : wpAny M A (callSpecialIfBound? (.ref x) "__ne__" [b]) Q Ex s := by
  simp only [callSpecialIfBound?, bindSpecialIfBound?]
  refine wpAny_holding (wpAny_bind (wpAny_bind (wpAny_bind (I.type.here ((PySem.W.looks_findIn Y hs).here (wpAny_bind (wpAny_askSetting (wpAny_ite ?_))))))))
  have fin : wpAny M A (call (.builtin "object.__ne__") ([.ref x] ++ [b]) >>= fun v => pure (some v)) Q Ex s := wpAny_bind (wpAny_mono h (fun v s' z => wpAny_pure z) fun _ _ z => z)
  split
  · exact wpAny_bind (wpAny_of_eq (F.cmp_object.ne.bind _) (wpAny_pure (by exact fin)))
  · exact wpAny_tryCatch (wpAny_bind (wpAny_of_eq (F.cmp_object.ne.bind _) (wpAny_pure (by exact fin))))
open Builtin in
theorem objNe_body {prog : Program} {w : World} {A : Around} {K : PySem.W.Frag} {x : Addr} {ox : Obj} {od : Option Obj} {s : Shared} {b : Value} {Ex : Value → Shared → Prop} {Q : Fin → Shared → Prop} (hu : A.units < cLine) (Y : K.In s.heap) (I : PySem.W.InstAt s.heap x ox C od)
    (hs : PySem.W.findIn K (.ref C) "__eq__" = some (some (.ref f))) (hf : PySem.W.isFn K (.ref f) = true)
    (h : wpAny (model prog w) A (call (.ref f) [.ref x, b]) (fun v s' => ∃ k, v = .bool k ∧ Q (.done (.ret (.bool (!k)))) s') Ex s) :
    wpAny (model prog w) A (Builtin.«object.__ne__» ⟨[.ref x, b], []⟩) Q Ex s := by
  unfold Builtin.«object.__ne__»
  repeat (first
    | with_reducible refine wpAny_cRoomFor hu ?_
    | (refine wpAny_bind (m := callSpecialIfBound? (.ref x) (Str.ofString "__eq__") [b]) (PySem.W.ifBound_K Y I hs hf (wpAny_mono h (fun r s' hr => by
          obtain ⟨k, rfl, hq⟩ := hr
          repeat (first | exact hq | exact wpAny_pure hq | exact wpAny_truthy_bool hq | (refine wpAny_bind (m := truthy (.bool _)) (wpAny_truthy_bool ?_)) | wp_step)) fun _ _ z => z)))
    | wp_step)
theorem ne_own {prog : Program} {w : World} {A : Around} {K : PySem.W.Frag} {x L : Addr} {h₀ : Heap} {m : Str → Option Value} {ox : Obj} {od : Option Obj} {s : Shared} {b tb : Value} {Ex : Value → Shared → Prop} {Q : Value → Shared → Prop} (hu : A.units + 1 < cLine) (Fm : Fr h₀ L s.heap m) (Y₀ : K.In h₀)
    (I : PySem.W.InstAt s.heap x ox C od) (hb : PySem.W.Looks (model prog w) s.heap (typeOf b) tb) (hn : PySem.W.notFirst K C tb = true) (hm : PySem.W.mroIn K C (.type "object") = some true)
    (hs : PySem.W.findIn K (.ref C) "__eq__" = some (some (.ref f))) (hne : PySem.W.findIn K (.ref C) "__ne__" = some (some (.builtin "object.__ne__"))) (hf : PySem.W.isFn K (.ref f) = true)
    (h : wpAny (model prog w) A.in1 (call (.ref f) [.ref x, b]) (fun v s' => ∃ k, v = .bool k ∧ Q (.bool (!k)) s') Ex s) : wpAny (model prog w) A (richCompare .NotEq (.ref x) b) Q Ex s := by
  have Y := Y₀.keeps Fm.keep
  have one : wpAny (model prog w) A (tryCompare (.ref x) "__ne__" b) (fun r s' => ∃ v, r = some v ∧ Q v s') Ex s := by
    unfold tryCompare
    refine wpAny_bind (ifBound_ne Y I hne (wpAny_call (codeAny_call_builtin F.cmp_object.ne.plain F.cmpEntry_ne (PySem.W.check_slot F.cmpKind_ne F.cmpSplit_ne (I.type.andThen (PySem.W.looks_mroIn Y hm)) (F.cmpArgs_ne _ _)
      (objNe_body (A := A.in1) hu Y I hs hf (wpAny_mono h (fun v s' hv => ?_) fun _ _ z => z))))))
    obtain ⟨k, rfl, hq⟩ := hv
    first | exact ⟨k, rfl, wpAny_pure ⟨_, rfl, hq⟩⟩ | exact ⟨k, rfl, wpAny_pure (wpAny_pure ⟨_, rfl, hq⟩)⟩
  unfold richCompare
  simp only [oneThing_ref]
  refine wpAny_holding (wpAny_bind (wpAny_cRoomFor (Nat.lt_of_succ_lt hu) ?_))
  rw [cmpInfo_NotEq]
  dsimp only
  refine wpAny_bind (I.type.here (wpAny_bind (hb.here ?_)))
  split
  · rename_i q
    have e : PySem.W.subIn K tb (.ref C) = some false := by
      rcases Bool.or_eq_true_iff.mp hn with z | z
      · rw [beq_iff_eq.mp z] at q
        simp at q
      · exact beq_iff_eq.mp z
    refine wpAny_bind ((PySem.W.looks_subIn Y e).here ?_)
    simp only [Bool.false_eq_true, if_false]
    refine wpAny_bind (wpAny_mono one (fun r s' z => ?_) fun _ _ z => z)
    obtain ⟨v, rfl, hq⟩ := z
    exact wpAny_pure hq
  · refine wpAny_bind (wpAny_pure ?_)
    simp only [Bool.false_eq_true, if_false]
    refine wpAny_bind (wpAny_mono one (fun r s' z => ?_) fun _ _ z => z)
    obtain ⟨v, rfl, hq⟩ := z
    exact wpAny_pure hq
theorem c_neO (F : FnOk X.prog X.w X.K X.mg X.base CX n f fd ps sp) (hb : Binds X.K fd ps []) (hx : Passes CX X E) (room : Room (n + 1) X.A) (hm : PySem.W.mroIn X.K C (.type "object") = some true)
    (hs : PySem.W.findIn X.K (.ref C) "__eq__" = some (some (.ref f))) (hne : PySem.W.findIn X.K (.ref C) "__ne__" = some (some (.builtin "object.__ne__"))) (hf : PySem.W.isFn X.K (.ref f) = true) : OpR X (compareOp .NotEq) (rOwn X.K C sp E true) := by
  intro pins s σ H x y v u Q I rx ry h
  unfold rOwn at h
  split at h
  · rename_i a
    obtain ⟨⟨dx, fs, t, h1, h2, h3, h4⟩⟩ := h
    cases rx
    obtain ⟨od, J⟩ := inst_at I h1
    obtain ⟨m, hF⟩ := I.fr
    obtain ⟨Pk, Z, hP, _⟩ := kit_of I ry h2
    show wpAny (model X.prog X.w) X.A (richCompare .NotEq (.ref a) u) (EP X pins σ Q) X.xe s
    refine ne_own (tb := t) (by have := room.units; omega) hF I.ok.mod.kin J (Z.ty _ _ I.kIn hP) h3 hm hs hne hf ?_
    refine wpAny_mono (run_at F hb hx room.in1 rfl I (vs := [.ref a, y]) (.cons rfl (.cons ry .nil)) h4) (fun r s' q => ?_) fun _ _ z => z
    obtain ⟨w, H', I', rw', q'⟩ := q
    unfold BackB at q'
    split at q'
    · rename_i k0
      cases rw'
      exact ⟨_, rfl, .bl (!k0), H', I', rfl, q'⟩
    · exact q'.elim
  · exact h.elim
/-- str(x): an int, a text, an instance with an own __str__ -/
def BackS (Q : VK) : VK := fun v H => match v with
  | .str z => Q (.str z) H
  | _ => False
structure OwnS (C : Addr) (sp : Sp) (E : XK) (a : Addr) (H : Hp) (Q : VK) : Prop where
  ex : ∃ dx fs, H a = some (.ins C dx fs) ∧ sp [.ref a] H (BackS Q) E
def rStrO (C : Addr) (sp : Sp) (E : XK) : List V → Hp → VK → Prop := fun xs H Q => match xs with
  | [.ref a] => OwnS C sp E a H Q
  | ys => rStrC ys H Q
theorem k_strO (F : FnOk X.prog X.w X.K X.mg X.base CX n f fd ps sp) (hb : Binds X.K fd ps []) (hx : Passes CX X E) (room : Room (n + 2) X.A)
    (hs : PySem.W.findIn X.K (.ref C) "__str__" = some (some (.ref f))) (hf : PySem.W.isFn X.K (.ref f) = true) : CallR X (.type "str") (rStrO C sp E) := by
  intro pins s σ H xs us Q I r h
  unfold rStrO at h
  split at h
  · rename_i a
    obtain ⟨⟨dx, fs, h1, h2⟩⟩ := h
    obtain ⟨u, rfl, ru⟩ := vals1 r
    cases ru
    obtain ⟨od, J⟩ := inst_at I h1
    have r2 : Room n X.A.in1.in1 := (show Room (n + 1) X.A.in1 from room.in1).in1
    refine PySem.W.kso_call r2.units0 I.kIn J hs hf ?_
    refine wpAny_mono (run_at F hb hx r2 rfl I (vs := [.ref a]) (.cons rfl .nil) h2) (fun v s' q => ?_) fun _ _ z => z
    obtain ⟨w, H', I', rw', q'⟩ := q
    unfold BackS at q'
    split at q'
    · rename_i z0
      obtain ⟨t, rfl⟩ := rw'
      exact ⟨.str z0, H', I', ⟨t, rfl⟩, q'⟩
    · exact q'.elim
  · exact k_str pins s σ H xs us Q I r h
end
end CL

set_option Elab.async false
set_option linter.all false
set_option maxRecDepth 100000
set_option maxHeartbeats 2000000
namespace CL
open PySem PySem.Spec PyProof.Rows L2 RZ SkE
/-! f-strings, join -/
def cFmt (te : TE) : TE := fun σ H Q => te σ H fun x H1 => match x with
  | .str y => Chk (y.length ≤ sizeLine) (Q (.str y) H1)
  | .int i => Chk (i.natAbs.log2 < 1920) (Q (.str (toString i)) H1)
  | _ => False
def onF (Q : VK) : VK := fun x H1 => match x with
  | .str y => Chk (y.length ≤ sizeLine) (Q (.str y) H1)
  | .int i => Chk (i.natAbs.log2 < 1920) (Q (.str (toString i)) H1)
  | _ => False
theorem onF_ok {Q : VK} {x : V} {H : Hp} : onF Q x H = ((∃ y : Str, x = .str y ∧ y.length ≤ sizeLine ∧ Q (.str y) H) ∨ ∃ i : Int, x = .int i ∧ i.natAbs.log2 < 1920 ∧ Q (.str (toString i)) H) := by
  apply propext
  unfold onF
  constructor
  · intro h
    split at h
    · exact .inl ⟨_, rfl, h.p, h.k⟩
    · exact .inr ⟨_, rfl, h.p, h.k⟩
    · exact h.elim
  · rintro (⟨y, rfl, h, q⟩ | ⟨i, rfl, h, q⟩)
    · exact ⟨h, q⟩
    · exact ⟨h, q⟩
section
variable {X : Cx} {e : Expr} {te : TE} {pos : Pos}
theorem e_fmt (he : PE X e te) : PE X (.FormattedValue e (-1) none pos) (cFmt te) := by
  have e2 : cFmt te = tFmt te := by
    funext σ H Q
    show te σ H (onF Q) = _
    have e3 : onF Q = fun x H1 => ((∃ y : Str, x = .str y ∧ y.length ≤ sizeLine ∧ Q (.str y) H1) ∨ ∃ i : Int, x = .int i ∧ i.natAbs.log2 < 1920 ∧ Q (.str (toString i)) H1) := by
      funext x H1
      exact onF_ok
    rw [e3]
    rfl
  rw [e2]
  exact pe_fmt he
def cJs : List TE → Str → L2.St → Hp → (Str → Hp → Prop) → Prop
  | [], acc, _, H, Q => Q acc H
  | t :: ts, acc, σ, H, Q => t σ H fun x H1 => match x with
    | .str y => Chk ((acc ++ y).length ≤ sizeLine) (cJs ts (acc ++ y) σ H1 Q)
    | _ => False
def onJ (k : Str → Hp → Prop) : VK := fun x H => match x with
  | .str y => k y H
  | _ => False
theorem onJ_eq (k : Str → Hp → Prop) : onJ k = fun x H => ∃ y, x = .str y ∧ k y H := by
  funext x H
  apply propext
  unfold onJ
  constructor
  · intro h
    split at h
    · exact ⟨_, rfl, h⟩
    · exact h.elim
  · rintro ⟨y, rfl, h⟩
    exact h
theorem cJs_eq : ∀ (ts : List TE) (acc : Str) (σ : L2.St) (H : Hp) (Q : Str → Hp → Prop), cJs ts acc σ H Q = tJs ts acc σ H Q
  | [], _, _, _, _ => rfl
  | t :: ts, acc, σ, H, Q => by
    show t σ H (onJ fun y H1 => Chk ((acc ++ y).length ≤ sizeLine) (cJs ts (acc ++ y) σ H1 Q)) = _
    rw [onJ_eq]
    simp only [chk_eq, cJs_eq ts]
    rfl
theorem e_joined {v1 v2 : Expr} {rest : List Expr} {ts : List TE} {pos : Pos} (h : PJ X (v1 :: v2 :: rest) ts) : PE X (.JoinedStr (v1 :: v2 :: rest) pos) (fun σ H Q => cJs ts Str.empty σ H fun out H1 => Q (.str out) H1) := by
  simp only [cJs_eq]
  exact pe_joined h
structure Join (K : PySem.W.Frag) (H : Hp) (p : Addr) (a : Str) (k : Str → Prop) : Prop where
  ex : ∃ ys : List Str, (SqL K H p (ys.map V.str) ∨ SqT K H p (ys.map V.str)) ∧ (ys.map (·.length)).sum + ys.length * a.length ≤ 16777216 ∧ k (Txt.join a ys)
def rJoin (K : PySem.W.Frag) : V → List V → Hp → VK → Prop := fun x xs H Q => match x, xs with
  | .str a, [.ref p] => Join K H p a fun z => Q (.str z) H
  | _, _ => False
def cJoin (K : PySem.W.Frag) (to te : TE) : TE := fun σ H Q => to σ H fun x H1 => match x with
  | .str a => te σ H1 (onR fun p H2 => Join K H2 p a fun z => Q (.str z) H2)
  | _ => False
theorem weakM {id : String} {r r' : V → List V → Hp → VK → Prop} (h : MtR X id r) (w : ∀ x xs H Q, r' x xs H Q → r x xs H Q) : MtR X id r' := fun pins s σ H x xs v us Q I rx rs q => h pins s σ H x xs v us Q I rx rs (w _ _ _ _ q)
theorem e_join {o e : Expr} {to te : TE} {apos pos : Pos} (ho : PE X o to) (he : PE X e te) (hs : starEach [e] X.env = [(false, eval e X.env)] := by rfl) (hbase : attributeBase o "join" X.env (eval o X.env) = eval o X.env := by rfl) (hline : (apos.endLine == pos.line) = true := by rfl) :
    PE X (.Call (.Attribute o "join" apos) [e] [] pos) (cJoin X.K to te) := by
  have e2 : cJoin X.K to te = fun σ H Q => to σ H (onJ fun a H1 => te σ H1 (onR fun p H2 => Join X.K H2 p a fun z => Q (.str z) H2)) := rfl
  rw [e2]
  have key := pe_join (X := X) (apos := apos) (pos := pos) ho he hs hbase hline
  refine ⟨fun pins s σ H Q I h => key.run pins s σ H Q I ?_⟩
  rw [onJ_eq] at h
  simp only [onR_eq] at h
  unfold tM1
  have e3 : (fun (x : V) (H1 : Hp) => ∃ y, x = V.str y ∧ te σ H1 fun x H => ∃ c, x = V.ref c ∧ Join X.K H c y fun z => Q (.str z) H) = fun x H1 => (∃ a, x = V.str a) ∧ te σ H1 fun y H2 => ∃ a p, ∃ ys : List Str, x = .str a ∧ [y] = [.ref p] ∧ (SqL X.K H2 p (ys.map V.str) ∨ SqT X.K H2 p (ys.map V.str)) ∧
      (ys.map (·.length)).sum + ys.length * a.length ≤ 16777216 ∧ Q (.str (Txt.join a ys)) H2 := by
    funext x H1
    apply propext
    constructor
    · rintro ⟨a, rfl, h⟩
      refine ⟨⟨a, rfl⟩, ?_⟩
      have e4 : (fun (x : V) (H : Hp) => ∃ c, x = V.ref c ∧ Join X.K H c a fun z => Q (.str z) H) = fun y H2 => ∃ a' p, ∃ ys : List Str, V.str a = .str a' ∧ [y] = [V.ref p] ∧ (SqL X.K H2 p (ys.map V.str) ∨ SqT X.K H2 p (ys.map V.str)) ∧ (ys.map (·.length)).sum + ys.length * a'.length ≤ 16777216 ∧ Q (.str (Txt.join a' ys)) H2 := by
        funext y H2
        apply propext
        constructor
        · rintro ⟨c, rfl, ⟨ys, h1, h2, h3⟩⟩
          exact ⟨a, c, ys, rfl, rfl, h1, h2, h3⟩
        · rintro ⟨a', p, ys, e, e', h1, h2, h3⟩
          cases e
          cases e'
          exact ⟨p, rfl, ⟨ys, h1, h2, h3⟩⟩
      rw [e4] at h
      exact h
    · rintro ⟨⟨a, rfl⟩, h⟩
      refine ⟨a, rfl, ?_⟩
      have e4 : (fun (x : V) (H : Hp) => ∃ c, x = V.ref c ∧ Join X.K H c a fun z => Q (.str z) H) = fun y H2 => ∃ a' p, ∃ ys : List Str, V.str a = .str a' ∧ [y] = [V.ref p] ∧ (SqL X.K H2 p (ys.map V.str) ∨ SqT X.K H2 p (ys.map V.str)) ∧ (ys.map (·.length)).sum + ys.length * a'.length ≤ 16777216 ∧ Q (.str (Txt.join a' ys)) H2 := by
        funext y H2
        apply propext
        constructor
        · rintro ⟨c, rfl, ⟨ys, h1, h2, h3⟩⟩
          exact ⟨a, c, ys, rfl, rfl, h1, h2, h3⟩
        · rintro ⟨a', p, ys, e, e', h1, h2, h3⟩
          cases e
          cases e'
          exact ⟨p, rfl, ⟨ys, h1, h2, h3⟩⟩
      rw [e4]
      exact h
  rw [e3] at h
  exact h
end
/-! slices -/
def cPart (t : TE) : TO := fun σ H Q => t σ H fun x H1 => match x with
  | .int i => Q (some i) H1
  | _ => False
def onZ (k : Int → Hp → Prop) : VK := fun x H => match x with
  | .int i => k i H
  | _ => False
theorem onZ_eq (k : Int → Hp → Prop) : onZ k = fun x H => ∃ i, x = .int i ∧ k i H := by
  funext x H
  apply propext
  unfold onZ
  constructor
  · intro h
    split at h
    · exact ⟨_, rfl, h⟩
    · exact h.elim
  · rintro ⟨c, rfl, h⟩
    exact h
theorem o_some {X : Cx} {e : Expr} {te : TE} (h : PE X e te) : PO X (some e) (cPart te) := by
  have e2 : cPart te = tPart te := by
    funext σ H Q
    show te σ H (onZ fun i H1 => Q (some i) H1) = _
    rw [onZ_eq]
    rfl
  rw [e2]
  exact po_some h
structure SlL (K : PySem.W.Frag) (H : Hp) (a : Addr) (lo hi : Option Int) (Q : VK) : Prop where
  ex : (∃ xs, SqL K H a xs ∧ New H (.lst (cutV xs lo hi)) fun p H' => Q (.ref p) H')
def rSlC (K : PySem.W.Frag) : V → Option Int → Option Int → Hp → VK → Prop := fun x lo hi H Q => match x with
  | .ref a => SlL K H a lo hi Q
  | .str z => Chk (z.length ≤ sizeLine) (Q (.str (cutS z lo hi)) H)
  | _ => False
theorem c_sl {X : Cx} : SlR X (rSlC X.K) := by
  intro pins s σ H x v vl vu lo hi sl Q I rx hs pl pu h
  unfold rSlC at h
  split at h
  · obtain ⟨⟨xs, h1, h2⟩⟩ := h
    exact sl_list pins s σ H _ v vl vu lo hi sl Q I rx hs pl pu ⟨_, xs, rfl, h1, h2.k⟩
  · exact sl_str pins s σ H _ v vl vu lo hi sl Q I rx hs pl pu ⟨_, rfl, h.p, h.k⟩
  · exact h.elim
/-! own methods; C(*xs) -/
structure MethR (H : Hp) (C : Addr) (m : Str) (a : Addr) (k : Prop) : Prop where
  ex : ∃ dx fs, H a = some (.ins C dx fs) ∧ fs.lookup m = none ∧ k
def cMeth (C : Addr) (m : Str) (sp : Sp) (dvs : List V) (E : XK) (ta : TE) (t : TA) : TE := fun σ H Q => ta σ H (onR fun a H1 => MethR H1 C m a (t σ H1 fun vs H2 => Ask (sp (.ref a :: (vs ++ dvs)) H2 Q E)))
section
variable {X : Cx} {CX : CXT} {k : Nat} {f C : Addr} {fd : FuncData} {ps : List Str} {sp : Sp} {dvs : List V} {ds : List Value} {E : XK} {m x : Str} {p pos apos : Pos} {e o : Expr} {es : List Expr} {ta te : TE} {t : TA}
theorem e_meth {pl : Sem Bool} (c : Cls X.K C) (hm : Meth X.K C m f) (F : FnOk X.prog X.w X.K X.mg X.base CX k f fd ps sp) (hr : Room k X.A) (hb : Binds X.K fd ps ds) (hd : Vals dvs ds) (hx : Passes CX X E) (he : PE X o ta) (ha : PA X (e :: es) t)
    (hst : starEach (e :: es) X.env = (false, eval e X.env) :: starEach es X.env := by rfl) (hpl : (backTo pos (starEach es X.env)).any (·.1) = false := by rfl)
    (ht : eval (.Call (.Attribute o m apos) (e :: es) [] pos) X.env = (do
      let ov ← eval o X.env
      standAt apos.atName
      let (f, first) ← holding [ov] (getMethod ov m pl)
      callWith pos f first (backTo pos (starEach (e :: es) X.env)) (backToKw pos (keywordEach [] X.env))) := by rfl) :
    PE X (.Call (.Attribute o m apos) (e :: es) [] pos) (cMeth C m sp dvs E ta t) := by
  have e2 : cMeth C m sp dvs E ta t = tMeth C m sp dvs E ta t := by
    funext σ H Q
    unfold cMeth tMeth
    simp only [onR_eq, ask_eq]
    have e3 : (fun (x : V) (H1 : Hp) => ∃ a, x = V.ref a ∧ MethR H1 C m a (t σ H1 fun vs H2 => sp (.ref a :: (vs ++ dvs)) H2 Q E)) = fun x H1 => ∃ a dx fs, x = .ref a ∧ H1 a = some (.ins C dx fs) ∧ fs.lookup m = none ∧ t σ H1 fun vs H2 => sp (x :: (vs ++ dvs)) H2 Q E := by
      funext x H1
      apply propext
      constructor
      · rintro ⟨a, rfl, ⟨dx, fs, h1, h2, h3⟩⟩
        exact ⟨a, dx, fs, rfl, h1, h2, h3⟩
      · rintro ⟨a, dx, fs, rfl, h1, h2, h3⟩
        exact ⟨a, rfl, ⟨dx, fs, h1, h2, h3⟩⟩
    rw [e3]
  rw [e2]
  exact pe_meth he c hm F hr hb hd hx ha hst hpl ht
/-- C(*xs) -/
def cMakeS (K : PySem.W.Frag) (C : Addr) (sp : Sp) (E : XK) (te : TE) : TE := fun σ H Q => te σ H (onR fun a H1 => Sq K H1 a fun xs => Ask (∀ x dx, H1 x = none → H1 dx = none → dx ≠ x → sp (.ref x :: xs) (upd (upd H1 dx (.own x)) x (.ins C dx [])) (fun v H2 => v = .non ∧ Q (.ref x) H2) E))
theorem e_makeS {sp_ : Pos} (M : Mk X.K C f) (F : FnR X.prog X.w X.K X.mg X.base CX k f sp) (hr : Room (k + 1) X.A) (hg : Gl X x) (hm : X.mg x = some (.ref C)) (hx : Passes CX X E) (he : PE X e te) (hd : (x == ("__debug__" : Str)) = false := by decide)
    (hst : starEach [.Starred e sp_] X.env = [(true, eval e X.env)] := by rfl) :
    PE X (.Call (.Name x p) [.Starred e sp_] [] pos) (cMakeS X.K C sp E te) := by
  refine ⟨fun pins s σ H Q I h => ?_⟩
  unfold cMakeS at h
  simp only [onR_eq] at h
  refine wpAny_Call_Name_kw (ld_glob I hg hm ?_ hd)
  refine PySem.W.callWith_S (h₀ := X.base) I.ok.mod.kin M.kp (thn (he.run pins s σ H _ I h) fun v s1 ⟨y, H1, I1, ry, a, ey, ⟨xs, hxs, q⟩⟩ => ?_) hst
  subst ey
  obtain rfl : v = Value.ref a := ry
  exact StX.star_any I1 hxs.symm fun us s2 I2 rv => ⟨I2.kIn, StX.run_makeR M F hr hx I2 rv q.a⟩
end
/-! loops and comprehensions by an invariant -/
section
variable {K : PySem.W.Frag} {g : TG} {tb : TS} {D : Ends} {σ : L2.St} {H : Hp} {a b : Addr} {xs ys : List V}
theorem fw_range {lo : Int} {n : Nat} (Pv : Nat → L2.St → Hp → Prop) (h0 : Pv 0 σ H) (hs : ∀ i σ H, i < n → Pv i σ H → g (.int (lo + i)) σ H fun σ2 H2 => tb { D with nx := Pv (i + 1), ct := Pv (i + 1), bk := D.nx } σ2 H2) (hd : ∀ σ H, Pv n σ H → D.nx σ H) : ForW (Itr lo n) g tb D σ H := ⟨for_range Pv h0 hs hd⟩
theorem fw_list (Pv : Nat → L2.St → Hp → Prop) (h0 : Pv 0 σ H) (hl : ∀ i σ H, i ≤ xs.length → Pv i σ H → SqL K H a xs) (hs : ∀ i x σ H, xs[i]? = some x → Pv i σ H → g x σ H fun σ2 H2 => tb { D with nx := Pv (i + 1), ct := Pv (i + 1), bk := D.nx } σ2 H2)
    (hd : ∀ σ H, Pv xs.length σ H → D.nx σ H) : ForW (Itl K a) g tb D σ H := ⟨for_list Pv h0 hl hs hd⟩
theorem fw_tup (Pv : Nat → L2.St → Hp → Prop) (h0 : Pv 0 σ H) (hl : ∀ i σ H, i ≤ xs.length → Pv i σ H → SqT K H a xs) (hs : ∀ i x σ H, xs[i]? = some x → Pv i σ H → g x σ H fun σ2 H2 => tb { D with nx := Pv (i + 1), ct := Pv (i + 1), bk := D.nx } σ2 H2)
    (hd : ∀ σ H, Pv xs.length σ H → D.nx σ H) : ForW (Itt K a) g tb D σ H := ⟨for_tup Pv h0 hl hs hd⟩
theorem fw_zipT (hl : xs.length = ys.length) (Pv : Nat → L2.St → Hp → Prop) (h0 : Pv 0 σ H) (hq : ∀ i σ H, Pv i σ H → SqT K H a xs ∧ SqT K H b ys)
    (hs : ∀ (i : Nat) (x y : V) (T : Addr) (σ : L2.St) (H : Hp), xs[i]? = some x → ys[i]? = some y → Pv i σ H → H T = none → g (.ref T) σ (upd H T (.tup [x, y])) fun σ2 H2 => tb { D with nx := Pv (i + 1), ct := Pv (i + 1), bk := D.nx } σ2 H2) (hd : ∀ σ H, Pv xs.length σ H → D.nx σ H) :
    ForW (ItzT K a b) g tb D σ H := ⟨for_zipT hl Pv h0 hq hs hd⟩
variable {tt : TT} {te : TE} {vs : List Nat} {Qd : Hp → Prop} {p : Addr}
/-- one turn of a comprehension without a test -/
def LcStep (g : TG) (tt : TT) (te : TE) (vs : List Nat) (σ : L2.St) (p : Addr) (x : V) (H : Hp) (Nx : Hp → Prop) : Prop := g x (wipe σ vs) H fun σ2 H2 => wipe σ2 vs = wipe σ vs ∧ tt σ2 H2 fun b H3 =>
    if b = true then te σ2 H3 fun y H4 => ∃ acc, H4 p = some (.lst acc) ∧ acc.length < sizeLine ∧ Nx (upd H4 p (.lst (acc ++ [y]))) else Nx H3
theorem lw_range {lo : Int} {n : Nat} (Pv : Nat → Hp → Prop) (h0 : Pv 0 (upd H p (.lst []))) (hs : ∀ i H, i < n → Pv i H → LcStep g tt te vs σ p (.int (lo + i)) H (Pv (i + 1))) (hd : ∀ H, Pv n H → Qd H) : LcW (Itr lo n) g tt te vs σ p Qd H := ⟨lc_range Pv h0 hs hd⟩
theorem lw_list (Pv : Nat → Hp → Prop) (h0 : Pv 0 (upd H p (.lst []))) (hl : ∀ i H, i ≤ xs.length → Pv i H → SqL K H a xs) (hs : ∀ i x H, xs[i]? = some x → Pv i H → LcStep g tt te vs σ p x H (Pv (i + 1))) (hd : ∀ H, Pv xs.length H → Qd H) : LcW (Itl K a) g tt te vs σ p Qd H := ⟨lc_list Pv h0 hl hs hd⟩
theorem lw_tup (Pv : Nat → Hp → Prop) (h0 : Pv 0 (upd H p (.lst []))) (hl : ∀ i H, i ≤ xs.length → Pv i H → SqT K H a xs) (hs : ∀ i x H, xs[i]? = some x → Pv i H → LcStep g tt te vs σ p x H (Pv (i + 1))) (hd : ∀ H, Pv xs.length H → Qd H) : LcW (Itt K a) g tt te vs σ p Qd H := ⟨lc_tup Pv h0 hl hs hd⟩
theorem lw_zipT (hl : xs.length = ys.length) (Pv : Nat → Hp → Prop) (h0 : Pv 0 (upd H p (.lst []))) (hq : ∀ i H, Pv i H → SqT K H a xs ∧ SqT K H b ys)
    (hs : ∀ (i : Nat) (x y : V) (T : Addr) (H : Hp), xs[i]? = some x → ys[i]? = some y → Pv i H → H T = none → LcStep g tt te vs σ p (.ref T) (upd H T (.tup [x, y])) (Pv (i + 1))) (hd : ∀ H, Pv xs.length H → Qd H) : LcW (ItzT K a b) g tt te vs σ p Qd H := by
  refine ⟨fun i m H => m = xs.length - i ∧ i ≤ xs.length ∧ Pv i H, ⟨xs.length, rfl, Nat.zero_le _, h0⟩, ?_⟩
  rintro i m H' ⟨rfl, hi, pv⟩
  obtain ⟨qx, qy⟩ := hq i H' pv
  by_cases hlt : i < xs.length
  · have ix := List.getElem?_eq_getElem hlt
    have hlt2 : i < ys.length := hl ▸ hlt
    have iy := List.getElem?_eq_getElem hlt2
    refine .inr ⟨⟨xs, ys, _, _, qx, qy, ix, iy⟩, Pv (i + 1), fun H2 p2 => ⟨xs.length - (i + 1), by omega, rfl, hlt, p2⟩, fun v H2 y => ?_⟩
    obtain ⟨T, x', y', rfl, hT, rfl, f1, f2⟩ := y
    exact hs i x' y' T H' (f1 xs qx) (f2 ys qy) pv hT
  · have e : i = xs.length := by omega
    subst e
    exact .inl ⟨⟨xs, ys, qx, qy, Or.inl (Nat.le_refl _)⟩, hd H' pv⟩
/-- a turn without a test, read -/
theorem lc_turn {x : V} {Nx : Hp → Prop} (h : g x (wipe σ vs) H fun σ2 H2 => wipe σ2 vs = wipe σ vs ∧ te σ2 H2 fun y H4 => Ls H4 p fun acc => Chk (acc.length < sizeLine) (Nx (upd H4 p (.lst (acc ++ [y]))))) (mono : ∀ Q Q' : L2.St → Hp → Prop, (∀ s h, Q s h → Q' s h) → g x (wipe σ vs) H Q → g x (wipe σ vs) H Q') (mt : ∀ σ2 H2 (Q Q' : VK), (∀ v h, Q v h → Q' v h) → te σ2 H2 Q → te σ2 H2 Q') : LcStep g tYes te vs σ p x H Nx := by
  refine mono _ _ (fun σ2 H2 q => ⟨q.1, ?_⟩) h
  show (if true = true then te σ2 H2 fun y H4 => ∃ acc, H4 p = some (.lst acc) ∧ acc.length < sizeLine ∧ Nx (upd H4 p (.lst (acc ++ [y]))) else Nx H2)
  rw [if_pos rfl]
  exact mt _ _ _ _ (fun v h ⟨⟨acc, h1, h2⟩⟩ => ⟨acc, h1, h2.p, h2.k⟩) q.2
end
end CL

set_option Elab.async false
set_option linter.all false
set_option maxRecDepth 100000
set_option maxHeartbeats 2000000
namespace CL
open PySem PySem.Spec PyProof.Rows L2 RZ SkE
section
variable {X : Cx} {elt tg iter : Expr} {ifs : List Expr} {scope : Scope} {own : List (Str × Nat)} {pos spos py : Pos} {wi : TI} {g : TG} {tt : TT} {te : TE} {i : Nat} {y : Str}
theorem s_setlc (hc : X.calm = true) (hN : X.N.Nodup) (hy : X.N[i]? = some y) (hyl : X.env.scope.names.lookup y = some .local)
    (hsw : swapsWith (.ListComp elt [⟨tg, iter, ifs, 0⟩] scope pos) (some (.Name y py)) spos.line X.env = pure true) (hi : PI X tg iter wi) (ok : BlkOk X.N X.env.scope scope own)
    (hg : ∀ (s : Shared) (H : Hp) (C : Addr) (cl : List (Str × Addr)) (fp : List Addr), PG (X.blk s H scope (compEnvC scope cl C X.env) fp) tg g)
    (ht : ∀ (s : Shared) (H : Hp) (C : Addr) (cl : List (Str × Addr)) (fp : List Addr), PTs (X.blk s H scope (compEnvC scope cl C X.env) fp) ifs tt)
    (he : ∀ (s : Shared) (H : Hp) (C : Addr) (cl : List (Str × Addr)) (fp : List Addr), PE (X.blk s H scope (compEnvC scope cl C X.env) fp) elt te)
    (hs : ∀ x, foldedSetIterable iter X.env x = pure x := by intro _; rfl) :
    PS X (.Assign [.Name y py] (.ListComp elt [⟨tg, iter, ifs, 0⟩] scope pos) spos) (tAsg (cLc wi g tt te (own.map (·.2))) (gName i)) := by
  rw [clc_eq]
  exact ps_setLc hc hN hy hyl hsw hi ok hg ht he hs
end
theorem c_ixK {X : Cx} {K : PySem.W.Frag} (h : X.K = K) : IxR X (rIxC K) := h ▸ c_ix
theorem c_eqK {X : Cx} {K : PySem.W.Frag} (h : X.K = K) (hu : X.A.units + 64 < cLine) : OpR X (compareOp .Eq) (rEqC K false) := h ▸ c_eq hu
/-! heaps, from one to the next -/
/-- nothing is tracked at p -/
structure Fre (H : Hp) (p : Addr) : Prop where
  n : H p = none
theorem ne_fresh {H : Hp} {a b : Addr} {o : HO} (h' : Fre H b) (h : H a = some o) : a ≠ b := ne_of_none h h'.n
theorem new_mk {H : Hp} {o : HO} {k : Addr → Hp → Prop} (h : ∀ p, Fre H p → k p (upd H p o)) : New H o k := ⟨fun p n => h p ⟨n⟩⟩
theorem newa_mk {H : Hp} {k : Addr → Prop} (h : ∀ p, Fre H p → k p) : NewA H k := ⟨fun p n => h p ⟨n⟩⟩
section
variable {H H1 H2 Y : Hp} {a b p : Addr} {o : HO}
theorem upd_toS {r : Option HO} (h : H b = r) (n : b ≠ a) : upd H a o b = r := upd_to n h
theorem But.upS (e : But b H H1) (h : H a = some o) (n : a ≠ b) : H1 a = some o := e a o n h
theorem But.rfl' : But b H H := fun _ _ _ h => h
theorem But.tr (x : But b H H1) (y : But b H1 H2) : But b H H2 := fun a o n h => y a o n (x a o n h)
theorem But.trS (x : But b H H1) (y : Same H1 H2) : But b H H2 := fun a o n h => y a o (x a o n h)
theorem But.ofS (x : Same H H1) : But b H H1 := fun a o _ h => x a o h
theorem But.box (x : But b H H1) : But b H (upd H1 b o) := fun a _ n h => upd_to n (x a _ n h)
/-- an object that H does not know -/
theorem But.fresh (x : But b H H1) (n : Fre H p) : But b H (upd H1 p o) := fun a _ na h => upd_to (ne_of_none h n.n) (x a _ na h)
theorem Same.fresh (x : Same H H1) (n : Fre H p) : Same H (upd H1 p o) := fun a _ h => upd_to (ne_of_none h n.n) (x a _ h)
theorem Same.tr (x : Same H H1) (y : Same H1 H2) : Same H H2 := fun a o h => y a o (x a o h)
/-- where the new object itself may have changed -/
theorem Same.ofB (x : But p H1 H2) (y : Same H H1) (n : Fre H p) : Same H H2 := fun a o h => x a o (ne_of_none h n.n) (y a o h)
theorem But.back (x : But b H Y) (n : p ≠ b) (h : Fre Y p) : Fre H p := ⟨by
  cases e : H p with
  | none => rfl
  | some u =>
    have q := x p u n e
    rw [h.n] at q
    cases q⟩
theorem Same.bk (x : Same H Y) (h : Fre Y p) : Fre H p := ⟨by
  cases e : H p with
  | none => rfl
  | some u =>
    have q := x p u e
    rw [h.n] at q
    cases q⟩
theorem upd_back (h : Fre (upd H a o) p) : Fre H p := ⟨(upd_pre h.n).2⟩
theorem upd_back2 {o' : HO} {b' : Addr} (h : Fre (upd (upd H a o) b' o') p) : Fre H p := upd_back (upd_back h)
theorem upd_fre (n : p ≠ a) (h : Fre H p) : Fre (upd H a o) p := ⟨by rw [upd_ne n]; exact h.n⟩
theorem But.back1 (x : But b (upd H a o) Y) (n : p ≠ b) (h : Fre Y p) : Fre H p := upd_back (x.back n h)
theorem Same.back1 (x : Same (upd H a o) Y) (h : Fre Y p) : Fre H p := upd_back (Same.bk x h)
theorem But.back2 {o' : HO} {b' : Addr} (x : But b (upd (upd H a o) b' o') Y) (n : p ≠ b) (h : Fre Y p) : Fre H p := upd_back2 (x.back n h)
theorem Same.back2 {o' : HO} {b' : Addr} (x : Same (upd (upd H a o) b' o') Y) (h : Fre Y p) : Fre H p := upd_back2 (Same.bk x h)
theorem Same.seqT {K : PySem.W.Frag} {xs : List V} (e : Same H H1) (h : SqT K H a xs) : SqT K H1 a xs := by
  rcases h with (h | ⟨o, h⟩) | h
  · exact .inl (.inl (e _ _ h))
  · exact .inl (.inr ⟨o, e _ _ h⟩)
  · exact .inr h
theorem But.seqL {K : PySem.W.Frag} {xs : List V} (n : a ≠ b) (e : But b H H1) (h : SqL K H a xs) : SqL K H1 a xs := by
  rcases h with (h | ⟨o, h⟩) | h
  · exact .inl (.inl (e _ _ n h))
  · exact .inl (.inr ⟨o, e _ _ n h⟩)
  · exact .inr h
theorem But.seqT {K : PySem.W.Frag} {xs : List V} (n : a ≠ b) (e : But b H H1) (h : SqT K H a xs) : SqT K H1 a xs := by
  rcases h with (h | ⟨o, h⟩) | h
  · exact .inl (.inl (e _ _ n h))
  · exact .inl (.inr ⟨o, e _ _ n h⟩)
  · exact .inr h
theorem seqL_new {K : PySem.W.Frag} {xs : List V} (n : Fre H p) (h : SqL K H a xs) : SqL K (upd H p o) a xs := Same.seq (Same.fresh (Same.refl H) n) h
theorem seqT_new {K : PySem.W.Frag} {xs : List V} (n : Fre H p) (h : SqT K H a xs) : SqT K (upd H p o) a xs := Same.seqT (Same.fresh (Same.refl H) n) h
/-- the script: no list of ours, or the module's -/
structure Scr (K : PySem.W.Frag) (H : Hp) (a : Addr) (xs : List V) : Prop where
  sq : SqL K H a xs
  no : ∀ u, H a = some u → ∃ ob ys, u = .frz ob (.lst ys)
theorem Scr.ne {K : PySem.W.Frag} {xs : List V} (s : Scr K H a xs) (h : H p = some o) (d : ∀ ob ys, o ≠ .frz ob (.lst ys)) : a ≠ p := fun e => by
  subst e
  obtain ⟨ob, ys, q⟩ := s.no o h
  exact d ob ys q
end
/-- an own class -/
structure ClsT (K : PySem.W.Frag) (mg : Str → Option Value) (C : Addr) (name : Str) : Prop where
  g : mg name = some (.ref C)
  cl : Cls K C
  ha : PySem.W.findIn K (.ref C) "__class__" = some (some (.builtin "object.__class__"))
  hn : PySem.W.specialIn K (.builtin "object.__class__") "__get__" = some (some (.builtin "getset_descriptor.__get__"))
  ht : PySem.W.takesIn K (.builtin "object.__class__") = some true
  hm : PySem.W.mroIn K C (.type "object") = some true
theorem ClsT.ty {K : PySem.W.Frag} {mg : Str → Option Value} {C : Addr} {name : Str} (t : ClsT K mg C name) {H : Hp} {a dx : Addr} {fs : List (Str × V)} (e : H a = some (.ins C dx fs)) : TyX K H (.ref a) (.ref C) := .base (.ins e t.cl t.ha t.hn t.ht t.hm)
theorem kit_self {K : PySem.W.Frag} {C : Addr} : PySem.W.kitOne K (.ref C) (.ref C) = some true := by
  unfold PySem.W.kitOne
  rw [if_pos (by simp)]
theorem isr_own {K : PySem.W.Frag} {mg : Str → Option Value} {C : Addr} {name : Str} (t : ClsT K mg C name) {H : Hp} {a dx : Addr} {fs : List (Str × V)} {k : Bool → Prop} (e : H a = some (.ins C dx fs)) (q : k true) : IsR K H (.ref a) C k := ⟨.inl ⟨_, _, t.ty e, kit_self, q⟩⟩
theorem notFirst_self {K : PySem.W.Frag} {C : Addr} : PySem.W.notFirst K C (.ref C) = true := by
  unfold PySem.W.notFirst
  rw [Bool.or_eq_true]
  exact .inl (by simp)
theorem kit_int_int {K : PySem.W.Frag} : PySem.W.kitOne K (.type "int") (.type "int") = some true := kit_ty (by decide +kernel)
theorem kit_int_bool {K : PySem.W.Frag} : PySem.W.kitOne K (.type "int") (.type "bool") = some false := kit_ty (by decide +kernel)
theorem kit_int_str {K : PySem.W.Frag} : PySem.W.kitOne K (.type "int") (.type "str") = some false := kit_ty (by decide +kernel)
theorem kit_int_list {K : PySem.W.Frag} : PySem.W.kitOne K (.type "int") (.type "list") = some false := kit_ty (by decide +kernel)
theorem kit_int_tuple {K : PySem.W.Frag} : PySem.W.kitOne K (.type "int") (.type "tuple") = some false := kit_ty (by decide +kernel)
theorem kit_bool_int {K : PySem.W.Frag} : PySem.W.kitOne K (.type "bool") (.type "int") = some true := kit_ty (by decide +kernel)
theorem kit_bool_bool {K : PySem.W.Frag} : PySem.W.kitOne K (.type "bool") (.type "bool") = some true := kit_ty (by decide +kernel)
theorem kit_bool_str {K : PySem.W.Frag} : PySem.W.kitOne K (.type "bool") (.type "str") = some false := kit_ty (by decide +kernel)
theorem kit_bool_list {K : PySem.W.Frag} : PySem.W.kitOne K (.type "bool") (.type "list") = some false := kit_ty (by decide +kernel)
theorem kit_bool_tuple {K : PySem.W.Frag} : PySem.W.kitOne K (.type "bool") (.type "tuple") = some false := kit_ty (by decide +kernel)
theorem kit_str_int {K : PySem.W.Frag} : PySem.W.kitOne K (.type "str") (.type "int") = some false := kit_ty (by decide +kernel)
theorem kit_str_bool {K : PySem.W.Frag} : PySem.W.kitOne K (.type "str") (.type "bool") = some false := kit_ty (by decide +kernel)
theorem kit_str_str {K : PySem.W.Frag} : PySem.W.kitOne K (.type "str") (.type "str") = some true := kit_ty (by decide +kernel)
theorem kit_str_list {K : PySem.W.Frag} : PySem.W.kitOne K (.type "str") (.type "list") = some false := kit_ty (by decide +kernel)
theorem kit_str_tuple {K : PySem.W.Frag} : PySem.W.kitOne K (.type "str") (.type "tuple") = some false := kit_ty (by decide +kernel)
theorem kit_list_int {K : PySem.W.Frag} : PySem.W.kitOne K (.type "list") (.type "int") = some false := kit_ty (by decide +kernel)
theorem kit_list_bool {K : PySem.W.Frag} : PySem.W.kitOne K (.type "list") (.type "bool") = some false := kit_ty (by decide +kernel)
theorem kit_list_str {K : PySem.W.Frag} : PySem.W.kitOne K (.type "list") (.type "str") = some false := kit_ty (by decide +kernel)
theorem kit_list_list {K : PySem.W.Frag} : PySem.W.kitOne K (.type "list") (.type "list") = some true := kit_ty (by decide +kernel)
theorem kit_list_tuple {K : PySem.W.Frag} : PySem.W.kitOne K (.type "list") (.type "tuple") = some false := kit_ty (by decide +kernel)
theorem kit_tuple_int {K : PySem.W.Frag} : PySem.W.kitOne K (.type "tuple") (.type "int") = some false := kit_ty (by decide +kernel)
theorem kit_tuple_bool {K : PySem.W.Frag} : PySem.W.kitOne K (.type "tuple") (.type "bool") = some false := kit_ty (by decide +kernel)
theorem kit_tuple_str {K : PySem.W.Frag} : PySem.W.kitOne K (.type "tuple") (.type "str") = some false := kit_ty (by decide +kernel)
theorem kit_tuple_list {K : PySem.W.Frag} : PySem.W.kitOne K (.type "tuple") (.type "list") = some false := kit_ty (by decide +kernel)
theorem kit_tuple_tuple {K : PySem.W.Frag} : PySem.W.kitOne K (.type "tuple") (.type "tuple") = some true := kit_ty (by decide +kernel)
theorem kit_NoneType_int {K : PySem.W.Frag} : PySem.W.kitOne K (.type "NoneType") (.type "int") = some false := kit_ty (by decide +kernel)
theorem kit_NoneType_bool {K : PySem.W.Frag} : PySem.W.kitOne K (.type "NoneType") (.type "bool") = some false := kit_ty (by decide +kernel)
theorem kit_NoneType_str {K : PySem.W.Frag} : PySem.W.kitOne K (.type "NoneType") (.type "str") = some false := kit_ty (by decide +kernel)
theorem kit_NoneType_list {K : PySem.W.Frag} : PySem.W.kitOne K (.type "NoneType") (.type "list") = some false := kit_ty (by decide +kernel)
theorem kit_NoneType_tuple {K : PySem.W.Frag} : PySem.W.kitOne K (.type "NoneType") (.type "tuple") = some false := kit_ty (by decide +kernel)
/-- a value, an integer of ours that is not below l -/
def intFrom (x : V) (l : Int) : Bool := match x with
  | .int i => decide (l ≤ i)
  | _ => false
/-- a list or a tuple that is tracked, or a flat value -/
inductive AnyV (H : Hp) : V → Prop
  | non : AnyV H .non
  | bl (b : Bool) : AnyV H (.bl b)
  | int (i : Int) : AnyV H (.int i)
  | str (z : Str) : AnyV H (.str z)
  | lst {a : Addr} {xs : List V} (e : H a = some (.lst xs)) : AnyV H (.ref a)
  | tup {a : Addr} {xs : List V} (e : H a = some (.tup xs)) : AnyV H (.ref a)
theorem at_two {x y : V} {c : Prop} [Decidable c] {k : V → Prop} (h1 : c → k y) (h0 : ¬ c → k x) : At [x, y] (if c then 1 else 0) k := by
  by_cases h : c
  · rw [if_pos h]; exact ⟨y, rfl, h1 h⟩
  · rw [if_neg h]; exact ⟨x, rfl, h0 h⟩
theorem log_small {i : Int} (h : i.natAbs < 2 ^ 200) : i.natAbs.log2 < 1920 := Nat.lt_of_lt_of_le (PySem.Flt.log2_lt_of (by decide) h) (by decide)
theorem log_of {i : Int} (h0 : 0 ≤ i) (h : i ≤ 10000000) : i.natAbs.log2 < 1920 := log_small (by
  have : (10000001 : Nat) ≤ 2 ^ 200 := by
    refine Nat.le_trans (by decide : (10000001 : Nat) ≤ 2 ^ 24) (Nat.pow_le_pow_right (by decide) (by decide))
  omega)
end CL

set_option Elab.async false
set_option linter.all false
set_option maxRecDepth 100000
set_option maxHeartbeats 2000000
namespace CL
open PySem PySem.Spec PyProof.Rows L2 RZ SkE
/-! repr of data, and the promise of a def that is called where repr's guard is known to be empty -/
structure RepD (K : PySem.W.Frag) (H : Hp) (x : V) (k : Str → Prop) : Prop where
  ex : ∃ d, Dp K H x d ∧ d.showable = true ∧ d.hasDict = false ∧ d.depth ≤ 60 ∧ d.shown.length ≤ sizeLine ∧ k d.shown
def rRepC (K : PySem.W.Frag) : List V → Hp → VK → Prop := fun xs H Q => match xs with
  | [.ref p] => RepD K H (.ref p) fun z => Q (.str z) H
  | [.int i] => Chk (i.natAbs.log2 < 1920) (Q (.str (toString i)) H)
  | _ => False
section
variable {X : Cx}
theorem k_repr (hg : X.A.guards = some []) (hu : X.A.units + 64 < cLine) : CallR X (.builtin "repr") (rRepC X.K) := by
  intro pins s σ H xs us Q I r h
  unfold rRepC at h
  split at h
  · rename_i a
    obtain ⟨⟨d, hd, h1, h2, h3, h4, q⟩⟩ := h
    obtain ⟨u, rfl, ru⟩ := vals1 r
    obtain ⟨as, rd⟩ := Dp.reads I d _ u hd ru
    cases ru
    exact repr_of_reads' rd h1 (fun e => by rw [h2] at e; cases e) hg (by omega) (fun _ _ e => e) (fun h' t tk hk => ⟨.str d.shown, H, I.kept hk, ⟨t, rfl⟩, q⟩) h4
  · rename_i i
    obtain ⟨hz, q⟩ := h
    exact call_repr_int pins s σ H _ us Q I r ⟨i, rfl, hz, q⟩
  · exact h.elim
end
structure FnG (P : Program) (W0 : World) (K : PySem.W.Frag) (mg : Str → Option Value) (base : Heap) (CX : CXT) (k : Nat) (f : Addr) (fd : FuncData) (ps : List Str) (sp : Sp) : Prop where
  len : ∀ vs H Q E, sp vs H Q E → vs.length = ps.length
  run : ∀ (A : Around) (outer : List Env) (s : Shared) (H : Hp) (args : Args) (us : List Value) (vs : List V) (Q : VK) (E : XK), A.guards = some [] → Room k A → Env0 P W0 K mg base A outer s H → BindsTo s fd args (ps.zip us) → Vals vs us → sp vs H Q E →
    codeAny (model P W0) A (.call (.ref f) args) (CR CX outer P W0 H s Q E) s
section
variable {CX : CXT} {P : Program} {W0 : World} {K : PySem.W.Frag} {mg : Str → Option Value} {base : Heap} {k : Nat} {f : Addr} {fd : FuncData} {qual x : Str} {st : Stmt} {N ps : List Str} {sp : Sp}
theorem guards_deeper {A : Around} {env : Env} : (A.deeper env).guards = A.guards := by first | rfl | (cases A; rfl)
/-- the rule for a def of the module, as Fun.ok, with the empty guard -/
theorem fun_okG (F : Fun K x qual st f fd) (S : FnScope N ps (defScope st)) (len : ∀ vs H Q E, sp vs H Q E → vs.length = ps.length)
    (hbody : ∀ (cdv : Value) (A : Around) (outer : List Env) (s : Shared) (H : Hp) (vs : List V) (Q : VK) (E : XK), A.guards = some [] → Room k (A.deeper (envOfC qual (defScope st) s.heap.objs.size f cdv)) → sp vs H Q E →
      ∃ t, PSs (cxOf CX0 P W0 K mg base N qual (defScope st) f cdv A outer s H E).nox (defBody st) t ∧ t { nx := fun _ H' => Q .non H', rt := Q } (L2.start N vs) H) : FnG P W0 K mg base CX0 (k + 1) f fd ps sp := by
  obtain ⟨oc, od, kV, doc, pm, an, cdv, ct, osl, rfl, lk, hcd⟩ := F.ex
  constructor
  · exact len
  · intro A outer s H args us vs Q E hG hr e0 hb r hsp
    obtain ⟨t, ht, hq⟩ := hbody cdv A outer s H vs Q E hG (hr.deeper _) hsp
    have inK : K.In s.heap := e0.mod.kin.keeps fun b o e => (e0.bs b o e).1
    have noL : s.heap.NoLimit := e0.mod.nolimit.keeps fun b o e => (e0.bs b o e).1
    refine codeAny_call_function hr.depth (inK _ _ lk) rfl S.co S.gen rfl (PySem.W.codeRec_of inK hcd) (hb _ _ _ _ ?_)
    refine wpAny_newFunctionEnv_cells S.kind (fun y hy => ?_) fun env he s1 z => ?_
    · obtain ⟨n, v⟩ := y
      exact (S.par n (List.of_mem_zip hy).1).elim .inl fun q => .inr ⟨q, PySem.W.cellsFrom_some _ _ _ (.inl q)⟩
    · subst he
      refine ⟨noL.keeps z.toInCall.keep, codeAny_func ?_⟩
      have I0 : Inv (cxOf CX0 P W0 K mg base N qual (defScope st) f cdv A outer s H E) [] (L2.start N vs) H s1 := inv_start S hr.hd e0 (len _ _ _ _ hsp) r z
      refine wpAny_mono (ht.nox.run [] s1 (L2.start N vs) H _ I0 hq) (fun fl s' hs => ?_) fun e s' hs => hs
      cases fl with
      | ret u => exact let ⟨v, σ', H', J, rv, q⟩ := hs; ⟨v, H', J.os, J.bare, J.base, J.hok, rv, q⟩
      | next => exact let ⟨σ', H', J, q⟩ := hs; ⟨V.non, H', J.os, J.bare, J.base, J.hok, rfl, q⟩
      | brk => exact let ⟨_, _, _, q⟩ := hs; q.elim
      | cont => exact let ⟨_, _, _, q⟩ := hs; q.elim
end
end CL

set_option Elab.async false
set_option linter.all false
set_option maxRecDepth 100000
set_option maxHeartbeats 2000000
namespace CL
open PySem PySem.Spec PyProof.Rows L2 RZ SkE
/-- the law called by the caller, its promise in the form FnG -/
theorem callG {P : Program} {W0 : World} {K : PySem.W.Frag} {mg mb : Str → Option Value} {k : Nat} {fa a : Addr} {fd : FuncData} {x : Str} {sp : Sp} {t : Shared} {us : List Value} {ns : List Int}
    (inK : K.In t.heap) (gN : t.heap.Ns mainGlobals mg) (bN : t.heap.Ns builtinsNs mb) (bB : ∀ x : Str, x ≠ "__name__" → mb x = bootBuiltins x) (noL : t.heap.NoLimit) (noG : t.gens = #[])
    (at_ : t.heap.get? a = some { cls := .type "list", data := .seq us.toArray }) (are : IntsAre us ns) (len : ns.length ≤ sizeLine) (rm : Room k callerA)
    (F : ∀ base : Heap, K.In base → base.Ns mainGlobals mg → FnG P W0 K mg base CX0 k fa fd [x] sp) (bd : ∀ (s : Shared) (u : Value), BindsTo s fd ⟨[u], []⟩ [(x, u)])
    (prom : ∀ H : Hp, SqL K H a (ns.map V.int) → sp [.ref a] H (fun v _ => v = .bl true) fun _ _ _ => False) :
    codeAny (model P W0) callerA (.call (.ref fa) ⟨[.ref a], []⟩) (fun r s' => r = .ok (.ret (.bool true)) ∧ OldK t.heap s'.heap ∧ s'.os = t.os ∧ AllBare s'.gens) t := by
  have vi := vals_ints are
  have same := are.length
  -- H tracks at most the script, as the module's own or frozen
  have go : ∀ H : Hp, (∀ b, H b = none ∨ ∃ ob xs, H b = some (.frz ob (.lst xs))) → SqL K H a (ns.map V.int) → HOk P W0 H t.heap → (∀ b, H b ≠ none → b = a) → (H a ≠ none → K.lookup a = none) →
      codeAny (model P W0) callerA (.call (.ref fa) ⟨[.ref a], []⟩) (fun r s' => r = .ok (.ret (.bool true)) ∧ OldK t.heap s'.heap ∧ s'.os = t.os ∧ AllBare s'.gens) t := by
    intro H frz sq hok only own
    have notDict : ∀ {b : Addr} {o : Obj} {es : Array DictEntry} {ep : Nat}, t.heap.get? b = some o → o.data = .dict es ep → H b = none := by
      intro b o es ep e d
      by_cases q : H b = none
      · exact q
      · have z := only b q
        rw [z, at_] at e
        cases e
        exact absurd (show Data.seq us.toArray _ = Data.dict es ep from d) (by simp)
    have low : ∀ {b : Addr} {m : Str → Option Value}, t.heap.Ns b m → (hidT t.heap H).Ns b m := by
      rintro b m ⟨o, es, ep, e, d, r⟩
      exact ⟨o, es, ep, hidT_get e (notDict e d), d, r⟩
    have lowK : K.In (hidT t.heap H) := by
      intro b o e
      refine hidT_get (inK b o e) ?_
      by_cases q : H b = none
      · exact q
      · have z := only b q
        rw [z] at q e
        rw [own q] at e
        cases e
    obtain ⟨mc, l1, l2⟩ := noL
    have top : Mod K mg (hidT t.heap H) := ⟨lowK, low gN, ⟨mb, low bN, bB⟩, ⟨mc, low l1, l2⟩⟩
    have e0 : Env0 P W0 K mg (hidT t.heap H) callerA [] t H := ⟨rfl, top, fun b o e => of_hidT e, Nat.le_of_eq (hidT_size _ _), trivial, fun b hb => absurd (show b ∈ ([] : List Addr) from hb) List.not_mem_nil, hok, .of_eq noG⟩
    refine codeAny_mono ((F _ lowK (low gN)).run callerA [] t H ⟨[.ref a], []⟩ [.ref a] [.ref a] _ _ rfl rm e0 (bd t (.ref a)) (.cons rfl .nil) (prom H sq)) (fun r s' h => ?_)
    rcases r with e | fl
    · exact absurd h (by intro z; exact z)
    · cases fl with
      | ret u =>
        obtain ⟨v, H', os, bare, un, hok', rv, q⟩ := h
        obtain rfl : v = .bl true := q
        obtain rfl : u = Value.bool true := rv
        refine ⟨rfl, OldK.of_keep (fun b o e => ?_), os, bare⟩
        rcases frz b with z | ⟨ob, xs, z⟩
        · exact un.keep b o e z (fun y => absurd (show b ∈ ([] : List Addr) from y) List.not_mem_nil) (by simp)
        · obtain ⟨e1, _⟩ := hok b _ z
          obtain ⟨e2, _⟩ := hok' b _ (un.frzs b ob _ z)
          exact e2.trans (e1.symm.trans e)
      | next => exact absurd h (by intro z; exact z)
      | brk => exact absurd h (by intro z; exact z)
      | cont => exact absurd h (by intro z; exact z)
  cases own : K.lookup a with
  | some o =>
    obtain rfl : ({ cls := .type "list", data := .seq us.toArray } : Obj) = o := Option.some.inj (at_.symm.trans (inK a o own))
    exact go (fun _ => none) (fun _ => .inl rfl) (.inr ⟨_, us.toArray, _, own, rfl, rfl, rfl, by rw [List.size_toArray, same]; exact len, by simpa using vi⟩) (fun b u z => by cases (show (none : Option HO) = some u from z)) (fun b z => absurd rfl z) (fun z => absurd rfl z)
  | none =>
    have here : ∀ {b : Addr}, b ≠ a → (fun b => if b = a then some (HO.frz { cls := .type "list", data := .seq us.toArray } (.lst (ns.map V.int))) else none) b = none := fun n => if_neg n
    refine go (fun b => if b = a then some (.frz { cls := .type "list", data := .seq us.toArray } (.lst (ns.map V.int))) else none) (fun b => ?_) (.inl (.inr ⟨_, if_pos rfl⟩)) (fun b u z => ?_) (fun b z => ?_) (fun _ => own)
    · by_cases n : b = a
      · exact .inr ⟨_, _, if_pos n⟩
      · exact .inl (if_neg n)
    · by_cases n : b = a
      · have z' := (if_pos n).symm.trans z
        cases z'
        subst n
        exact ⟨at_, by rw [List.length_map]; exact len, us, _, vi, at_⟩
      · cases (if_neg n).symm.trans z
    · by_cases n : b = a
      · exact n
      · exact absurd (if_neg n) z
/-- the end, from a promise in the form FnG -/
theorem walkG {l : PySem.W.OpenLaw} {n k : Nat} {q : Program} {loose : List Str} {XP : (Str → Option Value) → Heap → Prop} {YP : World → Heap → Prop} {d : DefRec} {K : Params → PySem.W.Frag} {sp : World → Sp} {x : Str}
    (hn : l.most = some n) (small : n ≤ sizeLine) (df : d.params.defaults = []) (rm : Room k callerA) (hY : ∀ (w : World) (h : Heap), YP w h → (K w.params).In h)
    (F : ∀ (w : World) (mg : Str → Option Value) (fa : Addr) (h : Heap), (K w.params).In h → h.Ns mainGlobals mg → mg d.name = some (.ref fa) →
      ∃ fd : FuncData, (∀ (s : Shared) (u : Value), BindsTo s fd ⟨[u], []⟩ [(x, u)]) ∧ ∀ base : Heap, (K w.params).In base → base.Ns mainGlobals mg → FnG l.prog w (K w.params) mg base CX0 k fa fd [x] (sp w))
    (prom : ∀ (w : World) (H : Hp) (a : Addr) (ns : List Int), ns.length ≤ n → SqL (K w.params) H a (ns.map V.int) → sp w [.ref a] H (fun v _ => v = .bl true) fun _ _ _ => False) :
    PySem.W.WalkO q loose XP YP l.row.toRowW d [] (fun f vs => PySem.call f vs) := by
  refine Att.attach_call hn df (fun w s₀ s₁ mg mb fa o pm cd doc a vs ns G Y ho hd hcd hmg obj areInts few gens => ?_)
  have inK := hY w _ Y
  obtain ⟨fd, bd, hF⟩ := F w mg fa _ inK G.T.g hmg
  exact callG inK G.T.g G.T.b G.T.builtins G.T.nolimit gens obj areInts (Nat.le_trans few small) rm hF bd (fun H sq => prom w H a ns few sq)
end CL

set_option Elab.async false
set_option linter.all false
set_option maxRecDepth 100000
set_option maxHeartbeats 600000
namespace My
open PySem PySem.Spec PyProof.Rows L2 RZ SkE CL
local macro_rules | `(tactic| walk_at "ne") => `(tactic| first
  | assumption
  | (apply Ne.symm; assumption)
  | walk_at "ne2"
  | (apply Ne.symm; walk_at "ne2")
  | exact ne_fresh (by assumption) (by walk_at "hp")
  | exact Ne.symm (ne_fresh (by assumption) (by walk_at "hp"))
  | (exact ne_of (by assumption) (by assumption) (by intro z; cases z)))
local macro_rules | `(tactic| walk_at "hp") => `(tactic| first
  | assumption
  | ((with_reducible show upd _ _ _ _ = _); first | exact upd_same | exact upd_toS (by walk_at "hp") (by walk_at "ne"))
  | exact Same.up (by assumption) (by walk_at "hp")
  | exact But.upS (by assumption) (by walk_at "hp") (by walk_at "ne"))
local macro_rules | `(tactic| walk_at "sd") => `(tactic| first
  | assumption
  | (exact ⟨by decide, by decide⟩)
  | exact ⟨rfl, rfl⟩
  | (show (_ : Nat) ≤ sizeLine; (simp only [List.length_cons, List.length_nil, List.length_append]); decide)
  | omega
  | (exact Or.inl (Or.inl ⟨by omega, by omega⟩))
  | (exact Or.inl (Or.inr ⟨by omega, by omega⟩))
  | (exact Or.inl ⟨by omega, by omega⟩)
  | (exact ⟨by omega, by omega⟩)
  | (exact ⟨by decide, by decide, by decide⟩)
  | decide
  | walk_at "len")
local macro_rules | `(tactic| walk_at "br") => `(tactic| first
  | refine br_t (by first | rfl | assumption) ?_
  | refine br_f (by first | rfl | assumption) ?_
  | refine br_t (by exact decide_eq_true (by omega)) ?_
  | refine br_f (by exact decide_eq_false (by omega)) ?_)
local macro_rules | `(tactic| walk_at "kit") => `(tactic| first
  | exact kit_int_int
  | exact kit_int_bool
  | exact kit_int_str
  | exact kit_int_list
  | exact kit_int_tuple
  | exact kit_bool_int
  | exact kit_bool_bool
  | exact kit_bool_str
  | exact kit_bool_list
  | exact kit_bool_tuple
  | exact kit_str_int
  | exact kit_str_bool
  | exact kit_str_str
  | exact kit_str_list
  | exact kit_str_tuple
  | exact kit_list_int
  | exact kit_list_bool
  | exact kit_list_str
  | exact kit_list_list
  | exact kit_list_tuple
  | exact kit_tuple_int
  | exact kit_tuple_bool
  | exact kit_tuple_str
  | exact kit_tuple_list
  | exact kit_tuple_tuple
  | exact kit_NoneType_int
  | exact kit_NoneType_bool
  | exact kit_NoneType_str
  | exact kit_NoneType_list
  | exact kit_NoneType_tuple
  | fail)
local macro_rules | `(tactic| walk_at "isi") => `(tactic| first
  | refine IsI.mk ⟨_, _, .base (.int _), (by walk_at "kit"), ?_⟩
  | refine IsI.mk ⟨_, _, .base (.str _), (by walk_at "kit"), ?_⟩
  | refine IsI.mk ⟨_, _, .base .non, (by walk_at "kit"), ?_⟩
  | refine IsI.mk ⟨_, _, .base (.bl _), (by walk_at "kit"), ?_⟩
  | refine IsI.mk ⟨_, _, .base (.lst (by walk_at "hp")), (by walk_at "kit"), ?_⟩
  | refine IsI.mk ⟨_, _, .base (.tup (by walk_at "hp")), (by walk_at "kit"), ?_⟩)
local macro_rules | `(tactic| walk_at "one") => `(tactic| first
  | ((with_reducible show Sq _ _ _ _); first
    | refine Sq.l (by first | assumption | exact SqL.of (by walk_at "hp")) ?_
    | refine Sq.t (by first | assumption | walk_at "seq" | exact SqT.of (by walk_at "hp")) ?_)
  | ((with_reducible show Ls _ _ _); refine Ls.mk' (by walk_at "hp") ?_)
  | ((with_reducible show At _ _ _); refine At.mk ⟨_, rfl, ?_⟩)
  | ((with_reducible show SetL _ _ _ _ _); refine SetL.mk ⟨_, _, by walk_at "hp", rfl, ?_⟩)
  | ((with_reducible show UnT _ _ _ _ _); refine UnT.mk ⟨_, SqT.of (by walk_at "hp"), rfl, ?_⟩)
  | ((with_reducible show SlL _ _ _ _ _ _); refine SlL.mk ⟨_, SqL.of (by walk_at "hp"), ?_⟩)
  | ((with_reducible show Fld _ _ _ _ _); refine Fld.mk ⟨_, _, _, _, by walk_at "hp", by assumption, by assumption, rfl, ?_⟩)
  | ((with_reducible show SetF _ _ _ _ _ _); refine SetF.mk ⟨_, _, _, by walk_at "hp", by assumption, by assumption, by first | decide | exact Nat.le_of_ble_eq_true rfl, ?_⟩)
  | ((with_reducible show New _ _ _); refine new_mk (fun p hp => ?_))
  | ((with_reducible show NewA _ _); refine newa_mk (fun p hp => ?_))
  | ((with_reducible show Chk _ _); refine Chk.mk (by walk_at "sd") ?_)
  | ((with_reducible show IsI _ _ _ _ _); walk_at "isi")
  | ((with_reducible show Br _ _ _); walk_at "br")
  | ((with_reducible show IsR _ _ _ _ _); refine isr_own (by assumption) (by walk_at "hp") ?_)
  | ((with_reducible show Ask _); walk_at "ask")
  | ((with_reducible show And _ _); first | refine And.intro (rfl : wipe _ _ = wipe _ _) ?_ | refine And.intro (Or.inl ⟨rfl, _, SqL.of (by walk_at "hp")⟩) ?_)
  | ((with_reducible show Exists _); refine ⟨_, (by walk_at "hp" : _ = some (HO.lst _)), by walk_at "sd", ?_⟩))
local macro_rules | `(tactic| walk_at "go") => `(tactic| ((repeat ((try (conv => whnf)); walk_at "one")); (try (conv => whnf))))
local macro_rules | `(tactic| walk_at "fr") => `(tactic| first
  | assumption
  | (apply upd_back; assumption)
  | (apply upd_back2; assumption)
  | (refine Same.bk (by assumption) ?_; walk_at "fr")
  | (refine But.back (by assumption) ?_ ?_; walk_at "ne"; walk_at "fr")
  | (refine Same.back1 (by assumption) ?_; walk_at "fr")
  | (refine But.back1 (by assumption) ?_ ?_; walk_at "ne"; walk_at "fr")
  | (refine Same.back2 (by assumption) ?_; walk_at "fr")
  | (refine But.back2 (by assumption) ?_ ?_; walk_at "ne"; walk_at "fr"))
local macro_rules | `(tactic| walk_at "but") => `(tactic| first
  | assumption
  | exact But.rfl'
  | (refine But.box ?_; walk_at "but")
  | (refine But.fresh ?_ ?_; rotate_left; walk_at "fr"; walk_at "but")
  | (refine But.tr ?_ (by assumption); walk_at "but")
  | (refine But.trS ?_ (by assumption); walk_at "but"))
local macro_rules | `(tactic| walk_at "same") => `(tactic| first
  | assumption
  | exact Same.refl _
  | (refine Same.fresh ?_ ?_; rotate_left; walk_at "fr"; walk_at "same")
  | (refine Same.tr ?_ (by assumption); walk_at "same")
  | (refine Same.ofB (by assumption) ?_ ?_; rotate_left; walk_at "fr"; walk_at "same"))

def topS (i : Nat) : Stmt := PySem.Challenge.pw_lapseseats_k02_rules_made.main.body.getD i (.Pass ⟨0, 0, 0, 0⟩)
abbrev s_l_box : Stmt := topS 17
theorem sc_l_box : FnScope ["_law_script", "_law_k", "_law_own", "_law_cell", "_law_seed"] ["_law_script", "_law_k", "_law_own"] (defScope s_l_box) := ⟨rfl, rfl, rfl, by decide +kernel, rfl, by decide +kernel, by decide +kernel⟩
abbrev s_l_take : Stmt := topS 18
theorem sc_l_take : FnScope ["_law_box_here", "_law_bound", "_law_digit", "_law_raw", "_law_wide"] ["_law_box_here", "_law_bound"] (defScope s_l_take) := ⟨rfl, rfl, rfl, by decide +kernel, rfl, by decide +kernel, by decide +kernel⟩
abbrev s_l_rule : Stmt := topS 20
theorem sc_l_rule : FnScope ["_law_box_here", "_law_found"] ["_law_box_here"] (defScope s_l_rule) := ⟨rfl, rfl, rfl, by decide +kernel, rfl, by decide +kernel, by decide +kernel⟩
abbrev s_is_integer_from : Stmt := topS 2
theorem sc_is_integer_from : FnScope ["value", "least"] ["value", "least"] (defScope s_is_integer_from) := ⟨rfl, rfl, rfl, by decide +kernel, rfl, by decide +kernel, by decide +kernel⟩
abbrev s_is_number_for : Stmt := topS 12
theorem sc_is_number_for : FnScope ["word", "number", "least"] ["word", "number"] (defScope s_is_number_for) := ⟨rfl, rfl, rfl, by decide +kernel, rfl, by decide +kernel, by decide +kernel⟩
abbrev s_Rule_init : Stmt := inClass (topS 15) 0
theorem sc_Rule_init : FnScope ["self", "seats", "lapse", "beat", "grace", "late", "word", "number"] ["self", "seats", "lapse", "beat", "grace", "late"] (defScope s_Rule_init) := ⟨rfl, rfl, rfl, by decide +kernel, rfl, by decide +kernel, by decide +kernel⟩
abbrev s_Rule_eq : Stmt := inClass (topS 15) 3
theorem sc_Rule_eq : FnScope ["self", "other"] ["self", "other"] (defScope s_Rule_eq) := ⟨rfl, rfl, rfl, by decide +kernel, rfl, by decide +kernel, by decide +kernel⟩
abbrev s_Rule_str : Stmt := inClass (topS 15) 4
theorem sc_Rule_str : FnScope ["self"] ["self"] (defScope s_Rule_str) := ⟨rfl, rfl, rfl, by decide +kernel, rfl, by decide +kernel, by decide +kernel⟩
/-! what stands at the top -/
structure Tx (K : PySem.W.Frag) (mg : Str → Option Value) where
  len : mg "len" = none
  int : mg "int" = none
  abs : mg "abs" = none
  f_box : Addr
  d_box : FuncData
  F_box : Fun K "_law_box" "_law_box" s_l_box f_box d_box
  g_box : mg "_law_box" = some (.ref f_box)
  b_box : Binds K d_box ["_law_script", "_law_k", "_law_own"] []
  f_take : Addr
  d_take : FuncData
  F_take : Fun K "_law_take" "_law_take" s_l_take f_take d_take
  g_take : mg "_law_take" = some (.ref f_take)
  b_take : Binds K d_take ["_law_box_here", "_law_bound"] []
  f_rule : Addr
  d_rule : FuncData
  F_rule : Fun K "_law_rule" "_law_rule" s_l_rule f_rule d_rule
  g_rule : mg "_law_rule" = some (.ref f_rule)
  b_rule : Binds K d_rule ["_law_box_here"] []
  f_intfrom : Addr
  d_intfrom : FuncData
  F_intfrom : Fun K "is_integer_from" "is_integer_from" s_is_integer_from f_intfrom d_intfrom
  g_intfrom : mg "is_integer_from" = some (.ref f_intfrom)
  b_intfrom : Binds K d_intfrom ["value", "least"] []
  f_numfor : Addr
  d_numfor : FuncData
  F_numfor : Fun K "is_number_for" "is_number_for" s_is_number_for f_numfor d_numfor
  g_numfor : mg "is_number_for" = some (.ref f_numfor)
  b_numfor : Binds K d_numfor ["word", "number"] []
  isinstance : mg "isinstance" = none
  bool : mg "bool" = none
  zip : mg "zip" = none
  C : Addr
  c_Rule : ClsT K mg C "Rule"
  n0 : NoAttr K C "seats"
  n1 : NoAttr K C "lapse"
  n2 : NoAttr K C "beat"
  n3 : NoAttr K C "grace"
  n4 : NoAttr K C "late"
  aW : Addr
  g_WORDS : mg "WORDS" = some (.ref aW)
  sW : ∀ H : Hp, SqT K H aW [.str "seats", .str "lapse", .str "beat", .str "grace", .str "late"]
  f_init : Addr
  d_init : FuncData
  F_init : FunD K "__init__" "Rule.__init__" (defArgs s_Rule_init) (defBody s_Rule_init) (defScope s_Rule_init) [.int 0] [] f_init d_init
  mkR : Mk K C f_init
  b_init6 : Binds K d_init ["self", "seats", "lapse", "beat", "grace", "late"] []
  b_init5 : ∃ ds, Vals [.int 0] ds ∧ Binds K d_init ["self", "seats", "lapse", "beat", "grace", "late"] ds
  f_eq : Addr
  d_eq : FuncData
  F_eq : Fun K "__eq__" "Rule.__eq__" s_Rule_eq f_eq d_eq
  b_eq : Binds K d_eq ["self", "other"] []
  i_eq : PySem.W.findIn K (.ref C) "__eq__" = some (some (.ref f_eq))
  j_eq : PySem.W.isFn K (.ref f_eq) = true
  i_ne : PySem.W.findIn K (.ref C) "__ne__" = some (some (.builtin "object.__ne__"))
  f_str : Addr
  d_str : FuncData
  F_str : Fun K "__str__" "Rule.__str__" s_Rule_str f_str d_str
  b_str : Binds K d_str ["self"] []
  i_str : PySem.W.findIn K (.ref C) "__str__" = some (some (.ref f_str))
  j_str : PySem.W.isFn K (.ref f_str) = true
/-! promises -/
def BoxAt (H : Hp) (b : Addr) : Prop := ∃ x s c : Int, H b = some (.lst [.int x, .int s, .int c])
theorem BoxAt.up {H : Hp} {a b : Addr} {o : HO} (n : b ≠ a) (h : BoxAt H b) : BoxAt (upd H a o) b := let ⟨x, s, c, e⟩ := h; ⟨x, s, c, upd_to n e⟩
theorem BoxAt.same {H H' : Hp} {b : Addr} (e : Same H H') (h : BoxAt H b) : BoxAt H' b := let ⟨x, s, c, q⟩ := h; ⟨x, s, c, e _ _ q⟩
theorem BoxAt.new {H : Hp} {a b : Addr} {o : HO} (n : Fre H a) (h : BoxAt H b) : BoxAt (upd H a o) b := let ⟨x, s, c, e⟩ := h; ⟨x, s, c, upd_to (ne_of_none e n.n) e⟩
theorem BoxAt.ne {H : Hp} {a b : Addr} (n : Fre H a) (h : BoxAt H b) : a ≠ b := let ⟨_, _, _, e⟩ := h; (ne_of_none e n.n).symm
def spTake : Sp := fun vs H Q _ => ∃ (b : Addr) (n : Int), vs = [.ref b, .int n] ∧ BoxAt H b ∧ 0 < n ∧ n < 1000000 ∧ ∀ d H', 0 ≤ d → d < n → But b H H' → BoxAt H' b → Q (.int d) H'
theorem ask_take {b : Addr} {n : Int} {H : Hp} {Q : VK} {E : XK} (hb : BoxAt H b) (h0 : 0 < n) (h1 : n < 1000000) (k : ∀ d H', 0 ≤ d → d < n → But b H H' → BoxAt H' b → Q (.int d) H') : Ask (spTake ([.ref b, .int n] ++ []) H Q E) := ⟨b, n, rfl, hb, h0, h1, k⟩
def spBox (K : PySem.W.Frag) : Sp := fun vs H Q _ => ∃ (a : Addr) (k o : Int) (ns : List Int), vs = [.ref a, .int k, .int o] ∧ SqL K H a (ns.map V.int) ∧ ns.length ≤ 63 ∧ 0 ≤ k ∧ ∀ p H', Same H H' → Fre H p → BoxAt H' p → Q (.ref p) H'
/-- five numbers of a rule -/
def Good (ns : List Int) : Prop := ∃ s l b g t : Int, ns = [s, l, b, g, t] ∧ (1 ≤ s ∧ 1 ≤ l ∧ 1 ≤ b ∧ 1 ≤ g ∧ 0 ≤ t) ∧ s ≤ 10000000 ∧ l ≤ 10000000 ∧ b ≤ 10000000 ∧ g ≤ 10000000 ∧ t ≤ 10000000
def spIntFrom : Sp := fun vs H Q _ => ∃ (x : V) (l : Int), vs = [x, .int l] ∧ AnyV H x ∧ Q (.bl (intFrom x l)) H
def leastOf (w : Str) : Int := if w = "late" then 0 else 1
theorem lo_0 : leastOf "seats" = 1 := by decide +kernel
theorem lo_1 : leastOf "lapse" = 1 := by decide +kernel
theorem lo_2 : leastOf "beat" = 1 := by decide +kernel
theorem lo_3 : leastOf "grace" = 1 := by decide +kernel
theorem lo_4 : leastOf "late" = 0 := by decide +kernel
theorem not_from {i : Int} {z : Str} (h : leastOf z ≤ i) : (!intFrom (.int i) (leastOf z)) = false := by
  show (!decide (leastOf z ≤ i)) = false
  rw [decide_eq_true h]
  rfl
def spNumFor : Sp := fun vs H Q _ => ∃ (w : Str) (x : V), vs = [.str w, x] ∧ AnyV H x ∧ Q (.bl (intFrom x (leastOf w))) H
theorem ask_intfrom {x : V} {l : Int} {H : Hp} {Q : VK} {E : XK} (h : AnyV H x) (q : Q (.bl (intFrom x l)) H) : Ask (spIntFrom ([x, .int l] ++ []) H Q E) := ⟨x, l, rfl, h, q⟩
theorem ask_numfor {x : V} {w : Str} {H : Hp} {Q : VK} {E : XK} (h : AnyV H x) (q : Q (.bl (intFrom x (leastOf w))) H) : Ask (spNumFor ([.str w, x] ++ []) H Q E) := ⟨w, x, rfl, h, q⟩
/-- the fields of a rule -/
def rf (ns : List Int) : List (Str × V) := (["seats", "lapse", "beat", "grace", "late"] : List Str).zip (ns.map V.int)
def RuleAt (C : Addr) (H : Hp) (p : Addr) (ns : List Int) : Prop := ∃ dx, H p = some (.ins C dx (rf ns))
def spInit (C : Addr) : Sp := fun vs H Q _ => ∃ (p dx : Addr) (ns : List Int), vs = .ref p :: ns.map V.int ∧ Good ns ∧ H p = some (.ins C dx []) ∧ ∀ H', But p H H' → H' p = some (.ins C dx (rf ns)) → Q .non H'
def spEq (C : Addr) : Sp := fun vs H Q _ => ∃ (p q : Addr) (ns ms : List Int), vs = [.ref p, .ref q] ∧ Good ns ∧ Good ms ∧ RuleAt C H p ns ∧ RuleAt C H q ms ∧ Q (.bl (decide (ns = ms))) H
/-- the text of a rule -/
def ruleText (ns : List Int) : Str := Txt.join " " (((["seats", "lapse", "beat", "grace", "late"] : List Str).zip ns).map fun p => p.1 ++ " " ++ (Str.ofString (toString p.2)))
def spStr (C : Addr) : Sp := fun vs H Q _ => ∃ (p : Addr) (ns : List Int), vs = [.ref p] ∧ Good ns ∧ RuleAt C H p ns ∧ Q (.str (ruleText ns)) H
def spRule : Sp := fun vs H Q _ => ∃ (b : Addr), vs = [.ref b] ∧ BoxAt H b ∧ ∀ p H' ns, Good ns → But b H H' → BoxAt H' b → Fre H p → p ≠ b → H' p = some (.lst (ns.map V.int)) → Q (.ref p) H'
theorem cell_at {ns : List Int} {j : Nat} (h : j < ns.length) : (ns.map V.int)[j]? = some (V.int (ns.getD j 0)) := by
  rw [List.getElem?_map, List.getD_eq_getElem?_getD, List.getElem?_eq_getElem h]
  rfl
section
local macro_rules | `(tactic| walk_at "ne2") => `(tactic| exact BoxAt.ne (by assumption) (by assumption))
local macro_rules | `(tactic| walk_at "box") => `(tactic| first | assumption | (refine BoxAt.new (by assumption) ?_; walk_at "box") | (refine BoxAt.same (by assumption) ?_; walk_at "box"))
local macro_rules | `(tactic| walk_at "ask") => `(tactic| refine ask_take (by walk_at "box") (by decide) (by decide) (fun d H' h0 h1 hk hb => ?_))
variable (P : Program) (W0 : World) {K : PySem.W.Frag} {mg : Str → Option Value} (base : Heap)
theorem G_take (T : Tx K mg) : FnOk P W0 K mg base CX0 1 T.f_take T.d_take ["_law_box_here", "_law_bound"] spTake := by
  refine T.F_take.ok sc_l_take (fun vs H Q E h => ?_) (fun cdv A outer s H vs Q E hr h => ?_)
  · obtain ⟨b, n, rfl, _⟩ := h
    rfl
  · obtain ⟨b, n, rfl, ⟨x, s, c, hb⟩, h0, h1, k⟩ := h
    have fin : ∀ (d x' s' c' : Int), 0 ≤ d → d < n → Q (V.int d) (upd H b (.lst [.int x', .int s', .int c'])) := fun d x' s' c' z1 z2 => k d _ z1 z2 (fun a o na e => upd_to na e) ⟨_, _, _, upd_same⟩
    refine ⟨_, (pss_cons (s_if (t_cmp c_gt (pe_ix (c_ixK (K := K) rfl) (c_var 0) pe_int (fun _ _ => rfl)) pe_int (nomark _)) (pss_cons (ps_set (i := 2) sc_l_take.nd rfl (Or.inl rfl) (pe_op c_mod (pe_callTy k_int (by rfl) T.int (by decide +kernel) (pa_cons (pe_ix (c_ixK (K := K) rfl) (c_var 0) pe_int (fun _ _ => rfl)) pa_nil)) (c_var 1)))
    (pss_cons (ps_asg (pe_op c_div (pe_ix (c_ixK (K := K) rfl) (c_var 0) pe_int (fun _ _ => rfl)) (c_var 1)) (pg_sub (c_var 0) pe_int p_set))
    (pss_one (ps_ret (c_var 2))))) pss_nil)
    (pss_cons (ps_asg (pe_op c_add (pe_ix (c_ixK (K := K) rfl) (c_var 0) pe_int (fun _ _ => rfl)) pe_int) (pg_sub (c_var 0) pe_int p_set))
    (pss_cons (ps_set (i := 3) sc_l_take.nd rfl (Or.inl rfl) (pe_op c_mod (pe_callTy k_int (by rfl) T.int (by decide +kernel) (pa_cons (pe_op c_mul (pe_op c_add (pe_ix (c_ixK (K := K) rfl) (c_var 0) pe_int (fun _ _ => rfl)) (pe_op c_mul pe_int (pe_ix (c_ixK (K := K) rfl) (c_var 0) pe_int (fun _ _ => rfl)))) pe_int) pa_nil)) pe_int))
    (pss_cons (ps_asg (pe_op c_add (pe_op c_mod (pe_callTy k_int (by rfl) T.int (by decide +kernel) (pa_cons (pe_op c_add (pe_op c_mul (c_var 3) pe_int) pe_int) pa_nil)) pe_int) pe_int) (pg_sub (c_var 0) pe_int p_set))
    (pss_cons (s_if (t_cmp c_lt (c_var 1) (pe_op c_pow pe_int pe_int) (nomark _)) (pss_one (ps_ret (pe_op c_mod (pe_callTy k_int (by rfl) T.int (by decide +kernel) (pa_cons (pe_op c_div (pe_op c_add (pe_op c_mul (c_var 3) pe_int) (pe_ix (c_ixK (K := K) rfl) (c_var 0) pe_int (fun _ _ => rfl))) pe_int) pa_nil)) (c_var 1)))) pss_nil)
    (pss_cons (ps_set (i := 4) sc_l_take.nd rfl (Or.inl rfl) (pe_op c_mul (pe_op c_add (pe_op c_mul (c_var 3) pe_int) (pe_ix (c_ixK (K := K) rfl) (c_var 0) pe_int (fun _ _ => rfl))) (pe_op c_pow pe_int pe_int)))
    (pss_one (ps_ret (pe_op c_mod (pe_callTy k_int (by rfl) T.int (by decide +kernel) (pa_cons (pe_op c_add (pe_op c_add (c_var 4) (pe_op c_mul (pe_op c_pow (pe_ix (c_ixK (K := K) rfl) (c_var 0) pe_int (fun _ _ => rfl)) pe_int) pe_int)) (c_var 3)) pa_nil)) (c_var 1)))))))))), ?_⟩
    walk_at "go"
    refine Br.mk (fun hx => ?_) (fun hx => ?_)
    · walk_at "go"
      exact fin _ _ _ _ (Int.emod_nonneg _ (by omega)) (Int.emod_lt_of_pos _ h0)
    · walk_at "go"
      refine br_t (decide_eq_true (show n < 1099511627776 by omega)) ?_
      walk_at "go"
      simp only [upd_upd]
      exact fin _ _ _ _ (Int.emod_nonneg _ (by omega)) (Int.emod_lt_of_pos _ h0)
theorem G_box (T : Tx K mg) : FnOk P W0 K mg base CX0 1 T.f_box T.d_box ["_law_script", "_law_k", "_law_own"] (spBox K) := by
  refine T.F_box.ok sc_l_box (fun vs H Q E h => ?_) (fun cdv A outer s H vs Q E hr h => ?_)
  · obtain ⟨a, k, o, ns, rfl, _⟩ := h
    rfl
  · obtain ⟨a, k, o, ns, rfl, hS, hl, hk, q⟩ := h
    refine ⟨_, (pss_cons (ps_set (i := 3) sc_l_box.nd rfl (Or.inl rfl) (pe_op c_add (pe_op c_add (pe_op c_mul pe_int (c_var 1)) (pe_op c_mul pe_int (c_var 2))) pe_int))
    (pss_cons (s_if (t_cmp c_lt (c_var 1) (pe_callB k_len (by rfl) T.len PySem.boot_len (pa_cons (c_var 0) pa_nil)) (nomark _)) (pss_one (ps_set (i := 3) sc_l_box.nd rfl (Or.inl rfl) (pe_callB k_abs (by rfl) T.abs (by decide +kernel) (pa_cons (pe_ix (c_ixK (K := K) rfl) (c_var 0) (c_var 1) (fun _ _ => rfl)) pa_nil)))) (pss_one (s_if (t_cmp c_gt (pe_callB k_len (by rfl) T.len PySem.boot_len (pa_cons (c_var 0) pa_nil)) pe_int (nomark _)) (pss_one (ps_set (i := 3) sc_l_box.nd rfl (Or.inl rfl) (pe_op c_add (c_var 3) (pe_op c_mul (pe_op c_mod (pe_callTy k_int (by rfl) T.int (by decide +kernel) (pa_cons (pe_callB k_abs (by rfl) T.abs (by decide +kernel) (pa_cons (pe_ix (c_ixK (K := K) rfl) (c_var 0) (pe_op c_mod (pe_callTy k_int (by rfl) T.int (by decide +kernel) (pa_cons (c_var 1) pa_nil)) (pe_callB k_len (by rfl) T.len PySem.boot_len (pa_cons (c_var 0) pa_nil))) (fun _ _ => rfl)) pa_nil)) pa_nil)) pe_int) pe_int)))) pss_nil)))
    (pss_cons (ps_set (i := 4) sc_l_box.nd rfl (Or.inl rfl) (pe_op c_add (pe_op c_mod (pe_callTy k_int (by rfl) T.int (by decide +kernel) (pa_cons (pe_op c_add (pe_op c_mul (pe_op c_mod (pe_callTy k_int (by rfl) T.int (by decide +kernel) (pa_cons (c_var 3) pa_nil)) pe_int) pe_int) (pe_op c_mul pe_int (pe_op c_add (c_var 1) (pe_op c_mul pe_int (c_var 2))))) pa_nil)) pe_int) pe_int))
    (pss_one (ps_ret (e_lst (pa_cons (pe_ix (c_ixK (K := K) rfl) (e_lst (pa_cons pe_int (pa_cons (c_var 3) pa_nil))) (pe_callTy k_int (by rfl) T.int (by decide +kernel) (pa_cons (pe_cmpR c_ge (c_var 3) (pe_op c_pow pe_int pe_int) (nomark _)) pa_nil)) (fun _ _ => rfl)) (pa_cons (c_var 4) (pa_cons pe_int pa_nil))))))))), ?_⟩
    walk_at "go"
    refine Br.mk (fun hx => ?_) (fun hx => ?_)
    · have hx' : k < ((ns.map V.int).length : Int) := of_decide_eq_true hx
      rw [List.length_map] at hx'
      walk_at "go"
      refine At.nat k.toNat (by omega) (cell_at (by omega)) ?_
      walk_at "go"
      refine at_two (fun _ => ?_) (fun _ => ?_)
      · walk_at "go"
        exact q _ _ (by walk_at "same") (by walk_at "fr") ⟨_, _, _, upd_same⟩
      · walk_at "go"
        exact q _ _ (by walk_at "same") (by walk_at "fr") ⟨_, _, _, upd_same⟩
    · walk_at "go"
      refine Br.mk (fun hy => ?_) (fun hy => ?_)
      · have hy' : (0 : Int) < ((ns.map V.int).length : Int) := of_decide_eq_true hy
        have hy2 := hy'
        rw [List.length_map] at hy'
        have m0 := Int.emod_nonneg k (b := (ns.length : Int)) (by omega)
        have m1 := Int.emod_lt_of_pos k hy'
        walk_at "go"
        refine At.nat (k % (ns.length : Int)).toNat (by rw [List.length_map]; omega) (cell_at (by omega)) ?_
        walk_at "go"
        refine at_two (fun _ => ?_) (fun _ => ?_)
        · walk_at "go"
          exact q _ _ (by walk_at "same") (by walk_at "fr") ⟨_, _, _, upd_same⟩
        · walk_at "go"
          exact q _ _ (by walk_at "same") (by walk_at "fr") ⟨_, _, _, upd_same⟩
      · walk_at "go"
        refine at_two (fun _ => ?_) (fun _ => ?_)
        · walk_at "go"
          exact q _ _ (by walk_at "same") (by walk_at "fr") ⟨_, _, _, upd_same⟩
        · walk_at "go"
          exact q _ _ (by walk_at "same") (by walk_at "fr") ⟨_, _, _, upd_same⟩
theorem G_rule (T : Tx K mg) : FnOk P W0 K mg base CX0 2 T.f_rule T.d_rule ["_law_box_here"] spRule := by
  refine T.F_rule.ok sc_l_rule (fun vs H Q E h => ?_) (fun cdv A outer s H vs Q E hr h => ?_)
  · obtain ⟨b, rfl, _⟩ := h
    rfl
  · obtain ⟨b, rfl, hb, k⟩ := h
    refine ⟨_, (pss_cons (ps_set (i := 1) sc_l_rule.nd rfl (Or.inl rfl) (e_lst (pa_cons (pe_op c_add pe_int (e_call (G_take P W0 base T) (hr.mono (by decide)) (by rfl) T.g_take T.F_take.kp T.b_take .nil pass0 (pa_cons (c_var 0) (pa_cons pe_int pa_nil)))) (pa_cons (pe_op c_add pe_int (e_call (G_take P W0 base T) (hr.mono (by decide)) (by rfl) T.g_take T.F_take.kp T.b_take .nil pass0 (pa_cons (c_var 0) (pa_cons pe_int pa_nil)))) (pa_cons (pe_op c_add pe_int (e_call (G_take P W0 base T) (hr.mono (by decide)) (by rfl) T.g_take T.F_take.kp T.b_take .nil pass0 (pa_cons (c_var 0) (pa_cons pe_int pa_nil)))) (pa_cons (pe_op c_add pe_int (e_call (G_take P W0 base T) (hr.mono (by decide)) (by rfl) T.g_take T.F_take.kp T.b_take .nil pass0 (pa_cons (c_var 0) (pa_cons pe_int pa_nil)))) pa_nil))))))
    (pss_one (ps_ret (pe_op c_add (c_var 1) (e_lst (pa_cons (e_call (G_take P W0 base T) (hr.mono (by decide)) (by rfl) T.g_take T.F_take.kp T.b_take .nil pass0 (pa_cons (c_var 0) (pa_cons pe_int pa_nil))) pa_nil)))))), ?_⟩
    walk_at "go"
    rename_i d0 H0 x1 x2 k0 bx0 d1 H1 x3 x4 k1 bx1 d2 H2 x5 x6 k2 bx2 d3 H3 x7 x8 k3 bx3 p1 hp1 d4 H4 x9 x10 k4 bx4 p2 hp2 p3 hp3
    have n1 : p1 ≠ b := BoxAt.ne hp1 bx3
    have n2 : p2 ≠ b := BoxAt.ne hp2 bx4
    have n3 : p3 ≠ b := BoxAt.ne hp3 (BoxAt.up n2.symm bx4)
    exact k _ _ [1 + d0, 1 + d1, 1 + d2, 1 + d3, d4] ⟨_, _, _, _, _, rfl, ⟨by omega, by omega, by omega, by omega, by omega⟩, by omega, by omega, by omega, by omega, by omega⟩ (by walk_at "but") (by walk_at "box") (by walk_at "fr") n3 upd_same
theorem G_intfrom (T : Tx K mg) : FnOk P W0 K mg base CX0 1 T.f_intfrom T.d_intfrom ["value", "least"] spIntFrom := by
  refine T.F_intfrom.ok sc_is_integer_from (fun vs H Q E h => ?_) (fun cdv A outer s H vs Q E hr h => ?_)
  · obtain ⟨x, l, rfl, _⟩ := h
    rfl
  · obtain ⟨x, l, rfl, hx, q⟩ := h
    refine ⟨_, (pss_one (ps_ret (e_and (pe_callB k_isi (by rfl) T.isinstance (by decide +kernel) (pa_cons (c_var 0) (pa_cons (pe_bltn (v := .ty "int") (by rfl) T.int (by decide +kernel) rfl) pa_nil))) (e_and (e_not (pe_callB k_isi (by rfl) T.isinstance (by decide +kernel) (pa_cons (c_var 0) (pa_cons (pe_bltn (v := .ty "bool") (by rfl) T.bool (by decide +kernel) rfl) pa_nil)))) (pe_one (pe_cmpR c_ge (c_var 0) (c_var 1) (nomark _))))))), ?_⟩
    cases hx with
    | non => walk_at "go"; exact q
    | bl b => walk_at "go"; exact q
    | int i => walk_at "go"; exact q
    | str z => walk_at "go"; exact q
    | lst e =>
      (conv => whnf)
      refine IsI.mk ⟨_, _, .base (.lst e), (by walk_at "kit"), ?_⟩
      walk_at "go"
      exact q
    | tup e =>
      (conv => whnf)
      refine IsI.mk ⟨_, _, .base (.tup e), (by walk_at "kit"), ?_⟩
      walk_at "go"
      exact q
theorem G_numfor (T : Tx K mg) : FnOk P W0 K mg base CX0 2 T.f_numfor T.d_numfor ["word", "number"] spNumFor := by
  refine T.F_numfor.ok sc_is_number_for (fun vs H Q E h => ?_) (fun cdv A outer s H vs Q E hr h => ?_)
  · obtain ⟨w, x, rfl, _⟩ := h
    rfl
  · obtain ⟨w, x, rfl, hx, q⟩ := h
    have hu64 := Room.units hr
    refine ⟨_, (pss_cons (ps_set (i := 2) sc_is_number_for.nd rfl (Or.inl rfl) (e_if (t_cmp (c_eq hu64) (c_var 0) pe_str (nomark _)) pe_int pe_int))
    (pss_one (ps_ret (e_call (G_intfrom P W0 base T) (hr.mono (by decide)) (by rfl) T.g_intfrom T.F_intfrom.kp T.b_intfrom .nil pass0 (pa_cons (c_var 1) (pa_cons (c_var 2) pa_nil)))))), ?_⟩
    walk_at "go"
    refine Br.mk (fun hw => ?_) (fun hw => ?_)
    · have e : leastOf w = 0 := if_pos (V.str.inj (of_decide_eq_true hw))
      rw [e] at q
      walk_at "go"
      exact ask_intfrom hx q
    · have e : leastOf w = 1 := if_neg fun z => of_decide_eq_false hw (congrArg V.str z)
      rw [e] at q
      walk_at "go"
      exact ask_intfrom hx q
theorem G_init (T : Tx K mg) : FnOk P W0 K mg base CX0 3 T.f_init T.d_init ["self", "seats", "lapse", "beat", "grace", "late"] (spInit T.C) := by
  refine T.F_init.ok sc_Rule_init (fun vs H Q E h => ?_) (fun cdv A outer s H vs Q E hr h => ?_)
  · obtain ⟨p, dx, ns, rfl, ⟨s, l, b, g, t, rfl, _⟩, _⟩ := h
    rfl
  · obtain ⟨p, dx, ns, rfl, ⟨s, l, b, g, t, rfl, ⟨g0, g1, g2, g3, g4⟩, _⟩, hp, q⟩ := h
    have n0 := T.n0
    have n1 := T.n1
    have n2 := T.n2
    have n3 := T.n3
    have n4 := T.n4
    have cl := T.c_Rule.cl
    refine ⟨_, PSs.nox (pss_cons (s_for PassesOwn.never (by rfl) (i_zip (by rfl) T.zip (pa_cons (pe_glob (v := .ref _) (by rfl) T.g_WORDS rfl) (pa_cons (e_tup (pa_cons (c_var 1) (pa_cons (c_var 2) (pa_cons (c_var 3) (pa_cons (c_var 4) (pa_cons (c_var 5) pa_nil)))))) pa_nil))) (g_tup (by rfl) (g_cons (pg_name (i := 6) sc_Rule_init.nd rfl (Or.inl rfl)) (g_cons (pg_name (i := 7) sc_Rule_init.nd rfl (Or.inl rfl)) g_nil))) (pss_one (s_if (t_not (t_truth (e_call (G_numfor P W0 base T) (hr.mono (by decide)) (by rfl) T.g_numfor T.F_numfor.kp T.b_numfor .nil pass0 (pa_cons (c_var 6) (pa_cons (c_var 7) pa_nil))) (fun _ => rfl))) (pss_one ps_never) pss_nil)))
    (pss_cons (s_fld (c_var 0) (c_var 1))
    (pss_cons (s_fld (c_var 0) (c_var 2))
    (pss_cons (s_fld (c_var 0) (c_var 3))
    (pss_cons (s_fld (c_var 0) (c_var 4))
    (pss_one (s_fld (c_var 0) (c_var 5)))))))), ?_⟩
    walk_at "go"
    rename_i tp htp
    refine ItZ.mk ⟨_, _, .inr ⟨T.sW _, SqT.of upd_same, ?_⟩⟩
    (conv => whnf)
    have np : p ≠ tp := ne_fresh htp hp
    refine fw_zipT (xs := [.str "seats", .str "lapse", .str "beat", .str "grace", .str "late"]) (ys := [.int s, .int l, .int b, .int g, .int t]) rfl (fun i σ H' => ∃ v u, σ = [some (.ref p), some (.int s), some (.int l), some (.int b), some (.int g), some (.int t), v, u] ∧ Same (upd H tp (.tup [.int s, .int l, .int b, .int g, .int t])) H') ⟨_, _, rfl, Same.refl _⟩ (fun i σ H' ⟨_, _, _, e⟩ => ⟨T.sW _, Same.seqT e (SqT.of upd_same)⟩) ?_ ?_
    · rintro i x y tq σ H' hx hy ⟨v, u, rfl, e⟩ htq
      have hi : i < 5 := (List.getElem?_eq_some_iff.mp hx).1
      have htq' : Fre H' tq := ⟨htq⟩
      obtain rfl | rfl | rfl | rfl | rfl : i = 0 ∨ i = 1 ∨ i = 2 ∨ i = 3 ∨ i = 4 := by omega
      all_goals (cases hx; cases hy; walk_at "go"; refine ask_numfor (.int _) ?_; walk_at "go"; refine br_f (not_from (by simp only [lo_0, lo_1, lo_2, lo_3, lo_4]; assumption)) ?_; walk_at "go"; exact ⟨_, _, rfl, Same.fresh e ⟨(Same.bk e htq').n⟩⟩)
    · rintro σ H' ⟨v, u, rfl, e⟩
      have hp' : H' p = some (.ins T.C dx []) := e _ _ (upd_to np hp)
      walk_at "go"
      simp only [upd_upd]
      refine q _ (fun a o na ho => ?_) upd_same
      rw [upd_ne na]
      exact e _ _ (upd_to (ne_of_none ho htp.n) ho)
end
end My

set_option Elab.async false
set_option linter.all false
set_option maxRecDepth 100000
set_option maxHeartbeats 600000
namespace My
open PySem PySem.Spec PyProof.Rows L2 RZ SkE CL
local macro_rules | `(tactic| walk_at "ne") => `(tactic| first
  | assumption
  | (apply Ne.symm; assumption)
  | walk_at "ne2"
  | (apply Ne.symm; walk_at "ne2")
  | exact ne_fresh (by assumption) (by walk_at "hp")
  | exact Ne.symm (ne_fresh (by assumption) (by walk_at "hp"))
  | (exact ne_of (by assumption) (by assumption) (by intro z; cases z)))
local macro_rules | `(tactic| walk_at "hp") => `(tactic| first
  | assumption
  | ((with_reducible show upd _ _ _ _ = _); first | exact upd_same | exact upd_toS (by walk_at "hp") (by walk_at "ne"))
  | exact Same.up (by assumption) (by walk_at "hp")
  | exact But.upS (by assumption) (by walk_at "hp") (by walk_at "ne"))
local macro_rules | `(tactic| walk_at "sd") => `(tactic| first
  | assumption
  | (exact ⟨by decide, by decide⟩)
  | exact ⟨rfl, rfl⟩
  | (show (_ : Nat) ≤ sizeLine; (simp only [List.length_cons, List.length_nil, List.length_append]); decide)
  | omega
  | (exact Or.inl (Or.inl ⟨by omega, by omega⟩))
  | (exact Or.inl (Or.inr ⟨by omega, by omega⟩))
  | (exact Or.inl ⟨by omega, by omega⟩)
  | (exact ⟨by omega, by omega⟩)
  | (exact ⟨by decide, by decide, by decide⟩)
  | decide
  | walk_at "len")
local macro_rules | `(tactic| walk_at "br") => `(tactic| first
  | refine br_t (by first | rfl | assumption) ?_
  | refine br_f (by first | rfl | assumption) ?_
  | refine br_t (by exact decide_eq_true (by omega)) ?_
  | refine br_f (by exact decide_eq_false (by omega)) ?_)
local macro_rules | `(tactic| walk_at "kit") => `(tactic| first
  | exact kit_int_int
  | exact kit_int_bool
  | exact kit_int_str
  | exact kit_int_list
  | exact kit_int_tuple
  | exact kit_bool_int
  | exact kit_bool_bool
  | exact kit_bool_str
  | exact kit_bool_list
  | exact kit_bool_tuple
  | exact kit_str_int
  | exact kit_str_bool
  | exact kit_str_str
  | exact kit_str_list
  | exact kit_str_tuple
  | exact kit_list_int
  | exact kit_list_bool
  | exact kit_list_str
  | exact kit_list_list
  | exact kit_list_tuple
  | exact kit_tuple_int
  | exact kit_tuple_bool
  | exact kit_tuple_str
  | exact kit_tuple_list
  | exact kit_tuple_tuple
  | exact kit_NoneType_int
  | exact kit_NoneType_bool
  | exact kit_NoneType_str
  | exact kit_NoneType_list
  | exact kit_NoneType_tuple
  | fail)
local macro_rules | `(tactic| walk_at "isi") => `(tactic| first
  | refine IsI.mk ⟨_, _, .base (.int _), (by walk_at "kit"), ?_⟩
  | refine IsI.mk ⟨_, _, .base (.str _), (by walk_at "kit"), ?_⟩
  | refine IsI.mk ⟨_, _, .base .non, (by walk_at "kit"), ?_⟩
  | refine IsI.mk ⟨_, _, .base (.bl _), (by walk_at "kit"), ?_⟩
  | refine IsI.mk ⟨_, _, .base (.lst (by walk_at "hp")), (by walk_at "kit"), ?_⟩
  | refine IsI.mk ⟨_, _, .base (.tup (by walk_at "hp")), (by walk_at "kit"), ?_⟩)
local macro_rules | `(tactic| walk_at "one") => `(tactic| first
  | ((with_reducible show Sq _ _ _ _); first
    | refine Sq.l (by first | assumption | exact SqL.of (by walk_at "hp")) ?_
    | refine Sq.t (by first | assumption | walk_at "seq" | exact SqT.of (by walk_at "hp")) ?_)
  | ((with_reducible show Ls _ _ _); refine Ls.mk' (by walk_at "hp") ?_)
  | ((with_reducible show At _ _ _); refine At.mk ⟨_, rfl, ?_⟩)
  | ((with_reducible show SetL _ _ _ _ _); refine SetL.mk ⟨_, _, by walk_at "hp", rfl, ?_⟩)
  | ((with_reducible show UnT _ _ _ _ _); refine UnT.mk ⟨_, SqT.of (by walk_at "hp"), rfl, ?_⟩)
  | ((with_reducible show SlL _ _ _ _ _ _); refine SlL.mk ⟨_, SqL.of (by walk_at "hp"), ?_⟩)
  | ((with_reducible show Fld _ _ _ _ _); refine Fld.mk ⟨_, _, _, _, by walk_at "hp", by assumption, by assumption, rfl, ?_⟩)
  | ((with_reducible show SetF _ _ _ _ _ _); refine SetF.mk ⟨_, _, _, by walk_at "hp", by assumption, by assumption, by first | decide | exact Nat.le_of_ble_eq_true rfl, ?_⟩)
  | ((with_reducible show New _ _ _); refine new_mk (fun p hp => ?_))
  | ((with_reducible show NewA _ _); refine newa_mk (fun p hp => ?_))
  | ((with_reducible show Chk _ _); refine Chk.mk (by walk_at "sd") ?_)
  | ((with_reducible show IsI _ _ _ _ _); walk_at "isi")
  | ((with_reducible show Br _ _ _); walk_at "br")
  | ((with_reducible show IsR _ _ _ _ _); refine isr_own (by assumption) (by walk_at "hp") ?_)
  | ((with_reducible show Ask _); walk_at "ask")
  | ((with_reducible show And _ _); first | refine And.intro (rfl : wipe _ _ = wipe _ _) ?_ | refine And.intro (Or.inl ⟨rfl, _, SqL.of (by walk_at "hp")⟩) ?_)
  | ((with_reducible show Exists _); refine ⟨_, (by walk_at "hp" : _ = some (HO.lst _)), by walk_at "sd", ?_⟩))
local macro_rules | `(tactic| walk_at "go") => `(tactic| ((repeat ((try (conv => whnf)); walk_at "one")); (try (conv => whnf))))
local macro_rules | `(tactic| walk_at "fr") => `(tactic| first
  | assumption
  | (apply upd_back; assumption)
  | (apply upd_back2; assumption)
  | (refine Same.bk (by assumption) ?_; walk_at "fr")
  | (refine But.back (by assumption) ?_ ?_; walk_at "ne"; walk_at "fr")
  | (refine Same.back1 (by assumption) ?_; walk_at "fr")
  | (refine But.back1 (by assumption) ?_ ?_; walk_at "ne"; walk_at "fr")
  | (refine Same.back2 (by assumption) ?_; walk_at "fr")
  | (refine But.back2 (by assumption) ?_ ?_; walk_at "ne"; walk_at "fr"))
local macro_rules | `(tactic| walk_at "but") => `(tactic| first
  | assumption
  | exact But.rfl'
  | (refine But.box ?_; walk_at "but")
  | (refine But.fresh ?_ ?_; rotate_left; walk_at "fr"; walk_at "but")
  | (refine But.tr ?_ (by assumption); walk_at "but")
  | (refine But.trS ?_ (by assumption); walk_at "but"))
local macro_rules | `(tactic| walk_at "same") => `(tactic| first
  | assumption
  | exact Same.refl _
  | (refine Same.fresh ?_ ?_; rotate_left; walk_at "fr"; walk_at "same")
  | (refine Same.tr ?_ (by assumption); walk_at "same")
  | (refine Same.ofB (by assumption) ?_ ?_; rotate_left; walk_at "fr"; walk_at "same"))

theorem rule_text (a0 a1 a2 a3 a4 : Int) : Str.empty ++ Str.ofString "seats " ++ Str.ofString (toString a0) ++ Str.ofString " lapse " ++ Str.ofString (toString a1) ++ Str.ofString " beat " ++ Str.ofString (toString a2) ++ Str.ofString " grace " ++ Str.ofString (toString a3) ++ Str.ofString " late " ++ Str.ofString (toString a4) = ruleText [a0, a1, a2, a3, a4] := by
  have q1 : TL.tl (Str.ofString "seats ") = TL.tl (Str.ofString "seats") ++ TL.tl (Str.ofString " ") := by decide +kernel
  have q2 : TL.tl (Str.ofString " lapse ") = TL.tl (Str.ofString " ") ++ TL.tl (Str.ofString "lapse") ++ TL.tl (Str.ofString " ") := by decide +kernel
  have q3 : TL.tl (Str.ofString " beat ") = TL.tl (Str.ofString " ") ++ TL.tl (Str.ofString "beat") ++ TL.tl (Str.ofString " ") := by decide +kernel
  have q4 : TL.tl (Str.ofString " grace ") = TL.tl (Str.ofString " ") ++ TL.tl (Str.ofString "grace") ++ TL.tl (Str.ofString " ") := by decide +kernel
  have q5 : TL.tl (Str.ofString " late ") = TL.tl (Str.ofString " ") ++ TL.tl (Str.ofString "late") ++ TL.tl (Str.ofString " ") := by decide +kernel
  have q0 : TL.tl Str.empty = [] := rfl
  refine ext_toList ?_
  show TL.tl _ = TL.tl _
  unfold ruleText
  simp only [TL.tl_append, q0, q1, q2, q3, q4, q5, List.zip_cons_cons, List.zip_nil_right, List.map_cons, List.map_nil, TL.join_eq, TL.tl_join, TL.joinL, List.nil_append, List.append_assoc]
theorem e_0 : Str.length Str.empty = 0 := rfl
theorem e_1 : Str.length "seats " = 6 := by decide +kernel
theorem e_2 : Str.length " lapse " = 7 := by decide +kernel
theorem e_3 : Str.length " beat " = 6 := by decide +kernel
theorem e_4 : Str.length " grace " = 7 := by decide +kernel
theorem e_5 : Str.length " late " = 6 := by decide +kernel
section
local macro_rules | `(tactic| walk_at "len") => `(tactic| (have sl := sizeLine_eq; simp only [Str.length_append, e_0, e_1, e_2, e_3, e_4, e_5]; omega))
local macro_rules | `(tactic| walk_at "ne2") => `(tactic| exact BoxAt.ne (by assumption) (by assumption))
local macro_rules | `(tactic| walk_at "box") => `(tactic| first | assumption | (refine BoxAt.new (by assumption) ?_; walk_at "box") | (refine BoxAt.same (by assumption) ?_; walk_at "box"))
variable (P : Program) (W0 : World) {K : PySem.W.Frag} {mg : Str → Option Value} (base : Heap)
theorem G_eq (T : Tx K mg) : FnOk P W0 K mg base CX0 1 T.f_eq T.d_eq ["self", "other"] (spEq T.C) := by
  refine T.F_eq.ok sc_Rule_eq (fun vs H Q E h => ?_) (fun cdv A outer s H vs Q E hr h => ?_)
  · obtain ⟨p, q, ns, ms, rfl, _⟩ := h
    rfl
  · obtain ⟨p, q, ns, ms, rfl, ⟨a0, a1, a2, a3, a4, rfl, _⟩, ⟨b0, b1, b2, b3, b4, rfl, _⟩, ⟨dp, hp⟩, ⟨dq, hq⟩, k⟩ := h
    have hu64 := Room.units hr
    have n0 := T.n0
    have n1 := T.n1
    have n2 := T.n2
    have n3 := T.n3
    have n4 := T.n4
    have cl := T.c_Rule.cl
    have ct := T.c_Rule
    refine ⟨_, (pss_one (ps_ret (e_and (pe_callB k_isi (by rfl) T.isinstance (by decide +kernel) (pa_cons (c_var 1) (pa_cons (pe_glob (v := .ref _) (by rfl) T.c_Rule.g rfl) pa_nil))) (e_and (pe_cmpR (c_eq hu64) (e_fld (c_var 0)) (e_fld (c_var 1)) (nomark _)) (e_and (pe_cmpR (c_eq hu64) (e_fld (c_var 0)) (e_fld (c_var 1)) (nomark _)) (e_and (pe_cmpR (c_eq hu64) (e_fld (c_var 0)) (e_fld (c_var 1)) (nomark _)) (e_and (pe_cmpR (c_eq hu64) (e_fld (c_var 0)) (e_fld (c_var 1)) (nomark _)) (pe_one (pe_cmpR (c_eq hu64) (e_fld (c_var 0)) (e_fld (c_var 1)) (nomark _)))))))))), ?_⟩
    walk_at "go"
    have no : ∀ {x y : Int}, decide (V.int x = V.int y) = false → x ≠ y := fun h z => of_decide_eq_false h (congrArg V.int z)
    have ye : ∀ {x y : Int}, decide (V.int x = V.int y) = true → x = y := fun h => V.int.inj (of_decide_eq_true h)
    refine Br.mk (fun h0 => ?_) (fun h0 => ?_)
    rotate_left
    · have e : decide ([a0, a1, a2, a3, a4] = [b0, b1, b2, b3, b4]) = false := decide_eq_false fun z => no h0 (by injections)
      rw [e] at k
      exact k
    walk_at "go"
    refine Br.mk (fun h1 => ?_) (fun h1 => ?_)
    rotate_left
    · have e : decide ([a0, a1, a2, a3, a4] = [b0, b1, b2, b3, b4]) = false := decide_eq_false fun z => no h1 (by injections)
      rw [e] at k
      exact k
    walk_at "go"
    refine Br.mk (fun h2 => ?_) (fun h2 => ?_)
    rotate_left
    · have e : decide ([a0, a1, a2, a3, a4] = [b0, b1, b2, b3, b4]) = false := decide_eq_false fun z => no h2 (by injections)
      rw [e] at k
      exact k
    walk_at "go"
    refine Br.mk (fun h3 => ?_) (fun h3 => ?_)
    rotate_left
    · have e : decide ([a0, a1, a2, a3, a4] = [b0, b1, b2, b3, b4]) = false := decide_eq_false fun z => no h3 (by injections)
      rw [e] at k
      exact k
    walk_at "go"
    have e : decide ([a0, a1, a2, a3, a4] = [b0, b1, b2, b3, b4]) = decide (V.int a4 = V.int b4) := by
      rw [ye h0, ye h1, ye h2, ye h3]
      by_cases z : a4 = b4
      · rw [z, decide_eq_true rfl, decide_eq_true rfl]
      · rw [decide_eq_false fun q => z (by simpa using q), decide_eq_false fun q => z (V.int.inj q)]
    rw [e] at k
    exact k
theorem G_str (T : Tx K mg) : FnOk P W0 K mg base CX0 1 T.f_str T.d_str ["self"] (spStr T.C) := by
  refine T.F_str.ok sc_Rule_str (fun vs H Q E h => ?_) (fun cdv A outer s H vs Q E hr h => ?_)
  · obtain ⟨p, ns, rfl, _⟩ := h
    rfl
  · obtain ⟨p, ns, rfl, ⟨a0, a1, a2, a3, a4, rfl, ⟨l0, l1, l2, l3, l4⟩, u0, u1, u2, u3, u4⟩, ⟨dp, hp⟩, k⟩ := h
    have n0 := T.n0
    have n1 := T.n1
    have n2 := T.n2
    have n3 := T.n3
    have n4 := T.n4
    have cl := T.c_Rule.cl
    have z0 := log_of (by omega) u0
    have z1 := log_of (by omega) u1
    have z2 := log_of (by omega) u2
    have z3 := log_of (by omega) u3
    have z4 := log_of l4 u4
    have y0 := int_text_len_1921 z0
    have y1 := int_text_len_1921 z1
    have y2 := int_text_len_1921 z2
    have y3 := int_text_len_1921 z3
    have y4 := int_text_len_1921 z4
    refine ⟨_, (pss_one (ps_ret (e_joined (PJ.cons pe_str (PJ.cons (e_fmt (e_fld (c_var 0))) (PJ.cons pe_str (PJ.cons (e_fmt (e_fld (c_var 0))) (PJ.cons pe_str (PJ.cons (e_fmt (e_fld (c_var 0))) (PJ.cons pe_str (PJ.cons (e_fmt (e_fld (c_var 0))) (PJ.cons pe_str (PJ.cons (e_fmt (e_fld (c_var 0))) PJ.nil))))))))))))), ?_⟩
    walk_at "go"
    rw [← rule_text] at k
    exact k
end
end My

set_option Elab.async false
set_option linter.all false
set_option maxRecDepth 100000
set_option maxHeartbeats 800000
namespace My
open PySem PySem.Spec PyProof.Rows L2 RZ SkE CL
local macro_rules | `(tactic| walk_at "ne") => `(tactic| first
  | assumption
  | (apply Ne.symm; assumption)
  | walk_at "ne2"
  | (apply Ne.symm; walk_at "ne2")
  | exact ne_fresh (by assumption) (by walk_at "hp")
  | exact Ne.symm (ne_fresh (by assumption) (by walk_at "hp"))
  | (exact ne_of (by assumption) (by assumption) (by intro z; cases z)))
local macro_rules | `(tactic| walk_at "hp") => `(tactic| first
  | assumption
  | ((with_reducible show upd _ _ _ _ = _); first | exact upd_same | exact upd_toS (by walk_at "hp") (by walk_at "ne"))
  | exact Same.up (by assumption) (by walk_at "hp")
  | exact But.upS (by assumption) (by walk_at "hp") (by walk_at "ne"))
local macro_rules | `(tactic| walk_at "sd") => `(tactic| first
  | assumption
  | (exact ⟨by decide, by decide⟩)
  | exact ⟨rfl, rfl⟩
  | (show (_ : Nat) ≤ sizeLine; (simp only [List.length_cons, List.length_nil, List.length_append]); decide)
  | omega
  | (exact Or.inl (Or.inl ⟨by omega, by omega⟩))
  | (exact Or.inl (Or.inr ⟨by omega, by omega⟩))
  | (exact Or.inl ⟨by omega, by omega⟩)
  | (exact ⟨by omega, by omega⟩)
  | (exact ⟨by decide, by decide, by decide⟩)
  | decide
  | walk_at "len")
local macro_rules | `(tactic| walk_at "br") => `(tactic| first
  | refine br_t (by first | rfl | assumption) ?_
  | refine br_f (by first | rfl | assumption) ?_
  | refine br_t (by exact decide_eq_true (by omega)) ?_
  | refine br_f (by exact decide_eq_false (by omega)) ?_)
local macro_rules | `(tactic| walk_at "kit") => `(tactic| first
  | exact kit_int_int
  | exact kit_int_bool
  | exact kit_int_str
  | exact kit_int_list
  | exact kit_int_tuple
  | exact kit_bool_int
  | exact kit_bool_bool
  | exact kit_bool_str
  | exact kit_bool_list
  | exact kit_bool_tuple
  | exact kit_str_int
  | exact kit_str_bool
  | exact kit_str_str
  | exact kit_str_list
  | exact kit_str_tuple
  | exact kit_list_int
  | exact kit_list_bool
  | exact kit_list_str
  | exact kit_list_list
  | exact kit_list_tuple
  | exact kit_tuple_int
  | exact kit_tuple_bool
  | exact kit_tuple_str
  | exact kit_tuple_list
  | exact kit_tuple_tuple
  | exact kit_NoneType_int
  | exact kit_NoneType_bool
  | exact kit_NoneType_str
  | exact kit_NoneType_list
  | exact kit_NoneType_tuple
  | fail)
local macro_rules | `(tactic| walk_at "isi") => `(tactic| first
  | refine IsI.mk ⟨_, _, .base (.int _), (by walk_at "kit"), ?_⟩
  | refine IsI.mk ⟨_, _, .base (.str _), (by walk_at "kit"), ?_⟩
  | refine IsI.mk ⟨_, _, .base .non, (by walk_at "kit"), ?_⟩
  | refine IsI.mk ⟨_, _, .base (.bl _), (by walk_at "kit"), ?_⟩
  | refine IsI.mk ⟨_, _, .base (.lst (by walk_at "hp")), (by walk_at "kit"), ?_⟩
  | refine IsI.mk ⟨_, _, .base (.tup (by walk_at "hp")), (by walk_at "kit"), ?_⟩)
local macro_rules | `(tactic| walk_at "one") => `(tactic| first
  | ((with_reducible show Sq _ _ _ _); first
    | refine Sq.l (by first | assumption | exact SqL.of (by walk_at "hp")) ?_
    | refine Sq.t (by first | assumption | walk_at "seq" | exact SqT.of (by walk_at "hp")) ?_)
  | ((with_reducible show Ls _ _ _); refine Ls.mk' (by walk_at "hp") ?_)
  | ((with_reducible show At _ _ _); refine At.mk ⟨_, rfl, ?_⟩)
  | ((with_reducible show SetL _ _ _ _ _); refine SetL.mk ⟨_, _, by walk_at "hp", rfl, ?_⟩)
  | ((with_reducible show UnT _ _ _ _ _); refine UnT.mk ⟨_, SqT.of (by walk_at "hp"), rfl, ?_⟩)
  | ((with_reducible show SlL _ _ _ _ _ _); refine SlL.mk ⟨_, SqL.of (by walk_at "hp"), ?_⟩)
  | ((with_reducible show Fld _ _ _ _ _); refine Fld.mk ⟨_, _, _, _, by walk_at "hp", by assumption, by assumption, rfl, ?_⟩)
  | ((with_reducible show SetF _ _ _ _ _ _); refine SetF.mk ⟨_, _, _, by walk_at "hp", by assumption, by assumption, by first | decide | exact Nat.le_of_ble_eq_true rfl, ?_⟩)
  | ((with_reducible show New _ _ _); refine new_mk (fun p hp => ?_))
  | ((with_reducible show NewA _ _); refine newa_mk (fun p hp => ?_))
  | ((with_reducible show Chk _ _); refine Chk.mk (by walk_at "sd") ?_)
  | ((with_reducible show IsI _ _ _ _ _); walk_at "isi")
  | ((with_reducible show Br _ _ _); walk_at "br")
  | ((with_reducible show IsR _ _ _ _ _); refine isr_own (by assumption) (by walk_at "hp") ?_)
  | ((with_reducible show Ask _); walk_at "ask")
  | ((with_reducible show And _ _); first | refine And.intro (rfl : wipe _ _ = wipe _ _) ?_ | refine And.intro (Or.inl ⟨rfl, _, SqL.of (by walk_at "hp")⟩) ?_)
  | ((with_reducible show Exists _); refine ⟨_, (by walk_at "hp" : _ = some (HO.lst _)), by walk_at "sd", ?_⟩))
local macro_rules | `(tactic| walk_at "go") => `(tactic| ((repeat ((try (conv => whnf)); walk_at "one")); (try (conv => whnf))))
local macro_rules | `(tactic| walk_at "fr") => `(tactic| first
  | assumption
  | (apply upd_back; assumption)
  | (apply upd_back2; assumption)
  | (refine Same.bk (by assumption) ?_; walk_at "fr")
  | (refine But.back (by assumption) ?_ ?_; walk_at "ne"; walk_at "fr")
  | (refine Same.back1 (by assumption) ?_; walk_at "fr")
  | (refine But.back1 (by assumption) ?_ ?_; walk_at "ne"; walk_at "fr")
  | (refine Same.back2 (by assumption) ?_; walk_at "fr")
  | (refine But.back2 (by assumption) ?_ ?_; walk_at "ne"; walk_at "fr"))
local macro_rules | `(tactic| walk_at "but") => `(tactic| first
  | assumption
  | exact But.rfl'
  | (refine But.box ?_; walk_at "but")
  | (refine But.fresh ?_ ?_; rotate_left; walk_at "fr"; walk_at "but")
  | (refine But.tr ?_ (by assumption); walk_at "but")
  | (refine But.trS ?_ (by assumption); walk_at "but"))
local macro_rules | `(tactic| walk_at "same") => `(tactic| first
  | assumption
  | exact Same.refl _
  | (refine Same.fresh ?_ ?_; rotate_left; walk_at "fr"; walk_at "same")
  | (refine Same.tr ?_ (by assumption); walk_at "same")
  | (refine Same.ofB (by assumption) ?_ ?_; rotate_left; walk_at "fr"; walk_at "same"))

abbrev s_l_pick : Stmt := topS 19
theorem sc_l_pick : FnScope ["_law_box_here", "_law_items"] ["_law_box_here", "_law_items"] (defScope s_l_pick) := ⟨rfl, rfl, rfl, by decide +kernel, rfl, by decide +kernel, by decide +kernel⟩
abbrev s_l_made : Stmt := topS 21
theorem sc_l_made : FnScope ["_law_numbers"] ["_law_numbers"] (defScope s_l_made) := ⟨rfl, rfl, rfl, by decide +kernel, rfl, by decide +kernel, by decide +kernel⟩
abbrev s_l_rule_text : Stmt := topS 22
theorem sc_l_rule_text : FnScope ["_law_numbers", "_law_words", "_law_at"] ["_law_numbers"] (defScope s_l_rule_text) := ⟨rfl, rfl, rfl, by decide +kernel, rfl, by decide +kernel, by decide +kernel⟩
structure Ty (K : PySem.W.Frag) (mg : Str → Option Value) extends Tx K mg where
  list : mg "list" = none
  range : mg "range" = none
  str : mg "str" = none
  tuple : mg "tuple" = none
  f_pick : Addr
  d_pick : FuncData
  F_pick : Fun K "_law_pick" "_law_pick" s_l_pick f_pick d_pick
  g_pick : mg "_law_pick" = some (.ref f_pick)
  b_pick : Binds K d_pick ["_law_box_here", "_law_items"] []
  f_made : Addr
  d_made : FuncData
  F_made : Fun K "_law_made" "_law_made" s_l_made f_made d_made
  g_made : mg "_law_made" = some (.ref f_made)
  b_made : Binds K d_made ["_law_numbers"] []
  f_rtext : Addr
  d_rtext : FuncData
  F_rtext : Fun K "_law_rule_text" "_law_rule_text" s_l_rule_text f_rtext d_rtext
  g_rtext : mg "_law_rule_text" = some (.ref f_rtext)
  b_rtext : Binds K d_rtext ["_law_numbers"] []
def spMade (C : Addr) : Sp := fun vs H Q _ => ∃ (l : Addr) (ns : List Int), vs = [.ref l] ∧ Good ns ∧ H l = some (.lst (ns.map V.int)) ∧ ∀ q H', Same H H' → Fre H q → RuleAt C H' q ns → Q (.ref q) H'
def spRText : Sp := fun vs H Q _ => ∃ (l : Addr) (ns : List Int), vs = [.ref l] ∧ Good ns ∧ H l = some (.lst (ns.map V.int)) ∧ ∀ H', Same H H' → Q (.str (ruleText ns)) H'
theorem ask_init {C : Addr} {H : Hp} {Q : VK} {E : XK} {ns : List Int} {vs : List V} (e : vs = ns.map V.int) (g : Good ns) (k : ∀ q H', Same H H' → Fre H q → RuleAt C H' q ns → Q (.ref q) H') :
    Ask (∀ x dx, H x = none → H dx = none → dx ≠ x → spInit C (.ref x :: vs) (upd (upd H dx (.own x)) x (.ins C dx [])) (fun v H2 => v = .non ∧ Q (.ref x) H2) E) := by
  refine ⟨fun x dx hx hd ne => ⟨x, dx, ns, by rw [e], g, upd_same, fun H' b h => ⟨rfl, k x H' (fun a o ha => ?_) ⟨hx⟩ ⟨dx, h⟩⟩⟩⟩
  have n1 : a ≠ x := ne_of_none ha hx
  have n2 : a ≠ dx := ne_of_none ha hd
  exact b a o n1 (by rw [upd_ne n1, upd_ne n2]; exact ha)
section
set_option hygiene false in
local macro_rules | `(tactic| walk_at "seq") => `(tactic| exact T.sW _)
local macro_rules | `(tactic| walk_at "ne2") => `(tactic| exact BoxAt.ne (by assumption) (by assumption))
local macro_rules | `(tactic| walk_at "box") => `(tactic| first | assumption | (refine BoxAt.new (by assumption) ?_; walk_at "box") | (refine BoxAt.same (by assumption) ?_; walk_at "box"))
variable (P : Program) (W0 : World) {K : PySem.W.Frag} {mg : Str → Option Value} (base : Heap)
theorem G_made (T : Ty K mg) : FnOk P W0 K mg base CX0 5 T.f_made T.d_made ["_law_numbers"] (spMade T.C) := by
  refine T.F_made.ok sc_l_made (fun vs H Q E h => ?_) (fun cdv A outer s H vs Q E hr h => ?_)
  · obtain ⟨l, ns, rfl, _⟩ := h
    rfl
  · obtain ⟨l, ns, rfl, ⟨a0, a1, a2, a3, a4, rfl, gg⟩, hl, k⟩ := h
    refine ⟨_, (pss_one (ps_ret (e_make T.mkR (G_init P W0 base T.toTx) (hr.mono (by decide)) (by rfl) T.c_Rule.g T.b_init6 .nil pass0 (pa_cons (pe_ix (c_ixK (K := K) rfl) (c_var 0) pe_int (fun _ _ => rfl)) (pa_cons (pe_ix (c_ixK (K := K) rfl) (c_var 0) pe_int (fun _ _ => rfl)) (pa_cons (pe_ix (c_ixK (K := K) rfl) (c_var 0) pe_int (fun _ _ => rfl)) (pa_cons (pe_ix (c_ixK (K := K) rfl) (c_var 0) pe_int (fun _ _ => rfl)) (pa_cons (pe_ix (c_ixK (K := K) rfl) (c_var 0) pe_int (fun _ _ => rfl)) pa_nil)))))))), ?_⟩
    walk_at "go"
    exact ask_init (ns := [a0, a1, a2, a3, a4]) rfl ⟨_, _, _, _, _, rfl, gg⟩ k
end
/-- the texts of the five numbers -/
def tx (ns : List Int) : List Str := ((["seats", "lapse", "beat", "grace", "late"] : List Str).zip ns).map fun p => p.1 ++ " " ++ (Str.ofString (toString p.2))
theorem f_0 : Str.length "seats" = 5 := by decide +kernel
theorem f_1 : Str.length "lapse" = 5 := by decide +kernel
theorem f_2 : Str.length "beat" = 4 := by decide +kernel
theorem f_3 : Str.length "grace" = 5 := by decide +kernel
theorem f_4 : Str.length "late" = 4 := by decide +kernel
theorem f_5 : Str.length " " = 1 := by decide +kernel
section
local macro_rules | `(tactic| walk_at "len") => `(tactic| (have sl := sizeLine_eq; simp only [Str.length_append, f_0, f_1, f_2, f_3, f_4, f_5]; omega))
local macro_rules | `(tactic| walk_at "ne2") => `(tactic| exact BoxAt.ne (by assumption) (by assumption))
local macro_rules | `(tactic| walk_at "box") => `(tactic| first | assumption | (refine BoxAt.new (by assumption) ?_; walk_at "box") | (refine BoxAt.same (by assumption) ?_; walk_at "box"))
variable (P : Program) (W0 : World) {K : PySem.W.Frag} {mg : Str → Option Value} (base : Heap)
theorem G_rtext (T : Ty K mg) : FnOk P W0 K mg base CX0 1 T.f_rtext T.d_rtext ["_law_numbers"] spRText := by
  refine T.F_rtext.ok sc_l_rule_text (fun vs H Q E h => ?_) (fun cdv A outer s H vs Q E hr h => ?_)
  · obtain ⟨l, ns, rfl, _⟩ := h
    rfl
  · obtain ⟨l, ns, rfl, ⟨a0, a1, a2, a3, a4, rfl, ⟨l0, l1, l2, l3, l4⟩, u0, u1, u2, u3, u4⟩, hl, k⟩ := h
    have z0 := log_of (by omega) u0
    have z1 := log_of (by omega) u1
    have z2 := log_of (by omega) u2
    have z3 := log_of (by omega) u3
    have z4 := log_of l4 u4
    have y0 := int_text_len_1921 z0
    have y1 := int_text_len_1921 z1
    have y2 := int_text_len_1921 z2
    have y3 := int_text_len_1921 z3
    have y4 := int_text_len_1921 z4
    refine ⟨_, (pss_cons (ps_set (i := 1) sc_l_rule_text.nd rfl (Or.inr rfl) (e_lst (pa_cons pe_str (pa_cons pe_str (pa_cons pe_str (pa_cons pe_str (pa_cons pe_str pa_nil)))))))
    (pss_one (ps_ret (e_join pe_str (e_lc (own := [("_law_at", 2)]) (by rfl) sc_l_rule_text.nd (i_range1 (by rfl) T.range (pa_cons pe_int pa_nil)) (blkOk_by (own := [("_law_at", 2)]) (N := ["_law_numbers", "_law_words", "_law_at"]) (sc := defScope s_l_rule_text) (by decide +kernel)) (fun _ _ _ _ _ => (pg_name (i := 2) sc_l_rule_text.nd rfl (Or.inl rfl))) (fun _ _ _ _ _ => pts_nil) (fun _ _ _ _ _ => (pe_op c_add (pe_op c_add (pe_ix (c_ixK (K := K) rfl) (c_var 1) (c_var 2) (fun _ _ => rfl)) pe_str) (pe_callTy k_str (by rfl) T.str (by decide +kernel) (pa_cons (pe_ix (c_ixK (K := K) rfl) (c_var 0) (c_var 2) (fun _ _ => rfl)) pa_nil))))))))), ?_⟩
    walk_at "go"
    rename_i p1 hp1 p hp
    have np : p1 ≠ p := ne_fresh hp upd_same
    refine lw_range (fun i H' => Same H H' ∧ H' p1 = some (.lst [.str "seats", .str "lapse", .str "beat", .str "grace", .str "late"]) ∧ H' p = some (.lst (((tx [a0, a1, a2, a3, a4]).take i).map V.str))) ⟨by walk_at "same", upd_to np upd_same, upd_same⟩ ?_ ?_
    · rintro i H' hi ⟨e, e1, e2⟩
      have hl' := e _ _ hl
      have fp : ∀ a o, H a = some o → a ≠ p := fun a o h => ne_of_none (upd_to (ne_of_none h hp1.n) h) hp.n
      have hi5 : i < 5 := hi
      have nx : ∀ (z : Str) (j : Nat), (tx [a0, a1, a2, a3, a4])[j]? = some z → Same H (upd H' p (.lst (((tx [a0, a1, a2, a3, a4]).take j).map V.str ++ [.str z]))) ∧ (upd H' p (.lst (((tx [a0, a1, a2, a3, a4]).take j).map V.str ++ [.str z]))) p1 = some (.lst [.str "seats", .str "lapse", .str "beat", .str "grace", .str "late"]) ∧ (upd H' p (.lst (((tx [a0, a1, a2, a3, a4]).take j).map V.str ++ [.str z]))) p = some (.lst (((tx [a0, a1, a2, a3, a4]).take (j + 1)).map V.str)) := by
        intro z j hz
        refine ⟨fun a o h => upd_to (fp a o h) (e a o h), upd_to np e1, ?_⟩
        rw [upd_same, List.take_add_one, hz, List.map_append]
        rfl
      have ln : ∀ j, j < 5 → (((tx [a0, a1, a2, a3, a4]).take j).map V.str).length < sizeLine := by
        intro j hj
        have sl := sizeLine_eq
        rw [List.length_map, List.length_take]
        omega
      obtain rfl | rfl | rfl | rfl | rfl : i = 0 ∨ i = 1 ∨ i = 2 ∨ i = 3 ∨ i = 4 := by omega
      all_goals (unfold LcStep; walk_at "go"; first | exact ⟨_, e2, ln 0 (by decide), nx _ 0 (by rfl)⟩ | exact ⟨_, e2, ln 1 (by decide), nx _ 1 (by rfl)⟩ | exact ⟨_, e2, ln 2 (by decide), nx _ 2 (by rfl)⟩ | exact ⟨_, e2, ln 3 (by decide), nx _ 3 (by rfl)⟩ | exact ⟨_, e2, ln 4 (by decide), nx _ 4 (by rfl)⟩)
    · rintro H' ⟨e, e1, e2⟩
      walk_at "go"
      refine ⟨⟨tx [a0, a1, a2, a3, a4], .inl (SqL.of e2), ?_, k H' e⟩⟩
      show ([(("seats" : Str) ++ " " ++ Str.ofString (toString a0)).length, (("lapse" : Str) ++ " " ++ Str.ofString (toString a1)).length, (("beat" : Str) ++ " " ++ Str.ofString (toString a2)).length, (("grace" : Str) ++ " " ++ Str.ofString (toString a3)).length, (("late" : Str) ++ " " ++ Str.ofString (toString a4)).length] : List Nat).sum + 5 * Str.length " " ≤ 16777216
      simp only [Str.length_append, f_0, f_1, f_2, f_3, f_4, f_5, List.sum_cons, List.sum_nil]
      omega
end
end My

set_option Elab.async false
set_option linter.all false
set_option maxRecDepth 100000
set_option maxHeartbeats 600000
namespace My
open PySem PySem.Spec PyProof.Rows L2 RZ SkE CL
/-! the text of a rule tells its numbers -/
theorem cut_at {s : Nat} : ∀ (x y r q : List Nat), s ∉ x → s ∉ y → x ++ s :: r = y ++ s :: q → x = y ∧ r = q
  | [], [], r, q, _, _, e => ⟨rfl, (List.cons.inj e).2⟩
  | [], b :: y, r, q, _, hy, e => absurd (List.cons.inj e).1 (fun z => hy (by rw [z]; exact List.mem_cons_self))
  | a :: x, [], r, q, hx, _, e => absurd (List.cons.inj e).1.symm (fun z => hx (by rw [z]; exact List.mem_cons_self))
  | a :: x, b :: y, r, q, hx, hy, e => by
    obtain ⟨e1, e2⟩ := List.cons.inj e
    obtain ⟨i1, i2⟩ := cut_at x y r q (fun m => hx (List.mem_cons_of_mem _ m)) (fun m => hy (List.mem_cons_of_mem _ m)) e2
    exact ⟨by rw [e1, i1], i2⟩
theorem num_nat {a : Int} (h : 0 ≤ a) : TL.tl (Str.ofString (toString a)) = TL.numL a.toNat := by
  have e : ((a.toNat : Nat) : Int) = a := Int.toNat_of_nonneg h
  have z := TL.tl_num a.toNat
  rw [e] at z
  exact z
theorem no32 (n : Nat) : 32 ∉ TL.numL n := TL.numL_free (.inl (by decide))
theorem nat_inj {a b : Int} (ha : 0 ≤ a) (hb : 0 ≤ b) (h : TL.numL a.toNat = TL.numL b.toNat) : a = b := by
  have := TL.numL_inj h
  omega
theorem lead {w : Str} {r : List Nat} (h : TL.tl w = 32 :: r) : TL.tl w = 32 :: r := h
theorem text_inj {ns ms : List Int} (g : Good ns) (gm : Good ms) (h : ruleText ns = ruleText ms) : ns = ms := by
  obtain ⟨a0, a1, a2, a3, a4, rfl, ⟨l0, l1, l2, l3, l4⟩, _⟩ := g
  obtain ⟨b0, b1, b2, b3, b4, rfl, ⟨k0, k1, k2, k3, k4⟩, _⟩ := gm
  rw [← rule_text, ← rule_text] at h
  have e := congrArg TL.tl h
  obtain ⟨r1, q1⟩ : ∃ r, TL.tl (Str.ofString " lapse ") = 32 :: r := ⟨(TL.tl (Str.ofString " lapse ")).tail, by decide +kernel⟩
  obtain ⟨r2, q2⟩ : ∃ r, TL.tl (Str.ofString " beat ") = 32 :: r := ⟨(TL.tl (Str.ofString " beat ")).tail, by decide +kernel⟩
  obtain ⟨r3, q3⟩ : ∃ r, TL.tl (Str.ofString " grace ") = 32 :: r := ⟨(TL.tl (Str.ofString " grace ")).tail, by decide +kernel⟩
  obtain ⟨r4, q4⟩ : ∃ r, TL.tl (Str.ofString " late ") = 32 :: r := ⟨(TL.tl (Str.ofString " late ")).tail, by decide +kernel⟩
  simp only [TL.tl_append, q1, q2, q3, q4, num_nat (by omega : (0 : Int) ≤ a0), num_nat (by omega : (0 : Int) ≤ a1), num_nat (by omega : (0 : Int) ≤ a2), num_nat (by omega : (0 : Int) ≤ a3), num_nat l4, num_nat (by omega : (0 : Int) ≤ b0), num_nat (by omega : (0 : Int) ≤ b1), num_nat (by omega : (0 : Int) ≤ b2), num_nat (by omega : (0 : Int) ≤ b3), num_nat k4, List.append_assoc, List.cons_append] at e
  have e0 := List.append_cancel_left (List.append_cancel_left e)
  obtain ⟨x0, e1⟩ := cut_at _ _ _ _ (no32 _) (no32 _) e0
  obtain ⟨x1, e2⟩ := cut_at _ _ _ _ (no32 _) (no32 _) (List.append_cancel_left e1)
  obtain ⟨x2, e3⟩ := cut_at _ _ _ _ (no32 _) (no32 _) (List.append_cancel_left e2)
  obtain ⟨x3, e4⟩ := cut_at _ _ _ _ (no32 _) (no32 _) (List.append_cancel_left e3)
  have x4 := List.append_cancel_left e4
  rw [nat_inj (by omega) (by omega) x0, nat_inj (by omega) (by omega) x1, nat_inj (by omega) (by omega) x2, nat_inj (by omega) (by omega) x3, nat_inj l4 k4 x4]
/-! repr of five numbers -/
theorem dpAll_ints {K : PySem.W.Frag} {H : Hp} : ∀ ns : List Int, DpAll K H (ns.map V.int) (ns.map PyData.int)
  | [] => .nil
  | n :: ns => .cons (.int n) (dpAll_ints ns)
theorem rep_five {K : PySem.W.Frag} {H : Hp} {p : Addr} {ns : List Int} {k : Str → Prop} (g : Good ns) (h : H p = some (.lst (ns.map V.int))) (q : k (PyData.shown (.list (ns.map PyData.int)))) : RepD K H (.ref p) k := by
  refine ⟨⟨.list (ns.map PyData.int), .lst (SqL.of h) (dpAll_ints ns), ?_, ?_, ?_, ?_, q⟩⟩
  all_goals (obtain ⟨a0, a1, a2, a3, a4, rfl, ⟨l0, l1, l2, l3, l4⟩, u0, u1, u2, u3, u4⟩ := g)
  · have z0 := log_of (by omega) u0
    have z1 := log_of (by omega) u1
    have z2 := log_of (by omega) u2
    have z3 := log_of (by omega) u3
    have z4 := log_of l4 u4
    simp [PyData.showable, PyData.showableAll, z0, z1, z2, z3, z4]
  · simp [PyData.hasDict, PyData.hasDictAll]
  · simp [PyData.depth, PyData.depthAll]
  · have y0 := int_text_len_1921 (log_of (by omega) u0)
    have y1 := int_text_len_1921 (log_of (by omega) u1)
    have y2 := int_text_len_1921 (log_of (by omega) u2)
    have y3 := int_text_len_1921 (log_of (by omega) u3)
    have y4 := int_text_len_1921 (log_of l4 u4)
    have sl := sizeLine_eq
    simp only [PyData.shown, PyData.shownAll, List.map_cons, List.map_nil, listText, textFrom]
    simp only [Str.length_append]
    have c0 : Str.length (("[" : String) : Str) = 1 := by decide +kernel
    have c1 : Str.length (("]" : String) : Str) = 1 := by decide +kernel
    have c2 : Str.length ((", " : String) : Str) = 2 := by decide +kernel
    have c3 : Str.length (("" : String) : Str) = 0 := by decide +kernel
    have i0 : (if 0 > 0 then ", " else "" : String) = "" := rfl
    have i1 : (if 0 + 1 > 0 then ", " else "" : String) = ", " := rfl
    have i2 : (if 0 + 1 + 1 > 0 then ", " else "" : String) = ", " := rfl
    have i3 : (if 0 + 1 + 1 + 1 > 0 then ", " else "" : String) = ", " := rfl
    have i4 : (if 0 + 1 + 1 + 1 + 1 > 0 then ", " else "" : String) = ", " := rfl
    rw [i0, i1, i2, i3, i4, c0, c1, c2, c3]
    omega
end My

set_option Elab.async false
set_option linter.all false
set_option maxRecDepth 100000
set_option maxHeartbeats 800000
namespace My
open PySem PySem.Spec PyProof.Rows L2 RZ SkE CL
local macro_rules | `(tactic| walk_at "ne") => `(tactic| first
  | assumption
  | (apply Ne.symm; assumption)
  | walk_at "ne2"
  | (apply Ne.symm; walk_at "ne2")
  | exact ne_fresh (by assumption) (by walk_at "hp")
  | exact Ne.symm (ne_fresh (by assumption) (by walk_at "hp"))
  | (exact ne_of (by assumption) (by assumption) (by intro z; cases z)))
local macro_rules | `(tactic| walk_at "hp") => `(tactic| first
  | assumption
  | ((with_reducible show upd _ _ _ _ = _); first | exact upd_same | exact upd_toS (by walk_at "hp") (by walk_at "ne"))
  | exact Same.up (by assumption) (by walk_at "hp")
  | exact But.upS (by assumption) (by walk_at "hp") (by walk_at "ne"))
local macro_rules | `(tactic| walk_at "sd") => `(tactic| first
  | assumption
  | (exact ⟨by decide, by decide⟩)
  | exact ⟨rfl, rfl⟩
  | (show (_ : Nat) ≤ sizeLine; (simp only [List.length_cons, List.length_nil, List.length_append]); decide)
  | omega
  | (exact Or.inl (Or.inl ⟨by omega, by omega⟩))
  | (exact Or.inl (Or.inr ⟨by omega, by omega⟩))
  | (exact Or.inl ⟨by omega, by omega⟩)
  | (exact ⟨by omega, by omega⟩)
  | (exact ⟨by decide, by decide, by decide⟩)
  | decide
  | walk_at "len")
local macro_rules | `(tactic| walk_at "br") => `(tactic| first
  | refine br_t (by first | rfl | assumption) ?_
  | refine br_f (by first | rfl | assumption) ?_
  | refine br_t (by exact decide_eq_true (by omega)) ?_
  | refine br_f (by exact decide_eq_false (by omega)) ?_)
local macro_rules | `(tactic| walk_at "kit") => `(tactic| first
  | exact kit_int_int
  | exact kit_int_bool
  | exact kit_int_str
  | exact kit_int_list
  | exact kit_int_tuple
  | exact kit_bool_int
  | exact kit_bool_bool
  | exact kit_bool_str
  | exact kit_bool_list
  | exact kit_bool_tuple
  | exact kit_str_int
  | exact kit_str_bool
  | exact kit_str_str
  | exact kit_str_list
  | exact kit_str_tuple
  | exact kit_list_int
  | exact kit_list_bool
  | exact kit_list_str
  | exact kit_list_list
  | exact kit_list_tuple
  | exact kit_tuple_int
  | exact kit_tuple_bool
  | exact kit_tuple_str
  | exact kit_tuple_list
  | exact kit_tuple_tuple
  | exact kit_NoneType_int
  | exact kit_NoneType_bool
  | exact kit_NoneType_str
  | exact kit_NoneType_list
  | exact kit_NoneType_tuple
  | fail)
local macro_rules | `(tactic| walk_at "isi") => `(tactic| first
  | refine IsI.mk ⟨_, _, .base (.int _), (by walk_at "kit"), ?_⟩
  | refine IsI.mk ⟨_, _, .base (.str _), (by walk_at "kit"), ?_⟩
  | refine IsI.mk ⟨_, _, .base .non, (by walk_at "kit"), ?_⟩
  | refine IsI.mk ⟨_, _, .base (.bl _), (by walk_at "kit"), ?_⟩
  | refine IsI.mk ⟨_, _, .base (.lst (by walk_at "hp")), (by walk_at "kit"), ?_⟩
  | refine IsI.mk ⟨_, _, .base (.tup (by walk_at "hp")), (by walk_at "kit"), ?_⟩)
local macro_rules | `(tactic| walk_at "one") => `(tactic| first
  | ((with_reducible show Sq _ _ _ _); first
    | refine Sq.l (by first | assumption | exact SqL.of (by walk_at "hp")) ?_
    | refine Sq.t (by first | assumption | walk_at "seq" | exact SqT.of (by walk_at "hp")) ?_)
  | ((with_reducible show Ls _ _ _); refine Ls.mk' (by walk_at "hp") ?_)
  | ((with_reducible show At _ _ _); refine At.mk ⟨_, rfl, ?_⟩)
  | ((with_reducible show SetL _ _ _ _ _); refine SetL.mk ⟨_, _, by walk_at "hp", rfl, ?_⟩)
  | ((with_reducible show UnT _ _ _ _ _); refine UnT.mk ⟨_, SqT.of (by walk_at "hp"), rfl, ?_⟩)
  | ((with_reducible show SlL _ _ _ _ _ _); refine SlL.mk ⟨_, SqL.of (by walk_at "hp"), ?_⟩)
  | ((with_reducible show Fld _ _ _ _ _); refine Fld.mk ⟨_, _, _, _, by walk_at "hp", by assumption, by assumption, rfl, ?_⟩)
  | ((with_reducible show SetF _ _ _ _ _ _); refine SetF.mk ⟨_, _, _, by walk_at "hp", by assumption, by assumption, by first | decide | exact Nat.le_of_ble_eq_true rfl, ?_⟩)
  | ((with_reducible show New _ _ _); refine new_mk (fun p hp => ?_))
  | ((with_reducible show NewA _ _); refine newa_mk (fun p hp => ?_))
  | ((with_reducible show Chk _ _); refine Chk.mk (by walk_at "sd") ?_)
  | ((with_reducible show IsI _ _ _ _ _); walk_at "isi")
  | ((with_reducible show Br _ _ _); walk_at "br")
  | ((with_reducible show IsR _ _ _ _ _); refine isr_own (by assumption) (by walk_at "hp") ?_)
  | ((with_reducible show Ask _); walk_at "ask")
  | ((with_reducible show And _ _); first | refine And.intro (rfl : wipe _ _ = wipe _ _) ?_ | refine And.intro (Or.inl ⟨rfl, _, SqL.of (by walk_at "hp")⟩) ?_)
  | ((with_reducible show Exists _); refine ⟨_, (by walk_at "hp" : _ = some (HO.lst _)), by walk_at "sd", ?_⟩))
local macro_rules | `(tactic| walk_at "go") => `(tactic| ((repeat ((try (conv => whnf)); walk_at "one")); (try (conv => whnf))))
local macro_rules | `(tactic| walk_at "fr") => `(tactic| first
  | assumption
  | (apply upd_back; assumption)
  | (apply upd_back2; assumption)
  | (refine Same.bk (by assumption) ?_; walk_at "fr")
  | (refine But.back (by assumption) ?_ ?_; walk_at "ne"; walk_at "fr")
  | (refine Same.back1 (by assumption) ?_; walk_at "fr")
  | (refine But.back1 (by assumption) ?_ ?_; walk_at "ne"; walk_at "fr")
  | (refine Same.back2 (by assumption) ?_; walk_at "fr")
  | (refine But.back2 (by assumption) ?_ ?_; walk_at "ne"; walk_at "fr"))
local macro_rules | `(tactic| walk_at "but") => `(tactic| first
  | assumption
  | exact But.rfl'
  | (refine But.box ?_; walk_at "but")
  | (refine But.fresh ?_ ?_; rotate_left; walk_at "fr"; walk_at "but")
  | (refine But.tr ?_ (by assumption); walk_at "but")
  | (refine But.trS ?_ (by assumption); walk_at "but"))
local macro_rules | `(tactic| walk_at "same") => `(tactic| first
  | assumption
  | exact Same.refl _
  | (refine Same.fresh ?_ ?_; rotate_left; walk_at "fr"; walk_at "same")
  | (refine Same.tr ?_ (by assumption); walk_at "same")
  | (refine Same.ofB (by assumption) ?_ ?_; rotate_left; walk_at "fr"; walk_at "same"))

abbrev s_law : Stmt := topS 23
theorem sc_law : FnScope ["_law_script", "_law_k", "_law_box_here", "_law_before", "_law_turn", "_law_numbers", "_law_made_here", "_law_text", "_law_five"] ["_law_script"] (defScope s_law) := ⟨rfl, rfl, rfl, by decide +kernel, rfl, by decide +kernel, by decide +kernel⟩
theorem fnok_or {P : Program} {W0 : World} {K : PySem.W.Frag} {mg : Str → Option Value} {base : Heap} {CX : CXT} {k : Nat} {f : Addr} {fd : FuncData} {ps : List Str} {s1 s2 : Sp} (F1 : FnOk P W0 K mg base CX k f fd ps s1) (F2 : FnOk P W0 K mg base CX k f fd ps s2) :
    FnOk P W0 K mg base CX k f fd ps (fun vs H Q E => s1 vs H Q E ∨ s2 vs H Q E) :=
  ⟨fun vs H Q E h => h.elim (F1.len vs H Q E) (F2.len vs H Q E), fun A outer s H args us vs Q E hr e b v h => h.elim (F1.run A outer s H args us vs Q E hr e b v) (F2.run A outer s H args us vs Q E hr e b v)⟩
def Oth (H : Hp) (x : V) : Prop := (∃ z, x = .str z) ∨ ∃ a xs, x = .ref a ∧ H a = some (.tup xs)
def spEqX (C : Addr) : Sp := fun vs H Q _ => ∃ (p : Addr) (ns : List Int) (x : V), vs = [.ref p, x] ∧ RuleAt C H p ns ∧ Oth H x ∧ Q (.bl false) H
def spEqA (C : Addr) : Sp := fun vs H Q E => spEq C vs H Q E ∨ spEqX C vs H Q E
structure Tl (K : PySem.W.Frag) (mg : Str → Option Value) extends Ty K mg where
  max : mg "max" = none
  min : mg "min" = none
  repr : mg "repr" = none
  ks : PySem.W.kitOne K (.type "str") (.ref C) = some false
  kt : PySem.W.kitOne K (.type "tuple") (.ref C) = some false
  fs : PySem.W.notFirst K C (.type "str") = true
  ft : PySem.W.notFirst K C (.type "tuple") = true
  f_law : Addr
  d_law : FuncData
  F_law : Fun K "law" "law" s_law f_law d_law
  b_law : Binds K d_law ["_law_script"] []
def spPick : Sp := fun vs H Q _ => ∃ (b l : Addr) (xs : List V), vs = [.ref b, .ref l] ∧ BoxAt H b ∧ b ≠ l ∧ H l = some (.lst xs) ∧ 0 < xs.length ∧ xs.length < 1000 ∧ ∀ x H', x ∈ xs → But b H H' → BoxAt H' b → Q x H'
section
variable (P : Program) (W0 : World) {K : PySem.W.Frag} {mg : Str → Option Value} (base : Heap)
theorem G_eqX (T : Tl K mg) : FnOk P W0 K mg base CX0 1 T.f_eq T.d_eq ["self", "other"] (spEqX T.C) := by
  refine T.F_eq.ok sc_Rule_eq (fun vs H Q E h => ?_) (fun cdv A outer s H vs Q E hr h => ?_)
  · obtain ⟨p, ns, x, rfl, _⟩ := h
    rfl
  · obtain ⟨p, ns, x, rfl, ⟨dp, hp⟩, ho, k⟩ := h
    have hu64 := Room.units hr
    refine ⟨_, (pss_one (ps_ret (e_and (pe_callB k_isi (by rfl) T.isinstance (by decide +kernel) (pa_cons (c_var 1) (pa_cons (pe_glob (v := .ref _) (by rfl) T.c_Rule.g rfl) pa_nil))) (e_and (pe_cmpR (c_eq hu64) (e_fld (c_var 0)) (e_fld (c_var 1)) (nomark _)) (e_and (pe_cmpR (c_eq hu64) (e_fld (c_var 0)) (e_fld (c_var 1)) (nomark _)) (e_and (pe_cmpR (c_eq hu64) (e_fld (c_var 0)) (e_fld (c_var 1)) (nomark _)) (e_and (pe_cmpR (c_eq hu64) (e_fld (c_var 0)) (e_fld (c_var 1)) (nomark _)) (pe_one (pe_cmpR (c_eq hu64) (e_fld (c_var 0)) (e_fld (c_var 1)) (nomark _)))))))))), ?_⟩
    rcases ho with ⟨z, rfl⟩ | ⟨a, xs, rfl, ha⟩
    · (conv => whnf)
      refine IsR.mk (.inl ⟨_, _, .base (.str _), T.ks, ?_⟩)
      walk_at "go"
      exact k
    · (conv => whnf)
      refine IsR.mk (.inl ⟨_, _, .base (.tup ha), T.kt, ?_⟩)
      walk_at "go"
      exact k
theorem G_eqA (T : Tl K mg) : FnOk P W0 K mg base CX0 1 T.f_eq T.d_eq ["self", "other"] (spEqA T.C) := fnok_or (G_eq P W0 base T.toTx) (G_eqX P W0 base T)
section
local macro_rules | `(tactic| walk_at "ask") => `(tactic| refine ask_take (by assumption) (by omega) (by omega) (fun d H' h0 h1 hk hb => ?_))
theorem G_pick (T : Ty K mg) : FnOk P W0 K mg base CX0 2 T.f_pick T.d_pick ["_law_box_here", "_law_items"] spPick := by
  refine T.F_pick.ok sc_l_pick (fun vs H Q E h => ?_) (fun cdv A outer s H vs Q E hr h => ?_)
  · obtain ⟨b, l, xs, rfl, _⟩ := h
    rfl
  · obtain ⟨b, l, xs, rfl, hb, n, hl, h0, h1, k⟩ := h
    refine ⟨_, (pss_one (ps_ret (pe_ix (c_ixK (K := K) rfl) (c_var 1) (e_call (G_take P W0 base T.toTx) (hr.mono (by decide)) (by rfl) T.g_take T.F_take.kp T.b_take .nil pass0 (pa_cons (c_var 0) (pa_cons (pe_callB k_len (by rfl) T.len PySem.boot_len (pa_cons (c_var 1) pa_nil)) pa_nil))) (fun _ _ => rfl)))), ?_⟩
    walk_at "go"
    rename_i d H' h2 h3 hk hb'
    have hi : d.toNat < xs.length := by omega
    refine At.nat d.toNat (by omega) (List.getElem?_eq_getElem hi) ?_
    exact k _ _ (List.getElem_mem hi) hk hb'
end
end
end My

set_option Elab.async false
set_option linter.all false
set_option maxRecDepth 100000
set_option maxHeartbeats 800000
namespace My
open PySem PySem.Spec PyProof.Rows L2 RZ SkE CL
local macro_rules | `(tactic| walk_at "ne") => `(tactic| first
  | assumption
  | (apply Ne.symm; assumption)
  | walk_at "ne2"
  | (apply Ne.symm; walk_at "ne2")
  | exact ne_fresh (by assumption) (by walk_at "hp")
  | exact Ne.symm (ne_fresh (by assumption) (by walk_at "hp"))
  | (exact ne_of (by assumption) (by assumption) (by intro z; cases z)))
local macro_rules | `(tactic| walk_at "hp") => `(tactic| first
  | assumption
  | ((with_reducible show upd _ _ _ _ = _); first | exact upd_same | exact upd_toS (by walk_at "hp") (by walk_at "ne"))
  | exact Same.up (by assumption) (by walk_at "hp")
  | exact But.upS (by assumption) (by walk_at "hp") (by walk_at "ne"))
local macro_rules | `(tactic| walk_at "sd") => `(tactic| first
  | assumption
  | (exact ⟨by decide, by decide⟩)
  | exact ⟨rfl, rfl⟩
  | (show (_ : Nat) ≤ sizeLine; (simp only [List.length_cons, List.length_nil, List.length_append]); decide)
  | omega
  | (exact Or.inl (Or.inl ⟨by omega, by omega⟩))
  | (exact Or.inl (Or.inr ⟨by omega, by omega⟩))
  | (exact Or.inl ⟨by omega, by omega⟩)
  | (exact ⟨by omega, by omega⟩)
  | (exact ⟨by decide, by decide, by decide⟩)
  | decide
  | walk_at "len")
local macro_rules | `(tactic| walk_at "br") => `(tactic| first
  | refine br_t (by first | rfl | assumption) ?_
  | refine br_f (by first | rfl | assumption) ?_
  | refine br_t (by exact decide_eq_true (by omega)) ?_
  | refine br_f (by exact decide_eq_false (by omega)) ?_)
local macro_rules | `(tactic| walk_at "kit") => `(tactic| first
  | exact kit_int_int
  | exact kit_int_bool
  | exact kit_int_str
  | exact kit_int_list
  | exact kit_int_tuple
  | exact kit_bool_int
  | exact kit_bool_bool
  | exact kit_bool_str
  | exact kit_bool_list
  | exact kit_bool_tuple
  | exact kit_str_int
  | exact kit_str_bool
  | exact kit_str_str
  | exact kit_str_list
  | exact kit_str_tuple
  | exact kit_list_int
  | exact kit_list_bool
  | exact kit_list_str
  | exact kit_list_list
  | exact kit_list_tuple
  | exact kit_tuple_int
  | exact kit_tuple_bool
  | exact kit_tuple_str
  | exact kit_tuple_list
  | exact kit_tuple_tuple
  | exact kit_NoneType_int
  | exact kit_NoneType_bool
  | exact kit_NoneType_str
  | exact kit_NoneType_list
  | exact kit_NoneType_tuple
  | fail)
local macro_rules | `(tactic| walk_at "isi") => `(tactic| first
  | refine IsI.mk ⟨_, _, .base (.int _), (by walk_at "kit"), ?_⟩
  | refine IsI.mk ⟨_, _, .base (.str _), (by walk_at "kit"), ?_⟩
  | refine IsI.mk ⟨_, _, .base .non, (by walk_at "kit"), ?_⟩
  | refine IsI.mk ⟨_, _, .base (.bl _), (by walk_at "kit"), ?_⟩
  | refine IsI.mk ⟨_, _, .base (.lst (by walk_at "hp")), (by walk_at "kit"), ?_⟩
  | refine IsI.mk ⟨_, _, .base (.tup (by walk_at "hp")), (by walk_at "kit"), ?_⟩)
local macro_rules | `(tactic| walk_at "one") => `(tactic| first
  | ((with_reducible show Sq _ _ _ _); first
    | refine Sq.l (by first | assumption | exact SqL.of (by walk_at "hp")) ?_
    | refine Sq.t (by first | assumption | walk_at "seq" | exact SqT.of (by walk_at "hp")) ?_)
  | ((with_reducible show Ls _ _ _); refine Ls.mk' (by walk_at "hp") ?_)
  | ((with_reducible show At _ _ _); refine At.mk ⟨_, rfl, ?_⟩)
  | ((with_reducible show SetL _ _ _ _ _); refine SetL.mk ⟨_, _, by walk_at "hp", rfl, ?_⟩)
  | ((with_reducible show UnT _ _ _ _ _); refine UnT.mk ⟨_, SqT.of (by walk_at "hp"), rfl, ?_⟩)
  | ((with_reducible show SlL _ _ _ _ _ _); refine SlL.mk ⟨_, SqL.of (by walk_at "hp"), ?_⟩)
  | ((with_reducible show Fld _ _ _ _ _); refine Fld.mk ⟨_, _, _, _, by walk_at "hp", by assumption, by assumption, rfl, ?_⟩)
  | ((with_reducible show SetF _ _ _ _ _ _); refine SetF.mk ⟨_, _, _, by walk_at "hp", by assumption, by assumption, by first | decide | exact Nat.le_of_ble_eq_true rfl, ?_⟩)
  | ((with_reducible show New _ _ _); refine new_mk (fun p hp => ?_))
  | ((with_reducible show NewA _ _); refine newa_mk (fun p hp => ?_))
  | ((with_reducible show Chk _ _); refine Chk.mk (by walk_at "sd") ?_)
  | ((with_reducible show IsI _ _ _ _ _); walk_at "isi")
  | ((with_reducible show Br _ _ _); walk_at "br")
  | ((with_reducible show IsR _ _ _ _ _); refine isr_own (by assumption) (by walk_at "hp") ?_)
  | ((with_reducible show Ask _); walk_at "ask")
  | ((with_reducible show And _ _); first | refine And.intro (rfl : wipe _ _ = wipe _ _) ?_ | refine And.intro (Or.inl ⟨rfl, _, SqL.of (by walk_at "hp")⟩) ?_)
  | ((with_reducible show Exists _); refine ⟨_, (by walk_at "hp" : _ = some (HO.lst _)), by walk_at "sd", ?_⟩))
local macro_rules | `(tactic| walk_at "go") => `(tactic| ((repeat ((try (conv => whnf)); walk_at "one")); (try (conv => whnf))))
local macro_rules | `(tactic| walk_at "fr") => `(tactic| first
  | assumption
  | (apply upd_back; assumption)
  | (apply upd_back2; assumption)
  | (refine Same.bk (by assumption) ?_; walk_at "fr")
  | (refine But.back (by assumption) ?_ ?_; walk_at "ne"; walk_at "fr")
  | (refine Same.back1 (by assumption) ?_; walk_at "fr")
  | (refine But.back1 (by assumption) ?_ ?_; walk_at "ne"; walk_at "fr")
  | (refine Same.back2 (by assumption) ?_; walk_at "fr")
  | (refine But.back2 (by assumption) ?_ ?_; walk_at "ne"; walk_at "fr"))
local macro_rules | `(tactic| walk_at "but") => `(tactic| first
  | assumption
  | exact But.rfl'
  | (refine But.box ?_; walk_at "but")
  | (refine But.fresh ?_ ?_; rotate_left; walk_at "fr"; walk_at "but")
  | (refine But.tr ?_ (by assumption); walk_at "but")
  | (refine But.trS ?_ (by assumption); walk_at "but"))
local macro_rules | `(tactic| walk_at "same") => `(tactic| first
  | assumption
  | exact Same.refl _
  | (refine Same.fresh ?_ ?_; rotate_left; walk_at "fr"; walk_at "same")
  | (refine Same.tr ?_ (by assumption); walk_at "same")
  | (refine Same.ofB (by assumption) ?_ ?_; rotate_left; walk_at "fr"; walk_at "same"))

theorem good_one : Good [1, 1, 1, 1, 0] := ⟨_, _, _, _, _, rfl, ⟨by decide, by decide, by decide, by decide, by decide⟩, by decide, by decide, by decide, by decide, by decide⟩
theorem Good.len {ns : List Int} (g : Good ns) : ns.length = 5 := by
  obtain ⟨_, _, _, _, _, rfl, _⟩ := g
  rfl
theorem ask_init2 {C : Addr} {H : Hp} {Qx : Addr → Hp → Prop} {E : XK} {ns : List Int} {vs : List V} (e : vs = ns.map V.int) (g : Good ns) (k : ∀ q H', Same H H' → Fre H q → RuleAt C H' q ns → Qx q H') :
    Ask (∀ x dx, H x = none → H dx = none → dx ≠ x → spInit C (.ref x :: vs) (upd (upd H dx (.own x)) x (.ins C dx [])) (fun v H2 => v = .non ∧ Qx x H2) E) :=
  ask_init (Q := fun v H' => match v with | .ref q => Qx q H' | _ => False) e g k
theorem RuleAt.same {C : Addr} {H H' : Hp} {p : Addr} {ns : List Int} (h : RuleAt C H p ns) (e : Same H H') : RuleAt C H' p ns := let ⟨d, q⟩ := h; ⟨d, e _ _ q⟩
theorem own_str {C : Addr} {H : Hp} {a : Addr} {ns : List Int} {Q : VK} {E : XK} (g : Good ns) (h1 : RuleAt C H a ns) (q : Q (.str (ruleText ns)) H) : OwnS C (spStr C) E a H Q := by
  obtain ⟨d1, e1⟩ := h1
  exact ⟨⟨d1, _, e1, a, ns, rfl, g, ⟨d1, e1⟩, q⟩⟩
theorem seqL_but {K : PySem.W.Frag} {H H' : Hp} {a b : Addr} {xs : List V} (f : Fre H b) (e : But b H H') (h : SqL K H a xs) : SqL K H' a xs := by
  rcases h with (h | ⟨o, h⟩) | h
  · exact .inl (.inl (e _ _ (ne_of_none h f.n) h))
  · exact .inl (.inr ⟨o, e _ _ (ne_of_none h f.n) h⟩)
  · exact .inr h
theorem ask_box {K : PySem.W.Frag} {H : Hp} {Q : VK} {E : XK} {a : Addr} {k o : Int} {ns : List Int} (h : SqL K H a (ns.map V.int)) (l : ns.length ≤ 63) (h0 : 0 ≤ k) (q : ∀ p H', Same H H' → Fre H p → BoxAt H' p → Q (.ref p) H') : Ask (spBox K ([.ref a, .int k, .int o] ++ []) H Q E) := ⟨a, k, o, ns, rfl, h, l, h0, q⟩
theorem ask_rule {H : Hp} {Q : VK} {E : XK} {b : Addr} (h : BoxAt H b) (q : ∀ p H' ns, Good ns → But b H H' → BoxAt H' b → Fre H p → p ≠ b → H' p = some (.lst (ns.map V.int)) → Q (.ref p) H') : Ask (spRule ([.ref b] ++ []) H Q E) := ⟨b, rfl, h, q⟩
theorem ask_made {C : Addr} {H : Hp} {Q : VK} {E : XK} {l : Addr} {ns : List Int} (g : Good ns) (h : H l = some (.lst (ns.map V.int))) (q : ∀ q H', Same H H' → Fre H q → RuleAt C H' q ns → Q (.ref q) H') : Ask (spMade C ([.ref l] ++ []) H Q E) := ⟨l, ns, rfl, g, h, q⟩
theorem ask_rtext {H : Hp} {Q : VK} {E : XK} {l : Addr} {ns : List Int} (g : Good ns) (h : H l = some (.lst (ns.map V.int))) (q : ∀ H', Same H H' → Q (.str (ruleText ns)) H') : Ask (spRText ([.ref l] ++ []) H Q E) := ⟨l, ns, rfl, g, h, q⟩

theorem ask_pick {H : Hp} {Q : VK} {E : XK} {b l : Addr} {xs : List V} (hb : BoxAt H b) (n : b ≠ l) (h : H l = some (.lst xs)) (h0 : 0 < xs.length) (h1 : xs.length < 1000) (q : ∀ x H', x ∈ xs → But b H H' → BoxAt H' b → Q x H') : Ask (spPick ([.ref b, .ref l] ++ []) H Q E) := ⟨b, l, xs, rfl, hb, n, h, h0, h1, q⟩
theorem some_v {x : V} (h : x ∈ [V.int (10 ^ (6 : Int).toNat), .int 999999, .int 12, .int 100]) : ∃ v : Int, x = .int v ∧ 1 ≤ v ∧ v ≤ 10000000 := by
  simp only [List.mem_cons, List.not_mem_nil, or_false] at h
  rcases h with rfl | rfl | rfl | rfl
  · exact ⟨_, rfl, by decide, by decide⟩
  · exact ⟨_, rfl, by decide, by decide⟩
  · exact ⟨_, rfl, by decide, by decide⟩
  · exact ⟨_, rfl, by decide, by decide⟩
theorem ix_five {k : Int} (h : 0 ≤ k ∧ k < 5) : ixN 5 k = some k.toNat := by
  obtain rfl | rfl | rfl | rfl | rfl : k = 0 ∨ k = 1 ∨ k = 2 ∨ k = 3 ∨ k = 4 := by omega
  all_goals decide +kernel
theorem good_v {ns : List Int} (g : Good ns) {j : Int} (h : 1 ≤ j ∧ j < 5) {v : Int} (lo : 1 ≤ v) (up : v ≤ 10000000) : Good (ns.set j.toNat v) := by
  obtain ⟨a0, a1, a2, a3, a4, rfl, ⟨l0, l1, l2, l3, l4⟩, u0, u1, u2, u3, u4⟩ := g
  obtain rfl | rfl | rfl | rfl : j = 1 ∨ j = 2 ∨ j = 3 ∨ j = 4 := by omega
  all_goals exact ⟨_, _, _, _, _, rfl, ⟨by omega, by omega, by omega, by omega, by omega⟩, by omega, by omega, by omega, by omega, by omega⟩
theorem good_1234 : Good [1, 2, 3, 4, 0] := ⟨_, _, _, _, _, rfl, ⟨by decide, by decide, by decide, by decide, by decide⟩, by decide, by decide, by decide, by decide, by decide⟩
theorem good_1243 : Good [1, 2, 4, 3, 0] := ⟨_, _, _, _, _, rfl, ⟨by decide, by decide, by decide, by decide, by decide⟩, by decide, by decide, by decide, by decide, by decide⟩
theorem own_any {K : PySem.W.Frag} {mg : Str → Option Value} {C : Addr} {H : Hp} {a b : Addr} {ns ms : List Int} {Q : VK} {E : XK} {neg : Bool} (ct : ClsT K mg C "Rule") (g : Good ns) (gm : Good ms) (h1 : RuleAt C H a ns) (h2 : RuleAt C H b ms) (q : Q (.bl (if neg then !decide (ns = ms) else decide (ns = ms))) H) : OwnC K C (spEqA C) E neg a (.ref b) H Q := by
  obtain ⟨d1, e1⟩ := h1
  obtain ⟨d2, e2⟩ := h2
  exact ⟨⟨d1, _, _, e1, ct.ty e2, notFirst_self, .inl ⟨a, b, ns, ms, rfl, g, gm, ⟨d1, e1⟩, ⟨d2, e2⟩, q⟩⟩⟩
theorem own_otherS {K : PySem.W.Frag} {C : Addr} {H : Hp} {a : Addr} {ns : List Int} {z : Str} {Q : VK} {E : XK} (fs : PySem.W.notFirst K C (.type "str") = true) (h1 : RuleAt C H a ns) (q : Q (.bl false) H) : OwnC K C (spEqA C) E false a (.str z) H Q := by
  obtain ⟨d1, e1⟩ := h1
  exact ⟨⟨d1, _, _, e1, .base (.str _), fs, .inr ⟨a, ns, _, rfl, ⟨d1, e1⟩, .inl ⟨_, rfl⟩, q⟩⟩⟩
theorem own_otherT {K : PySem.W.Frag} {C : Addr} {H : Hp} {a p : Addr} {xs : List V} {ns : List Int} {Q : VK} {E : XK} (ft : PySem.W.notFirst K C (.type "tuple") = true) (h1 : RuleAt C H a ns) (hp : H p = some (.tup xs)) (q : Q (.bl false) H) : OwnC K C (spEqA C) E false a (.ref p) H Q := by
  obtain ⟨d1, e1⟩ := h1
  exact ⟨⟨d1, _, _, e1, .base (.tup hp), ft, .inr ⟨a, ns, _, rfl, ⟨d1, e1⟩, .inr ⟨p, xs, rfl, hp⟩, q⟩⟩⟩
theorem br_nes {α : Type} [DecidableEq α] {x : α} {k1 k2 : Prop} (q : k2) : Br (if true = true then !decide (x = x) else decide (x = x)) k1 k2 := br_f (by rw [if_pos rfl, decide_eq_true rfl]; rfl) q
theorem text_dec {ns ms : List Int} (g : Good ns) (gm : Good ms) : decide (V.str (ruleText ns) = V.str (ruleText ms)) = decide (ns = ms) := by
  by_cases h : ns = ms
  · rw [h, decide_eq_true rfl, decide_eq_true rfl]
  · rw [decide_eq_false h, decide_eq_false fun e => h (text_inj g gm (V.str.inj e))]
theorem good_four {a0 a1 a2 a3 a4 : Int} (g : Good [a0, a1, a2, a3, a4]) : Good [a0, a1, a2, a3, 0] := by
  obtain ⟨b0, b1, b2, b3, b4, e, ⟨l0, l1, l2, l3, l4⟩, u0, u1, u2, u3, u4⟩ := g
  injection e with e0 e; injection e with e1 e; injection e with e2 e; injection e with e3 e
  exact ⟨_, _, _, _, _, rfl, ⟨by omega, by omega, by omega, by omega, by omega⟩, by omega, by omega, by omega, by omega, by omega⟩
def spLaw (K : PySem.W.Frag) : Sp := fun vs H Q _ => ∃ (a : Addr) (ns : List Int), vs = [.ref a] ∧ SqL K H a (ns.map V.int) ∧ ns.length ≤ 63 ∧ ∀ H', Q (.bl true) H'
section
local macro_rules | `(tactic| walk_at "len") => `(tactic| (simp only [List.length_map, List.length_append, List.length_cons, List.length_nil]; omega))
variable (P : Program) (W0 : World) {K : PySem.W.Frag} {mg : Str → Option Value} (base : Heap)
theorem G_law (T : Tl K mg) : FnG P W0 K mg base CX0 7 T.f_law T.d_law ["_law_script"] (spLaw K) := by
  refine fun_okG T.F_law sc_law (fun vs H Q E h => ?_) (fun cdv A outer s H vs Q E hG hr h => ?_)
  · obtain ⟨a, ns, rfl, _⟩ := h
    rfl
  · obtain ⟨a, ns, rfl, hS, hl, q⟩ := h
    obtain ⟨ds5, v5, b5⟩ := T.b_init5
    have hu64 := Room.units hr
    have cl := T.c_Rule.cl
    have n0 := T.n0
    have n1 := T.n1
    have n2 := T.n2
    have n3 := T.n3
    have n4 := T.n4
    refine ⟨_, (pss_cons (s_for PassesOwn.never (by rfl) (i_range1 (by rfl) T.range (pa_cons (pe_callB (k_max (by rfl)) (by rfl) T.max (by decide +kernel) (pa_cons pe_int (pa_cons (pe_callB (k_min (by rfl)) (by rfl) T.min (by decide +kernel) (pa_cons pe_int (pa_cons (pe_callB k_len (by rfl) T.len PySem.boot_len (pa_cons (c_var 0) pa_nil)) pa_nil))) pa_nil))) pa_nil)) (pg_name (i := 1) sc_law.nd rfl (Or.inl rfl)) (pss_cons (s_par (i := 2) (j := 3) (by rfl) sc_law.nd rfl rfl (by decide) rfl rfl (pa_cons (e_call (G_box P W0 base T.toTy.toTx) (hr.mono (by decide)) (by rfl) T.g_box T.F_box.kp T.b_box .nil pass0 (pa_cons (c_var 0) (pa_cons (c_var 1) (pa_cons pe_int pa_nil)))) (pa_cons (e_make T.mkR (G_init P W0 base T.toTy.toTx) (hr.mono (by decide)) (by rfl) T.c_Rule.g b5 v5 pass0 (pa_cons pe_int (pa_cons pe_int (pa_cons pe_int (pa_cons pe_int pa_nil))))) pa_nil)) (by rfl))
    (pss_one (s_for PassesOwn.never (by rfl) (i_range1 (by rfl) T.range (pa_cons pe_int pa_nil)) (pg_name (i := 4) sc_law.nd rfl (Or.inl rfl)) (pss_cons (ps_set (i := 5) sc_law.nd rfl (Or.inl rfl) (e_call (G_rule P W0 base T.toTy.toTx) (hr.mono (by decide)) (by rfl) T.g_rule T.F_rule.kp T.b_rule .nil pass0 (pa_cons (c_var 2) pa_nil)))
    (pss_cons (s_if (t_cmp (c_eq hu64) (e_call (G_take P W0 base T.toTy.toTx) (hr.mono (by decide)) (by rfl) T.g_take T.F_take.kp T.b_take .nil pass0 (pa_cons (c_var 2) (pa_cons pe_int pa_nil))) pe_int (nomark _)) (pss_one (ps_asg (e_call (G_pick P W0 base T.toTy) (hr.mono (by decide)) (by rfl) T.g_pick T.F_pick.kp T.b_pick .nil pass0 (pa_cons (c_var 2) (pa_cons (e_lst (pa_cons (pe_op c_pow pe_int pe_int) (pa_cons pe_int (pa_cons pe_int (pa_cons pe_int pa_nil))))) pa_nil))) (pg_sub (c_var 5) (pe_op c_add pe_int (e_call (G_take P W0 base T.toTy.toTx) (hr.mono (by decide)) (by rfl) T.g_take T.F_take.kp T.b_take .nil pass0 (pa_cons (c_var 2) (pa_cons pe_int pa_nil)))) p_set))) pss_nil)
    (pss_cons (s_par (i := 6) (j := 7) (by rfl) sc_law.nd rfl rfl (by decide) rfl rfl (pa_cons (e_call (G_made P W0 base T.toTy) (hr.mono (by decide)) (by rfl) T.g_made T.F_made.kp T.b_made .nil pass0 (pa_cons (c_var 5) pa_nil)) (pa_cons (e_call (G_rtext P W0 base T.toTy) (hr.mono (by decide)) (by rfl) T.g_rtext T.F_rtext.kp T.b_rtext .nil pass0 (pa_cons (c_var 5) pa_nil)) pa_nil)) (by rfl))
    (pss_cons (ps_set (i := 8) sc_law.nd rfl (Or.inl rfl) (e_lst (pa_cons (e_fld (c_var 6)) (pa_cons (e_fld (c_var 6)) (pa_cons (e_fld (c_var 6)) (pa_cons (e_fld (c_var 6)) (pa_cons (e_fld (c_var 6)) pa_nil)))))))
    (pss_cons (s_if (PW.pt (w_or (t_cmp (c_ne hu64) (pe_callB (k_repr (by exact guards_deeper.trans hG) hu64) (by rfl) T.repr (by decide +kernel) (pa_cons (c_var 8) pa_nil)) (pe_callB (k_repr (by exact guards_deeper.trans hG) hu64) (by rfl) T.repr (by decide +kernel) (pa_cons (c_var 5) pa_nil)) (nomark _)) (w_or1 (t_cmp (c_ne hu64) (pe_callTy (k_strO (G_str P W0 base T.toTy.toTx) T.b_str pass0 (hr.mono (by decide)) T.i_str T.j_str) (by rfl) T.str (by decide +kernel) (pa_cons (c_var 6) pa_nil)) (c_var 7) (nomark _))))) (pss_one (ps_ret pe_bl)) pss_nil)
    (pss_cons (s_if (PW.pt (w_or (t_cmp (c_eqO (G_eqA P W0 base T) T.b_eq pass0 (hr.mono (by decide)) T.i_eq T.j_eq) (c_var 6) (c_var 7) (nomark _)) (w_or (t_cmp (c_eqO (G_eqA P W0 base T) T.b_eq pass0 (hr.mono (by decide)) T.i_eq T.j_eq) (c_var 6) (pe_callTy k_tuple (by rfl) T.tuple (by decide +kernel) (pa_cons (c_var 5) pa_nil)) (nomark _)) (w_or1 (t_cmp (c_neO (G_eqA P W0 base T) T.b_eq pass0 (hr.mono (by decide)) T.c_Rule.hm T.i_eq T.i_ne T.j_eq) (e_call (G_made P W0 base T.toTy) (hr.mono (by decide)) (by rfl) T.g_made T.F_made.kp T.b_made .nil pass0 (pa_cons (pe_callTy k_list (by rfl) T.list (by decide +kernel) (pa_cons (c_var 5) pa_nil)) pa_nil)) (c_var 6) (nomark _)))))) (pss_one (ps_ret pe_bl)) pss_nil)
    (pss_cons (s_if (PW.pt (w_or (t_cmp (c_ne hu64) (pe_cmpR (c_eqO (G_eqA P W0 base T) T.b_eq pass0 (hr.mono (by decide)) T.i_eq T.j_eq) (c_var 3) (c_var 6) (nomark _)) (pe_cmpR (c_eq hu64) (pe_callTy (k_strO (G_str P W0 base T.toTy.toTx) T.b_str pass0 (hr.mono (by decide)) T.i_str T.j_str) (by rfl) T.str (by decide +kernel) (pa_cons (c_var 3) pa_nil)) (c_var 7) (nomark _)) (nomark _)) (w_or1 (t_cmp (c_ne hu64) (pe_cmpR (c_neO (G_eqA P W0 base T) T.b_eq pass0 (hr.mono (by decide)) T.c_Rule.hm T.i_eq T.i_ne T.j_eq) (c_var 3) (c_var 6) (nomark _)) (pe_cmpR (c_ne hu64) (pe_callTy (k_strO (G_str P W0 base T.toTy.toTx) T.b_str pass0 (hr.mono (by decide)) T.i_str T.j_str) (by rfl) T.str (by decide +kernel) (pa_cons (c_var 3) pa_nil)) (c_var 7) (nomark _)) (nomark _))))) (pss_one (ps_ret pe_bl)) pss_nil)
    (pss_cons (s_if (t_cmp (c_ne hu64) (e_fld (e_make T.mkR (G_init P W0 base T.toTy.toTx) (hr.mono (by decide)) (by rfl) T.c_Rule.g b5 v5 pass0 (pa_cons (pe_ix (c_ixK (K := K) rfl) (c_var 5) pe_int (fun _ _ => rfl)) (pa_cons (pe_ix (c_ixK (K := K) rfl) (c_var 5) pe_int (fun _ _ => rfl)) (pa_cons (pe_ix (c_ixK (K := K) rfl) (c_var 5) pe_int (fun _ _ => rfl)) (pa_cons (pe_ix (c_ixK (K := K) rfl) (c_var 5) pe_int (fun _ _ => rfl)) pa_nil)))))) pe_int (nomark _)) (pss_one (ps_ret pe_bl)) pss_nil)
    (pss_one (ps_set (i := 3) sc_law.nd rfl (Or.inl rfl) (c_var 6)))))))))))))))
    (pss_one (ps_ret (e_and (pe_cmpR (c_eq hu64) (pe_callTy (k_strO (G_str P W0 base T.toTy.toTx) T.b_str pass0 (hr.mono (by decide)) T.i_str T.j_str) (by rfl) T.str (by decide +kernel) (pa_cons (e_make T.mkR (G_init P W0 base T.toTy.toTx) (hr.mono (by decide)) (by rfl) T.c_Rule.g b5 v5 pass0 (pa_cons pe_int (pa_cons pe_int (pa_cons pe_int (pa_cons pe_int pa_nil))))) pa_nil)) pe_str (nomark _)) (pe_one (pe_cmpR (c_neO (G_eqA P W0 base T) T.b_eq pass0 (hr.mono (by decide)) T.c_Rule.hm T.i_eq T.i_ne T.j_eq) (e_make T.mkR (G_init P W0 base T.toTy.toTx) (hr.mono (by decide)) (by rfl) T.c_Rule.g b5 v5 pass0 (pa_cons pe_int (pa_cons pe_int (pa_cons pe_int (pa_cons pe_int pa_nil))))) (e_make T.mkR (G_init P W0 base T.toTy.toTx) (hr.mono (by decide)) (by rfl) T.c_Rule.g b5 v5 pass0 (pa_cons pe_int (pa_cons pe_int (pa_cons pe_int (pa_cons pe_int pa_nil))))) (nomark _))))))), ?_⟩
    (conv => whnf)
    refine Sq.l hS ?_
    walk_at "go"
    refine fw_range (fun i σ H' => ∃ v1 v2 v3 v4 v5 v6 v7 v8 : Option V, σ = [some (.ref a), v1, v2, v3, v4, v5, v6, v7, v8] ∧ SqL K H' a (ns.map V.int)) ⟨_, _, _, _, _, _, _, _, rfl, hS⟩ ?_ ?_
    rotate_left
    · rintro σ H1 ⟨v1, v2, v3, v4, v5, v6, v7, v8, rfl, hS1⟩
      walk_at "go"
      refine ask_init2 (ns := [1, 2, 3, 4, 0]) rfl good_1234 (fun r1 H2 e2 f2 hr1 => ?_)
      walk_at "go"
      refine own_str good_1234 hr1 ?_
      walk_at "go"
      refine ask_init2 (ns := [1, 2, 3, 4, 0]) rfl good_1234 (fun r2 H3 e3 f3 hr2 => ?_)
      walk_at "go"
      refine ask_init2 (ns := [1, 2, 4, 3, 0]) rfl good_1243 (fun r3 H4 e4 f4 hr3 => ?_)
      walk_at "go"
      refine own_any T.c_Rule good_1234 good_1243 (hr2.same e4) hr3 ?_
      walk_at "go"
      exact q _
    rintro i σ H1 hi ⟨v1, v2, v3, v4, v5, v6, v7, v8, rfl, hS1⟩
    walk_at "go"
    refine ask_box hS1 hl (by omega) (fun b H2 e2 f2 hb2 => ?_)
    have hS2 := Same.seq e2 hS1
    walk_at "go"
    refine ask_init2 (ns := [1, 1, 1, 1, 0]) rfl good_one (fun r0 H3 e3 f3 hr0 => ?_)
    have nr0 : r0 ≠ b := BoxAt.ne f3 hb2
    walk_at "go"
    refine fw_range (fun i2 σ H' => ∃ (rb : Addr) (ms : List Int) (v4 v5 v6 v7 v8 : Option V), σ = [some (.ref a), some (.int (0 + (i : Int))), some (.ref b), some (.ref rb), v4, v5, v6, v7, v8] ∧ But b H1 H' ∧ BoxAt H' b ∧ Good ms ∧ RuleAt T.C H' rb ms ∧ rb ≠ b) ⟨r0, _, _, _, _, _, _, rfl, But.ofS (Same.tr e2 e3), hb2.same e3, good_one, hr0, nr0⟩ ?_ ?_
    rotate_left
    · rintro σ H4 ⟨rb, ms, v4, v5, v6, v7, v8, rfl, e4, _⟩
      exact ⟨_, _, _, _, _, _, _, _, rfl, seqL_but f2 e4 hS1⟩
    rintro i2 σ H4 hi2 ⟨rb, ms, v4, v5, v6, v7, v8, rfl, e4, hb4, gm, hrb, nrb⟩
    walk_at "go"
    refine ask_rule hb4 (fun p1 H5 n1 g1 e5 hb5 f5 np1 h1 => ?_)
    have hrb5 : RuleAt T.C H5 rb ms := let ⟨d, x⟩ := hrb; ⟨d, e5 _ _ nrb x⟩
    have e15 := e4.tr e5
    walk_at "go"
    refine ask_take hb5 (by decide) (by decide) (fun d H6 h0 h3 e6 hb6 => ?_)
    have hrb6 : RuleAt T.C H6 rb ms := let ⟨d, x⟩ := hrb5; ⟨d, e6 _ _ nrb x⟩
    have h16 := e6 _ _ np1 h1
    have e16 := e15.tr e6
    walk_at "go"
    refine Br.mk (fun hx => ?_) (fun hx => ?_)
    · walk_at "go"
      rename_i q1 hq1
      refine ask_pick (hb6.new hq1) (BoxAt.ne hq1 hb6).symm upd_same (by decide) (by decide) (fun x H7 hx7 e7 hb7 => ?_)
      walk_at "go"
      refine ask_take hb7 (by decide) (by decide) (fun d2 H8 y0 y3 e8 hb8 => ?_)
      walk_at "go"
      obtain ⟨v, rfl, lo, up⟩ := some_v hx7
      have h17 : H7 p1 = some (.lst (n1.map V.int)) := e7 _ _ np1 (upd_to (ne_fresh hq1 h16) h16)
      have h18 := e8 _ _ np1 h17
      have hl5 : (n1.map V.int).length = 5 := by rw [List.length_map, g1.len]
      refine SetL.mk ⟨_, (1 + d2).toNat, h18, by rw [hl5]; exact ix_five (by omega), ?_⟩
      have g2 : Good (n1.set (1 + d2).toNat v) := good_v g1 (by omega) lo up
      have fp1 : Fre H4 p1 := f5
      obtain ⟨H9, hH9⟩ : ∃ H9, H9 = upd H8 p1 (.lst ((n1.map V.int).set (1 + d2).toNat (.int v))) := ⟨_, rfl⟩
      rw [← hH9]
      have h29 : H9 p1 = some (.lst ((n1.set (1 + d2).toNat v).map V.int)) := by rw [hH9, upd_same, List.map_set]
      have hb9 : BoxAt H9 b := by rw [hH9]; exact hb8.up np1.symm
      have up9 : ∀ a o, a ≠ b → H4 a = some o → H9 a = some o := fun a o n h => by
        rw [hH9, upd_ne (ne_fresh fp1 h)]
        have z := e6 _ _ n (e5 _ _ n h)
        exact e8 _ _ n (e7 _ _ n (upd_to (ne_fresh hq1 z) z))
      have e19 : But b H1 H9 := e4.tr (fun a o n h => up9 a o n h)
      have hrb9 : RuleAt T.C H9 rb ms := let ⟨d, x⟩ := hrb; ⟨d, up9 _ _ nrb x⟩
      clear hH9 h18 h17 hrb6 hrb5 hx7
      generalize n1.set (1 + d2).toNat v = n2 at g2 h29
      walk_at "go"
      have g2' := g2
      obtain ⟨a0, a1, a2, a3, a4, rfl, _⟩ := g2'
      refine ask_made g2 h29 (fun r1 H10 e10 f10 hr1 => ?_)
      walk_at "go"
      refine ask_rtext g2 (e10 _ _ h29) (fun H11 e11 => ?_)
      have hr11 : RuleAt T.C H11 r1 [a0, a1, a2, a3, a4] := hr1.same e11
      have hrb11 := (hrb9.same e10).same e11
      have h211 := e11 _ _ (e10 _ _ h29)
      obtain ⟨d1, hq11⟩ := id hr11
      have e111 := (e19.trS e10).trS e11
      have hb11 := (hb9.same e10).same e11
      have nr1 : r1 ≠ b := BoxAt.ne f10 hb9
      clear hr1 hrb9 h29 hb9 e19
      walk_at "go"
      rename_i q5 hq5
      refine rep_five (ns := [a0, a1, a2, a3, a4]) g2 upd_same ?_
      walk_at "go"
      refine rep_five (ns := [a0, a1, a2, a3, a4]) g2 (upd_to (ne_fresh hq5 h211) h211) ?_
      walk_at "go"
      refine br_nes ?_
      walk_at "go"
      have s5 : Same H11 (upd H11 q5 (.lst [.int a0, .int a1, .int a2, .int a3, .int a4])) := Same.fresh (Same.refl _) hq5
      obtain ⟨H12, hH12⟩ : ∃ H12, H12 = upd H11 q5 (.lst [.int a0, .int a1, .int a2, .int a3, .int a4]) := ⟨_, rfl⟩
      rw [← hH12] at s5 ⊢
      have h212 := s5 _ _ h211
      refine own_str g2 (hr11.same s5) ?_
      walk_at "go"
      refine br_nes ?_
      walk_at "go"
      refine own_otherS T.fs (hr11.same s5) ?_
      walk_at "go"
      refine TupR.mk ⟨_, .inl ⟨SqL.of h212, ?_⟩⟩
      walk_at "go"
      rename_i q6 hq6
      have s6 : Same H12 (upd H12 q6 (.tup ([a0, a1, a2, a3, a4].map V.int))) := Same.fresh (Same.refl _) hq6
      refine own_otherT T.ft ((hr11.same s5).same s6) upd_same ?_
      walk_at "go"
      obtain ⟨H13, hH13⟩ : ∃ H13, H13 = upd H12 q6 (.tup ([a0, a1, a2, a3, a4].map V.int)) := ⟨_, rfl⟩
      rw [← hH13] at s6 ⊢
      have h213 := s6 _ _ h212
      have s56 := Same.tr s5 s6
      walk_at "go"
      rename_i q7 hq7
      rw [← hH13] at hq7
      refine ask_made g2 upd_same (fun r2 H14 e14 f14 hr2 => ?_)
      have S14 : Same H11 H14 := Same.tr (Same.tr s56 (Same.fresh (Same.refl H13) hq7)) e14
      refine own_any T.c_Rule g2 g2 hr2 (hr11.same S14) ?_
      walk_at "go"
      refine br_nes ?_
      walk_at "go"
      refine own_any T.c_Rule gm g2 (hrb11.same S14) (hr11.same S14) ?_
      walk_at "go"
      refine own_str gm (hrb11.same S14) ?_
      walk_at "go"
      have td := text_dec gm g2
      refine br_f (by rw [td]; generalize decide (ms = [a0, a1, a2, a3, a4]) = c; cases c <;> rfl) ?_
      walk_at "go"
      refine own_any T.c_Rule gm g2 (hrb11.same S14) (hr11.same S14) ?_
      walk_at "go"
      refine own_str gm (hrb11.same S14) ?_
      walk_at "go"
      refine br_f (by rw [td]; generalize decide (ms = [a0, a1, a2, a3, a4]) = c; cases c <;> rfl) ?_
      have h214 := S14 _ _ h211
      walk_at "go"
      refine ask_init2 (ns := [a0, a1, a2, a3, 0]) rfl (good_four g2) (fun r4 H15 e15 f15 hr4 => ?_)
      obtain ⟨d4, hq4⟩ := hr4
      walk_at "go"
      have S15 := Same.tr S14 e15
      exact ⟨r1, _, _, _, _, _, _, rfl, e111.trS S15, hb11.same S15, g2, hr11.same S15, nr1⟩
    · obtain ⟨n2, e⟩ : ∃ n2, n2 = n1 := ⟨_, rfl⟩
      subst e
      have g2 := g1
      have h29 := h16
      have hb9 := hb6
      have e19 := e16
      have hrb9 := hrb6
      walk_at "go"
      have g2' := g2
      obtain ⟨a0, a1, a2, a3, a4, rfl, _⟩ := g2'
      refine ask_made g2 h29 (fun r1 H10 e10 f10 hr1 => ?_)
      walk_at "go"
      refine ask_rtext g2 (e10 _ _ h29) (fun H11 e11 => ?_)
      have hr11 : RuleAt T.C H11 r1 [a0, a1, a2, a3, a4] := hr1.same e11
      have hrb11 := (hrb9.same e10).same e11
      have h211 := e11 _ _ (e10 _ _ h29)
      obtain ⟨d1, hq11⟩ := id hr11
      have e111 := (e19.trS e10).trS e11
      have hb11 := (hb9.same e10).same e11
      have nr1 : r1 ≠ b := BoxAt.ne f10 hb9
      clear hr1 hrb9 h29 hb9 e19
      walk_at "go"
      rename_i q5 hq5
      refine rep_five (ns := [a0, a1, a2, a3, a4]) g2 upd_same ?_
      walk_at "go"
      refine rep_five (ns := [a0, a1, a2, a3, a4]) g2 (upd_to (ne_fresh hq5 h211) h211) ?_
      walk_at "go"
      refine br_nes ?_
      walk_at "go"
      have s5 : Same H11 (upd H11 q5 (.lst [.int a0, .int a1, .int a2, .int a3, .int a4])) := Same.fresh (Same.refl _) hq5
      obtain ⟨H12, hH12⟩ : ∃ H12, H12 = upd H11 q5 (.lst [.int a0, .int a1, .int a2, .int a3, .int a4]) := ⟨_, rfl⟩
      rw [← hH12] at s5 ⊢
      have h212 := s5 _ _ h211
      refine own_str g2 (hr11.same s5) ?_
      walk_at "go"
      refine br_nes ?_
      walk_at "go"
      refine own_otherS T.fs (hr11.same s5) ?_
      walk_at "go"
      refine TupR.mk ⟨_, .inl ⟨SqL.of h212, ?_⟩⟩
      walk_at "go"
      rename_i q6 hq6
      have s6 : Same H12 (upd H12 q6 (.tup ([a0, a1, a2, a3, a4].map V.int))) := Same.fresh (Same.refl _) hq6
      refine own_otherT T.ft ((hr11.same s5).same s6) upd_same ?_
      walk_at "go"
      obtain ⟨H13, hH13⟩ : ∃ H13, H13 = upd H12 q6 (.tup ([a0, a1, a2, a3, a4].map V.int)) := ⟨_, rfl⟩
      rw [← hH13] at s6 ⊢
      have h213 := s6 _ _ h212
      have s56 := Same.tr s5 s6
      walk_at "go"
      rename_i q7 hq7
      rw [← hH13] at hq7
      refine ask_made g2 upd_same (fun r2 H14 e14 f14 hr2 => ?_)
      have S14 : Same H11 H14 := Same.tr (Same.tr s56 (Same.fresh (Same.refl H13) hq7)) e14
      refine own_any T.c_Rule g2 g2 hr2 (hr11.same S14) ?_
      walk_at "go"
      refine br_nes ?_
      walk_at "go"
      refine own_any T.c_Rule gm g2 (hrb11.same S14) (hr11.same S14) ?_
      walk_at "go"
      refine own_str gm (hrb11.same S14) ?_
      walk_at "go"
      have td := text_dec gm g2
      refine br_f (by rw [td]; generalize decide (ms = [a0, a1, a2, a3, a4]) = c; cases c <;> rfl) ?_
      walk_at "go"
      refine own_any T.c_Rule gm g2 (hrb11.same S14) (hr11.same S14) ?_
      walk_at "go"
      refine own_str gm (hrb11.same S14) ?_
      walk_at "go"
      refine br_f (by rw [td]; generalize decide (ms = [a0, a1, a2, a3, a4]) = c; cases c <;> rfl) ?_
      have h214 := S14 _ _ h211
      walk_at "go"
      refine ask_init2 (ns := [a0, a1, a2, a3, 0]) rfl (good_four g2) (fun r4 H15 e15 f15 hr4 => ?_)
      obtain ⟨d4, hq4⟩ := hr4
      walk_at "go"
      have S15 := Same.tr S14 e15
      exact ⟨r1, _, _, _, _, _, _, rfl, e111.trS S15, hb11.same S15, g2, hr11.same S15, nr1⟩
end
end My

set_option Elab.async false
set_option linter.all false
set_option maxRecDepth 100000
set_option maxHeartbeats 800000
namespace My
open PySem PySem.Spec PyProof.Rows L2 RZ SkE CL
theorem b6_of {K : PySem.W.Frag} {fd : FuncData} {ps : List Str} (h : ∃ ds, Vals [] ds ∧ Binds K fd ps ds) : Binds K fd ps [] := by
  obtain ⟨ds, v, b⟩ := h
  cases v
  exact b
theorem all_mk {l : PySem.W.OpenLaw} {w : World} {K : PySem.W.Frag} {h : Heap} {mg : Str → Option Value} {fa C aW f_init Td f_law f_box f_take f_rule f_intfrom f_numfor f_pick f_made f_rtext f_eq f_str : Addr} (X : K.In h) (G : h.Ns mainGlobals mg) (hfa : mg "law" = some (.ref fa))
    {od_box an_box od_take an_take od_rule an_rule od_intfrom an_intfrom od_numfor an_numfor od_pick an_pick od_made an_made od_rtext an_rtext od_eq an_eq od_str an_str od_init an_init odT od_law an_law odW : Option Addr} {sl_box sl_take sl_rule sl_intfrom sl_numfor sl_pick sl_made sl_rtext sl_eq sl_str sl_init slT sl_law slW : Array (Option Value)} {oc_box kV_box dc_box pm_box cd_box ct_box oc_take kV_take dc_take pm_take cd_take ct_take oc_rule kV_rule dc_rule pm_rule cd_rule ct_rule oc_intfrom kV_intfrom dc_intfrom pm_intfrom cd_intfrom ct_intfrom oc_numfor kV_numfor dc_numfor pm_numfor cd_numfor ct_numfor oc_pick kV_pick dc_pick pm_pick cd_pick ct_pick oc_made kV_made dc_made pm_made cd_made ct_made oc_rtext kV_rtext dc_rtext pm_rtext cd_rtext ct_rtext oc_eq kV_eq dc_eq pm_eq cd_eq ct_eq oc_str kV_str dc_str pm_str cd_str ct_str oc_init kV_init dc_init pm_init cd_init ct_init ocT oc_law kV_law dc_law pm_law cd_law ct_law : Value} {mT mW : Nat} {t0 t1 t2 t3 t4 t5 : Tok}
    (aC : PySem.W.nsIn K mainGlobals "Rule" = some (some (.ref C)))
    (a_box : PySem.W.nsIn K mainGlobals "_law_box" = some (some (.ref f_box)))
    (l_box : K.lookup f_box = some ⟨oc_box, od_box, .func (PySem.W.fnOf "_law_box" "_law_box" (defArgs s_l_box) (defBody s_l_box) (defScope s_l_box) .none kV_box dc_box pm_box an_box cd_box ct_box), sl_box⟩)
    (c_box : PySem.W.codeIn K cd_box "_law_box" = true)
    (k_box : PySem.W.keepIn K (.ref f_box) = true)
    (a_take : PySem.W.nsIn K mainGlobals "_law_take" = some (some (.ref f_take)))
    (l_take : K.lookup f_take = some ⟨oc_take, od_take, .func (PySem.W.fnOf "_law_take" "_law_take" (defArgs s_l_take) (defBody s_l_take) (defScope s_l_take) .none kV_take dc_take pm_take an_take cd_take ct_take), sl_take⟩)
    (c_take : PySem.W.codeIn K cd_take "_law_take" = true)
    (k_take : PySem.W.keepIn K (.ref f_take) = true)
    (a_rule : PySem.W.nsIn K mainGlobals "_law_rule" = some (some (.ref f_rule)))
    (l_rule : K.lookup f_rule = some ⟨oc_rule, od_rule, .func (PySem.W.fnOf "_law_rule" "_law_rule" (defArgs s_l_rule) (defBody s_l_rule) (defScope s_l_rule) .none kV_rule dc_rule pm_rule an_rule cd_rule ct_rule), sl_rule⟩)
    (c_rule : PySem.W.codeIn K cd_rule "_law_rule" = true)
    (k_rule : PySem.W.keepIn K (.ref f_rule) = true)
    (a_intfrom : PySem.W.nsIn K mainGlobals "is_integer_from" = some (some (.ref f_intfrom)))
    (l_intfrom : K.lookup f_intfrom = some ⟨oc_intfrom, od_intfrom, .func (PySem.W.fnOf "is_integer_from" "is_integer_from" (defArgs s_is_integer_from) (defBody s_is_integer_from) (defScope s_is_integer_from) .none kV_intfrom dc_intfrom pm_intfrom an_intfrom cd_intfrom ct_intfrom), sl_intfrom⟩)
    (c_intfrom : PySem.W.codeIn K cd_intfrom "is_integer_from" = true)
    (k_intfrom : PySem.W.keepIn K (.ref f_intfrom) = true)
    (a_numfor : PySem.W.nsIn K mainGlobals "is_number_for" = some (some (.ref f_numfor)))
    (l_numfor : K.lookup f_numfor = some ⟨oc_numfor, od_numfor, .func (PySem.W.fnOf "is_number_for" "is_number_for" (defArgs s_is_number_for) (defBody s_is_number_for) (defScope s_is_number_for) .none kV_numfor dc_numfor pm_numfor an_numfor cd_numfor ct_numfor), sl_numfor⟩)
    (c_numfor : PySem.W.codeIn K cd_numfor "is_number_for" = true)
    (k_numfor : PySem.W.keepIn K (.ref f_numfor) = true)
    (a_pick : PySem.W.nsIn K mainGlobals "_law_pick" = some (some (.ref f_pick)))
    (l_pick : K.lookup f_pick = some ⟨oc_pick, od_pick, .func (PySem.W.fnOf "_law_pick" "_law_pick" (defArgs s_l_pick) (defBody s_l_pick) (defScope s_l_pick) .none kV_pick dc_pick pm_pick an_pick cd_pick ct_pick), sl_pick⟩)
    (c_pick : PySem.W.codeIn K cd_pick "_law_pick" = true)
    (k_pick : PySem.W.keepIn K (.ref f_pick) = true)
    (a_made : PySem.W.nsIn K mainGlobals "_law_made" = some (some (.ref f_made)))
    (l_made : K.lookup f_made = some ⟨oc_made, od_made, .func (PySem.W.fnOf "_law_made" "_law_made" (defArgs s_l_made) (defBody s_l_made) (defScope s_l_made) .none kV_made dc_made pm_made an_made cd_made ct_made), sl_made⟩)
    (c_made : PySem.W.codeIn K cd_made "_law_made" = true)
    (k_made : PySem.W.keepIn K (.ref f_made) = true)
    (a_rtext : PySem.W.nsIn K mainGlobals "_law_rule_text" = some (some (.ref f_rtext)))
    (l_rtext : K.lookup f_rtext = some ⟨oc_rtext, od_rtext, .func (PySem.W.fnOf "_law_rule_text" "_law_rule_text" (defArgs s_l_rule_text) (defBody s_l_rule_text) (defScope s_l_rule_text) .none kV_rtext dc_rtext pm_rtext an_rtext cd_rtext ct_rtext), sl_rtext⟩)
    (c_rtext : PySem.W.codeIn K cd_rtext "_law_rule_text" = true)
    (k_rtext : PySem.W.keepIn K (.ref f_rtext) = true)
    (a_eq : PySem.W.findIn K (.ref C) "__eq__" = some (some (.ref f_eq)))
    (i_eq : PySem.W.isFn K (.ref f_eq) = true)
    (l_eq : K.lookup f_eq = some ⟨oc_eq, od_eq, .func (PySem.W.fnOf "__eq__" "Rule.__eq__" (defArgs s_Rule_eq) (defBody s_Rule_eq) (defScope s_Rule_eq) .none kV_eq dc_eq pm_eq an_eq cd_eq ct_eq), sl_eq⟩)
    (c_eq : PySem.W.codeIn K cd_eq "Rule.__eq__" = true)
    (k_eq : PySem.W.keepIn K (.ref f_eq) = true)
    (a_str : PySem.W.findIn K (.ref C) "__str__" = some (some (.ref f_str)))
    (i_str : PySem.W.isFn K (.ref f_str) = true)
    (l_str : K.lookup f_str = some ⟨oc_str, od_str, .func (PySem.W.fnOf "__str__" "Rule.__str__" (defArgs s_Rule_str) (defBody s_Rule_str) (defScope s_Rule_str) .none kV_str dc_str pm_str an_str cd_str ct_str), sl_str⟩)
    (c_str : PySem.W.codeIn K cd_str "Rule.__str__" = true)
    (k_str : PySem.W.keepIn K (.ref f_str) = true)
    (a_init : PySem.W.findIn K (.ref C) "__init__" = some (some (.ref f_init)))
    (i_init : PySem.W.isFn K (.ref f_init) = true)
    (l_init : K.lookup f_init = some ⟨oc_init, od_init, .func (PySem.W.fnOf "__init__" "Rule.__init__" (defArgs s_Rule_init) (defBody s_Rule_init) (defScope s_Rule_init) (.ref Td) kV_init dc_init pm_init an_init cd_init ct_init), sl_init⟩)
    (c_init : PySem.W.codeIn K cd_init "Rule.__init__" = true)
    (k_init : PySem.W.keepIn K (.ref f_init) = true)
    (lT : K.lookup Td = some ⟨ocT, odT, .seq #[.int 0 t0] mT, slT⟩)
    (a_law : PySem.W.nsIn K mainGlobals "law" = some (some (.ref f_law)))
    (l_law : K.lookup f_law = some ⟨oc_law, od_law, .func (PySem.W.fnOf "law" "law" (defArgs s_law) (defBody s_law) (defScope s_law) .none kV_law dc_law pm_law an_law cd_law ct_law), sl_law⟩)
    (c_law : PySem.W.codeIn K cd_law "law" = true)
    (k_law : PySem.W.keepIn K (.ref f_law) = true)
    (a_ne : PySem.W.findIn K (.ref C) "__ne__" = some (some (.builtin "object.__ne__")))
    (pg : PySem.W.plainGet K C Str.empty = true)
    (hd : PySem.W.hasDictIn K C = true)
    (po : PySem.W.plainOver K C = true)
    (sa : PySem.W.findIn K (.ref C) "__setattr__" = some (some (.builtin "object.__setattr__")))
    (mk : PySem.W.makesIn K C = true)
    (kc : PySem.W.keepIn K (.ref C) = true)
    (ha : PySem.W.findIn K (.ref C) "__class__" = some (some (.builtin "object.__class__")))
    (hn : PySem.W.specialIn K (.builtin "object.__class__") "__get__" = some (some (.builtin "getset_descriptor.__get__")))
    (ht : PySem.W.takesIn K (.builtin "object.__class__") = some true)
    (hm : PySem.W.mroIn K C (.type "object") = some true)
    (N0 : PySem.W.findIn K (.ref C) "seats" = some none)
    (N1 : PySem.W.findIn K (.ref C) "lapse" = some none)
    (N2 : PySem.W.findIn K (.ref C) "beat" = some none)
    (N3 : PySem.W.findIn K (.ref C) "grace" = some none)
    (N4 : PySem.W.findIn K (.ref C) "late" = some none)
    (z_len : PySem.W.nsIn K mainGlobals "len" = some none)
    (z_int : PySem.W.nsIn K mainGlobals "int" = some none)
    (z_abs : PySem.W.nsIn K mainGlobals "abs" = some none)
    (z_isinstance : PySem.W.nsIn K mainGlobals "isinstance" = some none)
    (z_bool : PySem.W.nsIn K mainGlobals "bool" = some none)
    (z_zip : PySem.W.nsIn K mainGlobals "zip" = some none)
    (z_list : PySem.W.nsIn K mainGlobals "list" = some none)
    (z_range : PySem.W.nsIn K mainGlobals "range" = some none)
    (z_str : PySem.W.nsIn K mainGlobals "str" = some none)
    (z_max : PySem.W.nsIn K mainGlobals "max" = some none)
    (z_min : PySem.W.nsIn K mainGlobals "min" = some none)
    (z_tuple : PySem.W.nsIn K mainGlobals "tuple" = some none)
    (z_repr : PySem.W.nsIn K mainGlobals "repr" = some none)
    (aW_ : PySem.W.nsIn K mainGlobals "WORDS" = some (some (.ref aW)))
    (lW : K.lookup aW = some ⟨.type "tuple", odW, .seq #[.str "seats" t1, .str "lapse" t2, .str "beat" t3, .str "grace" t4, .str "late" t5] mW, slW⟩)
    (ks : PySem.W.kitOne K (.type "str") (.ref C) = some false)
    (kt : PySem.W.kitOne K (.type "tuple") (.ref C) = some false)
    (fs : PySem.W.notFirst K C (.type "str") = true)
    (ft : PySem.W.notFirst K C (.type "tuple") = true) :
    ∃ fd : FuncData, (∀ (s : Shared) (v : Value), BindsTo s fd ⟨[v], []⟩ [("_law_script", v)]) ∧ ∀ base : Heap, K.In base → base.Ns mainGlobals mg → FnG l.prog w K mg base CX0 7 fa fd ["_law_script"] (spLaw K) := by
  have e := hfa.symm.trans (PySem.W.mg_of X G a_law)
  cases e
  have F_box := fun_mk (st := s_l_box) l_box c_box k_box
  have b_box := F_box.binds (ps := ["_law_script", "_law_k", "_law_own"]) fun _ _ _ _ _ _ us hl => match us, hl with | [_, _, _], _ => rfl
  have F_take := fun_mk (st := s_l_take) l_take c_take k_take
  have b_take := F_take.binds (ps := ["_law_box_here", "_law_bound"]) fun _ _ _ _ _ _ us hl => match us, hl with | [_, _], _ => rfl
  have F_rule := fun_mk (st := s_l_rule) l_rule c_rule k_rule
  have b_rule := F_rule.binds (ps := ["_law_box_here"]) fun _ _ _ _ _ _ us hl => match us, hl with | [_], _ => rfl
  have F_intfrom := fun_mk (st := s_is_integer_from) l_intfrom c_intfrom k_intfrom
  have b_intfrom := F_intfrom.binds (ps := ["value", "least"]) fun _ _ _ _ _ _ us hl => match us, hl with | [_, _], _ => rfl
  have F_numfor := fun_mk (st := s_is_number_for) l_numfor c_numfor k_numfor
  have b_numfor := F_numfor.binds (ps := ["word", "number"]) fun _ _ _ _ _ _ us hl => match us, hl with | [_, _], _ => rfl
  have F_pick := fun_mk (st := s_l_pick) l_pick c_pick k_pick
  have b_pick := F_pick.binds (ps := ["_law_box_here", "_law_items"]) fun _ _ _ _ _ _ us hl => match us, hl with | [_, _], _ => rfl
  have F_made := fun_mk (st := s_l_made) l_made c_made k_made
  have b_made := F_made.binds (ps := ["_law_numbers"]) fun _ _ _ _ _ _ us hl => match us, hl with | [_], _ => rfl
  have F_rtext := fun_mk (st := s_l_rule_text) l_rtext c_rtext k_rtext
  have b_rtext := F_rtext.binds (ps := ["_law_numbers"]) fun _ _ _ _ _ _ us hl => match us, hl with | [_], _ => rfl
  have F_eq := fun_mk (st := s_Rule_eq) l_eq c_eq k_eq
  have b_eq := F_eq.binds (ps := ["self", "other"]) fun _ _ _ _ _ _ us hl => match us, hl with | [_, _], _ => rfl
  have F_str := fun_mk (st := s_Rule_str) l_str c_str k_str
  have b_str := F_str.binds (ps := ["self"]) fun _ _ _ _ _ _ us hl => match us, hl with | [_], _ => rfl
  have F_law := fun_mk (st := s_law) l_law c_law k_law
  have b_law := F_law.binds (ps := ["_law_script"]) fun _ _ _ _ _ _ us hl => match us, hl with | [_], _ => rfl
  have F_init : FunD K "__init__" "Rule.__init__" (defArgs s_Rule_init) (defBody s_Rule_init) (defScope s_Rule_init) [.int 0] [] f_init (PySem.W.fnOf "__init__" "Rule.__init__" (defArgs s_Rule_init) (defBody s_Rule_init) (defScope s_Rule_init) (.ref Td) kV_init dc_init pm_init an_init cd_init ct_init) := ⟨⟨_, _, _, _, _, _, _, _, _, _, rfl, l_init, c_init, .inr ⟨by simp, Td, _, [.int 0 t0], mT, rfl, lT, rfl, .cons ⟨_, rfl⟩ .nil⟩, .inl rfl⟩, k_init⟩
  have b5 := F_init.binds1 (ps := ["self", "seats", "lapse", "beat", "grace", "late"]) 5 0 (by simp) rfl (fun _ _ _ _ _ _ _ us its hl ht => match us, its, hl, ht with | [_, _, _, _, _], [_], _, _ => ⟨_, rfl, rfl⟩)
  have b6 := b6_of (F_init.binds1 (ps := ["self", "seats", "lapse", "beat", "grace", "late"]) 6 1 (by simp) rfl (fun _ _ _ _ _ _ _ us its hl ht => match us, its, hl, ht with | [_, _, _, _, _, _], [_], _, _ => ⟨_, rfl, rfl⟩))
  exact ⟨PySem.W.fnOf "law" "law" (defArgs s_law) (defBody s_law) (defScope s_law) .none kV_law dc_law pm_law an_law cd_law ct_law, fun s v => .of_eq rfl, fun base _ _ => G_law l.prog w base ({
    len := PySem.W.mg_none_of X G z_len
    int := PySem.W.mg_none_of X G z_int
    abs := PySem.W.mg_none_of X G z_abs
    isinstance := PySem.W.mg_none_of X G z_isinstance
    bool := PySem.W.mg_none_of X G z_bool
    zip := PySem.W.mg_none_of X G z_zip
    list := PySem.W.mg_none_of X G z_list
    range := PySem.W.mg_none_of X G z_range
    str := PySem.W.mg_none_of X G z_str
    max := PySem.W.mg_none_of X G z_max
    min := PySem.W.mg_none_of X G z_min
    tuple := PySem.W.mg_none_of X G z_tuple
    repr := PySem.W.mg_none_of X G z_repr
    f_box := f_box
    d_box := _
    F_box := F_box
    g_box := PySem.W.mg_of X G a_box
    b_box := b_box
    f_take := f_take
    d_take := _
    F_take := F_take
    g_take := PySem.W.mg_of X G a_take
    b_take := b_take
    f_rule := f_rule
    d_rule := _
    F_rule := F_rule
    g_rule := PySem.W.mg_of X G a_rule
    b_rule := b_rule
    f_intfrom := f_intfrom
    d_intfrom := _
    F_intfrom := F_intfrom
    g_intfrom := PySem.W.mg_of X G a_intfrom
    b_intfrom := b_intfrom
    f_numfor := f_numfor
    d_numfor := _
    F_numfor := F_numfor
    g_numfor := PySem.W.mg_of X G a_numfor
    b_numfor := b_numfor
    f_pick := f_pick
    d_pick := _
    F_pick := F_pick
    g_pick := PySem.W.mg_of X G a_pick
    b_pick := b_pick
    f_made := f_made
    d_made := _
    F_made := F_made
    g_made := PySem.W.mg_of X G a_made
    b_made := b_made
    f_rtext := f_rtext
    d_rtext := _
    F_rtext := F_rtext
    g_rtext := PySem.W.mg_of X G a_rtext
    b_rtext := b_rtext
    ks := ks
    kt := kt
    fs := fs
    ft := ft
    f_eq := f_eq
    d_eq := _
    F_eq := F_eq
    b_eq := b_eq
    i_eq := a_eq
    j_eq := i_eq
    i_ne := a_ne
    f_str := f_str
    d_str := _
    F_str := F_str
    b_str := b_str
    i_str := a_str
    j_str := i_str
    f_init := f_init
    d_init := _
    F_init := F_init
    mkR := ⟨mk, a_init, i_init, kc⟩
    b_init6 := b6
    b_init5 := b5
    C := C
    c_Rule := ⟨PySem.W.mg_of X G aC, ⟨pg, hd, po, sa⟩, ha, hn, ht, hm⟩
    n0 := N0
    n1 := N1
    n2 := N2
    n3 := N3
    n4 := N4
    aW := aW
    g_WORDS := PySem.W.mg_of X G aW_
    sW := fun _ => .inr ⟨_, _, _, lW, rfl, rfl, Nat.le_of_ble_eq_true rfl, .cons ⟨_, rfl⟩ (.cons ⟨_, rfl⟩ (.cons ⟨_, rfl⟩ (.cons ⟨_, rfl⟩ (.cons ⟨_, rfl⟩ .nil))))⟩
    f_law := fa
    d_law := _
    F_law := F_law
    b_law := b_law } : Tl K mg)⟩
theorem walk {l : PySem.W.OpenLaw} {q : Program} {loose : List Str} {XP : (Str → Option Value) → Heap → Prop} {YP : World → Heap → Prop} {d : DefRec} {K : Params → PySem.W.Frag} (hn : l.most = some 63) (hdf : d.params.defaults = [])
    (hY : ∀ (w : World) (h : Heap), YP w h → (K w.params).In h)
    (F : ∀ (w : World) (mg : Str → Option Value) (fa : Addr) (h : Heap), (K w.params).In h → h.Ns mainGlobals mg → mg d.name = some (.ref fa) →
      ∃ fd : FuncData, (∀ (s : Shared) (u : Value), BindsTo s fd ⟨[u], []⟩ [("_law_script", u)]) ∧ ∀ base : Heap, (K w.params).In base → base.Ns mainGlobals mg → FnG l.prog w (K w.params) mg base CX0 7 fa fd ["_law_script"] (spLaw (K w.params))) :
    PySem.W.WalkO q loose XP YP l.row.toRowW d [] (fun f vs => PySem.call f vs) :=
  walkG (n := 63) (k := 7) (x := "_law_script") (sp := fun w => spLaw (K w.params)) hn (by decide) hdf ⟨rfl, by decide, by decide⟩ hY F (fun _ _ a ns hl hS => ⟨a, ns, rfl, hS, hl, fun _ => rfl⟩)
end My
open PySem PySem.W PyProof.Rows in
set_option maxRecDepth 100000 in
set_option maxHeartbeats 0 in
theorem PySem.Challenge.cw_lapseseats_k02_rules_made_holds : PySem.Challenge.rw_lapseseats_k02_rules_made.Holds := by
  w_on; o_law; k_head; (case hw => w_witness2)
  k_fill
  refine My.walk (l := PySem.Challenge.rw_lapseseats_k02_rules_made) rfl rfl (fun w h Y => PySem.W.kIn_of Y) ?F
  case F =>
    intro w mg fa h KX G hmg
    refine' My.all_mk KX G hmg ?aC ?a_box ?l_box ?c_box ?k_box ?a_take ?l_take ?c_take ?k_take ?a_rule ?l_rule ?c_rule ?k_rule ?a_intfrom ?l_intfrom ?c_intfrom ?k_intfrom ?a_numfor ?l_numfor ?c_numfor ?k_numfor ?a_pick ?l_pick ?c_pick ?k_pick ?a_made ?l_made ?c_made ?k_made ?a_rtext ?l_rtext ?c_rtext ?k_rtext ?a_eq ?i_eq ?l_eq ?c_eq ?k_eq ?a_str ?i_str ?l_str ?c_str ?k_str ?a_init ?i_init ?l_init ?c_init ?k_init ?lT ?a_law ?l_law ?c_law ?k_law ?a_ne ?pg ?hd ?po ?sa ?mk ?kc ?ha ?hn ?ht ?hm ?N0 ?N1 ?N2 ?N3 ?N4 ?z_len ?z_int ?z_abs ?z_isinstance ?z_bool ?z_zip ?z_list ?z_range ?z_str ?z_max ?z_min ?z_tuple ?z_repr ?aW_ ?lW ?ks ?kt ?fs ?ft
    (case aC => first | k_is | rfl | decide +kernel)
    (case a_box => first | k_is | rfl | decide +kernel)
    (case l_box => first | k_is | rfl | decide +kernel)
    (case c_box => first | k_is | rfl | decide +kernel)
    (case k_box => first | k_is | rfl | decide +kernel)
    (case a_take => first | k_is | rfl | decide +kernel)
    (case l_take => first | k_is | rfl | decide +kernel)
    (case c_take => first | k_is | rfl | decide +kernel)
    (case k_take => first | k_is | rfl | decide +kernel)
    (case a_rule => first | k_is | rfl | decide +kernel)
    (case l_rule => first | k_is | rfl | decide +kernel)
    (case c_rule => first | k_is | rfl | decide +kernel)
    (case k_rule => first | k_is | rfl | decide +kernel)
    (case a_intfrom => first | k_is | rfl | decide +kernel)
    (case l_intfrom => first | k_is | rfl | decide +kernel)
    (case c_intfrom => first | k_is | rfl | decide +kernel)
    (case k_intfrom => first | k_is | rfl | decide +kernel)
    (case a_numfor => first | k_is | rfl | decide +kernel)
    (case l_numfor => first | k_is | rfl | decide +kernel)
    (case c_numfor => first | k_is | rfl | decide +kernel)
    (case k_numfor => first | k_is | rfl | decide +kernel)
    (case a_pick => first | k_is | rfl | decide +kernel)
    (case l_pick => first | k_is | rfl | decide +kernel)
    (case c_pick => first | k_is | rfl | decide +kernel)
    (case k_pick => first | k_is | rfl | decide +kernel)
    (case a_made => first | k_is | rfl | decide +kernel)
    (case l_made => first | k_is | rfl | decide +kernel)
    (case c_made => first | k_is | rfl | decide +kernel)
    (case k_made => first | k_is | rfl | decide +kernel)
    (case a_rtext => first | k_is | rfl | decide +kernel)
    (case l_rtext => first | k_is | rfl | decide +kernel)
    (case c_rtext => first | k_is | rfl | decide +kernel)
    (case k_rtext => first | k_is | rfl | decide +kernel)
    (case a_eq => first | k_is | rfl | decide +kernel)
    (case i_eq => first | k_is | rfl | decide +kernel)
    (case l_eq => first | k_is | rfl | decide +kernel)
    (case c_eq => first | k_is | rfl | decide +kernel)
    (case k_eq => first | k_is | rfl | decide +kernel)
    (case a_str => first | k_is | rfl | decide +kernel)
    (case i_str => first | k_is | rfl | decide +kernel)
    (case l_str => first | k_is | rfl | decide +kernel)
    (case c_str => first | k_is | rfl | decide +kernel)
    (case k_str => first | k_is | rfl | decide +kernel)
    (case a_init => first | k_is | rfl | decide +kernel)
    (case i_init => first | k_is | rfl | decide +kernel)
    (case l_init => first | k_is | rfl | decide +kernel)
    (case c_init => first | k_is | rfl | decide +kernel)
    (case k_init => first | k_is | rfl | decide +kernel)
    (case lT => first | k_is | rfl | decide +kernel)
    (case a_law => first | k_is | rfl | decide +kernel)
    (case l_law => first | k_is | rfl | decide +kernel)
    (case c_law => first | k_is | rfl | decide +kernel)
    (case k_law => first | k_is | rfl | decide +kernel)
    (case a_ne => first | k_is | rfl | decide +kernel)
    (case pg => first | k_is | rfl | decide +kernel)
    (case hd => first | k_is | rfl | decide +kernel)
    (case po => first | k_is | rfl | decide +kernel)
    (case sa => first | k_is | rfl | decide +kernel)
    (case mk => first | k_is | rfl | decide +kernel)
    (case kc => first | k_is | rfl | decide +kernel)
    (case ha => first | k_is | rfl | decide +kernel)
    (case hn => first | k_is | rfl | decide +kernel)
    (case ht => first | k_is | rfl | decide +kernel)
    (case hm => first | k_is | rfl | decide +kernel)
    (case N0 => first | k_is | rfl | decide +kernel)
    (case N1 => first | k_is | rfl | decide +kernel)
    (case N2 => first | k_is | rfl | decide +kernel)
    (case N3 => first | k_is | rfl | decide +kernel)
    (case N4 => first | k_is | rfl | decide +kernel)
    (case z_len => first | k_is | rfl | decide +kernel)
    (case z_int => first | k_is | rfl | decide +kernel)
    (case z_abs => first | k_is | rfl | decide +kernel)
    (case z_isinstance => first | k_is | rfl | decide +kernel)
    (case z_bool => first | k_is | rfl | decide +kernel)
    (case z_zip => first | k_is | rfl | decide +kernel)
    (case z_list => first | k_is | rfl | decide +kernel)
    (case z_range => first | k_is | rfl | decide +kernel)
    (case z_str => first | k_is | rfl | decide +kernel)
    (case z_max => first | k_is | rfl | decide +kernel)
    (case z_min => first | k_is | rfl | decide +kernel)
    (case z_tuple => first | k_is | rfl | decide +kernel)
    (case z_repr => first | k_is | rfl | decide +kernel)
    (case aW_ => first | k_is | rfl | decide +kernel)
    (case lW => first | k_is | rfl | decide +kernel)
    (case ks => first | k_is | rfl | decide +kernel)
    (case kt => first | k_is | rfl | decide +kernel)
    (case fs => first | k_is | rfl | decide +kernel)
    (case ft => first | k_is | rfl | decide +kernel)

