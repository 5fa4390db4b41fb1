import PyProof.Rows.All
import Wide.All
import OpenK.AllK
import Wide.FinOn
import HandS.ForMost
import HandS.ForExc
import HandS.Zip
import HandS.Wide
import HandS.IsInst
import HandS.Defaults
import HandS.ExcInit
import HandS.ExcField
import HandS.TryMany
import HandS.RaiseMore
import HandS.FStr
import HandS.OwnEq
import HandS.Star
import HandS.ClsMeth
import HandS.TupAny
import HandS.Flow
import HandS.MakeKw
import PyProof.ReprRoads
import PyProof.CallFns
import HandS.Style
import HandS.CallLocal
import HandS.Sort
import HandS.More
import HandS.Flt
import HandS.Dict
import HandS.Iter
import HandS.Text
import KE.KDictList
import HandS.Conv
import HandS.Walk
import HandS.Deep
import HandS.NoneIn
import HandS.WordsExc
import HandS.ExcOwn
import HandS.CallSlots
import HandS.ExcIs
import KE.KExcIs
import KE.GoesEnum
import HandS.TupSets
import HandS.SetFor
import HandS.Small
import HandS.DictComp
import HandS.StrMore
import HandS.WideBits
import HandS.MakeKwOnly
import HandS.TupMul
import KE.KOpsOwn
import PySem.Challenge.RW_lapseseats_k04_texts_of_rules
set_option Elab.async false
set_option linter.all false
set_option maxRecDepth 100000
set_option maxHeartbeats 2000000
namespace CL
open PySem PySem.Spec PyProof.Rows L2
structure Chk (P k : Prop) : Prop where
  p : P
  k : k
structure New (H : Hp) (o : HO) (k : Addr → Hp → Prop) : Prop where
  k : ∀ p, H p = none → k p (upd H p o)
structure Br (c : Bool) (A B : Prop) : Prop where
  t : c = true → A
  f : c = false → B
theorem Br.ite {c : Bool} {A B : Prop} (h : Br c A B) : if c = true then A else B := by
  cases c with
  | true => rw [if_pos rfl]; exact h.t rfl
  | false => rw [if_neg Bool.false_ne_true]; exact h.f rfl
theorem br_t {c : Bool} {A B : Prop} (h : c = true) (a : A) : Br c A B := Br.mk (fun _ => a) (fun z => by rw [h] at z; cases z)
theorem br_f {c : Bool} {A B : Prop} (h : c = false) (b : B) : Br c A B := Br.mk (fun z => by rw [h] at z; cases z) (fun _ => b)
/-- a list or a tuple is read -/
structure Sq (K : PySem.W.Frag) (H : Hp) (p : Addr) (k : List V → Prop) : Prop where
  ex : ∃ xs, (SqL K H p xs ∨ SqT K H p xs) ∧ k xs
theorem Sq.l {K : PySem.W.Frag} {H : Hp} {p : Addr} {k : List V → Prop} {xs : List V} (h : SqL K H p xs) (q : k xs) : Sq K H p k := ⟨xs, .inl h, q⟩
theorem Sq.t {K : PySem.W.Frag} {H : Hp} {p : Addr} {k : List V → Prop} {xs : List V} (h : SqT K H p xs) (q : k xs) : Sq K H p k := ⟨xs, .inr h, q⟩
/-- a mutable list -/
structure Ls (H : Hp) (p : Addr) (k : List V → Prop) : Prop where
  ex : ∃ xs, H p = some (.lst xs) ∧ k xs
theorem Ls.mk' {H : Hp} {p : Addr} {k : List V → Prop} {xs : List V} (h : H p = some (.lst xs)) (q : k xs) : Ls H p k := ⟨xs, h, q⟩
/-- a field of an instance -/
structure Fld (K : PySem.W.Frag) (H : Hp) (p : Addr) (f : Str) (k : V → Prop) : Prop where
  ex : ∃ C dx fs v, H p = some (.ins C dx fs) ∧ Cls K C ∧ NoAttr K C f ∧ fs.lookup f = some v ∧ k v
structure SetF (K : PySem.W.Frag) (H : Hp) (p : Addr) (f : Str) (y : V) (k : Hp → Prop) : Prop where
  ex : ∃ C dx fs, H p = some (.ins C dx fs) ∧ Cls K C ∧ NoAttr K C f ∧ fs.length < 1000 ∧ k (upd H p (.ins C dx (putF f y fs)))
/-- a call of a def: its promise -/
structure Ask (P : Prop) : Prop where
  a : P
/-- isinstance of anything -/
structure IsI (K : PySem.W.Frag) (H : Hp) (x : V) (u : Value) (k : Bool → Prop) : Prop where
  ex : ∃ t b, TyX K H x t ∧ PySem.W.kitOne K t u = some b ∧ k b
section
variable {X : Cx}
theorem weak {e : Expr} {t t' : TE} (h : PE X e t) (w : ∀ σ H Q, t' σ H Q → t σ H Q) : PE X e t' := ⟨fun pins s σ H Q I q => h.run pins s σ H Q I (w _ _ _ q)⟩
theorem weakS {e : Stmt} {t t' : TS} (h : PS X e t) (w : ∀ D σ H, t' D σ H → t D σ H) : PS X e t' := ⟨fun pins s σ H D I q => h.run pins s σ H D I (w _ _ _ q)⟩
end
def cVar (i : Nat) : TE := fun σ H Q => match σ[i]? with
  | some (some v) => Q v H
  | _ => False
theorem c_var {X : Cx} (i : Nat) {x : Str} {pos : Pos} (hN : X.N[i]? = some x := by rfl) (hv : Vis X.env.scope x := by first | exact Or.inl rfl | exact Or.inr (Or.inl rfl) | exact Or.inr (Or.inr rfl)) (hd : (x == ("__debug__" : Str)) = false := by decide)
    (hcd : (x == ("__classdict__" : Str)) = false := by decide) : PE X (.Name x pos) (cVar i) := weak (pe_var hN hv hd hcd) fun σ H Q h => by
  unfold cVar at h
  split at h
  · rename_i v e; exact ⟨v, e, h⟩
  · exact h.elim
def rMulC : R2 := fun x y H Q => match x, y with
  | .int i, .int j => Chk (CMul i j ∨ CMulW i j) (Q (.int (i * j)) H)
  | .ref p, .int k => Ls H p fun xs => Chk (-(2 ^ 63) ≤ k ∧ k < 2 ^ 63 ∧ xs.length * k.toNat ≤ sizeLine) (rRep (.ref p) (.int k) H Q)
  | _, _ => False
theorem c_mul {X : Cx} : OpR X (binaryOp .Mult) rMulC := by
  intro pins s σ H x y v u Q I rx ry h
  unfold rMulC at h
  split at h
  · rcases h.p with z | z
    · exact op_mul pins s σ H _ _ v u Q I rx ry ⟨_, _, rfl, rfl, z, h.k⟩
    · exact op_mulW pins s σ H _ _ v u Q I rx ry ⟨_, _, rfl, rfl, z, h.k⟩
  · obtain ⟨⟨xs, h1, h2⟩⟩ := h
    exact op_rep pins s σ H _ _ v u Q I rx ry h2.k
  · exact h.elim
def rDivC : R2 := fun x y H Q => match x, y with
  | .int i, .int j => Chk (CDiv i j ∨ CDivW i j) (Q (.int (i / j)) H)
  | _, _ => False
theorem c_div {X : Cx} : OpR X (binaryOp .FloorDiv) rDivC := by
  intro pins s σ H x y v u Q I rx ry h
  unfold rDivC at h
  split at h
  · rcases h.p with z | z
    · exact op_fdiv pins s σ H _ _ v u Q I rx ry ⟨_, _, rfl, rfl, z, h.k⟩
    · exact op_fdivW pins s σ H _ _ v u Q I rx ry ⟨_, _, rfl, rfl, z, h.k⟩
  · exact h.elim
def rModC : R2 := fun x y H Q => match x, y with
  | .int i, .int j => Chk (0 < j) (Q (.int (i % j)) H)
  | _, _ => False
theorem c_mod {X : Cx} : OpR X (binaryOp .Mod) rModC := by
  intro pins s σ H x y v u Q I rx ry h
  unfold rModC at h
  split at h
  · exact op_mod pins s σ H _ _ v u Q I rx ry ⟨_, _, rfl, rfl, h.p, h.k⟩
  · exact h.elim
def rPowC : R2 := fun x y H Q => match x, y with
  | .int i, .int j => Chk (CPow i j) (Q (.int (i ^ j.toNat)) H)
  | _, _ => False
theorem c_pow {X : Cx} : OpR X (binaryOp .Pow) rPowC := by
  intro pins s σ H x y v u Q I rx ry h
  unfold rPowC at h
  split at h
  · exact op_pow pins s σ H _ _ v u Q I rx ry ⟨_, _, rfl, rfl, h.p, h.k⟩
  · exact h.elim
def rCmpC (p : Int → Int → Bool) : R2 := fun x y H Q => match x, y with
  | .int i, .int j => Q (.bl (p i j)) H
  | _, _ => False
theorem c_cmp {X : Cx} {f : Value → Value → Sem Value} {p : Int → Int → Bool} (h0 : OpR X f (rI0 fun i j => .bl (p i j))) : OpR X f (rCmpC p) := by
  intro pins s σ H x y v u Q I rx ry h
  unfold rCmpC at h
  split at h
  · exact h0 pins s σ H _ _ v u Q I rx ry ⟨_, _, rfl, rfl, h⟩
  · exact h.elim
abbrev rLtC : R2 := rCmpC fun i j => decide (i < j)
abbrev rGtC : R2 := rCmpC fun i j => decide (j < i)
abbrev rGeC : R2 := rCmpC fun i j => decide (j ≤ i)
theorem c_lt {X : Cx} : OpR X (compareOp .Lt) rLtC := c_cmp op_lt
theorem c_gt {X : Cx} : OpR X (compareOp .Gt) rGtC := c_cmp op_gt
theorem c_ge {X : Cx} : OpR X (compareOp .GtE) rGeC := c_cmp op_ge
/-- two things at heap places compared: as data (an own == is another rule) -/
structure EqD (K : PySem.W.Frag) (H : Hp) (x y : V) (k : Bool → Prop) : Prop where
  ex : ∃ d e, Dp K H x d ∧ Dp K H y e ∧ SeqAt.shaped d = true ∧ SeqAt.shaped e = true ∧ k (PyData.eqv d e)
def rEqC (K : PySem.W.Frag) (neg : Bool) : R2 := fun x y H Q => match scal x y with
  | true => Q (.bl (if neg then !decide (x = y) else decide (x = y))) H
  | false => EqD K H x y fun b => Q (.bl (if neg then !b else b)) H
theorem c_eq {X : Cx} (hu : X.A.units + 64 < cLine) : OpR X (compareOp .Eq) (rEqC X.K false) := by
  intro pins s σ H x y v u Q I rx ry h
  unfold rEqC at h
  split at h
  · rename_i e
    exact op_eq pins s σ H _ _ v u Q I rx ry ⟨e, h⟩
  · obtain ⟨⟨d, e, h1, h2, h3, h4, q⟩⟩ := h
    exact op_eqD hu pins s σ H _ _ v u Q I rx ry ⟨d, e, h1, h2, h3, h4, q⟩
theorem c_ne {X : Cx} (hu : X.A.units + 64 < cLine) : OpR X (compareOp .NotEq) (rEqC X.K true) := by
  intro pins s σ H x y v u Q I rx ry h
  unfold rEqC at h
  split at h
  · rename_i e
    exact op_ne pins s σ H _ _ v u Q I rx ry ⟨e, h⟩
  · obtain ⟨⟨d, e, h1, h2, h3, h4, q⟩⟩ := h
    exact op_neD hu pins s σ H _ _ v u Q I rx ry ⟨d, e, h1, h2, h3, h4, q⟩
/-- an item at a place that holds it -/
structure At {α : Type} (xs : List α) (i : Int) (k : α → Prop) : Prop where
  ex : ∃ v, atI xs i = some v ∧ k v
def rIxC (K : PySem.W.Frag) : R2 := fun x y H Q => match x, y with
  | .ref p, .int i => Sq K H p fun xs => At xs i fun v => Q v H
  | .str z, .int i => Chk (z.length ≤ sizeLine) (At z.cps.toList i fun c => Q (.str ⟨#[c]⟩) H)
  | _, _ => False
theorem c_ix {X : Cx} : IxR X (rIxC X.K) := by
  intro value slice pins s σ H x y v u Q I rx ry h hs
  unfold rIxC at h
  split at h
  · obtain ⟨⟨xs, h1 | h1, ⟨v, h2, h3⟩⟩⟩ := h
    · exact ix_list value slice pins s σ H _ _ _ _ Q I rx ry ⟨_, _, _, _, rfl, rfl, h1, h2, h3⟩ hs
    · exact ix_tup value slice pins s σ H _ _ _ _ Q I rx ry ⟨_, _, _, _, rfl, rfl, h1, h2, h3⟩ hs
  · obtain ⟨h0, ⟨v, h2, h3⟩⟩ := h
    exact ix_str value slice pins s σ H _ _ _ _ Q I rx ry ⟨_, _, _, rfl, rfl, h0, h2, h3⟩ hs
  · exact h.elim
end CL
set_option Elab.async false
set_option linter.all false
set_option maxRecDepth 100000
set_option maxHeartbeats 2000000
namespace CL
open PySem PySem.Spec PyProof.Rows L2
/-- truth of a value -/
def Tru (K : PySem.W.Frag) (x : V) (H : Hp) (k : Bool → Prop) : Prop := match x with
  | .bl b => k b
  | .int i => k (i != 0)
  | .non => k false
  | .str y => Chk (y.length ≤ sizeLine) (k ((y.length : Int) != 0))
  | .ref p => Sq K H p fun xs => k (!xs.isEmpty)
  | _ => False
theorem Tru.ok {K : PySem.W.Frag} {x : V} {H : Hp} {k : Bool → Prop} (h : Tru K x H k) : ∃ b, TruV K x H b ∧ k b := by
  unfold Tru at h
  split at h
  · exact ⟨_, rfl, h⟩
  · exact ⟨_, rfl, h⟩
  · exact ⟨_, rfl, h⟩
  · exact ⟨_, ⟨h.p, rfl⟩, h.k⟩
  · obtain ⟨⟨xs, h1 | h1, h2⟩⟩ := h
    · exact ⟨_, .inl ⟨xs, h1, rfl⟩, h2⟩
    · exact ⟨_, .inr (.inl ⟨xs, h1, rfl⟩), h2⟩
  · exact h.elim
def cTest (te : TE) : TT := fun σ H Q => te σ H fun x H1 => match x with
  | .bl b => Q b H1
  | _ => False
def cTruth (K : PySem.W.Frag) (te : TE) : TT := fun σ H Q => te σ H fun x H1 => Tru K x H1 fun b => Q b H1
section
variable {X : Cx} {a b c : Expr} {ta tb tc : TE} {pos : Pos}
/-- a comparison as a test -/
theorem t_cmp {op : CmpOp} {r : R2} (ho : OpR X (compareOp op) r) (ha : PE X a ta) (hb : PE X b tb) (hm : behindInMarks op b = false) : PT X (.Compare a [op] [b] pos) (cTest (tOp r ta tb)) := by
  refine ⟨fun pins s σ H Q I h => ?_⟩
  refine wpAny_isTrue_Compare1 (thn (ha.run pins s σ H _ I h) fun v s1 ⟨x, H1, I1, r1, q1⟩ => thn (hb.run pins s1 σ H1 _ I1 q1) fun u s2 ⟨y, H2, I2, r2, q2⟩ =>
    thn (ho pins s2 σ H2 x y v u _ I2 r1 r2 q2) fun d s3 ⟨z, H3, I3, r3, q3⟩ => ?_) hm
  cases z with
  | bl k => cases r3; exact wpAny_truthy_bool ⟨H3, I3, q3⟩
  | _ => exact (show False from q3).elim
theorem t_truth (ha : PE X a ta) (he : ∀ whole, isTrue a X.env whole = (do let v ← whole; standAt a.pos; holding [v] (truthy v))) : PT X a (cTruth X.K ta) := by
  refine ⟨fun pins s σ H Q I h => ?_⟩
  exact isTrue_plain (thn (ha.run pins s σ H _ I h) fun v s1 ⟨x, H1, I1, r1, q1⟩ => by
    obtain ⟨k, e, q⟩ := Tru.ok q1
    exact tru_ok pins s1 σ H1 x v Q I1 r1 ⟨k, e, q⟩) (he _)
def cAnd (t u : TT) : TT := fun σ H Q => t σ H fun c H1 => Br c (u σ H1 Q) (Q false H1)
def cOr (t u : TT) : TT := fun σ H Q => t σ H fun c H1 => Br c (Q true H1) (u σ H1 Q)
def cNot (t : TT) : TT := fun σ H Q => t σ H fun c H1 => Q (!c) H1
variable {tA tB' : TT} {rest : List Expr}
theorem w_and1 (ha : PT X a tA) : PW X (.BoolOp .And [a] pos) tA := pw_and1 ha
theorem w_or1 (ha : PT X a tA) : PW X (.BoolOp .Or [a] pos) tA := pw_or1 ha
theorem w_and (ha : PT X a tA) (hb : PW X (.BoolOp .And (b :: rest) pos) tB') : PW X (.BoolOp .And (a :: b :: rest) pos) (cAnd tA tB') := by
  refine ⟨fun whole pins s σ H Q I h => ?_⟩
  have key : PW X (.BoolOp .And (a :: b :: rest) pos) (tAnd tA tB') := pw_and ha hb
  have h2 : tAnd (fun σ' H' Q' => tA σ H Q' ∧ σ' = σ ∧ H' = H) tB' σ H Q → True := fun _ => trivial
  have hx : PW X (.BoolOp .And (a :: b :: rest) pos) (tAnd (fun σ' H' Q' => tA σ' H' fun c H1 => Q' c H1) tB') := key
  refine key.run whole pins s σ H Q I ?_
  unfold tAnd
  unfold cAnd at h
  have e : (fun (c : Bool) (H1 : Hp) => Br c (tB' σ H1 Q) (Q false H1)) = fun c H1 => (if c = true then tB' σ H1 Q else Q false H1) := by
    funext c H1
    apply propext
    constructor
    · exact Br.ite
    · intro q
      refine Br.mk (fun z => ?_) (fun z => ?_)
      · rw [if_pos z] at q; exact q
      · rw [z, if_neg Bool.false_ne_true] at q; exact q
  rw [e] at h
  exact h
theorem br_eq {c : Bool} {A B : Prop} : Br c A B = (if c = true then A else B) := by
  apply propext
  constructor
  · exact Br.ite
  · intro q
    refine Br.mk (fun z => ?_) (fun z => ?_)
    · rw [if_pos z] at q; exact q
    · rw [z, if_neg Bool.false_ne_true] at q; exact q
theorem w_or (ha : PT X a tA) (hb : PW X (.BoolOp .Or (b :: rest) pos) tB') : PW X (.BoolOp .Or (a :: b :: rest) pos) (cOr tA tB') := by
  have e : cOr tA tB' = tOr tA tB' := by
    funext σ H Q
    unfold cOr tOr
    simp only [br_eq]
  rw [e]
  exact pw_or ha hb
theorem t_not (ha : PT X a tA) : PT X (.UnaryOp .Not a pos) (cNot tA) := pt_not ha
/-- a op1 b op2 c -/
def cChain (r r' : R2) (ta tb tc : TE) : TE := fun σ H Q => ta σ H fun x H1 => tb σ H1 fun y H2 => r x y H2 fun z H3 => match z with
  | .bl k => Br k (tc σ H3 fun w' H4 => r' y w' H4 Q) (Q (.bl false) H3)
  | _ => False
/-- values by and, or: Booleans -/
def cAndV (ta tb : TE) : TE := fun σ H Q => ta σ H fun x H1 => match x with
  | .bl c => Br c (tb σ H1 Q) (Q (.bl false) H1)
  | _ => False
def cOrV (ta tb : TE) : TE := fun σ H Q => ta σ H fun x H1 => match x with
  | .bl c => Br c (Q (.bl true) H1) (tb σ H1 Q)
  | _ => False
def cNotV (ta : TE) : TE := fun σ H Q => ta σ H fun x H1 => match x with
  | .bl c => Q (.bl (!c)) H1
  | _ => False
/-- what follows a Boolean -/
def onB (k : Bool → Hp → Prop) : VK := fun x H => match x with
  | .bl c => k c H
  | _ => False
theorem onB_eq (k : Bool → Hp → Prop) : onB k = fun x H => ∃ c, x = .bl c ∧ k c H := by
  funext x H
  apply propext
  unfold onB
  constructor
  · intro h
    split at h
    · exact ⟨_, rfl, h⟩
    · exact h.elim
  · rintro ⟨c, rfl, h⟩
    exact h
theorem e_and (ha : PE X a ta) (hb : PE X (.BoolOp .And (b :: rest) pos) tb) : PE X (.BoolOp .And (a :: b :: rest) pos) (cAndV ta tb) := by
  have e : cAndV ta tb = tAndV ta tb := by
    funext σ H Q
    show ta σ H (onB fun c H1 => Br c (tb σ H1 Q) (Q (.bl false) H1)) = _
    rw [onB_eq]
    simp only [br_eq]
    rfl
  rw [e]
  exact pe_and ha hb
theorem e_or (ha : PE X a ta) (hb : PE X (.BoolOp .Or (b :: rest) pos) tb) : PE X (.BoolOp .Or (a :: b :: rest) pos) (cOrV ta tb) := by
  have e : cOrV ta tb = tOrV ta tb := by
    funext σ H Q
    show ta σ H (onB fun c H1 => Br c (Q (.bl true) H1) (tb σ H1 Q)) = _
    rw [onB_eq]
    simp only [br_eq]
    rfl
  rw [e]
  exact pe_or ha hb
theorem e_not (ha : PE X a ta) : PE X (.UnaryOp .Not a pos) (cNotV ta) := by
  have e : cNotV ta = tNotV ta := by
    funext σ H Q
    show ta σ H (onB fun c H1 => Q (.bl (!c)) H1) = _
    rw [onB_eq]
    rfl
  rw [e]
  exact pe_not ha
theorem t_chain {op op' : CmpOp} {r r' : R2} (ho : OpR X (compareOp op) r) (ho' : OpR X (compareOp op') r') (ha : PE X a ta) (hb : PE X b tb) (hc : PE X c tc)
    (hm : lastMarks [op, op'] [b, c] = false := by with_unfolding_all rfl) : PT X (.Compare a [op, op'] [b, c] pos) (cTest (cChain r r' ta tb tc)) := by
  have e : cTest (cChain r r' ta tb tc) = tTest (tChain r r' ta tb tc) := by
    funext σ H Q
    show (ta σ H fun x H1 => tb σ H1 fun y H2 => r x y H2 (onB fun k H3 => Br k (tc σ H3 fun w' H4 => r' y w' H4 (onB fun b H => Q b H)) (Q false H3))) = _
    simp only [onB_eq, br_eq]
    show _ = (ta σ H fun x H1 => tb σ H1 fun y H2 => r x y H2 fun z H3 => ∃ k, z = .bl k ∧ (if k = true then tc σ H3 fun w' H4 => r' y w' H4 fun x H' => ∃ k, x = .bl k ∧ Q k H' else ∃ k, V.bl false = .bl k ∧ Q k H3))
    have e2 : ∀ H3, (∃ k, V.bl false = .bl k ∧ Q k H3) = Q false H3 := fun H3 => by
      apply propext
      constructor
      · rintro ⟨k, z, q⟩
        cases z
        exact q
      · exact fun q => ⟨false, rfl, q⟩
    simp only [e2]
  rw [e]
  exact pt_chain ho ho' ha hb hc hm
def cIf (t : TT) (ta tb : TE) : TE := fun σ H Q => t σ H fun c H1 => Br c (ta σ H1 Q) (tb σ H1 Q)
theorem e_if {c : Expr} (hc : PT X c tA) (ha : PE X a ta) (hb : PE X b tb) : PE X (.IfExp c a b pos) (cIf tA ta tb) := by
  have e : cIf tA ta tb = tIf tA ta tb := by
    funext σ H Q
    unfold cIf tIf
    simp only [br_eq]
  rw [e]
  exact pe_ifExp hc ha hb
def cIfS (c : TT) (t u : TS) : TS := fun D σ H => c σ H fun b H1 => Br b (t D σ H1) (u D σ H1)
theorem s_if {c : Expr} {sa sb : List Stmt} {t u : TS} (hc : PT X c tA) (ha : PSs X sa t) (hb : PSs X sb u) : PS X (.If c sa sb pos) (cIfS tA t u) := by
  have e : cIfS tA t u = tIfS tA t u := by
    funext D σ H
    unfold cIfS tIfS
    simp only [br_eq]
  rw [e]
  exact ps_if hc ha hb
end
def cTup (t : TA) : TE := fun σ H Q => t σ H fun xs H1 => Chk (xs.length ≤ sizeLine) (New H1 (.tup xs) fun p H' => Q (.ref p) H')
def cLst (t : TA) : TE := fun σ H Q => t σ H fun xs H1 => Chk (xs.length ≤ sizeLine) (New H1 (.lst xs) fun p H' => Q (.ref p) H')
theorem new_eq {H : Hp} {o : HO} {k : Addr → Hp → Prop} : New H o k = ∀ p, H p = none → k p (upd H p o) := propext ⟨fun h => h.k, fun h => ⟨h⟩⟩
theorem chk_eq {P k : Prop} : Chk P k = (P ∧ k) := propext ⟨fun h => ⟨h.p, h.k⟩, fun h => ⟨h.1, h.2⟩⟩
section
variable {X : Cx} {es : List Expr} {t : TA} {pos : Pos}
theorem e_tup {x1} (h : PA X es t) : PE X (.Tuple es x1 pos) (cTup t) := by
  have e : cTup t = tTup t := by
    funext σ H Q
    unfold cTup tTup
    simp only [chk_eq, new_eq]
  rw [e]
  exact pe_tup h
theorem e_lst (h : PA X es t) : PE X (.List es pos) (cLst t) := by
  have e : cLst t = tLst t := by
    funext σ H Q
    unfold cLst tLst
    simp only [chk_eq, new_eq]
  rw [e]
  exact pe_lst h
end
def cFld (K : PySem.W.Frag) (ta : TE) (f : Str) : TE := fun σ H Q => ta σ H fun x H1 => match x with
  | .ref a => Fld K H1 a f fun v => Q v H1
  | _ => False
def cSetF (K : PySem.W.Frag) (ta tv : TE) (f : Str) : TS := fun D σ H => tv σ H fun y H1 => ta σ H1 fun x H2 => match x with
  | .ref a => SetF K H2 a f y fun H' => D.nx σ H'
  | _ => False
def onR (k : Addr → Hp → Prop) : VK := fun x H => match x with
  | .ref c => k c H
  | _ => False
theorem onR_eq (k : Addr → Hp → Prop) : onR k = fun x H => ∃ c, x = .ref c ∧ k c H := by
  funext x H
  apply propext
  unfold onR
  constructor
  · intro h
    split at h
    · exact ⟨_, rfl, h⟩
    · exact h.elim
  · rintro ⟨c, rfl, h⟩
    exact h
section
variable {X : Cx} {o e value : Expr} {f : Str} {pos pos' : Pos} {ta tv : TE}
theorem e_fld (he : PE X e ta) (hb : attributeBase e f X.env (eval e X.env) = eval e X.env := by rfl) : PE X (.Attribute e f pos) (cFld X.K ta f) := by
  have e2 : cFld X.K ta f = tFld X.K ta f := by
    funext σ H Q
    show ta σ H (onR fun a H1 => Fld X.K H1 a f fun v => Q v H1) = _
    rw [onR_eq]
    have e3 : ∀ (x : V) (H1 : Hp), (∃ a, x = V.ref a ∧ Fld X.K H1 a f fun v => Q v H1) = ∃ a C dx fs v, x = .ref a ∧ H1 a = some (.ins C dx fs) ∧ Cls X.K C ∧ NoAttr X.K C f ∧ fs.lookup f = some v ∧ Q v H1 := fun x H1 => by
      apply propext
      constructor
      · rintro ⟨a, h, ⟨C, dx, fs, v, h1, h2, h3, h4, h5⟩⟩
        exact ⟨a, C, dx, fs, v, h, h1, h2, h3, h4, h5⟩
      · rintro ⟨a, C, dx, fs, v, h, h1, h2, h3, h4, h5⟩
        exact ⟨a, h, ⟨C, dx, fs, v, h1, h2, h3, h4, h5⟩⟩
    simp only [e3]
    rfl
  rw [e2]
  exact pe_fld he hb
theorem s_fld (ha : PE X o ta) (hv : PE X value tv) (hs : swapsWith value (some (.Attribute o f pos')) pos.line X.env = pure false := by rfl) : PS X (.Assign [.Attribute o f pos'] value pos) (cSetF X.K ta tv f) := by
  refine weakS (ps_fld ha hv hs) fun D σ H h => ?_
  have h' : tv σ H fun y H1 => ta σ H1 (onR fun a H2 => SetF X.K H2 a f y fun H' => D.nx σ H') := h
  simp only [onR_eq] at h'
  have e3 : ∀ (x y : V) (H2 : Hp), (∃ a, x = V.ref a ∧ SetF X.K H2 a f y fun H' => D.nx σ H') = ∃ a C dx fs, x = .ref a ∧ H2 a = some (.ins C dx fs) ∧ Cls X.K C ∧ NoAttr X.K C f ∧ fs.length < 1000 ∧ D.nx σ (upd H2 a (.ins C dx (putF f y fs))) := fun x y H2 => by
    apply propext
    constructor
    · rintro ⟨a, h, ⟨C, dx, fs, h1, h2, h3, h4, h5⟩⟩
      exact ⟨a, C, dx, fs, h, h1, h2, h3, h4, h5⟩
    · rintro ⟨a, C, dx, fs, h, h1, h2, h3, h4, h5⟩
      exact ⟨a, h, ⟨C, dx, fs, h1, h2, h3, h4, h5⟩⟩
  simp only [e3] at h'
  exact h'
end
end CL
set_option Elab.async false
set_option linter.all false
set_option maxRecDepth 100000
set_option maxHeartbeats 2000000
namespace CL
open PySem PySem.Spec PyProof.Rows L2 RZ SkE
def rLenC (K : PySem.W.Frag) : List V → Hp → VK → Prop := fun xs H Q => match xs with
  | [.str s] => Chk (s.length ≤ sizeLine) (Q (.int s.length) H)
  | [.ref p] => Sq K H p fun ys => Q (.int ys.length) H
  | _ => False
def rAbsC : List V → Hp → VK → Prop := fun xs H Q => match xs with
  | [.int i] => Q (.int (if i < 0 then -i else i)) H
  | _ => False
def rStrC : List V → Hp → VK → Prop := fun xs H Q => match xs with
  | [.int i] => Chk (i.natAbs.log2 < 1920) (Q (.str (toString i)) H)
  | [.str s] => Q (.str s) H
  | _ => False
structure TupR (K : PySem.W.Frag) (H : Hp) (p : Addr) (Q : VK) : Prop where
  ex : ∃ ys, (SqL K H p ys ∧ New H (.tup ys) fun q H' => Q (.ref q) H') ∨ (SqT K H p ys ∧ Q (.ref p) H)
/-- isinstance: a built-in class, or what stands at c: an own class, or a new tuple of classes -/
structure IsR (K : PySem.W.Frag) (H : Hp) (x : V) (c : Addr) (k : Bool → Prop) : Prop where
  ex : (∃ t b, TyX K H x t ∧ PySem.W.kitOne K t (.ref c) = some b ∧ k b) ∨
    ∃ cs us t b, H c = some (.tup cs) ∧ Paired ClsV cs us ∧ TyX K H x t ∧ PySem.W.kitAny K t us = some b ∧ k b
def rIsC (K : PySem.W.Frag) : List V → Hp → VK → Prop := fun xs H Q => match xs with
  | [x, .ty n] => IsI K H x (.type n) fun b => Q (.bl b) H
  | [x, .ref c] => IsR K H x c fun b => Q (.bl b) H
  | _ => False
section
variable {X : Cx}
theorem k_len : CallR X (.builtin "len") (rLenC X.K) := by
  intro pins s σ H xs us Q I r h
  unfold rLenC at h
  split at h
  · exact call_len pins s σ H _ us Q I r ⟨_, _, rfl, ⟨h.p, rfl⟩, h.k⟩
  · obtain ⟨⟨ys, h1, h2⟩⟩ := h
    exact call_len_seq pins s σ H _ us Q I r ⟨_, _, rfl, h1, h2⟩
  · exact h.elim
theorem k_abs : CallR X (.builtin "abs") rAbsC := by
  intro pins s σ H xs us Q I r h
  unfold rAbsC at h
  split at h
  · exact call_abs pins s σ H _ us Q I r ⟨_, rfl, h⟩
  · exact h.elim
theorem k_str : CallR X (.type "str") rStrC := by
  intro pins s σ H xs us Q I r h
  unfold rStrC at h
  split at h
  · exact call_str_int pins s σ H _ us Q I r ⟨_, rfl, h.p, h.k⟩
  · exact call_str_str pins s σ H _ us Q I r ⟨_, rfl, h⟩
  · exact h.elim
theorem k_isi : CallR X (.builtin "isinstance") (rIsC X.K) := by
  intro pins s σ H xs us Q I r h
  unfold rIsC at h
  split at h
  · obtain ⟨⟨t, b, h1, h2, h3⟩⟩ := h
    exact call_isi pins s σ H _ us Q I r ⟨_, _, t, _, b, rfl, .ty _, h1, h2, h3⟩
  · obtain ⟨⟨t, b, h1, h2, h3⟩ | ⟨cs, ws, t, b, h1, h2, h3, h4, h5⟩⟩ := h
    · exact call_isi pins s σ H _ us Q I r ⟨_, _, t, _, b, rfl, .own _, h1, h2, h3⟩
    · exact call_isiT pins s σ H _ us Q I r ⟨_, _, cs, t, ws, b, rfl, h1, h2, h3, h4, h5⟩
  · exact h.elim
end
def cCall (sp : Sp) (dvs : List V) (E : XK) (t : TA) : TE := fun σ H Q => t σ H fun vs H1 => Ask (sp (vs ++ dvs) H1 Q E)
theorem ask_eq {P : Prop} : Ask P = P := propext ⟨fun h => h.a, fun h => ⟨h⟩⟩
section
variable {X : Cx} {e : Expr} {es : List Expr} {t : TA} {x : Str} {p pos : Pos} {CX : CXT} {k : Nat} {f C : Addr} {fd : FuncData} {ps : List Str} {sp : Sp} {E : XK} {ds : List Value} {dvs : List V}
theorem e_call (F : FnOk X.prog X.w X.K X.mg X.base CX k f fd ps sp) (hr : Room k X.A) (hg : Gl X x) (hm : X.mg x = some (.ref f)) (hk : PySem.W.keepIn X.K (.ref f) = true) (hb : Binds X.K fd ps ds) (hd : Vals dvs ds) (hx : Passes CX X E)
    (ha : PA X (e :: es) t) (hdb : (x == ("__debug__" : Str)) = false := by decide) (he : starEach (e :: es) X.env = (false, eval e X.env) :: starEach es X.env := by rfl) (hpl : (backTo pos (starEach es X.env)).any (·.1) = false := by rfl) :
    PE X (.Call (.Name x p) (e :: es) [] pos) (cCall sp dvs E t) := by
  have e2 : cCall sp dvs E t = tCall sp dvs E t := by
    funext σ H Q
    unfold cCall tCall
    simp only [ask_eq]
  rw [e2]
  exact pe_call F hr hg hm hk hb hd hx ha hdb he hpl
def cMake (C : Addr) (sp : Sp) (dvs : List V) (E : XK) (t : TA) : TE := fun σ H Q => t σ H fun vs H1 => Ask (∀ x dx, H1 x = none → H1 dx = none → dx ≠ x → sp (.ref x :: (vs ++ dvs)) (upd (upd H1 dx (.own x)) x (.ins C dx [])) (fun v H2 => v = .non ∧ Q (.ref x) H2) E)
end
structure ForW (J : It) (g : TG) (tb : TS) (D : Ends) (σ : L2.St) (H : Hp) : Prop where
  ex : ∃ W : Nat → Nat → L2.St → Hp → Prop, (∃ m, W 0 m σ H) ∧ ∀ i m σ H, W i m σ H →
    (J.stop i H ∧ D.nx σ H) ∨ (J.go i H ∧ ∃ N : L2.St → Hp → Prop, (∀ σ' H', N σ' H' → ∃ m', m' < m ∧ W (i + 1) m' σ' H') ∧ ∀ x H', J.yld i H x H' → g x σ H' fun σ2 H2 => tb { D with nx := N, ct := N, bk := D.nx } σ2 H2)
def cFor (wi : TI) (g : TG) (tb : TS) : TS := fun D σ H => wi σ H fun J H1 => ForW J g tb D σ H1
theorem forw_eq {J : It} {g : TG} {tb : TS} {D : Ends} {σ : L2.St} {H : Hp} : ForW J g tb D σ H = (∃ W : Nat → Nat → L2.St → Hp → Prop, (∃ m, W 0 m σ H) ∧ ∀ i m σ H, W i m σ H →
    (J.stop i H ∧ D.nx σ H) ∨ (J.go i H ∧ ∃ N : L2.St → Hp → Prop, (∀ σ' H', N σ' H' → ∃ m', m' < m ∧ W (i + 1) m' σ' H') ∧ ∀ x H', J.yld i H x H' → g x σ H' fun σ2 H2 => tb { D with nx := N, ct := N, bk := D.nx } σ2 H2)) := propext ⟨fun h => h.ex, fun h => ⟨h⟩⟩
section
variable {X : Cx} {tg : Expr}
theorem s_for {iter : Expr} {body : List Stmt} {wi : TI} {g : TG} {tb : TS} {pos : Pos} (hp : PassesOwn (model X.prog X.w) X.A X.env X.xe) (hc : X.calm = true) (hi : PI X tg iter wi) (hg : PG X tg g) (hb : PSs X body tb)
    (hs : ∀ x, foldedSetIterable iter X.env x = pure x := by intro _; rfl) : PS X (.For tg iter body [] pos) (cFor wi g tb) := by
  have e2 : cFor wi g tb = tFor wi g tb := by
    funext D σ H
    unfold cFor tFor
    simp only [forw_eq]
  rw [e2]
  exact ps_for hp hc hi hg hb hs
def onI1 (k : Int → Hp → Prop) : List V → Hp → Prop := fun xs H => match xs with
  | [.int i] => k i H
  | _ => False
theorem onI1_eq (k : Int → Hp → Prop) : onI1 k = fun xs H => ∃ i, xs = [.int i] ∧ k i H := by
  funext x H
  apply propext
  unfold onI1
  constructor
  · intro h
    split at h
    · exact ⟨_, rfl, h⟩
    · exact h.elim
  · rintro ⟨c, rfl, h⟩
    exact h
def cRng1 (ta : TA) : TI := fun σ H R => ta σ H (onI1 fun j H1 => Chk (-(2 ^ 62) ≤ j ∧ j < 2 ^ 62) (R (Itr 0 j.toNat) H1))
theorem i_range1 {a : Expr} {ta : TA} {p pos : Pos} (hg : Gl X "range") (hm : X.mg "range" = none) (ha : PA X [a] ta) (hs : starEach [a] X.env = [(false, eval a X.env)] := by rfl) : PI X tg (.Call (.Name "range" p) [a] [] pos) (cRng1 ta) := by
  have e2 : cRng1 ta = iRng1 ta := by
    funext σ H R
    unfold cRng1 iRng1
    simp only [onI1_eq, chk_eq, and_assoc]
  rw [e2]
  exact pi_range1 hg hm ha hs
/-- over what a value is: a list or a tuple -/
structure ItS (K : PySem.W.Frag) (H : Hp) (a : Addr) (R : It → Hp → Prop) : Prop where
  ex : ((∃ xs, SqL K H a xs) ∧ R (Itl K a) H) ∨ ((∃ xs, SqT K H a xs) ∧ R (Itt K a) H)
end
/-- two lists or two tuples, zipped -/
structure ItZ (K : PySem.W.Frag) (H : Hp) (a b : Addr) (R : It → Hp → Prop) : Prop where
  ex : ∃ xs ys, (SqL K H a xs ∧ SqL K H b ys ∧ R (Itz K a b) H) ∨ (SqT K H a xs ∧ SqT K H b ys ∧ R (ItzT K a b) H)
def onRR (k : Addr → Addr → Hp → Prop) : List V → Hp → Prop := fun xs H => match xs with
  | [.ref a, .ref b] => k a b H
  | _ => False
theorem onRR_ok {k : Addr → Addr → Hp → Prop} {xs : List V} {H : Hp} (h : onRR k xs H) : ∃ a b, xs = [.ref a, .ref b] ∧ k a b H := by
  unfold onRR at h
  split at h
  · exact ⟨_, _, rfl, h⟩
  · exact h.elim
/-- an argument list's reading may be weakened -/
def cZip (K : PySem.W.Frag) (ta : TA) : TI := fun σ H R => ta σ H (onRR fun a b H1 => ItZ K H1 a b R)
theorem i_zip {X : Cx} {e e2 : Expr} {ta : TA} {p pos tpos : Pos} {elts : List Expr} {kk : Nat} (hg : Gl X "zip") (hm : X.mg "zip" = none) (ha : PA X [e, e2] ta)
    (hs : starEach [e, e2] X.env = (false, eval e X.env) :: starEach [e2] X.env := by rfl) (hpl : (backTo pos (starEach [e2] X.env)).any (·.1) = false := by rfl) :
    PI X (.Tuple elts kk tpos) (.Call (.Name "zip" p) [e, e2] [] pos) (cZip X.K ta) := by
  have e2 : cZip X.K ta = iZipA X.K ta := by
    funext σ H R
    unfold cZip iZipA
    have e3 : (onRR fun a b H1 => ItZ X.K H1 a b R) = fun vs H1 => ∃ a b xs ys, vs = [V.ref a, V.ref b] ∧ ((SqL X.K H1 a xs ∧ SqL X.K H1 b ys ∧ R (Itz X.K a b) H1) ∨ (SqT X.K H1 a xs ∧ SqT X.K H1 b ys ∧ R (ItzT X.K a b) H1)) := by
      funext vs H1
      apply propext
      constructor
      · intro h
        obtain ⟨a, b, rfl, ⟨xs, ys, q⟩⟩ := onRR_ok h
        exact ⟨a, b, xs, ys, rfl, q⟩
      · rintro ⟨a, b, xs, ys, rfl, q⟩
        exact ⟨xs, ys, q⟩
    rw [e3]
  rw [e2]
  exact pi_zipA hg hm ha hs hpl
structure ItE (K : PySem.W.Frag) (H : Hp) (a : Addr) (R : It → Hp → Prop) : Prop where
  ex : (∃ xs, SqL K H a xs) ∧ R (Ite K a) H
def onR1 (k : Addr → Hp → Prop) : List V → Hp → Prop := fun xs H => match xs with
  | [.ref a] => k a H
  | _ => False
theorem onR1_ok {k : Addr → Hp → Prop} {xs : List V} {H : Hp} (h : onR1 k xs H) : ∃ a, xs = [.ref a] ∧ k a H := by
  unfold onR1 at h
  split at h
  · exact ⟨_, rfl, h⟩
  · exact h.elim
def cEnum (K : PySem.W.Frag) (ta : TA) : TI := fun σ H R => ta σ H (onR1 fun a H1 => ItE K H1 a R)
theorem i_enum {X : Cx} {e : Expr} {ta : TA} {p pos tpos : Pos} {elts : List Expr} {kk : Nat} (hg : Gl X "enumerate") (hm : X.mg "enumerate" = none) (ha : PA X [e] ta) (hs : starEach [e] X.env = [(false, eval e X.env)] := by rfl) :
    PI X (.Tuple elts kk tpos) (.Call (.Name "enumerate" p) [e] [] pos) (cEnum X.K ta) := by
  have e2 : cEnum X.K ta = iEnum X.K ta := by
    funext σ H R
    unfold cEnum iEnum
    have e3 : (onR1 fun a H1 => ItE X.K H1 a R) = fun vs H1 => ∃ a xs, vs = [V.ref a] ∧ SqL X.K H1 a xs ∧ R (Ite X.K a) H1 := by
      funext vs H1
      apply propext
      constructor
      · intro h
        obtain ⟨a, rfl, ⟨⟨xs, q⟩, r⟩⟩ := onR1_ok h
        exact ⟨a, xs, rfl, q, r⟩
      · rintro ⟨a, xs, rfl, q, r⟩
        exact ⟨⟨xs, q⟩, r⟩
    rw [e3]
  rw [e2]
  exact pi_enum hg hm ha hs
structure UnT (K : PySem.W.Frag) (H : Hp) (a : Addr) (n : Nat) (k : List V → Prop) : Prop where
  ex : ∃ xs, SqT K H a xs ∧ xs.length = n ∧ k xs
def cGNil : TGs := fun vs σ H Q => match vs with
  | [] => Q σ H
  | _ => False
def cGCons (t : TG) (u : TGs) : TGs := fun vs σ H Q => match vs with
  | v :: r => t v σ H fun σ' H' => u r σ' H' Q
  | _ => False
def cGTup (K : PySem.W.Frag) (n : Nat) (t : TGs) : TG := fun v σ H Q => match v with
  | .ref a => UnT K H a n fun xs => t xs σ H Q
  | _ => False
section
variable {X : Cx} {pos : Pos}
theorem weakG {e : Expr} {t t' : TG} (h : PG X e t) (w : ∀ v σ H Q, t' v σ H Q → t v σ H Q) : PG X e t' := ⟨fun pins s σ H v u Q I r q => h.run pins s σ H v u Q I r (w _ _ _ _ q)⟩
theorem weakGs {e : List Expr} {t t' : TGs} (h : PGs X e t) (w : ∀ v σ H Q, t' v σ H Q → t v σ H Q) : PGs X e t' := ⟨fun pins s σ H v u Q I r q => h.run pins s σ H v u Q I r (w _ _ _ _ q)⟩
theorem g_nil : PGs X [] cGNil := weakGs pgs_nil fun vs σ H Q h => by
  unfold cGNil at h
  split at h
  · exact ⟨rfl, h⟩
  · exact h.elim
theorem g_cons {e : Expr} {es : List Expr} {t : TG} {u : TGs} (h1 : PG X e t) (h2 : PGs X es u)
    (hs : (assignEach (e :: es) X.env).map (·.2) = assign e X.env :: (assignEach es X.env).map (·.2) := by rfl) : PGs X (e :: es) (cGCons t u) := weakGs (pgs_cons h1 h2 hs) fun vs σ H Q h => by
  unfold cGCons at h
  split at h
  · exact ⟨_, _, rfl, h⟩
  · exact h.elim
theorem g_tup {es : List Expr} {k : Nat} {t : TGs} {n : Nat} (hc : X.calm = true) (h : PGs X es t)
    (hn : (assignEach es X.env).length = n := by rfl) (hst : (assignEach es X.env).findIdx? (·.1) = none := by rfl) : PG X (.Tuple es k pos) (cGTup X.K n t) := weakG (pg_tup hc h hn hst) fun v σ H Q q => by
  unfold cGTup at q
  split at q
  · obtain ⟨⟨xs, h1, h2, h3⟩⟩ := q
    exact ⟨_, xs, rfl, h1, h2, h3⟩
  · exact q.elim
/-- o[i] = v in a list -/
structure SetL (H : Hp) (p : Addr) (k : Int) (v : V) (Q : Hp → Prop) : Prop where
  ex : ∃ xs j, H p = some (.lst xs) ∧ ixN xs.length k = some j ∧ Q (upd H p (.lst (xs.set j v)))
def rSetC : V → V → V → Hp → (Hp → Prop) → Prop := fun o i v H Q => match o, i with
  | .ref p, .int k => SetL H p k v Q
  | _, _ => False
theorem p_set : PSet X rSetC := by
  intro pins s σ H o i v ov iv u Q I ro ri rv h
  unfold rSetC at h
  split at h
  · obtain ⟨⟨xs, j, h1, h2, h3⟩⟩ := h
    exact set_list pins s σ H _ _ _ _ _ _ Q I ro ri rv ⟨_, xs, _, j, rfl, rfl, h1, h2, h3⟩
  · exact h.elim
end
end CL
set_option Elab.async false
set_option linter.all false
set_option maxRecDepth 100000
set_option maxHeartbeats 2000000
namespace CL
open PySem PySem.Spec PyProof.Rows L2 RZ SkE
structure LcW (J : It) (g : TG) (tt : TT) (te : TE) (vs : List Nat) (σ : L2.St) (D : Addr) (Qd : Hp → Prop) (H0 : Hp) : Prop where
  ex : ∃ W : Nat → Nat → Hp → Prop, (∃ m, W 0 m (upd H0 D (.lst []))) ∧ ∀ i m H, W i m H → (J.stop i H ∧ Qd H) ∨ (J.go i H ∧ ∃ Nx : Hp → Prop, (∀ H', Nx H' → ∃ m', m' < m ∧ W (i + 1) m' H') ∧
    ∀ x H', J.yld i H x H' → g x (wipe σ vs) H' fun σ2 H2 => wipe σ2 vs = wipe σ vs ∧ tt σ2 H2 fun b H3 => if b = true then te σ2 H3 fun y H4 => ∃ acc, H4 D = some (.lst acc) ∧ acc.length < sizeLine ∧ Nx (upd H4 D (.lst (acc ++ [y]))) else Nx H3)
structure NewA (H : Hp) (k : Addr → Prop) : Prop where
  k : ∀ p, H p = none → k p
def cLc (wi : TI) (g : TG) (tt : TT) (te : TE) (vs : List Nat) : TE := fun σ H Q => wi σ H fun J H1 => NewA H1 fun D => LcW J g tt te vs σ D (fun H' => Q (.ref D) H') H1
theorem lcw_eq {J : It} {g : TG} {tt : TT} {te : TE} {vs : List Nat} {σ : L2.St} {D : Addr} {Qd : Hp → Prop} {H0 : Hp} : LcW J g tt te vs σ D Qd H0 = ∃ W : Nat → Nat → Hp → Prop, (∃ m, W 0 m (upd H0 D (.lst []))) ∧ ∀ i m H, W i m H → (J.stop i H ∧ Qd H) ∨ (J.go i H ∧ ∃ Nx : Hp → Prop, (∀ H', Nx H' → ∃ m', m' < m ∧ W (i + 1) m' H') ∧
    ∀ x H', J.yld i H x H' → g x (wipe σ vs) H' fun σ2 H2 => wipe σ2 vs = wipe σ vs ∧ tt σ2 H2 fun b H3 => if b = true then te σ2 H3 fun y H4 => ∃ acc, H4 D = some (.lst acc) ∧ acc.length < sizeLine ∧ Nx (upd H4 D (.lst (acc ++ [y]))) else Nx H3) := propext ⟨fun h => h.ex, fun h => ⟨h⟩⟩
theorem newa_eq {H : Hp} {k : Addr → Prop} : NewA H k = ∀ p, H p = none → k p := propext ⟨fun h => h.k, fun h => ⟨h⟩⟩
theorem clc_eq {wi : TI} {g : TG} {tt : TT} {te : TE} {vs : List Nat} : cLc wi g tt te vs = tLc wi g tt te vs := by
  funext σ H Q
  unfold cLc tLc
  simp only [newa_eq, lcw_eq]
section
variable {X : Cx} {elt tg iter : Expr} {ifs : List Expr} {scope : Scope} {own : List (Str × Nat)} {pos : Pos} {wi : TI} {g : TG} {tt : TT} {te : TE}
theorem e_lc (hc : X.calm = true) (hN : X.N.Nodup) (hi : PI X tg iter wi) (ok : BlkOk X.N X.env.scope scope own)
    (hg : ∀ (s : Shared) (H : Hp) (C : Addr) (cl : List (Str × Addr)) (fp : List Addr), PG (X.blk s H scope (compEnvC scope cl C X.env) fp) tg g)
    (ht : ∀ (s : Shared) (H : Hp) (C : Addr) (cl : List (Str × Addr)) (fp : List Addr), PTs (X.blk s H scope (compEnvC scope cl C X.env) fp) ifs tt)
    (he : ∀ (s : Shared) (H : Hp) (C : Addr) (cl : List (Str × Addr)) (fp : List Addr), PE (X.blk s H scope (compEnvC scope cl C X.env) fp) elt te)
    (hs : ∀ x, foldedSetIterable iter X.env x = pure x := by intro _; rfl) :
    PE X (.ListComp elt [⟨tg, iter, ifs, 0⟩] scope pos) (cLc wi g tt te (own.map (·.2))) := by
  rw [clc_eq]
  exact pe_lc hc hN hi ok hg ht he hs
end
def cPar (i j : Nat) (ta : TA) : TS := fun D σ H => ta σ H fun vs H1 => match vs with
  | [v, w] => D.nx ((σ.set i (some v)).set j (some w)) H1
  | _ => False
theorem s_par {X : Cx} {pos : Pos} {i j : Nat} {x y : Str} {a b : Expr} {ta : TA} {px py pt : Pos} {kt k2 pt2} (hc : X.calm = true) (hN : X.N.Nodup) (hi : X.N[i]? = some x) (hj : X.N[j]? = some y) (hij : i ≠ j)
    (hx : X.env.scope.names.lookup x = some .local) (hy : X.env.scope.names.lookup y = some .local) (ha : PA X [a, b] ta)
    (hw : swappedStores [.Tuple [.Name x px, .Name y py] kt pt] (.Tuple [a, b] k2 pt2) X.env = pure (some [x, y]))
    (hs : swapsWithSole [.Tuple [.Name x px, .Name y py] kt pt] (.Tuple [a, b] k2 pt2) pos.line X.env = pure false := by rfl) :
    PS X (.Assign [.Tuple [.Name x px, .Name y py] kt pt] (.Tuple [a, b] k2 pt2) pos) (cPar i j ta) := by
  have e : cPar i j ta = tPar i j ta := by
    funext D σ H
    unfold cPar tPar
    have e2 : (fun (vs : List V) (H1 : Hp) => (match vs with | [v, w] => D.nx ((σ.set i (some v)).set j (some w)) H1 | _ => False)) = fun vs H1 => ∃ v w, vs = [v, w] ∧ D.nx ((σ.set i (some v)).set j (some w)) H1 := by
      funext vs H1
      apply propext
      constructor
      · intro h
        split at h
        · exact ⟨_, _, rfl, h⟩
        · exact h.elim
      · rintro ⟨v, w, rfl, h⟩
        exact h
    rw [e2]
  rw [e]
  exact ps_par hc hN hi hj hij hx hy ha hw hs
theorem Same.up {H H' : Hp} (e : Same H H') {a : Addr} {o : HO} (h : H a = some o) : H' a = some o := e a o h
/-- all but b is as it was -/
def But (b : Addr) (H H' : Hp) : Prop := ∀ a o, a ≠ b → H a = some o → H' a = some o
theorem But.up {b : Addr} {H H' : Hp} (e : But b H H') {a : Addr} {o : HO} (n : a ≠ b) (h : H a = some o) : H' a = some o := e a o n h
theorem upd_to {H : Hp} {a b : Addr} {o : HO} {r : Option HO} (n : b ≠ a) (h : H b = r) : upd H a o b = r := by rw [upd_ne n]; exact h
theorem At.nat {α : Type} {xs : List α} {i : Int} {k : α → Prop} {v : α} (j : Nat) (e : i = (j : Int)) (h : xs[j]? = some v) (q : k v) : At xs i k := ⟨v, by rw [e]; exact atI_nat h, q⟩
end CL
set_option Elab.async false
set_option linter.all false
set_option maxRecDepth 100000
set_option maxHeartbeats 2000000
namespace CL
open PySem PySem.Spec PyProof.Rows L2 RZ SkE
section
variable {X : Cx} {CX : CXT} {n : Nat} {f C : Addr} {fd : FuncData} {ps : List Str} {sp : Sp} {E : XK}
/-- a def run below the body, where there is room -/
theorem run_at {A : Around} {pins : List (Addr × Obj)} {σ : L2.St} {H : Hp} {s : Shared} {Q : VK} {us : List Value} {vs : List V} (F : FnOk X.prog X.w X.K X.mg X.base CX n f fd ps sp) (hb : Binds X.K fd ps []) (hx : Passes CX X E) (room : Room n A) (fr : A.frames = X.A.frames)
    (I : Inv X pins σ H s) (r : Vals vs us) (h : sp vs H Q E) : wpAny (model X.prog X.w) A (call (.ref f) us) (EP X pins σ Q) X.xe s := by
  have e := I.env0
  have e1 : Env0 X.prog X.w X.K X.mg X.base A X.stack s H := ⟨by rw [fr]; exact e.frames, e.mod, e.bs, e.bsz, e.funs, e.frf, e.hok, e.bare⟩
  have hl : (us ++ []).length = ps.length := by
    rw [List.append_nil, ← r.length]
    exact F.len _ _ _ _ h
  have b1 := hb s us I.kIn hl
  rw [List.append_nil] at b1
  refine wpAny_call (codeAny_mono (F.run A X.stack s H ⟨us, []⟩ us vs Q E room e1 b1 r h) fun res s' hq => ?_)
  cases res with
  | error er => exact hx pins σ H s er s' I hq
  | ok fl =>
    cases fl with
    | ret u => exact I.after hq
    | next => exact False.elim hq
    | brk => exact False.elim hq
    | cont => exact False.elim hq
/-- an instance as the machine sees it -/
theorem inst_at {pins : List (Addr × Obj)} {σ : L2.St} {H : Hp} {s : Shared} {a dx : Addr} {fs : List (Str × V)} (I : Inv X pins σ H s) (h : H a = some (.ins C dx fs)) : ∃ od, PySem.W.InstAt s.heap a (PySem.W.instObj C dx) C (some od) := by
  obtain ⟨mA, J, _⟩ := ins_get I.hok h
  obtain ⟨od, J, _⟩ := J.look
  exact ⟨od, J⟩
/-- what a comparison by an own def must hand back: a Boolean -/
def BackB (neg : Bool) (Q : VK) : VK := fun v H => match v with
  | .bl b => Q (.bl (if neg then !b else b)) H
  | _ => False
/-- own == or != of an instance at the left: what is asked -/
structure OwnC (K : PySem.W.Frag) (C : Addr) (sp : Sp) (E : XK) (neg : Bool) (a : Addr) (y : V) (H : Hp) (Q : VK) : Prop where
  ex : ∃ dx fs t, H a = some (.ins C dx fs) ∧ TyX K H y t ∧ PySem.W.notFirst K C t = true ∧ sp [.ref a, y] H (BackB neg Q) E
def rOwn (K : PySem.W.Frag) (C : Addr) (sp : Sp) (E : XK) (neg : Bool) : R2 := fun x y H Q => match x with
  | .ref a => OwnC K C sp E neg a y H Q
  | _ => False
theorem ifBound_ne {M : Model} {A : Around} {K : PySem.W.Frag} {x : Addr} {ox : Obj} {od : Option Obj} {s : Shared} {b : Value} {Ex : Value → Shared → Prop} {Q : Option Value → Shared → Prop} (Y : K.In s.heap) (I : PySem.W.InstAt s.heap x ox C od)
    (hs : PySem.W.findIn K (.ref C) "__ne__" = some (some (.builtin "object.__ne__"))) (h : wpAny M A (call (.builtin "object.__ne__") [.ref x, b]) (fun v => Q (some v)) Ex s) : wpAny M A (callSpecialIfBound? (.ref x) "__ne__" [b]) Q Ex s := by
  simp only [callSpecialIfBound?, bindSpecialIfBound?]
  refine wpAny_holding (wpAny_bind (wpAny_bind (wpAny_bind (I.type.here ((PySem.W.looks_findIn Y hs).here (wpAny_bind (wpAny_askSetting (wpAny_ite ?_))))))))
  have fin : wpAny M A (call (.builtin "object.__ne__") ([.ref x] ++ [b]) >>= fun v => pure (some v)) Q Ex s := wpAny_bind (wpAny_mono h (fun v s' z => wpAny_pure z) fun _ _ z => z)
  split
  · exact wpAny_bind (wpAny_of_eq (F.cmp_object.ne.bind _) (wpAny_pure (by exact fin)))
  · exact wpAny_tryCatch (wpAny_bind (wpAny_of_eq (F.cmp_object.ne.bind _) (wpAny_pure (by exact fin))))
open Builtin in
theorem objNe_body {prog : Program} {w : World} {A : Around} {K : PySem.W.Frag} {x : Addr} {ox : Obj} {od : Option Obj} {s : Shared} {b : Value} {Ex : Value → Shared → Prop} {Q : Fin → Shared → Prop} (hu : A.units < cLine) (Y : K.In s.heap) (I : PySem.W.InstAt s.heap x ox C od)
    (hs : PySem.W.findIn K (.ref C) "__eq__" = some (some (.ref f))) (hf : PySem.W.isFn K (.ref f) = true)
    (h : wpAny (model prog w) A (call (.ref f) [.ref x, b]) (fun v s' => ∃ k, v = .bool k ∧ Q (.done (.ret (.bool (!k)))) s') Ex s) :
    wpAny (model prog w) A (Builtin.«object.__ne__» ⟨[.ref x, b], []⟩) Q Ex s := by
  unfold Builtin.«object.__ne__»
  repeat (first
    | with_reducible refine wpAny_cRoomFor hu ?_
    | (refine wpAny_bind (m := callSpecialIfBound? (.ref x) (Str.ofString "__eq__") [b]) (PySem.W.ifBound_K Y I hs hf (wpAny_mono h (fun r s' hr => by
          obtain ⟨k, rfl, hq⟩ := hr
          repeat (first | exact hq | exact wpAny_pure hq | exact wpAny_truthy_bool hq | (refine wpAny_bind (m := truthy (.bool _)) (wpAny_truthy_bool ?_)) | wp_step)) fun _ _ z => z)))
    | wp_step)
theorem ne_own {prog : Program} {w : World} {A : Around} {K : PySem.W.Frag} {x L : Addr} {h₀ : Heap} {m : Str → Option Value} {ox : Obj} {od : Option Obj} {s : Shared} {b tb : Value} {Ex : Value → Shared → Prop} {Q : Value → Shared → Prop} (hu : A.units + 1 < cLine) (Fm : Fr h₀ L s.heap m) (Y₀ : K.In h₀)
    (I : PySem.W.InstAt s.heap x ox C od) (hb : PySem.W.Looks (model prog w) s.heap (typeOf b) tb) (hn : PySem.W.notFirst K C tb = true) (hm : PySem.W.mroIn K C (.type "object") = some true)
    (hs : PySem.W.findIn K (.ref C) "__eq__" = some (some (.ref f))) (hne : PySem.W.findIn K (.ref C) "__ne__" = some (some (.builtin "object.__ne__"))) (hf : PySem.W.isFn K (.ref f) = true)
    (h : wpAny (model prog w) A.in1 (call (.ref f) [.ref x, b]) (fun v s' => ∃ k, v = .bool k ∧ Q (.bool (!k)) s') Ex s) : wpAny (model prog w) A (richCompare .NotEq (.ref x) b) Q Ex s := by
  have Y := Y₀.keeps Fm.keep
  have one : wpAny (model prog w) A (tryCompare (.ref x) "__ne__" b) (fun r s' => ∃ v, r = some v ∧ Q v s') Ex s := by
    unfold tryCompare
    refine wpAny_bind (ifBound_ne Y I hne (wpAny_call (codeAny_call_builtin F.cmp_object.ne.plain F.cmpEntry_ne (PySem.W.check_slot F.cmpKind_ne F.cmpSplit_ne (I.type.andThen (PySem.W.looks_mroIn Y hm)) (F.cmpArgs_ne _ _)
      (objNe_body (A := A.in1) hu Y I hs hf (wpAny_mono h (fun v s' hv => ?_) fun _ _ z => z))))))
    obtain ⟨k, rfl, hq⟩ := hv
    first | exact ⟨k, rfl, wpAny_pure ⟨_, rfl, hq⟩⟩ | exact ⟨k, rfl, wpAny_pure (wpAny_pure ⟨_, rfl, hq⟩)⟩
  unfold richCompare
  simp only [oneThing_ref]
  refine wpAny_holding (wpAny_bind (wpAny_cRoomFor (Nat.lt_of_succ_lt hu) ?_))
  rw [cmpInfo_NotEq]
  dsimp only
  refine wpAny_bind (I.type.here (wpAny_bind (hb.here ?_)))
  split
  · rename_i q
    have e : PySem.W.subIn K tb (.ref C) = some false := by
      rcases Bool.or_eq_true_iff.mp hn with z | z
      · rw [beq_iff_eq.mp z] at q
        simp at q
      · exact beq_iff_eq.mp z
    refine wpAny_bind ((PySem.W.looks_subIn Y e).here ?_)
    simp only [Bool.false_eq_true, if_false]
    refine wpAny_bind (wpAny_mono one (fun r s' z => ?_) fun _ _ z => z)
    obtain ⟨v, rfl, hq⟩ := z
    exact wpAny_pure hq
  · refine wpAny_bind (wpAny_pure ?_)
    simp only [Bool.false_eq_true, if_false]
    refine wpAny_bind (wpAny_mono one (fun r s' z => ?_) fun _ _ z => z)
    obtain ⟨v, rfl, hq⟩ := z
    exact wpAny_pure hq
theorem c_neO (F : FnOk X.prog X.w X.K X.mg X.base CX n f fd ps sp) (hb : Binds X.K fd ps []) (hx : Passes CX X E) (room : Room (n + 1) X.A) (hm : PySem.W.mroIn X.K C (.type "object") = some true)
    (hs : PySem.W.findIn X.K (.ref C) "__eq__" = some (some (.ref f))) (hne : PySem.W.findIn X.K (.ref C) "__ne__" = some (some (.builtin "object.__ne__"))) (hf : PySem.W.isFn X.K (.ref f) = true) : OpR X (compareOp .NotEq) (rOwn X.K C sp E true) := by
  intro pins s σ H x y v u Q I rx ry h
  unfold rOwn at h
  split at h
  · rename_i a
    obtain ⟨⟨dx, fs, t, h1, h2, h3, h4⟩⟩ := h
    cases rx
    obtain ⟨od, J⟩ := inst_at I h1
    obtain ⟨m, hF⟩ := I.fr
    obtain ⟨Pk, Z, hP, _⟩ := kit_of I ry h2
    show wpAny (model X.prog X.w) X.A (richCompare .NotEq (.ref a) u) (EP X pins σ Q) X.xe s
    refine ne_own (tb := t) (by have := room.units; omega) hF I.ok.mod.kin J (Z.ty _ _ I.kIn hP) h3 hm hs hne hf ?_
    refine wpAny_mono (run_at F hb hx room.in1 rfl I (vs := [.ref a, y]) (.cons rfl (.cons ry .nil)) h4) (fun r s' q => ?_) fun _ _ z => z
    obtain ⟨w, H', I', rw', q'⟩ := q
    unfold BackB at q'
    split at q'
    · rename_i k0
      cases rw'
      exact ⟨_, rfl, .bl (!k0), H', I', rfl, q'⟩
    · exact q'.elim
  · exact h.elim
/-- str(x): an int, a text, an instance with an own __str__ -/
def BackS (Q : VK) : VK := fun v H => match v with
  | .str z => Q (.str z) H
  | _ => False
structure OwnS (C : Addr) (sp : Sp) (E : XK) (a : Addr) (H : Hp) (Q : VK) : Prop where
  ex : ∃ dx fs, H a = some (.ins C dx fs) ∧ sp [.ref a] H (BackS Q) E
def rStrO (C : Addr) (sp : Sp) (E : XK) : List V → Hp → VK → Prop := fun xs H Q => match xs with
  | [.ref a] => OwnS C sp E a H Q
  | ys => rStrC ys H Q
theorem k_strO (F : FnOk X.prog X.w X.K X.mg X.base CX n f fd ps sp) (hb : Binds X.K fd ps []) (hx : Passes CX X E) (room : Room (n + 2) X.A)
    (hs : PySem.W.findIn X.K (.ref C) "__str__" = some (some (.ref f))) (hf : PySem.W.isFn X.K (.ref f) = true) : CallR X (.type "str") (rStrO C sp E) := by
  intro pins s σ H xs us Q I r h
  unfold rStrO at h
  split at h
  · rename_i a
    obtain ⟨⟨dx, fs, h1, h2⟩⟩ := h
    obtain ⟨u, rfl, ru⟩ := vals1 r
    cases ru
    obtain ⟨od, J⟩ := inst_at I h1
    have r2 : Room n X.A.in1.in1 := (show Room (n + 1) X.A.in1 from room.in1).in1
    refine PySem.W.kso_call r2.units0 I.kIn J hs hf ?_
    refine wpAny_mono (run_at F hb hx r2 rfl I (vs := [.ref a]) (.cons rfl .nil) h2) (fun v s' q => ?_) fun _ _ z => z
    obtain ⟨w, H', I', rw', q'⟩ := q
    unfold BackS at q'
    split at q'
    · rename_i z0
      obtain ⟨t, rfl⟩ := rw'
      exact ⟨.str z0, H', I', ⟨t, rfl⟩, q'⟩
    · exact q'.elim
  · exact k_str pins s σ H xs us Q I r h
end
end CL
set_option Elab.async false
set_option linter.all false
set_option maxRecDepth 100000
set_option maxHeartbeats 2000000
namespace CL
open PySem PySem.Spec PyProof.Rows L2 RZ SkE
def cFmt (te : TE) : TE := fun σ H Q => te σ H fun x H1 => match x with
  | .str y => Chk (y.length ≤ sizeLine) (Q (.str y) H1)
  | .int i => Chk (i.natAbs.log2 < 1920) (Q (.str (toString i)) H1)
  | _ => False
def onF (Q : VK) : VK := fun x H1 => match x with
  | .str y => Chk (y.length ≤ sizeLine) (Q (.str y) H1)
  | .int i => Chk (i.natAbs.log2 < 1920) (Q (.str (toString i)) H1)
  | _ => False
theorem onF_ok {Q : VK} {x : V} {H : Hp} : onF Q x H = ((∃ y : Str, x = .str y ∧ y.length ≤ sizeLine ∧ Q (.str y) H) ∨ ∃ i : Int, x = .int i ∧ i.natAbs.log2 < 1920 ∧ Q (.str (toString i)) H) := by
  apply propext
  unfold onF
  constructor
  · intro h
    split at h
    · exact .inl ⟨_, rfl, h.p, h.k⟩
    · exact .inr ⟨_, rfl, h.p, h.k⟩
    · exact h.elim
  · rintro (⟨y, rfl, h, q⟩ | ⟨i, rfl, h, q⟩)
    · exact ⟨h, q⟩
    · exact ⟨h, q⟩
section
variable {X : Cx} {e : Expr} {te : TE} {pos : Pos}
theorem e_fmt (he : PE X e te) : PE X (.FormattedValue e (-1) none pos) (cFmt te) := by
  have e2 : cFmt te = tFmt te := by
    funext σ H Q
    show te σ H (onF Q) = _
    have e3 : onF Q = fun x H1 => ((∃ y : Str, x = .str y ∧ y.length ≤ sizeLine ∧ Q (.str y) H1) ∨ ∃ i : Int, x = .int i ∧ i.natAbs.log2 < 1920 ∧ Q (.str (toString i)) H1) := by
      funext x H1
      exact onF_ok
    rw [e3]
    rfl
  rw [e2]
  exact pe_fmt he
def cJs : List TE → Str → L2.St → Hp → (Str → Hp → Prop) → Prop
  | [], acc, _, H, Q => Q acc H
  | t :: ts, acc, σ, H, Q => t σ H fun x H1 => match x with
    | .str y => Chk ((acc ++ y).length ≤ sizeLine) (cJs ts (acc ++ y) σ H1 Q)
    | _ => False
def onJ (k : Str → Hp → Prop) : VK := fun x H => match x with
  | .str y => k y H
  | _ => False
theorem onJ_eq (k : Str → Hp → Prop) : onJ k = fun x H => ∃ y, x = .str y ∧ k y H := by
  funext x H
  apply propext
  unfold onJ
  constructor
  · intro h
    split at h
    · exact ⟨_, rfl, h⟩
    · exact h.elim
  · rintro ⟨y, rfl, h⟩
    exact h
theorem cJs_eq : ∀ (ts : List TE) (acc : Str) (σ : L2.St) (H : Hp) (Q : Str → Hp → Prop), cJs ts acc σ H Q = tJs ts acc σ H Q
  | [], _, _, _, _ => rfl
  | t :: ts, acc, σ, H, Q => by
    show t σ H (onJ fun y H1 => Chk ((acc ++ y).length ≤ sizeLine) (cJs ts (acc ++ y) σ H1 Q)) = _
    rw [onJ_eq]
    simp only [chk_eq, cJs_eq ts]
    rfl
theorem e_joined {v1 v2 : Expr} {rest : List Expr} {ts : List TE} {pos : Pos} (h : PJ X (v1 :: v2 :: rest) ts) : PE X (.JoinedStr (v1 :: v2 :: rest) pos) (fun σ H Q => cJs ts Str.empty σ H fun out H1 => Q (.str out) H1) := by
  simp only [cJs_eq]
  exact pe_joined h
structure Join (K : PySem.W.Frag) (H : Hp) (p : Addr) (a : Str) (k : Str → Prop) : Prop where
  ex : ∃ ys : List Str, (SqL K H p (ys.map V.str) ∨ SqT K H p (ys.map V.str)) ∧ (ys.map (·.length)).sum + ys.length * a.length ≤ 16777216 ∧ k (Txt.join a ys)
def cJoin (K : PySem.W.Frag) (to te : TE) : TE := fun σ H Q => to σ H fun x H1 => match x with
  | .str a => te σ H1 (onR fun p H2 => Join K H2 p a fun z => Q (.str z) H2)
  | _ => False
theorem e_join {o e : Expr} {to te : TE} {apos pos : Pos} (ho : PE X o to) (he : PE X e te) (hs : starEach [e] X.env = [(false, eval e X.env)] := by rfl) (hbase : attributeBase o "join" X.env (eval o X.env) = eval o X.env := by rfl) (hline : (apos.endLine == pos.line) = true := by rfl) :
    PE X (.Call (.Attribute o "join" apos) [e] [] pos) (cJoin X.K to te) := by
  have e2 : cJoin X.K to te = fun σ H Q => to σ H (onJ fun a H1 => te σ H1 (onR fun p H2 => Join X.K H2 p a fun z => Q (.str z) H2)) := rfl
  rw [e2]
  have key := pe_join (X := X) (apos := apos) (pos := pos) ho he hs hbase hline
  refine ⟨fun pins s σ H Q I h => key.run pins s σ H Q I ?_⟩
  rw [onJ_eq] at h
  simp only [onR_eq] at h
  unfold tM1
  have e3 : (fun (x : V) (H1 : Hp) => ∃ y, x = V.str y ∧ te σ H1 fun x H => ∃ c, x = V.ref c ∧ Join X.K H c y fun z => Q (.str z) H) = fun x H1 => (∃ a, x = V.str a) ∧ te σ H1 fun y H2 => ∃ a p, ∃ ys : List Str, x = .str a ∧ [y] = [.ref p] ∧ (SqL X.K H2 p (ys.map V.str) ∨ SqT X.K H2 p (ys.map V.str)) ∧
      (ys.map (·.length)).sum + ys.length * a.length ≤ 16777216 ∧ Q (.str (Txt.join a ys)) H2 := by
    funext x H1
    apply propext
    constructor
    · rintro ⟨a, rfl, h⟩
      refine ⟨⟨a, rfl⟩, ?_⟩
      have e4 : (fun (x : V) (H : Hp) => ∃ c, x = V.ref c ∧ Join X.K H c a fun z => Q (.str z) H) = fun y H2 => ∃ a' p, ∃ ys : List Str, V.str a = .str a' ∧ [y] = [V.ref p] ∧ (SqL X.K H2 p (ys.map V.str) ∨ SqT X.K H2 p (ys.map V.str)) ∧ (ys.map (·.length)).sum + ys.length * a'.length ≤ 16777216 ∧ Q (.str (Txt.join a' ys)) H2 := by
        funext y H2
        apply propext
        constructor
        · rintro ⟨c, rfl, ⟨ys, h1, h2, h3⟩⟩
          exact ⟨a, c, ys, rfl, rfl, h1, h2, h3⟩
        · rintro ⟨a', p, ys, e, e', h1, h2, h3⟩
          cases e
          cases e'
          exact ⟨p, rfl, ⟨ys, h1, h2, h3⟩⟩
      rw [e4] at h
      exact h
    · rintro ⟨⟨a, rfl⟩, h⟩
      refine ⟨a, rfl, ?_⟩
      have e4 : (fun (x : V) (H : Hp) => ∃ c, x = V.ref c ∧ Join X.K H c a fun z => Q (.str z) H) = fun y H2 => ∃ a' p, ∃ ys : List Str, V.str a = .str a' ∧ [y] = [V.ref p] ∧ (SqL X.K H2 p (ys.map V.str) ∨ SqT X.K H2 p (ys.map V.str)) ∧ (ys.map (·.length)).sum + ys.length * a'.length ≤ 16777216 ∧ Q (.str (Txt.join a' ys)) H2 := by
        funext y H2
        apply propext
        constructor
        · rintro ⟨c, rfl, ⟨ys, h1, h2, h3⟩⟩
          exact ⟨a, c, ys, rfl, rfl, h1, h2, h3⟩
        · rintro ⟨a', p, ys, e, e', h1, h2, h3⟩
          cases e
          cases e'
          exact ⟨p, rfl, ⟨ys, h1, h2, h3⟩⟩
      rw [e4]
      exact h
  rw [e3] at h
  exact h
end
def cPart (t : TE) : TO := fun σ H Q => t σ H fun x H1 => match x with
  | .int i => Q (some i) H1
  | _ => False
def onZ (k : Int → Hp → Prop) : VK := fun x H => match x with
  | .int i => k i H
  | _ => False
theorem onZ_eq (k : Int → Hp → Prop) : onZ k = fun x H => ∃ i, x = .int i ∧ k i H := by
  funext x H
  apply propext
  unfold onZ
  constructor
  · intro h
    split at h
    · exact ⟨_, rfl, h⟩
    · exact h.elim
  · rintro ⟨c, rfl, h⟩
    exact h
theorem o_some {X : Cx} {e : Expr} {te : TE} (h : PE X e te) : PO X (some e) (cPart te) := by
  have e2 : cPart te = tPart te := by
    funext σ H Q
    show te σ H (onZ fun i H1 => Q (some i) H1) = _
    rw [onZ_eq]
    rfl
  rw [e2]
  exact po_some h
structure SlL (K : PySem.W.Frag) (H : Hp) (a : Addr) (lo hi : Option Int) (Q : VK) : Prop where
  ex : (∃ xs, SqL K H a xs ∧ New H (.lst (cutV xs lo hi)) fun p H' => Q (.ref p) H')
structure MethR (H : Hp) (C : Addr) (m : Str) (a : Addr) (k : Prop) : Prop where
  ex : ∃ dx fs, H a = some (.ins C dx fs) ∧ fs.lookup m = none ∧ k
section
variable {K : PySem.W.Frag} {g : TG} {tb : TS} {D : Ends} {σ : L2.St} {H : Hp} {a b : Addr} {xs ys : List V}
theorem fw_range {lo : Int} {n : Nat} (Pv : Nat → L2.St → Hp → Prop) (h0 : Pv 0 σ H) (hs : ∀ i σ H, i < n → Pv i σ H → g (.int (lo + i)) σ H fun σ2 H2 => tb { D with nx := Pv (i + 1), ct := Pv (i + 1), bk := D.nx } σ2 H2) (hd : ∀ σ H, Pv n σ H → D.nx σ H) : ForW (Itr lo n) g tb D σ H := ⟨for_range Pv h0 hs hd⟩
theorem fw_zipT (hl : xs.length = ys.length) (Pv : Nat → L2.St → Hp → Prop) (h0 : Pv 0 σ H) (hq : ∀ i σ H, Pv i σ H → SqT K H a xs ∧ SqT K H b ys)
    (hs : ∀ (i : Nat) (x y : V) (T : Addr) (σ : L2.St) (H : Hp), xs[i]? = some x → ys[i]? = some y → Pv i σ H → H T = none → g (.ref T) σ (upd H T (.tup [x, y])) fun σ2 H2 => tb { D with nx := Pv (i + 1), ct := Pv (i + 1), bk := D.nx } σ2 H2) (hd : ∀ σ H, Pv xs.length σ H → D.nx σ H) :
    ForW (ItzT K a b) g tb D σ H := ⟨for_zipT hl Pv h0 hq hs hd⟩
variable {tt : TT} {te : TE} {vs : List Nat} {Qd : Hp → Prop} {p : Addr}
/-- one turn of a comprehension without a test -/
def LcStep (g : TG) (tt : TT) (te : TE) (vs : List Nat) (σ : L2.St) (p : Addr) (x : V) (H : Hp) (Nx : Hp → Prop) : Prop := g x (wipe σ vs) H fun σ2 H2 => wipe σ2 vs = wipe σ vs ∧ tt σ2 H2 fun b H3 =>
    if b = true then te σ2 H3 fun y H4 => ∃ acc, H4 p = some (.lst acc) ∧ acc.length < sizeLine ∧ Nx (upd H4 p (.lst (acc ++ [y]))) else Nx H3
theorem lw_range {lo : Int} {n : Nat} (Pv : Nat → Hp → Prop) (h0 : Pv 0 (upd H p (.lst []))) (hs : ∀ i H, i < n → Pv i H → LcStep g tt te vs σ p (.int (lo + i)) H (Pv (i + 1))) (hd : ∀ H, Pv n H → Qd H) : LcW (Itr lo n) g tt te vs σ p Qd H := ⟨lc_range Pv h0 hs hd⟩
theorem lw_list (Pv : Nat → Hp → Prop) (h0 : Pv 0 (upd H p (.lst []))) (hl : ∀ i H, i ≤ xs.length → Pv i H → SqL K H a xs) (hs : ∀ i x H, xs[i]? = some x → Pv i H → LcStep g tt te vs σ p x H (Pv (i + 1))) (hd : ∀ H, Pv xs.length H → Qd H) : LcW (Itl K a) g tt te vs σ p Qd H := ⟨lc_list Pv h0 hl hs hd⟩
end
end CL
set_option Elab.async false
set_option linter.all false
set_option maxRecDepth 100000
set_option maxHeartbeats 2000000
namespace CL
open PySem PySem.Spec PyProof.Rows L2 RZ SkE
section
variable {X : Cx} {elt tg iter : Expr} {ifs : List Expr} {scope : Scope} {own : List (Str × Nat)} {pos spos py : Pos} {wi : TI} {g : TG} {tt : TT} {te : TE} {i : Nat} {y : Str}
theorem s_setlc (hc : X.calm = true) (hN : X.N.Nodup) (hy : X.N[i]? = some y) (hyl : X.env.scope.names.lookup y = some .local)
    (hsw : swapsWith (.ListComp elt [⟨tg, iter, ifs, 0⟩] scope pos) (some (.Name y py)) spos.line X.env = pure true) (hi : PI X tg iter wi) (ok : BlkOk X.N X.env.scope scope own)
    (hg : ∀ (s : Shared) (H : Hp) (C : Addr) (cl : List (Str × Addr)) (fp : List Addr), PG (X.blk s H scope (compEnvC scope cl C X.env) fp) tg g)
    (ht : ∀ (s : Shared) (H : Hp) (C : Addr) (cl : List (Str × Addr)) (fp : List Addr), PTs (X.blk s H scope (compEnvC scope cl C X.env) fp) ifs tt)
    (he : ∀ (s : Shared) (H : Hp) (C : Addr) (cl : List (Str × Addr)) (fp : List Addr), PE (X.blk s H scope (compEnvC scope cl C X.env) fp) elt te)
    (hs : ∀ x, foldedSetIterable iter X.env x = pure x := by intro _; rfl) :
    PS X (.Assign [.Name y py] (.ListComp elt [⟨tg, iter, ifs, 0⟩] scope pos) spos) (tAsg (cLc wi g tt te (own.map (·.2))) (gName i)) := by
  rw [clc_eq]
  exact ps_setLc hc hN hy hyl hsw hi ok hg ht he hs
end
theorem c_ixK {X : Cx} {K : PySem.W.Frag} (h : X.K = K) : IxR X (rIxC K) := h ▸ c_ix
/-- nothing is tracked at p -/
structure Fre (H : Hp) (p : Addr) : Prop where
  n : H p = none
section
variable {H H1 H2 Y : Hp} {a b p : Addr} {o : HO}
theorem But.tr (x : But b H H1) (y : But b H1 H2) : But b H H2 := fun a o n h => y a o n (x a o n h)
/-- an object that H does not know -/
theorem But.fresh (x : But b H H1) (n : Fre H p) : But b H (upd H1 p o) := fun a _ na h => upd_to (ne_of_none h n.n) (x a _ na h)
theorem Same.fresh (x : Same H H1) (n : Fre H p) : Same H (upd H1 p o) := fun a _ h => upd_to (ne_of_none h n.n) (x a _ h)
theorem Same.tr (x : Same H H1) (y : Same H1 H2) : Same H H2 := fun a o h => y a o (x a o h)
theorem But.back (x : But b H Y) (n : p ≠ b) (h : Fre Y p) : Fre H p := ⟨by
  cases e : H p with
  | none => rfl
  | some u =>
    have q := x p u n e
    rw [h.n] at q
    cases q⟩
theorem Same.bk (x : Same H Y) (h : Fre Y p) : Fre H p := ⟨by
  cases e : H p with
  | none => rfl
  | some u =>
    have q := x p u e
    rw [h.n] at q
    cases q⟩
/-- the script: no list of ours, or the module's -/
structure Scr (K : PySem.W.Frag) (H : Hp) (a : Addr) (xs : List V) : Prop where
  sq : SqL K H a xs
  no : ∀ u, H a = some u → ∃ ob ys, u = .frz ob (.lst ys)
theorem Scr.ne {K : PySem.W.Frag} {xs : List V} (s : Scr K H a xs) (h : H p = some o) (d : ∀ ob ys, o ≠ .frz ob (.lst ys)) : a ≠ p := fun e => by
  subst e
  obtain ⟨ob, ys, q⟩ := s.no o h
  exact d ob ys q
end
/-- an own class -/
structure ClsT (K : PySem.W.Frag) (mg : Str → Option Value) (C : Addr) (name : Str) : Prop where
  g : mg name = some (.ref C)
  cl : Cls K C
  ha : PySem.W.findIn K (.ref C) "__class__" = some (some (.builtin "object.__class__"))
  hn : PySem.W.specialIn K (.builtin "object.__class__") "__get__" = some (some (.builtin "getset_descriptor.__get__"))
  ht : PySem.W.takesIn K (.builtin "object.__class__") = some true
  hm : PySem.W.mroIn K C (.type "object") = some true
theorem ClsT.ty {K : PySem.W.Frag} {mg : Str → Option Value} {C : Addr} {name : Str} (t : ClsT K mg C name) {H : Hp} {a dx : Addr} {fs : List (Str × V)} (e : H a = some (.ins C dx fs)) : TyX K H (.ref a) (.ref C) := .base (.ins e t.cl t.ha t.hn t.ht t.hm)
theorem kit_self {K : PySem.W.Frag} {C : Addr} : PySem.W.kitOne K (.ref C) (.ref C) = some true := by
  unfold PySem.W.kitOne
  rw [if_pos (by simp)]
theorem isr_own {K : PySem.W.Frag} {mg : Str → Option Value} {C : Addr} {name : Str} (t : ClsT K mg C name) {H : Hp} {a dx : Addr} {fs : List (Str × V)} {k : Bool → Prop} (e : H a = some (.ins C dx fs)) (q : k true) : IsR K H (.ref a) C k := ⟨.inl ⟨_, _, t.ty e, kit_self, q⟩⟩
theorem notFirst_self {K : PySem.W.Frag} {C : Addr} : PySem.W.notFirst K C (.ref C) = true := by
  unfold PySem.W.notFirst
  rw [Bool.or_eq_true]
  exact .inl (by simp)
theorem kit_int_int {K : PySem.W.Frag} : PySem.W.kitOne K (.type "int") (.type "int") = some true := kit_ty (by decide +kernel)
theorem kit_int_bool {K : PySem.W.Frag} : PySem.W.kitOne K (.type "int") (.type "bool") = some false := kit_ty (by decide +kernel)
theorem kit_int_str {K : PySem.W.Frag} : PySem.W.kitOne K (.type "int") (.type "str") = some false := kit_ty (by decide +kernel)
theorem kit_int_list {K : PySem.W.Frag} : PySem.W.kitOne K (.type "int") (.type "list") = some false := kit_ty (by decide +kernel)
theorem kit_int_tuple {K : PySem.W.Frag} : PySem.W.kitOne K (.type "int") (.type "tuple") = some false := kit_ty (by decide +kernel)
theorem kit_bool_int {K : PySem.W.Frag} : PySem.W.kitOne K (.type "bool") (.type "int") = some true := kit_ty (by decide +kernel)
theorem kit_bool_bool {K : PySem.W.Frag} : PySem.W.kitOne K (.type "bool") (.type "bool") = some true := kit_ty (by decide +kernel)
theorem kit_bool_str {K : PySem.W.Frag} : PySem.W.kitOne K (.type "bool") (.type "str") = some false := kit_ty (by decide +kernel)
theorem kit_bool_list {K : PySem.W.Frag} : PySem.W.kitOne K (.type "bool") (.type "list") = some false := kit_ty (by decide +kernel)
theorem kit_bool_tuple {K : PySem.W.Frag} : PySem.W.kitOne K (.type "bool") (.type "tuple") = some false := kit_ty (by decide +kernel)
theorem kit_str_int {K : PySem.W.Frag} : PySem.W.kitOne K (.type "str") (.type "int") = some false := kit_ty (by decide +kernel)
theorem kit_str_bool {K : PySem.W.Frag} : PySem.W.kitOne K (.type "str") (.type "bool") = some false := kit_ty (by decide +kernel)
theorem kit_str_str {K : PySem.W.Frag} : PySem.W.kitOne K (.type "str") (.type "str") = some true := kit_ty (by decide +kernel)
theorem kit_str_list {K : PySem.W.Frag} : PySem.W.kitOne K (.type "str") (.type "list") = some false := kit_ty (by decide +kernel)
theorem kit_str_tuple {K : PySem.W.Frag} : PySem.W.kitOne K (.type "str") (.type "tuple") = some false := kit_ty (by decide +kernel)
theorem kit_list_int {K : PySem.W.Frag} : PySem.W.kitOne K (.type "list") (.type "int") = some false := kit_ty (by decide +kernel)
theorem kit_list_bool {K : PySem.W.Frag} : PySem.W.kitOne K (.type "list") (.type "bool") = some false := kit_ty (by decide +kernel)
theorem kit_list_str {K : PySem.W.Frag} : PySem.W.kitOne K (.type "list") (.type "str") = some false := kit_ty (by decide +kernel)
theorem kit_list_list {K : PySem.W.Frag} : PySem.W.kitOne K (.type "list") (.type "list") = some true := kit_ty (by decide +kernel)
theorem kit_list_tuple {K : PySem.W.Frag} : PySem.W.kitOne K (.type "list") (.type "tuple") = some false := kit_ty (by decide +kernel)
theorem kit_tuple_int {K : PySem.W.Frag} : PySem.W.kitOne K (.type "tuple") (.type "int") = some false := kit_ty (by decide +kernel)
theorem kit_tuple_bool {K : PySem.W.Frag} : PySem.W.kitOne K (.type "tuple") (.type "bool") = some false := kit_ty (by decide +kernel)
theorem kit_tuple_str {K : PySem.W.Frag} : PySem.W.kitOne K (.type "tuple") (.type "str") = some false := kit_ty (by decide +kernel)
theorem kit_tuple_list {K : PySem.W.Frag} : PySem.W.kitOne K (.type "tuple") (.type "list") = some false := kit_ty (by decide +kernel)
theorem kit_tuple_tuple {K : PySem.W.Frag} : PySem.W.kitOne K (.type "tuple") (.type "tuple") = some true := kit_ty (by decide +kernel)
theorem kit_NoneType_int {K : PySem.W.Frag} : PySem.W.kitOne K (.type "NoneType") (.type "int") = some false := kit_ty (by decide +kernel)
theorem kit_NoneType_bool {K : PySem.W.Frag} : PySem.W.kitOne K (.type "NoneType") (.type "bool") = some false := kit_ty (by decide +kernel)
theorem kit_NoneType_str {K : PySem.W.Frag} : PySem.W.kitOne K (.type "NoneType") (.type "str") = some false := kit_ty (by decide +kernel)
theorem kit_NoneType_list {K : PySem.W.Frag} : PySem.W.kitOne K (.type "NoneType") (.type "list") = some false := kit_ty (by decide +kernel)
theorem kit_NoneType_tuple {K : PySem.W.Frag} : PySem.W.kitOne K (.type "NoneType") (.type "tuple") = some false := kit_ty (by decide +kernel)
/-- a value, an integer of ours that is not below l -/
def intFrom (x : V) (l : Int) : Bool := match x with
  | .int i => decide (l ≤ i)
  | _ => false
/-- a list or a tuple that is tracked, or a flat value -/
inductive AnyV (H : Hp) : V → Prop
  | non : AnyV H .non
  | bl (b : Bool) : AnyV H (.bl b)
  | int (i : Int) : AnyV H (.int i)
  | str (z : Str) : AnyV H (.str z)
  | lst {a : Addr} {xs : List V} (e : H a = some (.lst xs)) : AnyV H (.ref a)
  | tup {a : Addr} {xs : List V} (e : H a = some (.tup xs)) : AnyV H (.ref a)
theorem at_two {x y : V} {c : Prop} [Decidable c] {k : V → Prop} (h1 : c → k y) (h0 : ¬ c → k x) : At [x, y] (if c then 1 else 0) k := by
  by_cases h : c
  · rw [if_pos h]; exact ⟨y, rfl, h1 h⟩
  · rw [if_neg h]; exact ⟨x, rfl, h0 h⟩
theorem log_small {i : Int} (h : i.natAbs < 2 ^ 200) : i.natAbs.log2 < 1920 := Nat.lt_of_lt_of_le (PySem.Flt.log2_lt_of (by decide) h) (by decide)
theorem log_of {i : Int} (h0 : 0 ≤ i) (h : i ≤ 10000000) : i.natAbs.log2 < 1920 := log_small (by
  have : (10000001 : Nat) ≤ 2 ^ 200 := by
    refine Nat.le_trans (by decide : (10000001 : Nat) ≤ 2 ^ 24) (Nat.pow_le_pow_right (by decide) (by decide))
  omega)
end CL
set_option Elab.async false
set_option linter.all false
set_option maxRecDepth 100000
set_option maxHeartbeats 2000000
namespace CL
open PySem PySem.Spec PyProof.Rows L2 RZ SkE
structure FnG (P : Program) (W0 : World) (K : PySem.W.Frag) (mg : Str → Option Value) (base : Heap) (CX : CXT) (k : Nat) (f : Addr) (fd : FuncData) (ps : List Str) (sp : Sp) : Prop where
  len : ∀ vs H Q E, sp vs H Q E → vs.length = ps.length
  run : ∀ (A : Around) (outer : List Env) (s : Shared) (H : Hp) (args : Args) (us : List Value) (vs : List V) (Q : VK) (E : XK), A.guards = some [] → Room k A → Env0 P W0 K mg base A outer s H → BindsTo s fd args (ps.zip us) → Vals vs us → sp vs H Q E →
    codeAny (model P W0) A (.call (.ref f) args) (CR CX outer P W0 H s Q E) s
section
variable {CX : CXT} {P : Program} {W0 : World} {K : PySem.W.Frag} {mg : Str → Option Value} {base : Heap} {k : Nat} {f : Addr} {fd : FuncData} {qual x : Str} {st : Stmt} {N ps : List Str} {sp : Sp}
theorem guards_deeper {A : Around} {env : Env} : (A.deeper env).guards = A.guards := by first | rfl | (cases A; rfl)
/-- the rule for a def of the module, as Fun.ok, with the empty guard -/
theorem fun_okG (F : Fun K x qual st f fd) (S : FnScope N ps (defScope st)) (len : ∀ vs H Q E, sp vs H Q E → vs.length = ps.length)
    (hbody : ∀ (cdv : Value) (A : Around) (outer : List Env) (s : Shared) (H : Hp) (vs : List V) (Q : VK) (E : XK), A.guards = some [] → Room k (A.deeper (envOfC qual (defScope st) s.heap.objs.size f cdv)) → sp vs H Q E →
      ∃ t, PSs (cxOf CX0 P W0 K mg base N qual (defScope st) f cdv A outer s H E).nox (defBody st) t ∧ t { nx := fun _ H' => Q .non H', rt := Q } (L2.start N vs) H) : FnG P W0 K mg base CX0 (k + 1) f fd ps sp := by
  obtain ⟨oc, od, kV, doc, pm, an, cdv, ct, osl, rfl, lk, hcd⟩ := F.ex
  constructor
  · exact len
  · intro A outer s H args us vs Q E hG hr e0 hb r hsp
    obtain ⟨t, ht, hq⟩ := hbody cdv A outer s H vs Q E hG (hr.deeper _) hsp
    have inK : K.In s.heap := e0.mod.kin.keeps fun b o e => (e0.bs b o e).1
    have noL : s.heap.NoLimit := e0.mod.nolimit.keeps fun b o e => (e0.bs b o e).1
    refine codeAny_call_function hr.depth (inK _ _ lk) rfl S.co S.gen rfl (PySem.W.codeRec_of inK hcd) (hb _ _ _ _ ?_)
    refine wpAny_newFunctionEnv_cells S.kind (fun y hy => ?_) fun env he s1 z => ?_
    · obtain ⟨n, v⟩ := y
      exact (S.par n (List.of_mem_zip hy).1).elim .inl fun q => .inr ⟨q, PySem.W.cellsFrom_some _ _ _ (.inl q)⟩
    · subst he
      refine ⟨noL.keeps z.toInCall.keep, codeAny_func ?_⟩
      have I0 : Inv (cxOf CX0 P W0 K mg base N qual (defScope st) f cdv A outer s H E) [] (L2.start N vs) H s1 := inv_start S hr.hd e0 (len _ _ _ _ hsp) r z
      refine wpAny_mono (ht.nox.run [] s1 (L2.start N vs) H _ I0 hq) (fun fl s' hs => ?_) fun e s' hs => hs
      cases fl with
      | ret u => exact let ⟨v, σ', H', J, rv, q⟩ := hs; ⟨v, H', J.os, J.bare, J.base, J.hok, rv, q⟩
      | next => exact let ⟨σ', H', J, q⟩ := hs; ⟨V.non, H', J.os, J.bare, J.base, J.hok, rfl, q⟩
      | brk => exact let ⟨_, _, _, q⟩ := hs; q.elim
      | cont => exact let ⟨_, _, _, q⟩ := hs; q.elim
end
end CL
set_option Elab.async false
set_option linter.all false
set_option maxRecDepth 100000
set_option maxHeartbeats 2000000
namespace CL
open PySem PySem.Spec PyProof.Rows L2 RZ SkE
end CL
set_option Elab.async false
set_option linter.all false
set_option maxRecDepth 100000
set_option maxHeartbeats 2000000
namespace OW
open PySem PySem.Spec PyProof.Rows L2 RZ SkE CL
/-- an instance that is done: it never changes from now on -/
def doneF (fs : List (Str × V)) : Bool := (fs.lookup ("late" : Str)).isSome || ((fs.lookup ("events" : Str)).isSome || ((fs.lookup ("peak" : Str)).isSome && (fs.lookup ("rule" : Str)).isNone))
def imm : HO → Bool
  | .tup _ => true
  | .frz _ (.lst _) => true
  | .ins _ _ fs => doneF fs
  | _ => false
/-- what never changes stands as it stood -/
def Keep (H H' : Hp) : Prop := ∀ a o, H a = some o → imm o = true → H' a = some o
def Stable (R : Hp → Prop) : Prop := ∀ H H', Keep H H' → R H → R H'
structure OwnF (H : Hp) (L : List (Addr × HO)) (I : List (Hp → Prop)) : Prop where
  at_ : ∀ c ∈ L, H c.1 = some c.2
  nd : (L.map Prod.fst).Nodup
  im : ∀ R ∈ I, R H ∧ Stable R
/-- one of a list, the others -/
inductive Pull {α : Type} : List α → α → List α → Prop
  | head {c : α} {L : List α} : Pull (c :: L) c L
  | tail {c d : α} {L R : List α} (h : Pull L c R) : Pull (d :: L) c (d :: R)
theorem Pull.perm {α : Type} {L : List α} {c : α} {R : List α} (h : Pull L c R) : L.Perm (c :: R) := by
  induction h with
  | head => exact List.Perm.refl _
  | tail h ih => exact (List.Perm.cons _ ih).trans (List.Perm.swap _ _ _)
/-- some of a list, in this order -/
inductive Pick {α : Type} : List α → List α → Prop
  | nil {L : List α} : Pick L []
  | all {L : List α} : Pick L L
  | cons {L R M : List α} {c : α} (h : Pull L c R) (t : Pick R M) : Pick L (c :: M)
  | skip {L M : List α} {c : α} (t : Pick L M) : Pick (c :: L) M
theorem Pick.sub {α : Type} {L M : List α} (h : Pick L M) : ∃ G, L.Perm (M ++ G) := by
  induction h with
  | nil => exact ⟨_, List.Perm.refl _⟩
  | @all L => exact ⟨[], by rw [List.append_nil]⟩
  | cons h t ih =>
    obtain ⟨G, e⟩ := ih
    exact ⟨G, h.perm.trans (List.Perm.cons _ e)⟩
  | @skip L M c t ih =>
    obtain ⟨G, e⟩ := ih
    exact ⟨c :: G, (List.Perm.cons _ e).trans List.perm_middle.symm⟩
section
variable {H H' : Hp} {L R M : List (Addr × HO)} {I J : List (Hp → Prop)} {a b p : Addr} {o o' : HO}
theorem OwnF.perm (h : OwnF H L I) (e : L.Perm M) : OwnF H M I := ⟨fun c m => h.at_ c (e.mem_iff.mpr m), (e.map Prod.fst).nodup_iff.mp h.nd, h.im⟩
theorem OwnF.pre {G : List (Addr × HO)} (h : OwnF H (L ++ G) I) : OwnF H L I := ⟨fun c m => h.at_ c (List.mem_append_left _ m), by
  have := h.nd
  rw [List.map_append] at this
  exact (List.nodup_append.mp this).1, h.im⟩
theorem OwnF.pick (h : OwnF H L I) (e : Pick L M) : OwnF H M I := let ⟨_, e⟩ := e.sub; (h.perm e).pre
theorem OwnF.subI (h : OwnF H L I) (e : ∀ R ∈ J, R ∈ I) : OwnF H L J := ⟨h.at_, h.nd, fun R m => h.im R (e R m)⟩
theorem OwnF.pull (h : OwnF H L I) (e : Pull L (a, o) R) : OwnF H ((a, o) :: R) I := h.perm e.perm
theorem OwnF.get (h : OwnF H L I) (e : Pull L (a, o) R) : H a = some o := h.at_ (a, o) (e.perm.mem_iff.mpr List.mem_cons_self)
theorem OwnF.hd (h : OwnF H ((a, o) :: R) I) : H a = some o := h.at_ (a, o) List.mem_cons_self
theorem OwnF.tl (h : OwnF H ((a, o) :: R) I) : OwnF H R I := ⟨fun c m => h.at_ c (List.mem_cons_of_mem _ m), (List.nodup_cons.mp h.nd).2, h.im⟩
theorem OwnF.new (h : OwnF H L I) (n : H p = none) : OwnF (upd H p o) ((p, o) :: L) I := by
  refine ⟨fun c m => ?_, ?_, fun R m => ⟨?_, (h.im R m).2⟩⟩
  · rcases List.mem_cons.mp m with rfl | m
    · exact upd_same
    · have q := h.at_ c m
      rw [upd_ne (ne_of_none q n)]
      exact q
  · rw [List.map_cons, List.nodup_cons]
    refine ⟨fun m => ?_, h.nd⟩
    obtain ⟨c, mc, e⟩ := List.mem_map.mp m
    have q := h.at_ c mc
    rw [e, show (p, o).1 = p from rfl, n] at q
    cases q
  · refine (h.im R m).2 H _ (fun a u q _ => ?_) (h.im R m).1
    rw [upd_ne (ne_of_none q n)]
    exact q
theorem OwnF.put (h : OwnF H L I) (e : Pull L (a, o) R) (m : imm o = false) : OwnF (upd H a o') ((a, o') :: R) I := by
  have h1 := h.pull e
  have nd := List.nodup_cons.mp h1.nd
  refine ⟨fun c mc => ?_, ?_, fun S mS => ⟨?_, (h.im S mS).2⟩⟩
  · rcases List.mem_cons.mp mc with rfl | mc
    · exact upd_same
    · have q := h1.at_ c (List.mem_cons_of_mem _ mc)
      rw [upd_ne (fun e => nd.1 (List.mem_map.mpr ⟨c, mc, e⟩))]
      exact q
  · exact List.nodup_cons.mpr nd
  · refine (h.im S mS).2 H _ (fun b u q i => ?_) (h.im S mS).1
    rw [upd_ne (fun e => ?_)]
    · exact q
    · subst e
      rw [h1.hd] at q
      cases q
      rw [m] at i
      cases i
theorem OwnF.imp {S : Hp → Prop} (h : OwnF H L I) (m : S ∈ I) : S H := (h.im S m).1
theorem OwnF.addI {S : Hp → Prop} (h : OwnF H L I) (s : Stable S) (q : S H) : OwnF H L (S :: I) := ⟨h.at_, h.nd, fun R m => by
  rcases List.mem_cons.mp m with rfl | m
  · exact ⟨q, s⟩
  · exact h.im R m⟩
theorem OwnF.ne {u v : HO} (h : OwnF H L I) (e : Pull L (a, u) R) (f : Pull R (b, v) M) : a ≠ b := fun z => by
  have nd := List.nodup_cons.mp (h.pull e).nd
  exact nd.1 (List.mem_map.mpr ⟨(b, v), f.perm.mem_iff.mpr List.mem_cons_self, z.symm⟩)
end
inductive Ck where
  | pt (a : Addr) (o : HO)
  | ab (P : List (Addr × HO) → Prop)
inductive Flat : List Ck → List (Addr × HO) → Prop
  | nil : Flat [] []
  | pt {a : Addr} {o : HO} {L : List Ck} {F : List (Addr × HO)} (h : Flat L F) : Flat (.pt a o :: L) ((a, o) :: F)
  | ab {P : List (Addr × HO) → Prop} {l F : List (Addr × HO)} {L : List Ck} (p : P l) (h : Flat L F) : Flat (.ab P :: L) (l ++ F)
theorem Flat.perm {L M : List Ck} (e : L.Perm M) : ∀ {F : List (Addr × HO)}, Flat L F → ∃ G, Flat M G ∧ F.Perm G := by
  induction e with
  | nil => exact fun h => ⟨_, h, List.Perm.refl _⟩
  | cons x _ ih =>
    intro F h
    cases h with
    | pt h => obtain ⟨G, f, p⟩ := ih h; exact ⟨_, .pt f, List.Perm.cons _ p⟩
    | ab q h => obtain ⟨G, f, p⟩ := ih h; exact ⟨_, .ab q f, List.Perm.append_left _ p⟩
  | swap x y _ =>
    intro F h
    cases h with
    | pt h =>
      cases h with
      | pt h => exact ⟨_, .pt (.pt h), List.Perm.swap _ _ _⟩
      | ab q h => exact ⟨_, .ab q (.pt h), List.perm_middle.symm⟩
    | ab q h =>
      cases h with
      | pt h => exact ⟨_, .pt (.ab q h), List.perm_middle⟩
      | ab q2 h => exact ⟨_, .ab q2 (.ab q h), by rw [← List.append_assoc, ← List.append_assoc]; exact List.Perm.append_right _ List.perm_append_comm⟩
  | trans _ _ ih1 ih2 =>
    intro F h
    obtain ⟨G, f, p⟩ := ih1 h
    obtain ⟨G2, f2, p2⟩ := ih2 f
    exact ⟨G2, f2, p.trans p2⟩
theorem Flat.app {L M : List Ck} : ∀ {F : List (Addr × HO)}, Flat (L ++ M) F → ∃ A B, Flat L A ∧ Flat M B ∧ F = A ++ B := by
  induction L with
  | nil => exact fun h => ⟨[], _, .nil, h, rfl⟩
  | cons c L ih =>
    intro F h
    cases h with
    | pt h => obtain ⟨A, B, f, g, rfl⟩ := ih h; exact ⟨_, B, .pt f, g, rfl⟩
    | ab q h => obtain ⟨A, B, f, g, rfl⟩ := ih h; exact ⟨_, B, .ab q f, g, (List.append_assoc _ _ _).symm⟩
structure Own (H : Hp) (L : List Ck) (I : List (Hp → Prop)) : Prop where
  ex : ∃ F, Flat L F ∧ OwnF H F I
section
variable {H H' : Hp} {L R M : List Ck} {I J : List (Hp → Prop)} {a b p : Addr} {o o' : HO} {c : Ck}
theorem Own.perm (h : Own H L I) (e : L.Perm M) : Own H M I := by
  obtain ⟨F, f, w⟩ := h.ex
  obtain ⟨G, g, p⟩ := f.perm e
  exact ⟨G, g, w.perm p⟩
theorem Own.pre {G : List Ck} (h : Own H (L ++ G) I) : Own H L I := by
  obtain ⟨F, f, w⟩ := h.ex
  obtain ⟨A, B, f1, _, rfl⟩ := f.app
  exact ⟨A, f1, w.pre⟩
theorem Own.pick (h : Own H L I) (e : Pick L M) : Own H M I := let ⟨_, e⟩ := e.sub; (h.perm e).pre
theorem Own.subI (h : Own H L I) (e : ∀ R ∈ J, R ∈ I) : Own H L J := let ⟨F, f, w⟩ := h.ex; ⟨F, f, w.subI e⟩
theorem Own.pull (h : Own H L I) (e : Pull L c R) : Own H (c :: R) I := h.perm e.perm
theorem Own.hd (h : Own H (.pt a o :: R) I) : H a = some o := by
  obtain ⟨F, f, w⟩ := h.ex
  cases f with
  | pt f => exact w.hd
theorem Own.get (h : Own H L I) (e : Pull L (.pt a o) R) : H a = some o := (h.pull e).hd
theorem Own.tl (h : Own H (c :: R) I) : Own H R I := (h.perm (M := R ++ [c]) (List.perm_append_comm (l₁ := [c]))).pre
theorem Own.new (h : Own H L I) (n : H p = none) : Own (upd H p o) (.pt p o :: L) I := let ⟨F, f, w⟩ := h.ex; ⟨_, .pt f, w.new n⟩
theorem Own.put (h : Own H L I) (e : Pull L (.pt a o) R) (m : imm o = false) : Own (upd H a o') (.pt a o' :: R) I := by
  obtain ⟨F, f, w⟩ := (h.pull e).ex
  cases f with
  | pt f => exact ⟨_, .pt f, w.put .head m⟩
theorem Own.imp {S : Hp → Prop} (h : Own H L I) (m : S ∈ I) : S H := let ⟨_, _, w⟩ := h.ex; w.imp m
theorem Own.addI {S : Hp → Prop} (h : Own H L I) (s : Stable S) (q : S H) : Own H L (S :: I) := let ⟨F, f, w⟩ := h.ex; ⟨F, f, w.addI s q⟩
theorem Own.ne {u v : HO} (h : Own H L I) (e : Pull L (.pt a u) R) (f : Pull R (.pt b v) M) : a ≠ b := by
  obtain ⟨F, g, w⟩ := ((h.pull e).perm (List.Perm.cons _ f.perm)).ex
  cases g with
  | pt g =>
    cases g with
    | pt g => exact w.ne .head .head
/-- a bundle opened and closed -/
theorem Own.open_ {P : List (Addr × HO) → Prop} (h : Own H (.ab P :: R) I) : ∃ l, P l ∧ Own H (l.map (fun x => Ck.pt x.1 x.2) ++ R) I := by
  obtain ⟨F, f, w⟩ := h.ex
  cases f with
  | @ab _ l F _ p f =>
    refine ⟨l, p, _, ?_, w⟩
    clear w p
    induction l with
    | nil => exact f
    | cons x l ih => exact .pt ih
theorem Own.close {P : List (Addr × HO) → Prop} {l : List (Addr × HO)} (p : P l) (h : Own H (l.map (fun x => Ck.pt x.1 x.2) ++ R) I) : Own H (.ab P :: R) I := by
  obtain ⟨F, f, w⟩ := h.ex
  have : ∃ G, Flat R G ∧ F = l ++ G := by
    clear w p h
    induction l generalizing F with
    | nil => exact ⟨F, f, rfl⟩
    | cons x l ih =>
      cases f with
      | pt f => obtain ⟨G, g, rfl⟩ := ih _ f; exact ⟨G, g, rfl⟩
  obtain ⟨G, g, rfl⟩ := this
  exact ⟨_, .ab p g, w⟩
end
/-- a tuple that stays -/
abbrev tupI (a : Addr) (xs : List V) : Hp → Prop := fun H => H a = some (.tup xs)
/-- the script in a form that stays: locked, or of the module's own -/
abbrev seqI (K : PySem.W.Frag) (a : Addr) (xs : List V) : Hp → Prop := fun H => SqL K H a xs ∧ ((∃ o, H a = some (.frz o (.lst xs))) ∨ ∀ H', SqL K H' a xs)
theorem stable_seq {K : PySem.W.Frag} {a : Addr} {xs : List V} : Stable (seqI K a xs) := fun H H' k h => by
  obtain ⟨h, ⟨o, f⟩ | f⟩ := h
  · have q := k _ _ f rfl
    exact ⟨.inl (.inr ⟨o, q⟩), .inl ⟨o, q⟩⟩
  · exact ⟨f H', .inr f⟩
theorem seqI_of {K : PySem.W.Frag} {H : Hp} {a : Addr} {xs : List V} (s : Scr K H a xs) : seqI K a xs H := by
  refine ⟨s.sq, ?_⟩
  rcases s.sq with (h | ⟨o, h⟩) | h
  · obtain ⟨ob, ys, e⟩ := s.no _ h
    cases e
  · exact .inl ⟨o, h⟩
  · exact .inr fun H' => .inr h
theorem own_nil {H : Hp} : Own H [] [] := ⟨[], .nil, ⟨fun c m => (List.not_mem_nil m).elim, List.nodup_nil, fun R m => (List.not_mem_nil m).elim⟩⟩
section
variable {K : PySem.W.Frag} {H : Hp} {L R M : List Ck} {I : List (Hp → Prop)} {a b p : Addr} {o o' : HO} {xs ys : List V}
theorem new_o {k : Addr → Hp → Prop} (h : Own H L I) (q : ∀ p H', Own H' (.pt p o :: L) I → k p H') : New H o k := ⟨fun p n => q p _ (h.new n)⟩
theorem sq_l {k : List V → Prop} (h : Own H L I) (e : Pull L (.pt a (.lst xs)) R) (q : k xs) : Sq K H a k := Sq.l (SqL.of (h.get e)) q
theorem sq_t {k : List V → Prop} (h : Own H L I) (e : Pull L (.pt a (.tup xs)) R) (q : k xs) : Sq K H a k := Sq.t (SqT.of (h.get e)) q
theorem sq_s {k : List V → Prop} (h : Own H L I) (e : seqI K a xs ∈ I) (q : k xs) : Sq K H a k := Sq.l (h.imp e).1 q
theorem sq_i {k : List V → Prop} (h : Own H L I) (e : tupI a xs ∈ I) (q : k xs) : Sq K H a k := Sq.t (SqT.of (h.imp e)) q
theorem ls_o {k : List V → Prop} (h : Own H L I) (e : Pull L (.pt a (.lst xs)) R) (q : k xs) : Ls H a k := Ls.mk' (h.get e) q
theorem fld_o {C dx : Addr} {fs : List (Str × V)} {f : Str} {v : V} {k : V → Prop} (h : Own H L I) (e : Pull L (.pt a (.ins C dx fs)) R) (c : Cls K C) (n : NoAttr K C f) (l : fs.lookup f = some v) (q : k v) : Fld K H a f k := ⟨C, dx, fs, v, h.get e, c, n, l, q⟩
theorem setf_o {C dx : Addr} {fs : List (Str × V)} {f : Str} {y : V} {k : Hp → Prop} (h : Own H L I) (e : Pull L (.pt a (.ins C dx fs)) R) (c : Cls K C) (n : NoAttr K C f) (l : fs.length < 1000) (m : doneF fs = false) (q : ∀ H', Own H' (.pt a (.ins C dx (putF f y fs)) :: R) I → k H') : SetF K H a f y k := ⟨C, dx, fs, h.get e, c, n, l, q _ (h.put e m)⟩
theorem setl_o {i : Int} {j : Nat} {v : V} {Q : Hp → Prop} (h : Own H L I) (e : Pull L (.pt a (.lst xs)) R) (x : ixN xs.length i = some j) (q : ∀ H', Own H' (.pt a (.lst (xs.set j v)) :: R) I → Q H') : SetL H a i v Q := ⟨xs, j, h.get e, x, q _ (h.put e rfl)⟩
theorem unt_o {n : Nat} {k : List V → Prop} (h : Own H L I) (e : Pull L (.pt a (.tup xs)) R) (l : xs.length = n) (q : k xs) : UnT K H a n k := ⟨xs, SqT.of (h.get e), l, q⟩
theorem sll_o {lo hi : Option Int} {Q : VK} (h : Own H L I) (e : Pull L (.pt a (.lst xs)) R) (q : ∀ p H', Own H' (.pt p (.lst (cutV xs lo hi)) :: L) I → Q (.ref p) H') : SlL K H a lo hi Q := ⟨xs, SqL.of (h.get e), new_o h q⟩
theorem sll_s {lo hi : Option Int} {Q : VK} (h : Own H L I) (e : seqI K a xs ∈ I) (q : ∀ p H', Own H' (.pt p (.lst (cutV xs lo hi)) :: L) I → Q (.ref p) H') : SlL K H a lo hi Q := ⟨xs, (h.imp e).1, new_o h q⟩
theorem tupr_l {Q : VK} (h : Own H L I) (e : Pull L (.pt a (.lst xs)) R) (q : ∀ p H', Own H' (.pt p (.tup xs) :: L) I → Q (.ref p) H') : TupR K H a Q := ⟨xs, .inl ⟨SqL.of (h.get e), new_o h q⟩⟩
theorem tupr_t {Q : VK} (h : Own H L I) (e : Pull L (.pt a (.tup xs)) R) (q : Q (.ref a) H) : TupR K H a Q := ⟨xs, .inr ⟨SqT.of (h.get e), q⟩⟩
theorem meth_o {C dx : Addr} {fs : List (Str × V)} {m : Str} {k : Prop} (h : Own H L I) (e : Pull L (.pt a (.ins C dx fs)) R) (l : fs.lookup m = none) (q : k) : MethR H C m a k := ⟨dx, fs, h.get e, l, q⟩
theorem its_l {P : It → Hp → Prop} (h : Own H L I) (e : Pull L (.pt a (.lst xs)) R) (q : P (Itl K a) H) : ItS K H a P := ⟨.inl ⟨⟨xs, SqL.of (h.get e)⟩, q⟩⟩
theorem its_t {P : It → Hp → Prop} (h : Own H L I) (e : Pull L (.pt a (.tup xs)) R) (q : P (Itt K a) H) : ItS K H a P := ⟨.inr ⟨⟨xs, SqT.of (h.get e)⟩, q⟩⟩
theorem its_s {P : It → Hp → Prop} (h : Own H L I) (e : seqI K a xs ∈ I) (q : P (Itl K a) H) : ItS K H a P := ⟨.inl ⟨⟨xs, (h.imp e).1⟩, q⟩⟩
theorem ite_l {P : It → Hp → Prop} (h : Own H L I) (e : Pull L (.pt a (.lst xs)) R) (q : P (Ite K a) H) : ItE K H a P := ⟨⟨xs, SqL.of (h.get e)⟩, q⟩
end
/-- a list that a method changes -/
structure Grow (H : Hp) (l : Addr) (o : HO) (Q : VK) (v : V) : Prop where
  q : Q v (upd H l o)
theorem grow_o {H : Hp} {L R : List Ck} {I : List (Hp → Prop)} {l : Addr} {o o' : HO} {Q : VK} {v : V} (h : Own H L I) (e : Pull L (.pt l o) R) (m : imm o = false) (q : ∀ H', Own H' (.pt l o' :: R) I → Q v H') : Grow H l o' Q v := ⟨q _ (h.put e m)⟩
section
variable {K : PySem.W.Frag} {g : TG} {tt : TT} {te : TE} {vs : List Nat} {σ : L2.St} {H : Hp} {L : List Ck} {I : List (Hp → Prop)} {a b : Addr} {xs ys : List V} {Qd : Addr → Hp → Prop}
theorem newa_o {k : Addr → Prop} (h : Own H L I) (q : ∀ p, Own (upd H p (.lst [])) (.pt p (.lst []) :: L) I → k p) : NewA H k := ⟨fun p n => q p (h.new n)⟩
/-- a turn's end -/
structure Acc (p : Addr) (y : V) (H : Hp) (N : Hp → Prop) : Prop where
  ex : ∃ acc, H p = some (.lst acc) ∧ acc.length < sizeLine ∧ N (upd H p (.lst (acc ++ [y])))
end
structure NxW (W : Nat → L2.St → Hp → Prop) (m : Nat) (t : (L2.St → Hp → Prop) → Prop) : Prop where
  ex : ∃ N : L2.St → Hp → Prop, (∀ σ' H', N σ' H' → ∃ m', m' < m ∧ W m' σ' H') ∧ t N
theorem nxw_mk {W : Nat → L2.St → Hp → Prop} {m : Nat} {t : (L2.St → Hp → Prop) → Prop} (h : t fun σ' H' => ∃ m', m' < m ∧ W m' σ' H') : NxW W m t := ⟨_, fun _ _ z => z, h⟩
end OW
set_option Elab.async false
set_option linter.all false
set_option maxRecDepth 100000
set_option maxHeartbeats 2000000
namespace OW
open PySem PySem.Spec PyProof.Rows L2 RZ SkE CL
mutual
def bnd : PyData → Nat
  | .none => 4
  | .bool _ => 5
  | .int _ => 1921
  | .str x => (reprText x).length
  | .list xs => bndAll xs + 2
  | .tuple xs => bndAll xs + 3
  | .dict _ => 0
def bndAll : List PyData → Nat
  | [] => 0
  | x :: xs => bnd x + 2 + bndAll xs
end
theorem textFrom_up : ∀ (ts : List Str) (k : Nat) (acc : Str), (textFrom k acc ts).length ≤ acc.length + piled ts
  | [], k, acc => Nat.le_add_right _ _
  | t :: r, k, acc => by
    have ih := textFrom_up r (k + 1) (acc ++ (if k > 0 then ", " else "" : String) ++ t)
    have e : (((if k > 0 then ", " else "" : String) : Str)).length ≤ 2 := by split <;> decide
    show (textFrom (k + 1) (acc ++ (if k > 0 then ", " else "" : String) ++ t) r).length ≤ _
    rw [Str.length_append, Str.length_append] at ih
    rw [piled_cons]
    omega
theorem listText_up (ts : List Str) : (listText ts).length ≤ piled ts + 2 := by
  unfold listText
  have h := textFrom_up ts 0 "["
  have c0 : Str.length (("[" : String) : Str) = 1 := by decide +kernel
  have c1 : Str.length (("]" : String) : Str) = 1 := by decide +kernel
  rw [Str.length_append, c1]
  rw [c0] at h
  omega
theorem tupleText_up (ts : List Str) : (tupleText ts).length ≤ piled ts + 3 := by
  unfold tupleText
  rw [Str.length_append, Str.length_append]
  have e1 : ((("(" : String) : Str)).length = 1 := rfl
  have e3 : (((if ts.length == 1 then ",)" else ")" : String) : Str)).length ≤ 2 := by split <;> decide
  rw [e1]
  by_cases h : ts = []
  · subst h
    have : (Str.join ", " ([] : List Str)).length = 0 := rfl
    rw [this]
    omega
  · have := join_length_add ts h
    omega
mutual
theorem shown_up : ∀ d : PyData, d.showable = true → d.hasDict = false → d.shown.length ≤ bnd d
  | .none, _, _ => by decide +kernel
  | .bool b, _, _ => by cases b <;> decide +kernel
  | .int i, h, _ => int_text_len_1921 (by simpa [PyData.showable] using h)
  | .str x, _, _ => Nat.le_refl _
  | .list xs, h, g => by
    have := shownAll_up xs (by simpa [PyData.showable] using h) (by simpa [PyData.hasDict] using g)
    exact Nat.le_trans (listText_up _) (by show _ ≤ bndAll xs + 2; omega)
  | .tuple xs, h, g => by
    have := shownAll_up xs (by simpa [PyData.showable] using h) (by simpa [PyData.hasDict] using g)
    exact Nat.le_trans (tupleText_up _) (by show _ ≤ bndAll xs + 3; omega)
  | .dict _, _, g => by simp [PyData.hasDict] at g
theorem shownAll_up : ∀ xs : List PyData, PyData.showableAll xs = true → PyData.hasDictAll xs = false → piled (PyData.shownAll xs) ≤ bndAll xs
  | [], _, _ => Nat.le_refl _
  | x :: xs, h, g => by
    have h' : x.showable = true ∧ PyData.showableAll xs = true := by simpa [PyData.showableAll, Bool.and_eq_true] using h
    have g' : x.hasDict = false ∧ PyData.hasDictAll xs = false := by simpa [PyData.hasDictAll, Bool.or_eq_false_iff] using g
    have a := shown_up x h'.1 g'.1
    have b := shownAll_up xs h'.2 g'.2
    show piled (x.shown :: PyData.shownAll xs) ≤ bnd x + 2 + bndAll xs
    rw [piled_cons]
    omega
end
/-- a value that can be shown: its data -/
structure RepV (K : PySem.W.Frag) (H : Hp) (x : V) (k : Str → Prop) : Prop where
  ex : ∃ d, Dp K H x d ∧ d.showable = true ∧ d.hasDict = false ∧ d.depth ≤ 60 ∧ bnd d ≤ sizeLine ∧ k d.shown
def rRepV (K : PySem.W.Frag) : List V → Hp → VK → Prop := fun xs H Q => match xs with
  | [x] => RepV K H x fun z => Q (.str z) H
  | _ => False
section
variable {X : Cx}
theorem k_repV (hg : X.A.guards = some []) (hu : X.A.units + 64 < cLine) : CallR X (.builtin "repr") (rRepV X.K) := by
  intro pins s σ H xs us Q I r h
  unfold rRepV at h
  split at h
  · rename_i x
    obtain ⟨⟨d, hd, h1, h2, h3, h4, q⟩⟩ := h
    have h5 := Nat.le_trans (shown_up d h1 h2) h4
    obtain ⟨u, rfl, ru⟩ := vals1 r
    have hr := ru
    cases hd with
    | non =>
      cases ru
      exact PySem.P.repr_of_none ⟨.str "None", H, I.kept fun _ _ e => e, ⟨_, rfl⟩, q⟩
    | bl b =>
      cases ru
      exact PySem.P.repr_of_bool ⟨.str (if b then "True" else "False"), H, I.kept fun _ _ e => e, ⟨_, by cases b <;> rfl⟩, by cases b <;> exact q⟩
    | int i =>
      obtain ⟨t, rfl⟩ := ru
      exact PySem.P.repr_of_int (by simpa [PyData.showable] using h1) ⟨.str (toString i), H, I.kept fun _ _ e => e, ⟨_, rfl⟩, q⟩
    | str y =>
      obtain ⟨t, rfl⟩ := ru
      exact PySem.P.repr_of_str ⟨.str (reprText y), H, I.kept fun _ _ e => e, ⟨_, rfl⟩, q⟩ h5
    | lst s1 s2 =>
      obtain ⟨as, rd⟩ := Dp.reads I _ _ u (Dp.lst s1 s2) hr
      cases ru
      exact repr_of_reads' rd h1 (fun e => by rw [h2] at e; cases e) hg (by omega) (fun _ _ e => e) (fun h' t tk hk => ⟨.str _, H, I.kept hk, ⟨t, rfl⟩, q⟩) h5
    | tup s1 s2 =>
      obtain ⟨as, rd⟩ := Dp.reads I _ _ u (Dp.tup s1 s2) hr
      cases ru
      exact repr_of_reads' rd h1 (fun e => by rw [h2] at e; cases e) hg (by omega) (fun _ _ e => e) (fun h' t tk hk => ⟨.str _, H, I.kept hk, ⟨t, rfl⟩, q⟩) h5
  · exact h.elim
end
theorem rep_int {K : PySem.W.Frag} {H : Hp} {i : Int} {k : Str → Prop} (h : i.natAbs.log2 < 1920) (q : k (PyData.int i).shown) : RepV K H (.int i) k := ⟨.int i, .int i, by simp [PyData.showable, h], rfl, Nat.zero_le _, by show 1921 ≤ sizeLine; rw [sizeLine_eq]; decide, q⟩
theorem rep_non {K : PySem.W.Frag} {H : Hp} {k : Str → Prop} (q : k PyData.none.shown) : RepV K H .non k := ⟨.none, .non, rfl, rfl, by decide, by show 4 ≤ sizeLine; rw [sizeLine_eq]; decide, q⟩
theorem rep_bl {K : PySem.W.Frag} {H : Hp} {b : Bool} {k : Str → Prop} (q : k (PyData.bool b).shown) : RepV K H (.bl b) k := ⟨.bool b, .bl b, rfl, rfl, Nat.zero_le _, by show 5 ≤ sizeLine; rw [sizeLine_eq]; decide, q⟩
theorem rep_mk {K : PySem.W.Frag} {H : Hp} {x : V} {d : PyData} {k : Str → Prop} (h : Dp K H x d) (h1 : d.showable = true) (h2 : d.hasDict = false) (h3 : d.depth ≤ 60) (h4 : bnd d ≤ 16000000) (q : k d.shown) : RepV K H x k := ⟨d, h, h1, h2, h3, Nat.le_trans h4 (by rw [sizeLine_eq]; decide), q⟩
theorem dpAll_ints {K : PySem.W.Frag} {H : Hp} : ∀ ns : List Int, DpAll K H (ns.map V.int) (ns.map PyData.int)
  | [] => .nil
  | n :: ns => .cons (.int n) (dpAll_ints ns)
theorem dpAll_strs {K : PySem.W.Frag} {H : Hp} : ∀ ns : List Str, DpAll K H (ns.map V.str) (ns.map PyData.str)
  | [] => .nil
  | n :: ns => .cons (.str n) (dpAll_strs ns)
theorem eqd_mk {K : PySem.W.Frag} {H : Hp} {x y : V} {d e : PyData} {k : Bool → Prop} (h : Dp K H x d) (g : Dp K H y e) (h1 : SeqAt.shaped d = true) (g1 : SeqAt.shaped e = true) (q : k (PyData.eqv d e)) : EqD K H x y k := ⟨d, e, h, g, h1, g1, q⟩
end OW
set_option Elab.async false
set_option linter.all false
set_option maxRecDepth 100000
set_option maxHeartbeats 2000000
namespace OW
open PySem PySem.Spec PyProof.Rows L2 RZ SkE CL
structure LastOf (xs : List V) (k : V → Prop) : Prop where
  ex : ∃ y, xs[xs.length - 1]? = some y ∧ k y
structure RevR (K : PySem.W.Frag) (H : Hp) (a : Addr) (Q : VK) : Prop where
  ex : ∃ xs, SqL K H a xs ∧ New H (.lst xs.reverse) fun p H' => Q (.ref p) H'
section
variable {K : PySem.W.Frag} {H : Hp} {L R : List Ck} {I : List (Hp → Prop)} {a p : Addr} {xs : List V}
theorem rev_o {Q : VK} (h : Own H L I) (e : Pull L (.pt a (.lst xs)) R) (q : ∀ p H', Own H' (.pt p (.lst xs.reverse) :: L) I → Q (.ref p) H') : RevR K H a Q := ⟨xs, SqL.of (h.get e), new_o h q⟩
/-- a new instance handed to its __init__ -/
theorem make_o {C : Addr} {k : Addr → Hp → Prop} (h : Own H L I) (q : ∀ x dx H', Own H' (.pt x (.ins C dx []) :: L) I → k x H') : ∀ x dx, H x = none → H dx = none → dx ≠ x → k x (upd (upd H dx (.own x)) x (.ins C dx [])) := fun x dx hx hd ne => by
  have h1 := h.new (o := .own x) hd
  have h2 := h1.new (o := .ins C dx []) (p := x) (by rw [upd_ne (Ne.symm ne)]; exact hx)
  exact q x dx _ ((h2.perm (List.Perm.swap _ _ _)).tl)
end
end OW
set_option Elab.async false
set_option linter.all false
set_option maxRecDepth 100000
set_option maxHeartbeats 2000000
namespace OW
open PySem PySem.Spec PyProof.Rows L2 RZ SkE CL
/-- the law called by the caller, its promise in the form FnG -/
theorem callS {P : Program} {W0 : World} {K : PySem.W.Frag} {mg mb : Str → Option Value} {k : Nat} {fa a : Addr} {fd : FuncData} {x : Str} {sp : Sp} {t : Shared} {us : List Value} {ns : List Int}
    (inK : K.In t.heap) (gN : t.heap.Ns mainGlobals mg) (bN : t.heap.Ns builtinsNs mb) (bB : ∀ x : Str, x ≠ "__name__" → mb x = bootBuiltins x) (noL : t.heap.NoLimit) (noG : t.gens = #[])
    (at_ : t.heap.get? a = some { cls := .type "list", data := .seq us.toArray }) (are : IntsAre us ns) (len : ns.length ≤ sizeLine) (rm : Room k callerA)
    (F : ∀ base : Heap, K.In base → base.Ns mainGlobals mg → FnG P W0 K mg base CX0 k fa fd [x] sp) (bd : ∀ (s : Shared) (u : Value), BindsTo s fd ⟨[u], []⟩ [(x, u)])
    (prom : ∀ H : Hp, Own H [] [seqI K a (ns.map V.int)] → sp [.ref a] H (fun v _ => v = .bl true) fun _ _ _ => False) :
    codeAny (model P W0) callerA (.call (.ref fa) ⟨[.ref a], []⟩) (fun r s' => r = .ok (.ret (.bool true)) ∧ OldK t.heap s'.heap ∧ s'.os = t.os ∧ AllBare s'.gens) t := by
  have vi := vals_ints are
  have same := are.length
  -- H tracks at most the script, as the module's own or frozen
  have go : ∀ H : Hp, (∀ b, H b = none ∨ ∃ ob xs, H b = some (.frz ob (.lst xs))) → SqL K H a (ns.map V.int) → HOk P W0 H t.heap → (∀ b, H b ≠ none → b = a) → (H a ≠ none → K.lookup a = none) →
      codeAny (model P W0) callerA (.call (.ref fa) ⟨[.ref a], []⟩) (fun r s' => r = .ok (.ret (.bool true)) ∧ OldK t.heap s'.heap ∧ s'.os = t.os ∧ AllBare s'.gens) t := by
    intro H frz sq hok only own
    have notDict : ∀ {b : Addr} {o : Obj} {es : Array DictEntry} {ep : Nat}, t.heap.get? b = some o → o.data = .dict es ep → H b = none := by
      intro b o es ep e d
      by_cases q : H b = none
      · exact q
      · have z := only b q
        rw [z, at_] at e
        cases e
        exact absurd (show Data.seq us.toArray _ = Data.dict es ep from d) (by simp)
    have low : ∀ {b : Addr} {m : Str → Option Value}, t.heap.Ns b m → (hidT t.heap H).Ns b m := by
      rintro b m ⟨o, es, ep, e, d, r⟩
      exact ⟨o, es, ep, hidT_get e (notDict e d), d, r⟩
    have lowK : K.In (hidT t.heap H) := by
      intro b o e
      refine hidT_get (inK b o e) ?_
      by_cases q : H b = none
      · exact q
      · have z := only b q
        rw [z] at q e
        rw [own q] at e
        cases e
    obtain ⟨mc, l1, l2⟩ := noL
    have top : Mod K mg (hidT t.heap H) := ⟨lowK, low gN, ⟨mb, low bN, bB⟩, ⟨mc, low l1, l2⟩⟩
    have e0 : Env0 P W0 K mg (hidT t.heap H) callerA [] t H := ⟨rfl, top, fun b o e => of_hidT e, Nat.le_of_eq (hidT_size _ _), trivial, fun b hb => absurd (show b ∈ ([] : List Addr) from hb) List.not_mem_nil, hok, .of_eq noG⟩
    refine codeAny_mono ((F _ lowK (low gN)).run callerA [] t H ⟨[.ref a], []⟩ [.ref a] [.ref a] _ _ rfl rm e0 (bd t (.ref a)) (.cons rfl .nil) (prom H (own_nil.addI stable_seq (seqI_of ⟨sq, fun u z => (frz a).elim (fun n => by rw [n] at z; cases z) fun ⟨ob, xs, e⟩ => ⟨ob, xs, Option.some.inj (z.symm.trans e)⟩⟩)))) (fun r s' h => ?_)
    rcases r with e | fl
    · exact absurd h (by intro z; exact z)
    · cases fl with
      | ret u =>
        obtain ⟨v, H', os, bare, un, hok', rv, q⟩ := h
        obtain rfl : v = .bl true := q
        obtain rfl : u = Value.bool true := rv
        refine ⟨rfl, OldK.of_keep (fun b o e => ?_), os, bare⟩
        rcases frz b with z | ⟨ob, xs, z⟩
        · exact un.keep b o e z (fun y => absurd (show b ∈ ([] : List Addr) from y) List.not_mem_nil) (by simp)
        · obtain ⟨e1, _⟩ := hok b _ z
          obtain ⟨e2, _⟩ := hok' b _ (un.frzs b ob _ z)
          exact e2.trans (e1.symm.trans e)
      | next => exact absurd h (by intro z; exact z)
      | brk => exact absurd h (by intro z; exact z)
      | cont => exact absurd h (by intro z; exact z)
  cases own : K.lookup a with
  | some o =>
    obtain rfl : ({ cls := .type "list", data := .seq us.toArray } : Obj) = o := Option.some.inj (at_.symm.trans (inK a o own))
    exact go (fun _ => none) (fun _ => .inl rfl) (.inr ⟨_, us.toArray, _, own, rfl, rfl, rfl, by rw [List.size_toArray, same]; exact len, by simpa using vi⟩) (fun b u z => by cases (show (none : Option HO) = some u from z)) (fun b z => absurd rfl z) (fun z => absurd rfl z)
  | none =>
    have here : ∀ {b : Addr}, b ≠ a → (fun b => if b = a then some (HO.frz { cls := .type "list", data := .seq us.toArray } (.lst (ns.map V.int))) else none) b = none := fun n => if_neg n
    refine go (fun b => if b = a then some (.frz { cls := .type "list", data := .seq us.toArray } (.lst (ns.map V.int))) else none) (fun b => ?_) (.inl (.inr ⟨_, if_pos rfl⟩)) (fun b u z => ?_) (fun b z => ?_) (fun _ => own)
    · by_cases n : b = a
      · exact .inr ⟨_, _, if_pos n⟩
      · exact .inl (if_neg n)
    · by_cases n : b = a
      · have z' := (if_pos n).symm.trans z
        cases z'
        subst n
        exact ⟨at_, by rw [List.length_map]; exact len, us, _, vi, at_⟩
      · cases (if_neg n).symm.trans z
    · by_cases n : b = a
      · exact n
      · exact absurd (if_neg n) z
/-- the end, from a promise in the form FnG -/
theorem walkS {l : PySem.W.OpenLaw} {n k : Nat} {q : Program} {loose : List Str} {XP : (Str → Option Value) → Heap → Prop} {YP : World → Heap → Prop} {d : DefRec} {K : Params → PySem.W.Frag} {sp : World → Sp} {x : Str}
    (hn : l.most = some n) (small : n ≤ sizeLine) (df : d.params.defaults = []) (rm : Room k callerA) (hY : ∀ (w : World) (h : Heap), YP w h → (K w.params).In h)
    (F : ∀ (w : World) (mg : Str → Option Value) (fa : Addr) (h : Heap), (K w.params).In h → h.Ns mainGlobals mg → mg d.name = some (.ref fa) →
      ∃ fd : FuncData, (∀ (s : Shared) (u : Value), BindsTo s fd ⟨[u], []⟩ [(x, u)]) ∧ ∀ base : Heap, (K w.params).In base → base.Ns mainGlobals mg → FnG l.prog w (K w.params) mg base CX0 k fa fd [x] (sp w))
    (prom : ∀ (w : World) (H : Hp) (a : Addr) (ns : List Int), ns.length ≤ n → Own H [] [seqI (K w.params) a (ns.map V.int)] → sp w [.ref a] H (fun v _ => v = .bl true) fun _ _ _ => False) :
    PySem.W.WalkO q loose XP YP l.row.toRowW d [] (fun f vs => PySem.call f vs) := by
  refine Att.attach_call hn df (fun w s₀ s₁ mg mb fa o pm cd doc a vs ns G Y ho hd hcd hmg obj areInts few gens => ?_)
  have inK := hY w _ Y
  obtain ⟨fd, bd, hF⟩ := F w mg fa _ inK G.T.g hmg
  exact callS inK G.T.g G.T.b G.T.builtins G.T.nolimit gens obj areInts (Nat.le_trans few small) rm hF bd (fun H sq => prom w H a ns few sq)
end OW
set_option Elab.async false
set_option linter.all false
set_option maxRecDepth 100000
set_option maxHeartbeats 2000000
namespace OW
open PySem PySem.Spec PyProof.Rows L2 RZ SkE CL
theorem int_at {ns : List Int} {j : Nat} (h : j < ns.length) : (ns.map V.int)[j]? = some (V.int (ns.getD j 0)) := by
  rw [List.getElem?_map, List.getD_eq_getElem?_getD, List.getElem?_eq_getElem h]
  rfl
theorem shp_ints : ∀ xs : List Int, PyData.canLayAll0 (xs.map PyData.int) = true ∧ PyData.depthAll (xs.map PyData.int) = 0
  | [] => ⟨rfl, rfl⟩
  | x :: xs => by
    have h := shp_ints xs
    exact ⟨by simp [PyData.canLayAll0, PyData.canLay0, h.1], by simp [PyData.depthAll, PyData.depth, h.2]⟩
theorem shaped_ints (xs : List Int) : SeqAt.shaped (.list (xs.map PyData.int)) = true := by
  have h := shp_ints xs
  simp [SeqAt.shaped, PyData.canLay0, PyData.depth, h.1, h.2]
theorem shaped_nil : SeqAt.shaped (.list []) = true := shaped_ints []
end OW
namespace OW
open PySem PySem.Spec PyProof.Rows L2 RZ SkE CL
end OW
namespace OW
open PySem PySem.Spec PyProof.Rows L2 RZ SkE CL
end OW
namespace OW
open PySem PySem.Spec PyProof.Rows L2 RZ SkE CL
theorem acc_eq {p : Addr} {y : V} {H : Hp} {N : Hp → Prop} : Acc p y H N = ∃ acc, H p = some (.lst acc) ∧ acc.length < sizeLine ∧ N (upd H p (.lst (acc ++ [y]))) := propext ⟨fun h => h.ex, fun h => ⟨h⟩⟩
theorem acc_a {p : Addr} {y : V} {H : Hp} {N : Hp → Prop} {L R : List Ck} {I : List (Hp → Prop)} {xs : List V} (h : Own H L I) (e : Pull L (.pt p (.lst xs)) R) (l : xs.length < sizeLine) (q : ∀ H', Own H' (.pt p (.lst (xs ++ [y])) :: R) I → N H') : Acc p y H N := ⟨xs, h.get e, l, q _ (h.put e rfl)⟩
/-- one turn of a comprehension -/
def LcT (g : TG) (tt : TT) (te : TE) (vs : List Nat) (σ : L2.St) (p : Addr) (x : V) (H : Hp) (Nx : Hp → Prop) : Prop := g x (wipe σ vs) H fun σ2 H2 => wipe σ2 vs = wipe σ vs ∧ tt σ2 H2 fun b H3 => Br b (te σ2 H3 fun y H4 => Acc p y H4 Nx) (Nx H3)
theorem lct_eq {g : TG} {tt : TT} {te : TE} {vs : List Nat} {σ : L2.St} {p : Addr} {x : V} {H : Hp} {Nx : Hp → Prop} : LcT g tt te vs σ p x H Nx = LcStep g tt te vs σ p x H Nx := by
  unfold LcT LcStep
  simp only [br_eq, acc_eq]
section
variable {K : PySem.W.Frag} {g : TG} {tt : TT} {te : TE} {vs : List Nat} {σ : L2.St} {H : Hp} {a b p : Addr} {xs ys : List V} {Qd : Hp → Prop}
theorem la_range {lo : Int} {n : Nat} (Pv : Nat → Hp → Prop) (h0 : Pv 0 (upd H p (.lst []))) (hs : ∀ i H, i < n → Pv i H → LcT g tt te vs σ p (.int (lo + i)) H (Pv (i + 1))) (hd : ∀ H, Pv n H → Qd H) : LcW (Itr lo n) g tt te vs σ p Qd H := lw_range Pv h0 (fun i H h q => lct_eq ▸ hs i H h q) hd
theorem la_list (Pv : Nat → Hp → Prop) (h0 : Pv 0 (upd H p (.lst []))) (hl : ∀ i H, i ≤ xs.length → Pv i H → SqL K H a xs) (hs : ∀ i x H, xs[i]? = some x → Pv i H → LcT g tt te vs σ p x H (Pv (i + 1))) (hd : ∀ H, Pv xs.length H → Qd H) : LcW (Itl K a) g tt te vs σ p Qd H := lw_list Pv h0 hl (fun i x H h q => lct_eq ▸ hs i x H h q) hd
end
end OW
namespace OW
theorem log_of2 {i : Int} (h : i.natAbs < 18446744073709551616) : i.natAbs.log2 < 1920 := CL.log_small (Nat.lt_of_lt_of_le h (by rw [show (18446744073709551616 : Nat) = 2 ^ 64 by decide]; exact Nat.pow_le_pow_right (by decide) (by decide)))
end OW
set_option Elab.async false
set_option linter.all false
set_option maxRecDepth 100000
set_option maxHeartbeats 2000000
namespace OW
open PySem PySem.Spec PyProof.Rows L2 RZ SkE CL
structure CallV (P : Program) (w : World) (K : PySem.W.Frag) (mg : Str → Option Value) (base : Heap) (k : Nat) (v : Option (Option V)) (go : Sp → Prop) : Prop where
  ex : ∃ f sp, v = some (some (.ref f)) ∧ Held P w K mg base k f sp ∧ go sp
theorem callv_mk {P : Program} {w : World} {K : PySem.W.Frag} {mg : Str → Option Value} {base : Heap} {k : Nat} {f : Addr} {sp : Sp} {go : Sp → Prop} (h : Held P w K mg base k f sp) (q : go sp) : CallV P w K mg base k (some (some (.ref f))) go := ⟨⟨f, sp, rfl, h, q⟩⟩
structure KD (K : PySem.W.Frag) (w : World) (p : Addr) (z : Str) (k : V → Prop) : Prop where
  ex : ∃ v, KDct K w p z v ∧ k v
structure ItV (K : PySem.W.Frag) (H : Hp) (a : Addr) (R : It → Hp → Prop) : Prop where
  ex : ((∃ xs, SqL K H a xs) ∧ R (Itl K a) H) ∨ ((∃ xs, SqT K H a xs) ∧ R (Itt K a) H) ∨ ∃ lo hi : Int, H a = some (.rng lo hi) ∧ (-(2 ^ 62) ≤ lo ∧ lo < 2 ^ 62 ∧ -(2 ^ 62) ≤ hi ∧ hi < 2 ^ 62) ∧ R (Itr lo (hi - lo).toNat) H
def cVal (K : PySem.W.Frag) (tl : TE) : TI := fun σ H R => tl σ H (onR fun a H1 => ItV K H1 a R)
theorem i_val {X : Cx} {tg l : Expr} {tl : TE} (hl : PE X l tl) : PI X tg l (cVal X.K tl) := by
  refine ⟨fun pins s σ H R I h => ?_⟩
  have h' := h
  refine thn (hl.run pins s σ H _ I h) fun v s1 ⟨x, H1, I1, r1, q1⟩ => ?_
  rw [onR_eq] at q1
  obtain ⟨a, rfl, ⟨q⟩⟩ := q1
  rcases q with ⟨⟨xs, hq⟩, q⟩ | ⟨⟨xs, hq⟩, q⟩ | ⟨lo, hi, ha, ⟨b1, b2, b3, b4⟩, q⟩
  · cases r1
    obtain ⟨vs, _, pl, _⟩ := I1.list hq
    refine wpAny_pyIter_list pl.isList ⟨s1.heap.objs.size, [s1.heap.objs.size], _, _, H1, rfl, I1.kept (t' := s1.toks) fun b o z => Heap.get?_push_of_some _ z, turn_list a _, ⟨_, Heap.get?_push_size _ rfl, rfl, rfl⟩, fun b hb => ?_, q⟩
    obtain rfl : b = s1.heap.objs.size := by simpa using hb
    exact I1.fpOk (Nat.le_refl _) (I1.hok.fresh (Nat.le_refl _))
  · cases r1
    obtain ⟨vs, _, pl, _⟩ := I1.tuple hq
    refine wpAny_pyIter_tuple (show s1.heap.IsTuple a vs.toArray from pl) ⟨s1.heap.objs.size, [s1.heap.objs.size], _, _, H1, rfl, I1.kept (t' := s1.toks) fun b o z => Heap.get?_push_of_some _ z, turn_tuple a _, ⟨_, Heap.get?_push_size _ rfl, rfl, rfl⟩, fun b hb => ?_, q⟩
    obtain rfl : b = s1.heap.objs.size := by simpa using hb
    exact I1.fpOk (Nat.le_refl _) (I1.hok.fresh (Nat.le_refl _))
  · cases r1
    obtain ⟨t, u, v, ho⟩ := I1.hok a _ ha
    refine wpAny_pyIter_range (show IsRange s1.heap a lo hi 1 t u v from ho) (small_one b1 b2 b3 b4) ?_
    refine ⟨s1.heap.objs.size, [s1.heap.objs.size], _, _, H1, rfl, I1.kept (t' := s1.toks) fun b o z => Heap.get?_push_of_some _ z, turn_range _ lo (hi - lo).toNat, ?_, fun b hb => ?_, q⟩
    · have e1 : lo + ((0 : Nat) : Int) * 1 = lo := by simp
      have e2 : (((hi - lo).toNat : Nat) : Int) - ((0 : Nat) : Int) = Builtin.Range.rangeSize lo hi 1 := by rw [rangeSize_one]; split <;> omega
      show IsRangeIter _ _ (lo + ((0 : Nat) : Int) * 1) ((((hi - lo).toNat : Nat) : Int) - ((0 : Nat) : Int)) 1
      rw [e1, e2]
      exact Heap.get?_push_size _ rfl
    · obtain rfl : b = s1.heap.objs.size := by simpa using hb
      exact I1.fpOk (Nat.le_refl _) (I1.hok.fresh (Nat.le_refl _))
section
variable {K : PySem.W.Frag} {H : Hp} {L R : List Ck} {I : List (Hp → Prop)} {a : Addr} {xs : List V}
theorem itv_l {P : It → Hp → Prop} (h : Own H L I) (e : Pull L (.pt a (.lst xs)) R) (q : P (Itl K a) H) : ItV K H a P := ⟨.inl ⟨⟨xs, SqL.of (h.get e)⟩, q⟩⟩
theorem itv_t {P : It → Hp → Prop} (h : Own H L I) (e : Pull L (.pt a (.tup xs)) R) (q : P (Itt K a) H) : ItV K H a P := ⟨.inr (.inl ⟨⟨xs, SqT.of (h.get e)⟩, q⟩)⟩
theorem itv_s {P : It → Hp → Prop} (h : Own H L I) (e : seqI K a xs ∈ I) (q : P (Itl K a) H) : ItV K H a P := ⟨.inl ⟨⟨xs, (h.imp e).1⟩, q⟩⟩
theorem itv_k {P : It → Hp → Prop} (h : SqT K H a xs) (q : P (Itt K a) H) : ItV K H a P := ⟨.inr (.inl ⟨⟨xs, h⟩, q⟩)⟩
theorem itv_r {lo hi : Int} {P : It → Hp → Prop} (h : Own H L I) (e : Pull L (.pt a (.rng lo hi)) R) (b : -(2 ^ 62) ≤ lo ∧ lo < 2 ^ 62 ∧ -(2 ^ 62) ≤ hi ∧ hi < 2 ^ 62) (q : P (Itr lo (hi - lo).toNat) H) : ItV K H a P := ⟨.inr (.inr ⟨lo, hi, h.get e, b, q⟩)⟩
end
end OW
namespace OW
open PySem PySem.Spec PyProof.Rows L2 RZ SkE CL
end OW
set_option Elab.async false
set_option linter.all false
set_option maxRecDepth 100000
set_option maxHeartbeats 2000000
namespace OW
open PySem PySem.Spec PyProof.Rows L2 RZ SkE CL
mutual
inductive IDp (H : Hp) : V → PyData → Prop
  | non : IDp H .non .none
  | bl (b : Bool) : IDp H (.bl b) (.bool b)
  | int (i : Int) : IDp H (.int i) (.int i)
  | str (x : Str) : IDp H (.str x) (.str x)
  | tup {a : Addr} {xs : List V} {ds : List PyData} (h : H a = some (.tup xs)) (g : IDpAll H xs ds) : IDp H (.ref a) (.tuple ds)
inductive IDpAll (H : Hp) : List V → List PyData → Prop
  | nil : IDpAll H [] []
  | cons {v : V} {vs : List V} {d : PyData} {ds : List PyData} (h : IDp H v d) (g : IDpAll H vs ds) : IDpAll H (v :: vs) (d :: ds)
end
mutual
theorem IDp.keep {H H' : Hp} (k : Keep H H') : ∀ (d : PyData) (v : V), IDp H v d → IDp H' v d
  | .none, v, h => by cases h; exact .non
  | .bool b, v, h => by cases h; exact .bl b
  | .int i, v, h => by cases h; exact .int i
  | .str x, v, h => by cases h; exact .str x
  | .tuple ds, v, h => by
    cases h with
    | tup h g => exact .tup (k _ _ h rfl) (IDpAll.keep k ds _ g)
  | .list ds, v, h => by cases h
  | .dict ds, v, h => by cases h
theorem IDpAll.keep {H H' : Hp} (k : Keep H H') : ∀ (ds : List PyData) (vs : List V), IDpAll H vs ds → IDpAll H' vs ds
  | [], vs, h => by cases h; exact .nil
  | d :: ds, vs, h => by
    cases h with
    | cons h g => exact .cons (IDp.keep k d _ h) (IDpAll.keep k ds _ g)
end
mutual
theorem IDp.dp {K : PySem.W.Frag} {H : Hp} : ∀ (d : PyData) (v : V), IDp H v d → Dp K H v d
  | .none, v, h => by cases h; exact .non
  | .bool b, v, h => by cases h; exact .bl b
  | .int i, v, h => by cases h; exact .int i
  | .str x, v, h => by cases h; exact .str x
  | .tuple ds, v, h => by
    cases h with
    | tup h g => exact .tup (SqT.of h) (IDpAll.dp ds _ g)
  | .list ds, v, h => by cases h
  | .dict ds, v, h => by cases h
theorem IDpAll.dp {K : PySem.W.Frag} {H : Hp} : ∀ (ds : List PyData) (vs : List V), IDpAll H vs ds → DpAll K H vs ds
  | [], vs, h => by cases h; exact .nil
  | d :: ds, vs, h => by
    cases h with
    | cons h g => exact .cons (IDp.dp d _ h) (IDpAll.dp ds _ g)
end
abbrev idI (v : V) (d : PyData) : Hp → Prop := fun H => IDp H v d
abbrev idsI (vs : List V) (ds : List PyData) : Hp → Prop := fun H => IDpAll H vs ds
theorem IDpAll.append {H : Hp} : ∀ {vs ws : List V} {ds es : List PyData}, IDpAll H vs ds → IDpAll H ws es → IDpAll H (vs ++ ws) (ds ++ es)
  | _, _, _, _, .nil, h => h
  | _, _, _, _, .cons a b, h => .cons a (IDpAll.append b h)
theorem IDpAll.len {H : Hp} : ∀ {vs : List V} {ds : List PyData}, IDpAll H vs ds → vs.length = ds.length
  | _, _, .nil => rfl
  | _, _, .cons _ b => congrArg (· + 1) b.len
section
variable {K : PySem.W.Frag} {H : Hp} {L R M : List Ck} {I : List (Hp → Prop)} {a b p : Addr} {xs ys : List V} {ds : List PyData} {d : PyData} {v : V}
structure Cat (K : PySem.W.Frag) (H : Hp) (p q : Addr) (Q : VK) : Prop where
  ex : (∃ xs ys, H p = some (.lst xs) ∧ H q = some (.lst ys) ∧ xs.length + ys.length ≤ sizeLine ∧ New H (.lst (xs ++ ys)) fun r H' => Q (.ref r) H') ∨
    ∃ xs ys, SqT K H p xs ∧ SqT K H q ys ∧ xs ≠ [] ∧ ys ≠ [] ∧ xs.length + ys.length ≤ sizeLine ∧ New H (.tup (xs ++ ys)) fun r H' => Q (.ref r) H'
def rAddG (K : PySem.W.Frag) : R2 := fun x y H Q => match x, y with
  | .int i, .int j => Q (.int (i + j)) H
  | .str a, .str b => Chk (a.length + b.length ≤ sizeLine) (Q (.str (a ++ b)) H)
  | .ref p, .ref q => Cat K H p q Q
  | _, _ => False
theorem c_addG {X : Cx} : OpR X (binaryOp .Add) (rAddG X.K) := by
  intro pins s σ H x y v u Q I rx ry h
  unfold rAddG at h
  split at h
  · exact op_add pins s σ H _ _ v u Q I rx ry ⟨_, _, rfl, rfl, h⟩
  · exact op_add_str pins s σ H _ _ v u Q I rx ry ⟨_, _, rfl, rfl, h.p, h.k⟩
  · obtain ⟨⟨xs, ys, h1, h2, h3, h4⟩ | ⟨xs, ys, h1, h2, h3, h4, h5, h6⟩⟩ := h
    · exact op_cat pins s σ H _ _ v u Q I rx ry ⟨_, _, _, _, rfl, rfl, h1, h2, h3, h4.k⟩
    · exact op_catT pins s σ H _ _ v u Q I rx ry ⟨_, _, _, _, rfl, rfl, h1, h2, h3, h5, fun z => (h4 z).elim, fun _ => h6.k⟩
  · exact h.elim
theorem cat_l {Q : VK} (h : Own H L I) (e : Pull L (.pt a (.lst xs)) R) (f : Pull L (.pt b (.lst ys)) M) (l : xs.length + ys.length ≤ sizeLine) (q : ∀ p H', Own H' (.pt p (.lst (xs ++ ys)) :: L) I → Q (.ref p) H') : Cat K H a b Q := ⟨.inl ⟨xs, ys, h.get e, h.get f, l, new_o h q⟩⟩
theorem cat_t {Q : VK} (h : Own H L I) (e : Pull L (.pt a (.tup xs)) R) (f : Pull L (.pt b (.tup ys)) M) (n : xs ≠ []) (m : ys ≠ []) (l : xs.length + ys.length ≤ sizeLine) (q : ∀ p H', Own H' (.pt p (.tup (xs ++ ys)) :: L) I → Q (.ref p) H') : Cat K H a b Q := ⟨.inr ⟨xs, ys, SqT.of (h.get e), SqT.of (h.get f), n, m, l, new_o h q⟩⟩
structure SlG (K : PySem.W.Frag) (H : Hp) (a : Addr) (lo hi : Option Int) (Q : VK) : Prop where
  ex : (∃ xs, SqL K H a xs ∧ New H (.lst (cutV xs lo hi)) fun p H' => Q (.ref p) H') ∨ ∃ xs, SqT K H a xs ∧ ¬ (HT.sIx xs.length 0 lo = 0 ∧ HT.sIx xs.length xs.length hi = xs.length) ∧ New H (.tup (cutV xs lo hi)) fun p H' => Q (.ref p) H'
def rSlG (K : PySem.W.Frag) : V → Option Int → Option Int → Hp → VK → Prop := fun x lo hi H Q => match x with
  | .ref a => SlG K H a lo hi Q
  | .str z => Chk (z.length ≤ sizeLine) (Q (.str (cutS z lo hi)) H)
  | _ => False
theorem c_slG {X : Cx} : SlR X (rSlG X.K) := by
  intro pins s σ H x v vl vu lo hi sl Q I rx hs pl pu h
  unfold rSlG at h
  split at h
  · obtain ⟨⟨xs, h1, h2⟩ | ⟨xs, h1, h3, h2⟩⟩ := h
    · exact sl_list pins s σ H _ v vl vu lo hi sl Q I rx hs pl pu ⟨_, xs, rfl, h1, h2.k⟩
    · exact sl_tup pins s σ H _ v vl vu lo hi sl Q I rx hs pl pu ⟨_, xs, rfl, h1, h3, h2.k⟩
  · exact sl_str pins s σ H _ v vl vu lo hi sl Q I rx hs pl pu ⟨_, rfl, h.p, h.k⟩
  · exact h.elim
theorem slg_l {lo hi : Option Int} {Q : VK} (h : Own H L I) (e : Pull L (.pt a (.lst xs)) R) (q : ∀ p H', Own H' (.pt p (.lst (cutV xs lo hi)) :: L) I → Q (.ref p) H') : SlG K H a lo hi Q := ⟨.inl ⟨xs, SqL.of (h.get e), new_o h q⟩⟩
theorem slg_s {lo hi : Option Int} {Q : VK} (h : Own H L I) (e : seqI K a xs ∈ I) (q : ∀ p H', Own H' (.pt p (.lst (cutV xs lo hi)) :: L) I → Q (.ref p) H') : SlG K H a lo hi Q := ⟨.inl ⟨xs, (h.imp e).1, new_o h q⟩⟩
theorem slg_t {lo hi : Option Int} {Q : VK} (h : Own H L I) (e : Pull L (.pt a (.tup xs)) R) (n : ¬ (HT.sIx xs.length 0 lo = 0 ∧ HT.sIx xs.length xs.length hi = xs.length)) (q : ∀ p H', Own H' (.pt p (.tup (cutV xs lo hi)) :: L) I → Q (.ref p) H') : SlG K H a lo hi Q := ⟨.inr ⟨xs, SqT.of (h.get e), n, new_o h q⟩⟩
end
def rMinG : List V → Hp → VK → Prop := fun xs H Q => match xs with
  | [.int i, .int j] => Q (.int (if j < i then j else i)) H
  | [.int i, .int j, .int k] => Q (.int (if k < (if j < i then j else i) then k else (if j < i then j else i))) H
  | _ => False
theorem k_minG {X : Cx} (hc : X.calm = true) : CallR X (.builtin "min") rMinG := by
  intro pins s σ H xs us Q I r h
  unfold rMinG at h
  split at h
  · exact call_min2 hc pins s σ H _ us Q I r ⟨_, _, rfl, h⟩
  · rename_i i j k
    refine call_min3Nu hc pins s σ H _ us Q I r ⟨_, _, _, _, rfl, ?_, h⟩
    show (nuMin2 (.int i) (.int j)).bind (fun m => nuMin2 m (.int k)) = _
    have e : ∀ a b : Int, nuMin2 (.int a) (.int b) = some (.int (if b < a then b else a)) := fun a b => by
      show (nuLt (.int b) (.int a)).map _ = _
      have : nuLt (.int b) (.int a) = some (decide (b < a)) := rfl
      rw [this]
      by_cases h : b < a
      · simp [h]
      · simp [h]
    rw [e, Option.bind_some, e]
  · exact h.elim
end OW
namespace OW
open PySem PySem.Spec PyProof.Rows L2 RZ SkE CL
section
variable {X : Cx} {K : PySem.W.Frag} {a : Expr} {ta : TE} {pos : Pos}
theorem c_addGK (h : X.K = K) : OpR X (binaryOp .Add) (rAddG K) := h ▸ c_addG
end
end OW
namespace OW
open PySem PySem.Spec PyProof.Rows L2 RZ SkE CL
theorem IDpAll.snoc {H : Hp} {xs : List V} {ds : List PyData} {v : V} {d : PyData} (h : IDpAll H xs ds) (g : IDp H v d) : IDpAll H (xs ++ [v]) (ds ++ [d]) := h.append (.cons g .nil)
end OW
namespace OW
open PySem PySem.Spec PyProof.Rows L2 RZ SkE CL
theorem cut_a {a b c d e : V} : cutV [a,b,c,d,e] none (some 2) = [a,b] := rfl
theorem cut_b {a b c d e : V} : cutV [a,b,c,d,e] (some 3) none = [d,e] := rfl
theorem cut_c {a b c d e : V} : cutV [a,b,c,d,e] none (some 1) = [a] := rfl
theorem cut_d {a b c d e : V} : cutV [a,b,c,d,e] (some 2) none = [c,d,e] := rfl
theorem cut_e {a b c d e : V} : cutV [a,b,c,d,e] (some 1) none = [b,c,d,e] := rfl
theorem cutM_a {a b c d e : Int} : cutV (List.map V.int [a,b,c,d,e]) none (some 2) = [.int a,.int b] := rfl
theorem cutM_b {a b c d e : Int} : cutV (List.map V.int [a,b,c,d,e]) (some 3) none = [.int d,.int e] := rfl
theorem cutM_c {a b c d e : Int} : cutV (List.map V.int [a,b,c,d,e]) none (some 1) = [.int a] := rfl
theorem cutM_d {a b c d e : Int} : cutV (List.map V.int [a,b,c,d,e]) (some 2) none = [.int c,.int d,.int e] := rfl
theorem cutM_e {a b c d e : Int} : cutV (List.map V.int [a,b,c,d,e]) (some 1) none = [.int b,.int c,.int d,.int e] := rfl
end OW
namespace OW
open PySem PySem.Spec PyProof.Rows L2 RZ SkE CL
theorem Own.ids {H : Hp} {L : List Ck} {I : List (Hp → Prop)} {xs : List V} {ds : List PyData} (h : Own H L I) (m : idsI xs ds ∈ I) : IDpAll H xs ds := h.imp m
theorem Own.idd {H : Hp} {L : List Ck} {I : List (Hp → Prop)} {v : V} {d : PyData} (h : Own H L I) (m : idI v d ∈ I) : IDp H v d := h.imp m
theorem Own.tupx {H : Hp} {L : List Ck} {I : List (Hp → Prop)} {a : Addr} {xs : List V} (h : Own H L I) (m : tupI a xs ∈ I) : H a = some (.tup xs) := h.imp m
end OW
namespace OW
open PySem PySem.Spec PyProof.Rows L2 RZ SkE CL
structure JoinS (t : TS) (D : Ends) (σ : L2.St) (H : Hp) : Prop where
  ex : ∃ P : L2.St → Hp → Prop, t { D with nx := P } σ H ∧ ∀ σ' H', P σ' H' → D.nx σ' H'
def cJoinS (t : TS) : TS := fun D σ H => JoinS t D σ H
theorem s_join {X : Cx} {st : Stmt} {t : TS} (h : PS X st t) : PS X st (cJoinS t) := ⟨fun pins s σ H D I q => by
  obtain ⟨⟨P, h1, h2⟩⟩ := (show JoinS t D σ H from q)
  refine thn (h.run pins s σ H _ I h1) fun f s' q => ?_
  cases f with
  | next => exact let ⟨σ', H', J, p⟩ := q; ⟨σ', H', J, h2 σ' H' p⟩
  | brk => exact q
  | cont => exact q
  | ret u => exact q⟩
theorem join_by {t : TS} {D : Ends} {σ : L2.St} {H : Hp} (P : L2.St → Hp → Prop) (h1 : t { D with nx := P } σ H) (h2 : ∀ σ' H', P σ' H' → D.nx σ' H') : JoinS t D σ H := ⟨P, h1, h2⟩
end OW
namespace OW
end OW
set_option Elab.async false
set_option linter.all false
set_option maxRecDepth 100000
set_option maxHeartbeats 2000000
namespace OW
open PySem PySem.Spec PyProof.Rows L2 RZ SkE CL
structure DGt (H : Hp) (a : Addr) (y : V) (k : Option V → Prop) : Prop where
  ex : ∃ o, DGet H a y o ∧ k o
structure DGv (H : Hp) (a : Addr) (y : V) (k : V → Prop) : Prop where
  ex : ∃ v, DGet H a y (some v) ∧ k v
structure DPt (H : Hp) (a : Addr) (y v : V) (k : Hp → Prop) : Prop where
  ex : ∃ H', DPut H a y v H' ∧ k H'
structure DDl (H : Hp) (a : Addr) (y : V) (k : Hp → Prop) : Prop where
  ex : ∃ kvs key, H a = some (.dK kvs) ∧ y = kV key ∧ (valV kvs key).isSome = true ∧ k (upd H a (.dK (dropK kvs key)))
section
variable {H : Hp} {L R : List Ck} {I : List (Hp → Prop)} {a : Addr} {kvs : List (Key × V)} {od : Obj}
theorem dgt_i {i : Int} {k : Option V → Prop} (h : Own H L I) (e : Pull L (.pt a (.dK kvs)) R) (q : k (valV kvs (.inl i))) : DGt H a (.int i) k := ⟨_, DGet.k (k := .inl i) (h.get e), q⟩
theorem dgt_s {z : Str} {k : Option V → Prop} (h : Own H L I) (e : Pull L (.pt a (.dK kvs)) R) (q : k (valV kvs (.inr z))) : DGt H a (.str z) k := ⟨_, DGet.k (k := .inr z) (h.get e), q⟩
theorem dgt_if {i : Int} {k : Option V → Prop} (h : Own H L I) (e : Pull L (.pt a (.frz od (.dK kvs))) R) (q : k (valV kvs (.inl i))) : DGt H a (.int i) k := ⟨_, .inl ⟨kvs, .inl i, .inr ⟨od, h.get e⟩, rfl, rfl⟩, q⟩
theorem dgt_sf {z : Str} {k : Option V → Prop} (h : Own H L I) (e : Pull L (.pt a (.frz od (.dK kvs))) R) (q : k (valV kvs (.inr z))) : DGt H a (.str z) k := ⟨_, .inl ⟨kvs, .inr z, .inr ⟨od, h.get e⟩, rfl, rfl⟩, q⟩
theorem dgv_i {i : Int} {v : V} {k : V → Prop} (h : Own H L I) (e : Pull L (.pt a (.dK kvs)) R) (x : valV kvs (.inl i) = some v) (q : k v) : DGv H a (.int i) k := ⟨v, x ▸ DGet.k (k := .inl i) (h.get e), q⟩
theorem dgv_s {z : Str} {v : V} {k : V → Prop} (h : Own H L I) (e : Pull L (.pt a (.dK kvs)) R) (x : valV kvs (.inr z) = some v) (q : k v) : DGv H a (.str z) k := ⟨v, x ▸ DGet.k (k := .inr z) (h.get e), q⟩
theorem dgv_if {i : Int} {v : V} {k : V → Prop} (h : Own H L I) (e : Pull L (.pt a (.frz od (.dK kvs))) R) (x : valV kvs (.inl i) = some v) (q : k v) : DGv H a (.int i) k := ⟨v, .inl ⟨kvs, .inl i, .inr ⟨od, h.get e⟩, rfl, x.symm⟩, q⟩
theorem dpt_i {i : Int} {v : V} {k : Hp → Prop} (h : Own H L I) (e : Pull L (.pt a (.dK kvs)) R) (l : kvs.length < sizeLine) (q : ∀ H', Own H' (.pt a (.dK (putK kvs (.inl i) v)) :: R) I → k H') : DPt H a (.int i) v k := ⟨_, DPut.k (k := .inl i) (h.get e) l, q _ (h.put e rfl)⟩
theorem dpt_s {z : Str} {v : V} {k : Hp → Prop} (h : Own H L I) (e : Pull L (.pt a (.dK kvs)) R) (l : kvs.length < sizeLine) (q : ∀ H', Own H' (.pt a (.dK (putK kvs (.inr z) v)) :: R) I → k H') : DPt H a (.str z) v k := ⟨_, DPut.k (k := .inr z) (h.get e) l, q _ (h.put e rfl)⟩
theorem ddl_i {i : Int} {k : Hp → Prop} (h : Own H L I) (e : Pull L (.pt a (.dK kvs)) R) (x : (valV kvs (.inl i)).isSome = true) (q : ∀ H', Own H' (.pt a (.dK (dropK kvs (.inl i))) :: R) I → k H') : DDl H a (.int i) k := ⟨kvs, .inl i, h.get e, rfl, x, q _ (h.put e rfl)⟩
end
structure UnL (H : Hp) (d : Addr) (od : Obj) (u : HO) (k : Hp → Prop) : Prop where
  at_ : H d = some (.frz od u)
  k : k (upd H d u)
structure LockE (t : TE) (σ : L2.St) (H : Hp) (Q : VK) : Prop where
  ex : ∃ d u, H d = some u ∧ Mut (some u) ∧ ∀ od, t σ (upd H d (.frz od u)) fun v H' => UnL H' d od u (Q v)
section
variable {H : Hp} {L R : List Ck} {I : List (Hp → Prop)} {d : Addr} {kvs : List (Key × V)} {od : Obj}
theorem lockE_o {t : TE} {σ : L2.St} {Q : VK} (h : Own H L I) (e : Pull L (.pt d (.dK kvs)) R) (q : ∀ od H', Own H' (.pt d (.frz od (.dK kvs)) :: R) I → t σ H' fun v H' => UnL H' d od (.dK kvs) (Q v)) : LockE t σ H Q := ⟨d, _, h.get e, trivial, fun od => q od _ (h.put e rfl)⟩
theorem unl_o {k : Hp → Prop} (h : Own H L I) (e : Pull L (.pt d (.frz od (.dK kvs))) R) (q : ∀ H', Own H' (.pt d (.dK kvs) :: R) I → k H') : UnL H d od (.dK kvs) k := ⟨h.get e, q _ (h.put e rfl)⟩
end
structure ItK (H : Hp) (d : Addr) (R : It → Hp → Prop) : Prop where
  ex : ∃ o kvs, H d = some (.frz o (.dK kvs)) ∧ R (Itk d o kvs) H
section
variable {g : TG} {tb : TS} {D : Ends} {σ : L2.St} {H : Hp} {d p : Addr} {o : Obj} {kvs : List (Key × V)} {tt : TT} {te : TE} {vs : List Nat} {Qd : Hp → Prop} {L R : List Ck} {I : List (Hp → Prop)}
theorem itk_o {P : It → Hp → Prop} (h : Own H L I) (e : Pull L (.pt d (.frz o (.dK kvs))) R) (q : P (Itk d o kvs) H) : ItK H d P := ⟨o, kvs, h.get e, q⟩
end
end OW
set_option Elab.async false
set_option linter.all false
set_option maxRecDepth 100000
set_option maxHeartbeats 2000000
namespace OW
open PySem PySem.Spec PyProof.Rows L2 RZ SkE CL
theorem dgv_sf {H : Hp} {L R : List Ck} {I : List (Hp → Prop)} {a : Addr} {kvs : List (Key × V)} {od : Obj} {z : Str} {v : V} {k : V → Prop} (h : Own H L I) (e : Pull L (.pt a (.frz od (.dK kvs))) R) (x : valV kvs (.inr z) = some v) (q : k v) : DGv H a (.str z) k := ⟨v, .inl ⟨kvs, .inr z, .inr ⟨od, h.get e⟩, rfl, x.symm⟩, q⟩
end OW
set_option Elab.async false
set_option linter.all false
set_option maxRecDepth 100000
set_option maxHeartbeats 2000000
namespace OW
open PySem PySem.Spec PyProof.Rows L2 RZ SkE CL
def onS (k : Str → Hp → Prop) : V → Hp → Prop := fun x H => match x with
  | .str a => k a H
  | _ => False
def cM1 (r : Str → V → Hp → VK → Prop) (to te : TE) : TE := fun σ H Q => to σ H (onS fun a H1 => te σ H1 fun y H2 => r a y H2 Q)
theorem e_m1 {X : Cx} {id : String} {name : Str} {apos pos : Pos} {o e : Expr} {to te : TE} {r : Str → V → Hp → VK → Prop} (slot : Slot "str" name id) (ty : typeOf (.builtin id) = pure (.type "method_descriptor"))
    (rule : MtR X id (fun x xs H Q => ∃ a y, x = .str a ∧ xs = [y] ∧ r a y H Q)) (ho : PE X o to) (he : PE X e te)
    (hs : starEach [e] X.env = [(false, eval e X.env)] := by rfl) (hbase : attributeBase o name X.env (eval o X.env) = eval o X.env := by rfl) (hline : (apos.endLine == pos.line) = true := by rfl) :
    PE X (.Call (.Attribute o name apos) [e] [] pos) (cM1 r to te) := by
  have e2 : cM1 r to te = tM1 (fun x xs H Q => ∃ a y, x = .str a ∧ xs = [y] ∧ r a y H Q) to te := by
    funext σ H Q
    unfold cM1 tM1
    congr 1
    funext x H1
    cases x with
    | str a =>
      have e3 : (fun (y : V) (H2 : Hp) => ∃ a' y', V.str a = .str a' ∧ [y] = [y'] ∧ r a' y' H2 Q) = fun y H2 => r a y H2 Q := by
        funext y H2
        exact propext ⟨fun ⟨a', y', h1, h2, h3⟩ => by cases h1; cases h2; exact h3, fun h => ⟨a, y, rfl, rfl, h⟩⟩
      show te σ H1 (fun y H2 => r a y H2 Q) = ((∃ b, V.str a = V.str b) ∧ te σ H1 (fun (y : V) (H2 : Hp) => ∃ a' y', V.str a = .str a' ∧ [y] = [y'] ∧ r a' y' H2 Q))
      rw [e3]
      exact propext ⟨fun h => ⟨⟨a, rfl⟩, h⟩, fun h => h.2⟩
    | _ => exact propext ⟨fun h => h.elim, fun ⟨⟨a, h⟩, _⟩ => by cases h⟩
  rw [e2]
  exact pe_m1 slot ty rule ho he hs hbase hline
def rSplitC : Str → V → Hp → VK → Prop := fun a y H Q => match y with
  | .str b => Chk ((b.length == 0) = false ∧ a.length + 2 ≤ sizeLine) (New H (.lst ((Txt.split a b).map V.str)) fun p H' => Q (.ref p) H')
  | _ => False
theorem m_split {X : Cx} : MtR X "str.split" (fun x xs H Q => ∃ a y, x = .str a ∧ xs = [y] ∧ rSplitC a y H Q) := by
  intro pins s σ H x xs v us Q I rx rs h
  obtain ⟨a, y, rfl, rfl, h⟩ := h
  unfold rSplitC at h
  split at h
  · exact mt_split pins s σ H _ _ v us Q I rx rs ⟨a, _, rfl, rfl, h.p.1, h.p.2, h.k.k⟩
  · exact h.elim
theorem e_split {X : Cx} {apos pos : Pos} {o e : Expr} {to te : TE} (ho : PE X o to) (he : PE X e te) (hs : starEach [e] X.env = [(false, eval e X.env)] := by rfl) (hbase : attributeBase o "split" X.env (eval o X.env) = eval o X.env := by rfl) (hline : (apos.endLine == pos.line) = true := by rfl) :
    PE X (.Call (.Attribute o "split" apos) [e] [] pos) (cM1 rSplitC to te) := e_m1 F.slot_str_split F.type_str_split m_split ho he hs hbase hline
structure IntS (a : Str) (k : Int → Prop) : Prop where
  ex : ∃ n, PySem.intText? a = some n ∧ a.length ≤ 640 ∧ k n
def rIntG : List V → Hp → VK → Prop := fun xs H Q => match xs with
  | [.int i] => Q (.int i) H
  | [.bl b] => Q (.int (if b then 1 else 0)) H
  | [.str a] => IntS a fun n => Q (.int n) H
  | _ => False
theorem k_intG {X : Cx} : CallR X (.type "int") rIntG := by
  intro pins s σ H xs us Q I r h
  unfold rIntG at h
  split at h
  · exact call_int1 pins s σ H _ us Q I r (.inl ⟨_, rfl, h⟩)
  · exact call_int1 pins s σ H _ us Q I r (.inr ⟨_, rfl, h⟩)
  · obtain ⟨⟨n, h1, h2, h3⟩⟩ := h
    exact call_int_str pins s σ H _ us Q I r ⟨_, n, rfl, h1, h2, h3⟩
  · exact h.elim
theorem unt_i {K : PySem.W.Frag} {H : Hp} {L : List Ck} {I : List (Hp → Prop)} {a : Addr} {xs : List V} {n : Nat} {k : List V → Prop} (h : Own H L I) (m : tupI a xs ∈ I) (l : xs.length = n) (q : k xs) : UnT K H a n k := ⟨xs, SqT.of (h.imp m), l, q⟩
theorem IDpAll.mem {H : Hp} : ∀ {xs : List V} {ds : List PyData} {y : V}, IDpAll H xs ds → y ∈ xs → ∃ d ∈ ds, IDp H y d
  | _, _, y, .nil, m => (List.not_mem_nil m).elim
  | _, _, y, .cons a b, m => by
    rcases List.mem_cons.mp m with rfl | m
    · exact ⟨_, List.mem_cons_self, a⟩
    · obtain ⟨d, hd, h⟩ := b.mem m
      exact ⟨d, List.mem_cons_of_mem _ hd, h⟩
theorem DpAll.len {K : PySem.W.Frag} {H : Hp} : ∀ {xs : List V} {ds : List PyData}, DpAll K H xs ds → xs.length = ds.length
  | _, _, .nil => rfl
  | _, _, .cons _ g => congrArg (· + 1) (DpAll.len g)
theorem DpAll.erase {K : PySem.W.Frag} {H : Hp} : ∀ {xs : List V} {ds : List PyData} (i : Nat), DpAll K H xs ds → DpAll K H (xs.eraseIdx i) (ds.eraseIdx i)
  | _, _, _, .nil => .nil
  | _, _, 0, .cons _ g => g
  | _, _, i + 1, .cons a g => .cons a (DpAll.erase i g)
end OW
set_option Elab.async false
set_option linter.all false
set_option maxRecDepth 100000
set_option maxHeartbeats 2000000
namespace OW
open PySem PySem.Spec PyProof.Rows L2 RZ SkE CL
def pickS (xs : List V) (lo st : Option Int) : List V := (sliceRange (sliceBounds lo none st xs.length).1 (sliceBounds lo none st xs.length).2.1 (sliceBounds lo none st xs.length).2.2).filterMap (xs[·]?)
theorem vals_get : ∀ {xs : List V} {us : List Value}, Vals xs us → ∀ i : Nat, (∃ x u, xs[i]? = some x ∧ us[i]? = some u ∧ RelV x u) ∨ (xs[i]? = none ∧ us[i]? = none)
  | _, _, .nil, i => .inr ⟨rfl, rfl⟩
  | _, _, .cons a g, 0 => .inl ⟨_, _, rfl, rfl, a⟩
  | _, _, .cons a g, i + 1 => vals_get g i
theorem vals_pick {xs : List V} {us : List Value} (r : Vals xs us) : ∀ is : List Nat, Vals (is.filterMap (xs[·]?)) (is.filterMap (us[·]?))
  | [] => .nil
  | i :: is => by
    rcases vals_get r i with ⟨x, u, h1, h2, h3⟩ | ⟨h1, h2⟩
    · rw [List.filterMap_cons_some h1, List.filterMap_cons_some h2]
      exact .cons h3 (vals_pick r is)
    · rw [List.filterMap_cons_none h1, List.filterMap_cons_none h2]
      exact vals_pick r is
structure StepL (K : PySem.W.Frag) (H : Hp) (a : Addr) (lo st : Option Int) (Q : VK) : Prop where
  ex : ∃ xs, SqL K H a xs ∧ (pickS xs lo st).length ≤ sizeLine ∧ New H (.lst (pickS xs lo st)) fun p H' => Q (.ref p) H'
def cStep (K : PySem.W.Frag) (te : TE) (lo st : Option Int) : TE := fun σ H Q => te σ H (onR fun a H1 => StepL K H1 a lo st Q)
theorem e_stepO {X : Cx} {e : Expr} {lower : Option Expr} {te : TE} {lo : Option Int} {tl : TO} {j k : Nat} {p2 p3 pos : Pos} (he : PE X e te) (hl : PO X lower tl) (htl : ∀ σ H P, P lo H → tl σ H P) (hk : ((k : Nat) : Int) ≠ 0) :
    PE X (.Subscript e (.Slice lower none (some (.Constant (.int k) j p2)) p3) pos) (cStep X.K te lo (some k)) := by
  refine ⟨fun pins s σ H Q I h => ?_⟩
  refine Subscript_ (thn (he.run pins s σ H _ I h) fun v s1 ⟨x, H1, I1, r1, q1⟩ => ?_)
  rw [onR_eq] at q1
  obtain ⟨a, ex, ⟨xs, hx, hsz, q⟩⟩ := q1
  subst ex
  cases r1
  have hst : PO X (some (.Constant (.int k) j p2)) (tPart (tC (.int k))) := po_some pe_int
  refine wpAny_Slice (thn (hl.run pins s1 σ H1 (fun o H2 => o = lo ∧ H2 = H1) I1 (htl _ _ _ ⟨rfl, rfl⟩)) fun vl s2 ⟨l, H2, I2, pl, el, e2⟩ => ?_)
  subst el e2
  refine thn (po_none.run pins s2 σ H2 (fun o H3 => o = none ∧ H3 = H2) I2 ⟨rfl, rfl⟩) fun vu s3 ⟨u, H3, I3, pu, eu, e3⟩ => ?_
  subst eu e3
  refine thn (hst.run pins s3 σ H3 (fun o H4 => o = some (k : Int) ∧ H4 = H3) I3 ⟨k, rfl, rfl, rfl⟩) fun vs s4 ⟨o, H4, I4, ps, eo, e4⟩ => ?_
  subst eo e4
  have I5 : Inv X pins σ H4 { s4 with heap := s4.heap.push { cls := .type "slice", data := .fields #[vl, vu, vs] } } := I4.kept (t' := s4.toks) fun b ob q => Heap.get?_push_of_some _ q
  obtain ⟨its, r, ht, hz⟩ := I5.list hx
  have hlen := r.length
  show wpAny (model X.prog X.w) X.A (subscriptTail e (.Slice lower none (some (.Constant (.int k) j p2)) p3) (.ref a) (.ref s4.heap.objs.size)) (EP X pins σ Q) X.xe { s4 with heap := s4.heap.push { cls := .type "slice", data := .fields #[vl, vu, vs] } }
  refine tail_any (ops := [.ref a, .ref s4.heap.objs.size]) ht.isList.typeIs (PySem.slot_list_getitem.lookup) ?_ (by with_unfolding_all rfl)
  refine wpAny_getItem_list_slice ht.isList (Heap.IsSliceOf.new _ vl vu vs) pl pu ps (by simpa using hk) ?_ (by rw [List.size_toArray]; omega)
  have rp : Vals (pickS xs l (some (k : Int))) (slicePick its.toArray l none (some (k : Int))).toList := by
    unfold pickS slicePick
    rw [List.size_toArray, ← hlen]
    have := vals_pick r (sliceRange (sliceBounds l none (some (k : Int)) xs.length).1 (sliceBounds l none (some (k : Int)) xs.length).2.1 (sliceBounds l none (some (k : Int)) xs.length).2.2)
    simpa using this
  refine ⟨.ref _, _, I5.laid (t' := s4.toks) (o := .lst (pickS xs l (some (k : Int)))) (fun b ob q => Heap.get?_push_of_some _ q) (Nat.le_refl _) ?_, rfl, q.k _ (I5.hok.fresh (Nat.le_refl _))⟩
  exact ⟨hsz, _, 0, rp, Heap.get?_push_size _ rfl⟩
theorem e_stepF {X : Cx} {e : Expr} {te : TE} {i j k m : Nat} {p1 p2 p3 pos : Pos} (he : PE X e te) (hk : ((k : Nat) : Int) ≠ 0) :
    PE X (.Subscript e (.Slice (some (.Constant (.int i) m p1)) none (some (.Constant (.int k) j p2)) p3) pos) (cStep X.K te (some (i : Int)) (some k)) := e_stepO he (po_some pe_int) (fun _ _ _ h => ⟨_, rfl, h⟩) hk
end OW
set_option Elab.async false
set_option linter.all false
set_option maxRecDepth 100000
set_option maxHeartbeats 2000000
namespace OW
open PySem PySem.Spec PyProof.Rows L2 RZ SkE CL
structure ValsL (H : Hp) (d : Addr) (Q : VK) : Prop where
  ex : ∃ kvs, H d = some (.dK kvs) ∧ New H (.lst (kvs.map (·.2))) fun p H' => Q (.ref p) H'
theorem vals_o {H : Hp} {L R : List Ck} {I : List (Hp → Prop)} {d : Addr} {kvs : List (Key × V)} {Q : VK} (h : Own H L I) (e : Pull L (.pt d (.dK kvs)) R) (q : ∀ p H', Own H' (.pt p (.lst (kvs.map (·.2))) :: L) I → Q (.ref p) H') : ValsL H d Q := ⟨kvs, h.get e, new_o h q⟩
end OW
set_option Elab.async false
set_option linter.all false
set_option maxRecDepth 100000
set_option maxHeartbeats 2000000
namespace OW
open PySem PySem.Spec PyProof.Rows L2 RZ SkE CL
def toK : V → Key
  | .int i => .inl i
  | .str z => .inr z
  | _ => .inl 0
def toKs (ps : List (V × V)) : List (Key × V) := ps.map fun p => (toK p.1, p.2)
structure DDsp (H : Hp) (p : Addr) (ps : List (V × V)) (Q : VK) : Prop where
  ex : H p = some (.dK []) ∧ ∃ kvs : List (Key × V), ps = kvs.map (fun kv => (kV kv.1, kv.2)) ∧ kvs.length ≤ 15 ∧ Q (.ref p) (upd H p (.dK (mergeK [] kvs)))
theorem ddsp_o {H : Hp} {L R : List Ck} {I : List (Hp → Prop)} {p : Addr} {ps : List (V × V)} {Q : VK} (h : Own H L I) (e : Pull L (.pt p (.dK [])) R) (f : ps = (toKs ps).map (fun kv => (kV kv.1, kv.2))) (l : (toKs ps).length ≤ 15) (q : ∀ H', Own H' (.pt p (.dK (mergeK [] (toKs ps))) :: R) I → Q (.ref p) H') : DDsp H p ps Q := ⟨h.get e, toKs ps, f, l, q _ (h.put e rfl)⟩
end OW
set_option Elab.async false
set_option linter.all false
set_option maxRecDepth 100000
set_option maxHeartbeats 2000000
namespace OW
open PySem PySem.Spec PyProof.Rows L2 RZ SkE CL
def maxI : List Int → Int
  | [] => 0
  | [x] => x
  | x :: y :: r => if x < maxI (y :: r) then maxI (y :: r) else x
def minI : List Int → Int
  | [] => 0
  | [x] => x
  | x :: y :: r => if minI (y :: r) < x then minI (y :: r) else x
theorem maxI_mem : ∀ {ns : List Int}, 0 < ns.length → maxI ns ∈ ns
  | [x], _ => List.mem_singleton.mpr rfl
  | x :: y :: r, _ => by
    have ih := maxI_mem (ns := y :: r) (Nat.succ_pos _)
    show (if x < maxI (y :: r) then maxI (y :: r) else x) ∈ _
    split
    · exact List.mem_cons_of_mem _ ih
    · exact List.mem_cons_self
theorem maxI_le : ∀ {ns : List Int} {z : Int}, z ∈ ns → z ≤ maxI ns
  | [x], z, m => by rw [List.mem_singleton.mp m]; exact Int.le_refl _
  | x :: y :: r, z, m => by
    show z ≤ (if x < maxI (y :: r) then maxI (y :: r) else x)
    rcases List.mem_cons.mp m with rfl | m
    · split <;> omega
    · have ih := maxI_le m
      split <;> omega
theorem minI_mem : ∀ {ns : List Int}, 0 < ns.length → minI ns ∈ ns
  | [x], _ => List.mem_singleton.mpr rfl
  | x :: y :: r, _ => by
    have ih := minI_mem (ns := y :: r) (Nat.succ_pos _)
    show (if minI (y :: r) < x then minI (y :: r) else x) ∈ _
    split
    · exact List.mem_cons_of_mem _ ih
    · exact List.mem_cons_self
theorem minI_le : ∀ {ns : List Int} {z : Int}, z ∈ ns → minI ns ≤ z
  | [x], z, m => by rw [List.mem_singleton.mp m]; exact Int.le_refl _
  | x :: y :: r, z, m => by
    show (if minI (y :: r) < x then minI (y :: r) else x) ≤ z
    rcases List.mem_cons.mp m with rfl | m
    · split <;> omega
    · have ih := minI_le m
      split <;> omega
theorem maxI_is {ns : List Int} {m : Int} (h : m ∈ ns) (g : ∀ z ∈ ns, z ≤ m) : maxI ns = m := by
  have h0 : 0 < ns.length := List.length_pos_of_mem h
  have a := maxI_le h
  have b := g _ (maxI_mem h0)
  omega
theorem minI_is {ns : List Int} {m : Int} (h : m ∈ ns) (g : ∀ z ∈ ns, m ≤ z) : minI ns = m := by
  have h0 : 0 < ns.length := List.length_pos_of_mem h
  have a := minI_le h
  have b := g _ (minI_mem h0)
  omega
structure MaxL (K : PySem.W.Frag) (H : Hp) (a : Addr) (f : List Int → Int) (k : Int → Prop) : Prop where
  ex : ∃ ns, SqL K H a (ns.map V.int) ∧ 0 < ns.length ∧ k (f ns)
def rMaxG (K : PySem.W.Frag) : List V → Hp → VK → Prop := fun xs H Q => match xs with
  | [.int i, .int j] => Q (.int (if j > i then j else i)) H
  | [.int i, .int j, .int k] => Q (.int (if (if j > i then j else i) < k then k else (if j > i then j else i))) H
  | [.ref a] => MaxL K H a maxI fun m => Q (.int m) H
  | _ => False
theorem k_maxG {X : Cx} (hc : X.calm = true) : CallR X (.builtin "max") (rMaxG X.K) := by
  intro pins s σ H xs us Q I r h
  unfold rMaxG at h
  split at h
  · exact call_max2 hc pins s σ H _ us Q I r ⟨_, _, rfl, h⟩
  · rename_i i j k
    refine call_max3Nu hc pins s σ H _ us Q I r ⟨_, _, _, _, rfl, ?_, h⟩
    show (nuMax2 (.int i) (.int j)).bind (fun m => nuMax2 m (.int k)) = _
    have e : ∀ a b : Int, nuMax2 (.int a) (.int b) = some (.int (if a < b then b else a)) := fun a b => by
      show (nuLt (.int a) (.int b)).map (fun c => if c = true then V.int b else V.int a) = _
      show some (if decide (a < b) = true then V.int b else V.int a) = _
      by_cases h : a < b
      · rw [if_pos (decide_eq_true h), if_pos h]
      · rw [if_neg (by simpa using h), if_neg h]
    rw [e]
    show nuMax2 _ _ = _
    rw [e]
  · obtain ⟨⟨ns, h1, h2, h3⟩⟩ := h
    exact cr_max hc pins s σ H _ us Q I r ⟨_, ns, rfl, h1, h2, fun m a b => maxI_is a b ▸ h3⟩
  · exact h.elim
def rMinL (K : PySem.W.Frag) : List V → Hp → VK → Prop := fun xs H Q => match xs with
  | [.int i, .int j] => Q (.int (if j < i then j else i)) H
  | [.int i, .int j, .int k] => Q (.int (if k < (if j < i then j else i) then k else (if j < i then j else i))) H
  | [.ref a] => MaxL K H a minI fun m => Q (.int m) H
  | _ => False
theorem k_minL {X : Cx} (hc : X.calm = true) : CallR X (.builtin "min") (rMinL X.K) := by
  intro pins s σ H xs us Q I r h
  unfold rMinL at h
  split at h
  · exact k_minG hc pins s σ H _ us Q I r h
  · exact k_minG hc pins s σ H _ us Q I r h
  · obtain ⟨⟨ns, h1, h2, h3⟩⟩ := h
    exact cr_min hc pins s σ H _ us Q I r ⟨_, ns, rfl, h1, h2, fun m a b => minI_is a b ▸ h3⟩
  · exact h.elim
structure AllL (K : PySem.W.Frag) (H : Hp) (a : Addr) (f : List Bool → Bool) (k : Bool → Prop) : Prop where
  ex : ∃ bs, SqL K H a (bs.map V.bl) ∧ k (f bs)
structure InD (K : PySem.W.Frag) (H : Hp) (x y : V) (k : Bool → Prop) : Prop where
  ex : ∃ d ds, Dp K H x d ∧ Dp K H y (.list ds) ∧ SeqAt.shaped d = true ∧ SeqAt.shaped (.list ds) = true ∧ k (ds.any fun z => PyData.eqv z d)
section
variable {K : PySem.W.Frag} {g : TG} {tb : TS} {D : Ends} {σ : L2.St} {H : Hp} {a b p : Addr} {xs ys : List V} {tt : TT} {te : TE} {vs : List Nat} {Qd : Hp → Prop}
theorem fw_enum (Pv : Nat → L2.St → Hp → Prop) (h0 : Pv 0 σ H) (hl : ∀ i σ H, i ≤ xs.length → Pv i σ H → SqL K H a xs)
    (hs : ∀ (i : Nat) (x : V) (T : Addr) (σ : L2.St) (H : Hp), xs[i]? = some x → Pv i σ H → H T = none → g (.ref T) σ (upd H T (.tup [.int (i : Nat), x])) fun σ2 H2 => tb { D with nx := Pv (i + 1), ct := Pv (i + 1), bk := D.nx } σ2 H2) (hd : ∀ σ H, Pv xs.length σ H → D.nx σ H) :
    ForW (Ite K a) g tb D σ H := ⟨for_it walk_enum Pv h0 hl (fun i x σ H H' hi hp ⟨T, x1, y1, e1, hT, e2, e3, e4⟩ => by
      subst e1 e2
      cases e3
      exact hs i y1 T σ H e4 hp hT) hd⟩
end
section
variable {K : PySem.W.Frag} {H : Hp} {L R M : List Ck} {I : List (Hp → Prop)} {a b : Addr} {xs ys : List V}
theorem maxl_o {ns : List Int} {f : List Int → Int} {k : Int → Prop} (h : Own H L I) (e : Pull L (.pt a (.lst (ns.map V.int))) R) (n : 0 < ns.length) (q : k (f ns)) : MaxL K H a f k := ⟨ns, SqL.of (h.get e), n, q⟩
theorem alll_o {bs : List Bool} {f : List Bool → Bool} {k : Bool → Prop} (h : Own H L I) (e : Pull L (.pt a (.lst (bs.map V.bl))) R) (q : k (f bs)) : AllL K H a f k := ⟨bs, SqL.of (h.get e), q⟩
theorem ind_o {ds : List PyData} {d : PyData} {x y : V} {k : Bool → Prop} (h1 : Dp K H x d) (h2 : Dp K H y (.list ds)) (h3 : SeqAt.shaped d = true) (h4 : SeqAt.shaped (.list ds) = true) (q : k (ds.any fun z => PyData.eqv z d)) : InD K H x y k := ⟨d, ds, h1, h2, h3, h4, q⟩
end
def SeqW (k : Bool) (L : List Ck) (I : List (Hp → Prop)) (w : Addr) (xs : List V) : Prop := match k with
  | true => ∃ R, Pull L (.pt w (.lst xs)) R
  | false => (∃ R, Pull L (.pt w (.tup xs)) R) ∨ tupI w xs ∈ I
section
variable {K : PySem.W.Frag} {g : TG} {tb : TS} {D : Ends} {σ : L2.St} {H : Hp} {L M R : List Ck} {I J : List (Hp → Prop)} {a b p w : Addr} {xs ys : List V} {tt : TT} {te : TE} {vs : List Nat} {k : Bool} {c : Ck}
theorem SeqW.tail (h : SeqW k L I w xs) : SeqW k (c :: L) I w xs := match k, h with
  | true, ⟨R, h⟩ => ⟨_, .tail h⟩
  | false, .inl ⟨R, h⟩ => .inl ⟨_, .tail h⟩
  | false, .inr h => .inr h
theorem SeqW.l (h : Own H L I) (e : SeqW true L I w xs) : SqL K H w xs := let ⟨_, e⟩ := e; SqL.of (h.get e)
theorem SeqW.t (h : Own H L I) (e : SeqW false L I w xs) : SqT K H w xs := match e with
  | .inl ⟨_, e⟩ => SqT.of (h.get e)
  | .inr e => SqT.of (h.imp e)
end
theorem lt_get {α : Type} {l : List α} {i : Nat} {x : α} (h : l[i]? = some x) : i < l.length := (List.getElem?_eq_some_iff.mp h).1
end OW
set_option Elab.async false
set_option linter.all false
set_option maxRecDepth 100000
set_option maxHeartbeats 2000000
namespace OW
open PySem PySem.Spec PyProof.Rows L2 RZ SkE CL
structure ShwB (d : PyData) (m B : Nat) : Prop where
  s : d.showable = true
  h : d.hasDict = false
  l : d.canLay0 = true
  q : d.depth ≤ m
  b : bnd d ≤ B
structure ShwA (ds : List PyData) (m B : Nat) : Prop where
  s : PyData.showableAll ds = true
  h : PyData.hasDictAll ds = false
  l : PyData.canLayAll0 ds = true
  q : PyData.depthAll ds ≤ m
  b : bndAll ds ≤ B
def smI (i : Int) : Prop := i.natAbs < 18446744073709551616
theorem shw_int {i : Int} (h : smI i) : ShwB (.int i) 0 1921 := ⟨by simp [PyData.showable, log_of2 h], rfl, rfl, Nat.le_refl _, Nat.le_refl _⟩
theorem shw_str {z : Str} (h : PyData.canLay0 (.str z) = true) : ShwB (.str z) 0 (reprText z).length := ⟨rfl, rfl, h, Nat.le_refl _, Nat.le_refl _⟩
theorem ShwB.up {d : PyData} {m B m' B' : Nat} (h : ShwB d m B) (a : m ≤ m') (b : B ≤ B') : ShwB d m' B' := ⟨h.s, h.h, h.l, Nat.le_trans h.q a, Nat.le_trans h.b b⟩
theorem shwA {m B : Nat} : ∀ {ds : List PyData}, (∀ d ∈ ds, ShwB d m B) → ShwA ds m (ds.length * (B + 2))
  | [], _ => ⟨rfl, rfl, rfl, Nat.zero_le _, Nat.zero_le _⟩
  | d :: ds, h => by
    have a := h d List.mem_cons_self
    have i := shwA (fun e m => h e (List.mem_cons_of_mem _ m))
    refine ⟨?_, ?_, ?_, ?_, ?_⟩
    · simp [PyData.showableAll, a.s, i.s]
    · simp [PyData.hasDictAll, a.h, i.h]
    · simp [PyData.canLayAll0, a.l, i.l]
    · have := a.q; have := i.q; simp [PyData.depthAll]; omega
    · have := a.b
      have := i.b
      show bnd d + 2 + bndAll ds ≤ (ds.length + 1) * (B + 2)
      rw [Nat.add_mul]
      omega
theorem ShwA.tup {ds : List PyData} {m B : Nat} (h : ShwA ds m B) : ShwB (.tuple ds) (m + 1) (B + 3) := ⟨by simpa [PyData.showable] using h.s, by simpa [PyData.hasDict] using h.h, by simpa [PyData.canLay0] using h.l, by have := h.q; simp [PyData.depth]; omega, by have := h.b; show bndAll ds + 3 ≤ B + 3; omega⟩
theorem ShwA.lst {ds : List PyData} {m B : Nat} (h : ShwA ds m B) : ShwB (.list ds) (m + 1) (B + 3) := ⟨by simpa [PyData.showable] using h.s, by simpa [PyData.hasDict] using h.h, by simpa [PyData.canLay0] using h.l, by have := h.q; simp [PyData.depth]; omega, by have := h.b; show bndAll ds + 2 ≤ B + 3; omega⟩
theorem ShwB.shaped {d : PyData} {m B : Nat} (h : ShwB d m B) (a : m ≤ 64) : SeqAt.shaped d = true := by
  have l := h.l
  have e : d.depth ≤ 64 := Nat.le_trans h.q a
  simp [SeqAt.shaped, l, e]
theorem ShwB.refl {d : PyData} {m B : Nat} (h : ShwB d m B) : PyData.eqv d d = true := SeqAt.eqv_refl d h.l
theorem rep_shw {K : PySem.W.Frag} {H : Hp} {x : V} {d : PyData} {k : Str → Prop} {m B : Nat} (h : Dp K H x d) (s : ShwB d m B) (a : m ≤ 60) (b : B ≤ 16000000) (q : k d.shown) : RepV K H x k := rep_mk h s.s s.h (Nat.le_trans s.q a) (Nat.le_trans s.b b) q
theorem sub_nil {α : Type} {M : List α} : ∀ S ∈ ([] : List α), S ∈ M := fun S h => (List.not_mem_nil h).elim
theorem sub_cons {α : Type} {R : α} {L M : List α} (h : R ∈ M) (t : ∀ S ∈ L, S ∈ M) : ∀ S ∈ R :: L, S ∈ M := fun S m => by
  rcases List.mem_cons.mp m with rfl | m
  · exact h
  · exact t S m
theorem room65 {k : Nat} {A : Around} (r : Room (k + 1) A) : A.units + 65 < cLine := by have := r.un; omega
end OW
set_option Elab.async false
set_option linter.all false
set_option maxRecDepth 100000
set_option maxHeartbeats 2000000
namespace OW
open PySem PySem.Spec PyProof.Rows L2 RZ SkE CL
def rIsG (neg : Bool) : R2 := fun x y H Q => match y with
  | .non => Q (.bl (if neg then !decide (x = .non) else decide (x = .non))) H
  | .bl b => match x with
    | .bl a => Q (.bl (if neg then !decide (a = b) else decide (a = b))) H
    | _ => False
  | _ => False
theorem c_isnotG {X : Cx} : OpR X (compareOp .IsNot) (rIsG true) := by
  intro pins s σ H x y v u Q I rx ry h
  unfold rIsG at h
  split at h
  · exact op_notN pins s σ H _ _ v u Q I rx ry ⟨rfl, h⟩
  · split at h
    · exact op_notBl pins s σ H _ _ v u Q I rx ry ⟨_, _, rfl, rfl, h⟩
    · exact h.elim
  · exact h.elim
end OW
set_option Elab.async false
set_option linter.all false
set_option maxRecDepth 100000
set_option maxHeartbeats 2000000
namespace OW
open PySem PySem.Spec PyProof.Rows L2 RZ SkE CL
structure UnU (K : PySem.W.Frag) (H : Hp) (a : Addr) (n : Nat) (k : List V → Prop) : Prop where
  ex : ∃ xs, SqL K H a xs ∧ xs.length = n ∧ k xs
def cGUnl (K : PySem.W.Frag) (n : Nat) (t : TGs) : TG := fun v σ H Q => match v with
  | .ref a => UnU K H a n fun xs => t xs σ H Q
  | _ => False
section
variable {X : Cx} {pos : Pos}
theorem g_unl {es : List Expr} {k : Nat} {t : TGs} {n : Nat} (hc : X.calm = true) (h : PGs X es t)
    (hn : (assignEach es X.env).length = n := by rfl) (hst : (assignEach es X.env).findIdx? (·.1) = none := by rfl) : PG X (.Tuple es k pos) (cGUnl X.K n t) := weakG (pg_unl hc h hn hst) fun v σ H Q q => by
  unfold cGUnl at q
  split at q
  · obtain ⟨⟨xs, h1, h2, h3⟩⟩ := q
    exact ⟨_, xs, rfl, h1, h2, h3⟩
  · exact q.elim
end
theorem unu_o {K : PySem.W.Frag} {H : Hp} {L R : List Ck} {I : List (Hp → Prop)} {a : Addr} {xs : List V} {n : Nat} {k : List V → Prop} (h : Own H L I) (e : Pull L (.pt a (.lst xs)) R) (l : xs.length = n) (q : k xs) : UnU K H a n k := ⟨xs, SqL.of (h.get e), l, q⟩
end OW
set_option Elab.async false
set_option linter.all false
set_option maxRecDepth 100000
set_option maxHeartbeats 4000000
namespace OW
open PySem PySem.Spec PyProof.Rows L2 RZ SkE CL
/-- the __init__ of a class of errors with one field -/
def spXI (C : Addr) (f : Str) : Sp := fun vs H Q _ => ∃ (a : Addr) (v : V), vs = [.ref a, v] ∧ H a = some (exo a C none) ∧ ∀ d, H d = none → d ≠ a → Q .non (upd (upd H d (exd d [(f, v)])) a (exo a C (some d)))
/-- raise C(v) -/
structure RaiseR (C : Addr) (f : Str) (v : V) (W : WX) (σ : L2.St) (H : Hp) : Prop where
  ex : ∀ d, H d = none → W (.ref C) (some d) σ (upd H d (.xd [(f, v)]))
def cRaise1 (C : Addr) (f : Str) (W : WX) (ta : TA) : TS := fun _ σ H => ta σ H fun vs H1 => match vs with
  | [v] => RaiseR C f v W σ H1
  | _ => False
/-- what is asked for less -/
def upA (ta : TA) : TA := fun σ H Q => ∃ Q1, ta σ H Q1 ∧ ∀ vs H1, Q1 vs H1 → Q vs H1
theorem pa_up {X : Cx} {es : List Expr} {ta : TA} (ha : PA X es ta) : PA X es (upA ta) := ⟨fun pos pins s σ H Q I ⟨Q1, h, w⟩ => thn (ha.run pos pins s σ H Q1 I h) fun us s1 ⟨vs, H1, I1, r, q⟩ => ⟨vs, H1, I1, r, w _ _ q⟩⟩
section
variable {X : Cx} {C fI : Addr} {f x : Str} {e : Expr} {ta : TA} {W : WX} {p pos pos2 : Pos} {CX : CXT} {k : Nat} {fd : FuncData} {ps : List Str}
theorem s_raise1 (hc : X.calm = true) (tk : Takes X W) (T : OexC X.K C) (iC : PySem.W.findIn X.K (.ref C) "__init__" = some (some (.ref fI))) (tI : PySem.W.typeIn X.K (.ref fI) = some (.type "function"))
    (F1 : FnOk X.prog X.w X.K X.mg X.base CX k fI fd ps (spXI C f)) (hr : Room (k + 1) X.A) (hb : Binds X.K fd ps []) (hx : Passes CX X (fun _ _ _ => False)) (hg : Gl X x) (hm : X.mg x = some (.ref C)) (ha : PA X [e] ta)
    (hdb : (x == ("__debug__" : Str)) = false := by decide) (he : starEach [e] X.env = (false, eval e X.env) :: starEach [] X.env := by rfl) (hpl : (backTo pos (starEach [] X.env)).any (·.1) = false := by rfl) :
    PS X (.Raise (some (.Call (.Name x p) [e] [] pos)) none pos2) (cRaise1 C f W ta) := by
  refine ⟨fun pins s σ H D I h => (ps_raise (W := W) (pos := pos2) hc tk (pmk_oex (p := p) T iC tI F1 hr hb .nil hx hg hm (pa_up ha) hdb he hpl)).run pins s σ H D I ?_⟩
  refine ⟨_, h, fun vs H1 h => ?_⟩
  split at h
  · rename_i v
    refine ⟨by show 1 ≤ 1000; decide, fun a ha => ⟨a, v, rfl, upd_same, fun d hd hda => ⟨rfl, d, [(f, v)], upd_same, ?_, ?_, ?_⟩⟩⟩
    · rw [upd_ne hda, upd_same]
    · rw [upd_ne hda] at hd
      exact hd
    · have hd1 : H1 d = none := by rw [upd_ne hda] at hd; exact hd
      have e : upd (del (upd (upd (upd H1 a (exo a C none)) d (exd d [(f, v)])) a (exo a C (some d))) a) d (.xd [(f, v)]) = upd H1 d (.xd [(f, v)]) := by
        funext b
        by_cases hb : b = d
        · rw [hb, upd_same, upd_same]
        · rw [upd_ne hb, upd_ne hb]
          by_cases hb2 : b = a
          · rw [hb2, del_same, ha]
          · rw [del_ne hb2, upd_ne hb2, upd_ne hb, upd_ne hb2]
      rw [e]
      exact h.ex d hd1
  · exact h.elim
end
/-- the __init__ of such a class keeps its promise -/
theorem init_x {P : Program} {w : World} {K : PySem.W.Frag} {mg : Str → Option Value} {base : Heap} {x qual n f : Str} {st : Stmt} {fa : Addr} {fd : FuncData} {C : Addr} (F : Fun K x qual st fa fd) (S : FnScope ["self", n] ["self", n] (defScope st)) (T : OexC K C) (no : PySem.W.findIn K (.ref C) f = some none)
    (hbody : ∀ (cdv : Value) (A : Around) (outer : List Env) (s : Shared) (H : Hp) (E : XK), PSs (cxOf CX0 P w K mg base ["self", n] qual (defScope st) fa cdv A outer s H E).nox (defBody st) (tOst K f (tVar 0) (tVar 1))) : FnOk P w K mg base CX0 1 fa fd ["self", n] (spXI C f) := by
  refine F.ok S (fun vs H Q E h => ?_) (fun cdv A outer s H vs Q E hr h => ⟨_, hbody cdv A outer s H E, ?_⟩)
  · obtain ⟨a, v, rfl, _⟩ := h
    rfl
  · obtain ⟨a, v, rfl, ha, q⟩ := h
    exact ⟨_, rfl, _, rfl, a, C, rfl, T, no, .inl ⟨ha, fun d hd hda => q d hd hda⟩⟩
structure Wr (p : Prop) : Prop where
  q : p
def wr (W : WX) : WX := fun cls d σ H => Wr (W cls d σ H)
theorem catch_yes {K : PySem.W.Frag} {c cls : Value} {i : Nat} {ts : Addr → Value → Option Addr → TS} {Wout : WX} {D : Ends} {d : Option Addr} {σ : L2.St} {H : Hp} (e : PySem.W.exmOne K cls c = some true)
    (h : ∀ a, H a = none → ts a cls d { nx := fun σ' H' => D.nx (σ'.set i none) H', rt := D.rt, bk := fun σ' H' => D.bk (σ'.set i none) H', ct := fun σ' H' => D.ct (σ'.set i none) H' } (σ.set i (some (.ref a))) H) : Wr (wAs K c i ts Wout D cls d σ H) :=
  ⟨⟨true, e, fun _ => h, fun z => by cases z⟩⟩
theorem catch_no {K : PySem.W.Frag} {c cls : Value} {i : Nat} {ts : Addr → Value → Option Addr → TS} {Wout : WX} {D : Ends} {d : Option Addr} {σ : L2.St} {H : Hp} (e : PySem.W.exmOne K cls c = some false) (h : Wout cls d σ H) : Wr (wAs K c i ts Wout D cls d σ H) :=
  ⟨⟨false, e, fun z => by (cases z), fun _ => h⟩⟩
/-- e.f, e what was caught -/
structure XfG (x : V) (a : Addr) (cls : Value) (d : Option Addr) (C : Addr) (f : Str) (H : Hp) (Q : VK) : Prop where
  ex : x = .ref a ∧ cls = .ref C ∧ ∃ (dd : Addr) (fs : List (Str × V)) (v : V), d = some dd ∧ H dd = some (.xd fs) ∧ fs.lookup f = some v ∧ Q v H
def cXf (a : Addr) (cls : Value) (d : Option Addr) (C : Addr) (f : Str) (te : TE) : TE := fun σ H Q => te σ H fun x H1 => XfG x a cls d C f H1 Q
theorem e_xf {X : Cx} {a C : Addr} {oe : Obj} {cls : Value} {d : Option Addr} {pn : List (Addr × Obj)} {e : Expr} {te : TE} {pos : Pos} {n : Str} (T : XfC X.K C) (hno : PySem.W.findIn X.K (.ref C) n = some none)
    (hz : Zc cls d oe) (hf : ∃ vs, oe.data = .fields vs) (he : PE (X.suite a ((a, oe) :: pn)) e te) (hb : attributeBase e n X.env (eval e X.env) = eval e X.env := by rfl) :
    PE (X.suite a ((a, oe) :: pn)) (.Attribute e n pos) (cXf a cls d C n te) := by
  have e2 : cXf a cls d C n te = tXf a cls d C n te := by
    funext σ H Q
    show (te σ H fun x H1 => XfG x a cls d C n H1 Q) = _
    have e3 : (fun (x : V) (H1 : Hp) => XfG x a cls d C n H1 Q) = fun x H1 => x = .ref a ∧ cls = .ref C ∧ ∃ (dd : Addr) (fs : List (Str × V)) (v : V), d = some dd ∧ H1 dd = some (.xd fs) ∧ fs.lookup n = some v ∧ Q v H1 := by
      funext x H1
      exact propext ⟨fun h => h.ex, fun h => ⟨h⟩⟩
    rw [e3]
    rfl
  rw [e2]
  exact pe_xf T hno hz hf he hb
theorem xf_o {H : Hp} {L R : List Ck} {I : List (Hp → Prop)} {a C dd : Addr} {fs : List (Str × V)} {f : Str} {v : V} {Q : VK} (h : Own H L I) (p : Pull L (.pt dd (.xd fs)) R) (l : fs.lookup f = some v) (q : Q v H) : XfG (.ref a) a (.ref C) (some dd) C f H Q :=
  ⟨rfl, rfl, dd, fs, v, rfl, h.get p, l, q⟩
/-- isinstance(e, c), e what was caught -/
structure IsEG (K : PySem.W.Frag) (D a : Addr) (cls : Value) (d : Option Addr) (x c : V) (H : Hp) (Q : VK) : Prop where
  ex : ∃ (cv : Value) (b : Bool) (dd : Addr) (fs : List (Str × V)), x = .ref a ∧ cls = .ref D ∧ d = some dd ∧ H dd = some (.xd fs) ∧ (∀ u, RelV c u → u = cv) ∧ PySem.W.kitOne K (.ref D) cv = some b ∧ Q (.bl b) H
theorem isE_o {K : PySem.W.Frag} {H : Hp} {L R : List Ck} {I : List (Hp → Prop)} {a D c dd : Addr} {fs : List (Str × V)} {b : Bool} {Q : VK} (h : Own H L I) (p : Pull L (.pt dd (.xd fs)) R) (e : PySem.W.kitOne K (.ref D) (.ref c) = some b) (q : Q (.bl b) H) : IsEG K D a (.ref D) (some dd) (.ref a) (.ref c) H Q :=
  ⟨.ref c, b, dd, fs, rfl, rfl, rfl, h.get p, fun u r => r, e, q⟩
theorem raise_o {H : Hp} {L : List Ck} {I : List (Hp → Prop)} {C : Addr} {f : Str} {v : V} {W : WX} {σ : L2.St} (h : Own H L I) (q : ∀ d H', Own H' (.pt d (.xd [(f, v)]) :: L) I → W (.ref C) (some d) σ H') : RaiseR C f v W σ H := ⟨fun d hd => q d _ (h.new hd)⟩
end OW
set_option Elab.async false
set_option linter.all false
set_option maxRecDepth 100000
set_option maxHeartbeats 2000000
namespace OW
open PySem PySem.Spec PyProof.Rows L2 RZ SkE CL
mutual
inductive VO (l : List (Addr × HO)) : V → PyData → Prop
  | non : VO l .non .none
  | bl (b : Bool) : VO l (.bl b) (.bool b)
  | int (i : Int) : VO l (.int i) (.int i)
  | str (z : Str) : VO l (.str z) (.str z)
  | lst {a : Addr} {xs : List V} {ds : List PyData} (m : (a, HO.lst xs) ∈ l) (g : VOAll l xs ds) : VO l (.ref a) (.list ds)
  | tup {a : Addr} {xs : List V} {ds : List PyData} (m : (a, HO.tup xs) ∈ l) (g : VOAll l xs ds) : VO l (.ref a) (.tuple ds)
inductive VOAll (l : List (Addr × HO)) : List V → List PyData → Prop
  | nil : VOAll l [] []
  | cons {v : V} {vs : List V} {d : PyData} {ds : List PyData} (h : VO l v d) (g : VOAll l vs ds) : VOAll l (v :: vs) (d :: ds)
end
section
variable {l l' : List (Addr × HO)} {H : Hp} {K : PySem.W.Frag}
mutual
theorem VO.up (k : ∀ p ∈ l, p ∈ l') : ∀ (d : PyData) (v : V), VO l v d → VO l' v d
  | .none, _, h => by cases h; exact .non
  | .bool b, _, h => by cases h; exact .bl b
  | .int i, _, h => by cases h; exact .int i
  | .str z, _, h => by cases h; exact .str z
  | .list ds, _, h => by cases h with | lst m g => exact .lst (k _ m) (VOAll.up k ds _ g)
  | .tuple ds, _, h => by cases h with | tup m g => exact .tup (k _ m) (VOAll.up k ds _ g)
  | .dict es, _, h => by cases h
theorem VOAll.up (k : ∀ p ∈ l, p ∈ l') : ∀ (ds : List PyData) (vs : List V), VOAll l vs ds → VOAll l' vs ds
  | [], _, h => by cases h; exact .nil
  | d :: ds, _, h => by cases h with | cons h g => exact .cons (VO.up k d _ h) (VOAll.up k ds _ g)
end
theorem VO.any {d : PyData} {v : V} (k : ∀ p ∈ l, H p.1 = some p.2) (h : VO l v d) : AnyV H v := by
  cases h with
  | non => exact .non
  | bl b => exact .bl b
  | int i => exact .int i
  | str z => exact .str z
  | lst m g => exact .lst (k _ m)
  | tup m g => exact .tup (k _ m)
theorem VOAll.len : ∀ {vs : List V} {ds : List PyData}, VOAll l vs ds → vs.length = ds.length
  | _, _, .nil => rfl
  | _, _, .cons h g => by rw [List.length_cons, List.length_cons, g.len]
theorem VOAll.set {y : V} {e : PyData} (h : VO l y e) : ∀ {vs : List V} {ds : List PyData} {i : Nat}, VOAll l vs ds → VOAll l (vs.set i y) (ds.set i e)
  | _, _, i, .nil => .nil
  | _, _, 0, .cons _ g => .cons h g
  | _, _, i + 1, .cons h2 g => .cons h2 (g.set (i := i) h)
end
@[irreducible] def bagR (l : List (Addr × HO)) : Ck := .ab fun l' => l' = l
section
variable {l l2 : List (Addr × HO)} {H : Hp} {L R M : List Ck} {I : List (Hp → Prop)} {a : Addr} {o : HO}
theorem bag_open (h : Own H (bagR l :: R) I) : Own H (l.map (fun x => Ck.pt x.1 x.2) ++ R) I := by
  unfold bagR at h
  obtain ⟨l', rfl, w⟩ := h.open_
  exact w
theorem bag_close (h : Own H (l.map (fun x => Ck.pt x.1 x.2) ++ R) I) : Own H (bagR l :: R) I := by
  unfold bagR
  exact Own.close (l := l) rfl h
theorem pull_of_mem {α : Type} {c : α} : ∀ {L : List α}, c ∈ L → ∃ R, Pull L c R
  | x :: L, m => by
    rcases List.mem_cons.mp m with rfl | m
    · exact ⟨_, .head⟩
    · obtain ⟨R, e⟩ := pull_of_mem m
      exact ⟨_, .tail e⟩
theorem bag_at (h : Own H L I) (e : Pull L (bagR l) R) : ∀ p ∈ l, H p.1 = some p.2 := fun p m => by
  have w := bag_open (h.pull e)
  obtain ⟨R2, e2⟩ := pull_of_mem (c := Ck.pt p.1 p.2) (L := l.map (fun x => Ck.pt x.1 x.2) ++ R) (List.mem_append_left _ (List.mem_map.mpr ⟨p, m, rfl⟩))
  exact w.get e2
theorem bag_nil (h : Own H L I) : Own H (bagR [] :: L) I := bag_close h
theorem bag_new (h : Own H (.pt a o :: bagR l :: R) I) : Own H (bagR ((a, o) :: l) :: R) I := by
  have w : Own H (bagR l :: .pt a o :: R) I := h.perm (List.Perm.swap _ _ _)
  have w2 := bag_open w
  refine bag_close ?_
  exact w2.perm List.perm_middle
end
/-- values that stay readable as long as something is owned -/
def Rdb (L : List Ck) (I : List (Hp → Prop)) (x : V) : Prop := ∀ R H', Own H' (R ++ L) I → AnyV H' x
end OW
set_option Elab.async false
set_option linter.all false
set_option maxRecDepth 100000
set_option maxHeartbeats 2000000
namespace PySem
open Sem (wp)
end PySem
namespace L2
open PySem PySem.Spec PyProof.Rows
end L2
namespace OW
open PySem PySem.Spec PyProof.Rows L2 RZ SkE CL
end OW
set_option Elab.async false
set_option linter.all false
set_option maxRecDepth 100000
set_option maxHeartbeats 2000000
namespace OW
open PySem PySem.Spec PyProof.Rows L2 RZ SkE CL
/-- whether a value is a list or a tuple -/
inductive SeqB (K : PySem.W.Frag) (H : Hp) : V → Bool → Prop
  | non : SeqB K H .non false
  | bl (b : Bool) : SeqB K H (.bl b) false
  | int (i : Int) : SeqB K H (.int i) false
  | str (z : Str) : SeqB K H (.str z) false
  | lst {a : Addr} {xs : List V} (e : H a = some (.lst xs)) : SeqB K H (.ref a) true
  | tup {a : Addr} {xs : List V} (e : H a = some (.tup xs)) : SeqB K H (.ref a) true
  | oth {x : V} {t : Value} {b : Bool} (ty : TyX K H x t) (k : PySem.W.kitAny K t [.type "list", .type "tuple"] = some b) : SeqB K H x b
def seqD : PyData → Bool
  | .list _ => true
  | .tuple _ => true
  | _ => false
theorem VO.seq {K : PySem.W.Frag} {l : List (Addr × HO)} {H : Hp} {d : PyData} {v : V} (k : ∀ p ∈ l, H p.1 = some p.2) (h : VO l v d) : SeqB K H v (seqD d) := by
  cases h with
  | non => exact .non
  | bl b => exact .bl b
  | int i => exact .int i
  | str z => exact .str z
  | lst m g => exact .lst (k _ m)
  | tup m g => exact .tup (k _ m)
end OW
set_option Elab.async false
set_option linter.all false
set_option maxRecDepth 100000
set_option maxHeartbeats 2000000
namespace L2
open PySem PySem.Spec PyProof.Rows SeqAt
end L2
namespace OW
open PySem PySem.Spec PyProof.Rows L2 RZ SkE CL
end OW
set_option Elab.async false
set_option linter.all false
set_option maxRecDepth 100000
set_option maxHeartbeats 2000000
namespace OW
open PySem PySem.Spec PyProof.Rows L2 RZ SkE CL
structure LenD (H : Hp) (a : Addr) (k : Nat → Prop) : Prop where
  ex : ∃ kvs : List (Key × V), H a = some (.dK kvs) ∧ k kvs.length
structure RepL (H : Hp) (a : Addr) (n : Int) (Q : VK) : Prop where
  ex : ∃ xs, H a = some (.lst xs) ∧ (-(2 ^ 63) ≤ n ∧ n < 2 ^ 63 ∧ xs.length * n.toNat ≤ sizeLine) ∧ New H (.lst (List.replicate n.toNat xs).flatten) fun p H' => Q (.ref p) H'
structure FldInc (K : PySem.W.Frag) (H : Hp) (a : Addr) (f : Str) (c : Int) (k : Hp → Prop) : Prop where
  ex : ∃ C dx fs i, H a = some (.ins C dx fs) ∧ Cls K C ∧ NoAttr K C f ∧ fs.lookup f = some (.int i) ∧ fs.length < 1000 ∧ k (upd H a (.ins C dx (putF f (.int (i + c)) fs)))
structure ItD (H : Hp) (d : Addr) (T : Addr → Obj → List (Key × V) → It) (R : It → Hp → Prop) : Prop where
  ex : ∃ o kvs, H d = some (.frz o (.dK kvs)) ∧ R (T d o kvs) H
section
variable {g : TG} {tb : TS} {D : Ends} {σ : L2.St} {H : Hp} {d p : Addr} {o : Obj} {kvs : List (Key × V)} {tt : TT} {te : TE} {vs : List Nat} {Qd : Hp → Prop} {L R : List Ck} {I : List (Hp → Prop)}
theorem itd_o {T : Addr → Obj → List (Key × V) → It} {P : It → Hp → Prop} (h : Own H L I) (e : Pull L (.pt d (.frz o (.dK kvs))) R) (q : P (T d o kvs) H) : ItD H d T P := ⟨o, kvs, h.get e, q⟩
end
def ddN (ns : List Int) : Nat := (PyProof.Rows.firstMet (fun i => ns.getD i 0) ns.length).length
structure LenSet (K : PySem.W.Frag) (H : Hp) (a : Addr) (k : Nat → Prop) : Prop where
  ex : ∃ ns : List Int, SqL K H a (ns.map V.int) ∧ ns.length ≤ 4000 ∧ k (ddN ns)
theorem lenset_o {K : PySem.W.Frag} {H : Hp} {L R : List Ck} {I : List (Hp → Prop)} {a : Addr} {ns : List Int} {k : Nat → Prop} (h : Own H L I) (e : Pull L (.pt a (.lst (ns.map V.int))) R) (l : ns.length ≤ 4000) (q : k (ddN ns)) : LenSet K H a k := ⟨ns, SqL.of (h.get e), l, q⟩
theorem lend_o {H : Hp} {L R : List Ck} {I : List (Hp → Prop)} {a : Addr} {kvs : List (Key × V)} {k : Nat → Prop} (h : Own H L I) (e : Pull L (.pt a (.dK kvs)) R) (q : k kvs.length) : LenD H a k := ⟨kvs, h.get e, q⟩
theorem repl_o {H : Hp} {L R : List Ck} {I : List (Hp → Prop)} {a : Addr} {xs : List V} {n : Int} {Q : VK} (h : Own H L I) (e : Pull L (.pt a (.lst xs)) R) (b : -(2 ^ 63) ≤ n ∧ n < 2 ^ 63 ∧ xs.length * n.toNat ≤ sizeLine) (q : ∀ p H', Own H' (.pt p (.lst (List.replicate n.toNat xs).flatten) :: L) I → Q (.ref p) H') : RepL H a n Q := ⟨xs, h.get e, b, new_o h q⟩
theorem fldinc_o {K : PySem.W.Frag} {H : Hp} {L R : List Ck} {I : List (Hp → Prop)} {a C dx : Addr} {fs : List (Str × V)} {f : Str} {i c : Int} {k : Hp → Prop} (h : Own H L I) (e : Pull L (.pt a (.ins C dx fs)) R) (hc : Cls K C) (n : NoAttr K C f) (l : fs.lookup f = some (.int i)) (s : fs.length < 1000) (m : doneF fs = false)
    (q : ∀ H', Own H' (.pt a (.ins C dx (putF f (.int (i + c)) fs)) :: R) I → k H') : FldInc K H a f c k := ⟨C, dx, fs, i, h.get e, hc, n, l, s, q _ (h.put e m)⟩
structure DPop (H : Hp) (a : Addr) (y : V) (Q : VK) : Prop where
  ex : ∃ kvs key v, H a = some (.dK kvs) ∧ y = kV key ∧ valV kvs key = some v ∧ Q v (upd H a (.dK (dropK kvs key)))
structure IsDk (H : Hp) (a : Addr) (k : Prop) : Prop where
  ex : (∃ kvs : List (Key × V), H a = some (.dK kvs)) ∧ k
theorem dpop_i {H : Hp} {L R : List Ck} {I : List (Hp → Prop)} {a : Addr} {kvs : List (Key × V)} {i : Int} {v : V} {Q : VK} (h : Own H L I) (e : Pull L (.pt a (.dK kvs)) R) (l : valV kvs (.inl i) = some v) (q : ∀ H', Own H' (.pt a (.dK (dropK kvs (.inl i))) :: R) I → Q v H') : DPop H a (.int i) Q := ⟨kvs, .inl i, v, h.get e, rfl, l, q _ (h.put e rfl)⟩
theorem isdk_o {H : Hp} {L R : List Ck} {I : List (Hp → Prop)} {a : Addr} {kvs : List (Key × V)} {k : Prop} (h : Own H L I) (e : Pull L (.pt a (.dK kvs)) R) (q : k) : IsDk H a k := ⟨⟨kvs, h.get e⟩, q⟩
structure RemI (H : Hp) (a : Addr) (k : Int) (Q : VK) : Prop where
  ex : ∃ ns : List Int, H a = some (.lst (ns.map V.int)) ∧ k ∈ ns ∧ Q .non (upd H a (.lst ((ns.erase k).map V.int)))
structure CntI (K : PySem.W.Frag) (H : Hp) (a : Addr) (k : Int) (Q : Nat → Prop) : Prop where
  ex : ∃ ns : List Int, SqL K H a (ns.map V.int) ∧ Q (ns.count k)
theorem remi_o {H : Hp} {L R : List Ck} {I : List (Hp → Prop)} {a : Addr} {ns : List Int} {k : Int} {Q : VK} (h : Own H L I) (e : Pull L (.pt a (.lst (ns.map V.int))) R) (m : k ∈ ns) (q : ∀ H', Own H' (.pt a (.lst ((ns.erase k).map V.int)) :: R) I → Q .non H') : RemI H a k Q := ⟨ns, h.get e, m, q _ (h.put e rfl)⟩
theorem cnti_o {K : PySem.W.Frag} {H : Hp} {L R : List Ck} {I : List (Hp → Prop)} {a : Addr} {ns : List Int} {k : Int} {Q : Nat → Prop} (h : Own H L I) (e : Pull L (.pt a (.lst (ns.map V.int))) R) (q : Q (ns.count k)) : CntI K H a k Q := ⟨ns, SqL.of (h.get e), q⟩
def TupH (H : Hp) (x : V) (ns : List Int) : Prop := ∃ t, x = .ref t ∧ H t = some (.tup (ns.map V.int))
theorem TupH.i {K : PySem.W.Frag} {H : Hp} {x : V} {ns : List Int} (h : TupH H x ns) : TupI K H x ns := let ⟨t, a, b⟩ := h; ⟨t, a, SqT.of b⟩
end OW
set_option Elab.async false
set_option linter.all false
set_option maxRecDepth 100000
set_option maxHeartbeats 2000000
namespace OW
open PySem PySem.Spec PyProof.Rows L2 RZ SkE CL
/-- the numbers of a rule -/
structure Ru where
  se : Int
  la : Int
  be : Int
  gr : Int
  lt : Int
abbrev Ru.l (r : Ru) : List Int := [r.se, r.la, r.be, r.gr, r.lt]
/-- how things stand: the moment; who uses which seat since which answer; what is kept; who is cut off -/
structure Hs where
  mo : Int
  us : List (Int × Int × Int)
  kp : List (Option (Int × Int))
  ct : List Int
def usesB (s : Hs) (u : Int) : Bool := (s.us.lookup u).isSome
def cutB (s : Hs) (u : Int) : Bool := decide (u ∈ s.ct)
def speakB (s : Hs) (u : Int) : Bool := usesB s u && !cutB s u
def putU (us : List (Int × Int × Int)) (u : Int) (v : Int × Int) : List (Int × Int × Int) := if (us.lookup u).isSome then us.map (fun p => if p.1 = u then (p.1, v) else p) else us ++ [(u, v)]
def delU (us : List (Int × Int × Int)) (u : Int) : List (Int × Int × Int) := us.filter fun p => decide (p.1 ≠ u)
def ansH (s : Hs) (u : Int) (i : Nat) : Hs := { s with us := putU s.us u (i, s.mo), kp := s.kp.set i (some (u, s.mo)) }
def outK (la mo : Int) : Option (Int × Int) → Bool
  | none => false
  | some p => decide (mo - p.2 = la)
def takenK (s : Hs) (la mo : Int) : Option (Int × Int) → Bool
  | none => false
  | some p => decide (mo - p.2 = la) && speakB s p.1
inductive Wd
  | borrow | word | back | crash | stop | cut | join
  deriving DecidableEq
def Wd.s : Wd → Str
  | .borrow => "borrow"
  | .word => "word"
  | .back => "back"
  | .crash => "crash"
  | .stop => "stop"
  | .cut => "cut"
  | .join => "join"
inductive Ev
  | pass
  | on (w : Wd) (u : Int)
/-- whether a deed of a user is possible -/
def canU (r : Ru) (s : Hs) : Wd → Int → Bool
  | .borrow, u => !usesB s u && !cutB s u
  | .word, u => speakB s u
  | .back, u => speakB s u
  | .crash, u => usesB s u
  | .stop, u => match s.us.lookup u with
    | none => false
    | some p => decide (r.gr ≤ s.mo - p.2)
  | .cut, u => !cutB s u
  | .join, u => cutB s u
def passOk (r : Ru) (s : Hs) (p : Int × Int × Int) : Bool := !decide (r.gr + r.lt ≤ s.mo - p.2.2) && !(decide (r.be + r.lt ≤ s.mo - p.2.2) && !cutB s p.1)
def canH (r : Ru) (s : Hs) : Ev → Bool
  | .pass => s.us.all (passOk r s)
  | .on w u => canU r s w u
def leaveH (s : Hs) (u : Int) : Hs := { s with us := delU s.us u }
def passK (la mo : Int) (h : Option (Int × Int)) : Option (Int × Int) := if outK la mo h then none else h
def doPass (r : Ru) (s : Hs) : Hs × List Str :=
  ({ s with mo := s.mo + 1, kp := s.kp.map (passK r.la (s.mo + 1)) }, if s.kp.any (takenK s r.la (s.mo + 1)) then ["taken"] else [])
/-- a dict of users -/
inductive UsR (l : List (Addr × HO)) : List (Key × V) → List (Int × Int × Int) → Prop
  | nil : UsR l [] []
  | cons {u i t : Int} {a : Addr} {kvs : List (Key × V)} {us : List (Int × Int × Int)} (m : (a, HO.tup [.int i, .int t]) ∈ l) (g : UsR l kvs us) : UsR l ((.inl u, .ref a) :: kvs) ((u, i, t) :: us)
section
variable {l l' : List (Addr × HO)} {kvs : List (Key × V)} {us : List (Int × Int × Int)}
theorem UsR.up (k : ∀ p ∈ l, p ∈ l') (h : UsR l kvs us) : UsR l' kvs us := by
  induction h with
  | nil => exact .nil
  | cons m g ih => exact .cons (k _ m) ih
theorem UsR.len (h : UsR l kvs us) : kvs.length = us.length := by
  induction h with
  | nil => rfl
  | cons m g ih => rw [List.length_cons, List.length_cons, ih]
theorem lookup_pos {u v : Int} {x : Int × Int} (e : v = u) : List.lookup u ((v, x) :: us) = some x := by subst e; exact List.lookup_cons_self
theorem lookup_neg {u v : Int} {x : Int × Int} (e : v ≠ u) : List.lookup u ((v, x) :: us) = List.lookup u us := by
  rw [List.lookup_cons, beq_false_of_ne (Ne.symm e)]
theorem UsR.noneU {u : Int} (h : UsR l kvs us) (e : us.lookup u = none) : valV kvs (.inl u) = none := by
  induction h with
  | nil => rfl
  | @cons v i t a kvs us m g ih =>
    by_cases z : v = u
    · rw [lookup_pos z] at e; cases e
    · rw [lookup_neg z] at e
      rw [valV_neg (p := ((Sum.inl v : Key), V.ref a)) (fun q => z (Sum.inl.inj q))]
      exact ih e
theorem UsR.someU {u : Int} {x : Int × Int} (h : UsR l kvs us) (e : us.lookup u = some x) : ∃ a, valV kvs (.inl u) = some (.ref a) ∧ (a, HO.tup [.int x.1, .int x.2]) ∈ l := by
  induction h with
  | nil => cases e
  | @cons v i t a kvs us m g ih =>
    by_cases z : v = u
    · rw [lookup_pos z] at e
      cases e
      exact ⟨a, valV_pos (p := ((Sum.inl v : Key), V.ref a)) (congrArg Sum.inl z), m⟩
    · rw [lookup_neg z] at e
      obtain ⟨b, h1, h2⟩ := ih e
      exact ⟨b, by rw [valV_neg (p := ((Sum.inl v : Key), V.ref a)) (fun q => z (Sum.inl.inj q))]; exact h1, h2⟩
theorem UsR.isSomeU {u : Int} (h : UsR l kvs us) : (valV kvs (.inl u)).isSome = (us.lookup u).isSome := by
  cases e : us.lookup u with
  | none => rw [h.noneU e]; rfl
  | some x => obtain ⟨a, h1, _⟩ := h.someU e; rw [h1]; rfl
theorem UsR.snoc {u i t : Int} {a : Addr} (m : (a, HO.tup [.int i, .int t]) ∈ l) (h : UsR l kvs us) : UsR l (kvs ++ [(.inl u, .ref a)]) (us ++ [(u, i, t)]) := by
  induction h with
  | nil => exact .cons m .nil
  | cons m2 g ih => exact .cons m2 ih
theorem UsR.mapU {u i t : Int} {a : Addr} (m : (a, HO.tup [.int i, .int t]) ∈ l) (h : UsR l kvs us) : UsR l (kvs.map fun kv => if kv.1 = .inl u then (kv.1, .ref a) else kv) (us.map fun p => if p.1 = u then (p.1, i, t) else p) := by
  induction h with
  | nil => exact .nil
  | @cons v j w b kvs us m2 g ih =>
    rw [List.map_cons, List.map_cons]
    by_cases z : v = u
    · rw [if_pos (congrArg Sum.inl z), if_pos z]
      exact .cons m ih
    · rw [if_neg fun q => z (Sum.inl.inj q), if_neg z]
      exact .cons m2 ih
theorem UsR.put {u i t : Int} {a : Addr} (m : (a, HO.tup [.int i, .int t]) ∈ l) (h : UsR l kvs us) : UsR l (putK kvs (.inl u) (.ref a)) (putU us u (i, t)) := by
  unfold putK putU
  rw [valV_any, h.isSomeU]
  by_cases e : (us.lookup u).isSome = true
  · rw [if_pos e, if_pos e]
    have := h.mapU (u := u) m
    refine cast ?_ this
    congr 1
  · rw [if_neg e, if_neg e]
    exact h.snoc m
theorem UsR.drop {u : Int} (h : UsR l kvs us) : UsR l (dropK kvs (.inl u)) (delU us u) := by
  unfold dropK delU
  induction h with
  | nil => exact .nil
  | @cons v j w b kvs us m2 g ih =>
    by_cases z : v = u
    · rw [List.filter_cons_of_neg (by simp [z]), List.filter_cons_of_neg (by simp [z])]
      exact ih
    · rw [List.filter_cons_of_pos (by simp [z]), List.filter_cons_of_pos (by simp [z])]
      exact .cons m2 ih
theorem UsR.at {i : Nat} {k : Key} {v : V} (h : UsR l kvs us) (e : kvs[i]? = some (k, v)) : ∃ u j t a, k = .inl u ∧ v = .ref a ∧ us[i]? = some (u, j, t) ∧ (a, HO.tup [.int j, .int t]) ∈ l := by
  induction h generalizing i with
  | nil => cases e
  | @cons u j t a kvs us m g ih =>
    cases i with
    | zero => cases e; exact ⟨u, j, t, a, rfl, rfl, rfl, m⟩
    | succ i => exact ih e
end
/-- each user once -/
def NdU (us : List (Int × Int × Int)) : Prop := (us.map (·.1)).Nodup
theorem lookup_none {us : List (Int × Int × Int)} {u : Int} (e : us.lookup u = none) : u ∉ us.map (·.1) := by
  induction us with
  | nil => exact List.not_mem_nil
  | cons p us ih =>
    by_cases z : p.1 = u
    · rw [show p = (p.1, p.2) from rfl, lookup_pos z] at e
      cases e
    · rw [show p = (p.1, p.2) from rfl, lookup_neg z] at e
      intro m
      rcases List.mem_cons.mp m with q | q
      · exact z q.symm
      · exact ih e q
theorem NdU.put {us : List (Int × Int × Int)} (u : Int) (v : Int × Int) (h : NdU us) : NdU (putU us u v) := by
  unfold putU
  by_cases e : (us.lookup u).isSome = true
  · rw [if_pos e]
    unfold NdU
    rw [List.map_map]
    have : (Prod.fst ∘ fun p : Int × Int × Int => if p.1 = u then (p.1, v) else p) = Prod.fst := by
      funext p
      show (if p.1 = u then (p.1, v) else p).1 = p.1
      split <;> rfl
    rw [this]
    exact h
  · rw [if_neg e]
    have e : us.lookup u = none := by
      cases q : us.lookup u with
      | none => rfl
      | some x => rw [q] at e; exact absurd rfl e
    unfold NdU
    rw [List.map_append]
    refine List.nodup_append.mpr ⟨h, by simp, fun a ha b hb => ?_⟩
    have hb : b = u := by simpa using hb
    rintro rfl
    exact lookup_none e (hb ▸ ha)
theorem NdU.nil : NdU [] := List.nodup_nil
/-- what is kept for a seat -/
inductive KpV (l : List (Addr × HO)) : V → Option (Int × Int) → Prop
  | non : KpV l .non none
  | tup {a : Addr} {u t : Int} (m : (a, HO.tup [.int u, .int t]) ∈ l) : KpV l (.ref a) (some (u, t))
inductive KpR (l : List (Addr × HO)) : List V → List (Option (Int × Int)) → Prop
  | nil : KpR l [] []
  | cons {v : V} {h : Option (Int × Int)} {vs : List V} {hs : List (Option (Int × Int))} (a : KpV l v h) (g : KpR l vs hs) : KpR l (v :: vs) (h :: hs)
/-- what was met -/
inductive MtR (l : List (Addr × HO)) : List V → List (Int × Str) → Prop
  | nil : MtR l [] []
  | cons {a : Addr} {i : Int} {z : Str} {vs : List V} {ms : List (Int × Str)} (m : (a, HO.tup [.int i, .str z]) ∈ l) (g : MtR l vs ms) : MtR l (.ref a :: vs) ((i, z) :: ms)
section
variable {l l' : List (Addr × HO)} {vs ws : List V} {hs : List (Option (Int × Int))} {ms ns : List (Int × Str)}
theorem KpV.up {v : V} {h : Option (Int × Int)} (k : ∀ p ∈ l, p ∈ l') (a : KpV l v h) : KpV l' v h := by
  cases a with
  | non => exact .non
  | tup m => exact .tup (k _ m)
theorem KpR.up (k : ∀ p ∈ l, p ∈ l') (h : KpR l vs hs) : KpR l' vs hs := by
  induction h with
  | nil => exact .nil
  | cons a g ih => exact .cons (a.up k) ih
theorem KpR.len (h : KpR l vs hs) : vs.length = hs.length := by
  induction h with
  | nil => rfl
  | cons a g ih => rw [List.length_cons, List.length_cons, ih]
theorem KpR.set {i : Nat} {v : V} {x : Option (Int × Int)} (a : KpV l v x) (h : KpR l vs hs) : KpR l (vs.set i v) (hs.set i x) := by
  induction h generalizing i with
  | nil => exact .nil
  | cons b g ih =>
    cases i with
    | zero => exact .cons a g
    | succ i => exact .cons b ih
theorem MtR.up (k : ∀ p ∈ l, p ∈ l') (h : MtR l vs ms) : MtR l' vs ms := by
  induction h with
  | nil => exact .nil
  | cons m g ih => exact .cons (k _ m) ih
theorem MtR.len (h : MtR l vs ms) : vs.length = ms.length := by
  induction h with
  | nil => rfl
  | cons a g ih => rw [List.length_cons, List.length_cons, ih]
theorem MtR.app (h : MtR l vs ms) (g : MtR l ws ns) : MtR l (vs ++ ws) (ms ++ ns) := by
  induction h with
  | nil => exact g
  | cons m _ ih => exact .cons m ih
end
/-- the fields of a house -/
def hf (rr pu pk pc pm : Addr) (mo pe ev : Int) : List (Str × V) := [("rule", .ref rr), ("moment", .int mo), ("using", .ref pu), ("kept", .ref pk), ("cut", .ref pc), ("met", .ref pm), ("peak", .int pe), ("many_events", .int ev)]
/-- not more than so many -/
structure Few (s : Hs) (n m : Nat) : Prop where
  us : s.us.length ≤ n
  ct : s.ct.length ≤ n
  kp : s.kp.length = m
theorem Few.up {s : Hs} {n k m : Nat} (h : Few s n m) (e : n ≤ k) : Few s k m := ⟨Nat.le_trans h.us e, Nat.le_trans h.ct e, h.kp⟩
abbrev stayI (K : PySem.W.Frag) (t : Addr) (xs : List V) : Hp → Prop := fun H => H t = some (.tup xs) ∨ ∀ H', SqT K H' t xs
theorem stay_sq {K : PySem.W.Frag} {t : Addr} {xs : List V} {H : Hp} {L : List Ck} {I : List (Hp → Prop)} (w : Own H L I) (m : stayI K t xs ∈ I) : SqT K H t xs := (w.imp m).elim (fun e => SqT.of e) fun e => e H
/-- users that events speak of -/
def evU : Ev → Prop
  | .pass => True
  | .on _ u => 0 ≤ u ∧ u < 1000
structure KeysL (H : Hp) (d : Addr) (Q : VK) : Prop where
  ex : ∃ kvs : List (Key × V), H d = some (.dK kvs) ∧ New H (.lst (kvs.map fun kv => kV kv.1)) fun p H' => Q (.ref p) H'
theorem keysl_o {H : Hp} {L R : List Ck} {I : List (Hp → Prop)} {d : Addr} {kvs : List (Key × V)} {Q : VK} (h : Own H L I) (e : Pull L (.pt d (.dK kvs)) R) (q : ∀ p H', Own H' (.pt p (.lst (kvs.map fun kv => kV kv.1)) :: L) I → Q (.ref p) H') : KeysL H d Q := ⟨kvs, h.get e, new_o h q⟩
end OW
set_option Elab.async false
set_option linter.all false
set_option maxRecDepth 100000
set_option maxHeartbeats 2000000
namespace OW
open PySem PySem.Spec PyProof.Rows L2 RZ SkE CL
end OW
set_option Elab.async false
set_option linter.all false
set_option maxRecDepth 100000
set_option maxHeartbeats 2000000
namespace OW
open PySem PySem.Spec PyProof.Rows L2 RZ SkE CL
theorem wipe_cons (σ : L2.St) (i : Nat) (vs : List Nat) : L2.wipe σ (i :: vs) = (L2.wipe σ vs).set i none := rfl
theorem wipe_out {σ : L2.St} {v : Option V} {i : Nat} : ∀ {vs : List Nat}, i ∉ vs → L2.wipe (σ.set i v) vs = (L2.wipe σ vs).set i v
  | [], _ => rfl
  | j :: vs, h => by
    have ne : i ≠ j := fun e => h (by rw [e]; exact List.mem_cons_self)
    rw [wipe_cons, wipe_cons, wipe_out (fun m => h (List.mem_cons_of_mem _ m))]
    exact List.set_comm _ _ ne
theorem wipe_setN {σ : L2.St} {v : Option V} {i : Nat} : ∀ {vs : List Nat}, i ∈ vs → L2.wipe (σ.set i v) vs = L2.wipe σ vs
  | [], h => (List.not_mem_nil h).elim
  | j :: vs, h => by
    rw [wipe_cons, wipe_cons]
    by_cases e : i ∈ vs
    · rw [wipe_setN e]
    · have : i = j := (List.mem_cons.mp h).resolve_right e
      subst this
      rw [wipe_out e, List.set_set]
theorem wipe_twice {σ : L2.St} : ∀ {vs : List Nat}, L2.wipe (L2.wipe σ vs) vs = L2.wipe σ vs
  | [] => rfl
  | j :: vs => by
    rw [wipe_cons, wipe_cons]
    by_cases e : j ∈ vs
    · rw [wipe_setN e, wipe_twice]
    · rw [wipe_out e, wipe_twice, List.set_set]
end OW
set_option Elab.async false
set_option linter.all false
set_option maxRecDepth 100000
set_option maxHeartbeats 2000000
namespace OW
open PySem PySem.Spec PyProof.Rows L2 RZ SkE CL
end OW
set_option Elab.async false
set_option linter.all false
set_option maxRecDepth 100000
set_option maxHeartbeats 2000000
namespace OW
open PySem PySem.Spec PyProof.Rows L2 RZ SkE CL
structure DictCp (H : Hp) (a : Addr) (Q : VK) : Prop where
  ex : ∃ kvs, H a = some (.dK kvs) ∧ New H (.dK kvs) fun p => Q (.ref p)
theorem dictcp_o {H : Hp} {L R : List Ck} {I : List (Hp → Prop)} {a : Addr} {kvs : List (Key × V)} {Q : VK} (h : Own H L I) (e : Pull L (.pt a (.dK kvs)) R) (q : ∀ p H', Own H' (.pt p (.dK kvs) :: L) I → Q (.ref p) H') : DictCp H a Q := ⟨⟨kvs, h.get e, new_o h q⟩⟩
end OW
set_option Elab.async false
set_option linter.all false
set_option maxRecDepth 100000
set_option maxHeartbeats 2000000
namespace OW
open PySem PySem.Spec PyProof.Rows L2 RZ SkE CL
/-- a dict of users -/
inductive StR (l : Addr → Int → Int → Prop) : List (Key × V) → List (Int × Int × Int) → Prop
  | nil : StR l [] []
  | cons {u i t : Int} {a : Addr} {kvs : List (Key × V)} {us : List (Int × Int × Int)} (m : l a i t) (g : StR l kvs us) : StR l ((.inl u, .ref a) :: kvs) ((u, i, t) :: us)
section
variable {l l' : Addr → Int → Int → Prop} {kvs : List (Key × V)} {us : List (Int × Int × Int)}
theorem StR.up (k : ∀ a i t, l a i t → l' a i t) (h : StR l kvs us) : StR l' kvs us := by
  induction h with
  | nil => exact .nil
  | cons m g ih => exact .cons (k _ _ _ m) ih
theorem StR.len (h : StR l kvs us) : kvs.length = us.length := by
  induction h with
  | nil => rfl
  | cons m g ih => rw [List.length_cons, List.length_cons, ih]
theorem StR.noneU {u : Int} (h : StR l kvs us) (e : us.lookup u = none) : valV kvs (.inl u) = none := by
  induction h with
  | nil => rfl
  | @cons v i t a kvs us m g ih =>
    by_cases z : v = u
    · rw [lookup_pos z] at e; cases e
    · rw [lookup_neg z] at e
      rw [valV_neg (p := ((Sum.inl v : Key), V.ref a)) (fun q => z (Sum.inl.inj q))]
      exact ih e
theorem StR.someU {u : Int} {x : Int × Int} (h : StR l kvs us) (e : us.lookup u = some x) : ∃ a, valV kvs (.inl u) = some (.ref a) ∧ l a x.1 x.2 := by
  induction h with
  | nil => cases e
  | @cons v i t a kvs us m g ih =>
    by_cases z : v = u
    · rw [lookup_pos z] at e
      cases e
      exact ⟨a, valV_pos (p := ((Sum.inl v : Key), V.ref a)) (congrArg Sum.inl z), m⟩
    · rw [lookup_neg z] at e
      obtain ⟨b, h1, h2⟩ := ih e
      exact ⟨b, by rw [valV_neg (p := ((Sum.inl v : Key), V.ref a)) (fun q => z (Sum.inl.inj q))]; exact h1, h2⟩
theorem StR.isSomeU {u : Int} (h : StR l kvs us) : (valV kvs (.inl u)).isSome = (us.lookup u).isSome := by
  cases e : us.lookup u with
  | none => rw [h.noneU e]; rfl
  | some x => obtain ⟨a, h1, _⟩ := h.someU e; rw [h1]; rfl
theorem StR.snoc {u i t : Int} {a : Addr} (m : l a i t) (h : StR l kvs us) : StR l (kvs ++ [(.inl u, .ref a)]) (us ++ [(u, i, t)]) := by
  induction h with
  | nil => exact .cons m .nil
  | cons m2 g ih => exact .cons m2 ih
theorem StR.mapU {u i t : Int} {a : Addr} (m : l a i t) (h : StR l kvs us) : StR l (kvs.map fun kv => if kv.1 = .inl u then (kv.1, .ref a) else kv) (us.map fun p => if p.1 = u then (p.1, i, t) else p) := by
  induction h with
  | nil => exact .nil
  | @cons v j w b kvs us m2 g ih =>
    rw [List.map_cons, List.map_cons]
    by_cases z : v = u
    · rw [if_pos (congrArg Sum.inl z), if_pos z]
      exact .cons m ih
    · rw [if_neg fun q => z (Sum.inl.inj q), if_neg z]
      exact .cons m2 ih
theorem StR.put {u i t : Int} {a : Addr} (m : l a i t) (h : StR l kvs us) : StR l (putK kvs (.inl u) (.ref a)) (putU us u (i, t)) := by
  unfold putK putU
  rw [valV_any, h.isSomeU]
  by_cases e : (us.lookup u).isSome = true
  · rw [if_pos e, if_pos e]
    have := h.mapU (u := u) m
    refine cast ?_ this
    congr 1
  · rw [if_neg e, if_neg e]
    exact h.snoc m
theorem StR.drop {u : Int} (h : StR l kvs us) : StR l (dropK kvs (.inl u)) (delU us u) := by
  unfold dropK delU
  induction h with
  | nil => exact .nil
  | @cons v j w b kvs us m2 g ih =>
    by_cases z : v = u
    · rw [List.filter_cons_of_neg (by simp [z]), List.filter_cons_of_neg (by simp [z])]
      exact ih
    · rw [List.filter_cons_of_pos (by simp [z]), List.filter_cons_of_pos (by simp [z])]
      exact .cons m2 ih
theorem StR.at {i : Nat} {k : Key} {v : V} (h : StR l kvs us) (e : kvs[i]? = some (k, v)) : ∃ u j t a, k = .inl u ∧ v = .ref a ∧ us[i]? = some (u, j, t) ∧ l a j t := by
  induction h generalizing i with
  | nil => cases e
  | @cons u j t a kvs us m g ih =>
    cases i with
    | zero => cases e; exact ⟨u, j, t, a, rfl, rfl, rfl, m⟩
    | succ i => exact ih e
end
/-- a place, or None -/
def natA : Option Nat → V
  | some i => .int i
  | none => .non
end OW
set_option Elab.async false
set_option linter.all false
set_option maxRecDepth 100000
set_option maxHeartbeats 2000000
namespace OW
open PySem PySem.Spec PyProof.Rows L2 RZ SkE CL
def putA {β : Type} (l : List (Int × β)) (u : Int) (b : β) : List (Int × β) := if (l.lookup u).isSome then l.map fun p => if p.1 = u then (p.1, b) else p else l ++ [(u, b)]
def dropA {β : Type} (l : List (Int × β)) (u : Int) : List (Int × β) := l.filter fun p => decide (p.1 ≠ u)
/-- the keys stand once -/
def NdA {β : Type} (l : List (Int × β)) : Prop := (l.map (·.1)).Nodup
theorem lkA_pos {β : Type} {v u : Int} {x : β} {l : List (Int × β)} (z : v = u) : ((v, x) :: l).lookup u = some x := by
  subst z
  rw [List.lookup_cons, show (v == v) = true from beq_self_eq_true v]
theorem lkA_neg {β : Type} {v u : Int} {x : β} {l : List (Int × β)} (z : ¬ v = u) : ((v, x) :: l).lookup u = l.lookup u := by
  rw [List.lookup_cons, show (u == v) = false from beq_false_of_ne (fun e => z e.symm)]
theorem lkA_mem {β : Type} {u : Int} {b : β} : ∀ {l : List (Int × β)}, l.lookup u = some b → (u, b) ∈ l
  | [], h => by cases h
  | (v, x) :: l, h => by
    by_cases z : v = u
    · rw [lkA_pos z] at h
      cases h
      rw [z]
      exact List.mem_cons_self
    · rw [lkA_neg z] at h
      exact List.mem_cons_of_mem _ (lkA_mem h)
theorem lkA_none {β : Type} {u : Int} : ∀ {l : List (Int × β)}, l.lookup u = none → u ∉ l.map (·.1)
  | [], _ => fun m => (List.not_mem_nil m).elim
  | (v, x) :: l, h => by
    by_cases z : v = u
    · rw [lkA_pos z] at h; cases h
    · rw [lkA_neg z] at h
      intro m
      rcases List.mem_cons.mp m with e | m
      · exact z e.symm
      · exact lkA_none h m
theorem lkA_out {β : Type} {u : Int} {l : List (Int × β)} (h : u ∉ l.map (·.1)) : l.lookup u = none := by
  cases e : l.lookup u with
  | none => rfl
  | some b => exact (h (List.mem_map.mpr ⟨_, lkA_mem e, rfl⟩)).elim
theorem lkA_nd {β : Type} {u : Int} {b : β} {l : List (Int × β)} (n : NdA l) (m : (u, b) ∈ l) : l.lookup u = some b := by
  induction l with
  | nil => exact (List.not_mem_nil m).elim
  | cons p l ih =>
    obtain ⟨v, x⟩ := p
    have nd := List.nodup_cons.mp (show (v :: l.map (·.1)).Nodup from n)
    rcases List.mem_cons.mp m with e | m
    · cases e; exact lkA_pos rfl
    · rw [lkA_neg (fun z => nd.1 (List.mem_map.mpr ⟨_, m, z.symm⟩))]
      exact ih nd.2 m
theorem keysA_map {β : Type} (l : List (Int × β)) (u : Int) (b : β) : (l.map fun p => if p.1 = u then (p.1, b) else p).map (·.1) = l.map (·.1) := by
  rw [List.map_map]
  refine List.map_congr_left fun p _ => ?_
  show (if p.1 = u then (p.1, b) else p).1 = p.1
  split <;> rfl
theorem NdA.put {β : Type} {l : List (Int × β)} {u : Int} {b : β} (n : NdA l) : NdA (putA l u b) := by
  unfold putA NdA
  cases e : l.lookup u with
  | some x =>
    rw [show (some x).isSome = true from rfl, if_pos rfl, keysA_map]
    exact n
  | none =>
    rw [show (none : Option β).isSome = false from rfl, if_neg (by decide), List.map_append]
    refine List.nodup_append.mpr ⟨n, List.nodup_cons.mpr ⟨fun m => (List.not_mem_nil m).elim, List.nodup_nil⟩, fun x hx y hy => ?_⟩
    rcases List.mem_cons.mp hy with rfl | hy
    · exact fun z => lkA_none e (z ▸ hx)
    · exact (List.not_mem_nil hy).elim
theorem NdA.filter {β : Type} {l : List (Int × β)} (q : Int × β → Bool) (n : NdA l) : NdA (l.filter q) := List.Pairwise.sublist (List.Sublist.map _ List.filter_sublist) n
theorem NdA.drop {β : Type} {l : List (Int × β)} {u : Int} (n : NdA l) : NdA (dropA l u) := n.filter _
theorem lkA_put {β : Type} (l : List (Int × β)) (u v : Int) (b : β) : (putA l u b).lookup v = if u = v then some b else l.lookup v := by
  have app : ∀ m : List (Int × β), m.lookup u = none → (m ++ [(u, b)]).lookup v = if u = v then some b else m.lookup v := by
    intro m
    induction m with
    | nil =>
      intro _
      by_cases z : u = v
      · rw [if_pos z]; exact lkA_pos z
      · rw [if_neg z]; exact lkA_neg z
    | cons p m ih =>
      obtain ⟨w, x⟩ := p
      intro h
      by_cases z : w = u
      · rw [lkA_pos z] at h; cases h
      · rw [lkA_neg z] at h
        by_cases y : w = v
        · rw [if_neg (fun e => z (y.trans e.symm)), List.cons_append, lkA_pos y, lkA_pos y]
        · rw [List.cons_append, lkA_neg y, lkA_neg y]
          exact ih h
  unfold putA
  cases e : l.lookup u with
  | none =>
    rw [show (none : Option β).isSome = false from rfl, if_neg (by decide)]
    exact app l e
  | some y =>
    rw [show (some y).isSome = true from rfl, if_pos rfl]
    have go : ∀ m : List (Int × β), (m.lookup u).isSome = true → (m.map fun p => if p.1 = u then (p.1, b) else p).lookup v = if u = v then some b else m.lookup v := by
      intro m
      induction m with
      | nil => intro h; cases h
      | cons p m ih =>
        obtain ⟨w, x⟩ := p
        intro h
        rw [List.map_cons]
        by_cases z : w = u
        · rw [show (if (w, x).1 = u then ((w, x).1, b) else (w, x)) = (w, b) from if_pos z]
          by_cases y : w = v
          · rw [lkA_pos y, if_pos (z.symm.trans y)]
          · rw [lkA_neg y, lkA_neg y, if_neg (fun e => y (z.trans e))]
            clear ih h
            induction m with
            | nil => rfl
            | cons q m ih =>
              obtain ⟨w2, x2⟩ := q
              rw [List.map_cons]
              by_cases z2 : w2 = u
              · rw [show (if (w2, x2).1 = u then ((w2, x2).1, b) else (w2, x2)) = (w2, b) from if_pos z2, lkA_neg (fun e => y (z.trans (z2.symm.trans e))), lkA_neg (fun e => y (z.trans (z2.symm.trans e)))]
                exact ih
              · rw [show (if (w2, x2).1 = u then ((w2, x2).1, b) else (w2, x2)) = (w2, x2) from if_neg z2]
                by_cases y2 : w2 = v
                · rw [lkA_pos y2, lkA_pos y2]
                · rw [lkA_neg y2, lkA_neg y2]
                  exact ih
        · rw [show (if (w, x).1 = u then ((w, x).1, b) else (w, x)) = (w, x) from if_neg z]
          rw [lkA_neg z] at h
          by_cases y : w = v
          · rw [lkA_pos y, lkA_pos y, if_neg (fun e => z (y.trans e.symm))]
          · rw [lkA_neg y, lkA_neg y]
            exact ih h
    exact go l (by rw [e]; rfl)
/-- a dict in the heap that holds these -/
inductive KvR {β : Type} (r : V → β → Prop) : List (Key × V) → List (Int × β) → Prop
  | nil : KvR r [] []
  | cons {u : Int} {b : β} {v : V} {kvs : List (Key × V)} {l : List (Int × β)} (m : r v b) (g : KvR r kvs l) : KvR r ((.inl u, v) :: kvs) ((u, b) :: l)
section
variable {β : Type} {r r' : V → β → Prop} {kvs : List (Key × V)} {l : List (Int × β)}
theorem KvR.up (k : ∀ a t, r a t → r' a t) (h : KvR r kvs l) : KvR r' kvs l := by
  induction h with
  | nil => exact .nil
  | cons m g ih => exact .cons (k _ _ m) ih
theorem KvR.len (h : KvR r kvs l) : kvs.length = l.length := by
  induction h with
  | nil => rfl
  | cons m g ih => rw [List.length_cons, List.length_cons, ih]
theorem KvR.noneU {u : Int} (h : KvR r kvs l) (e : l.lookup u = none) : valV kvs (.inl u) = none := by
  induction h with
  | nil => rfl
  | @cons v b x kvs l m g ih =>
    by_cases z : v = u
    · rw [lkA_pos z] at e; cases e
    · rw [lkA_neg z] at e
      rw [valV_neg (p := ((Sum.inl v : Key), x)) (fun q => z (Sum.inl.inj q))]
      exact ih e
theorem KvR.someU {u : Int} {b : β} (h : KvR r kvs l) (e : l.lookup u = some b) : ∃ v, valV kvs (.inl u) = some v ∧ r v b := by
  induction h with
  | nil => cases e
  | @cons v b x kvs l m g ih =>
    by_cases z : v = u
    · rw [lkA_pos z] at e
      cases e
      exact ⟨x, valV_pos (p := ((Sum.inl v : Key), x)) (congrArg Sum.inl z), m⟩
    · rw [lkA_neg z] at e
      obtain ⟨b, h1, h2⟩ := ih e
      exact ⟨b, by rw [valV_neg (p := ((Sum.inl v : Key), x)) (fun q => z (Sum.inl.inj q))]; exact h1, h2⟩
theorem KvR.isSomeU {u : Int} (h : KvR r kvs l) : (valV kvs (.inl u)).isSome = (l.lookup u).isSome := by
  cases e : l.lookup u with
  | none => rw [h.noneU e]; rfl
  | some x => obtain ⟨a, h1, _⟩ := h.someU e; rw [h1]; rfl
theorem KvR.snoc {u : Int} {b : β} {v : V} (m : r v b) (h : KvR r kvs l) : KvR r (kvs ++ [(.inl u, v)]) (l ++ [(u, b)]) := by
  induction h with
  | nil => exact .cons m .nil
  | cons m2 g ih => exact .cons m2 ih
theorem KvR.mapU {u : Int} {b : β} {v : V} (m : r v b) (h : KvR r kvs l) : KvR r (kvs.map fun kv => if kv.1 = .inl u then (kv.1, v) else kv) (l.map fun p => if p.1 = u then (p.1, b) else p) := by
  induction h with
  | nil => exact .nil
  | @cons w c x kvs l m2 g ih =>
    rw [List.map_cons, List.map_cons]
    by_cases z : w = u
    · rw [if_pos (congrArg Sum.inl z), if_pos z]
      exact .cons m ih
    · rw [if_neg fun q => z (Sum.inl.inj q), if_neg z]
      exact .cons m2 ih
theorem KvR.put {u : Int} {b : β} {v : V} (m : r v b) (h : KvR r kvs l) : KvR r (putK kvs (.inl u) v) (putA l u b) := by
  unfold putK putA
  rw [valV_any, h.isSomeU]
  by_cases e : (l.lookup u).isSome = true
  · rw [if_pos e, if_pos e]
    have := h.mapU (u := u) m
    refine cast ?_ this
    congr 1
  · rw [if_neg e, if_neg e]
    exact h.snoc m
theorem KvR.drop {u : Int} (h : KvR r kvs l) : KvR r (dropK kvs (.inl u)) (dropA l u) := by
  unfold dropK dropA
  induction h with
  | nil => exact .nil
  | @cons v b x kvs l m2 g ih =>
    by_cases z : v = u
    · rw [List.filter_cons_of_neg (by simp [z]), List.filter_cons_of_neg (by simp [z])]
      exact ih
    · rw [List.filter_cons_of_pos (by simp [z]), List.filter_cons_of_pos (by simp [z])]
      exact .cons m2 ih
theorem KvR.at {i : Nat} {k : Key} {v : V} (h : KvR r kvs l) (e : kvs[i]? = some (k, v)) : ∃ u b, k = .inl u ∧ l[i]? = some (u, b) ∧ r v b := by
  induction h generalizing i with
  | nil => cases e
  | @cons u b x kvs l m g ih =>
    cases i with
    | zero => cases e; exact ⟨u, b, rfl, rfl, m⟩
    | succ i => exact ih e
end
end OW
set_option Elab.async false
set_option linter.all false
set_option maxRecDepth 100000
set_option maxHeartbeats 2000000
namespace OW
open PySem PySem.Spec PyProof.Rows L2 RZ SkE CL
def SeqA (K : PySem.W.Frag) (k : Bool) (L : List Ck) (I : List (Hp → Prop)) (w : Addr) (xs : List V) : Prop := match k with
  | true => ∃ R, Pull L (.pt w (.lst xs)) R
  | false => stayI K w xs ∈ I
section
variable {K : PySem.W.Frag} {g : TG} {tb : TS} {D : Ends} {σ : L2.St} {H : Hp} {L M R : List Ck} {I J : List (Hp → Prop)} {a b p w : Addr} {xs ys : List V} {tt : TT} {te tk tv : TE} {vs : List Nat} {k : Bool} {c : Ck}
theorem SeqA.tail (h : SeqA K k L I w xs) : SeqA K k (c :: L) I w xs := match k, h with
  | true, ⟨R, h⟩ => ⟨_, .tail h⟩
  | false, h => h
theorem SeqA.sub (h : SeqA K k L I w xs) (s : ∀ S ∈ I, S ∈ J) : SeqA K k L J w xs := match k, h with
  | true, h => h
  | false, h => s _ h
theorem SeqA.l (h : Own H L I) (e : SeqA K true L I w xs) : SqL K H w xs := let ⟨_, e⟩ := e; SqL.of (h.get e)
theorem SeqA.t (h : Own H L I) (e : SeqA K false L I w xs) : SqT K H w xs := stay_sq h e
theorem SeqA.any (h : Own H L I) (e : SeqA K k L I w xs) {P : Prop} (q1 : SqL K H w xs → P) (q2 : SqT K H w xs → P) : P := match k, e with
  | true, e => q1 (SeqA.l h e)
  | false, e => q2 (SeqA.t h e)
end
/-- data, as a list or a tuple -/
structure DArg (K : PySem.W.Frag) (L : List Ck) (I : List (Hp → Prop)) (a : Addr) (ds : List PyData) : Prop where
  ex : ∃ k xs, SeqA K k L I a xs ∧ idsI xs ds ∈ I
section
variable {K : PySem.W.Frag} {H : Hp} {L R : List Ck} {I J : List (Hp → Prop)} {a : Addr} {xs : List V} {ds : List PyData} {c : Ck}
theorem DArg.lst (e : Pull L (.pt a (.lst xs)) R) (m : idsI xs ds ∈ I) : DArg K L I a ds := ⟨true, xs, ⟨_, e⟩, m⟩
theorem DArg.tup (e : stayI K a xs ∈ I) (m : idsI xs ds ∈ I) : DArg K L I a ds := ⟨false, xs, e, m⟩
theorem DArg.tail (h : DArg K L I a ds) : DArg K (c :: L) I a ds := let ⟨⟨k, xs, s, m⟩⟩ := h; ⟨k, xs, s.tail, m⟩
theorem DArg.sub (h : DArg K L I a ds) (s : ∀ S ∈ I, S ∈ J) : DArg K L J a ds := let ⟨⟨k, xs, z, m⟩⟩ := h; ⟨k, xs, z.sub s, s _ m⟩
end
end OW
set_option Elab.async false
set_option linter.all false
set_option maxRecDepth 100000
set_option maxHeartbeats 2000000
namespace OW
open PySem PySem.Spec PyProof.Rows L2 RZ SkE CL
structure En where
  t : Int
  w : Str
  u : Int
def stillL (la mo : Int) (k : List (Int × Int)) : List (Int × Int) := k.filter fun p => decide (mo - p.2 < la)
def grantL (r : Ru) (k : List (Int × Int)) (e : En) : Bool := if e.w = "borrow" then (k.lookup e.u).isSome || decide ((k.length : Int) < r.se) else match k.lookup e.u with
  | none => false
  | some t => decide (e.t - t ≤ r.gr + r.lt)
def nextL (k : List (Int × Int)) (e : En) : List (Int × Int) := if e.w = "back" then dropA k e.u else putA k e.u e.t
def stepL (r : Ru) (k : List (Int × Int)) (e : En) : List (Int × Int) := nextL (stillL r.la e.t k) e
def misL (r : Ru) : List (Int × Int) → List En → Nat → Option Nat
  | _, [], _ => none
  | k, e :: es, i => if grantL r (stillL r.la e.t k) e then misL r (stepL r k e) es (i + 1) else some i
def logL (r : Ru) (k : List (Int × Int)) (es : List En) : List (Int × Int) := es.foldl (stepL r) k
theorem NdA.next {k : List (Int × Int)} {e : En} (n : NdA k) : NdA (nextL k e) := by
  unfold nextL
  split
  · exact n.drop
  · exact n.put
end OW
set_option Elab.async false
set_option linter.all false
set_option maxRecDepth 100000
set_option maxHeartbeats 2000000
namespace OW
open PySem PySem.Spec PyProof.Rows L2 RZ SkE CL
end OW
set_option Elab.async false
set_option linter.all false
set_option maxRecDepth 100000
set_option maxHeartbeats 2000000
namespace OW
open PySem PySem.Spec PyProof.Rows L2 RZ SkE CL
structure DGet2 (H : Hp) (a : Addr) (y z : V) (Q : VK) : Prop where
  ex : ∃ o, DGet H a y o ∧ Q (o.getD z) H
section
variable {H : Hp} {L R : List Ck} {I : List (Hp → Prop)} {a : Addr} {kvs : List (Key × V)} {i : Int} {z : V} {Q : VK}
theorem dget2_i (h : Own H L I) (e : Pull L (.pt a (.dK kvs)) R) (q : Q ((valV kvs (.inl i)).getD z) H) : DGet2 H a (.int i) z Q := ⟨_, DGet.k (k := .inl i) (h.get e), q⟩
end
theorem lkA_drop {β : Type} (l : List (Int × β)) (u v : Int) : (dropA l u).lookup v = if u = v then none else l.lookup v := by
  unfold dropA
  induction l with
  | nil => split <;> rfl
  | cons p l ih =>
    obtain ⟨w, x⟩ := p
    by_cases z : w = u
    · rw [List.filter_cons_of_neg (by simp [z]), ih]
      by_cases y : u = v
      · rw [if_pos y, if_pos y]
      · rw [if_neg y, if_neg y, lkA_neg (fun e => y (z.symm.trans e))]
    · rw [List.filter_cons_of_pos (by simp [z])]
      by_cases y : w = v
      · rw [lkA_pos y, lkA_pos y, if_neg (fun e => z (y.trans e.symm))]
      · rw [lkA_neg y, lkA_neg y, ih]
theorem lkA_filter {β : Type} {q : Int × β → Bool} {l : List (Int × β)} (n : NdA l) (u : Int) : (l.filter q).lookup u = match l.lookup u with
    | some b => if q (u, b) then some b else none
    | none => none := by
  cases e : l.lookup u with
  | none =>
    refine lkA_out fun m => ?_
    obtain ⟨x, hx, hu⟩ := List.mem_map.mp m
    exact lkA_none e (List.mem_map.mpr ⟨x, (List.mem_filter.mp hx).1, hu⟩)
  | some b =>
    show _ = if q (u, b) then some b else none
    cases hq : q (u, b) with
    | true =>
      rw [if_pos rfl]
      exact lkA_nd (n.filter q) (List.mem_filter.mpr ⟨lkA_mem e, hq⟩)
    | false =>
      rw [if_neg (by decide)]
      refine lkA_out fun m => ?_
      obtain ⟨⟨w, x⟩, hx, hu⟩ := List.mem_map.mp m
      obtain rfl : w = u := hu
      have hx := List.mem_filter.mp hx
      have := lkA_nd n hx.1
      rw [e] at this
      cases this
      rw [hq] at hx
      cases hx.2
end OW
set_option Elab.async false
set_option linter.all false
set_option maxRecDepth 100000
set_option maxHeartbeats 2000000
namespace OW
open PySem PySem.Spec PyProof.Rows L2 RZ SkE CL
section
variable {β : Type} {k l : List (Int × β)} {u : Int} {b : β}
theorem NdA.perm (n : NdA k) (p : l.Perm k) : NdA l := (p.map (fun x : Int × β => x.1)).nodup_iff.mpr n
end
/-- a log that fits, so far -/
def FitsL (r : Ru) (es : List En) : Prop := misL r [] es 0 = none
theorem misL_split {r : Ru} : ∀ (as bs : List En) (k : List (Int × Int)) (j : Nat), misL r k (as ++ bs) j = match misL r k as j with
    | some i => some i
    | none => misL r (logL r k as) bs (j + as.length)
  | [], bs, k, j => rfl
  | a :: as, bs, k, j => by
    rw [List.cons_append, misL, misL]
    cases g : grantL r (stillL r.la a.t k) a with
    | false => rw [if_neg (by decide)]; rfl
    | true =>
      rw [if_pos rfl, if_pos rfl, misL_split as bs _ _, List.length_cons, show j + 1 + as.length = j + (as.length + 1) by omega]
      rfl
theorem FitsL.take {r : Ru} {es : List En} (h : FitsL r es) (i : Nat) : FitsL r (es.take i) := by
  unfold FitsL at h ⊢
  have := misL_split (r := r) (es.take i) (es.drop i) [] 0
  rw [List.take_append_drop, h] at this
  cases e : misL r [] (es.take i) 0 with
  | none => rfl
  | some j => rw [e] at this; cases this
end OW
set_option Elab.async false
set_option linter.all false
set_option maxRecDepth 100000
set_option maxHeartbeats 2000000
namespace OW
open PySem PySem.Spec PyProof.Rows L2 RZ SkE CL
def cM0 (r : Str → Hp → VK → Prop) (to : TE) : TE := fun σ H Q => to σ H (onS fun a H1 => r a H1 Q)
theorem e_m0 {X : Cx} {id : String} {name : Str} {apos pos : Pos} {o : Expr} {to : TE} {r : Str → Hp → VK → Prop} (slot : Slot "str" name id) (ty : typeOf (.builtin id) = pure (.type "method_descriptor"))
    (rule : L2.MtR X id (fun x xs H Q => ∃ a, x = .str a ∧ xs = [] ∧ True ∧ r a H Q)) (ho : PE X o to)
    (hbase : attributeBase o name X.env (eval o X.env) = eval o X.env := by rfl) (hline : (apos.endLine == pos.line) = true := by rfl) :
    PE X (.Call (.Attribute o name apos) [] [] pos) (cM0 r to) := by
  have e2 : cM0 r to = tM0 (fun x xs H Q => ∃ a, x = .str a ∧ xs = [] ∧ True ∧ r a H Q) to := by
    funext σ H Q
    unfold cM0 tM0
    congr 1
    funext x H1
    cases x with
    | str a => exact propext ⟨fun h => ⟨⟨a, rfl⟩, a, rfl, rfl, trivial, h⟩, fun ⟨_, a', h1, _, _, h⟩ => by cases h1; exact h⟩
    | _ => exact propext ⟨fun h => h.elim, fun ⟨⟨a, h⟩, _⟩ => by cases h⟩
  rw [e2]
  exact pe_m0 slot ty rule ho hbase hline
def rIsDig : Str → Hp → VK → Prop := fun a H Q => Q (.bl (Txt.isdigit a)) H
def rIsAsc : Str → Hp → VK → Prop := fun a H Q => Q (.bl (Txt.isascii a)) H
section
variable {X : Cx} {apos pos : Pos} {o : Expr} {to : TE}
theorem e_isdig (ho : PE X o to) (hbase : attributeBase o "isdigit" X.env (eval o X.env) = eval o X.env := by rfl) (hline : (apos.endLine == pos.line) = true := by rfl) : PE X (.Call (.Attribute o "isdigit" apos) [] [] pos) (cM0 rIsDig to) := e_m0 F.slot_str_isdigit F.type_str_isdigit mt_isdigit ho hbase hline
theorem e_isasc (ho : PE X o to) (hbase : attributeBase o "isascii" X.env (eval o X.env) = eval o X.env := by rfl) (hline : (apos.endLine == pos.line) = true := by rfl) : PE X (.Call (.Attribute o "isascii" apos) [] [] pos) (cM0 rIsAsc to) := e_m0 F.slot_str_isascii F.type_str_isascii mt_isascii ho hbase hline
end
/-- whether a natural number is odd -/
def rOddC : R2 := fun x y H Q => match x, y with
  | .int i, .int j => Chk (0 ≤ i ∧ j = 1) (Q (.int (i % 2)) H)
  | _, _ => False
theorem c_odd {X : Cx} : OpR X (binaryOp .BitAnd) rOddC := by
  intro pins s σ H x y v u Q I rx ry h
  unfold rOddC at h
  split at h
  · obtain ⟨⟨h0, rfl⟩, h⟩ := h
    rename_i i _
    obtain ⟨n, rfl⟩ := Int.eq_ofNat_of_zero_le h0
    exact op_odd pins s σ H _ _ v u Q I rx ry ⟨n, rfl, rfl, h⟩
  · exact h.elim
def digS (s : Str) : Bool := decide (0 < s.length) && (TL.tl s).all fun c => decide (48 ≤ c) && decide (c ≤ 57)
def numS (s : Str) (d : Int) : Bool := decide ((s.length : Int) ≤ d) && (digS s && (decide (s = "0") || decide ((TL.tl s).head? ≠ some 48)))
theorem dig_asc : ∀ c : Nat, c < 128 → Unicode.isDigit c = (decide (48 ≤ c) && decide (c ≤ 57)) := by decide +kernel
theorem asc_dig (s : Str) : (Txt.isascii s && Txt.isdigit s) = digS s := by
  unfold Txt.isascii Txt.isdigit digS
  rw [← Array.all_toList, ← Array.all_toList]
  show ((TL.tl s).all (fun c => decide (c < 128)) && (decide (s.length > 0) && (TL.tl s).all Unicode.isDigit)) = _
  generalize TL.tl s = l
  have e : (l.all (fun c => decide (c < 128)) && l.all Unicode.isDigit) = l.all fun c => decide (48 ≤ c) && decide (c ≤ 57) := by
    induction l with
    | nil => rfl
    | cons c l ih =>
      rw [List.all_cons, List.all_cons, List.all_cons, ← ih]
      by_cases h : c < 128
      · rw [decide_eq_true h, dig_asc c h]
        cases (decide (48 ≤ c) && decide (c ≤ 57)) <;> cases (l.all fun c => decide (c < 128)) <;> cases (l.all Unicode.isDigit) <;> rfl
      · rw [decide_eq_false h, decide_eq_false (show ¬ c ≤ 57 by omega), Bool.and_false, Bool.false_and, Bool.false_and, Bool.false_and]
  show (l.all _ && (decide (0 < s.length) && l.all Unicode.isDigit)) = (decide (0 < s.length) && _)
  rw [← e]
  cases decide (0 < s.length) <;> cases (l.all fun c => decide (c < 128)) <;> cases (l.all Unicode.isDigit) <;> rfl
theorem numL_head : ∀ (k n : Nat), n ≤ k → 0 < n → (TL.numL n).head? ≠ some 48
  | 0, n, h, h0 => by omega
  | k + 1, n, h, h0 => by
    by_cases z : n < 10
    · rw [TL.numL_lt z]
      intro e
      have : 48 + n = 48 := Option.some.inj e
      omega
    · rw [TL.numL_step (by omega)]
      have ih := numL_head k (n / 10) (by omega) (by omega)
      have ne := TL.numL_ne (n / 10)
      cases e : TL.numL (n / 10) with
      | nil => exact (ne e).elim
      | cons c l => rw [e] at ih; exact ih
abbrev shN (n : Int) : Str := Str.ofString (toString n)
theorem tl_sh {n : Int} (h : 0 ≤ n) : TL.tl (shN n) = TL.numL n.toNat := by
  obtain ⟨k, rfl⟩ := Int.eq_ofNat_of_zero_le h
  exact TL.tl_num k
theorem sh_len {n : Int} {k : Nat} (h : 0 ≤ n) (hk : 0 < k) (h1 : n < 10 ^ k) : (shN n).length ≤ k := by
  rw [TL.len_tl, tl_sh h]
  refine TL.numL_len hk ?_
  have : ((n.toNat : Nat) : Int) < ((10 ^ k : Nat) : Int) := by
    rw [Int.toNat_of_nonneg h]
    exact Int.lt_of_lt_of_le h1 (by rw [Int.natCast_pow]; exact Int.le_refl _)
  exact Int.ofNat_lt.mp this
theorem sh_dig {n : Int} (h : 0 ≤ n) : digS (shN n) = true := by
  unfold digS
  rw [TL.len_tl, tl_sh h]
  have d := TL.numL_digits n.toNat
  have e := TL.numL_ne n.toNat
  refine Bool.and_eq_true_iff.mpr ⟨decide_eq_true (List.length_pos_iff.mpr e), List.all_eq_true.mpr fun c m => ?_⟩
  have := d c m
  exact Bool.and_eq_true_iff.mpr ⟨decide_eq_true this.1, decide_eq_true this.2⟩
theorem sh_num {n d : Int} {k : Nat} (h : 0 ≤ n) (hk : 0 < k) (h1 : n < 10 ^ k) (hd : d = k) : numS (shN n) d = true := by
  unfold numS
  refine Bool.and_eq_true_iff.mpr ⟨decide_eq_true ?_, Bool.and_eq_true_iff.mpr ⟨sh_dig h, ?_⟩⟩
  · have := sh_len h hk h1
    omega
  · by_cases z : n = 0
    · subst z
      rw [decide_eq_true (show shN 0 = "0" from rfl)]
      rfl
    · rw [tl_sh h, decide_eq_true (numL_head n.toNat n.toNat (Nat.le_refl _) (by omega)), Bool.or_true]
theorem sh_int {n : Int} {k : Nat} (h : 0 ≤ n) (hk : 0 < k) (h1 : n < 10 ^ k) (h2 : k ≤ 600) : intText? (shN n) = some n ∧ (shN n).length ≤ 640 := by
  have l := sh_len h hk h1
  refine ⟨?_, by omega⟩
  obtain ⟨m, rfl⟩ := Int.eq_ofNat_of_zero_le h
  refine TL.int_num ?_
  rw [TL.len_tl, tl_sh h] at l
  exact Nat.le_trans l (by omega)
structure MakeV (C : Addr) (v : Option (Option V)) (k : Prop) : Prop where
  e : v = some (some (.ref C))
  k : k
def cMakeV (i : Nat) (C : Addr) (sp : Sp) (dvs : List V) (E : XK) (t : TA) : TE := fun σ H Q => MakeV C σ[i]? (cMake C sp dvs E t σ H Q)
theorem e_makeV {X : Cx} {CX : CXT} {k i : Nat} {f C : Addr} {fd : FuncData} {ps : List Str} {sp : Sp} {dvs : List V} {ds : List Value} {E : XK} {x : Str} {p pos : Pos} {e : Expr} {es : List Expr} {t : TA} (M : Mk X.K C f) (F : FnOk X.prog X.w X.K X.mg X.base CX k f fd ps sp) (hr : Room (k + 1) X.A) (hN : X.N[i]? = some x) (hv : Vis X.env.scope x) (hb : Binds X.K fd ps ds) (hd : Vals dvs ds) (hx : Passes CX X E)
    (ha : PA X (e :: es) t) (hdb : (x == ("__debug__" : Str)) = false := by decide) (hcd : (x == ("__classdict__" : Str)) = false := by decide) (he : starEach (e :: es) X.env = (false, eval e X.env) :: starEach es X.env := by rfl) (hpl : (backTo pos (starEach es X.env)).any (·.1) = false := by rfl) :
    PE X (.Call (.Name x p) (e :: es) [] pos) (cMakeV i C sp dvs E t) := by
  refine ⟨fun pins s σ H Q I h => ?_⟩
  obtain ⟨hs, ht⟩ := h
  have e2 : cMake C sp dvs E t = tMake C sp dvs E t := by
    funext σ H Q
    unfold cMake tMake
    simp only [ask_eq]
  rw [e2] at ht
  refine wpAny_Call_Name_kw (thn ((pe_var (pos := p) hN hv hdb hcd).run pins s σ H (fun v H1 => v = .ref C ∧ H1 = H) I ⟨.ref C, hs, rfl, rfl⟩) fun u s1 ⟨v, H1, I1, r1, q1⟩ => ?_)
  obtain ⟨rfl, rfl⟩ := q1
  cases r1
  refine PySem.W.callWith_K (h₀ := X.base) I.ok.mod.kin M.kp (thn (ha.run pos pins s1 σ _ _ I1 ht) fun us s2 ⟨vs, H2, I2, r, q⟩ => ⟨I2.kIn, ?_⟩) he hpl
  exact run_make M F hr hb hd hx I2 r q
structure CMethR (C : Addr) (x : V) (k : Prop) : Prop where
  e : x = .ref C
  k : k
def cCMeth (C : Addr) (sp : Sp) (E : XK) (ta : TE) (t : TA) : TE := fun σ H Q => ta σ H fun x H1 => CMethR C x (t σ H1 fun vs H2 => Ask (sp (.ref C :: vs) H2 Q E))
theorem e_cmeth {X : Cx} {CX : CXT} {k : Nat} {C p g : Addr} {fd : FuncData} {ps : List Str} {mc : Value} {m : Str} {sp : Sp} {E : XK} {o e : Expr} {es : List Expr} {ta : TE} {t : TA} {apos pos : Pos} {pl : Sem Bool} (r : ClX.CRead X.K C mc) (c : ClX.CMet X.K C mc m p g) (F : FnOk X.prog X.w X.K X.mg X.base CX k g fd ps sp) (hb : Binds X.K fd ps []) (hr : Room k X.A) (hx : Passes CX X E) (he : PE X o ta) (ha : PA X (e :: es) t)
    (hst : starEach (e :: es) X.env = (false, eval e X.env) :: starEach es X.env := by rfl) (hpl : (backTo pos (starEach es X.env)).any (·.1) = false := by rfl)
    (ht : eval (.Call (.Attribute o m apos) (e :: es) [] pos) X.env = (do
      let ov ← eval o X.env
      standAt apos.atName
      let (f, first) ← holding [ov] (getMethod ov m pl)
      callWith pos f first (backTo pos (starEach (e :: es) X.env)) (backToKw pos (keywordEach [] X.env))) := by rfl) :
    PE X (.Call (.Attribute o m apos) (e :: es) [] pos) (cCMeth C sp E ta t) := by
  have e2 : cCMeth C sp E ta t = ClX.tCMeth C (fun vs H Q E => sp (vs ++ []) H Q E) E ta t := by
    funext σ H Q
    unfold cCMeth ClX.tCMeth
    have e3 : (fun (x : V) (H1 : Hp) => CMethR C x (t σ H1 fun vs H2 => Ask (sp (.ref C :: vs) H2 Q E))) = fun x H1 => x = .ref C ∧ t σ H1 fun vs H2 => sp ((.ref C :: vs) ++ []) H2 Q E := by
      funext x H1
      simp only [List.append_nil, ask_eq]
      exact propext ⟨fun h => ⟨h.e, h.k⟩, fun h => ⟨h.1, h.2⟩⟩
    rw [e3]
  rw [e2]
  exact ClX.pe_cmeth he r c (F.raw hb .nil) hr hx ha hst hpl ht
end OW
set_option Elab.async false
set_option linter.all false
set_option maxRecDepth 100000
set_option maxHeartbeats 2000000
namespace OW
open PySem PySem.Spec PyProof.Rows L2 RZ SkE CL
mutual
inductive IDk (K : PySem.W.Frag) (H : Hp) : V → PyData → Prop
  | non : IDk K H .non .none
  | bl (b : Bool) : IDk K H (.bl b) (.bool b)
  | int (i : Int) : IDk K H (.int i) (.int i)
  | str (x : Str) : IDk K H (.str x) (.str x)
  | tup {a : Addr} {xs : List V} {ds : List PyData} (h : H a = some (.tup xs) ∨ ∀ H', SqT K H' a xs) (g : IDkAll K H xs ds) : IDk K H (.ref a) (.tuple ds)
inductive IDkAll (K : PySem.W.Frag) (H : Hp) : List V → List PyData → Prop
  | nil : IDkAll K H [] []
  | cons {v : V} {vs : List V} {d : PyData} {ds : List PyData} (h : IDk K H v d) (g : IDkAll K H vs ds) : IDkAll K H (v :: vs) (d :: ds)
end
section
variable {K : PySem.W.Frag} {H H' : Hp}
mutual
theorem IDk.keep (k : Keep H H') : ∀ (d : PyData) (v : V), IDk K H v d → IDk K H' v d
  | .none, _, h => by cases h; exact .non
  | .bool b, _, h => by cases h; exact .bl b
  | .int i, _, h => by cases h; exact .int i
  | .str z, _, h => by cases h; exact .str z
  | .list ds, _, h => by cases h
  | .tuple ds, _, h => by cases h with | tup m g => exact .tup (m.elim (fun e => .inl (k _ _ e rfl)) .inr) (IDkAll.keep k ds _ g)
  | .dict es, _, h => by cases h
theorem IDkAll.keep (k : Keep H H') : ∀ (ds : List PyData) (vs : List V), IDkAll K H vs ds → IDkAll K H' vs ds
  | [], _, h => by cases h; exact .nil
  | d :: ds, _, h => by cases h with | cons h g => exact .cons (IDk.keep k d _ h) (IDkAll.keep k ds _ g)
end
theorem IDkAll.len : ∀ {vs : List V} {ds : List PyData}, IDkAll K H vs ds → vs.length = ds.length
  | _, _, .nil => rfl
  | _, _, .cons _ g => congrArg (· + 1) g.len
theorem IDkAll.append : ∀ {vs ws : List V} {ds es : List PyData}, IDkAll K H vs ds → IDkAll K H ws es → IDkAll K H (vs ++ ws) (ds ++ es)
  | _, _, _, _, .nil, h => h
  | _, _, _, _, .cons a g, h => .cons a (g.append h)
end
theorem sp_tl : TL.tl (" " : Str) = 32 :: [] := by decide +kernel
def evU2 : Ev → Prop
  | .pass => True
  | .on _ u => 0 ≤ u ∧ u < 100
theorem evU2.u : ∀ {e : Ev}, evU2 e → evU e
  | .pass, _ => trivial
  | .on _ _, h => ⟨h.1, Int.lt_of_lt_of_le h.2 (by decide)⟩
theorem spl_le (S : List Nat) : ∀ (l : List Nat) (k : Nat) (acc p : List Nat), p ∈ TL.spl S k acc l → p.length ≤ acc.length + l.length
  | [], k, acc, p, h => by
    rw [TL.spl_nil] at h
    rw [List.mem_singleton.mp h]
    exact Nat.le_add_right _ _
  | c :: r, k, acc, p, h => by
    cases k with
    | succ k =>
      have h : p ∈ TL.spl S k acc r := h
      have := spl_le S r k acc p h
      rw [List.length_cons]
      omega
    | zero =>
      cases hp : TL.pre S (c :: r) with
      | true =>
        rw [TL.spl_hit hp] at h
        rcases List.mem_cons.mp h with rfl | h
        · exact Nat.le_add_right _ _
        · have := spl_le S r _ [] p h
          rw [List.length_nil] at this
          rw [List.length_cons]
          omega
      | false =>
        rw [TL.spl_miss hp] at h
        have := spl_le S r 0 (acc ++ [c]) p h
        rw [List.length_append, List.length_singleton] at this
        rw [List.length_cons]
        omega
theorem split_le (x y : Str) (hy : TL.tl y ≠ []) (hk : y.cps.all (· < 256) = true) : ∀ s ∈ Txt.split x y, s.length ≤ x.length := by
  intro s m
  have h : TL.tl s ∈ (Txt.split x y).map TL.tl := List.mem_map.mpr ⟨s, m, rfl⟩
  rw [TL.split_spl x y hy (TL.kind_ok hk)] at h
  have := spl_le (TL.tl y) (TL.tl x) 0 [] _ h
  rw [TL.len_tl, TL.len_tl]
  rw [List.length_nil, Nat.zero_add] at this
  exact this
theorem split_leS (x : Str) : ∀ s ∈ Txt.split x " ", s.length ≤ x.length := split_le x " " (by rw [sp_tl]; simp) (by decide +kernel)
instance : DecidableEq Ev := fun a b => match a, b with
  | .pass, .pass => .isTrue rfl
  | .pass, .on _ _ => .isFalse Ev.noConfusion
  | .on _ _, .pass => .isFalse Ev.noConfusion
  | .on w u, .on x v => if h : w = x ∧ u = v then .isTrue (by rw [h.1, h.2]) else .isFalse fun e => h (by cases e; exact ⟨rfl, rfl⟩)
end OW
set_option Elab.async false
set_option linter.all false
set_option maxRecDepth 100000
set_option maxHeartbeats 2000000
namespace OW
open PySem PySem.Spec PyProof.Rows L2 RZ SkE CL
/-- how a house stands while its day is possible: each user has one kept seat at most, nobody is too old, and who uses has the moment of its seat -/
structure LgS (r : Ru) (s : Hs) : Prop where
  once : ∀ (i j : Nat) (u t t' : Int), s.kp[i]? = some (some (u, t)) → s.kp[j]? = some (some (u, t')) → i = j
  age : ∀ p ∈ s.us, s.mo - p.2.2 ≤ r.gr + r.lt
  same : ∀ p ∈ s.us, ∀ t, some (p.1, t) ∈ s.kp → t = p.2.2
  nd : NdA s.us
theorem mem_at {α : Type} {l : List α} {x : α} : x ∈ l ↔ ∃ j : Nat, l[j]? = some x := List.mem_iff_getElem?
theorem clr_mem {kp : List (Option (Int × Int))} {u : Int} {i : Nat} (hu : ∀ (j : Nat) (t : Int), kp[j]? = some (some (u, t)) → j = i) (hv : ∀ v t, kp[i]? = some (some (v, t)) → v = u) (v t : Int) :
    some (v, t) ∈ kp.set i none ↔ v ≠ u ∧ some (v, t) ∈ kp := by
  rw [mem_at, mem_at]
  constructor
  · rintro ⟨j, hj⟩
    rw [List.getElem?_set] at hj
    by_cases e : i = j
    · rw [if_pos e] at hj
      split at hj <;> cases hj
    · rw [if_neg e] at hj
      exact ⟨fun z => by subst z; exact e (hu j t hj).symm, j, hj⟩
  · rintro ⟨z, j, hj⟩
    refine ⟨j, ?_⟩
    rw [List.getElem?_set, if_neg (fun e => z (hv v t (by rw [e]; exact hj)))]
    exact hj
theorem put_mem {β : Type} {l : List (Int × β)} {u : Int} {b : β} {p : Int × β} (h : p ∈ putA l u b) : p = (u, b) ∨ (p ∈ l ∧ p.1 ≠ u) := by
  unfold putA at h
  split at h
  · obtain ⟨q, m, rfl⟩ := List.mem_map.mp h
    by_cases e : q.1 = u
    · rw [if_pos e, e]; exact .inl rfl
    · rw [if_neg e]; exact .inr ⟨m, e⟩
  · rename_i c
    rcases List.mem_append.mp h with m | m
    · refine .inr ⟨m, fun e => c ?_⟩
      subst e
      cases g : l.lookup p.1 with
      | some x => rfl
      | none => exact absurd (List.mem_map.mpr ⟨p, m, rfl⟩) (lkA_none g)
    · exact .inl (List.mem_singleton.mp m)
theorem LgS.pass {r : Ru} {s : Hs} (h : LgS r s) (ok : canH r s .pass = true) : LgS r (doPass r s).1 := by
  have sub : ∀ (j : Nat) (x : Int × Int), (s.kp.map (passK r.la (s.mo + 1)))[j]? = some (some x) → s.kp[j]? = some (some x) := fun j x hj => by
    rw [List.getElem?_map] at hj
    obtain ⟨y, hy, e⟩ := Option.map_eq_some_iff.mp hj
    unfold passK at e
    split at e
    · cases e
    · rw [hy, e]
  refine ⟨fun j k v t t' hj hk => h.once j k v t t' (sub j _ hj) (sub k _ hk), fun p m => ?_, fun p m t hm => ?_, h.nd⟩
  · have o := List.all_eq_true.mp ok p m
    unfold passOk at o
    have o := (Bool.and_eq_true _ _ |>.mp o).1
    have o : ¬ (r.gr + r.lt ≤ s.mo - p.2.2) := by simpa using o
    show s.mo + 1 - p.2.2 ≤ _
    omega
  · obtain ⟨j, hj⟩ := mem_at.mp hm
    exact h.same p m t (mem_at.mpr ⟨j, sub j _ hj⟩)
/-- what is kept by the log is what is kept -/
structure KpL (r : Ru) (k : List (Int × Int)) (s : Hs) : Prop where
  nd : NdA k
  mem : ∀ u t, (stillL r.la s.mo k).lookup u = some t ↔ some (u, t) ∈ s.kp
theorem still_nd {la mo : Int} {k : List (Int × Int)} (n : NdA k) : NdA (stillL la mo k) := n.filter _
theorem still_lk {la mo : Int} {k : List (Int × Int)} (n : NdA k) (u t : Int) : (stillL la mo k).lookup u = some t ↔ k.lookup u = some t ∧ mo - t < la := by
  unfold stillL
  rw [lkA_filter n]
  cases e : k.lookup u with
  | none => simp
  | some x =>
    show (if decide (mo - x < la) then some x else none) = some t ↔ _
    by_cases h : mo - x < la
    · rw [decide_eq_true h, if_pos rfl]
      constructor
      · intro q; cases q; exact ⟨rfl, h⟩
      · rintro ⟨q, _⟩; exact q
    · rw [decide_eq_false h, if_neg (by decide)]
      constructor
      · intro q; cases q
      · rintro ⟨q, z⟩; cases q; exact absurd z h
/-- a kept seat is not yet lost -/
theorem KpL.fresh {r : Ru} {k : List (Int × Int)} {s : Hs} (h : KpL r k s) {u t : Int} (m : some (u, t) ∈ s.kp) : s.mo - t < r.la := ((still_lk h.nd u t).mp ((h.mem u t).mpr m)).2
theorem KpL.same {r : Ru} {k : List (Int × Int)} {s s' : Hs} (h : KpL r k s) (a : s'.mo = s.mo) (b : s'.kp = s.kp) : KpL r k s' := ⟨h.nd, fun u t => by rw [a, b]; exact h.mem u t⟩
theorem KpL.pass {r : Ru} {k : List (Int × Int)} {s : Hs} (h : KpL r k s) : KpL r k (doPass r s).1 := by
  refine ⟨h.nd, fun u t => ?_⟩
  show (stillL r.la (s.mo + 1) k).lookup u = some t ↔ some (u, t) ∈ s.kp.map (passK r.la (s.mo + 1))
  rw [still_lk h.nd]
  constructor
  · rintro ⟨a, b⟩
    have m := (h.mem u t).mp ((still_lk h.nd u t).mpr ⟨a, by omega⟩)
    refine List.mem_map.mpr ⟨_, m, ?_⟩
    unfold passK outK
    rw [if_neg (by rw [decide_eq_true_eq]; show ¬ s.mo + 1 - t = r.la; omega)]
  · intro m
    obtain ⟨x, hx, e⟩ := List.mem_map.mp m
    unfold passK at e
    split at e
    · cases e
    · rename_i o
      subst e
      have f := h.fresh hx
      have o : ¬ (s.mo + 1 - t = r.la) := fun z => o (decide_eq_true z)
      exact ⟨((still_lk h.nd u t).mp ((h.mem u t).mpr hx)).1, by omega⟩
theorem KpL.back {r : Ru} {k : List (Int × Int)} {s : Hs} {u : Int} {i : Nat} (h : KpL r k s) (hu : ∀ (j : Nat) (t : Int), s.kp[j]? = some (some (u, t)) → j = i) (hv : ∀ v t, s.kp[i]? = some (some (v, t)) → v = u) : KpL r (stepL r k ⟨s.mo, "back", u⟩) (leaveH { s with kp := s.kp.set i none } u) := by
  have n := still_nd (la := r.la) (mo := s.mo) h.nd
  have e : stepL r k ⟨s.mo, "back", u⟩ = dropA (stillL r.la s.mo k) u := by
    unfold stepL nextL
    rw [if_pos rfl]
  rw [e]
  refine ⟨n.drop, fun v t => ?_⟩
  rw [still_lk n.drop, lkA_drop]
  show _ ∧ s.mo - t < r.la ↔ some (v, t) ∈ s.kp.set i none
  rw [clr_mem hu hv]
  by_cases z : u = v
  · rw [if_pos z]
    exact ⟨fun q => absurd q.1 (by intro y; cases y), fun q => absurd z.symm q.1⟩
  · rw [if_neg z, h.mem]
    exact ⟨fun q => ⟨fun y => z y.symm, q.1⟩, fun q => ⟨q.2, h.fresh q.2⟩⟩
def lastA (es : List En) : List (Int × Int × Str) := es.foldl (fun m e => putA m e.u (e.t, e.w)) []
theorem lastA_snoc (es : List En) (e : En) : lastA (es ++ [e]) = putA (lastA es) e.u (e.t, e.w) := by
  unfold lastA
  rw [List.foldl_append]
  rfl
/-- who uses has an entry of the moment of its seat, and gave nothing back -/
def UsL (log : List En) (s : Hs) : Prop := ∀ p ∈ s.us, ∃ w : Str, (lastA log).lookup p.1 = some (p.2.2, w) ∧ w ≠ "back"
theorem UsL.sub {log : List En} {s s' : Hs} (h : UsL log s) (e : ∀ p ∈ s'.us, p ∈ s.us) : UsL log s' := fun p m => h p (e p m)
theorem UsL.put {log : List En} {s : Hs} {u : Int} {i : Nat} {w : Str} (h : UsL log s) (nb : w ≠ "back") : UsL (log ++ [⟨s.mo, w, u⟩]) (ansH s u i) := fun p m => by
  rw [lastA_snoc, lkA_put]
  rcases put_mem (show p ∈ putA s.us u (((i : Nat) : Int), s.mo) from m) with e | ⟨m, e⟩
  · rw [e, if_pos rfl]
    exact ⟨w, rfl, nb⟩
  · rw [if_neg fun q => e q.symm]
    exact h p m
theorem UsL.back {log : List En} {s s' : Hs} {u mo : Int} {w : Str} (h : UsL log s) (e : ∀ p ∈ s'.us, p ∈ s.us ∧ p.1 ≠ u) : UsL (log ++ [⟨mo, w, u⟩]) s' := fun p m => by
  rw [lastA_snoc, lkA_put, if_neg fun q => (e p m).2 q.symm]
  exact h p (e p m).1
end OW
set_option Elab.async false
set_option linter.all false
set_option maxRecDepth 100000
set_option maxHeartbeats 2000000
namespace L2
open PySem PySem.Spec PyProof.Rows
end L2
namespace OW
open PySem PySem.Spec PyProof.Rows L2 RZ SkE CL
end OW
set_option Elab.async false
set_option linter.all false
set_option maxRecDepth 100000
set_option maxHeartbeats 2000000
namespace OW
open PySem PySem.Spec PyProof.Rows L2 RZ SkE CL
end OW
set_option Elab.async false
set_option linter.all false
set_option maxRecDepth 100000
set_option maxHeartbeats 2000000
section
open PySem PySem.Spec PyProof.Rows L2 RZ SkE CL OW
local macro_rules | `(tactic| walk_at "subi") => `(tactic| first
  | exact fun _ z => z
  | exact fun _ z => List.mem_cons_of_mem _ z
  | exact fun _ z => List.mem_cons_of_mem _ (List.mem_cons_of_mem _ z)
  | exact fun _ z => List.mem_cons_of_mem _ (List.mem_cons_of_mem _ (List.mem_cons_of_mem _ z))
  | exact fun _ z => List.mem_cons_of_mem _ (List.mem_cons_of_mem _ (List.mem_cons_of_mem _ (List.mem_cons_of_mem _ z)))
  | exact fun _ z => List.mem_cons_of_mem _ (List.mem_cons_of_mem _ (List.mem_cons_of_mem _ (List.mem_cons_of_mem _ (List.mem_cons_of_mem _ z))))
  | exact fun _ z => List.mem_cons_of_mem _ (List.mem_cons_of_mem _ (List.mem_cons_of_mem _ (List.mem_cons_of_mem _ (List.mem_cons_of_mem _ (List.mem_cons_of_mem _ z)))))
  | exact fun _ z => List.mem_cons_of_mem _ (List.mem_cons_of_mem _ (List.mem_cons_of_mem _ (List.mem_cons_of_mem _ (List.mem_cons_of_mem _ (List.mem_cons_of_mem _ (List.mem_cons_of_mem _ z))))))
  | exact fun _ z => List.mem_cons_of_mem _ (List.mem_cons_of_mem _ (List.mem_cons_of_mem _ (List.mem_cons_of_mem _ (List.mem_cons_of_mem _ (List.mem_cons_of_mem _ (List.mem_cons_of_mem _ (List.mem_cons_of_mem _ z)))))))
  | exact fun _ z => (List.not_mem_nil z).elim
  | exact sub_nil
  | (refine sub_cons (by walk_at "mem") ?_; walk_at "subi")
  | (intro R z; apply List.mem_cons_of_mem; revert z; revert R; walk_at "subi"))
local macro_rules | `(tactic| walk_at "pull1") => `(tactic| first | assumption | exact Pull.head | (apply Pull.tail; walk_at "pull1"))
local macro_rules | `(tactic| walk_at "pull") => `(tactic| first | assumption | exact Pull.head | exact (Pull.tail Pull.head) | exact (Pull.tail (Pull.tail Pull.head)) | exact (Pull.tail (Pull.tail (Pull.tail Pull.head))) | exact (Pull.tail (Pull.tail (Pull.tail (Pull.tail Pull.head)))) | exact (Pull.tail (Pull.tail (Pull.tail (Pull.tail (Pull.tail Pull.head))))) | exact (Pull.tail (Pull.tail (Pull.tail (Pull.tail (Pull.tail (Pull.tail Pull.head)))))) | exact (Pull.tail (Pull.tail (Pull.tail (Pull.tail (Pull.tail (Pull.tail (Pull.tail Pull.head))))))) | exact (Pull.tail (Pull.tail (Pull.tail (Pull.tail (Pull.tail (Pull.tail (Pull.tail (Pull.tail Pull.head)))))))) | exact (Pull.tail (Pull.tail (Pull.tail (Pull.tail (Pull.tail (Pull.tail (Pull.tail (Pull.tail (Pull.tail Pull.head))))))))) | exact (Pull.tail (Pull.tail (Pull.tail (Pull.tail (Pull.tail (Pull.tail (Pull.tail (Pull.tail (Pull.tail (Pull.tail Pull.head)))))))))) | exact (Pull.tail (Pull.tail (Pull.tail (Pull.tail (Pull.tail (Pull.tail (Pull.tail (Pull.tail (Pull.tail (Pull.tail (Pull.tail Pull.head))))))))))) | (apply Pull.tail; walk_at "pull1"))
local macro_rules | `(tactic| walk_at "mem1") => `(tactic| first | assumption | exact List.mem_cons_self | (refine List.mem_cons_of_mem _ ?_; walk_at "mem1"))
local macro_rules | `(tactic| walk_at "mem") => `(tactic| first | assumption | exact List.mem_cons_self | exact (List.mem_cons_of_mem _ List.mem_cons_self) | exact (List.mem_cons_of_mem _ (List.mem_cons_of_mem _ List.mem_cons_self)) | exact (List.mem_cons_of_mem _ (List.mem_cons_of_mem _ (List.mem_cons_of_mem _ List.mem_cons_self))) | exact (List.mem_cons_of_mem _ (List.mem_cons_of_mem _ (List.mem_cons_of_mem _ (List.mem_cons_of_mem _ List.mem_cons_self)))) | exact (List.mem_cons_of_mem _ (List.mem_cons_of_mem _ (List.mem_cons_of_mem _ (List.mem_cons_of_mem _ (List.mem_cons_of_mem _ List.mem_cons_self))))) | exact (List.mem_cons_of_mem _ (List.mem_cons_of_mem _ (List.mem_cons_of_mem _ (List.mem_cons_of_mem _ (List.mem_cons_of_mem _ (List.mem_cons_of_mem _ List.mem_cons_self)))))) | exact (List.mem_cons_of_mem _ (List.mem_cons_of_mem _ (List.mem_cons_of_mem _ (List.mem_cons_of_mem _ (List.mem_cons_of_mem _ (List.mem_cons_of_mem _ (List.mem_cons_of_mem _ List.mem_cons_self))))))) | exact (List.mem_cons_of_mem _ (List.mem_cons_of_mem _ (List.mem_cons_of_mem _ (List.mem_cons_of_mem _ (List.mem_cons_of_mem _ (List.mem_cons_of_mem _ (List.mem_cons_of_mem _ (List.mem_cons_of_mem _ List.mem_cons_self)))))))) | exact (List.mem_cons_of_mem _ (List.mem_cons_of_mem _ (List.mem_cons_of_mem _ (List.mem_cons_of_mem _ (List.mem_cons_of_mem _ (List.mem_cons_of_mem _ (List.mem_cons_of_mem _ (List.mem_cons_of_mem _ (List.mem_cons_of_mem _ List.mem_cons_self))))))))) | exact (List.mem_cons_of_mem _ (List.mem_cons_of_mem _ (List.mem_cons_of_mem _ (List.mem_cons_of_mem _ (List.mem_cons_of_mem _ (List.mem_cons_of_mem _ (List.mem_cons_of_mem _ (List.mem_cons_of_mem _ (List.mem_cons_of_mem _ (List.mem_cons_of_mem _ List.mem_cons_self)))))))))) | exact (List.mem_cons_of_mem _ (List.mem_cons_of_mem _ (List.mem_cons_of_mem _ (List.mem_cons_of_mem _ (List.mem_cons_of_mem _ (List.mem_cons_of_mem _ (List.mem_cons_of_mem _ (List.mem_cons_of_mem _ (List.mem_cons_of_mem _ (List.mem_cons_of_mem _ (List.mem_cons_of_mem _ List.mem_cons_self))))))))))) | exact (List.mem_cons_of_mem _ (List.mem_cons_of_mem _ (List.mem_cons_of_mem _ (List.mem_cons_of_mem _ (List.mem_cons_of_mem _ (List.mem_cons_of_mem _ (List.mem_cons_of_mem _ (List.mem_cons_of_mem _ (List.mem_cons_of_mem _ (List.mem_cons_of_mem _ (List.mem_cons_of_mem _ (List.mem_cons_of_mem _ List.mem_cons_self)))))))))))) | exact (List.mem_cons_of_mem _ (List.mem_cons_of_mem _ (List.mem_cons_of_mem _ (List.mem_cons_of_mem _ (List.mem_cons_of_mem _ (List.mem_cons_of_mem _ (List.mem_cons_of_mem _ (List.mem_cons_of_mem _ (List.mem_cons_of_mem _ (List.mem_cons_of_mem _ (List.mem_cons_of_mem _ (List.mem_cons_of_mem _ (List.mem_cons_of_mem _ List.mem_cons_self))))))))))))) | exact (List.mem_cons_of_mem _ (List.mem_cons_of_mem _ (List.mem_cons_of_mem _ (List.mem_cons_of_mem _ (List.mem_cons_of_mem _ (List.mem_cons_of_mem _ (List.mem_cons_of_mem _ (List.mem_cons_of_mem _ (List.mem_cons_of_mem _ (List.mem_cons_of_mem _ (List.mem_cons_of_mem _ (List.mem_cons_of_mem _ (List.mem_cons_of_mem _ (List.mem_cons_of_mem _ List.mem_cons_self)))))))))))))) | exact (List.mem_cons_of_mem _ (List.mem_cons_of_mem _ (List.mem_cons_of_mem _ (List.mem_cons_of_mem _ (List.mem_cons_of_mem _ (List.mem_cons_of_mem _ (List.mem_cons_of_mem _ (List.mem_cons_of_mem _ (List.mem_cons_of_mem _ (List.mem_cons_of_mem _ (List.mem_cons_of_mem _ (List.mem_cons_of_mem _ (List.mem_cons_of_mem _ (List.mem_cons_of_mem _ (List.mem_cons_of_mem _ List.mem_cons_self))))))))))))))) | (refine List.mem_cons_of_mem _ ?_; walk_at "mem1"))
local macro_rules | `(tactic| walk_at "hp") => `(tactic| first | assumption | exact Own.get (by assumption) (by walk_at "pull") | exact Own.tupx (by assumption) (by walk_at "mem"))
local macro_rules | `(tactic| walk_at "pick") => `(tactic| first | exact Pick.all | exact Pick.nil | (refine Pick.cons (by walk_at "pull") ?_; walk_at "pick") | (refine Pick.skip ?_; walk_at "pick"))
local macro_rules | `(tactic| walk_at "own") => `(tactic| first | assumption | exact Own.subI (Own.pick (by assumption) (by walk_at "pick")) (by walk_at "subi"))
local macro_rules | `(tactic| walk_at "dps") => `(tactic| first
  | exact DpAll.nil
  | exact dpAll_ints _
  | exact dpAll_strs _
  | assumption
  | exact IDpAll.dp _ _ (Own.ids (by assumption) (by walk_at "mem"))
  | (apply DpAll.cons; (focus (walk_at "dp")); walk_at "dps"))
local macro_rules | `(tactic| walk_at "dp") => `(tactic| first
  | exact Dp.int _
  | exact Dp.str _
  | exact Dp.non
  | exact Dp.bl _
  | assumption
  | exact IDp.dp _ _ (Own.idd (by assumption) (by walk_at "mem"))
  | (apply Dp.tup; (focus (exact SqT.of (by walk_at "hp"))); walk_at "dps")
  | (apply Dp.lst; (focus (exact SqL.of (by walk_at "hp"))); walk_at "dps")
  | (apply Dp.tup; (focus (walk_at "seq")); walk_at "dps"))
local macro_rules | `(tactic| walk_at "sd") => `(tactic| first
  | assumption
  | (exact ⟨by decide, by decide⟩)
  | exact ⟨rfl, rfl⟩
  | (show (_ : Nat) ≤ sizeLine; (try simp only [List.length_cons, List.length_nil, List.length_append, List.length_map, List.length_take]); rw [sizeLine_eq]; omega)
  | (show (_ : Nat) < sizeLine; (try simp only [List.length_cons, List.length_nil, List.length_append, List.length_map, List.length_take]); rw [sizeLine_eq]; omega)
  | omega
  | (exact Or.inl (Or.inl ⟨by omega, by omega⟩))
  | (exact Or.inl (Or.inr ⟨by omega, by omega⟩))
  | (exact Or.inl ⟨by omega, by omega⟩)
  | (exact ⟨by omega, by omega⟩)
  | (exact ⟨by decide, by decide, by decide⟩)
  | decide
  | walk_at "len")
local macro_rules | `(tactic| walk_at "br") => `(tactic| first
  | refine br_t (by first | rfl | assumption) ?_
  | refine br_f (by first | rfl | assumption) ?_
  | refine br_t (by exact decide_eq_true (by omega)) ?_
  | refine br_f (by exact decide_eq_false (by omega)) ?_
  | walk_at "br2")
local macro_rules | `(tactic| walk_at "kit") => `(tactic| first
  | exact kit_int_int | exact kit_int_bool | exact kit_int_str | exact kit_int_list | exact kit_int_tuple
  | exact kit_bool_int | exact kit_bool_bool | exact kit_bool_str | exact kit_bool_list | exact kit_bool_tuple
  | exact kit_str_int | exact kit_str_bool | exact kit_str_str | exact kit_str_list | exact kit_str_tuple
  | exact kit_list_int | exact kit_list_bool | exact kit_list_str | exact kit_list_list | exact kit_list_tuple
  | exact kit_tuple_int | exact kit_tuple_bool | exact kit_tuple_str | exact kit_tuple_list | exact kit_tuple_tuple
  | exact kit_NoneType_int | exact kit_NoneType_bool | exact kit_NoneType_str | exact kit_NoneType_list | exact kit_NoneType_tuple)
local macro_rules | `(tactic| walk_at "isi") => `(tactic| first
  | refine IsI.mk ⟨_, _, .base (.int _), (by walk_at "kit"), ?_⟩
  | refine IsI.mk ⟨_, _, .base (.str _), (by walk_at "kit"), ?_⟩
  | refine IsI.mk ⟨_, _, .base .non, (by walk_at "kit"), ?_⟩
  | refine IsI.mk ⟨_, _, .base (.bl _), (by walk_at "kit"), ?_⟩
  | refine IsI.mk ⟨_, _, .base (.lst (by walk_at "hp")), (by walk_at "kit"), ?_⟩
  | refine IsI.mk ⟨_, _, .base (.tup (by walk_at "hp")), (by walk_at "kit"), ?_⟩)
local macro_rules | `(tactic| walk_at "log") => `(tactic| first | assumption | exact log_of2 (by omega))
set_option hygiene false in
local macro_rules | `(tactic| walk_at "one") => `(tactic| first
  | ((with_reducible show Sq _ _ _ _); first
    | refine sq_l (by assumption) (by walk_at "pull") ?_
    | refine sq_t (by assumption) (by walk_at "pull") ?_
    | refine sq_s (by assumption) (by walk_at "mem") ?_
    | refine sq_i (by assumption) (by walk_at "mem") ?_
    | refine Sq.t (by walk_at "seq") ?_)
  | ((with_reducible show Ls _ _ _); refine ls_o (by assumption) (by walk_at "pull") ?_)
  | ((with_reducible show Fld _ _ _ _ _); first | refine fld_o (by assumption) (by walk_at "pull") (by walk_at "cls") (by walk_at "cls") rfl ?_ | walk_at "fld")
  | ((with_reducible show SetF _ _ _ _ _ _); refine setf_o (by assumption) (by walk_at "pull") (by walk_at "cls") (by walk_at "cls") (by first | decide | exact Nat.le_of_ble_eq_true rfl) (by first | rfl | decide +kernel) (fun HH w => ?_))
  | ((with_reducible show New _ _ _); refine new_o (by assumption) (fun pp HH w => ?_))
  | ((with_reducible show Grow _ _ _ _ _); refine grow_o (by assumption) (by walk_at "pull") rfl (fun HH w => ?_))
  | ((with_reducible show Chk _ _); refine Chk.mk (by walk_at "sd") ?_)
  | ((with_reducible show Br _ _ _); walk_at "br")
  | ((with_reducible show Ask _); walk_at "ask")
  | ((with_reducible show IsI _ _ _ _ _); walk_at "isi")
  | ((with_reducible show At _ _ _); first | refine At.mk ⟨_, rfl, ?_⟩ | walk_at "at")
  | ((with_reducible show LastOf _ _); refine LastOf.mk ⟨_, rfl, ?_⟩)
  | ((with_reducible show SetL _ _ _ _ _); refine setl_o (by assumption) (by walk_at "pull") rfl (fun HH w => ?_))
  | ((with_reducible show UnT _ _ _ _ _); first | refine unt_o (by assumption) (by walk_at "pull") rfl ?_ | refine unt_i (by assumption) (by walk_at "mem") rfl ?_ | refine ⟨_, (by walk_at "seq"), rfl, ?_⟩)
  | ((with_reducible show RaiseR _ _ _ _ _ _); refine raise_o (by assumption) (fun dx HH w => ?_))
  | ((with_reducible show Wr _); refine catch_yes (by walk_at "exm") (fun ea hea => ?_))
  | ((with_reducible show XfG _ _ _ _ _ _ _ _); refine xf_o (by assumption) (by walk_at "pull") rfl ?_)
  | ((with_reducible show IsEG _ _ _ _ _ _ _ _ _); refine isE_o (by assumption) (by walk_at "pull") (by walk_at "kitE") ?_)
  | ((with_reducible show UnU _ _ _ _ _); refine unu_o (by assumption) (by walk_at "pull") rfl ?_)
  | ((with_reducible show SlL _ _ _ _ _ _); first | refine sll_o (by assumption) (by walk_at "pull") (fun pp HH w => ?_) | refine sll_s (by assumption) (by walk_at "mem") (fun pp HH w => ?_))
  | ((with_reducible show Cat _ _ _ _ _); first | refine cat_l (by assumption) (by walk_at "pull") (by walk_at "pull") (by walk_at "sd") (fun pp HH w => ?_) | (refine cat_t (by assumption) (by walk_at "pull") (by walk_at "pull") (List.cons_ne_nil _ _) (List.cons_ne_nil _ _) (by walk_at "sd") (fun pp HH w => ?_); (try simp only [List.cons_append, List.nil_append] at w)))
  | ((with_reducible show SlG _ _ _ _ _ _); first | refine slg_l (by assumption) (by walk_at "pull") (fun pp HH w => ?_) | refine slg_s (by assumption) (by walk_at "mem") (fun pp HH w => ?_) | (refine slg_t (by assumption) (by walk_at "pull") (by show ¬ (HT.sIx 5 0 _ = 0 ∧ HT.sIx 5 5 _ = 5); decide) (fun pp HH w => ?_); (try simp only [cut_a, cut_b, cut_c, cut_d, cut_e, cutM_a, cutM_b, cutM_c, cutM_d, cutM_e] at w)))
  | ((with_reducible show RevR _ _ _ _); refine rev_o (by assumption) (by walk_at "pull") (fun pp HH w => ?_))
  | ((with_reducible show TupR _ _ _ _); first | refine tupr_l (by assumption) (by walk_at "pull") (fun pp HH w => ?_) | refine tupr_t (by assumption) (by walk_at "pull") ?_)
  | ((with_reducible show EqD _ _ _ _ _); apply eqd_mk; (focus (walk_at "dp")); (focus (walk_at "dp")); (focus (walk_at "shp")); (focus (walk_at "shp")))
  | ((with_reducible show RepV _ _ _ _); first
    | refine rep_int (by walk_at "log") ?_
    | refine rep_non ?_
    | refine rep_bl ?_
    | (apply rep_mk; (focus (walk_at "dp")); (focus (walk_at "shw")); (focus (walk_at "shw")); (focus (walk_at "shw")); (focus (walk_at "shw"))))
  | ((with_reducible show ItS _ _ _ _); first | refine its_l (by assumption) (by walk_at "pull") ?_ | refine its_t (by assumption) (by walk_at "pull") ?_ | refine its_s (by assumption) (by walk_at "mem") ?_)
  | ((with_reducible show ItV _ _ _ _); first | refine itv_l (by assumption) (by walk_at "pull") ?_ | refine itv_t (by assumption) (by walk_at "pull") ?_ | refine itv_s (by assumption) (by walk_at "mem") ?_ | refine itv_r (by assumption) (by walk_at "pull") (by walk_at "sd") ?_ | refine itv_k (by walk_at "seq") ?_)
  | ((with_reducible show KD _ _ _ _ _); refine KD.mk ⟨_, by walk_at "kd", ?_⟩)
  | ((with_reducible show CallV _ _ _ _ _ _ _ _); refine callv_mk (by walk_at "held") ?_)
  | ((with_reducible show DGt _ _ _ _); first | refine dgt_i (by assumption) (by walk_at "pull") ?_ | refine dgt_s (by assumption) (by walk_at "pull") ?_ | refine dgt_if (by assumption) (by walk_at "pull") ?_ | refine dgt_sf (by assumption) (by walk_at "pull") ?_ | walk_at "dgt")
  | ((with_reducible show DGv _ _ _ _); first | refine dgv_i (by assumption) (by walk_at "pull") (by walk_at "dv") ?_ | refine dgv_s (by assumption) (by walk_at "pull") (by walk_at "dv") ?_ | refine dgv_if (by assumption) (by walk_at "pull") (by walk_at "dv") ?_ | refine dgv_sf (by assumption) (by walk_at "pull") (by walk_at "dv") ?_ | walk_at "dgv")
  | ((with_reducible show DPt _ _ _ _ _); first | refine dpt_i (by assumption) (by walk_at "pull") (by walk_at "sd") (fun HH w => ?_) | refine dpt_s (by assumption) (by walk_at "pull") (by walk_at "sd") (fun HH w => ?_))
  | ((with_reducible show DDl _ _ _ _); refine ddl_i (by assumption) (by walk_at "pull") (by walk_at "dv") (fun HH w => ?_))
  | ((with_reducible show LenD _ _ _); refine lend_o (by assumption) (by walk_at "pull") ?_)
  | ((with_reducible show DictCp _ _ _); refine dictcp_o (by assumption) (by walk_at "pull") (fun pp HH w => ?_))
  | ((with_reducible show KeysL _ _ _); refine keysl_o (by assumption) (by walk_at "pull") (fun pp HH w => ?_))
  | ((with_reducible show RepL _ _ _ _); refine repl_o (by assumption) (by walk_at "pull") (by walk_at "sd") (fun pp HH w => ?_))
  | ((with_reducible show FldInc _ _ _ _ _ _); refine fldinc_o (by assumption) (by walk_at "pull") (by walk_at "cls") (by walk_at "cls") rfl (by first | decide | exact Nat.le_of_ble_eq_true rfl) (by first | rfl | decide +kernel) (fun HH w => ?_))
  | ((with_reducible show ItD _ _ _ _); refine itd_o (by assumption) (by walk_at "pull") ?_)
  | ((with_reducible show LenSet _ _ _ _); refine lenset_o (by assumption) (by walk_at "pull") (by walk_at "len") ?_)
  | ((with_reducible show DPop _ _ _ _); refine dpop_i (by assumption) (by walk_at "pull") (by walk_at "dv") (fun HH w => ?_))
  | ((with_reducible show DGet2 _ _ _ _ _); refine dget2_i (by assumption) (by walk_at "pull") ?_)
  | ((with_reducible show MakeV _ _ _); refine MakeV.mk rfl ?_)
  | ((with_reducible show CMethR _ _ _); refine CMethR.mk rfl ?_)
  | ((with_reducible show IsDk _ _ _); refine isdk_o (by assumption) (by walk_at "pull") ?_)
  | ((with_reducible show RemI _ _ _ _); refine remi_o (by assumption) (by walk_at "pull") (by walk_at "mem") (fun HH w => ?_))
  | ((with_reducible show CntI _ _ _ _ _); refine cnti_o (by assumption) (by walk_at "pull") ?_)
  | ((with_reducible show LockE _ _ _ _); refine lockE_o (by assumption) (by walk_at "pull") (fun od HH w => ?_))
  | ((with_reducible show UnL _ _ _ _ _); refine unl_o (by assumption) (by walk_at "pull") (fun HH w => ?_))
  | ((with_reducible show ItK _ _ _); refine itk_o (by assumption) (by walk_at "pull") ?_)
  | ((with_reducible show ValsL _ _ _); refine vals_o (by assumption) (by walk_at "pull") (fun pp HH w => ?_))
  | ((with_reducible show DDsp _ _ _ _); refine ddsp_o (by assumption) (by walk_at "pull") rfl (by first | decide | exact Nat.le_of_ble_eq_true rfl) (fun HH w => ?_))
  | ((with_reducible show ItE _ _ _ _); refine ite_l (by assumption) (by walk_at "pull") ?_)
  | ((with_reducible show MaxL _ _ _ _ _); refine maxl_o (by assumption) (by walk_at "pull") (by walk_at "len") ?_)
  | ((with_reducible show AllL _ _ _ _ _); refine alll_o (by assumption) (by walk_at "pull") ?_)
  | ((with_reducible show InD _ _ _ _ _); apply ind_o; (focus (walk_at "dp")); (focus (walk_at "dp")); (focus (walk_at "shp")); (focus (walk_at "shp")))
  | ((with_reducible show MethR _ _ _ _ _); first | refine meth_o (by assumption) (by walk_at "pull") rfl ?_ | walk_at "meth")
  | ((with_reducible show OwnS _ _ _ _ _ _); walk_at "owns")
  | ((with_reducible show NxW _ _ _); refine nxw_mk ?_)
  | ((with_reducible show IsR _ _ _ _ _); refine isr_own (by walk_at "cls") (by walk_at "hp") ?_)
  | ((with_reducible show And _ _); first | refine And.intro (by (with_reducible show wipe _ _ = wipe _ _); (repeat (first | exact wipe_twice | refine (wipe_setN (by decide)).trans ?_)); done) ?_ | refine And.intro (rfl : wipe _ _ = wipe _ _) ?_ | refine And.intro (Or.inl ⟨rfl, _, SqL.of (by walk_at "hp")⟩) ?_)
  | ((with_reducible show Exists _); refine Exists.intro _ (And.intro rfl ?_))
  | ((with_reducible show Exists _); refine Exists.intro _ (Exists.intro _ (And.intro rfl (And.intro (Or.inr (SqL.of (by walk_at "hp"))) ?_))))
  | ((with_reducible show Exists _); refine Exists.intro _ (Exists.intro _ (And.intro rfl (And.intro (Or.inl (SqT.of (by walk_at "hp"))) ?_))))
  | ((with_reducible show Acc _ _ _ _); refine acc_a (by assumption) (by walk_at "pull") (by walk_at "sd") (fun HH w => ?_)))
local macro_rules | `(tactic| walk_at "go") => `(tactic| ((repeat ((try (conv => whnf)); walk_at "one")); (try (conv => whnf))))
set_option Elab.async false
set_option linter.all false
set_option maxRecDepth 100000
set_option maxHeartbeats 2000000
namespace L2
open PySem PySem.Spec PyProof.Rows
end L2
namespace OW
open PySem PySem.Spec PyProof.Rows L2 RZ SkE CL
end OW
set_option Elab.async false
set_option linter.all false
set_option maxRecDepth 100000
set_option maxHeartbeats 2000000
namespace OW
open PySem PySem.Spec PyProof.Rows L2 RZ SkE CL
section
variable {g : TG} {tt : TT} {te : TE} {vs : List Nat} {σ : L2.St} {H : Hp} {p : Addr}
theorem la_str {x : Str} {Qd : Hp → Prop} (Pv : Nat → Hp → Prop) (h0 : Pv 0 (upd H p (.lst []))) (hs : ∀ i c H, x.cps[i]? = some c → Pv i H → LcT g tt te vs σ p (.str ⟨#[c]⟩) H (Pv (i + 1))) (hd : ∀ H, Pv x.cps.size H → Qd H) : LcW (Its x) g tt te vs σ p Qd H := by
  refine ⟨fun i m H => m = x.cps.size - i ∧ i ≤ x.cps.size ∧ Pv i H, ⟨x.cps.size, rfl, Nat.zero_le _, h0⟩, ?_⟩
  rintro i m H' ⟨rfl, hi, pv⟩
  by_cases hlt : i < x.cps.size
  · have ix := Array.getElem?_eq_getElem hlt
    refine .inr ⟨hlt, Pv (i + 1), fun H2 p2 => ⟨x.cps.size - (i + 1), by omega, rfl, hlt, p2⟩, fun v H2 y => ?_⟩
    obtain ⟨e, c, hc, rfl⟩ := y
    subst e
    have := hs i c _ hc pv
    rw [lct_eq] at this
    exact this
  · have e : i = x.cps.size := by omega
    subst e
    exact .inl ⟨Nat.le_refl _, hd H' pv⟩
end
/-- the signs of a text, walked -/
structure ItS (v : V) (H : Hp) (R : It → Hp → Prop) : Prop where
  ex : ∃ x, v = .str x ∧ R (Its x) H
def cStr (te : TE) : TI := fun σ H R => te σ H fun v H1 => ItS v H1 R
theorem its_eq {v : V} {H : Hp} {R : It → Hp → Prop} : ItS v H R = ∃ x, v = .str x ∧ R (Its x) H := propext ⟨fun h => h.ex, fun h => ⟨h⟩⟩
theorem i_str {X : Cx} {tg e : Expr} {te : TE} (he : PE X e te) : PI X tg e (cStr te) := by
  have e1 : cStr te = iStr te := by
    funext σ H R
    show te σ H (fun v H1 => ItS v H1 R) = te σ H (fun v H1 => ∃ x, v = .str x ∧ R (Its x) H1)
    congr 1
    funext v H1
    exact its_eq
  rw [e1]
  exact pi_str he
theorem its_mk {x : Str} {H : Hp} {R : It → Hp → Prop} (q : R (Its x) H) : ItS (.str x) H R := ⟨⟨x, rfl, q⟩⟩
end OW
set_option Elab.async false
set_option linter.all false
set_option maxRecDepth 100000
set_option maxHeartbeats 2000000
namespace OW
open PySem PySem.Spec PyProof.Rows L2 RZ SkE CL
structure SgS (x y : V) (k : Bool → Prop) : Prop where
  ex : ∃ (c : Nat) (z : Str), x = .str ⟨#[c]⟩ ∧ y = .str z ∧ k (decide (c ∈ z.cps.toList))
def rSgn (neg : Bool) : R2 := fun x y H Q => SgS x y fun b => Q (.bl (if neg then !b else b)) H
theorem c_notinSg {X : Cx} : OpR X (compareOp .NotIn) (rSgn true) := by
  intro pins s σ H x y v u Q I rx ry h
  obtain ⟨⟨c, z, e1, e2, q⟩⟩ := h
  exact op_notIn_sign pins s σ H _ _ v u Q I rx ry ⟨c, z, e1, e2, q⟩
theorem sgs_mk {c : Nat} {z : Str} {k : Bool → Prop} (q : k (decide (c ∈ z.cps.toList))) : SgS (.str ⟨#[c]⟩) (.str z) k := ⟨⟨c, z, rfl, rfl, q⟩⟩
def cCMethS (C : Addr) (sp : Sp) (E : L2.St → XK) (ta : TE) (t : TA) : TE := fun σ H Q => ta σ H fun x H1 => CMethR C x (t σ H1 fun vs H2 => Ask (sp (.ref C :: vs) H2 Q (E σ)))
theorem e_cmethS {X : Cx} {W : WX} {k : Nat} {C p g : Addr} {fd : FuncData} {ps : List Str} {mc : Value} {m : Str} {sp : Sp} {o e : Expr} {es : List Expr} {ta : TE} {t : TA} {apos pos : Pos} {pl : Sem Bool} (r : ClX.CRead X.K C mc) (c : ClX.CMet X.K C mc m p g) (F : FnOk X.prog X.w X.K X.mg X.base (L2.CX X.prog X.w) k g fd ps sp) (hb : Binds X.K fd ps []) (hr : Room k X.A) (tk : L2.Takes X W) (he : PE X o ta) (ha : PA X (e :: es) t)
    (hst : starEach (e :: es) X.env = (false, eval e X.env) :: starEach es X.env := by rfl) (hpl : (backTo pos (starEach es X.env)).any (·.1) = false := by rfl)
    (ht : eval (.Call (.Attribute o m apos) (e :: es) [] pos) X.env = (do
      let ov ← eval o X.env
      standAt apos.atName
      let (f, first) ← holding [ov] (getMethod ov m pl)
      callWith pos f first (backTo pos (starEach (e :: es) X.env)) (backToKw pos (keywordEach [] X.env))) := by rfl) :
    PE X (.Call (.Attribute o m apos) (e :: es) [] pos) (cCMethS C sp (WE W) ta t) := by
  constructor
  intro pn t0 τ G Q J hh
  have first := he.run pn t0 τ G _ J hh
  refine PySem.W.methodCall_KW (pl := pl) (thn first ?_) ht
  rintro uo t1 ⟨xo, G1, J1, ro, yes⟩
  obtain rfl := yes.e
  obtain rfl : uo = Value.ref C := ro
  refine ClX.getmethcm_ok J1 r c (fun t2 J2 => ?_)
  have args := ha.run pos _ t2 τ G1 _ J2 yes.k
  have none_ := ClX.base_none J1 (Nat.le_refl _)
  refine ClX.callwith_cm J2 none_ c.fi (thn args ?_) hst hpl
  rintro ul t3 ⟨vl, G2, J3, rl, last⟩
  refine ⟨⟨ClX.pin_at J3, J3.kIn⟩, ?_⟩
  have both : Vals (.ref C :: vl) (.ref C :: ul) := .cons rfl rl
  have asked : sp (.ref C :: vl) G2 Q (WE W τ) := last.a
  have len : (Value.ref C :: ul ++ []).length = ps.length := by rw [List.append_nil, ← both.length]; exact F.len _ _ _ _ asked
  have bound := hb t3 (.ref C :: ul) J3.kIn len
  rw [List.append_nil] at bound
  have run := F.run X.A X.stack t3 G2 ⟨.ref C :: ul, []⟩ (.ref C :: ul) (.ref C :: vl) Q (WE W τ) hr J3.env0 bound both asked
  have done_ : wpAny (model X.prog X.w) X.A (call (.ref t1.heap.objs.size) ul) (EP X ((t1.heap.objs.size, PySem.W.methodObj (.ref g) (.ref C)) :: pn) τ Q) X.xe t3 := by
    refine wpAny_call (PySem.W.method_call (ClX.pin_at J3) (codeAny_mono run fun rr t4 hq => ?_))
    match rr, hq with
    | .error er, hq => exact passAt tk τ _ G2 t3 er t4 J3 hq
    | .ok (.ret uu), hq => exact J3.after hq
    | .ok .next, hq => exact hq.elim
    | .ok .brk, hq => exact hq.elim
    | .ok .cont, hq => exact hq.elim
  exact thn done_ fun _ _ y => ClX.unpinE y
theorem digs_mem (c : Nat) : c ∈ ("0123456789" : Str).cps.toList ↔ 48 ≤ c ∧ c ≤ 57 := by
  rw [show ("0123456789" : Str).cps.toList = [48, 49, 50, 51, 52, 53, 54, 55, 56, 57] from by decide +kernel]
  simp only [List.mem_cons, List.not_mem_nil, or_false]
  omega
/-- the signs of a text up to a place that are no digits -/
def nodg (z : Str) (i : Nat) : List Str := ((z.cps.toList.take i).filter fun c => !decide (c ∈ ("0123456789" : Str).cps.toList)).map fun c => ⟨#[c]⟩
theorem nodg_zero (z : Str) : nodg z 0 = [] := by unfold nodg; rw [List.take_zero]; rfl
theorem nodg_yes {z : Str} {i c : Nat} (h : z.cps[i]? = some c) (d : c ∈ ("0123456789" : Str).cps.toList) : nodg z (i + 1) = nodg z i := by
  unfold nodg
  have h2 : z.cps.toList[i]? = some c := by rw [Array.getElem?_toList]; exact h
  rw [List.take_add_one, h2, Option.toList_some, List.filter_append, List.filter_cons, decide_eq_true d]
  simp
theorem nodg_no {z : Str} {i c : Nat} (h : z.cps[i]? = some c) (d : ¬ c ∈ ("0123456789" : Str).cps.toList) : nodg z (i + 1) = nodg z i ++ [⟨#[c]⟩] := by
  unfold nodg
  have h2 : z.cps.toList[i]? = some c := by rw [Array.getElem?_toList]; exact h
  rw [List.take_add_one, h2, Option.toList_some, List.filter_append, List.filter_cons, decide_eq_false d]
  simp
theorem nodg_all {z : Str} : nodg z z.cps.size = [] ↔ ∀ c ∈ z.cps.toList, 48 ≤ c ∧ c ≤ 57 := by
  unfold nodg
  rw [show z.cps.size = z.cps.toList.length from (Array.length_toList).symm, List.take_length, List.map_eq_nil_iff, List.filter_eq_nil_iff]
  constructor
  · intro h c m
    have := h c m
    rw [← digs_mem]
    simpa using this
  · intro h c m
    have := (digs_mem c).mpr (h c m)
    simpa using this
theorem nodg_len (z : Str) (i : Nat) : (nodg z i).length ≤ z.length := by
  unfold nodg
  rw [List.length_map]
  refine Nat.le_trans (List.length_filter_le _ _) (Nat.le_trans (List.length_take_le' _ _) ?_)
  exact Nat.le_of_eq Array.length_toList
/-- texts of plain signs -/
def AsZ (z : Str) : Prop := ∀ c ∈ TL.tl z, c < 128
theorem AsZ.app {a b : Str} (h : AsZ a) (g : AsZ b) : AsZ (a ++ b) := fun c m => by
  rw [TL.tl_append] at m
  exact (List.mem_append.mp m).elim (h c) (g c)
theorem AsZ.ok {z : Str} (h : AsZ z) : PyData.strOk z = true := by
  unfold PyData.strOk
  rw [← Array.all_toList, List.all_eq_true]
  exact fun c m => decide_eq_true (Nat.lt_trans (h c m) (by decide))
theorem asz_sh {n : Int} (h : 0 ≤ n) : AsZ (shN n) := fun c m => by
  rw [tl_sh h] at m
  have := TL.numL_digits _ c m
  omega
theorem spl_sub (S : List Nat) : ∀ (l : List Nat) (k : Nat) (acc p : List Nat), p ∈ TL.spl S k acc l → ∀ c ∈ p, c ∈ acc ∨ c ∈ l
  | [], k, acc, p, h => by
    rw [TL.spl_nil] at h
    rw [List.mem_singleton.mp h]
    exact fun c m => .inl m
  | c :: r, k, acc, p, h => by
    intro x m
    cases k with
    | succ k =>
      have h : p ∈ TL.spl S k acc r := h
      exact (spl_sub S r k acc p h x m).imp id (List.mem_cons_of_mem _)
    | zero =>
      cases hp : TL.pre S (c :: r) with
      | true =>
        rw [TL.spl_hit hp] at h
        rcases List.mem_cons.mp h with rfl | h
        · exact .inl m
        · exact ((spl_sub S r _ [] p h x m).elim (fun z => (List.not_mem_nil z).elim) (fun z => .inr (List.mem_cons_of_mem _ z)))
      | false =>
        rw [TL.spl_miss hp] at h
        rcases spl_sub S r 0 (acc ++ [c]) p h x m with z | z
        · rcases List.mem_append.mp z with z | z
          · exact .inl z
          · rw [List.mem_singleton.mp z]; exact .inr List.mem_cons_self
        · exact .inr (List.mem_cons_of_mem _ z)
theorem split_asz {x y : Str} (hy : TL.tl y ≠ []) (hk : y.cps.all (· < 256) = true) (h : AsZ x) : ∀ s ∈ Txt.split x y, AsZ s := by
  intro s m c mc
  have g : TL.tl s ∈ (Txt.split x y).map TL.tl := List.mem_map.mpr ⟨s, m, rfl⟩
  rw [TL.split_spl x y hy (TL.kind_ok hk)] at g
  exact (spl_sub (TL.tl y) (TL.tl x) 0 [] _ g c mc).elim (fun z => (List.not_mem_nil z).elim) (h c)
theorem asz_sign {z : Str} (h : AsZ z) {c : Nat} (m : c ∈ z.cps.toList) : AsZ (⟨#[c]⟩ : Str) := fun x mx => by
  have : x = c := List.mem_singleton.mp (show x ∈ [c] from mx)
  rw [this]
  exact h c m
theorem nodg_asz {z : Str} (h : AsZ z) (i : Nat) : ∀ s ∈ nodg z i, AsZ s := fun s m => by
  unfold nodg at m
  obtain ⟨c, hc, rfl⟩ := List.mem_map.mp m
  exact asz_sign h (List.mem_of_mem_take (List.mem_filter.mp hc).1)
theorem shp_asz : ∀ {ss : List Str}, (∀ s ∈ ss, AsZ s) → PyData.canLayAll0 (ss.map PyData.str) = true ∧ PyData.depthAll (ss.map PyData.str) ≤ 1
  | [], _ => ⟨rfl, by decide⟩
  | s :: ss, h => by
    have g := shp_asz fun x m => h x (List.mem_cons_of_mem _ m)
    exact ⟨by simp [PyData.canLayAll0, PyData.canLay0, (h s List.mem_cons_self).ok, g.1], by simp [PyData.depthAll, PyData.depth]; exact g.2⟩
theorem shaped_asz {ss : List Str} (h : ∀ s ∈ ss, AsZ s) : SeqAt.shaped (.list (ss.map PyData.str)) = true := by
  have g := shp_asz h
  simp [SeqAt.shaped, PyData.canLay0, PyData.depth, g.1]
  omega
theorem eqv_strs0 (ss : List Str) : PyData.eqv (.list (ss.map PyData.str)) (.list []) = decide (ss = []) := by
  cases ss with
  | nil => rfl
  | cons s ss => rfl
end OW
set_option Elab.async false
set_option linter.all false
set_option maxRecDepth 100000
set_option maxHeartbeats 2000000
namespace OW
open PySem PySem.Spec PyProof.Rows L2 RZ SkE CL
abbrev Cls2 := Value × (Addr → Value → Option Addr → TS)
/-- what they wish of an exception, one behind the other -/
def wAsM (K : PySem.W.Frag) (i : Nat) (Wo : WX) (D : Ends) : List Cls2 → WX
  | [] => Wo
  | (c, ts) :: r => OW.wr (wAs K c i ts (wAsM K i Wo D r) D)
inductive HdsAs (X : Cx) (n : Str) : List ExceptHandler → List Cls2 → Prop
  | nil : HdsAs X n [] []
  | cons {x : Str} {c : Value} {ts : Addr → Value → Option Addr → TS} {st : Stmt} {sts : List Stmt} {p1 p2 : Pos} {rest : List ExceptHandler} {lr : List Cls2} (nm : Names X x c)
      (go : ∀ (a : Addr) (ox : Obj) (cls : Value) (d : Option Addr) (pn : List (Addr × Obj)), Zc cls d ox → (∃ vs, ox.data = .fields vs) → PSs (X.suite a ((a, ox) :: pn)) (st :: sts) (ts a cls d)) (r : HdsAs X n rest lr) :
      HdsAs X n (.ExceptHandler (some (.Name x p1)) (some n) (st :: sts) p2 :: rest) ((c, ts) :: lr)
section
variable {X : Cx} {n : Str} {i : Nat} {body : List Stmt} {hd : ExceptHandler} {hds : List ExceptHandler} {l : List Cls2} {pos : Pos} {tb : WX → TS} {Wo : WX}
theorem s_try_asM (st1 : X.stack = X.env :: X.outer) (fr1 : X.env.frame = some X.env.locals) (nd : X.N.Nodup) (ni : X.N[i]? = some n) (lc : X.env.kindOf n = some .local) (tk : L2.Takes X Wo)
    (bd : ∀ (W : WX) (pn : List (Addr × Obj)) (xe : Value → Shared → Prop), L2.Takes (X.tr pn xe) W → PassesOwn (model X.prog X.w) X.A X.env xe → PSs (X.tr pn xe) body (tb W))
    (hh : HdsAs X n (hd :: hds) l) : PS X (.Try body (hd :: hds) [] [] pos) (fun D σ H => tb (wAsM X.K i Wo D l) D σ H) := by
  constructor
  intro pq t0 τ G D J0 want
  have okA := J0.ok
  have frA : X.A.frames = some (X.env :: X.outer) := okA.frames.trans (congrArg some st1)
  have locN : Loc X.env.scope n := .inl lc
  refine wpAny_Try_except ?_
  have runs := (bd (wAsM X.K i Wo D l) (X.pn ++ pq) (fun er t1 => wpAny (model X.prog X.w) X.A (noteFrame er X.env) (fun _ t2 => wpAny (model X.prog X.w) X.A (setFlight er none) (fun _ t3 =>
    wpAny (model X.prog X.w) X.A (handleBy er X.env (hd :: hds)) (SP X pq D) X.xe t3) X.xe t2) X.xe t1) ?_ PassesOwn.looking).run [] t0 τ G D (J0.toTry _) want
  · refine wpAny_mono runs (fun fl t1 ends => ?_) (fun _ _ z => z)
    match fl, ends with
    | .next, ⟨τ1, G1, J1, q1⟩ => exact wpAny_execs_nil ⟨τ1, G1, J1.ofTry okA, q1⟩
    | .brk, ⟨τ1, G1, J1, q1⟩ => exact ⟨τ1, G1, J1.ofTry okA, q1⟩
    | .cont, ⟨τ1, G1, J1, q1⟩ => exact ⟨τ1, G1, J1.ofTry okA, q1⟩
    | .ret ur, ⟨v1, τ1, G1, J1, r1, q1⟩ => exact ⟨v1, τ1, G1, J1.ofTry okA, r1, q1⟩
  · -- what was raised
    intro ue t1 raised
    obtain ⟨a, B, tI, pq', τ1, G1, cls, d, rfl, J1, nbx, upx, skyx, nax, osx, agx, wish⟩ := raised
    have Jt : Inv X pq τ1 G1 tI := J1.ofTry okA
    have skyt : Sky B (X.env :: X.outer) a (Zc cls d) X.env.locals t1.heap := by rw [← st1]; exact skyx
    show wpAny (model X.prog X.w) X.A (noteFrame (Value.ref a) X.env) _ _ _
    refine Sky.land Zc.steady frA fr1 skyt fun hp3 fall3 up3 => ?_
    have J3 : Inv X pq τ1 G1 { t1 with heap := hp3 } := Jt.landed nbx fall3.1 (upx.trans up3) osx agx
    obtain ⟨ob3, fv3, at3, zc3, dt3⟩ := fall3.there
    have away : a ∉ frs (X.env :: X.outer) := fun inside => by
      obtain ⟨_, o2, e2, other⟩ := fall3.2.2.1.mem inside
      rw [at3] at e2
      cases e2
      exact other _ dt3
    have awayL : a ≠ X.env.locals := fun z => away (List.mem_filterMap.mpr ⟨X.env, List.mem_cons_self, by rw [fr1, z]⟩)
    have awayF : a ∉ X.fs := fun inside => by
      obtain ⟨e1, m1, q1⟩ := List.mem_filterMap.mp inside
      exact away (List.mem_filterMap.mpr ⟨e1, List.mem_cons_of_mem _ m1, q1⟩)
    have JS := J3.suite at3 dt3 nax awayL awayF
    have all_ : ∀ {hs : List ExceptHandler} {lr : List Cls2}, HdsAs X n hs lr → wAsM X.K i Wo D lr cls d τ1 G1 →
        wpAny (model X.prog X.w) X.A (handleBy (.ref a) X.env hs) (SP X pq D) X.xe { t1 with heap := hp3 } := by
      intro hs lr ok_
      induction ok_ with
      | nil =>
        intro wish
        refine wpAny_handleBy_nil ?_
        obtain ⟨_, _, _, ob, fv, T, oT, ts', e1, z1, d1, h1, _⟩ := id fall3
        unfold PySem.passOn
        refine wpAny_bind (wpAny_field e1 d1 h1 ?_)
        have notN : ((Value.ref T == Value.none) = true) → False := by simp
        rw [if_neg notN]
        have out_ : wpAny (model X.prog X.w) X.A (setFlight (.ref a) X.env.frame) (fun _ t4 => wpAny (model X.prog X.w) X.A (throw (.ref a) : Sem Flow) (SP X pq D) X.xe t4) X.xe { t1 with heap := hp3 } := by
          rw [fr1]
          refine HandSPX.setFlight_upZ fall3 fun hp4 sky4 up4 => wpAny_throw (tk _ _ ?_)
          exact ⟨a, B, tI, pq, τ1, G1, cls, d, rfl, Jt, nbx, (upx.trans up3).trans up4, .inr (.inr (by rw [st1]; exact sky4)), nax, osx, agx, wish⟩
        first
          | exact wpAny_bind (wpAny_pure (wpAny_bind out_))
          | exact wpAny_bind out_
      | @cons x c ts st sts p1 p2 rest lr nm go r ih =>
        intro wish
        obtain ⟨b, isC, yes, no⟩ := wish.q
        refine wpAny_handleBy_cons (codeAny_handlers_test ?_) (by intro z; cases z)
        have looks : PySem.W.Looks (model X.prog X.w) hp3 (typeOf (.ref a)) cls := fun A Q E s k q => wpAny_typeOf_ref (k _ _ at3) (by rw [zc3.1]; exact q)
        have says := PySem.W.exm_one (M := model X.prog X.w) (J3.kIn) looks isC
        have named : ∀ {Q E : Value → Shared → Prop}, Q c { t1 with heap := hp3 } → wpAny (model X.prog X.w) (X.A.mark (some (.ref a))) (eval (.Name x p1) X.env) Q E { t1 with heap := hp3 } := fun {Q E} q => by
          obtain ⟨gl, db, g | ⟨g, bv, bn⟩⟩ := nm
          · exact ld_glob (X := X.suite a ((a, ob3) :: (X.pn ++ pq))) JS gl g q db
          · exact ld_blt (X := X.suite a ((a, ob3) :: (X.pn ++ pq))) JS gl g bv q bn db
        refine named (says.here ?_)
        cases b with
        | false =>
          show wpAny _ X.A (handleBy (.ref a) X.env rest) _ _ _
          exact ih (no rfl)
        | true =>
          refine codeAny_handlers_suite_as (HandSPX.lands_againZ fall3 fun hp4 fall4 up4 => ?_)
          have J4 : Inv X pq τ1 G1 { t1 with heap := hp4 } := Jt.landed nbx fall4.1 ((upx.trans up3).trans up4) osx agx
          obtain ⟨ob4, fv4, at4, zc4, dt4⟩ := fall4.there
          have JS4 := J4.suite at4 dt4 nax awayL awayF
          refine store_ok (X := X.suite a ((a, ob4) :: (X.pn ++ pq))) (v := .ref a) JS4 nd ni locN rfl (fun t5 J5 => ?_) (.inr lc)
          have suite_ := (go a ob4 cls d (X.pn ++ pq) zc4 ⟨_, dt4⟩).run [] t5 _ G1 _ J5 (yes rfl a nax)
          refine wpAny_mono suite_ (fun fl t6 ends => ?_) (fun _ _ z => False.elim z)
          have drop_ : ∀ {τ6 : L2.St} {G6 : Hp} {Q : Shared → Prop}, Inv (X.suite a ((a, ob4) :: (X.pn ++ pq))) [] τ6 G6 t6 → (∀ t7, Inv X pq (τ6.set i none) G6 t7 → Q t7) →
              wpAny (model X.prog X.w) X.A (do bindName X.env n .none; unbindBehindTheSuite X.env n p2) (fun _ t7 => Q t7) X.xe t6 := fun {τ6 G6 Q} J6 hq => gone_ok (J6.unsuite okA) nd ni lc hq
          match fl, ends with
          | .next, ⟨τ6, G6, J6, q6⟩ => exact drop_ J6 fun t7 J7 => ⟨_, _, J7, q6⟩
          | .brk, ⟨τ6, G6, J6, q6⟩ => exact drop_ J6 fun t7 J7 => ⟨_, _, J7, q6⟩
          | .cont, ⟨τ6, G6, J6, q6⟩ => exact drop_ J6 fun t7 J7 => ⟨_, _, J7, q6⟩
          | .ret u6, ⟨v6, τ6, G6, J6, r6, q6⟩ => exact drop_ J6 fun t7 J7 => ⟨_, _, _, J7, r6, q6⟩
    exact all_ hh wish
end
end OW
set_option Elab.async false
set_option linter.all false
set_option maxRecDepth 100000
set_option maxHeartbeats 2000000
namespace OW
open PySem PySem.Spec PyProof.Rows L2 RZ SkE CL
end OW
set_option Elab.async false
set_option linter.all false
set_option maxRecDepth 100000
set_option maxHeartbeats 800000
namespace My
open PySem PySem.Spec PyProof.Rows L2 RZ SkE CL OW
def topS (i : Nat) : Stmt := PySem.Challenge.pw_lapseseats_k04_texts_of_rules.main.body.getD i (.Pass ⟨0, 0, 0, 0⟩)
abbrev s_is_integer_from : Stmt := topS 2
theorem sc_is_integer_from : FnScope ["value", "least"] ["value", "least"] (defScope s_is_integer_from) := ⟨rfl, rfl, rfl, by decide +kernel, rfl, by decide +kernel, by decide +kernel⟩
abbrev s_is_number_text : Stmt := topS 3
theorem sc_is_number_text : FnScope ["text", "digits"] ["text", "digits"] (defScope s_is_number_text) := ⟨rfl, rfl, rfl, by decide +kernel, rfl, by decide +kernel, by decide +kernel⟩
abbrev s_InvalidRule_init : Stmt := inClass (topS 6) 0
theorem sc_InvalidRule_init : FnScope ["self", "word"] ["self", "word"] (defScope s_InvalidRule_init) := ⟨rfl, rfl, rfl, by decide +kernel, rfl, by decide +kernel, by decide +kernel⟩
abbrev s_InvalidText_init : Stmt := inClass (topS 7) 0
theorem sc_InvalidText_init : FnScope ["self", "at"] ["self", "at"] (defScope s_InvalidText_init) := ⟨rfl, rfl, rfl, by decide +kernel, rfl, by decide +kernel, by decide +kernel⟩
abbrev s_is_number_for : Stmt := topS 12
theorem sc_is_number_for : FnScope ["word", "number", "least"] ["word", "number"] (defScope s_is_number_for) := ⟨rfl, rfl, rfl, by decide +kernel, rfl, by decide +kernel, by decide +kernel⟩
abbrev s_is_right_at : Stmt := topS 13
theorem sc_is_right_at : FnScope ["at", "part"] ["at", "part"] (defScope s_is_right_at) := ⟨rfl, rfl, rfl, by decide +kernel, rfl, by decide +kernel, by decide +kernel⟩
abbrev s_first_wrong : Stmt := topS 14
theorem sc_first_wrong : FnScope ["parts", "at", "part"] ["parts"] (defScope s_first_wrong) := ⟨rfl, rfl, rfl, by decide +kernel, rfl, by decide +kernel, by decide +kernel⟩
abbrev s_Rule_init : Stmt := inClass (topS 15) 0
theorem sc_Rule_init : FnScope ["self", "seats", "lapse", "beat", "grace", "late", "word", "number"] ["self", "seats", "lapse", "beat", "grace", "late"] (defScope s_Rule_init) := ⟨rfl, rfl, rfl, by decide +kernel, rfl, by decide +kernel, by decide +kernel⟩
abbrev s_Rule_read : Stmt := inClass (topS 15) 1
theorem sc_Rule_read : FnScope ["cls", "text", "parts", "at", "seats", "lapse", "beat", "grace", "late", "part"] ["cls", "text"] (defScope s_Rule_read) := ⟨rfl, rfl, rfl, by decide +kernel, rfl, by decide +kernel, by decide +kernel⟩
abbrev s_Rule_eq : Stmt := inClass (topS 15) 3
theorem sc_Rule_eq : FnScope ["self", "other"] ["self", "other"] (defScope s_Rule_eq) := ⟨rfl, rfl, rfl, by decide +kernel, rfl, by decide +kernel, by decide +kernel⟩
abbrev s_Rule_str : Stmt := inClass (topS 15) 4
theorem sc_Rule_str : FnScope ["self"] ["self"] (defScope s_Rule_str) := ⟨rfl, rfl, rfl, by decide +kernel, rfl, by decide +kernel, by decide +kernel⟩
abbrev s_l_box : Stmt := topS 17
theorem sc_l_box : FnScope ["_law_script", "_law_k", "_law_own", "_law_cell", "_law_seed"] ["_law_script", "_law_k", "_law_own"] (defScope s_l_box) := ⟨rfl, rfl, rfl, by decide +kernel, rfl, by decide +kernel, by decide +kernel⟩
abbrev s_l_take : Stmt := topS 18
theorem sc_l_take : FnScope ["_law_box_here", "_law_bound", "_law_digit", "_law_raw", "_law_wide"] ["_law_box_here", "_law_bound"] (defScope s_l_take) := ⟨rfl, rfl, rfl, by decide +kernel, rfl, by decide +kernel, by decide +kernel⟩
abbrev s_l_pick : Stmt := topS 19
theorem sc_l_pick : FnScope ["_law_box_here", "_law_items"] ["_law_box_here", "_law_items"] (defScope s_l_pick) := ⟨rfl, rfl, rfl, by decide +kernel, rfl, by decide +kernel, by decide +kernel⟩
abbrev s_l_value : Stmt := topS 20
theorem sc_l_value : FnScope ["_law_box_here", "_law_some", "_law_deep", "_law_turn"] ["_law_box_here"] (defScope s_l_value) := ⟨rfl, rfl, rfl, by decide +kernel, rfl, by decide +kernel, by decide +kernel⟩
abbrev s_l_rule : Stmt := topS 21
theorem sc_l_rule : FnScope ["_law_box_here", "_law_found"] ["_law_box_here"] (defScope s_l_rule) := ⟨rfl, rfl, rfl, by decide +kernel, rfl, by decide +kernel, by decide +kernel⟩
abbrev s_l_rule_text : Stmt := topS 22
theorem sc_l_rule_text : FnScope ["_law_numbers", "_law_words", "_law_at"] ["_law_numbers"] (defScope s_l_rule_text) := ⟨rfl, rfl, rfl, by decide +kernel, rfl, by decide +kernel, by decide +kernel⟩
abbrev s_l_is_number : Stmt := topS 23
theorem sc_l_is_number : FnScope ["_law_word", "_law_sign"] ["_law_word"] (defScope s_l_is_number) := ⟨rfl, rfl, rfl, by decide +kernel, rfl, by decide +kernel, by decide +kernel⟩
abbrev s_l_due : Stmt := topS 24
theorem sc_l_due : FnScope ["_law_text", "_law_words", "_law_names", "_law_at", "_law_word", "_law_is_good", "_law_numbers"] ["_law_text"] (defScope s_l_due) := ⟨rfl, rfl, rfl, by decide +kernel, rfl, by decide +kernel, by decide +kernel⟩
abbrev s_l_told : Stmt := topS 25
theorem sc_l_told : FnScope ["_law_text", "_law_found", "e"] ["_law_text"] (defScope s_l_told) := ⟨rfl, rfl, rfl, by decide +kernel, rfl, by decide +kernel, by decide +kernel⟩
abbrev s_law : Stmt := topS 26
theorem sc_law : FnScope ["_law_script", "_law_k", "_law_box_here", "_law_turn", "_law_words", "_law_more", "_law_at", "_law_form", "_law_odd", "_law_text", "_law_due_here", "_law_thing", "_law_great"] ["_law_script"] (defScope s_law) := ⟨rfl, rfl, rfl, by decide +kernel, rfl, by decide +kernel, by decide +kernel⟩
structure Tx (W0 : World) (K : PySem.W.Frag) (mg : Str → Option Value) where
  range : mg "range" = none
  max : mg "max" = none
  min : mg "min" = none
  len : mg "len" = none
  repr : mg "repr" = none
  isinstance : mg "isinstance" = none
  str : mg "str" = none
  list : mg "list" = none
  abs : mg "abs" = none
  int : mg "int" = none
  enumerate : mg "enumerate" = none
  zip : mg "zip" = none
  bool : mg "bool" = none
  C_Rule : Addr
  c_Rule : ClsT K mg C_Rule "Rule"
  na_Rule_seats : NoAttr K C_Rule "seats"
  na_Rule_lapse : NoAttr K C_Rule "lapse"
  na_Rule_beat : NoAttr K C_Rule "beat"
  na_Rule_grace : NoAttr K C_Rule "grace"
  na_Rule_late : NoAttr K C_Rule "late"
  C_InvalidRule : Addr
  ge_InvalidRule : mg "InvalidRule" = some (.ref C_InvalidRule)
  C_InvalidText : Addr
  ge_InvalidText : mg "InvalidText" = some (.ref C_InvalidText)
  xo_InvalidText : OexC K C_InvalidText
  xf_InvalidText : XfC K C_InvalidText
  xc_InvalidText : ExcC K C_InvalidText
  xn_InvalidText : PySem.W.findIn K (.ref C_InvalidText) "at" = some none
  xm_InvalidText : PySem.W.exmOne K (.ref C_InvalidText) (.ref C_InvalidText) = some true
  xo_InvalidRule : OexC K C_InvalidRule
  xf_InvalidRule : XfC K C_InvalidRule
  xc_InvalidRule : ExcC K C_InvalidRule
  xn_InvalidRule : PySem.W.findIn K (.ref C_InvalidRule) "word" = some none
  xm_InvalidRule : PySem.W.exmOne K (.ref C_InvalidRule) (.ref C_InvalidRule) = some true
  xm_InvalidRule_InvalidText : PySem.W.exmOne K (.ref C_InvalidRule) (.ref C_InvalidText) = some false
  f_is_integer_from : Addr
  d_is_integer_from : FuncData
  F_is_integer_from : Fun K "is_integer_from" "is_integer_from" s_is_integer_from f_is_integer_from d_is_integer_from
  b_is_integer_from : Binds K d_is_integer_from ["value", "least"] []
  g_is_integer_from : mg "is_integer_from" = some (.ref f_is_integer_from)
  f_is_number_text : Addr
  d_is_number_text : FuncData
  F_is_number_text : Fun K "is_number_text" "is_number_text" s_is_number_text f_is_number_text d_is_number_text
  b_is_number_text : Binds K d_is_number_text ["text", "digits"] []
  g_is_number_text : mg "is_number_text" = some (.ref f_is_number_text)
  f_InvalidRule_init : Addr
  d_InvalidRule_init : FuncData
  F_InvalidRule_init : Fun K "__init__" "InvalidRule.__init__" s_InvalidRule_init f_InvalidRule_init d_InvalidRule_init
  b_InvalidRule_init : Binds K d_InvalidRule_init ["self", "word"] []
  xi_InvalidRule : PySem.W.findIn K (.ref C_InvalidRule) "__init__" = some (some (.ref f_InvalidRule_init))
  xt_InvalidRule : PySem.W.typeIn K (.ref f_InvalidRule_init) = some (.type "function")
  f_InvalidText_init : Addr
  d_InvalidText_init : FuncData
  F_InvalidText_init : Fun K "__init__" "InvalidText.__init__" s_InvalidText_init f_InvalidText_init d_InvalidText_init
  b_InvalidText_init : Binds K d_InvalidText_init ["self", "at"] []
  xi_InvalidText : PySem.W.findIn K (.ref C_InvalidText) "__init__" = some (some (.ref f_InvalidText_init))
  xt_InvalidText : PySem.W.typeIn K (.ref f_InvalidText_init) = some (.type "function")
  f_is_number_for : Addr
  d_is_number_for : FuncData
  F_is_number_for : Fun K "is_number_for" "is_number_for" s_is_number_for f_is_number_for d_is_number_for
  b_is_number_for : Binds K d_is_number_for ["word", "number"] []
  g_is_number_for : mg "is_number_for" = some (.ref f_is_number_for)
  f_is_right_at : Addr
  d_is_right_at : FuncData
  F_is_right_at : Fun K "is_right_at" "is_right_at" s_is_right_at f_is_right_at d_is_right_at
  b_is_right_at : Binds K d_is_right_at ["at", "part"] []
  g_is_right_at : mg "is_right_at" = some (.ref f_is_right_at)
  f_first_wrong : Addr
  d_first_wrong : FuncData
  F_first_wrong : Fun K "first_wrong" "first_wrong" s_first_wrong f_first_wrong d_first_wrong
  b_first_wrong : Binds K d_first_wrong ["parts"] []
  g_first_wrong : mg "first_wrong" = some (.ref f_first_wrong)
  f_Rule_init : Addr
  d_Rule_init : FuncData
  F_Rule_init : FunD K "__init__" "Rule.__init__" (defArgs s_Rule_init) (defBody s_Rule_init) (defScope s_Rule_init) [.int 0] [] f_Rule_init d_Rule_init
  b_Rule_init : Binds K d_Rule_init ["self", "seats", "lapse", "beat", "grace", "late"] []
  bd_Rule_init : ∃ ds, Vals [.int 0] ds ∧ Binds K d_Rule_init ["self", "seats", "lapse", "beat", "grace", "late"] ds
  mk_Rule : Mk K C_Rule f_Rule_init
  f_Rule_read : Addr
  d_Rule_read : FuncData
  F_Rule_read : Fun K "read" "Rule.read" s_Rule_read f_Rule_read d_Rule_read
  b_Rule_read : Binds K d_Rule_read ["cls", "text"] []
  p_Rule_read : Addr
  cr_Rule_read : ClX.CRead K C_Rule (.type "type")
  cm_Rule_read : ClX.CMet K C_Rule (.type "type") "read" p_Rule_read f_Rule_read
  f_Rule_eq : Addr
  d_Rule_eq : FuncData
  F_Rule_eq : Fun K "__eq__" "Rule.__eq__" s_Rule_eq f_Rule_eq d_Rule_eq
  b_Rule_eq : Binds K d_Rule_eq ["self", "other"] []
  i_Rule_eq : PySem.W.findIn K (.ref C_Rule) "__eq__" = some (some (.ref f_Rule_eq))
  j_Rule_eq : PySem.W.isFn K (.ref f_Rule_eq) = true
  i_Rule_ne : PySem.W.findIn K (.ref C_Rule) "__ne__" = some (some (.builtin "object.__ne__"))
  f_Rule_str : Addr
  d_Rule_str : FuncData
  F_Rule_str : Fun K "__str__" "Rule.__str__" s_Rule_str f_Rule_str d_Rule_str
  b_Rule_str : Binds K d_Rule_str ["self"] []
  i_Rule_str : PySem.W.findIn K (.ref C_Rule) "__str__" = some (some (.ref f_Rule_str))
  j_Rule_str : PySem.W.isFn K (.ref f_Rule_str) = true
  f_l_box : Addr
  d_l_box : FuncData
  F_l_box : Fun K "_law_box" "_law_box" s_l_box f_l_box d_l_box
  b_l_box : Binds K d_l_box ["_law_script", "_law_k", "_law_own"] []
  g_l_box : mg "_law_box" = some (.ref f_l_box)
  f_l_take : Addr
  d_l_take : FuncData
  F_l_take : Fun K "_law_take" "_law_take" s_l_take f_l_take d_l_take
  b_l_take : Binds K d_l_take ["_law_box_here", "_law_bound"] []
  g_l_take : mg "_law_take" = some (.ref f_l_take)
  f_l_pick : Addr
  d_l_pick : FuncData
  F_l_pick : Fun K "_law_pick" "_law_pick" s_l_pick f_l_pick d_l_pick
  b_l_pick : Binds K d_l_pick ["_law_box_here", "_law_items"] []
  g_l_pick : mg "_law_pick" = some (.ref f_l_pick)
  f_l_value : Addr
  d_l_value : FuncData
  F_l_value : Fun K "_law_value" "_law_value" s_l_value f_l_value d_l_value
  b_l_value : Binds K d_l_value ["_law_box_here"] []
  g_l_value : mg "_law_value" = some (.ref f_l_value)
  f_l_rule : Addr
  d_l_rule : FuncData
  F_l_rule : Fun K "_law_rule" "_law_rule" s_l_rule f_l_rule d_l_rule
  b_l_rule : Binds K d_l_rule ["_law_box_here"] []
  g_l_rule : mg "_law_rule" = some (.ref f_l_rule)
  f_l_rule_text : Addr
  d_l_rule_text : FuncData
  F_l_rule_text : Fun K "_law_rule_text" "_law_rule_text" s_l_rule_text f_l_rule_text d_l_rule_text
  b_l_rule_text : Binds K d_l_rule_text ["_law_numbers"] []
  g_l_rule_text : mg "_law_rule_text" = some (.ref f_l_rule_text)
  f_l_is_number : Addr
  d_l_is_number : FuncData
  F_l_is_number : Fun K "_law_is_number" "_law_is_number" s_l_is_number f_l_is_number d_l_is_number
  b_l_is_number : Binds K d_l_is_number ["_law_word"] []
  g_l_is_number : mg "_law_is_number" = some (.ref f_l_is_number)
  f_l_due : Addr
  d_l_due : FuncData
  F_l_due : Fun K "_law_due" "_law_due" s_l_due f_l_due d_l_due
  b_l_due : Binds K d_l_due ["_law_text"] []
  g_l_due : mg "_law_due" = some (.ref f_l_due)
  f_l_told : Addr
  d_l_told : FuncData
  F_l_told : Fun K "_law_told" "_law_told" s_l_told f_l_told d_l_told
  b_l_told : Binds K d_l_told ["_law_text"] []
  g_l_told : mg "_law_told" = some (.ref f_l_told)
  f_law : Addr
  d_law : FuncData
  F_law : Fun K "law" "law" s_law f_law d_law
  b_law : Binds K d_law ["_law_script"] []
  g_law : mg "law" = some (.ref f_law)
  a_WORDS : Addr
  g_WORDS : mg "WORDS" = some (.ref a_WORDS)
  s_WORDS : ∀ H : Hp, SqT K H a_WORDS [.str "seats", .str "lapse", .str "beat", .str "grace", .str "late"]
  t_TEXT_LENGTH : Tok
  g_TEXT_LENGTH : mg "TEXT_LENGTH" = some (.int 10 t_TEXT_LENGTH)
  t_MOST_DIGITS : Tok
  g_MOST_DIGITS : mg "MOST_DIGITS" = some (.int 7 t_MOST_DIGITS)
end My
set_option Elab.async false
set_option linter.all false
set_option maxRecDepth 100000
set_option maxHeartbeats 800000
namespace My
open PySem PySem.Spec PyProof.Rows L2 RZ SkE CL OW
/-- five numbers of a rule -/
def Good (ns : List Int) : Prop := ∃ s l b g t : Int, ns = [s, l, b, g, t] ∧ (1 ≤ s ∧ 1 ≤ l ∧ 1 ≤ b ∧ 1 ≤ g ∧ 0 ≤ t) ∧ s ≤ 10000000 ∧ l ≤ 10000000 ∧ b ≤ 10000000 ∧ g ≤ 10000000 ∧ t ≤ 10000000
theorem good_mk {s l b g t : Int} (h : (1 ≤ s ∧ 1 ≤ l ∧ 1 ≤ b ∧ 1 ≤ g ∧ 0 ≤ t) ∧ s ≤ 10000000 ∧ l ≤ 10000000 ∧ b ≤ 10000000 ∧ g ≤ 10000000 ∧ t ≤ 10000000) : Good [s, l, b, g, t] := ⟨_, _, _, _, _, rfl, h⟩
theorem Good.len {ns : List Int} (h : Good ns) : ns.length = 5 := by
  obtain ⟨_, _, _, _, _, rfl, _⟩ := h
  rfl
def leastOf (w : Str) : Int := if w = "late" then 0 else 1
theorem lo_0 : leastOf "seats" = 1 := by decide +kernel
theorem lo_1 : leastOf "lapse" = 1 := by decide +kernel
theorem lo_2 : leastOf "beat" = 1 := by decide +kernel
theorem lo_3 : leastOf "grace" = 1 := by decide +kernel
theorem lo_4 : leastOf "late" = 0 := by decide +kernel
theorem not_from {i : Int} {z : Str} (h : leastOf z ≤ i) : (!intFrom (.int i) (leastOf z)) = false := by
  show (!decide (leastOf z ≤ i)) = false
  rw [decide_eq_true h]
  rfl
def spIntFrom : Sp := fun vs H Q _ => ∃ (x : V) (l : Int), vs = [x, .int l] ∧ AnyV H x ∧ Q (.bl (intFrom x l)) H
def spNumFor : Sp := fun vs H Q _ => ∃ (w : Str) (x : V), vs = [.str w, x] ∧ AnyV H x ∧ Q (.bl (intFrom x (leastOf w))) H
theorem ask_intfrom {x : V} {l : Int} {H : Hp} {Q : VK} {E : XK} (h : AnyV H x) (q : Q (.bl (intFrom x l)) H) : Ask (spIntFrom ([x, .int l] ++ []) H Q E) := ⟨x, l, rfl, h, q⟩
theorem ask_numfor {x : V} {w : Str} {H : Hp} {Q : VK} {E : XK} (h : AnyV H x) (q : Q (.bl (intFrom x (leastOf w))) H) : Ask (spNumFor ([.str w, x] ++ []) H Q E) := ⟨w, x, rfl, h, q⟩
/-- the fields of a rule -/
def rf (ns : List Int) : List (Str × V) := (["seats", "lapse", "beat", "grace", "late"] : List Str).zip (ns.map V.int)
/-- a rule that is made never changes -/
@[irreducible] def ruleI (C : Addr) (r : Addr) (ns : List Int) : Hp → Prop := fun H => Good ns ∧ ∃ dx, H r = some (.ins C dx (rf ns))
theorem stable_rule {C r : Addr} {ns : List Int} : Stable (ruleI C r ns) := fun H H' k h => by
  unfold ruleI at h ⊢
  obtain ⟨g, dx, e⟩ := h
  refine ⟨g, dx, k _ _ e ?_⟩
  obtain ⟨s, l, b, g, t, rfl, _⟩ := g
  rfl
theorem rule_open {C r : Addr} {ns : List Int} {H : Hp} {L : List Ck} {I : List (Hp → Prop)} (h : Own H L I) (e : ruleI C r ns ∈ I) : ∃ dx, H r = some (.ins C dx (rf ns)) := by
  have w := h.imp e
  unfold ruleI at w
  exact w.2
theorem rule_g {C r : Addr} {ns : List Int} {H : Hp} {L : List Ck} {I : List (Hp → Prop)} (h : Own H L I) (e : ruleI C r ns ∈ I) : Good ns := by
  have w := h.imp e
  unfold ruleI at w
  exact w.1
theorem rule_close {C r dx : Addr} {ns : List Int} {H : Hp} {R : List Ck} {I : List (Hp → Prop)} (g : Good ns) (h : Own H (.pt r (.ins C dx (rf ns)) :: R) I) : Own H R (ruleI C r ns :: I) := h.tl.addI stable_rule (by unfold ruleI; exact ⟨g, dx, h.hd⟩)
theorem fld_rule {K : PySem.W.Frag} {C r : Addr} {ns : List Int} {H : Hp} {L : List Ck} {I : List (Hp → Prop)} {f : Str} {v : V} {k : V → Prop} (h : Own H L I) (e : ruleI C r ns ∈ I) (c : Cls K C) (n : NoAttr K C f) (l : (rf ns).lookup f = some v) (q : k v) : Fld K H r f k := by
  obtain ⟨dx, w⟩ := rule_open h e
  exact ⟨C, dx, _, v, w, c, n, l, q⟩
def spInit (C : Addr) : Sp := fun vs H Q _ => ∃ (p dx : Addr) (ns : List Int) (L : List Ck) (I : List (Hp → Prop)), vs = .ref p :: ns.map V.int ∧ Good ns ∧ Own H (.pt p (.ins C dx []) :: L) I ∧ ∀ H', Own H' (.pt p (.ins C dx (rf ns)) :: L) I → Q .non H'
theorem ask_init {C : Addr} {H : Hp} {k : Addr → Hp → Prop} {E : XK} {L : List Ck} {I : List (Hp → Prop)} {ns : List Int} {vs : List V} (e : vs = ns.map V.int) (g : Good ns) (h : Own H L I) (q : ∀ r H', Own H' L (ruleI C r ns :: I) → k r H') :
    Ask (∀ x dx, H x = none → H dx = none → dx ≠ x → spInit C (.ref x :: vs) (upd (upd H dx (.own x)) x (.ins C dx [])) (fun v H2 => v = .non ∧ k x H2) E) :=
  ⟨make_o (k := fun x H' => spInit C (.ref x :: vs) H' (fun v H2 => v = .non ∧ k x H2) E) h fun x dx H' w => ⟨x, dx, ns, L, I, by rw [e], g, w, fun H2 w2 => ⟨rfl, q x H2 (rule_close g w2)⟩⟩⟩
section
variable (P : Program) (W0 : World) {K : PySem.W.Frag} {mg : Str → Option Value} (base : Heap)
set_option hygiene false in
local macro_rules | `(tactic| walk_at "ask") => `(tactic| first
  | fail)
theorem G_is_integer_from (T : Tx W0 K mg) : FnOk P W0 K mg base CX0 1 T.f_is_integer_from T.d_is_integer_from ["value", "least"] spIntFrom := by
  refine T.F_is_integer_from.ok sc_is_integer_from (fun vs H Q E h => ?_) (fun cdv A outer s H vs Q E hr h => ?_)
  · obtain ⟨x, l, rfl, _⟩ := h
    rfl
  · obtain ⟨x, l, rfl, hx, q⟩ := h
    refine ⟨_, (pss_one (ps_ret (e_and (pe_callB k_isi (by rfl) T.isinstance (by decide +kernel) (pa_cons (c_var 0) (pa_cons (pe_bltn (v := .ty "int") (by rfl) T.int (by decide +kernel) rfl) pa_nil))) (e_and (e_not (pe_callB k_isi (by rfl) T.isinstance (by decide +kernel) (pa_cons (c_var 0) (pa_cons (pe_bltn (v := .ty "bool") (by rfl) T.bool (by decide +kernel) rfl) pa_nil)))) (pe_one (pe_cmpR c_ge (c_var 0) (c_var 1) (nomark _))))))), ?_⟩
    cases hx with
    | non => walk_at "go"; exact q
    | bl b => walk_at "go"; exact q
    | int i => walk_at "go"; exact q
    | str z => walk_at "go"; exact q
    | lst e =>
      (conv => whnf)
      refine IsI.mk ⟨_, _, .base (.lst e), (by walk_at "kit"), ?_⟩
      walk_at "go"
      exact q
    | tup e =>
      (conv => whnf)
      refine IsI.mk ⟨_, _, .base (.tup e), (by walk_at "kit"), ?_⟩
      walk_at "go"
      exact q
theorem G_is_number_for (T : Tx W0 K mg) : FnOk P W0 K mg base CX0 2 T.f_is_number_for T.d_is_number_for ["word", "number"] spNumFor := by
  refine T.F_is_number_for.ok sc_is_number_for (fun vs H Q E h => ?_) (fun cdv A outer s H vs Q E hr h => ?_)
  · obtain ⟨w, x, rfl, _⟩ := h
    rfl
  · obtain ⟨w, x, rfl, hx, q⟩ := h
    have hu64 := Room.units hr
    refine ⟨_, (pss_cons (ps_set (i := 2) sc_is_number_for.nd rfl (Or.inl rfl) (e_if (t_cmp (c_eq hu64) (c_var 0) pe_str (nomark _)) pe_int pe_int))
    (pss_one (ps_ret (e_call (G_is_integer_from P W0 base T) (hr.mono (by decide)) (by rfl) T.g_is_integer_from T.F_is_integer_from.kp T.b_is_integer_from .nil pass0 (pa_cons (c_var 1) (pa_cons (c_var 2) pa_nil)))))), ?_⟩
    walk_at "go"
    refine Br.mk (fun hw => ?_) (fun hw => ?_)
    · have e : leastOf w = 0 := if_pos (V.str.inj (of_decide_eq_true hw))
      rw [e] at q
      walk_at "go"
      exact ask_intfrom hx q
    · have e : leastOf w = 1 := if_neg fun z => of_decide_eq_false hw (congrArg V.str z)
      rw [e] at q
      walk_at "go"
      exact ask_intfrom hx q
set_option hygiene false in
local macro_rules | `(tactic| walk_at "cls") => `(tactic| first | exact T.c_Rule.cl | exact T.na_Rule_seats | exact T.na_Rule_lapse | exact T.na_Rule_beat | exact T.na_Rule_grace | exact T.na_Rule_late)
theorem G_Rule_init (T : Tx W0 K mg) : FnOk P W0 K mg base CX0 3 T.f_Rule_init T.d_Rule_init ["self", "seats", "lapse", "beat", "grace", "late"] (spInit T.C_Rule) := by
  refine T.F_Rule_init.ok sc_Rule_init (fun vs H Q E h => ?_) (fun cdv A outer s H vs Q E hr h => ?_)
  · obtain ⟨p, dx, ns, L, I, rfl, ⟨s, l, b, g, t, rfl, _⟩, _⟩ := h
    rfl
  · obtain ⟨p, dx, ns, L, I, rfl, ⟨s, l, b, g, t, rfl, ⟨g0, g1, g2, g3, g4⟩, _⟩, hp, q⟩ := h
    refine ⟨_, PSs.nox (pss_cons (s_for PassesOwn.never (by rfl) (i_zip (by rfl) T.zip (pa_cons (pe_glob (v := .ref _) (by rfl) T.g_WORDS rfl) (pa_cons (e_tup (pa_cons (c_var 1) (pa_cons (c_var 2) (pa_cons (c_var 3) (pa_cons (c_var 4) (pa_cons (c_var 5) pa_nil)))))) pa_nil))) (g_tup (by rfl) (g_cons (pg_name (i := 6) sc_Rule_init.nd rfl (Or.inl rfl)) (g_cons (pg_name (i := 7) sc_Rule_init.nd rfl (Or.inl rfl)) g_nil))) (pss_one (s_if (t_not (t_truth (e_call (G_is_number_for P W0 base T) (hr.mono (by decide)) (by rfl) T.g_is_number_for T.F_is_number_for.kp T.b_is_number_for .nil pass0 (pa_cons (c_var 6) (pa_cons (c_var 7) pa_nil))) (fun _ => rfl))) (pss_one ps_never) pss_nil)))
    (pss_cons (s_fld (c_var 0) (c_var 1))
    (pss_cons (s_fld (c_var 0) (c_var 2))
    (pss_cons (s_fld (c_var 0) (c_var 3))
    (pss_cons (s_fld (c_var 0) (c_var 4))
    (pss_one (s_fld (c_var 0) (c_var 5)))))))), ?_⟩
    walk_at "go"
    have hO := w
    obtain ⟨tp, htp⟩ : ∃ x, x = pp := ⟨_, rfl⟩
    subst htp
    refine ItZ.mk ⟨_, _, .inr ⟨T.s_WORDS _, SqT.of hO.hd, ?_⟩⟩
    (conv => whnf)
    refine fw_zipT (xs := [.str "seats", .str "lapse", .str "beat", .str "grace", .str "late"]) (ys := [.int s, .int l, .int b, .int g, .int t]) rfl (fun i σ H' => ∃ v u, σ = [some (.ref p), some (.int s), some (.int l), some (.int b), some (.int g), some (.int t), v, u] ∧ Own H' (.pt tp (.tup [.int s, .int l, .int b, .int g, .int t]) :: .pt p (.ins T.C_Rule dx []) :: L) I) ⟨_, _, rfl, hO⟩ (fun i σ H' ⟨_, _, _, e⟩ => ⟨T.s_WORDS _, SqT.of e.hd⟩) ?_ ?_
    · rintro i x y tq σ H' hx hy ⟨v, u, rfl, e⟩ htq
      have hi : i < 5 := (List.getElem?_eq_some_iff.mp hx).1
      have e2 := e.new (o := .tup [x, y]) htq
      obtain rfl | rfl | rfl | rfl | rfl : i = 0 ∨ i = 1 ∨ i = 2 ∨ i = 3 ∨ i = 4 := by omega
      all_goals (cases hx; cases hy; walk_at "go"; refine ask_numfor (.int _) ?_; walk_at "go"; refine br_f (not_from (by simp only [lo_0, lo_1, lo_2, lo_3, lo_4]; assumption)) ?_; walk_at "go"; exact ⟨_, _, rfl, e2.tl⟩)
    · rintro σ H' ⟨v, u, rfl, e⟩
      walk_at "go"
      exact q _ (by walk_at "own")
end
end My
set_option Elab.async false
set_option linter.all false
set_option maxRecDepth 100000
set_option maxHeartbeats 800000
namespace My
open PySem PySem.Spec PyProof.Rows L2 RZ SkE CL OW
section
variable (P : Program) (W0 : World) {K : PySem.W.Frag} {mg : Str → Option Value} (base : Heap)
theorem G_InvalidRule_init (T : Tx W0 K mg) : FnOk P W0 K mg base CX0 1 T.f_InvalidRule_init T.d_InvalidRule_init ["self", "word"] (spXI T.C_InvalidRule "word") :=
  init_x T.F_InvalidRule_init sc_InvalidRule_init T.xo_InvalidRule T.xn_InvalidRule (fun _ _ _ _ _ _ => pss_one (ps_ost (pv 0) (pv 1)))
theorem G_InvalidText_init (T : Tx W0 K mg) : FnOk P W0 K mg base CX0 1 T.f_InvalidText_init T.d_InvalidText_init ["self", "at"] (spXI T.C_InvalidText "at") :=
  init_x T.F_InvalidText_init sc_InvalidText_init T.xo_InvalidText T.xn_InvalidText (fun _ _ _ _ _ _ => pss_one (ps_ost (pv 0) (pv 1)))
end
end My
set_option Elab.async false
set_option linter.all false
set_option maxRecDepth 100000
set_option maxHeartbeats 800000
namespace My
open PySem PySem.Spec PyProof.Rows L2 RZ SkE CL OW
abbrev WRD : List Str := ["seats", "lapse", "beat", "grace", "late"]
def firstBad : List (Str × V) → Option Str
  | [] => none
  | p :: l => if intFrom p.2 (leastOf p.1) = true then firstBad l else some p.1
theorem firstBad_at : ∀ {l : List (Str × V)} {i : Nat} {p : Str × V}, l[i]? = some p → (∀ q ∈ l.take i, intFrom q.2 (leastOf q.1) = true) → intFrom p.2 (leastOf p.1) = false → firstBad l = some p.1
  | [], i, p, h, _, _ => by cases h
  | q :: l, 0, p, h, _, b => by
    cases h
    exact if_neg (by rw [b]; decide)
  | q :: l, i + 1, p, h, a, b => by
    have hq := a q (by rw [List.take_succ_cons]; exact List.mem_cons_self)
    show (if intFrom q.2 (leastOf q.1) = true then firstBad l else some q.1) = _
    rw [if_pos hq]
    exact firstBad_at (l := l) (i := i) h (fun r m => a r (by rw [List.take_succ_cons]; exact List.mem_cons_of_mem _ m)) b
theorem firstBad_none : ∀ {l : List (Str × V)}, (∀ q ∈ l, intFrom q.2 (leastOf q.1) = true) → firstBad l = none
  | [], _ => rfl
  | q :: l, a => by
    show (if intFrom q.2 (leastOf q.1) = true then firstBad l else some q.1) = _
    rw [if_pos (a q List.mem_cons_self)]
    exact firstBad_none fun r m => a r (List.mem_cons_of_mem _ m)
theorem intFrom_int {x : V} {l : Int} (h : intFrom x l = true) : ∃ i, x = .int i ∧ l ≤ i := by
  cases x with
  | int i => exact ⟨i, rfl, of_decide_eq_true h⟩
  | _ => exact absurd h (by intro z; cases z)
def spInitX (C CE : Addr) : Sp := fun vs H Q E => ∃ (p dx : Addr) (xs : List V) (L : List Ck) (I : List (Hp → Prop)), vs = .ref p :: xs ∧ xs.length = 5 ∧ Own H (.pt p (.ins C dx []) :: L) I ∧ (∀ x ∈ xs, Rdb L I x) ∧ (∀ i, V.int i ∈ xs → i ≤ 10000000) ∧
  (∀ w, firstBad (WRD.zip xs) = some w → ∀ d H', Own H' (.pt d (.xd [("word", .str w)]) :: L) I → E (.ref CE) (some d) H') ∧
  (∀ ns, firstBad (WRD.zip xs) = none → xs = ns.map V.int → Good ns → ∀ H', Own H' (.pt p (.ins C dx (rf ns)) :: L) I → Q .non H')
theorem ask_initX {C CE : Addr} {H : Hp} {k : Addr → Hp → Prop} {E : XK} {L : List Ck} {I : List (Hp → Prop)} {xs : List V} (l : xs.length = 5) (h : Own H L I) (a : ∀ x ∈ xs, Rdb L I x) (u : ∀ i, V.int i ∈ xs → i ≤ 10000000)
    (bad : ∀ w, firstBad (WRD.zip xs) = some w → ∀ d H', Own H' (.pt d (.xd [("word", .str w)]) :: L) I → E (.ref CE) (some d) H') (q : ∀ ns, firstBad (WRD.zip xs) = none → xs = ns.map V.int → Good ns → ∀ r H', Own H' L (ruleI C r ns :: I) → k r H') :
    Ask (∀ x dx, H x = none → H dx = none → dx ≠ x → spInitX C CE (.ref x :: xs) (upd (upd H dx (.own x)) x (.ins C dx [])) (fun v H2 => v = .non ∧ k x H2) E) :=
  ⟨make_o (k := fun x H' => spInitX C CE (.ref x :: xs) H' (fun v H2 => v = .non ∧ k x H2) E) h fun x dx H' w => ⟨x, dx, xs, L, I, rfl, l, w, a, u, bad, fun ns hb hn g H2 w2 => ⟨rfl, q ns hb hn g x H2 (rule_close g w2)⟩⟩⟩
section
variable (P : Program) (W0 : World) {K : PySem.W.Frag} {mg : Str → Option Value} (base : Heap)
set_option hygiene false in
local macro_rules | `(tactic| walk_at "cls") => `(tactic| first | exact T.c_Rule.cl | exact T.na_Rule_seats | exact T.na_Rule_lapse | exact T.na_Rule_beat | exact T.na_Rule_grace | exact T.na_Rule_late)
local macro_rules | `(tactic| walk_at "fld") => `(tactic| refine fld_rule (by assumption) (by walk_at "mem") (by walk_at "cls") (by walk_at "cls") rfl ?_)
local macro_rules | `(tactic| walk_at "good") => `(tactic| first | assumption | exact good_mk (by omega))
local macro_rules | `(tactic| walk_at "sm") => `(tactic| assumption)
local macro_rules | `(tactic| walk_at "lo") => `(tactic| first | omega | (simp only [lo_0, lo_1, lo_2, lo_3, lo_4]; omega))
set_option hygiene false in
local macro_rules | `(tactic| walk_at "seq") => `(tactic| first | exact T.s_WORDS _)
set_option hygiene false in
local macro_rules | `(tactic| walk_at "ask") => `(tactic| first
  | fail)
theorem GX_Rule_init (T : Tx W0 K mg) : FnOk P W0 K mg base (L2.CX P W0) 3 T.f_Rule_init T.d_Rule_init ["self", "seats", "lapse", "beat", "grace", "late"] (spInitX T.C_Rule T.C_InvalidRule) := by
  refine T.F_Rule_init.ok sc_Rule_init (fun vs H Q E h => ?_) (fun cdv A outer s H vs Q E hr h => ?_)
  · obtain ⟨p, dx, xs, L, I, rfl, l, _⟩ := h
    rw [List.length_cons, l]
    rfl
  · obtain ⟨p, dx, xs, L, I, rfl, l, hp, ha, hu, bad, q⟩ := h
    match xs, l with
    | [x0, x1, x2, x3, x4], _ =>
    refine ⟨_, (pss_cons (s_for (passes_of rfl) (by rfl) (i_zip (by rfl) T.zip (pa_cons (pe_glob (v := .ref _) (by rfl) T.g_WORDS rfl) (pa_cons (e_tup (pa_cons (c_var 1) (pa_cons (c_var 2) (pa_cons (c_var 3) (pa_cons (c_var 4) (pa_cons (c_var 5) pa_nil)))))) pa_nil))) (g_tup (by rfl) (g_cons (pg_name (i := 6) sc_Rule_init.nd rfl (Or.inl rfl)) (g_cons (pg_name (i := 7) sc_Rule_init.nd rfl (Or.inl rfl)) g_nil))) (pss_one (s_if (t_not (t_truth (e_call (G_is_number_for P W0 base T) (hr.mono (by decide)) (by rfl) T.g_is_number_for T.F_is_number_for.kp T.b_is_number_for .nil pass0 (pa_cons (c_var 6) (pa_cons (c_var 7) pa_nil))) (fun _ => rfl))) (pss_one (s_raise1 (by rfl) (takes_of rfl rfl rfl rfl) T.xo_InvalidRule T.xi_InvalidRule T.xt_InvalidRule (G_InvalidRule_init P W0 base T) (hr.mono (by decide)) T.b_InvalidRule_init pass0 (by rfl) T.ge_InvalidRule (pa_cons (c_var 6) pa_nil))) pss_nil)))
    (pss_cons (s_fld (c_var 0) (c_var 1))
    (pss_cons (s_fld (c_var 0) (c_var 2))
    (pss_cons (s_fld (c_var 0) (c_var 3))
    (pss_cons (s_fld (c_var 0) (c_var 4))
    (pss_one (s_fld (c_var 0) (c_var 5)))))))), ?_⟩
    walk_at "go"
    have hO := w
    obtain ⟨tp, htp⟩ : ∃ x, x = pp := ⟨_, rfl⟩
    subst htp
    refine ItZ.mk ⟨_, _, .inr ⟨T.s_WORDS _, SqT.of hO.hd, ?_⟩⟩
    (conv => whnf)
    refine fw_zipT (xs := [.str "seats", .str "lapse", .str "beat", .str "grace", .str "late"]) (ys := [x0, x1, x2, x3, x4]) rfl (fun i σ H' => ∃ v u, (∀ q ∈ (WRD.zip [x0, x1, x2, x3, x4]).take i, intFrom q.2 (leastOf q.1) = true) ∧ σ = [some (.ref p), some x0, some x1, some x2, some x3, some x4, v, u] ∧ Own H' (.pt tp (.tup [x0, x1, x2, x3, x4]) :: .pt p (.ins T.C_Rule dx []) :: L) I) ⟨_, _, fun q m => (by cases m), rfl, hO⟩ (fun i σ H' ⟨_, _, _, _, e⟩ => ⟨T.s_WORDS _, SqT.of e.hd⟩) ?_ ?_
    · rintro i x y tq σ H' hx hy ⟨v, u, hok, rfl, e⟩ htq
      have e2 := e.new (o := .tup [x, y]) htq
      have hym := List.mem_of_getElem? hy
      have hz : (WRD.zip [x0, x1, x2, x3, x4])[i]? = (match x with | .str w => some (w, y) | _ => none) := by
        have hi : i < 5 := lt_get hx
        obtain rfl | rfl | rfl | rfl | rfl : i = 0 ∨ i = 1 ∨ i = 2 ∨ i = 3 ∨ i = 4 := by omega
        all_goals (cases hx; cases hy; rfl)
      obtain ⟨wd, rfl⟩ : ∃ w, x = .str w := by
        have hi : i < 5 := lt_get hx
        obtain rfl | rfl | rfl | rfl | rfl : i = 0 ∨ i = 1 ∨ i = 2 ∨ i = 3 ∨ i = 4 := by omega
        all_goals (cases hx; exact ⟨_, rfl⟩)
      have hz : (WRD.zip [x0, x1, x2, x3, x4])[i]? = some (wd, y) := hz
      walk_at "go"
      refine ask_numfor (ha y hym [.pt tq (.tup [.str wd, y]), .pt tp (.tup [x0, x1, x2, x3, x4]), .pt p (.ins T.C_Rule dx [])] _ e2) ?_
      walk_at "go"
      refine Br.mk (fun hb => ?_) (fun hb => ?_)
      · have hb : intFrom y (leastOf wd) = false := by simpa using hb
        walk_at "go"
        exact bad wd (firstBad_at hz hok hb) _ _ (by walk_at "own")
      · have hb : intFrom y (leastOf wd) = true := by simpa using hb
        refine ⟨_, _, fun r m => ?_, rfl, by walk_at "own"⟩
        rw [List.take_add_one, hz] at m
        rcases List.mem_append.mp m with m | m
        · exact hok r m
        · rw [List.mem_singleton.mp m]
          exact hb
    · rintro σ H' ⟨v, u, hok, rfl, e⟩
      have hok : ∀ q ∈ WRD.zip [x0, x1, x2, x3, x4], intFrom q.2 (leastOf q.1) = true := hok
      obtain ⟨i0, rfl, b0⟩ := intFrom_int (hok ("seats", x0) (by simp [WRD]))
      obtain ⟨i1, rfl, b1⟩ := intFrom_int (hok ("lapse", x1) (by simp [WRD]))
      obtain ⟨i2, rfl, b2⟩ := intFrom_int (hok ("beat", x2) (by simp [WRD]))
      obtain ⟨i3, rfl, b3⟩ := intFrom_int (hok ("grace", x3) (by simp [WRD]))
      obtain ⟨i4, rfl, b4⟩ := intFrom_int (hok ("late", x4) (by simp [WRD]))
      have u0 := hu i0 (by simp)
      have u1 := hu i1 (by simp)
      have u2 := hu i2 (by simp)
      have u3 := hu i3 (by simp)
      have u4 := hu i4 (by simp)
      simp only [lo_0, lo_1, lo_2, lo_3, lo_4] at b0 b1 b2 b3 b4
      walk_at "go"
      exact q [i0, i1, i2, i3, i4] (firstBad_none hok) rfl (good_mk (by omega)) _ (by walk_at "own")
end
end My
set_option Elab.async false
set_option linter.all false
set_option maxRecDepth 100000
set_option maxHeartbeats 800000
namespace My
open PySem PySem.Spec PyProof.Rows L2 RZ SkE CL OW
abbrev WRDS : List Str := ["seats", "lapse", "beat", "grace", "late"]
def rightS (i : Nat) (z : Str) : Bool := if i % 2 = 1 then numS z 7 else decide (WRDS[i / 2]? = some z)
/-- the first part of a text that is none of a rule's -/
def wrongR (ss : List Str) : Option Nat := match (ss.take 10).zipIdx.find? (fun p => !rightS p.2 p.1) with
  | some p => some p.2
  | none => if ss.length = 10 then none else some (min ss.length 10)
theorem str_dec (a z : Str) : decide (some a = some z) = decide (V.str z = V.str a) := decide_eq_decide.mpr ⟨fun h => congrArg V.str (Option.some.inj h).symm, fun h => congrArg some (V.str.inj h).symm⟩
theorem cut10 (xs : List V) : cutV xs none (some 10) = xs.take 10 := by
  unfold cutV
  rw [show HT.sIx xs.length 0 none = 0 from rfl, show HT.sIx xs.length xs.length (some 10) = min 10 xs.length from rfl, Nat.sub_zero, List.drop_zero]
  by_cases h : xs.length ≤ 10
  · rw [Nat.min_eq_right h, List.take_length, List.take_of_length_le h]
  · rw [Nat.min_eq_left (by omega)]
theorem find_drop {l : List (Str × Nat)} {P : Str × Nat → Bool} {i : Nat} {x : Str × Nat} (h : l[i]? = some x) : (l.drop i).find? P = if P x then some x else (l.drop (i + 1)).find? P := by
  rw [List.drop_eq_getElem_cons (List.getElem?_eq_some_iff.mp h).1, (List.getElem?_eq_some_iff.mp h).2, List.find?_cons]
  cases P x <;> rfl
theorem pick_odd (x0 x1 x2 x3 x4 x5 x6 x7 x8 x9 : V) : pickS [x0, x1, x2, x3, x4, x5, x6, x7, x8, x9] (some ((1:Nat):Int)) (some ((2:Nat):Int)) = [x1, x3, x5, x7, x9] := by
  unfold pickS
  have : sliceRange (sliceBounds (some ((1:Nat):Int)) none (some ((2:Nat):Int)) [x0, x1, x2, x3, x4, x5, x6, x7, x8, x9].length).1 (sliceBounds (some ((1:Nat):Int)) none (some ((2:Nat):Int)) [x0, x1, x2, x3, x4, x5, x6, x7, x8, x9].length).2.1 (sliceBounds (some ((1:Nat):Int)) none (some ((2:Nat):Int)) [x0, x1, x2, x3, x4, x5, x6, x7, x8, x9].length).2.2 = [1, 3, 5, 7, 9] := by
    show sliceRange (sliceBounds (some ((1:Nat):Int)) none (some ((2:Nat):Int)) 10).1 (sliceBounds (some ((1:Nat):Int)) none (some ((2:Nat):Int)) 10).2.1 (sliceBounds (some ((1:Nat):Int)) none (some ((2:Nat):Int)) 10).2.2 = [1, 3, 5, 7, 9]
    decide +kernel
  rw [this]
  rfl
def spNumT : Sp := fun vs H Q _ => ∃ (s : Str) (d : Int), vs = [.str s, .int d] ∧ s.length ≤ 16777216 ∧ Q (.bl (numS s d)) H
theorem ask_numt {s : Str} {d : Int} {H : Hp} {Q : VK} {E : XK} (h : s.length ≤ 16777216) (q : Q (.bl (numS s d)) H) : Ask (spNumT ([.str s, .int d] ++ []) H Q E) := ⟨s, d, rfl, h, q⟩
def spRight : Sp := fun vs H Q _ => ∃ (i : Nat) (z : Str), vs = [.int (i : Nat), .str z] ∧ i < 10 ∧ z.length ≤ 16777216 ∧ Q (.bl (rightS i z)) H
theorem ask_right {i : Nat} {z : Str} {H : Hp} {Q : VK} {E : XK} (h : i < 10) (l : z.length ≤ 16777216) (q : Q (.bl (rightS i z)) H) : Ask (spRight ([.int (i : Nat), .str z] ++ []) H Q E) := ⟨i, z, rfl, h, l, q⟩
def spWrong : Sp := fun vs H Q _ => ∃ (a : Addr) (ss : List Str) (L R : List Ck) (I : List (Hp → Prop)), vs = [.ref a] ∧ Own H L I ∧ Pull L (.pt a (.lst (ss.map V.str))) R ∧ (∀ z ∈ ss, z.length ≤ 16777216) ∧ ∀ H', Own H' L I → Q (natA (wrongR ss)) H'
theorem ask_wrong {a : Addr} {ss : List Str} {H : Hp} {Q : VK} {E : XK} {L R : List Ck} {I : List (Hp → Prop)} (h : Own H L I) (p : Pull L (.pt a (.lst (ss.map V.str))) R) (l : ∀ z ∈ ss, z.length ≤ 16777216) (q : ∀ H', Own H' L I → Q (natA (wrongR ss)) H') : Ask (spWrong ([.ref a] ++ []) H Q E) := ⟨a, ss, L, R, I, rfl, h, p, l, q⟩
/-- a text that tells the numbers of a rule -/
structure RText (z : Str) (ns : List Int) : Prop where
  l : z.length ≤ 16777000
  b : ∀ s ∈ Txt.split z " ", s.length ≤ 16777216
  w : wrongR (Txt.split z " ") = none
  n : ns.length = 5
  i : ∀ (i : Nat) (s : Str) (n : Int), (Txt.split z " ")[2 * i + 1]? = some s → ns[i]? = some n → intText? s = some n ∧ s.length ≤ 640
  k : (Txt.split z " ").length = 10
def spRead (C : Addr) : Sp := fun vs H Q _ => ∃ (z : Str) (ns : List Int) (L : List Ck) (I : List (Hp → Prop)), vs = [.ref C, .str z] ∧ Own H L I ∧ RText z ns ∧ Good ns ∧ ∀ H' r, Own H' L (ruleI C r ns :: I) → Q (.ref r) H'
theorem ask_read {C : Addr} {z : Str} {ns : List Int} {H : Hp} {Q : VK} {E : XK} {L : List Ck} {I : List (Hp → Prop)} (h : Own H L I) (t : RText z ns) (g : Good ns) (q : ∀ H' r, Own H' L (ruleI C r ns :: I) → Q (.ref r) H') : Ask (spRead C ([.ref C, .str z]) H Q E) := ⟨z, ns, L, I, rfl, h, t, g, q⟩
section
variable (P : Program) (W0 : World) {K : PySem.W.Frag} {mg : Str → Option Value} (base : Heap)
local macro_rules | `(tactic| walk_at "len") => `(tactic| first | assumption | omega)
set_option hygiene false in
local macro_rules | `(tactic| walk_at "cls") => `(tactic| first | exact T.c_Rule.cl | exact T.na_Rule_seats | exact T.na_Rule_lapse | exact T.na_Rule_beat | exact T.na_Rule_grace | exact T.na_Rule_late)
local macro_rules | `(tactic| walk_at "fld") => `(tactic| refine fld_rule (by assumption) (by walk_at "mem") (by walk_at "cls") (by walk_at "cls") rfl ?_)
local macro_rules | `(tactic| walk_at "good") => `(tactic| first | assumption | exact good_mk (by omega))
local macro_rules | `(tactic| walk_at "sm") => `(tactic| assumption)
local macro_rules | `(tactic| walk_at "lo") => `(tactic| first | omega | (simp only [lo_0, lo_1, lo_2, lo_3, lo_4]; omega))
set_option hygiene false in
local macro_rules | `(tactic| walk_at "seq") => `(tactic| first | exact T.s_WORDS _)
set_option hygiene false in
local macro_rules | `(tactic| walk_at "ask") => `(tactic| first
  | fail)
theorem G_is_number_text (T : Tx W0 K mg) : FnOk P W0 K mg base CX0 1 T.f_is_number_text T.d_is_number_text ["text", "digits"] spNumT := by
  refine T.F_is_number_text.ok sc_is_number_text (fun vs H Q E h => ?_) (fun cdv A outer s H vs Q E hr h => ?_)
  · obtain ⟨z, d, rfl, _⟩ := h
    rfl
  · obtain ⟨z, d, rfl, hz, q⟩ := h
    have hu64 := Room.units hr
    have sl := sizeLine_eq
    refine ⟨_, (pss_cons (s_if (PW.pt (w_or (t_cmp c_gt (pe_callB k_len (by rfl) T.len PySem.boot_len (pa_cons (c_var 0) pa_nil)) (c_var 1) (nomark _)) (w_or (t_not (t_truth (e_isasc (c_var 0)) (fun _ => rfl))) (w_or1 (t_not (t_truth (e_isdig (c_var 0)) (fun _ => rfl))))))) (pss_one (ps_ret pe_bl)) pss_nil)
    (pss_one (ps_ret (e_or (pe_cmpR (c_eq hu64) (c_var 0) pe_str (nomark _)) (pe_one (pe_cmpR (c_ne hu64) (pe_ix (c_ixK (K := K) rfl) (c_var 0) pe_int (fun _ _ => rfl)) pe_str (nomark _))))))), ?_⟩
    walk_at "go"
    refine Br.mk (fun hc => ?_) (fun hc => ?_)
    · have hc : d < (z.length : Int) := of_decide_eq_true hc
      rw [show numS z d = false by unfold numS; rw [decide_eq_false (by omega)]; rfl] at q
      walk_at "go"
      exact q
    · have hc : ¬ d < (z.length : Int) := of_decide_eq_false hc
      have q : Q (.bl (digS z && (decide (z = "0") || decide ((TL.tl z).head? ≠ some 48)))) H := by
        have q := q
        unfold numS at q
        rw [decide_eq_true (by omega), Bool.true_and] at q
        exact q
      rw [← asc_dig] at q
      walk_at "go"
      cases ha : Txt.isascii z with
      | false =>
        rw [ha] at q
        walk_at "go"
        exact q
      | true =>
        rw [ha, Bool.true_and] at q
        walk_at "go"
        cases hd : Txt.isdigit z with
        | false =>
          rw [hd] at q
          walk_at "go"
          exact q
        | true =>
          rw [hd, Bool.true_and] at q
          have lz : 0 < z.length := by
            unfold Txt.isdigit at hd
            exact of_decide_eq_true (Bool.and_eq_true_iff.mp hd).1
          obtain ⟨c, l, e⟩ : ∃ c l, z.cps.toList = c :: l := by
            rw [TL.len_tl] at lz
            exact List.exists_cons_of_length_pos lz
          have hh : (TL.tl z).head? = some c := by show z.cps.toList.head? = _; rw [e]; rfl
          rw [hh] at q
          walk_at "go"
          by_cases hz0 : z = "0"
          · refine br_t (by rw [if_neg (by decide)]; exact decide_eq_true (congrArg V.str hz0)) ?_
            walk_at "go"
            rw [decide_eq_true hz0] at q
            exact q
          · refine br_f (by rw [if_neg (by decide)]; exact decide_eq_false (fun y => hz0 (V.str.inj y))) ?_
            rw [decide_eq_false hz0, Bool.false_or] at q
            walk_at "go"
            refine At.mk ⟨c, by rw [e]; exact atI_nat (j := 0) (show (c :: l)[0]? = some c from rfl), ?_⟩
            walk_at "go"
            refine cast (congrArg (fun b => Q (V.bl b) H) ?_) q
            rw [if_pos rfl]
            by_cases hc0 : c = 48
            · subst hc0
              rw [decide_eq_true (show V.str (⟨#[48]⟩ : Str) = V.str "0" from rfl), decide_eq_false (fun y => y rfl)]
              rfl
            · rw [decide_eq_true (show some c ≠ some 48 from fun y => hc0 (Option.some.inj y)), decide_eq_false (show ¬ V.str (⟨#[c]⟩ : Str) = V.str "0" from fun y => ?_)]
              · rfl
              · have y := V.str.inj y
                have y2 : TL.tl (⟨#[c]⟩ : Str) = TL.tl "0" := congrArg TL.tl y
                have y3 : [c] = [48] := y2
                exact hc0 (List.cons.inj y3).1
theorem G_is_right_at (T : Tx W0 K mg) : FnOk P W0 K mg base CX0 2 T.f_is_right_at T.d_is_right_at ["at", "part"] spRight := by
  refine T.F_is_right_at.ok sc_is_right_at (fun vs H Q E h => ?_) (fun cdv A outer s H vs Q E hr h => ?_)
  · obtain ⟨i, z, rfl, _⟩ := h
    rfl
  · obtain ⟨i, z, rfl, hi, hz, q⟩ := h
    have hu64 := Room.units hr
    have sl := sizeLine_eq
    unfold rightS at q
    refine ⟨_, (pss_cons (s_if (t_truth (pe_op c_odd (c_var 0) pe_int) (fun _ => rfl)) (pss_one (ps_ret (e_call (G_is_number_text P W0 base T) (hr.mono (by decide)) (by rfl) T.g_is_number_text T.F_is_number_text.kp T.b_is_number_text .nil pass0 (pa_cons (c_var 1) (pa_cons (pe_glob (v := .int 7) (by rfl) T.g_MOST_DIGITS ⟨_, rfl⟩) pa_nil))))) pss_nil)
    (pss_one (ps_ret (pe_cmpR (c_eq hu64) (c_var 1) (pe_ix (c_ixK (K := K) rfl) (pe_glob (v := .ref _) (by rfl) T.g_WORDS rfl) (pe_op c_div (c_var 0) pe_int) (fun _ _ => rfl)) (nomark _))))), ?_⟩
    walk_at "go"
    by_cases ho : i % 2 = 1
    · rw [if_pos ho] at q
      refine br_t (by have : ((i : Int) % 2) = 1 := by omega
                      rw [this]; rfl) ?_
      walk_at "go"
      refine ask_numt hz ?_
      walk_at "go"
      exact q
    · rw [if_neg ho] at q
      refine br_f (by have : ((i : Int) % 2) = 0 := by omega
                      rw [this]; rfl) ?_
      have hi5 : i = 0 ∨ i = 2 ∨ i = 4 ∨ i = 6 ∨ i = 8 := by omega
      rcases hi5 with rfl | rfl | rfl | rfl | rfl <;>
        (walk_at "go"
         exact cast (congrArg (fun b => Q (V.bl b) H) (str_dec _ _)) q)
theorem G_first_wrong (T : Tx W0 K mg) : FnOk P W0 K mg base CX0 3 T.f_first_wrong T.d_first_wrong ["parts"] spWrong := by
  refine T.F_first_wrong.ok sc_first_wrong (fun vs H Q E h => ?_) (fun cdv A outer s H vs Q E hr h => ?_)
  · obtain ⟨a, ss, L, R, I, rfl, _⟩ := h
    rfl
  · obtain ⟨a, ss, L, R, I, rfl, hO, hp, hl, q⟩ := h
    have hu64 := Room.units hr
    have sl := sizeLine_eq
    refine ⟨_, (pss_cons (s_for PassesOwn.never (by rfl) (i_enum (by rfl) T.enumerate (pa_cons (pe_slice c_slG (c_var 0) po_none (o_some (pe_glob (v := .int 10) (by rfl) T.g_TEXT_LENGTH ⟨_, rfl⟩))) pa_nil)) (g_tup (by rfl) (g_cons (pg_name (i := 1) sc_first_wrong.nd rfl (Or.inl rfl)) (g_cons (pg_name (i := 2) sc_first_wrong.nd rfl (Or.inl rfl)) g_nil))) (pss_one (s_if (t_not (t_truth (e_call (G_is_right_at P W0 base T) (hr.mono (by decide)) (by rfl) T.g_is_right_at T.F_is_right_at.kp T.b_is_right_at .nil pass0 (pa_cons (c_var 1) (pa_cons (c_var 2) pa_nil))) (fun _ => rfl))) (pss_one (ps_ret (c_var 1))) pss_nil)))
    (pss_cons (s_if (t_cmp (c_eq hu64) (pe_callB k_len (by rfl) T.len PySem.boot_len (pa_cons (c_var 0) pa_nil)) (pe_glob (v := .int 10) (by rfl) T.g_TEXT_LENGTH ⟨_, rfl⟩) (nomark _)) (pss_one (ps_ret pe_non)) pss_nil)
    (pss_one (ps_ret (pe_callB (k_minL (by rfl)) (by rfl) T.min (by decide +kernel) (pa_cons (pe_callB k_len (by rfl) T.len PySem.boot_len (pa_cons (c_var 0) pa_nil)) (pa_cons (pe_glob (v := .int 10) (by rfl) T.g_TEXT_LENGTH ⟨_, rfl⟩) pa_nil))))))), ?_⟩
    walk_at "go"
    rw [cut10, ← List.map_take] at w
    refine fw_enum (xs := (ss.take 10).map V.str) (fun i σ H' => ∃ v1 v2 : Option V, σ = [some (.ref a), v1, v2] ∧ (ss.take 10).zipIdx.find? (fun p => !rightS p.2 p.1) = ((ss.take 10).zipIdx.drop i).find? (fun p => !rightS p.2 p.1) ∧ Own H' (.pt pp (.lst ((ss.take 10).map V.str)) :: L) I) ⟨_, _, rfl, rfl, w⟩ (fun i σ H' _ ⟨_, _, _, _, e⟩ => SqL.of (e.get .head)) ?_ ?_
    · rintro i x tq σ H1 hx ⟨v1, v2, rfl, hf, w⟩ htq
      have w := w.new (o := .tup [.int (i : Nat), x]) htq
      rw [List.getElem?_map] at hx
      obtain ⟨z, hz, rfl⟩ := Option.map_eq_some_iff.mp hx
      have il := lt_get hz
      rw [List.length_take] at il
      have zi : (ss.take 10).zipIdx[i]? = some (z, i) := by
        rw [List.getElem?_zipIdx, hz, Nat.zero_add]
        rfl
      rw [find_drop zi] at hf
      have hf : _ = (if (!rightS i z) = true then some (z, i) else _) := hf
      walk_at "go"
      refine ask_right (by omega) (hl z (List.mem_of_mem_take (List.mem_of_getElem? hz))) ?_
      cases hc : rightS i z with
      | true =>
        rw [hc, if_neg (by decide)] at hf
        walk_at "go"
        exact ⟨_, _, rfl, hf, by walk_at "own"⟩
      | false =>
        rw [hc, if_pos (by decide)] at hf
        walk_at "go"
        have wr : wrongR ss = some i := by unfold wrongR; rw [hf]
        rw [wr] at q
        exact q _ (w.pick (by walk_at "pick"))
    · rintro σ H1 ⟨v1, v2, rfl, hf, w⟩
      rw [List.length_map, List.drop_of_length_le (by rw [List.length_zipIdx]; exact Nat.le_refl _)] at hf
      have hf : (ss.take 10).zipIdx.find? (fun p => !rightS p.2 p.1) = none := hf
      unfold wrongR at q
      rw [hf] at q
      walk_at "go"
      by_cases h10 : ss.length = 10
      · rw [if_pos h10] at q
        refine br_t (by rw [if_neg (by decide), List.length_map, h10]; rfl) ?_
        walk_at "go"
        exact q _ (w.pick (by walk_at "pick"))
      · rw [if_neg h10] at q
        refine br_f (by rw [if_neg (by decide), List.length_map]; exact decide_eq_false (fun z => h10 (by have := V.int.inj z; omega))) ?_
        walk_at "go"
        have e : (if (10 : Int) < ((ss.map V.str).length : Nat) then (10 : Int) else ((ss.map V.str).length : Nat)) = ((min ss.length 10 : Nat) : Int) := by
          rw [List.length_map]
          split <;> omega
        rw [e]
        exact q _ (w.pick (by walk_at "pick"))
theorem G_Rule_read (T : Tx W0 K mg) : FnOk P W0 K mg base CX0 5 T.f_Rule_read T.d_Rule_read ["cls", "text"] (spRead T.C_Rule) := by
  refine T.F_Rule_read.ok sc_Rule_read (fun vs H Q E h => ?_) (fun cdv A outer s H vs Q E hr h => ?_)
  · obtain ⟨z, ns, L, I, rfl, _⟩ := h
    rfl
  · obtain ⟨z, ns, L, I, rfl, hO, ht, hg, q⟩ := h
    have hu64 := Room.units hr
    have sl := sizeLine_eq
    have zl := ht.l
    have tb := ht.b
    refine ⟨_, (pss_cons (s_if (t_not (t_truth (pe_callB k_isi (by rfl) T.isinstance (by decide +kernel) (pa_cons (c_var 1) (pa_cons (pe_bltn (v := .ty "str") (by rfl) T.str (by decide +kernel) rfl) pa_nil))) (fun _ => rfl))) (pss_one ps_never) pss_nil)
    (pss_cons (ps_set (i := 2) sc_Rule_read.nd rfl (Or.inl rfl) (e_split (c_var 1) pe_str))
    (pss_cons (ps_set (i := 3) sc_Rule_read.nd rfl (Or.inl rfl) (e_call (G_first_wrong P W0 base T) (hr.mono (by decide)) (by rfl) T.g_first_wrong T.F_first_wrong.kp T.b_first_wrong .nil pass0 (pa_cons (c_var 2) pa_nil)))
    (pss_cons (s_if (t_cmp c_isnotG (c_var 3) pe_non (nomark _)) (pss_one ps_never) pss_nil)
    (pss_cons (ps_asg (e_lc (own := [("part", 9)]) (by rfl) sc_Rule_read.nd (i_val (e_stepF (c_var 2) (by decide))) (blkOk_by (own := [("part", 9)]) (N := ["cls", "text", "parts", "at", "seats", "lapse", "beat", "grace", "late", "part"]) (sc := defScope s_Rule_read) (by decide +kernel)) (fun _ _ _ _ _ => (pg_name (i := 9) sc_Rule_read.nd rfl (Or.inl rfl))) (fun _ _ _ _ _ => pts_nil) (fun _ _ _ _ _ => (pe_callTy k_intG (by rfl) T.int (by decide +kernel) (pa_cons (c_var 9) pa_nil)))) (g_unl (by rfl) (g_cons (pg_name (i := 4) sc_Rule_read.nd rfl (Or.inl rfl)) (g_cons (pg_name (i := 5) sc_Rule_read.nd rfl (Or.inl rfl)) (g_cons (pg_name (i := 6) sc_Rule_read.nd rfl (Or.inl rfl)) (g_cons (pg_name (i := 7) sc_Rule_read.nd rfl (Or.inl rfl)) (g_cons (pg_name (i := 8) sc_Rule_read.nd rfl (Or.inl rfl)) g_nil)))))))
    (pss_one (ps_ret (e_makeV (i := 0) T.mk_Rule (G_Rule_init P W0 base T) (hr.mono (by decide)) (by rfl) (by first | exact Or.inl rfl | exact Or.inr (Or.inl rfl) | exact Or.inr (Or.inr rfl)) T.b_Rule_init .nil pass0 (pa_cons (c_var 4) (pa_cons (c_var 5) (pa_cons (c_var 6) (pa_cons (c_var 7) (pa_cons (c_var 8) pa_nil))))))))))))), ?_⟩
    walk_at "go"
    refine Chk.mk ⟨by decide, by omega⟩ ?_
    walk_at "go"
    refine ask_wrong w (by walk_at "pull") tb (fun H1 w => ?_)
    rw [ht.w]
    walk_at "go"
    obtain ⟨ss, hss⟩ : ∃ ss, ss = Txt.split z " " := ⟨_, rfl⟩
    have tk := ht.k
    have ti := ht.i
    rw [← hss] at tk ti w
    match ss, tk with
    | [s0, s1, s2, s3, s4, s5, s6, s7, s8, s9], _ =>
    obtain ⟨a0, a1, a2, a3, a4, rfl, _⟩ := id hg
    have i0 := ti 0 s1 a0 rfl rfl
    have i1 := ti 1 s3 a1 rfl rfl
    have i2 := ti 2 s5 a2 rfl rfl
    have i3 := ti 3 s7 a3 rfl rfl
    have i4 := ti 4 s9 a4 rfl rfl
    refine StepL.mk ⟨_, SqL.of (w.get (by walk_at "pull" : Pull _ (Ck.pt pp _) _)), ?_, ?_⟩
    · rw [show pickS (([s0, s1, s2, s3, s4, s5, s6, s7, s8, s9] : List Str).map V.str) (some ((1 : Nat) : Int)) (some ((2 : Nat) : Int)) = ([s1, s3, s5, s7, s9] : List Str).map V.str from pick_odd _ _ _ _ _ _ _ _ _ _]
      show 5 ≤ sizeLine
      omega
    rw [show pickS (([s0, s1, s2, s3, s4, s5, s6, s7, s8, s9] : List Str).map V.str) (some ((1 : Nat) : Int)) (some ((2 : Nat) : Int)) = ([s1, s3, s5, s7, s9] : List Str).map V.str from pick_odd _ _ _ _ _ _ _ _ _ _]
    refine new_o w (fun pq HH w => ?_)
    walk_at "go"
    refine newa_o w (fun y w => ?_)
    refine la_list (xs := ([s1, s3, s5, s7, s9] : List Str).map V.str) (fun i H' => Own H' (.pt y (.lst ((([a0, a1, a2, a3, a4] : List Int).take i).map V.int)) :: .pt pq (.lst (([s1, s3, s5, s7, s9] : List Str).map V.str)) :: L) I) (Own.pick w (by walk_at "pick")) (fun i H' _ e => SqL.of (e.get (.tail .head))) ?_ ?_
    · rintro i x H3 hx w
      have hi : i < 5 := lt_get hx
      have hi5 : i = 0 ∨ i = 1 ∨ i = 2 ∨ i = 3 ∨ i = 4 := by omega
      rcases hi5 with rfl | rfl | rfl | rfl | rfl
      · cases hx
        walk_at "go"
        refine IntS.mk ⟨a0, i0.1, i0.2, ?_⟩
        walk_at "go"
        exact w
      · cases hx
        walk_at "go"
        refine IntS.mk ⟨a1, i1.1, i1.2, ?_⟩
        walk_at "go"
        exact w
      · cases hx
        walk_at "go"
        refine IntS.mk ⟨a2, i2.1, i2.2, ?_⟩
        walk_at "go"
        exact w
      · cases hx
        walk_at "go"
        refine IntS.mk ⟨a3, i3.1, i3.2, ?_⟩
        walk_at "go"
        exact w
      · cases hx
        walk_at "go"
        refine IntS.mk ⟨a4, i4.1, i4.2, ?_⟩
        walk_at "go"
        exact w
    · rintro H3 w
      have w : Own H3 (.pt y (.lst [.int a0, .int a1, .int a2, .int a3, .int a4]) :: .pt pq (.lst (([s1, s3, s5, s7, s9] : List Str).map V.str)) :: L) I := w
      walk_at "go"
      refine ask_init (ns := [a0, a1, a2, a3, a4]) rfl hg w (fun r H4 w => ?_)
      walk_at "go"
      exact q _ _ (w.pick (by walk_at "pick"))
end
end My
set_option Elab.async false
set_option linter.all false
set_option maxRecDepth 100000
set_option maxHeartbeats 800000
namespace My
open PySem PySem.Spec PyProof.Rows L2 RZ SkE CL OW
def spEqR (C : Addr) : Sp := fun vs H Q _ => ∃ (a b : Addr) (n m : List Int) (L : List Ck) (I : List (Hp → Prop)), vs = [.ref a, .ref b] ∧ Own H L I ∧ ruleI C a n ∈ I ∧ ruleI C b m ∈ I ∧ Q (.bl (decide (n = m))) H
theorem eqo_rule {K : PySem.W.Frag} {mg : Str → Option Value} {C a b : Addr} {name : Str} (t : ClsT K mg C name) {n m : List Int} {neg : Bool} {H : Hp} {Q : VK} {E : XK} {L : List Ck} {I : List (Hp → Prop)} (h : Own H L I) (p : ruleI C a n ∈ I) (p2 : ruleI C b m ∈ I) (q : BackB neg Q (.bl (decide (n = m))) H) : OwnC K C (spEqR C) E neg a (.ref b) H Q := by
  obtain ⟨dx, w⟩ := rule_open h p
  obtain ⟨dy, w2⟩ := rule_open h p2
  exact ⟨dx, _, _, w, t.ty w2, notFirst_self, a, b, n, m, L, I, rfl, h, p, p2, q⟩
section
variable (P : Program) (W0 : World) {K : PySem.W.Frag} {mg : Str → Option Value} (base : Heap)
set_option hygiene false in
local macro_rules | `(tactic| walk_at "cls") => `(tactic| first | exact T.c_Rule.cl | exact T.na_Rule_seats | exact T.na_Rule_lapse | exact T.na_Rule_beat | exact T.na_Rule_grace | exact T.na_Rule_late)
local macro_rules | `(tactic| walk_at "fld") => `(tactic| refine fld_rule (by assumption) (by walk_at "mem") (by walk_at "cls") (by walk_at "cls") rfl ?_)
local macro_rules | `(tactic| walk_at "good") => `(tactic| first | assumption | exact good_mk (by omega))
local macro_rules | `(tactic| walk_at "sm") => `(tactic| assumption)
local macro_rules | `(tactic| walk_at "lo") => `(tactic| first | omega | (simp only [lo_0, lo_1, lo_2, lo_3, lo_4]; omega))
set_option hygiene false in
local macro_rules | `(tactic| walk_at "seq") => `(tactic| first | exact T.s_WORDS _)
set_option hygiene false in
local macro_rules | `(tactic| walk_at "ask") => `(tactic| first
  | fail)
set_option hygiene false in
local macro_rules | `(tactic| walk_at "cls") => `(tactic| first | exact T.c_Rule.cl | exact T.c_Rule | exact T.na_Rule_seats | exact T.na_Rule_lapse | exact T.na_Rule_beat | exact T.na_Rule_grace | exact T.na_Rule_late)
set_option hygiene false in
local macro_rules | `(tactic| walk_at "fld") => `(tactic| refine fld_rule (by assumption) (by assumption) (by walk_at "cls") (by walk_at "cls") rfl ?_)
theorem G_Rule_eq (T : Tx W0 K mg) : FnOk P W0 K mg base CX0 1 T.f_Rule_eq T.d_Rule_eq ["self", "other"] (spEqR T.C_Rule) := by
  refine T.F_Rule_eq.ok sc_Rule_eq (fun vs H Q E h => ?_) (fun cdv A outer s H vs Q E hr h => ?_)
  · obtain ⟨a, b, n, m, L, I, rfl, _⟩ := h
    rfl
  · obtain ⟨a, b, n, m, L, I, rfl, hO, pa, pb, k⟩ := h
    have hu64 := Room.units hr
    obtain ⟨a0, a1, a2, a3, a4, rfl, _⟩ := rule_g hO pa
    obtain ⟨b0, b1, b2, b3, b4, rfl, _⟩ := rule_g hO pb
    obtain ⟨dy, hpb⟩ := rule_open hO pb
    refine ⟨_, (pss_one (ps_ret (e_and (pe_callB k_isi (by rfl) T.isinstance (by decide +kernel) (pa_cons (c_var 1) (pa_cons (pe_glob (v := .ref _) (by rfl) T.c_Rule.g rfl) pa_nil))) (e_and (pe_cmpR (c_eq hu64) (e_fld (c_var 0)) (e_fld (c_var 1)) (nomark _)) (e_and (pe_cmpR (c_eq hu64) (e_fld (c_var 0)) (e_fld (c_var 1)) (nomark _)) (e_and (pe_cmpR (c_eq hu64) (e_fld (c_var 0)) (e_fld (c_var 1)) (nomark _)) (e_and (pe_cmpR (c_eq hu64) (e_fld (c_var 0)) (e_fld (c_var 1)) (nomark _)) (pe_one (pe_cmpR (c_eq hu64) (e_fld (c_var 0)) (e_fld (c_var 1)) (nomark _)))))))))), ?_⟩
    walk_at "go"
    have no : ∀ {x y : Int}, decide (V.int x = V.int y) = false → x ≠ y := fun h z => of_decide_eq_false h (congrArg V.int z)
    have ye : ∀ {x y : Int}, decide (V.int x = V.int y) = true → x = y := fun h => V.int.inj (of_decide_eq_true h)
    refine Br.mk (fun h0 => ?_) (fun h0 => ?_)
    rotate_left
    · have e : decide ([a0, a1, a2, a3, a4] = [b0, b1, b2, b3, b4]) = false := decide_eq_false fun z => no h0 (by injections)
      rw [e] at k
      exact k
    walk_at "go"
    refine Br.mk (fun h1 => ?_) (fun h1 => ?_)
    rotate_left
    · have e : decide ([a0, a1, a2, a3, a4] = [b0, b1, b2, b3, b4]) = false := decide_eq_false fun z => no h1 (by injections)
      rw [e] at k
      exact k
    walk_at "go"
    refine Br.mk (fun h2 => ?_) (fun h2 => ?_)
    rotate_left
    · have e : decide ([a0, a1, a2, a3, a4] = [b0, b1, b2, b3, b4]) = false := decide_eq_false fun z => no h2 (by injections)
      rw [e] at k
      exact k
    walk_at "go"
    refine Br.mk (fun h3 => ?_) (fun h3 => ?_)
    rotate_left
    · have e : decide ([a0, a1, a2, a3, a4] = [b0, b1, b2, b3, b4]) = false := decide_eq_false fun z => no h3 (by injections)
      rw [e] at k
      exact k
    walk_at "go"
    have e : decide ([a0, a1, a2, a3, a4] = [b0, b1, b2, b3, b4]) = decide (V.int a4 = V.int b4) := by
      rw [ye h0, ye h1, ye h2, ye h3]
      by_cases z : a4 = b4
      · rw [z, decide_eq_true rfl, decide_eq_true rfl]
      · rw [decide_eq_false fun q => z (by simpa using q), decide_eq_false fun q => z (V.int.inj q)]
    rw [e] at k
    exact k
end
end My
set_option Elab.async false
set_option linter.all false
set_option maxRecDepth 100000
set_option maxHeartbeats 800000
namespace My
open PySem PySem.Spec PyProof.Rows L2 RZ SkE CL OW
def rtext : List Int → Str
  | [a0, a1, a2, a3, a4] => Str.empty ++ Str.ofString "seats " ++ Str.ofString (toString a0) ++ Str.ofString " lapse " ++ Str.ofString (toString a1) ++ Str.ofString " beat " ++ Str.ofString (toString a2) ++ Str.ofString " grace " ++ Str.ofString (toString a3) ++ Str.ofString " late " ++ Str.ofString (toString a4)
  | _ => Str.empty
def spStr (C : Addr) : Sp := fun vs H Q _ => ∃ (r : Addr) (ns : List Int) (L : List Ck) (I : List (Hp → Prop)), vs = [.ref r] ∧ Own H L I ∧ ruleI C r ns ∈ I ∧ Good ns ∧ Q (.str (rtext ns)) H
theorem owns_rule {C r : Addr} {ns : List Int} {H : Hp} {Q : VK} {E : XK} {L : List Ck} {I : List (Hp → Prop)} (h : Own H L I) (p : ruleI C r ns ∈ I) (g : Good ns) (q : Q (.str (rtext ns)) H) : OwnS C (spStr C) E r H Q := by
  obtain ⟨dx, w⟩ := rule_open h p
  exact ⟨dx, _, w, r, ns, L, I, rfl, h, p, g, q⟩
theorem e_0 : Str.length Str.empty = 0 := rfl
theorem e_1 : Str.length "seats " = 6 := by decide +kernel
theorem e_2 : Str.length " lapse " = 7 := by decide +kernel
theorem e_3 : Str.length " beat " = 6 := by decide +kernel
theorem e_4 : Str.length " grace " = 7 := by decide +kernel
theorem e_5 : Str.length " late " = 6 := by decide +kernel
section
variable (P : Program) (W0 : World) {K : PySem.W.Frag} {mg : Str → Option Value} (base : Heap)
local macro_rules | `(tactic| walk_at "len") => `(tactic| (have sl := sizeLine_eq; simp only [Str.length_append, e_0, e_1, e_2, e_3, e_4, e_5]; omega))
set_option hygiene false in
local macro_rules | `(tactic| walk_at "cls") => `(tactic| first | exact T.c_Rule.cl | exact T.na_Rule_seats | exact T.na_Rule_lapse | exact T.na_Rule_beat | exact T.na_Rule_grace | exact T.na_Rule_late)
local macro_rules | `(tactic| walk_at "fld") => `(tactic| refine fld_rule (by assumption) (by walk_at "mem") (by walk_at "cls") (by walk_at "cls") rfl ?_)
local macro_rules | `(tactic| walk_at "good") => `(tactic| first | assumption | exact good_mk (by omega))
local macro_rules | `(tactic| walk_at "sm") => `(tactic| assumption)
local macro_rules | `(tactic| walk_at "lo") => `(tactic| first | omega | (simp only [lo_0, lo_1, lo_2, lo_3, lo_4]; omega))
set_option hygiene false in
local macro_rules | `(tactic| walk_at "seq") => `(tactic| first | exact T.s_WORDS _)
set_option hygiene false in
local macro_rules | `(tactic| walk_at "ask") => `(tactic| first
  | fail)
theorem G_Rule_str (T : Tx W0 K mg) : FnOk P W0 K mg base CX0 1 T.f_Rule_str T.d_Rule_str ["self"] (spStr T.C_Rule) := by
  refine T.F_Rule_str.ok sc_Rule_str (fun vs H Q E h => ?_) (fun cdv A outer s H vs Q E hr h => ?_)
  · obtain ⟨r, ns, L, I, rfl, _⟩ := h
    rfl
  · obtain ⟨r, ns, L, I, rfl, hO, hp, ⟨a0, a1, a2, a3, a4, rfl, ⟨l0, l1, l2, l3, l4⟩, u0, u1, u2, u3, u4⟩, k⟩ := h
    have z0 := log_of (by omega) u0
    have z1 := log_of (by omega) u1
    have z2 := log_of (by omega) u2
    have z3 := log_of (by omega) u3
    have z4 := log_of l4 u4
    have y0 := int_text_len_1921 z0
    have y1 := int_text_len_1921 z1
    have y2 := int_text_len_1921 z2
    have y3 := int_text_len_1921 z3
    have y4 := int_text_len_1921 z4
    refine ⟨_, (pss_one (ps_ret (e_joined (PJ.cons pe_str (PJ.cons (e_fmt (e_fld (c_var 0))) (PJ.cons pe_str (PJ.cons (e_fmt (e_fld (c_var 0))) (PJ.cons pe_str (PJ.cons (e_fmt (e_fld (c_var 0))) (PJ.cons pe_str (PJ.cons (e_fmt (e_fld (c_var 0))) (PJ.cons pe_str (PJ.cons (e_fmt (e_fld (c_var 0))) PJ.nil))))))))))))), ?_⟩
    walk_at "go"
    exact k
end
end My
set_option Elab.async false
set_option linter.all false
set_option maxRecDepth 100000
set_option maxHeartbeats 800000
namespace My
open PySem PySem.Spec PyProof.Rows L2 RZ SkE CL OW
/-- where draws come from -/
@[irreducible] def boxCk (b : Addr) : Ck := .ab fun l => ∃ x s c : Int, l = [(b, .lst [.int x, .int s, .int c])]
theorem box_open {b : Addr} {H : Hp} {L R : List Ck} {I : List (Hp → Prop)} (h : Own H L I) (e : Pull L (boxCk b) R) : ∃ x s c : Int, Own H (.pt b (.lst [.int x, .int s, .int c]) :: R) I := by
  have h1 := h.pull e
  unfold boxCk at h1
  obtain ⟨l, ⟨x, s, c, rfl⟩, w⟩ := h1.open_
  exact ⟨x, s, c, w⟩
theorem box_close {b : Addr} {x s c : Int} {H : Hp} {R : List Ck} {I : List (Hp → Prop)} (h : Own H (.pt b (.lst [.int x, .int s, .int c]) :: R) I) : Own H (boxCk b :: R) I := by
  unfold boxCk
  exact Own.close (l := [(b, .lst [.int x, .int s, .int c])]) ⟨x, s, c, rfl⟩ h
def spTake : Sp := fun vs H Q _ => ∃ (b : Addr) (n : Int) (L R : List Ck) (I : List (Hp → Prop)), vs = [.ref b, .int n] ∧ Own H L I ∧ Pull L (boxCk b) R ∧ 0 < n ∧ n < 1000000 ∧ ∀ H' d, 0 ≤ d → d < n → Own H' (boxCk b :: R) I → Q (.int d) H'
theorem ask_take {b : Addr} {n : Int} {H : Hp} {Q : VK} {E : XK} {L R : List Ck} {I : List (Hp → Prop)} (h : Own H L I) (p : Pull L (boxCk b) R) (h0 : 0 < n) (h1 : n < 1000000) (k : ∀ H' d, 0 ≤ d → d < n → Own H' (boxCk b :: R) I → Q (.int d) H') : Ask (spTake ([.ref b, .int n] ++ []) H Q E) := ⟨b, n, L, R, I, rfl, h, p, h0, h1, k⟩
def spBox (K : PySem.W.Frag) : Sp := fun vs H Q _ => ∃ (a : Addr) (k o : Int) (ns : List Int) (L : List Ck) (I : List (Hp → Prop)), vs = [.ref a, .int k, .int o] ∧ Own H L I ∧ seqI K a (ns.map V.int) ∈ I ∧ ns.length ≤ 63 ∧ 0 ≤ k ∧ ∀ H' p, Own H' (boxCk p :: L) I → Q (.ref p) H'
theorem ask_box {K : PySem.W.Frag} {a : Addr} {k o : Int} {ns : List Int} {H : Hp} {Q : VK} {E : XK} {L : List Ck} {I : List (Hp → Prop)} (h : Own H L I) (p : seqI K a (ns.map V.int) ∈ I) (l : ns.length ≤ 63) (h0 : 0 ≤ k) (q : ∀ H' p, Own H' (boxCk p :: L) I → Q (.ref p) H') : Ask (spBox K ([.ref a, .int k, .int o] ++ []) H Q E) := ⟨a, k, o, ns, L, I, rfl, h, p, l, h0, q⟩
theorem pull_mem {α : Type} {d : α} : ∀ {R : List α}, d ∈ R → ∃ R3, Pull R d R3
  | x :: R, m => by
    rcases List.mem_cons.mp m with rfl | m
    · exact ⟨_, .head⟩
    · obtain ⟨R3, e⟩ := pull_mem m
      exact ⟨_, .tail e⟩
theorem pull_other {α : Type} {L R R2 : List α} {c d : α} (h : Pull L c R) (g : Pull L d R2) (n : c ≠ d) : ∃ R3, Pull R d R3 := by
  have m : d ∈ c :: R := h.perm.mem_iff.mp (g.perm.mem_iff.mpr List.mem_cons_self)
  rcases List.mem_cons.mp m with e | m
  · exact (n e.symm).elim
  · exact pull_mem m
def spPick : Sp := fun vs H Q _ => ∃ (b l : Addr) (xs : List V) (L R R2 : List Ck) (I : List (Hp → Prop)), vs = [.ref b, .ref l] ∧ Own H L I ∧ Pull L (boxCk b) R ∧ Pull L (.pt l (.lst xs)) R2 ∧ (0 < xs.length ∧ xs.length < 1000) ∧ ∀ H' x, x ∈ xs → Own H' (boxCk b :: R) I → Q x H'
theorem ask_pick {b l : Addr} {xs : List V} {H : Hp} {Q : VK} {E : XK} {L R R2 : List Ck} {I : List (Hp → Prop)} (h : Own H L I) (p : Pull L (boxCk b) R) (p2 : Pull L (.pt l (.lst xs)) R2) (n : 0 < xs.length ∧ xs.length < 1000) (q : ∀ H' x, x ∈ xs → Own H' (boxCk b :: R) I → Q x H') : Ask (spPick ([.ref b, .ref l] ++ []) H Q E) := ⟨b, l, xs, L, R, R2, I, rfl, h, p, p2, n, q⟩
section
variable (P : Program) (W0 : World) {K : PySem.W.Frag} {mg : Str → Option Value} (base : Heap)
set_option hygiene false in
local macro_rules | `(tactic| walk_at "cls") => `(tactic| first | exact T.c_Rule.cl | exact T.na_Rule_seats | exact T.na_Rule_lapse | exact T.na_Rule_beat | exact T.na_Rule_grace | exact T.na_Rule_late)
local macro_rules | `(tactic| walk_at "fld") => `(tactic| refine fld_rule (by assumption) (by walk_at "mem") (by walk_at "cls") (by walk_at "cls") rfl ?_)
local macro_rules | `(tactic| walk_at "good") => `(tactic| first | assumption | exact good_mk (by omega))
local macro_rules | `(tactic| walk_at "sm") => `(tactic| assumption)
local macro_rules | `(tactic| walk_at "lo") => `(tactic| first | omega | (simp only [lo_0, lo_1, lo_2, lo_3, lo_4]; omega))
set_option hygiene false in
local macro_rules | `(tactic| walk_at "seq") => `(tactic| first | exact T.s_WORDS _)
set_option hygiene false in
local macro_rules | `(tactic| walk_at "ask") => `(tactic| first
  | fail)
theorem G_l_take (T : Tx W0 K mg) : FnOk P W0 K mg base CX0 1 T.f_l_take T.d_l_take ["_law_box_here", "_law_bound"] spTake := by
  refine T.F_l_take.ok sc_l_take (fun vs H Q E h => ?_) (fun cdv A outer s H vs Q E hr h => ?_)
  · obtain ⟨b, n, L, R, I, rfl, _⟩ := h
    rfl
  · obtain ⟨b, n, L, R, I, rfl, hO, hp, h0, h1, k⟩ := h
    obtain ⟨x, s', c, hO⟩ := box_open hO hp
    refine ⟨_, (pss_cons (s_if (t_cmp c_gt (pe_ix (c_ixK (K := K) rfl) (c_var 0) pe_int (fun _ _ => rfl)) pe_int (nomark _)) (pss_cons (ps_set (i := 2) sc_l_take.nd rfl (Or.inl rfl) (pe_op c_mod (pe_callTy k_intG (by rfl) T.int (by decide +kernel) (pa_cons (pe_ix (c_ixK (K := K) rfl) (c_var 0) pe_int (fun _ _ => rfl)) pa_nil)) (c_var 1)))
    (pss_cons (ps_asg (pe_op c_div (pe_ix (c_ixK (K := K) rfl) (c_var 0) pe_int (fun _ _ => rfl)) (c_var 1)) (pg_sub (c_var 0) pe_int p_set))
    (pss_one (ps_ret (c_var 2))))) pss_nil)
    (pss_cons (ps_asg (pe_op c_addG (pe_ix (c_ixK (K := K) rfl) (c_var 0) pe_int (fun _ _ => rfl)) pe_int) (pg_sub (c_var 0) pe_int p_set))
    (pss_cons (ps_set (i := 3) sc_l_take.nd rfl (Or.inl rfl) (pe_op c_mod (pe_callTy k_intG (by rfl) T.int (by decide +kernel) (pa_cons (pe_op c_mul (pe_op c_addG (pe_ix (c_ixK (K := K) rfl) (c_var 0) pe_int (fun _ _ => rfl)) (pe_op c_mul pe_int (pe_ix (c_ixK (K := K) rfl) (c_var 0) pe_int (fun _ _ => rfl)))) pe_int) pa_nil)) pe_int))
    (pss_cons (ps_asg (pe_op c_addG (pe_op c_mod (pe_callTy k_intG (by rfl) T.int (by decide +kernel) (pa_cons (pe_op c_addG (pe_op c_mul (c_var 3) pe_int) pe_int) pa_nil)) pe_int) pe_int) (pg_sub (c_var 0) pe_int p_set))
    (pss_cons (s_if (t_cmp c_lt (c_var 1) (pe_op c_pow pe_int pe_int) (nomark _)) (pss_one (ps_ret (pe_op c_mod (pe_callTy k_intG (by rfl) T.int (by decide +kernel) (pa_cons (pe_op c_div (pe_op c_addG (pe_op c_mul (c_var 3) pe_int) (pe_ix (c_ixK (K := K) rfl) (c_var 0) pe_int (fun _ _ => rfl))) pe_int) pa_nil)) (c_var 1)))) pss_nil)
    (pss_cons (ps_set (i := 4) sc_l_take.nd rfl (Or.inl rfl) (pe_op c_mul (pe_op c_addG (pe_op c_mul (c_var 3) pe_int) (pe_ix (c_ixK (K := K) rfl) (c_var 0) pe_int (fun _ _ => rfl))) (pe_op c_pow pe_int pe_int)))
    (pss_one (ps_ret (pe_op c_mod (pe_callTy k_intG (by rfl) T.int (by decide +kernel) (pa_cons (pe_op c_addG (pe_op c_addG (c_var 4) (pe_op c_mul (pe_op c_pow (pe_ix (c_ixK (K := K) rfl) (c_var 0) pe_int (fun _ _ => rfl)) pe_int) pe_int)) (c_var 3)) pa_nil)) (c_var 1)))))))))), ?_⟩
    walk_at "go"
    refine Br.mk (fun hx => ?_) (fun hx => ?_)
    · walk_at "go"
      exact k _ _ (Int.emod_nonneg _ (by omega)) (Int.emod_lt_of_pos _ h0) (box_close (by walk_at "own"))
    · walk_at "go"
      refine br_t (decide_eq_true (show n < 1099511627776 by omega)) ?_
      walk_at "go"
      exact k _ _ (Int.emod_nonneg _ (by omega)) (Int.emod_lt_of_pos _ h0) (box_close (by walk_at "own"))
theorem G_l_box (T : Tx W0 K mg) : FnOk P W0 K mg base CX0 1 T.f_l_box T.d_l_box ["_law_script", "_law_k", "_law_own"] (spBox K) := by
  refine T.F_l_box.ok sc_l_box (fun vs H Q E h => ?_) (fun cdv A outer s H vs Q E hr h => ?_)
  · obtain ⟨a, k, o, ns, L, I, rfl, _⟩ := h
    rfl
  · obtain ⟨a, k, o, ns, L, I, rfl, hO, hI, hl, hk, q⟩ := h
    refine ⟨_, (pss_cons (ps_set (i := 3) sc_l_box.nd rfl (Or.inl rfl) (pe_op c_addG (pe_op c_addG (pe_op c_mul pe_int (c_var 1)) (pe_op c_mul pe_int (c_var 2))) pe_int))
    (pss_cons (s_if (t_cmp c_lt (c_var 1) (pe_callB k_len (by rfl) T.len PySem.boot_len (pa_cons (c_var 0) pa_nil)) (nomark _)) (pss_one (ps_set (i := 3) sc_l_box.nd rfl (Or.inl rfl) (pe_callB k_abs (by rfl) T.abs (by decide +kernel) (pa_cons (pe_ix (c_ixK (K := K) rfl) (c_var 0) (c_var 1) (fun _ _ => rfl)) pa_nil)))) (pss_one (s_if (t_cmp c_gt (pe_callB k_len (by rfl) T.len PySem.boot_len (pa_cons (c_var 0) pa_nil)) pe_int (nomark _)) (pss_one (ps_set (i := 3) sc_l_box.nd rfl (Or.inl rfl) (pe_op c_addG (c_var 3) (pe_op c_mul (pe_op c_mod (pe_callTy k_intG (by rfl) T.int (by decide +kernel) (pa_cons (pe_callB k_abs (by rfl) T.abs (by decide +kernel) (pa_cons (pe_ix (c_ixK (K := K) rfl) (c_var 0) (pe_op c_mod (pe_callTy k_intG (by rfl) T.int (by decide +kernel) (pa_cons (c_var 1) pa_nil)) (pe_callB k_len (by rfl) T.len PySem.boot_len (pa_cons (c_var 0) pa_nil))) (fun _ _ => rfl)) pa_nil)) pa_nil)) pe_int) pe_int)))) pss_nil)))
    (pss_cons (ps_set (i := 4) sc_l_box.nd rfl (Or.inl rfl) (pe_op c_addG (pe_op c_mod (pe_callTy k_intG (by rfl) T.int (by decide +kernel) (pa_cons (pe_op c_addG (pe_op c_mul (pe_op c_mod (pe_callTy k_intG (by rfl) T.int (by decide +kernel) (pa_cons (c_var 3) pa_nil)) pe_int) pe_int) (pe_op c_mul pe_int (pe_op c_addG (c_var 1) (pe_op c_mul pe_int (c_var 2))))) pa_nil)) pe_int) pe_int))
    (pss_one (ps_ret (e_lst (pa_cons (pe_ix (c_ixK (K := K) rfl) (e_lst (pa_cons pe_int (pa_cons (c_var 3) pa_nil))) (pe_callTy k_intG (by rfl) T.int (by decide +kernel) (pa_cons (pe_cmpR c_ge (c_var 3) (pe_op c_pow pe_int pe_int) (nomark _)) pa_nil)) (fun _ _ => rfl)) (pa_cons (c_var 4) (pa_cons pe_int pa_nil))))))))), ?_⟩
    walk_at "go"
    refine Br.mk (fun hx => ?_) (fun hx => ?_)
    · have hx' : k < ((ns.map V.int).length : Int) := of_decide_eq_true hx
      rw [List.length_map] at hx'
      walk_at "go"
      refine At.nat k.toNat (by omega) (int_at (by omega)) ?_
      walk_at "go"
      refine at_two (fun _ => ?_) (fun _ => ?_)
      · walk_at "go"
        exact q _ _ (box_close (by walk_at "own"))
      · walk_at "go"
        exact q _ _ (box_close (by walk_at "own"))
    · walk_at "go"
      refine Br.mk (fun hy => ?_) (fun hy => ?_)
      · have hy' : (0 : Int) < ((ns.map V.int).length : Int) := of_decide_eq_true hy
        have hy2 := hy'
        rw [List.length_map] at hy'
        have m0 := Int.emod_nonneg k (b := (ns.length : Int)) (by omega)
        have m1 := Int.emod_lt_of_pos k hy'
        walk_at "go"
        refine At.nat (k % (ns.length : Int)).toNat (by rw [List.length_map]; omega) (int_at (by omega)) ?_
        walk_at "go"
        refine at_two (fun _ => ?_) (fun _ => ?_)
        · walk_at "go"
          exact q _ _ (box_close (by walk_at "own"))
        · walk_at "go"
          exact q _ _ (box_close (by walk_at "own"))
      · walk_at "go"
        refine at_two (fun _ => ?_) (fun _ => ?_)
        · walk_at "go"
          exact q _ _ (box_close (by walk_at "own"))
        · walk_at "go"
          exact q _ _ (box_close (by walk_at "own"))
section
set_option hygiene false in
local macro_rules | `(tactic| walk_at "ask") => `(tactic| refine ask_take (by assumption) (by walk_at "pull") (by walk_at "sd") (by walk_at "sd") (fun HH d d0 d1 w => ?_))
theorem G_l_pick (T : Tx W0 K mg) : FnOk P W0 K mg base CX0 2 T.f_l_pick T.d_l_pick ["_law_box_here", "_law_items"] spPick := by
  refine T.F_l_pick.ok sc_l_pick (fun vs H Q E h => ?_) (fun cdv A outer s H vs Q E hr h => ?_)
  · obtain ⟨b, l, xs, L, R, R2, I, rfl, _⟩ := h
    rfl
  · obtain ⟨b, l, xs, L, R, R2, I, rfl, hO, hp, hp2, hn, k⟩ := h
    refine ⟨_, (pss_one (ps_ret (pe_ix (c_ixK (K := K) rfl) (c_var 1) (e_call (G_l_take P W0 base T) (hr.mono (by decide)) (by rfl) T.g_l_take T.F_l_take.kp T.b_l_take .nil pass0 (pa_cons (c_var 0) (pa_cons (pe_callB k_len (by rfl) T.len PySem.boot_len (pa_cons (c_var 1) pa_nil)) pa_nil))) (fun _ _ => rfl)))), ?_⟩
    (conv => whnf)
    refine sq_l hO hp2 ?_
    walk_at "go"
    have hi : d.toNat < xs.length := by omega
    obtain ⟨R3, hp3⟩ : ∃ R3, Pull R (.pt l (.lst xs)) R3 := pull_other hp hp2 (fun z => by unfold boxCk at z; cases z)
    refine sq_l w (.tail hp3) ?_
    refine At.nat d.toNat (by omega) (List.getElem?_eq_getElem hi) ?_
    exact k _ _ (List.getElem_mem hi) w
end
end
end My
set_option Elab.async false
set_option linter.all false
set_option maxRecDepth 100000
set_option maxHeartbeats 800000
namespace My
open PySem PySem.Spec PyProof.Rows L2 RZ SkE CL OW
def DrawnB (ns : List Int) : Prop := ∃ s l b g t : Int, ns = [s, l, b, g, t] ∧ (1 ≤ s ∧ s ≤ 3) ∧ (1 ≤ l ∧ l ≤ 5) ∧ (1 ≤ b ∧ b ≤ 4) ∧ (1 ≤ g ∧ g ≤ 5) ∧ 0 ≤ t ∧ t < 3
theorem DrawnB.good {ns : List Int} (h : DrawnB ns) : Good ns := by
  obtain ⟨s, l, b, g, t, rfl, h⟩ := h
  exact good_mk (by omega)
def spLRuleB : Sp := fun vs H Q _ => ∃ (b : Addr) (L R : List Ck) (I : List (Hp → Prop)), vs = [.ref b] ∧ Own H L I ∧ Pull L (boxCk b) R ∧ ∀ H' p ns, DrawnB ns → Own H' (.pt p (.lst (ns.map V.int)) :: boxCk b :: R) I → Q (.ref p) H'
theorem ask_lruleB {b : Addr} {H : Hp} {Q : VK} {E : XK} {L R : List Ck} {I : List (Hp → Prop)} (h : Own H L I) (e : Pull L (boxCk b) R) (q : ∀ H' p ns, DrawnB ns → Own H' (.pt p (.lst (ns.map V.int)) :: boxCk b :: R) I → Q (.ref p) H') : Ask (spLRuleB ([.ref b] ++ []) H Q E) := ⟨b, L, R, I, rfl, h, e, q⟩
section
variable (P : Program) (W0 : World) {K : PySem.W.Frag} {mg : Str → Option Value} (base : Heap)
set_option hygiene false in
local macro_rules | `(tactic| walk_at "cls") => `(tactic| first | exact T.c_Rule.cl | exact T.na_Rule_seats | exact T.na_Rule_lapse | exact T.na_Rule_beat | exact T.na_Rule_grace | exact T.na_Rule_late)
local macro_rules | `(tactic| walk_at "fld") => `(tactic| refine fld_rule (by assumption) (by walk_at "mem") (by walk_at "cls") (by walk_at "cls") rfl ?_)
local macro_rules | `(tactic| walk_at "good") => `(tactic| first | assumption | exact good_mk (by omega))
local macro_rules | `(tactic| walk_at "sm") => `(tactic| assumption)
local macro_rules | `(tactic| walk_at "lo") => `(tactic| first | omega | (simp only [lo_0, lo_1, lo_2, lo_3, lo_4]; omega))
set_option hygiene false in
local macro_rules | `(tactic| walk_at "seq") => `(tactic| first | exact T.s_WORDS _)
set_option hygiene false in
local macro_rules | `(tactic| walk_at "ask") => `(tactic| first
  | fail)
section
set_option hygiene false in
local macro_rules | `(tactic| walk_at "ask") => `(tactic| refine ask_take (by assumption) (by walk_at "pull") (by walk_at "sd") (by walk_at "sd") (fun HH d d0 d1 w => ?_))
theorem G_l_rule (T : Tx W0 K mg) : FnOk P W0 K mg base CX0 2 T.f_l_rule T.d_l_rule ["_law_box_here"] spLRuleB := by
  refine T.F_l_rule.ok sc_l_rule (fun vs H Q E h => ?_) (fun cdv A outer s H vs Q E hr h => ?_)
  · obtain ⟨b, L, R, I, rfl, _⟩ := h
    rfl
  · obtain ⟨b, L, R, I, rfl, hO, hp, q⟩ := h
    refine ⟨_, (pss_cons (ps_set (i := 1) sc_l_rule.nd rfl (Or.inl rfl) (e_lst (pa_cons (pe_op c_addG pe_int (e_call (G_l_take P W0 base T) (hr.mono (by decide)) (by rfl) T.g_l_take T.F_l_take.kp T.b_l_take .nil pass0 (pa_cons (c_var 0) (pa_cons pe_int pa_nil)))) (pa_cons (pe_op c_addG pe_int (e_call (G_l_take P W0 base T) (hr.mono (by decide)) (by rfl) T.g_l_take T.F_l_take.kp T.b_l_take .nil pass0 (pa_cons (c_var 0) (pa_cons pe_int pa_nil)))) (pa_cons (pe_op c_addG pe_int (e_call (G_l_take P W0 base T) (hr.mono (by decide)) (by rfl) T.g_l_take T.F_l_take.kp T.b_l_take .nil pass0 (pa_cons (c_var 0) (pa_cons pe_int pa_nil)))) (pa_cons (pe_op c_addG pe_int (e_call (G_l_take P W0 base T) (hr.mono (by decide)) (by rfl) T.g_l_take T.F_l_take.kp T.b_l_take .nil pass0 (pa_cons (c_var 0) (pa_cons pe_int pa_nil)))) pa_nil))))))
    (pss_one (ps_ret (pe_op c_addG (c_var 1) (e_lst (pa_cons (e_call (G_l_take P W0 base T) (hr.mono (by decide)) (by rfl) T.g_l_take T.F_l_take.kp T.b_l_take .nil pass0 (pa_cons (c_var 0) (pa_cons pe_int pa_nil))) pa_nil)))))), ?_⟩
    walk_at "go"
    rename_i H1 a a0 a1 w1 H2 a2 b0 b1 w2 H3 c c0 c1 w3 H4 e e0 e1 w4 p1 H5 w5 H6 w6 p2 H7 w7
    exact q _ _ [1 + a, 1 + a2, 1 + c, 1 + e, d] ⟨_, _, _, _, _, rfl, by omega, by omega, by omega, by omega, by omega⟩ (by walk_at "own")
end
end
end My
set_option Elab.async false
set_option linter.all false
set_option maxRecDepth 100000
set_option maxHeartbeats 800000
namespace My
open PySem PySem.Spec PyProof.Rows L2 RZ SkE CL OW
def deepD : Nat → PyData
  | 0 => .tuple []
  | n + 1 => if n % 2 = 0 then .list [deepD n, .int 1] else .tuple [deepD n]
/-- any value -/
def ANYD : List PyData := [.int 0, .int (-3), .int (10 ^ 9), .str "", .str "pass", .none, .bool true, .bool false, .list [], .list [.int 1, .str "cut"], .tuple [.str "word", .none], .tuple [], .str "late", .int 2, .str "x y", .list [.str "pass"], deepD 7]
def spValue : Sp := fun vs H Q _ => ∃ (b : Addr) (L R : List Ck) (I : List (Hp → Prop)), vs = [.ref b] ∧ Own H L I ∧ Pull L (boxCk b) R ∧ ∀ H' x d l, d ∈ ANYD → VO l x d → Own H' (bagR l :: boxCk b :: R) I → Q x H'
theorem ask_value {b : Addr} {H : Hp} {Q : VK} {E : XK} {L R : List Ck} {I : List (Hp → Prop)} (h : Own H L I) (p : Pull L (boxCk b) R) (q : ∀ H' x d l, d ∈ ANYD → VO l x d → Own H' (bagR l :: boxCk b :: R) I → Q x H') : Ask (spValue ([.ref b] ++ []) H Q E) := ⟨b, L, R, I, rfl, h, p, q⟩
theorem bag_one {H : Hp} {L R : List Ck} {I : List (Hp → Prop)} {a : Addr} {o : HO} (h : Own H L I) (e : Pull L (.pt a o) R) : Own H (bagR [(a, o)] :: R) I := bag_close (h.pull e)
theorem bag_add {H : Hp} {L R M : List Ck} {I : List (Hp → Prop)} {a : Addr} {o : HO} {l : List (Addr × HO)} (h : Own H L I) (e : Pull L (.pt a o) R) (f : Pull R (bagR l) M) : Own H (bagR ((a, o) :: l) :: M) I := bag_new ((h.pull e).perm (f.perm.cons _))
local macro_rules | `(tactic| walk_at "anyd") => `(tactic| (unfold ANYD; repeat (first | exact List.mem_cons_self | refine List.mem_cons_of_mem _ ?_)))
section
variable (P : Program) (W0 : World) {K : PySem.W.Frag} {mg : Str → Option Value} (base : Heap)
local macro_rules | `(tactic| walk_at "len") => `(tactic| first | assumption | omega)
set_option hygiene false in
local macro_rules | `(tactic| walk_at "cls") => `(tactic| first | exact T.c_Rule.cl | exact T.na_Rule_seats | exact T.na_Rule_lapse | exact T.na_Rule_beat | exact T.na_Rule_grace | exact T.na_Rule_late)
local macro_rules | `(tactic| walk_at "fld") => `(tactic| refine fld_rule (by assumption) (by walk_at "mem") (by walk_at "cls") (by walk_at "cls") rfl ?_)
local macro_rules | `(tactic| walk_at "good") => `(tactic| first | assumption | exact good_mk (by omega))
local macro_rules | `(tactic| walk_at "sm") => `(tactic| assumption)
local macro_rules | `(tactic| walk_at "lo") => `(tactic| first | omega | (simp only [lo_0, lo_1, lo_2, lo_3, lo_4]; omega))
set_option hygiene false in
local macro_rules | `(tactic| walk_at "seq") => `(tactic| first | exact T.s_WORDS _)
set_option hygiene false in
local macro_rules | `(tactic| walk_at "ask") => `(tactic| first
  | fail)
theorem G_l_value (T : Tx W0 K mg) : FnOk P W0 K mg base CX0 3 T.f_l_value T.d_l_value ["_law_box_here"] spValue := by
  refine T.F_l_value.ok sc_l_value (fun vs H Q E h => ?_) (fun cdv A outer s H vs Q E hr h => ?_)
  · obtain ⟨b, L, R, I, rfl, _⟩ := h
    rfl
  · obtain ⟨b, L, R, I, rfl, hO, hp, q⟩ := h
    have hu64 := Room.units hr
    refine ⟨_, (pss_cons (ps_set (i := 1) sc_l_value.nd rfl (Or.inl rfl) (e_lst (pa_cons pe_int (pa_cons (pe_un un_neg pe_int) (pa_cons (pe_op c_pow pe_int pe_int) (pa_cons pe_str (pa_cons pe_str (pa_cons pe_non (pa_cons pe_bl (pa_cons pe_bl (pa_cons (e_lst pa_nil) (pa_cons (e_lst (pa_cons pe_int (pa_cons pe_str pa_nil))) (pa_cons (e_tup (pa_cons pe_str (pa_cons pe_non pa_nil))) (pa_cons (e_tup pa_nil) pa_nil))))))))))))))
    (pss_cons (ps_set (i := 1) sc_l_value.nd rfl (Or.inl rfl) (pe_op c_addG (c_var 1) (e_lst (pa_cons pe_str (pa_cons pe_int (pa_cons pe_str (pa_cons (e_lst (pa_cons pe_str pa_nil)) pa_nil)))))))
    (pss_cons (ps_set (i := 2) sc_l_value.nd rfl (Or.inl rfl) (e_tup pa_nil))
    (pss_cons (s_for PassesOwn.never (by rfl) (i_range1 (by rfl) T.range (pa_cons pe_int pa_nil)) (pg_name (i := 3) sc_l_value.nd rfl (Or.inl rfl)) (pss_one (ps_set (i := 2) sc_l_value.nd rfl (Or.inl rfl) (e_if (t_cmp (c_eq hu64) (pe_op c_mod (c_var 3) pe_int) pe_int (nomark _)) (e_lst (pa_cons (c_var 2) (pa_cons pe_int pa_nil))) (e_tup (pa_cons (c_var 2) pa_nil))))))
    (pss_one (ps_ret (e_call (G_l_pick P W0 base T) (hr.mono (by decide)) (by rfl) T.g_l_pick T.F_l_pick.kp T.b_l_pick .nil pass0 (pa_cons (c_var 0) (pa_cons (pe_op c_addG (c_var 1) (e_lst (pa_cons (c_var 2) pa_nil))) pa_nil))))))))), ?_⟩
    walk_at "go"
    rename_i p7 _ _ p6 _ _ p5 _ _ p4 _ _ p3 _ _ p2 _ _ p1 _ _ p0 _ _
    have w0 := bag_one w Pull.head
    refine fw_range (fun i σ H' => ∃ (v : V) (l : List (Addr × HO)) (u : Option V), VO l v (deepD i) ∧ σ = [some (.ref b), some (.ref p0), some v, u] ∧ Own H' (bagR l :: .pt p0 (.lst [.int 0, .int (-3), .int (10 ^ 9), .str "", .str "pass", .non, .bl true, .bl false, .ref p7, .ref p6, .ref p5, .ref p4, .str "late", .int 2, .str "x y", .ref p2]) :: .pt p2 (.lst [.str "pass"]) :: .pt p4 (.tup []) :: .pt p5 (.tup [.str "word", .non]) :: .pt p6 (.lst [.int 1, .str "cut"]) :: .pt p7 (.lst []) :: L) I) ⟨_, _, _, .tup List.mem_cons_self .nil, rfl, by exact w0.pick (.cons .head (by walk_at "pick"))⟩ ?_ ?_
    · rintro i σ H1 hi ⟨v, l, u, hv, rfl, e⟩
      have hi : i < 7 := hi
      walk_at "go"
      by_cases h2 : i % 2 = 0
      · refine br_t (by rw [if_neg (by decide)]; exact decide_eq_true (congrArg V.int (by omega))) ?_
        walk_at "go"
        have e2 : deepD (i + 1) = .list [deepD i, .int 1] := if_pos h2
        rw [e2]
        exact ⟨_, _, _, .lst List.mem_cons_self (.cons (VO.up (fun p m => List.mem_cons_of_mem _ m) _ _ hv) (.cons (.int 1) .nil)), rfl, by have w := bag_add w Pull.head Pull.head; walk_at "own"⟩
      · refine br_f (by rw [if_neg (by decide)]; exact decide_eq_false (fun z => by have := V.int.inj z; omega)) ?_
        walk_at "go"
        have e2 : deepD (i + 1) = .tuple [deepD i] := if_neg h2
        rw [e2]
        exact ⟨_, _, _, .tup List.mem_cons_self (.cons (VO.up (fun p m => List.mem_cons_of_mem _ m) _ _ hv) .nil), rfl, by have w := bag_add w Pull.head Pull.head; walk_at "own"⟩
    rintro σ H1 ⟨v, l, u, hv, rfl, e⟩
    have hv : VO l v (deepD 7) := hv
    walk_at "go"
    refine ask_pick w (by walk_at "pull") (by walk_at "pull") (by exact ⟨Nat.succ_pos _, by show 17 < 1000; decide⟩) (fun H5 x mx w => ?_)
    simp only [List.cons_append, List.nil_append, List.mem_cons, List.not_mem_nil, or_false] at mx
    rcases mx with rfl | rfl | rfl | rfl | rfl | rfl | rfl | rfl | rfl | rfl | rfl | rfl | rfl | rfl | rfl | rfl | rfl
    · exact q _ _ (.int 0) [] (by walk_at "anyd") (.int _) (bag_nil (by walk_at "own"))
    · exact q _ _ (.int (-3)) [] (by walk_at "anyd") (.int _) (bag_nil (by walk_at "own"))
    · exact q _ _ (.int (10 ^ 9)) [] (by walk_at "anyd") (.int _) (bag_nil (by walk_at "own"))
    · exact q _ _ (.str "") [] (by walk_at "anyd") (.str _) (bag_nil (by walk_at "own"))
    · exact q _ _ (.str "pass") [] (by walk_at "anyd") (.str _) (bag_nil (by walk_at "own"))
    · exact q _ _ (.none) [] (by walk_at "anyd") .non (bag_nil (by walk_at "own"))
    · exact q _ _ (.bool true) [] (by walk_at "anyd") (.bl _) (bag_nil (by walk_at "own"))
    · exact q _ _ (.bool false) [] (by walk_at "anyd") (.bl _) (bag_nil (by walk_at "own"))
    · exact q _ _ (.list []) [(_, .lst [])] (by walk_at "anyd") (.lst List.mem_cons_self .nil) (bag_one (by walk_at "own" : Own _ (.pt _ (.lst []) :: boxCk b :: R) I) Pull.head)
    · exact q _ _ (.list [.int 1, .str "cut"]) [(_, .lst [.int 1, .str "cut"])] (by walk_at "anyd") (.lst List.mem_cons_self (.cons (.int _) (.cons (.str _) .nil))) (bag_one (by walk_at "own" : Own _ (.pt _ (.lst [.int 1, .str "cut"]) :: boxCk b :: R) I) Pull.head)
    · exact q _ _ (.tuple [.str "word", .none]) [(_, .tup [.str "word", .non])] (by walk_at "anyd") (.tup List.mem_cons_self (.cons (.str _) (.cons .non .nil))) (bag_one (by walk_at "own" : Own _ (.pt _ (.tup [.str "word", .non]) :: boxCk b :: R) I) Pull.head)
    · exact q _ _ (.tuple []) [(_, .tup [])] (by walk_at "anyd") (.tup List.mem_cons_self .nil) (bag_one (by walk_at "own" : Own _ (.pt _ (.tup []) :: boxCk b :: R) I) Pull.head)
    · exact q _ _ (.str "late") [] (by walk_at "anyd") (.str _) (bag_nil (by walk_at "own"))
    · exact q _ _ (.int 2) [] (by walk_at "anyd") (.int _) (bag_nil (by walk_at "own"))
    · exact q _ _ (.str "x y") [] (by walk_at "anyd") (.str _) (bag_nil (by walk_at "own"))
    · exact q _ _ (.list [.str "pass"]) [(_, .lst [.str "pass"])] (by walk_at "anyd") (.lst List.mem_cons_self (.cons (.str _) .nil)) (bag_one (by walk_at "own" : Own _ (.pt _ (.lst [.str "pass"]) :: boxCk b :: R) I) Pull.head)
    · exact q _ _ (deepD 7) l (by walk_at "anyd") hv (by walk_at "own")
end
end My
set_option Elab.async false
set_option linter.all false
set_option maxRecDepth 100000
set_option maxHeartbeats 800000
namespace My
open PySem PySem.Spec PyProof.Rows L2 RZ SkE CL OW
/-- the text of five words and texts behind them -/
def wtext (ws : List Str) : Str := Txt.join " " ((WRD.zip ws).map fun p : Str × Str => (p.1 ++ " " ++ p.2 : Str))
def showL (ns : List Int) : List Str := ns.map fun n => Str.ofString (toString n)
theorem rtext_w (a0 a1 a2 a3 a4 : Int) : rtext [a0, a1, a2, a3, a4] = wtext (showL [a0, a1, a2, a3, a4]) := by
  have q1 : TL.tl (Str.ofString "seats ") = TL.tl (Str.ofString "seats") ++ TL.tl (Str.ofString " ") := by decide +kernel
  have q2 : TL.tl (Str.ofString " lapse ") = TL.tl (Str.ofString " ") ++ TL.tl (Str.ofString "lapse") ++ TL.tl (Str.ofString " ") := by decide +kernel
  have q3 : TL.tl (Str.ofString " beat ") = TL.tl (Str.ofString " ") ++ TL.tl (Str.ofString "beat") ++ TL.tl (Str.ofString " ") := by decide +kernel
  have q4 : TL.tl (Str.ofString " grace ") = TL.tl (Str.ofString " ") ++ TL.tl (Str.ofString "grace") ++ TL.tl (Str.ofString " ") := by decide +kernel
  have q5 : TL.tl (Str.ofString " late ") = TL.tl (Str.ofString " ") ++ TL.tl (Str.ofString "late") ++ TL.tl (Str.ofString " ") := by decide +kernel
  have q0 : TL.tl Str.empty = [] := rfl
  refine ext_toList ?_
  show TL.tl _ = TL.tl _
  unfold wtext rtext showL
  simp only [TL.tl_append, q0, q1, q2, q3, q4, q5, WRD, List.zip_cons_cons, List.zip_nil_right, List.map_cons, List.map_nil, TL.join_eq, TL.tl_join, TL.joinL, List.nil_append, List.append_assoc]
theorem rtext_show {ns : List Int} (l : ns.length = 5) : rtext ns = wtext (showL ns) := by
  match ns, l with
  | [a0, a1, a2, a3, a4], _ => exact rtext_w _ _ _ _ _
theorem wtext_flat (s0 s1 s2 s3 s4 : Str) : wtext [s0, s1, s2, s3, s4] = Txt.join " " (["seats", s0, "lapse", s1, "beat", s2, "grace", s3, "late", s4] : List Str) := by
  refine ext_toList ?_
  show TL.tl _ = TL.tl _
  unfold wtext
  simp only [TL.tl_append, WRD, List.zip_cons_cons, List.zip_nil_right, List.map_cons, List.map_nil, TL.join_eq, TL.tl_join, TL.joinL, List.nil_append, List.append_assoc]
theorem num_free {n : Int} (h : 0 ≤ n) : 32 ∉ TL.tl (Str.ofString (toString n)) := by
  obtain ⟨k, rfl⟩ := Int.eq_ofNat_of_zero_le h
  rw [TL.tl_num]
  exact TL.numL_free (.inl (by decide))
theorem wtext_split {s0 s1 s2 s3 s4 : Str} (h0 : 32 ∉ TL.tl s0) (h1 : 32 ∉ TL.tl s1) (h2 : 32 ∉ TL.tl s2) (h3 : 32 ∉ TL.tl s3) (h4 : 32 ∉ TL.tl s4) : Txt.split (wtext [s0, s1, s2, s3, s4]) " " = (["seats", s0, "lapse", s1, "beat", s2, "grace", s3, "late", s4] : List Str) := by
  rw [wtext_flat]
  refine TL.split_join (s := 32) (S := []) (by decide +kernel) (by decide +kernel) (by simp) (fun p m => ?_)
  simp only [List.mem_cons, List.not_mem_nil, or_false] at m
  rcases m with rfl | rfl | rfl | rfl | rfl | rfl | rfl | rfl | rfl | rfl
  · decide +kernel
  · exact h0
  · decide +kernel
  · exact h1
  · decide +kernel
  · exact h2
  · decide +kernel
  · exact h3
  · decide +kernel
  · exact h4
end My
set_option Elab.async false
set_option linter.all false
set_option maxRecDepth 100000
set_option maxHeartbeats 800000
namespace My
open PySem PySem.Spec PyProof.Rows L2 RZ SkE CL OW
theorem rtext_of {ns : List Int} (g : Good ns) (u : ∀ n ∈ ns, n ≤ 9999999) : RText (rtext ns) ns := by
  obtain ⟨a0, a1, a2, a3, a4, rfl, ⟨l0, l1, l2, l3, l4⟩, u0, u1, u2, u3, u4⟩ := g
  have b0 := u a0 (by simp)
  have b1 := u a1 (by simp)
  have b2 := u a2 (by simp)
  have b3 := u a3 (by simp)
  have b4 := u a4 (by simp)
  have n0 := sh_len (n := a0) (k := 7) (by omega) (by decide) (by omega)
  have n1 := sh_len (n := a1) (k := 7) (by omega) (by decide) (by omega)
  have n2 := sh_len (n := a2) (k := 7) (by omega) (by decide) (by omega)
  have n3 := sh_len (n := a3) (k := 7) (by omega) (by decide) (by omega)
  have n4 := sh_len (n := a4) (k := 7) (by omega) (by decide) (by omega)
  have s0 := sh_num (n := a0) (d := 7) (k := 7) (by omega) (by decide) (by omega) rfl
  have s1 := sh_num (n := a1) (d := 7) (k := 7) (by omega) (by decide) (by omega) rfl
  have s2 := sh_num (n := a2) (d := 7) (k := 7) (by omega) (by decide) (by omega) rfl
  have s3 := sh_num (n := a3) (d := 7) (k := 7) (by omega) (by decide) (by omega) rfl
  have s4 := sh_num (n := a4) (d := 7) (k := 7) (by omega) (by decide) (by omega) rfl
  have i0 := sh_int (n := a0) (k := 7) (by omega) (by decide) (by omega) (by decide)
  have i1 := sh_int (n := a1) (k := 7) (by omega) (by decide) (by omega) (by decide)
  have i2 := sh_int (n := a2) (k := 7) (by omega) (by decide) (by omega) (by decide)
  have i3 := sh_int (n := a3) (k := 7) (by omega) (by decide) (by omega) (by decide)
  have i4 := sh_int (n := a4) (k := 7) (by omega) (by decide) (by omega) (by decide)
  have S : Txt.split (rtext [a0, a1, a2, a3, a4]) " " = (["seats", shN a0, "lapse", shN a1, "beat", shN a2, "grace", shN a3, "late", shN a4] : List Str) := by
    rw [rtext_w]
    exact wtext_split (num_free (by omega)) (num_free (by omega)) (num_free (by omega)) (num_free (by omega)) (num_free (by omega))
  have w0 : ("seats" : Str).length = 5 := by decide +kernel
  have w1 : ("lapse" : Str).length = 5 := by decide +kernel
  have w2 : ("beat" : Str).length = 4 := by decide +kernel
  have w3 : ("grace" : Str).length = 5 := by decide +kernel
  have w4 : ("late" : Str).length = 4 := by decide +kernel
  refine ⟨?_, ?_, ?_, rfl, ?_, by rw [S]; rfl⟩
  · have n0 : (Str.ofString (toString a0)).length ≤ 7 := n0
    have n1 : (Str.ofString (toString a1)).length ≤ 7 := n1
    have n2 : (Str.ofString (toString a2)).length ≤ 7 := n2
    have n3 : (Str.ofString (toString a3)).length ≤ 7 := n3
    have n4 : (Str.ofString (toString a4)).length ≤ 7 := n4
    unfold rtext
    simp only [Str.length_append, e_0, e_1, e_2, e_3, e_4, e_5]
    omega
  · rw [S]
    intro s m
    simp only [List.mem_cons, List.not_mem_nil, or_false] at m
    rcases m with rfl | rfl | rfl | rfl | rfl | rfl | rfl | rfl | rfl | rfl <;> omega
  · rw [S]
    unfold wrongR
    have r0 : rightS 0 "seats" = true := by decide +kernel
    have r2 : rightS 2 "lapse" = true := by decide +kernel
    have r4 : rightS 4 "beat" = true := by decide +kernel
    have r6 : rightS 6 "grace" = true := by decide +kernel
    have r8 : rightS 8 "late" = true := by decide +kernel
    have r1 : rightS 1 (shN a0) = true := s0
    have r3 : rightS 3 (shN a1) = true := s1
    have r5 : rightS 5 (shN a2) = true := s2
    have r7 : rightS 7 (shN a3) = true := s3
    have r9 : rightS 9 (shN a4) = true := s4
    have f : ((["seats", shN a0, "lapse", shN a1, "beat", shN a2, "grace", shN a3, "late", shN a4] : List Str).take 10).zipIdx.find? (fun p => !rightS p.2 p.1) = none := by
      show List.find? (fun p : Str × Nat => !rightS p.2 p.1) [(("seats" : Str), 0), (shN a0, 1), ("lapse", 2), (shN a1, 3), ("beat", 4), (shN a2, 5), ("grace", 6), (shN a3, 7), ("late", 8), (shN a4, 9)] = none
      simp only [List.find?_cons, r0, r1, r2, r3, r4, r5, r6, r7, r8, r9, Bool.not_true, List.find?_nil]
    rw [f]
    rfl
  · intro i s n hs hn
    rw [S] at hs
    match i, hs, hn with
    | 0, hs, hn => cases hs; cases hn; exact i0
    | 1, hs, hn => cases hs; cases hn; exact i1
    | 2, hs, hn => cases hs; cases hn; exact i2
    | 3, hs, hn => cases hs; cases hn; exact i3
    | 4, hs, hn => cases hs; cases hn; exact i4
    | i + 5, hs, hn => exact absurd hn (by simp)
theorem DrawnB.small {ns : List Int} (h : DrawnB ns) : ∀ n ∈ ns, n ≤ 9999999 := by
  obtain ⟨s, l, b, g, t, rfl, h0, h1, h2, h3, h4⟩ := h
  intro n m
  simp only [List.mem_cons, List.not_mem_nil, or_false] at m
  rcases m with rfl | rfl | rfl | rfl | rfl <;> omega
end My
set_option Elab.async false
set_option linter.all false
set_option maxRecDepth 100000
set_option maxHeartbeats 800000
namespace My
open PySem PySem.Spec PyProof.Rows L2 RZ SkE CL OW
/-- a number or a text, shown -/
inductive ShV : V → Str → Prop
  | int (n : Int) (h : n.natAbs.log2 < 1920) : ShV (.int n) (Str.ofString (toString n))
  | str (z : Str) (h : z.length ≤ 2000) : ShV (.str z) z
def spRText : Sp := fun vs H Q _ => ∃ (a : Addr) (xs : List V) (ws : List Str) (L R : List Ck) (I : List (Hp → Prop)), vs = [.ref a] ∧ xs.length = 5 ∧ ws.length = 5 ∧ (∀ (i : Nat) (x : V) (z : Str), xs[i]? = some x → ws[i]? = some z → ShV x z) ∧ Own H L I ∧ Pull L (.pt a (.lst xs)) R ∧ ∀ H', Own H' L I → Q (.str (wtext ws)) H'
theorem ask_rtext {a : Addr} {xs : List V} {ws : List Str} {H : Hp} {Q : VK} {E : XK} {L R : List Ck} {I : List (Hp → Prop)} (l : xs.length = 5) (m : ws.length = 5) (s : ∀ (i : Nat) (x : V) (z : Str), xs[i]? = some x → ws[i]? = some z → ShV x z) (h : Own H L I) (p : Pull L (.pt a (.lst xs)) R) (q : ∀ H', Own H' L I → Q (.str (wtext ws)) H') : Ask (spRText ([.ref a] ++ []) H Q E) := ⟨a, xs, ws, L, R, I, rfl, l, m, s, h, p, q⟩
def partL (ws : List Str) (i : Nat) : List Str := ((WRD.zip ws).map fun p : Str × Str => (p.1 ++ " " ++ p.2 : Str)).take i
theorem partL_succ {ws : List Str} {i : Nat} {w z : Str} (h : WRD[i]? = some w) (g : ws[i]? = some z) : partL ws (i + 1) = partL ws i ++ [(w ++ " " ++ z : Str)] := by
  unfold partL
  have e : (WRD.zip ws)[i]? = some (w, z) := List.getElem?_zip_eq_some.mpr ⟨h, g⟩
  rw [List.take_add_one, List.getElem?_map, e]
  rfl
theorem sum_le : ∀ {l : List Str}, (∀ z ∈ l, z.length ≤ 2010) → (l.map (·.length)).sum ≤ 2010 * l.length
  | [], _ => Nat.zero_le _
  | z :: l, h => by
    have := sum_le (l := l) fun z m => h z (List.mem_cons_of_mem _ m)
    have := h z List.mem_cons_self
    rw [List.map_cons, List.sum_cons, List.length_cons]
    omega
section
variable (P : Program) (W0 : World) {K : PySem.W.Frag} {mg : Str → Option Value} (base : Heap)
local macro_rules | `(tactic| walk_at "len") => `(tactic| first | assumption | omega | (simp only [Str.length_append] at *; omega))
set_option hygiene false in
local macro_rules | `(tactic| walk_at "cls") => `(tactic| first | exact T.c_Rule.cl | exact T.na_Rule_seats | exact T.na_Rule_lapse | exact T.na_Rule_beat | exact T.na_Rule_grace | exact T.na_Rule_late)
local macro_rules | `(tactic| walk_at "fld") => `(tactic| refine fld_rule (by assumption) (by walk_at "mem") (by walk_at "cls") (by walk_at "cls") rfl ?_)
local macro_rules | `(tactic| walk_at "good") => `(tactic| first | assumption | exact good_mk (by omega))
local macro_rules | `(tactic| walk_at "sm") => `(tactic| assumption)
local macro_rules | `(tactic| walk_at "lo") => `(tactic| first | omega | (simp only [lo_0, lo_1, lo_2, lo_3, lo_4]; omega))
set_option hygiene false in
local macro_rules | `(tactic| walk_at "seq") => `(tactic| first | exact T.s_WORDS _)
set_option hygiene false in
local macro_rules | `(tactic| walk_at "ask") => `(tactic| first
  | fail)
theorem G_l_rule_text (T : Tx W0 K mg) : FnOk P W0 K mg base CX0 1 T.f_l_rule_text T.d_l_rule_text ["_law_numbers"] spRText := by
  refine T.F_l_rule_text.ok sc_l_rule_text (fun vs H Q E h => ?_) (fun cdv A outer s H vs Q E hr h => ?_)
  · obtain ⟨a, xs, ws, L, R, I, rfl, _⟩ := h
    rfl
  · obtain ⟨a, xs, ws, L, R, I, rfl, l, m, sh, hO, hp, q⟩ := h
    have sl := sizeLine_eq
    refine ⟨_, (pss_cons (ps_set (i := 1) sc_l_rule_text.nd rfl (Or.inr rfl) (e_lst (pa_cons pe_str (pa_cons pe_str (pa_cons pe_str (pa_cons pe_str (pa_cons pe_str pa_nil)))))))
    (pss_one (ps_ret (e_join pe_str (e_lc (own := [("_law_at", 2)]) (by rfl) sc_l_rule_text.nd (i_range1 (by rfl) T.range (pa_cons pe_int pa_nil)) (blkOk_by (own := [("_law_at", 2)]) (N := ["_law_numbers", "_law_words", "_law_at"]) (sc := defScope s_l_rule_text) (by decide +kernel)) (fun _ _ _ _ _ => (pg_name (i := 2) sc_l_rule_text.nd rfl (Or.inl rfl))) (fun _ _ _ _ _ => pts_nil) (fun _ _ _ _ _ => (pe_op (c_addGK (K := K) rfl) (pe_op (c_addGK (K := K) rfl) (pe_ix (c_ixK (K := K) rfl) (c_var 1) (c_var 2) (fun _ _ => rfl)) pe_str) (pe_callTy k_str (by rfl) T.str (by decide +kernel) (pa_cons (pe_ix (c_ixK (K := K) rfl) (c_var 0) (c_var 2) (fun _ _ => rfl)) pa_nil))))))))), ?_⟩
    walk_at "go"
    obtain ⟨pw, hpw⟩ : ∃ x, x = pp := ⟨_, rfl⟩
    subst hpw
    refine newa_o w (fun p wp => ?_)
    refine la_range (fun i H' => (∀ z ∈ partL ws i, z.length ≤ 2010) ∧ Own H' (.pt p (.lst ((partL ws i).map V.str)) :: .pt pw (.lst [.str "seats", .str "lapse", .str "beat", .str "grace", .str "late"]) :: L) I) ⟨fun z m => (List.not_mem_nil m).elim, by walk_at "own"⟩ ?_ ?_
    · rintro i H1 hi ⟨hb, e⟩
      have hi : i < 5 := hi
      have hy : xs[i]? = some (xs[i]'(by omega)) := List.getElem?_eq_getElem _
      obtain ⟨y, hyd⟩ : ∃ y, y = xs[i]'(by omega) := ⟨_, rfl⟩
      rw [← hyd] at hy
      have hs : ws[i]? = some (ws[i]'(by omega)) := List.getElem?_eq_getElem _
      obtain ⟨t, htd⟩ : ∃ t, t = ws[i]'(by omega) := ⟨_, rfl⟩
      rw [← htd] at hs
      obtain ⟨wd, hw, lw⟩ : ∃ w : Str, WRD[i]? = some w ∧ w.length ≤ 5 := by
        obtain rfl | rfl | rfl | rfl | rfl : i = 0 ∨ i = 1 ∨ i = 2 ∨ i = 3 ∨ i = 4 := by omega
        all_goals exact ⟨_, rfl, by decide +kernel⟩
      have hw2 : (([.str "seats", .str "lapse", .str "beat", .str "grace", .str "late"] : List V))[i]? = some (.str wd) := by
        obtain rfl | rfl | rfl | rfl | rfl : i = 0 ∨ i = 1 ∨ i = 2 ∨ i = 3 ∨ i = 4 := by omega
        all_goals (cases hw; rfl)
      have sv := sh i y t hy hs
      have s1 : Str.length " " = 1 := by decide +kernel
      have tl : t.length ≤ 2000 := by
        cases sv with
        | int n h => exact Nat.le_trans (int_text_len_1921 h) (by decide)
        | str z h => exact h
      have sm : (wd ++ " " ++ t : Str).length ≤ 2010 := by rw [Str.length_append, Str.length_append, s1]; omega
      rw [partL_succ hw hs]
      unfold LcT
      walk_at "go"
      refine At.nat i (by omega) hw2 ?_
      walk_at "go"
      refine At.nat i (by omega) hy ?_
      have pl : (partL ws i).length ≤ 5 := by unfold partL; rw [List.length_take]; omega
      have nb : ∀ z ∈ partL ws i ++ [(wd ++ " " ++ t : Str)], z.length ≤ 2010 := fun z m => (List.mem_append.mp m).elim (hb z) (fun m => by rw [List.mem_singleton.mp m]; exact sm)
      cases sv with
      | int n h =>
        walk_at "go"
        rw [List.map_append]
        exact ⟨nb, by walk_at "own"⟩
      | str z h =>
        walk_at "go"
        rw [List.map_append]
        exact ⟨nb, by walk_at "own"⟩
    · rintro H1 ⟨hb, e⟩
      walk_at "go"
      refine Join.mk ⟨partL ws 5, .inl (SqL.of (e.get (by walk_at "pull"))), ?_, ?_⟩
      · have s1 : Str.length " " = 1 := by decide +kernel
        have pl : (partL ws 5).length ≤ 5 := by unfold partL; rw [List.length_take]; exact Nat.min_le_left _ _
        have := sum_le (fun z m => hb z m) (l := (partL ws 5))
        rw [s1]
        omega
      · have e2 : Txt.join " " (partL ws 5) = wtext ws := by
          unfold partL wtext
          rw [List.take_of_length_le (by rw [List.length_map, List.length_zip]; exact Nat.min_le_left _ _)]
        rw [e2]
        exact q _ (by walk_at "own")
end
end My
set_option Elab.async false
set_option linter.all false
set_option maxRecDepth 100000
set_option maxHeartbeats 800000
namespace My
open PySem PySem.Spec PyProof.Rows L2 RZ SkE CL OW
def AscS (z : Str) : Prop := ∀ c ∈ TL.tl z, c < 128
theorem AscS.app {a b : Str} (h : AscS a) (g : AscS b) : AscS (a ++ b) := fun c m => by
  rw [TL.tl_append] at m
  exact (List.mem_append.mp m).elim (h c) (g c)
theorem asc_num {n : Int} (h : 0 ≤ n) : AscS (Str.ofString (toString n)) := fun c m => by
  obtain ⟨k, rfl⟩ := Int.eq_ofNat_of_zero_le h
  rw [TL.tl_num] at m
  have := TL.numL_digits k c m
  omega
theorem AscS.ok {z : Str} (h : AscS z) : PyData.strOk z = true := by
  unfold PyData.strOk
  rw [← Array.all_toList, List.all_eq_true]
  exact fun c m => decide_eq_true (Nat.lt_trans (h c m) (by decide))
theorem AscS.shw {z : Str} (h : AscS z) (l : z.length ≤ 20000) : ShwB (.str z) 0 200100 := by
  refine (shw_str (by simp [PyData.canLay0, h.ok])).up (Nat.le_refl _) ?_
  have := StrLaws.reprText_len z (fun c m => Nat.lt_trans (h c m) (by decide))
  omega
theorem rtext_asc {ns : List Int} (g : Good ns) : AscS (rtext ns) ∧ (rtext ns).length ≤ 20000 := by
  obtain ⟨a0, a1, a2, a3, a4, rfl, ⟨l0, l1, l2, l3, l4⟩, u0, u1, u2, u3, u4⟩ := g
  have y0 := int_text_len_1921 (log_of (by omega) u0)
  have y1 := int_text_len_1921 (log_of (by omega) u1)
  have y2 := int_text_len_1921 (log_of (by omega) u2)
  have y3 := int_text_len_1921 (log_of (by omega) u3)
  have y4 := int_text_len_1921 (log_of l4 u4)
  constructor
  · show AscS (Str.empty ++ Str.ofString "seats " ++ Str.ofString (toString a0) ++ Str.ofString " lapse " ++ Str.ofString (toString a1) ++ Str.ofString " beat " ++ Str.ofString (toString a2) ++ Str.ofString " grace " ++ Str.ofString (toString a3) ++ Str.ofString " late " ++ Str.ofString (toString a4))
    exact ((((((((((AscS.app (by intro c m; cases m) (by unfold AscS; decide +kernel)).app (asc_num (by omega))).app (by unfold AscS; decide +kernel)).app (asc_num (by omega))).app (by unfold AscS; decide +kernel)).app (asc_num (by omega))).app (by unfold AscS; decide +kernel)).app (asc_num (by omega))).app (by unfold AscS; decide +kernel)).app (asc_num l4))
  · unfold rtext
    simp only [Str.length_append, e_0, e_1, e_2, e_3, e_4, e_5]
    omega
theorem rtext_shw {ns : List Int} (g : Good ns) : ShwB (.str (rtext ns)) 0 200100 := AscS.shw (rtext_asc g).1 (rtext_asc g).2
end My
set_option Elab.async false
set_option linter.all false
set_option maxRecDepth 100000
set_option maxHeartbeats 800000
namespace My
open PySem PySem.Spec PyProof.Rows L2 RZ SkE CL OW
theorem digv_lt : ∀ (cs : List Nat) (n : Nat), (∀ c ∈ cs, c ≤ 57) → cs.foldl (fun n c => n * 10 + (c - 48)) n < (n + 1) * 10 ^ cs.length
  | [], n, _ => by simp
  | c :: cs, n, h => by
    have := digv_lt cs (n * 10 + (c - 48)) fun x m => h x (List.mem_cons_of_mem _ m)
    have hc := h c List.mem_cons_self
    rw [List.foldl_cons, List.length_cons, Nat.pow_succ]
    refine Nat.lt_of_lt_of_le this ?_
    rw [Nat.mul_comm (10 ^ cs.length) 10, ← Nat.mul_assoc]
    exact Nat.mul_le_mul_right _ (by omega)
theorem num7_val {s : Str} (h : numS s 7 = true) : ∃ n : Nat, intText? s = some (n : Int) ∧ n < 10000000 ∧ s.length ≤ 640 := by
  unfold numS at h
  have h1 := Bool.and_eq_true_iff.mp h
  have h2 := Bool.and_eq_true_iff.mp h1.2
  have h3 := Bool.and_eq_true_iff.mp (show (decide (0 < s.length) && (TL.tl s).all fun c => decide (48 ≤ c) && decide (c ≤ 57)) = true from h2.1)
  have l := of_decide_eq_true h1.1
  have l0 := of_decide_eq_true h3.1
  have dg : ∀ c ∈ s.cps.toList, 48 ≤ c ∧ c ≤ 57 := fun c m => by
    have := Bool.and_eq_true_iff.mp (List.all_eq_true.mp h3.2 c m)
    exact ⟨of_decide_eq_true this.1, of_decide_eq_true this.2⟩
  refine ⟨_, PySem.intText_digits (x := s) dg (fun e => ?_) (by omega), ?_, by omega⟩
  · rw [TL.len_tl] at l0
    rw [show TL.tl s = [] from e] at l0
    exact absurd l0 (by decide)
  · have a := digv_lt s.cps.toList 0 fun c m => (dg c m).2
    have b : s.cps.toList.length ≤ 7 := by
      have : s.length = s.cps.toList.length := TL.len_tl s
      omega
    have c : 10 ^ s.cps.toList.length ≤ 10 ^ 7 := Nat.pow_le_pow_right (by decide) b
    have d : (10 : Nat) ^ 7 = 10000000 := by decide
    have e : s.cps.toList.foldl (fun n c => n * 10 + (c - 48)) 0 < 10000000 := by omega
    exact e
theorem wrong_none {ss : List Str} (h : wrongR ss = none) : ss.length = 10 ∧ ∀ i s, ss[i]? = some s → rightS i s = true := by
  unfold wrongR at h
  cases hf : (ss.take 10).zipIdx.find? (fun p => !rightS p.2 p.1) with
  | some p => rw [hf] at h; cases h
  | none =>
    rw [hf] at h
    have l : ss.length = 10 := by
      by_cases l : ss.length = 10
      · exact l
      · have h : (if ss.length = 10 then none else some (min ss.length 10)) = none := h
        rw [if_neg l] at h
        cases h
    refine ⟨l, fun i s hs => ?_⟩
    have a := List.find?_eq_none.mp hf (s, i) (by
      refine List.mem_of_getElem? (i := i) ?_
      rw [List.take_of_length_le (by omega), List.getElem?_zipIdx, hs, Nat.zero_add]
      rfl)
    simpa using a
theorem wrong_lt {ss : List Str} {i : Nat} (h : wrongR ss = some i) : i ≤ 10 := by
  unfold wrongR at h
  cases hf : (ss.take 10).zipIdx.find? (fun p => !rightS p.2 p.1) with
  | some p =>
    rw [hf] at h
    cases h
    have m := List.mem_of_find?_eq_some hf
    obtain ⟨x, y⟩ := p
    have := (List.mem_zipIdx' m).1
    rw [List.length_take] at this
    show y ≤ 10
    omega
  | none =>
    rw [hf] at h
    have h : (if ss.length = 10 then none else some (min ss.length 10)) = some i := h
    split at h
    · cases h
    · cases h
      exact Nat.min_le_right _ _
/-- the numbers that a text's parts tell -/
def numR (ss : List Str) : List Int := [(intText? (ss.getD 1 "")).getD 0, (intText? (ss.getD 3 "")).getD 0, (intText? (ss.getD 5 "")).getD 0, (intText? (ss.getD 7 "")).getD 0, (intText? (ss.getD 9 "")).getD 0]
theorem right_odd {ss : List Str} {j : Nat} {s : Str} (h : ∀ i s, ss[i]? = some s → rightS i s = true) (e : ss[2 * j + 1]? = some s) : ∃ n : Nat, intText? s = some (n : Int) ∧ n < 10000000 ∧ s.length ≤ 640 := by
  have := h _ _ e
  unfold rightS at this
  rw [if_pos (by omega)] at this
  exact num7_val this
theorem numR_ok {ss : List Str} (h : wrongR ss = none) : ∃ s0 s1 s2 s3 s4 s5 s6 s7 s8 s9, ss = [s0, s1, s2, s3, s4, s5, s6, s7, s8, s9] ∧ ∃ n0 n1 n2 n3 n4 : Nat, (intText? s1 = some (n0 : Int) ∧ s1.length ≤ 640 ∧ n0 < 10000000) ∧ (intText? s3 = some (n1 : Int) ∧ s3.length ≤ 640 ∧ n1 < 10000000) ∧ (intText? s5 = some (n2 : Int) ∧ s5.length ≤ 640 ∧ n2 < 10000000) ∧ (intText? s7 = some (n3 : Int) ∧ s7.length ≤ 640 ∧ n3 < 10000000) ∧ (intText? s9 = some (n4 : Int) ∧ s9.length ≤ 640 ∧ n4 < 10000000) ∧ numR ss = [(n0 : Int), n1, n2, n3, n4] := by
  obtain ⟨l, r⟩ := wrong_none h
  match ss, l with
  | [s0, s1, s2, s3, s4, s5, s6, s7, s8, s9], _ =>
  obtain ⟨n0, a0, b0, c0⟩ := right_odd (j := 0) (s := s1) r rfl
  obtain ⟨n1, a1, b1, c1⟩ := right_odd (j := 1) (s := s3) r rfl
  obtain ⟨n2, a2, b2, c2⟩ := right_odd (j := 2) (s := s5) r rfl
  obtain ⟨n3, a3, b3, c3⟩ := right_odd (j := 3) (s := s7) r rfl
  obtain ⟨n4, a4, b4, c4⟩ := right_odd (j := 4) (s := s9) r rfl
  refine ⟨_, _, _, _, _, _, _, _, _, _, rfl, n0, n1, n2, n3, n4, ⟨a0, c0, b0⟩, ⟨a1, c1, b1⟩, ⟨a2, c2, b2⟩, ⟨a3, c3, b3⟩, ⟨a4, c4, b4⟩, ?_⟩
  show [(intText? s1).getD 0, (intText? s3).getD 0, (intText? s5).getD 0, (intText? s7).getD 0, (intText? s9).getD 0] = _
  rw [a0, a1, a2, a3, a4]
  rfl
/-- what comes of a text: refused at a part, refused at a word, or a rule's numbers -/
def Read4 (z : Str) (qt : Nat → Prop) (qw : Str → Prop) (qr : List Int → Prop) : Prop :=
  (∀ i, wrongR (Txt.split z " ") = some i → qt i) ∧ (wrongR (Txt.split z " ") = none → (∀ w, firstBad (WRD.zip ((numR (Txt.split z " ")).map V.int)) = some w → qw w) ∧ (firstBad (WRD.zip ((numR (Txt.split z " ")).map V.int)) = none → Good (numR (Txt.split z " ")) → qr (numR (Txt.split z " "))))
def spRead4 (C CT CR : Addr) : Sp := fun vs H Q E => ∃ (x : V) (L : List Ck) (I : List (Hp → Prop)), vs = [.ref C, x] ∧ Own H L I ∧
  ((∃ z, x = .str z ∧ z.length ≤ 16777000 ∧ Read4 z (fun i => ∀ H' d, Own H' (.pt d (.xd [("at", .int (i : Nat))]) :: L) I → E (.ref CT) (some d) H') (fun w => ∀ H' d, Own H' (.pt d (.xd [("word", .str w)]) :: L) I → E (.ref CR) (some d) H') (fun ns => ∀ H' r, Own H' L (ruleI C r ns :: I) → Q (.ref r) H'))
   ∨ ∃ d l R, VO l x d ∧ Pull L (bagR l) R ∧ (∀ z, d ≠ .str z) ∧ ∀ H' d, Own H' (.pt d (.xd [("at", .int 0)]) :: L) I → E (.ref CT) (some d) H')
section
variable (P : Program) (W0 : World) {K : PySem.W.Frag} {mg : Str → Option Value} (base : Heap)
local macro_rules | `(tactic| walk_at "len") => `(tactic| first | assumption | omega)
set_option hygiene false in
local macro_rules | `(tactic| walk_at "cls") => `(tactic| first | exact T.c_Rule.cl | exact T.na_Rule_seats | exact T.na_Rule_lapse | exact T.na_Rule_beat | exact T.na_Rule_grace | exact T.na_Rule_late)
local macro_rules | `(tactic| walk_at "fld") => `(tactic| refine fld_rule (by assumption) (by walk_at "mem") (by walk_at "cls") (by walk_at "cls") rfl ?_)
local macro_rules | `(tactic| walk_at "good") => `(tactic| first | assumption | exact good_mk (by omega))
local macro_rules | `(tactic| walk_at "sm") => `(tactic| assumption)
local macro_rules | `(tactic| walk_at "lo") => `(tactic| first | omega | (simp only [lo_0, lo_1, lo_2, lo_3, lo_4]; omega))
set_option hygiene false in
local macro_rules | `(tactic| walk_at "seq") => `(tactic| first | exact T.s_WORDS _)
set_option hygiene false in
local macro_rules | `(tactic| walk_at "ask") => `(tactic| first
  | fail)
theorem GX_Rule_read (T : Tx W0 K mg) : FnOk P W0 K mg base (L2.CX P W0) 5 T.f_Rule_read T.d_Rule_read ["cls", "text"] (spRead4 T.C_Rule T.C_InvalidText T.C_InvalidRule) := by
  refine T.F_Rule_read.okX sc_Rule_read (fun vs H Q E h => ?_) (fun cdv A outer s H vs Q E hr h => ?_)
  · obtain ⟨x, L, I, rfl, _⟩ := h
    rfl
  · have hu64 := Room.units hr
    have sl := sizeLine_eq
    obtain ⟨x, L, I, rfl, hO, ⟨z, rfl, zl, q⟩ | ⟨d, l, R, v, p, nz, qe⟩⟩ := h
    rotate_left
    · refine ⟨_, (pss_cons (s_if (t_not (t_truth (pe_callB k_isi (by rfl) T.isinstance (by decide +kernel) (pa_cons (c_var 1) (pa_cons (pe_bltn (v := .ty "str") (by rfl) T.str (by decide +kernel) rfl) pa_nil))) (fun _ => rfl))) (pss_one (s_raise1 (by rfl) (takes_of rfl rfl rfl rfl) T.xo_InvalidText T.xi_InvalidText T.xt_InvalidText (G_InvalidText_init P W0 base T) (hr.mono (by decide)) T.b_InvalidText_init pass0 (by rfl) T.ge_InvalidText (pa_cons pe_int pa_nil))) pss_nil)
    (pss_cons (ps_set (i := 2) sc_Rule_read.nd rfl (Or.inl rfl) (e_split (c_var 1) pe_str))
    (pss_cons (ps_set (i := 3) sc_Rule_read.nd rfl (Or.inl rfl) (e_call (G_first_wrong P W0 base T) (hr.mono (by decide)) (by rfl) T.g_first_wrong T.F_first_wrong.kp T.b_first_wrong .nil pass0 (pa_cons (c_var 2) pa_nil)))
    (pss_cons (s_if (t_cmp c_isnotG (c_var 3) pe_non (nomark _)) (pss_one (s_raise1 (by rfl) (takes_of rfl rfl rfl rfl) T.xo_InvalidText T.xi_InvalidText T.xt_InvalidText (G_InvalidText_init P W0 base T) (hr.mono (by decide)) T.b_InvalidText_init pass0 (by rfl) T.ge_InvalidText (pa_cons (c_var 3) pa_nil))) pss_nil)
    (pss_cons (ps_asg (e_lc (own := [("part", 9)]) (by rfl) sc_Rule_read.nd (i_val (e_stepF (c_var 2) (by decide))) (blkOk_by (own := [("part", 9)]) (N := ["cls", "text", "parts", "at", "seats", "lapse", "beat", "grace", "late", "part"]) (sc := defScope s_Rule_read) (by decide +kernel)) (fun _ _ _ _ _ => (pg_name (i := 9) sc_Rule_read.nd rfl (Or.inl rfl))) (fun _ _ _ _ _ => pts_nil) (fun _ _ _ _ _ => (pe_callTy k_intG (by rfl) T.int (by decide +kernel) (pa_cons (c_var 9) pa_nil)))) (g_unl (by rfl) (g_cons (pg_name (i := 4) sc_Rule_read.nd rfl (Or.inl rfl)) (g_cons (pg_name (i := 5) sc_Rule_read.nd rfl (Or.inl rfl)) (g_cons (pg_name (i := 6) sc_Rule_read.nd rfl (Or.inl rfl)) (g_cons (pg_name (i := 7) sc_Rule_read.nd rfl (Or.inl rfl)) (g_cons (pg_name (i := 8) sc_Rule_read.nd rfl (Or.inl rfl)) g_nil)))))))
    (pss_one (ps_ret (e_makeV (i := 0) T.mk_Rule (GX_Rule_init P W0 base T) (hr.mono (by decide)) (by rfl) (by first | exact Or.inl rfl | exact Or.inr (Or.inl rfl) | exact Or.inr (Or.inr rfl)) T.b_Rule_init .nil (passes_call (takes_of rfl rfl rfl rfl) (fun _ _ _ _ h => h)) (pa_cons (c_var 4) (pa_cons (c_var 5) (pa_cons (c_var 6) (pa_cons (c_var 7) (pa_cons (c_var 8) pa_nil))))))))))))), ?_⟩
      have at_ := bag_at hO p
      walk_at "go"
      have hk : ∀ k : Bool → Prop, k false → IsI K H x (.type "str") k := fun k kf => by
        cases v with
        | str z => exact (nz z rfl).elim
        | int i => exact IsI.mk ⟨_, _, .base (.int _), (by walk_at "kit"), kf⟩
        | bl i => exact IsI.mk ⟨_, _, .base (.bl _), (by walk_at "kit"), kf⟩
        | non => exact IsI.mk ⟨_, _, .base .non, (by walk_at "kit"), kf⟩
        | lst m g => exact IsI.mk ⟨_, _, .base (.lst (at_ _ m)), (by walk_at "kit"), kf⟩
        | tup m g => exact IsI.mk ⟨_, _, .base (.tup (at_ _ m)), (by walk_at "kit"), kf⟩
      refine hk _ ?_
      walk_at "go"
      exact qe _ _ (Own.subI (Own.pick w (by walk_at "pick")) (by walk_at "subi"))
    have tb : ∀ s ∈ Txt.split z " ", s.length ≤ 16777216 := fun s m => Nat.le_trans (split_leS z s m) (by omega)
    refine ⟨_, (pss_cons (s_if (t_not (t_truth (pe_callB k_isi (by rfl) T.isinstance (by decide +kernel) (pa_cons (c_var 1) (pa_cons (pe_bltn (v := .ty "str") (by rfl) T.str (by decide +kernel) rfl) pa_nil))) (fun _ => rfl))) (pss_one (s_raise1 (by rfl) (takes_of rfl rfl rfl rfl) T.xo_InvalidText T.xi_InvalidText T.xt_InvalidText (G_InvalidText_init P W0 base T) (hr.mono (by decide)) T.b_InvalidText_init pass0 (by rfl) T.ge_InvalidText (pa_cons pe_int pa_nil))) pss_nil)
    (pss_cons (ps_set (i := 2) sc_Rule_read.nd rfl (Or.inl rfl) (e_split (c_var 1) pe_str))
    (pss_cons (ps_set (i := 3) sc_Rule_read.nd rfl (Or.inl rfl) (e_call (G_first_wrong P W0 base T) (hr.mono (by decide)) (by rfl) T.g_first_wrong T.F_first_wrong.kp T.b_first_wrong .nil pass0 (pa_cons (c_var 2) pa_nil)))
    (pss_cons (s_if (t_cmp c_isnotG (c_var 3) pe_non (nomark _)) (pss_one (s_raise1 (by rfl) (takes_of rfl rfl rfl rfl) T.xo_InvalidText T.xi_InvalidText T.xt_InvalidText (G_InvalidText_init P W0 base T) (hr.mono (by decide)) T.b_InvalidText_init pass0 (by rfl) T.ge_InvalidText (pa_cons (c_var 3) pa_nil))) pss_nil)
    (pss_cons (ps_asg (e_lc (own := [("part", 9)]) (by rfl) sc_Rule_read.nd (i_val (e_stepF (c_var 2) (by decide))) (blkOk_by (own := [("part", 9)]) (N := ["cls", "text", "parts", "at", "seats", "lapse", "beat", "grace", "late", "part"]) (sc := defScope s_Rule_read) (by decide +kernel)) (fun _ _ _ _ _ => (pg_name (i := 9) sc_Rule_read.nd rfl (Or.inl rfl))) (fun _ _ _ _ _ => pts_nil) (fun _ _ _ _ _ => (pe_callTy k_intG (by rfl) T.int (by decide +kernel) (pa_cons (c_var 9) pa_nil)))) (g_unl (by rfl) (g_cons (pg_name (i := 4) sc_Rule_read.nd rfl (Or.inl rfl)) (g_cons (pg_name (i := 5) sc_Rule_read.nd rfl (Or.inl rfl)) (g_cons (pg_name (i := 6) sc_Rule_read.nd rfl (Or.inl rfl)) (g_cons (pg_name (i := 7) sc_Rule_read.nd rfl (Or.inl rfl)) (g_cons (pg_name (i := 8) sc_Rule_read.nd rfl (Or.inl rfl)) g_nil)))))))
    (pss_one (ps_ret (e_makeV (i := 0) T.mk_Rule (GX_Rule_init P W0 base T) (hr.mono (by decide)) (by rfl) (by first | exact Or.inl rfl | exact Or.inr (Or.inl rfl) | exact Or.inr (Or.inr rfl)) T.b_Rule_init .nil (passes_call (takes_of rfl rfl rfl rfl) (fun _ _ _ _ h => h)) (pa_cons (c_var 4) (pa_cons (c_var 5) (pa_cons (c_var 6) (pa_cons (c_var 7) (pa_cons (c_var 8) pa_nil))))))))))))), ?_⟩
    walk_at "go"
    refine Chk.mk ⟨by decide, by omega⟩ ?_
    walk_at "go"
    refine ask_wrong w (by walk_at "pull") tb (fun H1 w => ?_)
    cases hw : wrongR (Txt.split z " ") with
    | some i =>
      walk_at "go"
      exact q.1 i hw _ _ (Own.subI (Own.pick w (by walk_at "pick")) (by walk_at "subi"))
    | none =>
    walk_at "go"
    have q := q.2 hw
    obtain ⟨ss, hss⟩ : ∃ ss, ss = Txt.split z " " := ⟨_, rfl⟩
    rw [← hss] at q w hw
    obtain ⟨s0, s1, s2, s3, s4, s5, s6, s7, s8, s9, rfl, a0, a1, a2, a3, a4, ⟨i0, l0, b0⟩, ⟨i1, l1, b1⟩, ⟨i2, l2, b2⟩, ⟨i3, l3, b3⟩, ⟨i4, l4, b4⟩, en⟩ := numR_ok hw
    rw [en] at q
    refine StepL.mk ⟨_, SqL.of (w.get (by walk_at "pull" : Pull _ (Ck.pt pp _) _)), ?_, ?_⟩
    · rw [show pickS (([s0, s1, s2, s3, s4, s5, s6, s7, s8, s9] : List Str).map V.str) (some ((1 : Nat) : Int)) (some ((2 : Nat) : Int)) = ([s1, s3, s5, s7, s9] : List Str).map V.str from pick_odd _ _ _ _ _ _ _ _ _ _]
      show 5 ≤ sizeLine
      omega
    rw [show pickS (([s0, s1, s2, s3, s4, s5, s6, s7, s8, s9] : List Str).map V.str) (some ((1 : Nat) : Int)) (some ((2 : Nat) : Int)) = ([s1, s3, s5, s7, s9] : List Str).map V.str from pick_odd _ _ _ _ _ _ _ _ _ _]
    refine new_o w (fun pq HH w => ?_)
    walk_at "go"
    refine newa_o w (fun y w => ?_)
    refine la_list (xs := ([s1, s3, s5, s7, s9] : List Str).map V.str) (fun i H' => Own H' (.pt y (.lst ((([(a0 : Int), a1, a2, a3, a4] : List Int).take i).map V.int)) :: .pt pq (.lst (([s1, s3, s5, s7, s9] : List Str).map V.str)) :: L) I) (Own.pick w (by walk_at "pick")) (fun i H' _ e => SqL.of (e.get (.tail .head))) ?_ ?_
    · rintro i x H3 hx w
      have hi : i < 5 := lt_get hx
      have hi5 : i = 0 ∨ i = 1 ∨ i = 2 ∨ i = 3 ∨ i = 4 := by omega
      rcases hi5 with rfl | rfl | rfl | rfl | rfl
      · cases hx
        walk_at "go"
        refine IntS.mk ⟨a0, i0, l0, ?_⟩
        walk_at "go"
        exact w
      · cases hx
        walk_at "go"
        refine IntS.mk ⟨a1, i1, l1, ?_⟩
        walk_at "go"
        exact w
      · cases hx
        walk_at "go"
        refine IntS.mk ⟨a2, i2, l2, ?_⟩
        walk_at "go"
        exact w
      · cases hx
        walk_at "go"
        refine IntS.mk ⟨a3, i3, l3, ?_⟩
        walk_at "go"
        exact w
      · cases hx
        walk_at "go"
        refine IntS.mk ⟨a4, i4, l4, ?_⟩
        walk_at "go"
        exact w
    · rintro H3 w
      have w : Own H3 (.pt y (.lst [.int a0, .int a1, .int a2, .int a3, .int a4]) :: .pt pq (.lst (([s1, s3, s5, s7, s9] : List Str).map V.str)) :: L) I := w
      walk_at "go"
      refine ask_initX (xs := [V.int a0, .int a1, .int a2, .int a3, .int a4]) rfl w ?_ ?_ (fun wd hb d H4 w => ?_) (fun ns hb hn g r H4 w => ?_)
      · intro x m
        simp only [List.mem_cons, List.not_mem_nil, or_false] at m
        rcases m with rfl | rfl | rfl | rfl | rfl <;> exact fun R H' _ => .int _
      · intro i m
        simp only [List.mem_cons, List.not_mem_nil, or_false, V.int.injEq] at m
        omega
      · exact q.1 wd hb _ _ (Own.subI (Own.pick w (by walk_at "pick")) (by walk_at "subi"))
      · obtain rfl : ns = [(a0 : Int), a1, a2, a3, a4] := by
          have inj : ∀ (a b : List Int), a.map V.int = b.map V.int → a = b := by
            intro a
            induction a with
            | nil => intro b e; cases b with | nil => rfl | cons y b => cases e
            | cons x a ih => intro b e; cases b with | nil => cases e | cons y b => injection e with e1 e2; rw [V.int.inj e1, ih b e2]
          exact inj _ _ hn.symm
        walk_at "go"
        exact q.2 hb g _ _ (w.pick (by walk_at "pick"))
end
end My
set_option Elab.async false
set_option linter.all false
set_option maxRecDepth 100000
set_option maxHeartbeats 800000
namespace My
open PySem PySem.Spec PyProof.Rows L2 RZ SkE CL OW
def spIsN4 : Sp := fun vs H Q _ => ∃ (z : Str) (L : List Ck) (I : List (Hp → Prop)), vs = [.str z] ∧ Own H L I ∧ z.length ≤ 16777000 ∧ AsZ z ∧ ∀ H', Own H' L I → Q (.bl (numS z 7)) H'
theorem ask_isN4 {z : Str} {H : Hp} {Q : VK} {E : XK} {L : List Ck} {I : List (Hp → Prop)} (h : Own H L I) (l : z.length ≤ 16777000) (az : AsZ z) (q : ∀ H', Own H' L I → Q (.bl (numS z 7)) H') : Ask (spIsN4 ([.str z] ++ []) H Q E) := ⟨z, L, I, rfl, h, l, az, q⟩
section
variable (P : Program) (W0 : World) {K : PySem.W.Frag} {mg : Str → Option Value} (base : Heap)
local macro_rules | `(tactic| walk_at "shp") => `(tactic| first | exact shaped_asz (nodg_asz (by assumption) _) | exact shaped_nil)
local macro_rules | `(tactic| walk_at "len") => `(tactic| first | assumption | omega)
set_option hygiene false in
local macro_rules | `(tactic| walk_at "cls") => `(tactic| first | exact T.c_Rule.cl | exact T.na_Rule_seats | exact T.na_Rule_lapse | exact T.na_Rule_beat | exact T.na_Rule_grace | exact T.na_Rule_late)
local macro_rules | `(tactic| walk_at "fld") => `(tactic| refine fld_rule (by assumption) (by walk_at "mem") (by walk_at "cls") (by walk_at "cls") rfl ?_)
local macro_rules | `(tactic| walk_at "good") => `(tactic| first | assumption | exact good_mk (by omega))
local macro_rules | `(tactic| walk_at "sm") => `(tactic| assumption)
local macro_rules | `(tactic| walk_at "lo") => `(tactic| first | omega | (simp only [lo_0, lo_1, lo_2, lo_3, lo_4]; omega))
set_option hygiene false in
local macro_rules | `(tactic| walk_at "seq") => `(tactic| first | exact T.s_WORDS _)
set_option hygiene false in
local macro_rules | `(tactic| walk_at "ask") => `(tactic| first
  | fail)
theorem G_l_is_number (T : Tx W0 K mg) : FnOk P W0 K mg base CX0 1 T.f_l_is_number T.d_l_is_number ["_law_word"] spIsN4 := by
  refine T.F_l_is_number.ok sc_l_is_number (fun vs H Q E h => ?_) (fun cdv A outer s H vs Q E hr h => ?_)
  · obtain ⟨z, L, I, rfl, _⟩ := h
    rfl
  · obtain ⟨u0, L, I, rfl, hO, hl, z3, q⟩ := h
    have hu64 := Room.units hr
    have sl := sizeLine_eq
    refine ⟨_, (pss_cons (s_if (PW.pt (w_or (t_not (t_chain c_lt c_lt pe_int (pe_callB k_len (by rfl) T.len PySem.boot_len (pa_cons (c_var 0) pa_nil)) pe_int)) (w_or1 (t_cmp (c_ne hu64) (e_lc (own := [("_law_sign", 1)]) (by rfl) sc_l_is_number.nd (i_str (c_var 0)) (blkOk_by (own := [("_law_sign", 1)]) (N := ["_law_word", "_law_sign"]) (sc := defScope s_l_is_number) (by decide +kernel)) (fun _ _ _ _ _ => (pg_name (i := 1) sc_l_is_number.nd rfl (Or.inl rfl))) (fun _ _ _ _ _ => (pts_one (t_cmp c_notinSg (c_var 1) pe_str (by with_unfolding_all rfl)))) (fun _ _ _ _ _ => (c_var 1))) (e_lst pa_nil) (nomark _))))) (pss_one (ps_ret pe_bl)) pss_nil)
    (pss_one (ps_ret (e_or (pe_cmpR (c_eq hu64) (c_var 0) pe_str (nomark _)) (pe_one (pe_cmpR (c_ne hu64) (pe_ix (c_ixK (K := K) rfl) (c_var 0) pe_int (fun _ _ => rfl)) pe_str (nomark _))))))), ?_⟩
    walk_at "go"
    by_cases l0 : u0.length = 0
    · have hn : numS u0 7 = false := by
        unfold numS
        rw [show digS u0 = false by unfold digS; rw [decide_eq_false (by rw [l0]; decide)]; rfl]
        simp
      rw [hn] at q
      refine br_f (by exact decide_eq_false (by omega)) ?_
      walk_at "go"
      exact q _ hO
    refine br_t (by exact decide_eq_true (by omega)) ?_
    walk_at "go"
    by_cases l3 : u0.length < 8
    rotate_left
    · have hn : numS u0 7 = false := by
        unfold numS
        rw [decide_eq_false (by omega)]
        rfl
      rw [hn] at q
      refine br_t (by exact congrArg (!·) (decide_eq_false (by omega))) ?_
      walk_at "go"
      exact q _ hO
    refine br_f (by exact congrArg (!·) (decide_eq_true (by omega))) ?_
    walk_at "go"
    refine its_mk ?_
    refine newa_o hO (fun y w => ?_)
    refine la_str (x := u0) (fun i H' => Own H' (.pt y (.lst ((nodg u0 i).map V.str)) :: L) I) (by rw [nodg_zero]; exact w.pick (by walk_at "pick")) ?_ ?_
    · rintro i c H1 hc w
      walk_at "go"
      refine sgs_mk ?_
      walk_at "go"
      by_cases hd : c ∈ ("0123456789" : Str).cps.toList
      · refine br_f (by rw [if_pos rfl, decide_eq_true hd]; rfl) ?_
        walk_at "go"
        rw [nodg_yes hc hd]
        exact w
      · refine br_t (by rw [if_pos rfl, decide_eq_false hd]; rfl) ?_
        rw [nodg_no hc hd, List.map_append]
        have nl := nodg_len u0 i
        walk_at "go"
        exact w
    · rintro H1 w
      walk_at "go"
      rw [if_pos rfl, eqv_strs0]
      have l64 : u0.length = u0.cps.toList.length := TL.len_tl u0
      by_cases he : nodg u0 u0.cps.size = []
      rotate_left
      · have hn : numS u0 7 = false := by
          cases hx : numS u0 7 with
          | false => rfl
          | true =>
            unfold numS at hx
            have h1 := Bool.and_eq_true_iff.mp hx
            have h2 := Bool.and_eq_true_iff.mp h1.2
            have h3 := Bool.and_eq_true_iff.mp (show (decide (0 < u0.length) && (TL.tl u0).all fun c => decide (48 ≤ c) && decide (c ≤ 57)) = true from h2.1)
            refine (he (nodg_all.mpr fun c m => ?_)).elim
            have := Bool.and_eq_true_iff.mp (List.all_eq_true.mp h3.2 c m)
            exact ⟨of_decide_eq_true this.1, of_decide_eq_true this.2⟩
        rw [hn] at q
        refine br_t (congrArg (!·) (decide_eq_false he)) ?_
        walk_at "go"
        exact q _ (w.pick (by walk_at "pick"))
      refine br_f (congrArg (!·) (decide_eq_true he)) ?_
      have dg := nodg_all.mp he
      have hd : digS u0 = true := by
        show (decide (0 < u0.length) && (TL.tl u0).all fun c => decide (48 ≤ c) && decide (c ≤ 57)) = true
        rw [decide_eq_true (by omega), Bool.true_and, List.all_eq_true]
        exact fun c m => by rw [decide_eq_true (dg c m).1, decide_eq_true (dg c m).2]; rfl
      obtain ⟨c, l, e⟩ : ∃ c l, u0.cps.toList = c :: l := List.exists_cons_of_length_pos (by omega)
      have hh : (TL.tl u0).head? = some c := by show u0.cps.toList.head? = _; rw [e]; rfl
      have n2 : numS u0 7 = (decide (u0 = "0") || decide (c ≠ 48)) := by
        unfold numS
        rw [decide_eq_true (by omega), hd, hh, Bool.true_and, Bool.true_and]
        congr 1
        exact decide_eq_decide.mpr ⟨fun z y => z (by rw [y]), fun z y => z (Option.some.inj y)⟩
      rw [n2] at q
      walk_at "go"
      by_cases hz0 : u0 = "0"
      · rw [decide_eq_true hz0, Bool.true_or] at q
        refine br_t (by rw [if_neg (by decide)]; exact decide_eq_true (congrArg V.str hz0)) ?_
        walk_at "go"
        exact q _ (w.pick (by walk_at "pick"))
      · rw [decide_eq_false hz0, Bool.false_or] at q
        refine br_f (by rw [if_neg (by decide)]; exact decide_eq_false (fun y => hz0 (V.str.inj y))) ?_
        walk_at "go"
        refine At.mk ⟨c, by rw [e]; exact atI_nat (j := 0) (show (c :: l)[0]? = some c from rfl), ?_⟩
        walk_at "go"
        refine cast (congrArg (fun b => Q (V.bl b) HH) ?_) (q _ (w.pick (by walk_at "pick")))
        rw [if_pos rfl]
        by_cases hc0 : c = 48
        · rw [hc0, decide_eq_true (show V.str (⟨#[48]⟩ : Str) = V.str "0" from rfl), decide_eq_false (fun y => y rfl)]
          rfl
        · rw [decide_eq_true hc0, decide_eq_false (fun y => hc0 (List.cons.inj (show [c] = [48] from congrArg TL.tl (V.str.inj y))).1)]
          rfl
end
end My
set_option Elab.async false
set_option linter.all false
set_option maxRecDepth 100000
set_option maxHeartbeats 800000
namespace My
open PySem PySem.Spec PyProof.Rows L2 RZ SkE CL OW
def spDue4 : Sp := fun vs H Q _ => ∃ (z : Str) (L : List Ck) (I : List (Hp → Prop)), vs = [.str z] ∧ Own H L I ∧ z.length ≤ 16777000 ∧ AsZ z ∧ Read4 z (fun i => ∀ H' p, Own H' (.pt p (.tup [.str "text", .int (i : Nat)]) :: L) I → Q (.ref p) H') (fun w => ∀ H' p, Own H' (.pt p (.tup [.str "rule", .str w]) :: L) I → Q (.ref p) H') (fun ns => ∀ H' p, Own H' (.pt p (.lst (ns.map V.int)) :: L) I → Q (.ref p) H')
section
variable (P : Program) (W0 : World) {K : PySem.W.Frag} {mg : Str → Option Value} (base : Heap)
local macro_rules | `(tactic| walk_at "len") => `(tactic| first | assumption | omega)
set_option hygiene false in
local macro_rules | `(tactic| walk_at "cls") => `(tactic| first | exact T.c_Rule.cl | exact T.na_Rule_seats | exact T.na_Rule_lapse | exact T.na_Rule_beat | exact T.na_Rule_grace | exact T.na_Rule_late)
local macro_rules | `(tactic| walk_at "fld") => `(tactic| refine fld_rule (by assumption) (by walk_at "mem") (by walk_at "cls") (by walk_at "cls") rfl ?_)
local macro_rules | `(tactic| walk_at "good") => `(tactic| first | assumption | exact good_mk (by omega))
local macro_rules | `(tactic| walk_at "sm") => `(tactic| assumption)
local macro_rules | `(tactic| walk_at "lo") => `(tactic| first | omega | (simp only [lo_0, lo_1, lo_2, lo_3, lo_4]; omega))
set_option hygiene false in
local macro_rules | `(tactic| walk_at "seq") => `(tactic| first | exact T.s_WORDS _)
set_option hygiene false in
local macro_rules | `(tactic| walk_at "ask") => `(tactic| first
  | fail)
theorem G_l_due (T : Tx W0 K mg) : FnOk P W0 K mg base CX0 2 T.f_l_due T.d_l_due ["_law_text"] spDue4 := by
  refine T.F_l_due.ok sc_l_due (fun vs H Q E h => ?_) (fun cdv A outer s H vs Q E hr h => ?_)
  · obtain ⟨z, L, I, rfl, _⟩ := h
    rfl
  · obtain ⟨z, L, I, rfl, hO, hl, az, q⟩ := h
    have hu64 := Room.units hr
    have sl := sizeLine_eq
    have pl : ∀ s ∈ Txt.split z " ", s.length ≤ 16777000 := fun s m => Nat.le_trans (split_leS z s m) hl
    have pz : ∀ s ∈ Txt.split z " ", AsZ s := fun s m => split_asz (by rw [sp_tl]; simp) (by decide +kernel) az s m
    refine ⟨_, (pss_cons (s_par (i := 1) (j := 2) (by rfl) sc_l_due.nd rfl rfl (by decide) rfl rfl (pa_cons (e_split (c_var 0) pe_str) (pa_cons (e_lst (pa_cons pe_str (pa_cons pe_str (pa_cons pe_str (pa_cons pe_str (pa_cons pe_str pa_nil)))))) pa_nil)) (by rfl))
    (pss_cons (s_for PassesOwn.never (by rfl) (i_enum (by rfl) T.enumerate (pa_cons (pe_slice c_slG (c_var 1) po_none (o_some pe_int)) pa_nil)) (g_tup (by rfl) (g_cons (pg_name (i := 3) sc_l_due.nd rfl (Or.inl rfl)) (g_cons (pg_name (i := 4) sc_l_due.nd rfl (Or.inl rfl)) g_nil))) (pss_cons (s_join (ps_set (i := 5) sc_l_due.nd rfl (Or.inl rfl) (e_if (t_cmp (c_eq hu64) (pe_op c_mod (c_var 3) pe_int) pe_int (nomark _)) (pe_cmpR (c_eq hu64) (c_var 4) (pe_ix (c_ixK (K := K) rfl) (c_var 2) (pe_op c_div (c_var 3) pe_int) (fun _ _ => rfl)) (nomark _)) (e_call (G_l_is_number P W0 base T) (hr.mono (by decide)) (by rfl) T.g_l_is_number T.F_l_is_number.kp T.b_l_is_number .nil pass0 (pa_cons (c_var 4) pa_nil)))))
    (pss_one (s_if (t_not (t_truth (c_var 5) (fun _ => rfl))) (pss_one (ps_ret (e_tup (pa_cons pe_str (pa_cons (c_var 3) pa_nil))))) pss_nil))))
    (pss_cons (s_if (t_cmp (c_ne hu64) (pe_callB k_len (by rfl) T.len PySem.boot_len (pa_cons (c_var 1) pa_nil)) pe_int (nomark _)) (pss_one (ps_ret (e_tup (pa_cons pe_str (pa_cons (pe_callB (k_minL (by rfl)) (by rfl) T.min (by decide +kernel) (pa_cons pe_int (pa_cons (pe_callTy k_intG (by rfl) T.int (by decide +kernel) (pa_cons (pe_callB k_len (by rfl) T.len PySem.boot_len (pa_cons (c_var 1) pa_nil)) pa_nil)) pa_nil))) pa_nil))))) pss_nil)
    (pss_cons (s_setlc (i := 6) (own := [("_law_word", 4)]) (by rfl) sc_l_due.nd rfl rfl (sw_true rfl rfl rfl (by decide +kernel)) (i_val (e_stepF (c_var 1) (by decide))) (blkOk_by (own := [("_law_word", 4)]) (N := ["_law_text", "_law_words", "_law_names", "_law_at", "_law_word", "_law_is_good", "_law_numbers"]) (sc := defScope s_l_due) (by decide +kernel)) (fun _ _ _ _ _ => (pg_name (i := 4) sc_l_due.nd rfl (Or.inl rfl))) (fun _ _ _ _ _ => pts_nil) (fun _ _ _ _ _ => (pe_callTy k_intG (by rfl) T.int (by decide +kernel) (pa_cons (c_var 4) pa_nil))))
    (pss_cons (s_for PassesOwn.never (by rfl) (i_range1 (by rfl) T.range (pa_cons pe_int pa_nil)) (pg_name (i := 3) sc_l_due.nd rfl (Or.inl rfl)) (pss_one (s_if (t_cmp (c_eq hu64) (pe_ix (c_ixK (K := K) rfl) (c_var 6) (c_var 3) (fun _ _ => rfl)) pe_int (nomark _)) (pss_one (ps_ret (e_tup (pa_cons pe_str (pa_cons (pe_ix (c_ixK (K := K) rfl) (c_var 2) (c_var 3) (fun _ _ => rfl)) pa_nil))))) pss_nil)))
    (pss_one (ps_ret (c_var 6)))))))), ?_⟩
    walk_at "go"
    refine Chk.mk ⟨by decide, by omega⟩ ?_
    walk_at "go"
    rename_i pw _ _ pn _ _
    obtain ⟨ss, hss⟩ : ∃ ss, ss = Txt.split z " " := ⟨_, rfl⟩
    unfold Read4 at q
    rw [← hss] at pl pz w q
    rw [cut10, ← List.map_take] at w
    have w : Own HH (.pt pp (.lst ((ss.take 10).map V.str)) :: .pt pn (.lst [V.str "seats", .str "lapse", .str "beat", .str "grace", .str "late"]) :: .pt pw (.lst (ss.map V.str)) :: L) I := by walk_at "own"
    refine fw_enum (xs := (ss.take 10).map V.str) (fun i σ H' => ∃ v3 v4 v5 : Option V, σ = [some (.str z), some (.ref pw), some (.ref pn), v3, v4, v5, none] ∧ (ss.take 10).zipIdx.find? (fun p => !rightS p.2 p.1) = ((ss.take 10).zipIdx.drop i).find? (fun p => !rightS p.2 p.1) ∧ Own H' (.pt pp (.lst ((ss.take 10).map V.str)) :: .pt pn (.lst [V.str "seats", .str "lapse", .str "beat", .str "grace", .str "late"]) :: .pt pw (.lst (ss.map V.str)) :: L) I) ⟨_, _, _, rfl, rfl, w⟩ (fun i σ H' _ ⟨_, _, _, _, _, e⟩ => SqL.of e.hd) ?_ ?_
    · rintro i x tq σ H1 hx ⟨v3, v4, v5, rfl, hf, w⟩ htq
      have w := w.new (o := .tup [.int (i : Nat), x]) htq
      rw [List.getElem?_map] at hx
      obtain ⟨s, hs, rfl⟩ := Option.map_eq_some_iff.mp hx
      have il := lt_get hs
      rw [List.length_take] at il
      have sm := List.mem_of_mem_take (List.mem_of_getElem? hs)
      have zi : (ss.take 10).zipIdx[i]? = some (s, i) := by
        rw [List.getElem?_zipIdx, hs, Nat.zero_add]
        rfl
      rw [find_drop zi] at hf
      have hf : _ = (if (!rightS i s) = true then some (s, i) else _) := hf
      walk_at "go"
      refine join_by (fun σ' H' => σ' = [some (.str z), some (.ref pw), some (.ref pn), some (.int (i : Nat)), some (.str s), some (.bl (rightS i s)), none] ∧ Own H' (.pt pp (.lst ((ss.take 10).map V.str)) :: .pt pn (.lst [V.str "seats", .str "lapse", .str "beat", .str "grace", .str "late"]) :: .pt pw (.lst (ss.map V.str)) :: L) I) ?_ ?_
      · walk_at "go"
        by_cases ho : i % 2 = 1
        · refine br_f (by rw [if_neg (by decide)]; exact decide_eq_false (fun z => by have := V.int.inj z; omega)) ?_
          walk_at "go"
          refine ask_isN4 w (pl s sm) (pz s sm) (fun H2 w => ?_)
          walk_at "go"
          rw [show rightS i s = numS s 7 from if_pos ho]
          exact ⟨rfl, by walk_at "own"⟩
        · refine br_t (by rw [if_neg (by decide)]; exact decide_eq_true (congrArg V.int (by omega))) ?_
          have hi5 : i = 0 ∨ i = 2 ∨ i = 4 ∨ i = 6 ∨ i = 8 := by omega
          rcases hi5 with rfl | rfl | rfl | rfl | rfl <;>
            (walk_at "go"
             refine ⟨congrArg (fun b => [some (V.str z), some (V.ref pw), some (V.ref pn), some (V.int _), some (V.str s), some (V.bl b), none]) (Eq.trans (b := decide (V.str s = V.str _)) rfl ((str_dec _ _).symm.trans (if_neg ho).symm)), by walk_at "own"⟩)
      rintro σ H2 ⟨rfl, w⟩
      cases hc : rightS i s with
      | true =>
        rw [hc, if_neg (by decide)] at hf
        walk_at "go"
        exact ⟨_, _, _, rfl, hf, by walk_at "own"⟩
      | false =>
        rw [hc, if_pos (by decide)] at hf
        walk_at "go"
        exact q.1 i (by unfold wrongR; rw [hf]) _ _ (w.pick (by walk_at "pick"))
    · rintro σ H1 ⟨v3, v4, v5, rfl, hf, w⟩
      rw [List.length_map, List.drop_of_length_le (by rw [List.length_zipIdx]; exact Nat.le_refl _)] at hf
      have hf : (ss.take 10).zipIdx.find? (fun p => !rightS p.2 p.1) = none := hf
      walk_at "go"
      by_cases h10 : ss.length = 10
      rotate_left
      · have hw : wrongR ss = some (min ss.length 10) := by
          unfold wrongR
          rw [hf]
          exact if_neg h10
        refine br_t (by rw [if_pos rfl, List.length_map]; exact congrArg (!·) (decide_eq_false (fun z => h10 (by have := V.int.inj z; omega)))) ?_
        walk_at "go"
        have e : (if ((ss.map V.str).length : Int) < 10 then ((ss.map V.str).length : Int) else (10 : Int)) = ((min ss.length 10 : Nat) : Int) := by
          rw [List.length_map]
          split <;> omega
        have w : Own HH (.pt pp (.tup [.str "text", .int ((min ss.length 10 : Nat))]) :: L) I := by rw [← e]; exact w.pick (by walk_at "pick")
        exact q.1 _ hw _ _ w
      · have hw : wrongR ss = none := by
          unfold wrongR
          rw [hf]
          exact if_pos h10
        refine br_f (by rw [if_pos rfl, List.length_map, h10]; rfl) ?_
        have q := q.2 hw
        obtain ⟨s0, s1, s2, s3, s4, s5, s6, s7, s8, s9, rfl, a0, a1, a2, a3, a4, ⟨i0, l0, b0⟩, ⟨i1, l1, b1⟩, ⟨i2, l2, b2⟩, ⟨i3, l3, b3⟩, ⟨i4, l4, b4⟩, en⟩ := numR_ok hw
        rw [en] at q
        walk_at "go"
        refine StepL.mk ⟨_, SqL.of (w.get (by walk_at "pull" : Pull _ (Ck.pt pw _) _)), ?_, ?_⟩
        · rw [show pickS (([s0, s1, s2, s3, s4, s5, s6, s7, s8, s9] : List Str).map V.str) (some ((1 : Nat) : Int)) (some ((2 : Nat) : Int)) = ([s1, s3, s5, s7, s9] : List Str).map V.str from pick_odd _ _ _ _ _ _ _ _ _ _]
          show 5 ≤ sizeLine
          omega
        rw [show pickS (([s0, s1, s2, s3, s4, s5, s6, s7, s8, s9] : List Str).map V.str) (some ((1 : Nat) : Int)) (some ((2 : Nat) : Int)) = ([s1, s3, s5, s7, s9] : List Str).map V.str from pick_odd _ _ _ _ _ _ _ _ _ _]
        refine new_o w (fun pq H3 w => ?_)
        walk_at "go"
        refine newa_o w (fun y w => ?_)
        refine la_list (xs := ([s1, s3, s5, s7, s9] : List Str).map V.str) (fun i H' => Own H' (.pt y (.lst ((([(a0 : Int), a1, a2, a3, a4] : List Int).take i).map V.int)) :: .pt pq (.lst (([s1, s3, s5, s7, s9] : List Str).map V.str)) :: .pt pn (.lst [V.str "seats", .str "lapse", .str "beat", .str "grace", .str "late"]) :: L) I) (Own.pick w (by walk_at "pick")) (fun i H' _ e => SqL.of (e.get (.tail .head))) ?_ ?_
        · rintro i x H3 hx w
          have hi : i < 5 := lt_get hx
          have hi5 : i = 0 ∨ i = 1 ∨ i = 2 ∨ i = 3 ∨ i = 4 := by omega
          rcases hi5 with rfl | rfl | rfl | rfl | rfl
          · cases hx
            walk_at "go"
            refine IntS.mk ⟨a0, i0, l0, ?_⟩
            walk_at "go"
            exact w
          · cases hx
            walk_at "go"
            refine IntS.mk ⟨a1, i1, l1, ?_⟩
            walk_at "go"
            exact w
          · cases hx
            walk_at "go"
            refine IntS.mk ⟨a2, i2, l2, ?_⟩
            walk_at "go"
            exact w
          · cases hx
            walk_at "go"
            refine IntS.mk ⟨a3, i3, l3, ?_⟩
            walk_at "go"
            exact w
          · cases hx
            walk_at "go"
            refine IntS.mk ⟨a4, i4, l4, ?_⟩
            walk_at "go"
            exact w
        rintro H3 w
        have w : Own H3 (.pt y (.lst [.int a0, .int a1, .int a2, .int a3, .int a4]) :: .pt pn (.lst [V.str "seats", .str "lapse", .str "beat", .str "grace", .str "late"]) :: L) I := by walk_at "own"
        walk_at "go"
        refine fw_range (fun i σ H' => ∃ v3 v4 v5 : Option V, σ = [some (.str z), some (.ref pw), some (.ref pn), v3, v4, v5, some (.ref y)] ∧ (∀ p ∈ (WRD.zip [V.int a0, .int a1, .int a2, .int a3, .int a4]).take i, intFrom p.2 (leastOf p.1) = true) ∧ Own H' (.pt y (.lst [.int a0, .int a1, .int a2, .int a3, .int a4]) :: .pt pn (.lst [V.str "seats", .str "lapse", .str "beat", .str "grace", .str "late"]) :: L) I) ⟨_, _, _, rfl, fun p m => (List.not_mem_nil m).elim, w⟩ ?_ ?_
        rotate_left
        · rintro σ H4 ⟨v3, v4, v5, rfl, hok, w⟩
          have hall : ∀ p ∈ WRD.zip [V.int a0, .int a1, .int a2, .int a3, .int a4], intFrom p.2 (leastOf p.1) = true := by
            intro p m
            have m : p ∈ (WRD.zip [V.int a0, .int a1, .int a2, .int a3, .int a4]).take 4 ++ [(("late" : Str), V.int a4)] := m
            rcases List.mem_append.mp m with m | m
            · exact hok p m
            · rw [List.mem_singleton.mp m]
              exact decide_eq_true (show leastOf "late" ≤ (a4 : Int) by rw [lo_4]; omega)
          have hb := firstBad_none hall
          have g0 := of_decide_eq_true (hall ("seats", .int a0) (by simp [WRD]))
          have g1 := of_decide_eq_true (hall ("lapse", .int a1) (by simp [WRD]))
          have g2 := of_decide_eq_true (hall ("beat", .int a2) (by simp [WRD]))
          have g3 := of_decide_eq_true (hall ("grace", .int a3) (by simp [WRD]))
          simp only [lo_0, lo_1, lo_2, lo_3] at g0 g1 g2 g3
          walk_at "go"
          exact q.2 hb (good_mk (by omega)) _ _ (w.pick (by walk_at "pick"))
        rintro i σ H4 hi ⟨v3, v4, v5, rfl, hok, w⟩
        have hi : i < 4 := hi
        have hi4 : i = 0 ∨ i = 1 ∨ i = 2 ∨ i = 3 := by omega
        rcases hi4 with rfl | rfl | rfl | rfl
        · walk_at "go"
          by_cases h0 : a0 = 0
          · refine br_t (by rw [if_neg (by decide)]; exact decide_eq_true (congrArg V.int (by omega))) ?_
            walk_at "go"
            exact q.1 "seats" (firstBad_at (i := 0) (p := ("seats", V.int a0)) rfl hok (decide_eq_false (by simp only [lo_0, lo_1, lo_2, lo_3, lo_4]; omega))) _ _ (w.pick (by walk_at "pick"))
          · refine br_f (by rw [if_neg (by decide)]; exact decide_eq_false (fun e => by have := V.int.inj e; omega)) ?_
            refine ⟨_, _, _, rfl, ?_, w⟩
            intro p m
            rw [List.take_add_one] at m
            rcases List.mem_append.mp m with m | m
            · exact hok p m
            · rw [List.mem_singleton.mp (show p ∈ [(("seats" : Str), V.int a0)] from m)]
              exact decide_eq_true (by simp only [lo_0, lo_1, lo_2, lo_3, lo_4]; omega)
        · walk_at "go"
          by_cases h0 : a1 = 0
          · refine br_t (by rw [if_neg (by decide)]; exact decide_eq_true (congrArg V.int (by omega))) ?_
            walk_at "go"
            exact q.1 "lapse" (firstBad_at (i := 1) (p := ("lapse", V.int a1)) rfl hok (decide_eq_false (by simp only [lo_0, lo_1, lo_2, lo_3, lo_4]; omega))) _ _ (w.pick (by walk_at "pick"))
          · refine br_f (by rw [if_neg (by decide)]; exact decide_eq_false (fun e => by have := V.int.inj e; omega)) ?_
            refine ⟨_, _, _, rfl, ?_, w⟩
            intro p m
            rw [List.take_add_one] at m
            rcases List.mem_append.mp m with m | m
            · exact hok p m
            · rw [List.mem_singleton.mp (show p ∈ [(("lapse" : Str), V.int a1)] from m)]
              exact decide_eq_true (by simp only [lo_0, lo_1, lo_2, lo_3, lo_4]; omega)
        · walk_at "go"
          by_cases h0 : a2 = 0
          · refine br_t (by rw [if_neg (by decide)]; exact decide_eq_true (congrArg V.int (by omega))) ?_
            walk_at "go"
            exact q.1 "beat" (firstBad_at (i := 2) (p := ("beat", V.int a2)) rfl hok (decide_eq_false (by simp only [lo_0, lo_1, lo_2, lo_3, lo_4]; omega))) _ _ (w.pick (by walk_at "pick"))
          · refine br_f (by rw [if_neg (by decide)]; exact decide_eq_false (fun e => by have := V.int.inj e; omega)) ?_
            refine ⟨_, _, _, rfl, ?_, w⟩
            intro p m
            rw [List.take_add_one] at m
            rcases List.mem_append.mp m with m | m
            · exact hok p m
            · rw [List.mem_singleton.mp (show p ∈ [(("beat" : Str), V.int a2)] from m)]
              exact decide_eq_true (by simp only [lo_0, lo_1, lo_2, lo_3, lo_4]; omega)
        · walk_at "go"
          by_cases h0 : a3 = 0
          · refine br_t (by rw [if_neg (by decide)]; exact decide_eq_true (congrArg V.int (by omega))) ?_
            walk_at "go"
            exact q.1 "grace" (firstBad_at (i := 3) (p := ("grace", V.int a3)) rfl hok (decide_eq_false (by simp only [lo_0, lo_1, lo_2, lo_3, lo_4]; omega))) _ _ (w.pick (by walk_at "pick"))
          · refine br_f (by rw [if_neg (by decide)]; exact decide_eq_false (fun e => by have := V.int.inj e; omega)) ?_
            refine ⟨_, _, _, rfl, ?_, w⟩
            intro p m
            rw [List.take_add_one] at m
            rcases List.mem_append.mp m with m | m
            · exact hok p m
            · rw [List.mem_singleton.mp (show p ∈ [(("grace" : Str), V.int a3)] from m)]
              exact decide_eq_true (by simp only [lo_0, lo_1, lo_2, lo_3, lo_4]; omega)
end
end My
set_option Elab.async false
set_option linter.all false
set_option maxRecDepth 100000
set_option maxHeartbeats 800000
namespace My
open PySem PySem.Spec PyProof.Rows L2 RZ SkE CL OW
def spTold4 : Sp := fun vs H Q _ => ∃ (x : V) (L : List Ck) (I : List (Hp → Prop)), vs = [x] ∧ Own H L I ∧
  ((∃ z, x = .str z ∧ z.length ≤ 16777000 ∧ Read4 z (fun i => ∀ H' p, Own H' (.pt p (.tup [.str "text", .int (i : Nat)]) :: L) I → Q (.ref p) H') (fun w => ∀ H' p, Own H' (.pt p (.tup [.str "rule", .str w]) :: L) I → Q (.ref p) H') (fun ns => ∀ H', Own H' L I → Q (.str (rtext ns)) H'))
   ∨ ∃ d l R, VO l x d ∧ Pull L (bagR l) R ∧ (∀ z, d ≠ .str z) ∧ ∀ H' p, Own H' (.pt p (.tup [.str "text", .int 0]) :: L) I → Q (.ref p) H')
section
variable (P : Program) (W0 : World) {K : PySem.W.Frag} {mg : Str → Option Value} (base : Heap)
set_option hygiene false in
local macro_rules | `(tactic| walk_at "exm") => `(tactic| first | exact T.xm_InvalidText | exact T.xm_InvalidRule)
local macro_rules | `(tactic| walk_at "len") => `(tactic| first | assumption | omega | exact ⟨rfl, by decide⟩)
set_option hygiene false in
local macro_rules | `(tactic| walk_at "cls") => `(tactic| first | exact T.c_Rule.cl | exact T.na_Rule_seats | exact T.na_Rule_lapse | exact T.na_Rule_beat | exact T.na_Rule_grace | exact T.na_Rule_late)
local macro_rules | `(tactic| walk_at "fld") => `(tactic| refine fld_rule (by assumption) (by walk_at "mem") (by walk_at "cls") (by walk_at "cls") rfl ?_)
local macro_rules | `(tactic| walk_at "good") => `(tactic| first | assumption | exact good_mk (by omega))
local macro_rules | `(tactic| walk_at "sm") => `(tactic| assumption)
local macro_rules | `(tactic| walk_at "lo") => `(tactic| first | omega | (simp only [lo_0, lo_1, lo_2, lo_3, lo_4]; omega))
set_option hygiene false in
local macro_rules | `(tactic| walk_at "seq") => `(tactic| first | exact T.s_WORDS _)
set_option hygiene false in
local macro_rules | `(tactic| walk_at "ask") => `(tactic| first
  | fail)
theorem G_l_told (T : Tx W0 K mg) : FnOk P W0 K mg base CX0 6 T.f_l_told T.d_l_told ["_law_text"] spTold4 := by
  refine T.F_l_told.ok sc_l_told (fun vs H Q E h => ?_) (fun cdv A outer s H vs Q E hr h => ?_)
  · obtain ⟨x, L, I, rfl, _⟩ := h
    rfl
  · obtain ⟨x, L, I, rfl, hO, hc⟩ := h
    have hu64 := Room.units hr
    have sl := sizeLine_eq
    refine ⟨_, (pss_cons (ps_set (i := 1) sc_l_told.nd rfl (Or.inl rfl) pe_non)
    (pss_cons (s_try_asM (i := 2) rfl rfl sc_l_told.nd rfl rfl takes0 (fun W pn xe tk po => (pss_one (ps_set (i := 1) sc_l_told.nd rfl (Or.inl rfl) (pe_callTy (k_strO (G_Rule_str P W0 base T) T.b_Rule_str pass0 (hr.mono (by decide)) T.i_Rule_str T.j_Rule_str) (by rfl) T.str (by decide +kernel) (pa_cons (e_cmethS T.cr_Rule_read T.cm_Rule_read (GX_Rule_read P W0 base T) T.b_Rule_read (hr.mono (by decide)) tk (pe_glob (v := .ref _) (by rfl) T.c_Rule.g rfl) (pa_cons (c_var 0) pa_nil)) pa_nil))))) (.cons ⟨by rfl, by decide, .inl T.ge_InvalidText⟩ (fun a oe cls d pn hz hf => (pss_one (ps_set (i := 1) sc_l_told.nd rfl (Or.inl rfl) (e_tup (pa_cons pe_str (pa_cons (e_xf T.xf_InvalidText T.xn_InvalidText hz hf (c_var 2)) pa_nil)))))) (.cons ⟨by rfl, by decide, .inl T.ge_InvalidRule⟩ (fun a oe cls d pn hz hf => (pss_one (ps_set (i := 1) sc_l_told.nd rfl (Or.inl rfl) (e_tup (pa_cons pe_str (pa_cons (e_xf T.xf_InvalidRule T.xn_InvalidRule hz hf (c_var 2)) pa_nil)))))) .nil)))
    (pss_one (ps_ret (c_var 1))))), ?_⟩
    walk_at "go"
    rcases hc with ⟨z, rfl, hl, q⟩ | ⟨d, l, R, v, p, nz, q⟩
    · refine Ask.mk ⟨_, L, I, rfl, hO, .inl ⟨z, rfl, hl, fun i hi H1 d w => ?_, fun hw => ⟨fun wd hb H1 d w => ?_, fun hb g H1 r w => ?_⟩⟩⟩
      · walk_at "go"
        exact q.1 i hi _ _ (Own.subI (Own.pick w (by walk_at "pick")) (by walk_at "subi"))
      · walk_at "go"
        refine catch_no T.xm_InvalidRule_InvalidText ?_
        walk_at "go"
        exact (q.2 hw).1 wd hb _ _ (Own.subI (Own.pick w (by walk_at "pick")) (by walk_at "subi"))
      · walk_at "go"
        refine owns_rule w (by walk_at "mem") g ?_
        walk_at "go"
        exact (q.2 hw).2 hb g _ (Own.subI (Own.pick w (by walk_at "pick")) (by walk_at "subi"))
    · refine Ask.mk ⟨_, L, I, rfl, hO, .inr ⟨d, l, R, v, p, nz, fun H1 d w => ?_⟩⟩
      walk_at "go"
      exact q _ _ (Own.subI (Own.pick w (by walk_at "pick")) (by walk_at "subi"))
end
end My
set_option Elab.async false
set_option linter.all false
set_option maxRecDepth 100000
set_option maxHeartbeats 800000
namespace My
open PySem PySem.Spec PyProof.Rows L2 RZ SkE CL OW
theorem cut_to {xs : List V} {n : Int} (h : 0 ≤ n) (k : n ≤ xs.length) : cutV xs none (some n) = xs.take n.toNat := by
  unfold cutV
  rw [show n = ((n.toNat : Nat) : Int) by omega, HT.sIx_nat, show HT.sIx xs.length 0 none = 0 from rfl, List.drop_zero, Nat.sub_zero, Nat.min_eq_left (by omega)]
  rfl
theorem cut_from {xs : List V} {n : Int} (h : 0 ≤ n) (k : n ≤ xs.length) : cutV xs (some n) none = xs.drop n.toNat := by
  unfold cutV
  rw [show n = ((n.toNat : Nat) : Int) by omega, HT.sIx_nat, show HT.sIx xs.length xs.length none = xs.length from rfl, Nat.min_eq_left (by omega)]
  rw [List.take_of_length_le (by rw [List.length_drop]; exact Nat.le_refl _)]
  rfl
/-- a list or a tuple in hand, its things in a bag, is handed to heard -/
theorem joinL_sub {s : List Nat} {c : Nat} : ∀ {ls : List (List Nat)}, c ∈ TL.joinL s ls → c ∈ s ∨ ∃ l ∈ ls, c ∈ l
  | [], m => (List.not_mem_nil m).elim
  | [l], m => .inr ⟨l, List.mem_cons_self, m⟩
  | l :: k :: ls, m => by
    have m : c ∈ l ++ (s ++ TL.joinL s (k :: ls)) := m
    rcases List.mem_append.mp m with m | m
    · exact .inr ⟨l, List.mem_cons_self, m⟩
    rcases List.mem_append.mp m with m | m
    · exact .inl m
    · rcases joinL_sub (ls := k :: ls) m with z | ⟨x, hx, z⟩
      · exact .inl z
      · exact .inr ⟨x, List.mem_cons_of_mem _ hx, z⟩
theorem joinL_le {s : List Nat} : ∀ {ls : List (List Nat)}, (TL.joinL s ls).length ≤ (ls.map List.length).sum + s.length * ls.length
  | [] => Nat.zero_le _
  | [l] => by
    show l.length ≤ _
    simp only [List.map_cons, List.map_nil, List.sum_cons, List.sum_nil]
    omega
  | l :: m :: ls => by
    have := joinL_le (s := s) (ls := m :: ls)
    show (l ++ (s ++ TL.joinL s (m :: ls))).length ≤ _
    rw [List.length_append, List.length_append, List.map_cons, List.sum_cons, List.length_cons, Nat.mul_succ]
    omega
theorem join_asz4 {ss : List Str} (h : ∀ s ∈ ss, AsZ s) : AsZ (Txt.join " " ss) := fun c m => by
  rw [TL.join_eq, TL.tl_join] at m
  rcases joinL_sub m with z | ⟨l, hl, z⟩
  · exact (show AsZ " " by unfold AsZ; decide +kernel) c z
  · obtain ⟨s, hs, rfl⟩ := List.mem_map.mp hl
    exact h s hs c z
theorem sum_le8 : ∀ {ss : List Str}, (∀ s ∈ ss, s.length ≤ 8) → (ss.map (·.length)).sum ≤ 8 * ss.length
  | [], _ => Nat.le_refl _
  | s :: ss, h => by
    have := sum_le8 fun x m => h x (List.mem_cons_of_mem _ m)
    have := h s List.mem_cons_self
    simp only [List.map_cons, List.sum_cons, List.length_cons] at *
    omega
theorem join_le8 {ss : List Str} (h : ∀ s ∈ ss, s.length ≤ 8) (n : ss.length ≤ 60) : (Txt.join " " ss).length ≤ 700 := by
  have a := sum_le8 h
  rw [TL.join_eq, TL.len_tl, TL.tl_join]
  have b := joinL_le (s := TL.tl " ") (ls := ss.map TL.tl)
  rw [show (TL.tl " ").length = 1 by decide +kernel, List.length_map, List.map_map (f := TL.tl), show (List.length ∘ TL.tl) = (fun z : Str => z.length) from funext fun z => (TL.len_tl z).symm] at b
  omega
theorem odd4 {x : V} (m : x ∈ [V.str "", .str "0", .str "07", .str "late", .str "seats", .str "x", .str "-1", .str "12345678", .str "3", .str "1.5"]) : ∃ s : Str, x = .str s ∧ s.length ≤ 8 ∧ AsZ s := by
  simp only [List.mem_cons, List.not_mem_nil, or_false] at m
  rcases m with rfl | rfl | rfl | rfl | rfl | rfl | rfl | rfl | rfl | rfl <;> exact ⟨_, rfl, by decide +kernel, by unfold AsZ; decide +kernel⟩
theorem shw_two {z : Str} {d : PyData} (h : ShwB (.str z) 0 1921) (g : ShwB d 0 1921) : ShwB (.tuple [.str z, d]) 1 4000 :=
  (shwA (m := 0) (B := 1921) (ds := [.str z, d]) (fun x hd => by
    simp only [List.mem_cons, List.not_mem_nil, or_false] at hd
    rcases hd with rfl | rfl
    · exact h
    · exact g)).tup.up (by decide) (by show 2 * (1921 + 2) + 3 ≤ 4000; decide)
theorem shw_ti {i : Nat} (h : i ≤ 10) : ShwB (.tuple [.str "text", .int (i : Nat)]) 1 4000 := shw_two ((shw_str (by decide +kernel)).up (by decide) (by decide +kernel)) (shw_int (show (_ : Int).natAbs < 18446744073709551616 by rw [Int.natAbs_natCast]; omega))
theorem firstBad_mem : ∀ {l : List (Str × V)} {w : Str}, firstBad l = some w → ∃ p ∈ l, p.1 = w
  | [], w, h => by cases h
  | q :: l, w, h => by
    have h : (if intFrom q.2 (leastOf q.1) = true then firstBad l else some q.1) = some w := h
    split at h
    · obtain ⟨p, m, e⟩ := firstBad_mem h
      exact ⟨p, List.mem_cons_of_mem _ m, e⟩
    · cases h
      exact ⟨q, List.mem_cons_self, rfl⟩
theorem shw_tw {w : Str} {xs : List V} (h : firstBad (WRD.zip xs) = some w) : ShwB (.tuple [.str "rule", .str w]) 1 4000 := by
  obtain ⟨p, m, rfl⟩ := firstBad_mem h
  have m : p.1 ∈ WRD := (List.of_mem_zip (show (p.1, p.2) ∈ WRD.zip xs from m)).1
  refine shw_two ((shw_str (by decide +kernel)).up (by decide) (by decide +kernel)) ?_
  simp only [WRD, List.mem_cons, List.not_mem_nil, or_false] at m
  rcases m with e | e | e | e | e <;> (rw [e]; exact (shw_str (by decide +kernel)).up (by decide) (by decide +kernel))
theorem numR_of {z : Str} {ns : List Int} (t : RText z ns) : numR (Txt.split z " ") = ns := by
  obtain ⟨s0, s1, s2, s3, s4, s5, s6, s7, s8, s9, e, a0, a1, a2, a3, a4, i0, i1, i2, i3, i4, en⟩ := numR_ok t.w
  have ti := t.i
  have tn := t.n
  rw [e] at ti en ⊢
  match ns, tn with
  | [b0, b1, b2, b3, b4], _ =>
  have j0 := (ti 0 s1 b0 rfl rfl).1
  have j1 := (ti 1 s3 b1 rfl rfl).1
  have j2 := (ti 2 s5 b2 rfl rfl).1
  have j3 := (ti 3 s7 b3 rfl rfl).1
  have j4 := (ti 4 s9 b4 rfl rfl).1
  show [(intText? s1).getD 0, (intText? s3).getD 0, (intText? s5).getD 0, (intText? s7).getD 0, (intText? s9).getD 0] = _
  rw [j0, j1, j2, j3, j4]
  rfl
/-- the words of a rule's text -/
def flatW (ns : List Int) : List Str := ["seats", shN (ns.getD 0 0), "lapse", shN (ns.getD 1 0), "beat", shN (ns.getD 2 0), "grace", shN (ns.getD 3 0), "late", shN (ns.getD 4 0)]
theorem flat_ok {ns : List Int} (d : DrawnB ns) : Txt.split (rtext ns) " " = flatW ns ∧ Txt.join " " (flatW ns) = rtext ns ∧ (∀ s ∈ flatW ns, s.length ≤ 8) ∧ ∀ s ∈ flatW ns, AsZ s := by
  obtain ⟨a0, a1, a2, a3, a4, rfl, d0, d1, d2, d3, d4⟩ := d
  have S : Txt.split (rtext [a0, a1, a2, a3, a4]) " " = (["seats", shN a0, "lapse", shN a1, "beat", shN a2, "grace", shN a3, "late", shN a4] : List Str) := by
    rw [rtext_w]
    exact wtext_split (num_free (by omega)) (num_free (by omega)) (num_free (by omega)) (num_free (by omega)) (num_free (by omega))
  have n0 := sh_len (n := a0) (k := 7) (by omega) (by decide) (by omega)
  have n1 := sh_len (n := a1) (k := 7) (by omega) (by decide) (by omega)
  have n2 := sh_len (n := a2) (k := 7) (by omega) (by decide) (by omega)
  have n3 := sh_len (n := a3) (k := 7) (by omega) (by decide) (by omega)
  have n4 := sh_len (n := a4) (k := 7) (by omega) (by decide) (by omega)
  have w0 : ("seats" : Str).length = 5 := by decide +kernel
  have w1 : ("lapse" : Str).length = 5 := by decide +kernel
  have w2 : ("beat" : Str).length = 4 := by decide +kernel
  have w3 : ("grace" : Str).length = 5 := by decide +kernel
  have w4 : ("late" : Str).length = 4 := by decide +kernel
  refine ⟨S, ?_, ?_, ?_⟩
  · rw [rtext_w]
    exact (wtext_flat _ _ _ _ _).symm
  · intro s m
    have m : s ∈ (["seats", shN a0, "lapse", shN a1, "beat", shN a2, "grace", shN a3, "late", shN a4] : List Str) := m
    simp only [List.mem_cons, List.not_mem_nil, or_false] at m
    rcases m with rfl | rfl | rfl | rfl | rfl | rfl | rfl | rfl | rfl | rfl <;> omega
  · intro s m
    have m : s ∈ (["seats", shN a0, "lapse", shN a1, "beat", shN a2, "grace", shN a3, "late", shN a4] : List Str) := m
    simp only [List.mem_cons, List.not_mem_nil, or_false] at m
    rcases m with rfl | rfl | rfl | rfl | rfl | rfl | rfl | rfl | rfl | rfl
    all_goals first
      | exact asz_sh (by omega)
      | (unfold AsZ; decide +kernel)
theorem showL_sh {ns : List Int} (g : Good ns) : ∀ (i : Nat) (x : V) (z : Str), (ns.map V.int)[i]? = some x → (showL ns)[i]? = some z → ShV x z := by
  intro i x z hx hz
  unfold showL at hz
  rw [List.getElem?_map] at hx hz
  obtain ⟨n, hn, rfl⟩ := Option.map_eq_some_iff.mp hx
  rw [hn] at hz
  cases hz
  refine .int n (log_of2 ?_)
  obtain ⟨a0, a1, a2, a3, a4, rfl, ⟨l0, l1, l2, l3, l4⟩, u0, u1, u2, u3, u4⟩ := g
  have m := List.mem_of_getElem? hn
  simp only [List.mem_cons, List.not_mem_nil, or_false] at m
  rcases m with rfl | rfl | rfl | rfl | rfl <;> omega
def spLaw (K : PySem.W.Frag) : Sp := fun vs H Q _ => ∃ (a : Addr) (ns : List Int), vs = [.ref a] ∧ Own H [] [seqI K a (ns.map V.int)] ∧ ns.length ≤ 63 ∧ ∀ H', Q (.bl true) H'
section
variable (P : Program) (W0 : World) {K : PySem.W.Frag} {mg : Str → Option Value} (base : Heap)
set_option hygiene false in
local macro_rules | `(tactic| walk_at "shp") => `(tactic| first | exact shaped_nil | (decide +kernel))
local macro_rules | `(tactic| walk_at "len") => `(tactic| first | assumption | omega | (rw [List.length_map]; omega))
set_option hygiene false in
local macro_rules | `(tactic| walk_at "cls") => `(tactic| first | exact T.c_Rule.cl | exact T.na_Rule_seats | exact T.na_Rule_lapse | exact T.na_Rule_beat | exact T.na_Rule_grace | exact T.na_Rule_late)
local macro_rules | `(tactic| walk_at "fld") => `(tactic| refine fld_rule (by assumption) (by walk_at "mem") (by walk_at "cls") (by walk_at "cls") rfl ?_)
local macro_rules | `(tactic| walk_at "good") => `(tactic| first | assumption | exact good_mk (by omega))
local macro_rules | `(tactic| walk_at "sm") => `(tactic| assumption)
local macro_rules | `(tactic| walk_at "lo") => `(tactic| first | omega | (simp only [lo_0, lo_1, lo_2, lo_3, lo_4]; omega))
set_option hygiene false in
local macro_rules | `(tactic| walk_at "seq") => `(tactic| first | exact T.s_WORDS _)
set_option hygiene false in
local macro_rules | `(tactic| walk_at "ask") => `(tactic| first
  | fail)
set_option maxHeartbeats 4000000 in
theorem G_law (T : Tx W0 K mg) : FnG P W0 K mg base CX0 8 T.f_law T.d_law ["_law_script"] (spLaw K) := by
  refine fun_okG T.F_law sc_law (fun vs H Q E h => ?_) (fun cdv A outer s H vs Q E hG hr h => ?_)
  · obtain ⟨a, ns, rfl, _⟩ := h
    rfl
  · obtain ⟨a, ns, rfl, hO, hl, q⟩ := h
    have hu64 := Room.units hr
    have hu65 := room65 hr
    have sl := sizeLine_eq
    refine ⟨_, (pss_cons (s_for PassesOwn.never (by rfl) (i_range1 (by rfl) T.range (pa_cons (pe_callB (k_maxG (by rfl)) (by rfl) T.max (by decide +kernel) (pa_cons pe_int (pa_cons (pe_callB (k_minL (by rfl)) (by rfl) T.min (by decide +kernel) (pa_cons pe_int (pa_cons (pe_callB k_len (by rfl) T.len PySem.boot_len (pa_cons (c_var 0) pa_nil)) pa_nil))) pa_nil))) pa_nil)) (pg_name (i := 1) sc_law.nd rfl (Or.inl rfl)) (pss_cons (ps_set (i := 2) sc_law.nd rfl (Or.inl rfl) (e_call (G_l_box P W0 base T) (hr.mono (by decide)) (by rfl) T.g_l_box T.F_l_box.kp T.b_l_box .nil pass0 (pa_cons (c_var 0) (pa_cons (c_var 1) (pa_cons pe_int pa_nil)))))
    (pss_cons (s_for PassesOwn.never (by rfl) (i_range1 (by rfl) T.range (pa_cons pe_int pa_nil)) (pg_name (i := 3) sc_law.nd rfl (Or.inl rfl)) (pss_cons (ps_set (i := 4) sc_law.nd rfl (Or.inl rfl) (e_split (e_call (G_l_rule_text P W0 base T) (hr.mono (by decide)) (by rfl) T.g_l_rule_text T.F_l_rule_text.kp T.b_l_rule_text .nil pass0 (pa_cons (e_call (G_l_rule P W0 base T) (hr.mono (by decide)) (by rfl) T.g_l_rule T.F_l_rule.kp T.b_l_rule .nil pass0 (pa_cons (c_var 2) pa_nil)) pa_nil)) pe_str))
    (pss_cons (s_if (t_cmp (c_neO (G_Rule_eq P W0 base T) T.b_Rule_eq pass0 (hr.mono (by decide)) T.c_Rule.hm T.i_Rule_eq T.i_Rule_ne T.j_Rule_eq) (e_cmeth T.cr_Rule_read T.cm_Rule_read (G_Rule_read P W0 base T) T.b_Rule_read (hr.mono (by decide)) pass0 (pe_glob (v := .ref _) (by rfl) T.c_Rule.g rfl) (pa_cons (e_join pe_str (c_var 4)) pa_nil)) (e_cmeth T.cr_Rule_read T.cm_Rule_read (G_Rule_read P W0 base T) T.b_Rule_read (hr.mono (by decide)) pass0 (pe_glob (v := .ref _) (by rfl) T.c_Rule.g rfl) (pa_cons (pe_callTy (k_strO (G_Rule_str P W0 base T) T.b_Rule_str pass0 (hr.mono (by decide)) T.i_Rule_str T.j_Rule_str) (by rfl) T.str (by decide +kernel) (pa_cons (e_cmeth T.cr_Rule_read T.cm_Rule_read (G_Rule_read P W0 base T) T.b_Rule_read (hr.mono (by decide)) pass0 (pe_glob (v := .ref _) (by rfl) T.c_Rule.g rfl) (pa_cons (e_join pe_str (c_var 4)) pa_nil)) pa_nil)) pa_nil)) (nomark _)) (pss_one (ps_ret pe_bl)) pss_nil)
    (pss_cons (s_for PassesOwn.never (by rfl) (i_range1 (by rfl) T.range (pa_cons (e_call (G_l_take P W0 base T) (hr.mono (by decide)) (by rfl) T.g_l_take T.F_l_take.kp T.b_l_take .nil pass0 (pa_cons (c_var 2) (pa_cons pe_int pa_nil))) pa_nil)) (pg_name (i := 5) sc_law.nd rfl (Or.inl rfl)) (pss_cons (s_par (i := 6) (j := 7) (by rfl) sc_law.nd rfl rfl (by decide) rfl rfl (pa_cons (e_call (G_l_take P W0 base T) (hr.mono (by decide)) (by rfl) T.g_l_take T.F_l_take.kp T.b_l_take .nil pass0 (pa_cons (c_var 2) (pa_cons (pe_callB k_len (by rfl) T.len PySem.boot_len (pa_cons (c_var 4) pa_nil)) pa_nil))) (pa_cons (e_call (G_l_take P W0 base T) (hr.mono (by decide)) (by rfl) T.g_l_take T.F_l_take.kp T.b_l_take .nil pass0 (pa_cons (c_var 2) (pa_cons pe_int pa_nil))) pa_nil)) (by rfl))
    (pss_cons (ps_set (i := 8) sc_law.nd rfl (Or.inl rfl) (e_call (G_l_pick P W0 base T) (hr.mono (by decide)) (by rfl) T.g_l_pick T.F_l_pick.kp T.b_l_pick .nil pass0 (pa_cons (c_var 2) (pa_cons (e_lst (pa_cons pe_str (pa_cons pe_str (pa_cons pe_str (pa_cons pe_str (pa_cons pe_str (pa_cons pe_str (pa_cons pe_str (pa_cons pe_str (pa_cons pe_str (pa_cons pe_str pa_nil))))))))))) pa_nil))))
    (pss_one (s_if (PW.pt (w_and (t_cmp (c_eq hu64) (c_var 7) pe_int (nomark _)) (w_and1 (t_cmp c_gt (pe_callB k_len (by rfl) T.len PySem.boot_len (pa_cons (c_var 4) pa_nil)) pe_int (nomark _))))) (pss_one (ps_set (i := 4) sc_law.nd rfl (Or.inl rfl) (pe_op c_addG (pe_slice c_slG (c_var 4) po_none (o_some (c_var 6))) (pe_slice c_slG (c_var 4) (o_some (pe_op c_addG (c_var 6) pe_int)) po_none)))) (pss_one (s_if (t_cmp (c_eq hu64) (c_var 7) pe_int (nomark _)) (pss_one (ps_set (i := 4) sc_law.nd rfl (Or.inl rfl) (pe_op c_addG (pe_op c_addG (pe_slice c_slG (c_var 4) po_none (o_some (c_var 6))) (e_lst (pa_cons (c_var 8) pa_nil))) (pe_slice c_slG (c_var 4) (o_some (c_var 6)) po_none)))) (pss_one (ps_set (i := 4) sc_law.nd rfl (Or.inl rfl) (pe_op c_addG (pe_op c_addG (pe_slice c_slG (c_var 4) po_none (o_some (c_var 6))) (e_lst (pa_cons (c_var 8) pa_nil))) (pe_slice c_slG (c_var 4) (o_some (pe_op c_addG (c_var 6) pe_int)) po_none)))))))))))
    (pss_cons (ps_set (i := 9) sc_law.nd rfl (Or.inl rfl) (e_join pe_str (c_var 4)))
    (pss_cons (ps_set (i := 10) sc_law.nd rfl (Or.inl rfl) (e_call (G_l_due P W0 base T) (hr.mono (by decide)) (by rfl) T.g_l_due T.F_l_due.kp T.b_l_due .nil pass0 (pa_cons (c_var 9) pa_nil)))
    (pss_one (s_if (t_cmp (c_ne hu64) (pe_callB (k_repV (by exact guards_deeper.trans hG) hu64) (by rfl) T.repr (by decide +kernel) (pa_cons (e_call (G_l_told P W0 base T) (hr.mono (by decide)) (by rfl) T.g_l_told T.F_l_told.kp T.b_l_told .nil pass0 (pa_cons (c_var 9) pa_nil)) pa_nil)) (pe_callB (k_repV (by exact guards_deeper.trans hG) hu64) (by rfl) T.repr (by decide +kernel) (pa_cons (e_if (t_truth (pe_callB k_isi (by rfl) T.isinstance (by decide +kernel) (pa_cons (c_var 10) (pa_cons (pe_bltn (v := .ty "list") (by rfl) T.list (by decide +kernel) rfl) pa_nil))) (fun _ => rfl)) (e_call (G_l_rule_text P W0 base T) (hr.mono (by decide)) (by rfl) T.g_l_rule_text T.F_l_rule_text.kp T.b_l_rule_text .nil pass0 (pa_cons (c_var 10) pa_nil)) (c_var 10)) pa_nil)) (nomark _)) (pss_one (ps_ret pe_bl)) pss_nil))))))))
    (pss_cons (ps_set (i := 11) sc_law.nd rfl (Or.inl rfl) (e_call (G_l_value P W0 base T) (hr.mono (by decide)) (by rfl) T.g_l_value T.F_l_value.kp T.b_l_value .nil pass0 (pa_cons (c_var 2) pa_nil)))
    (pss_one (s_if (PW.pt (w_and (t_not (t_truth (pe_callB k_isi (by rfl) T.isinstance (by decide +kernel) (pa_cons (c_var 11) (pa_cons (pe_bltn (v := .ty "str") (by rfl) T.str (by decide +kernel) rfl) pa_nil))) (fun _ => rfl))) (w_and1 (t_cmp (c_ne hu64) (pe_callB (k_repV (by exact guards_deeper.trans hG) hu64) (by rfl) T.repr (by decide +kernel) (pa_cons (e_call (G_l_told P W0 base T) (hr.mono (by decide)) (by rfl) T.g_l_told T.F_l_told.kp T.b_l_told .nil pass0 (pa_cons (c_var 11) pa_nil)) pa_nil)) (pe_callB (k_repV (by exact guards_deeper.trans hG) hu64) (by rfl) T.repr (by decide +kernel) (pa_cons (e_tup (pa_cons pe_str (pa_cons pe_int pa_nil))) pa_nil)) (nomark _))))) (pss_one (ps_ret pe_bl)) pss_nil))))))
    (pss_cons (s_if (t_cmp (c_ne hu64) (e_call (G_l_told P W0 base T) (hr.mono (by decide)) (by rfl) T.g_l_told T.F_l_told.kp T.b_l_told .nil pass0 (pa_cons pe_str pa_nil)) (e_tup (pa_cons pe_str (pa_cons pe_int pa_nil))) (nomark _)) (pss_one (ps_ret pe_bl)) pss_nil)
    (pss_cons (ps_set (i := 12) sc_law.nd rfl (Or.inl rfl) pe_str)
    (pss_cons (s_if (PW.pt (w_or (t_cmp (c_ne hu64) (e_call (G_l_told P W0 base T) (hr.mono (by decide)) (by rfl) T.g_l_told T.F_l_told.kp T.b_l_told .nil pass0 (pa_cons (c_var 12) pa_nil)) (c_var 12) (nomark _)) (w_or1 (t_cmp (c_ne hu64) (e_fld (e_cmeth T.cr_Rule_read T.cm_Rule_read (G_Rule_read P W0 base T) T.b_Rule_read (hr.mono (by decide)) pass0 (pe_glob (v := .ref _) (by rfl) T.c_Rule.g rfl) (pa_cons (c_var 12) pa_nil))) pe_int (nomark _))))) (pss_one (ps_ret pe_bl)) pss_nil)
    (pss_one (ps_ret (e_and (pe_cmpR (c_eq hu64) (e_call (G_l_told P W0 base T) (hr.mono (by decide)) (by rfl) T.g_l_told T.F_l_told.kp T.b_l_told .nil pass0 (pa_cons pe_str pa_nil)) (e_tup (pa_cons pe_str (pa_cons pe_int pa_nil))) (nomark _)) (pe_one (pe_cmpR (c_eq hu64) (e_call (G_l_told P W0 base T) (hr.mono (by decide)) (by rfl) T.g_l_told T.F_l_told.kp T.b_l_told .nil pass0 (pa_cons pe_str pa_nil)) (e_tup (pa_cons pe_str (pa_cons pe_int pa_nil))) (nomark _)))))))))), ?_⟩
    walk_at "go"
    refine fw_range (fun i σ H' => ∃ v1 v2 v3 v4 v5 v6 v7 v8 v9 v10 v11 v12 : Option V, σ = [some (.ref a), v1, v2, v3, v4, v5, v6, v7, v8, v9, v10, v11, v12] ∧ Own H' [] [seqI K a (ns.map V.int)]) ⟨_, _, _, _, _, _, _, _, _, _, _, _, rfl, hO⟩ ?_ ?_
    rotate_left
    · rintro σ H1 ⟨v1, v2, v3, v4, v5, v6, v7, v8, v9, v10, v11, v12, rfl, w⟩
      have w8 : wrongR (Txt.split "seats 1 lapse 1 beat 1 grace 1" " ") = some 8 := by decide +kernel
      have w10 : wrongR (Txt.split "seats 1 lapse 1 beat 1 grace 1 late 0 x" " ") = some 10 := by decide +kernel
      have w0 : wrongR (Txt.split "" " ") = some 0 := by decide +kernel
      have gn : Good [4, 1000000, 999999, 1000000, 1000000] := good_mk (by omega)
      have tg := rtext_of gn (by decide)
      have eg : rtext [4, 1000000, 999999, 1000000, 1000000] = ("seats 4 lapse 1000000 beat 999999 grace 1000000 late 1000000" : Str) := by decide +kernel
      have nb : firstBad (WRD.zip (([4, 1000000, 999999, 1000000, 1000000] : List Int).map V.int)) = none := by decide +kernel
      have nr := numR_of tg
      have nw := tg.w
      rw [eg] at tg nr nw
      walk_at "go"
      refine Ask.mk ⟨_, _, _, rfl, w, .inl ⟨_, rfl, by decide, fun j hj H5 p w => ?_, fun hw => by rw [w8] at hw; cases hw⟩⟩
      obtain rfl : 8 = j := Option.some.inj (w8.symm.trans hj)
      walk_at "go"
      walk_at "go"
      refine Ask.mk ⟨_, _, _, rfl, w, .inl ⟨_, rfl, by decide, fun j hj H5 p w => (by rw [nw] at hj; cases hj), fun hw => ⟨fun wd hb H6 p w => (by rw [nr, nb] at hb; cases hb), fun hb g H6 w => ?_⟩⟩⟩
      rw [nr, eg]
      walk_at "go"
      refine ask_read w tg gn (fun H7 r w => ?_)
      walk_at "go"
      refine Ask.mk ⟨_, _, _, rfl, w, .inl ⟨_, rfl, by decide, fun j hj H8 p2 w => ?_, fun hw => by rw [w10] at hw; cases hw⟩⟩
      obtain rfl : 10 = j := Option.some.inj (w10.symm.trans hj)
      walk_at "go"
      refine Ask.mk ⟨_, _, _, rfl, w, .inl ⟨_, rfl, by decide, fun j hj H9 p3 w => ?_, fun hw => by rw [w0] at hw; cases hw⟩⟩
      obtain rfl : 0 = j := Option.some.inj (w0.symm.trans hj)
      walk_at "go"
      exact q _
    --<
    rintro i σ H1 hi ⟨v1, v2, v3, v4, v5, v6, v7, v8, v9, v10, v11, v12, rfl, e⟩
    walk_at "go"
    refine ask_box e List.mem_cons_self hl (by omega) (fun H2 b w => ?_)
    walk_at "go"
    refine fw_range (fun i2 σ H' => ∃ v3 v4 v5 v6 v7 v8 v9 v10 v11 v12 : Option V, σ = [some (.ref a), some (.int (0 + (i : Int))), some (.ref b), v3, v4, v5, v6, v7, v8, v9, v10, v11, v12] ∧ Own H' (boxCk b :: []) [seqI K a (ns.map V.int)]) ⟨_, _, _, _, _, _, _, _, _, _, rfl, w⟩ ?_ ?_
    rotate_left
    · rintro σ H3 ⟨v3, v4, v5, v6, v7, v8, v9, v10, v11, v12, rfl, w⟩
      walk_at "go"
      refine ask_value w (by walk_at "pull") (fun H4 x d l md vo w => ?_)
      walk_at "go"
      by_cases hs : ∃ z, d = .str z
      · obtain ⟨z, rfl⟩ := hs
        obtain rfl : x = .str z := by cases vo; rfl
        walk_at "go"
        exact ⟨_, _, _, _, _, _, _, _, _, _, _, _, rfl, by walk_at "own"⟩
      have nz : ∀ z, d ≠ .str z := fun z e => hs ⟨z, e⟩
      have at_ := bag_at w (by walk_at "pull" : Pull _ (bagR l) _)
      have hk : ∀ k : Bool → Prop, k false → IsI K H4 x (.type "str") k := fun k kf => by
        cases vo with
        | str z => exact (nz z rfl).elim
        | int i => exact IsI.mk ⟨_, _, .base (.int _), (by walk_at "kit"), kf⟩
        | bl i => exact IsI.mk ⟨_, _, .base (.bl _), (by walk_at "kit"), kf⟩
        | non => exact IsI.mk ⟨_, _, .base .non, (by walk_at "kit"), kf⟩
        | lst m g => exact IsI.mk ⟨_, _, .base (.lst (at_ _ m)), (by walk_at "kit"), kf⟩
        | tup m g => exact IsI.mk ⟨_, _, .base (.tup (at_ _ m)), (by walk_at "kit"), kf⟩
      refine hk _ ?_
      walk_at "go"
      refine Ask.mk ⟨_, _, _, rfl, w, .inr ⟨d, l, _, vo, (by walk_at "pull" : Pull _ (bagR l) _), nz, fun H5 p w => ?_⟩⟩
      walk_at "go"
      refine rep_shw (d := .tuple [.str "text", .int (0 : Nat)]) (.tup (SqT.of (w.get (by walk_at "pull" : Pull _ (Ck.pt p _) _))) (.cons (.str _) (.cons (.int _) .nil))) (shw_ti (by decide)) (by decide) (by decide) ?_
      walk_at "go"
      refine rep_shw (d := .tuple [.str "text", .int (0 : Nat)]) (.tup (SqT.of (w.get (by walk_at "pull" : Pull _ (Ck.pt pp _) _))) (.cons (.str _) (.cons (.int _) .nil))) (shw_ti (by decide)) (by decide) (by decide) ?_
      walk_at "go"
      refine br_f (by rw [if_pos rfl, decide_eq_true rfl]; rfl) ?_
      walk_at "go"
      exact ⟨_, _, _, _, _, _, _, _, _, _, _, _, rfl, by walk_at "own"⟩
    rintro i2 σ H3 hi2 ⟨v3, v4, v5, v6, v7, v8, v9, v10, v11, v12, rfl, e⟩
    walk_at "go"
    refine ask_lruleB e (by walk_at "pull") (fun H4 nn nu dn w => ?_)
    obtain ⟨fs, fj, f8, fa⟩ := flat_ok dn
    have gl := dn.good
    have rt := rtext_of dn.good dn.small
    have rl := rt.l
    have nl : nu.length = 5 := by obtain ⟨_, _, _, _, _, rfl, _⟩ := dn; rfl
    walk_at "go"
    refine ask_rtext (ws := showL nu) (by rw [List.length_map, nl]) (by unfold showL; rw [List.length_map, nl]) (showL_sh gl) w (by walk_at "pull") (fun H5 w => ?_)
    rw [← rtext_show nl]
    have fsum := sum_le8 f8
    have fl10 : (flatW nu).length = 10 := rfl
    have sp1 : Str.length " " = 1 := by decide +kernel
    walk_at "go"
    refine Chk.mk ⟨by decide, by omega⟩ ?_
    walk_at "go"
    rw [fs] at w
    obtain ⟨pa, rfl⟩ : ∃ pa, pa = pp := ⟨_, rfl⟩
    refine Join.mk ⟨flatW nu, .inl (SqL.of (w.get (by walk_at "pull" : Pull _ (Ck.pt pa _) _))), (by rw [sp1]; omega), ?_⟩
    rw [fj]
    walk_at "go"
    refine ask_read w rt gl (fun H6 r1 w => ?_)
    walk_at "go"
    refine Join.mk ⟨flatW nu, .inl (SqL.of (w.get (by walk_at "pull" : Pull _ (Ck.pt pa _) _))), (by rw [sp1]; omega), ?_⟩
    rw [fj]
    walk_at "go"
    refine ask_read w rt gl (fun H7 r2 w => ?_)
    walk_at "go"
    refine owns_rule w (by walk_at "mem" : ruleI T.C_Rule r2 nu ∈ _) gl ?_
    walk_at "go"
    refine ask_read w rt gl (fun H8 r3 w => ?_)
    walk_at "go"
    refine eqo_rule T.c_Rule w (by walk_at "mem" : ruleI T.C_Rule r1 nu ∈ _) (by walk_at "mem" : ruleI T.C_Rule r3 nu ∈ _) ?_
    rw [decide_eq_true (rfl : nu = nu)]
    walk_at "go"
    have w : Own H8 (.pt pa (.lst ((flatW nu).map V.str)) :: boxCk b :: []) [seqI K a (ns.map V.int)] := by walk_at "own"
    refine ask_take (n := 3) w (by walk_at "pull") (by decide) (by decide) (fun H9 f f0 f1 w => ?_)
    walk_at "go"
    refine fw_range (fun i4 σ H' => ∃ (v5 v6 v7 v8 : Option V) (pb : Addr) (ss : List Str), σ = [some (.ref a), some (.int (0 + (i : Int))), some (.ref b), some (.int (0 + (i2 : Int))), some (.ref pb), v5, v6, v7, v8, v9, v10, v11, v12] ∧ (0 < ss.length ∧ ss.length ≤ 10 + i4 ∧ (∀ s ∈ ss, s.length ≤ 8) ∧ ∀ s ∈ ss, AsZ s) ∧ Own H' (.pt pb (.lst (ss.map V.str)) :: boxCk b :: []) [seqI K a (ns.map V.int)]) ⟨_, _, _, _, pa, flatW nu, rfl, ⟨by omega, by omega, f8, fa⟩, by walk_at "own"⟩ ?_ ?_
    · rintro i4 σ H10 hi4 ⟨v5, v6, v7, v8, pb, ss, rfl, ⟨sp, sn, s9, sa⟩, w⟩
      walk_at "go"
      refine ask_take (n := ((ss.map V.str).length : Nat)) w (by walk_at "pull") (by rw [List.length_map]; omega) (by rw [List.length_map]; omega) (fun H11 t t0 t1 w => ?_)
      rw [List.length_map] at t1
      walk_at "go"
      refine ask_take (n := 4) w (by walk_at "pull") (by decide) (by decide) (fun H12 g g0 g1 w => ?_)
      walk_at "go"
      refine ask_pick w (by walk_at "pull") (by walk_at "pull" : Pull _ (Ck.pt pp _) _) (by decide) (fun H13 x mx w => ?_)
      obtain ⟨so, rfl, ol, oa⟩ := odd4 mx
      have w : Own H13 (.pt pb (.lst (ss.map V.str)) :: boxCk b :: []) [seqI K a (ns.map V.int)] := by walk_at "own"
      have sub : ∀ (P : Str → Prop) (j k : Nat), (∀ s ∈ ss, P s) → ∀ s ∈ ss.take j ++ ss.drop k, P s := fun P j k h s m => (List.mem_append.mp m).elim (fun m => h s (List.mem_of_mem_take m)) (fun m => h s (List.mem_of_mem_drop m))
      have sub1 : ∀ (P : Str → Prop) (j k : Nat), (∀ s ∈ ss, P s) → P so → ∀ s ∈ ss.take j ++ [so] ++ ss.drop k, P s := fun P j k h ho s m => (List.mem_append.mp m).elim (fun m => (List.mem_append.mp m).elim (fun m => h s (List.mem_of_mem_take m)) (fun m => by rw [List.mem_singleton.mp m]; exact ho)) (fun m => h s (List.mem_of_mem_drop m))
      walk_at "go"
      by_cases c1 : g = 0 ∧ 1 < ss.length
      · refine br_t (by rw [if_neg (by decide)]; exact decide_eq_true (congrArg V.int c1.1)) ?_
        walk_at "go"
        refine br_t (by rw [List.length_map]; exact decide_eq_true (by omega)) ?_
        walk_at "go"
        rw [cut_to t0 (by rw [List.length_map]; omega), ← List.map_take] at w
        rw [cut_from (by omega : (0 : Int) ≤ t + 1) (by rw [List.length_map]; omega), ← List.map_drop] at w
        refine cat_l w (by walk_at "pull") (by walk_at "pull") (by rw [sizeLine_eq]; simp only [List.length_append, List.length_map, List.length_singleton, List.length_take, List.length_drop]; omega) (fun pq H14 w => ?_)
        walk_at "go"
        exact ⟨_, _, _, _, pq, ss.take t.toNat ++ ss.drop (t + 1).toNat, rfl, ⟨by simp only [List.length_append, List.length_take, List.length_drop]; omega, by simp only [List.length_append, List.length_take, List.length_drop]; omega, sub _ _ _ s9, sub _ _ _ sa⟩, by rw [List.map_append]; walk_at "own"⟩
      · have c2 : ¬ (g = 0 ∧ 1 < ss.length) := c1
        by_cases g00 : g = 0
        · refine br_t (by rw [if_neg (by decide)]; exact decide_eq_true (congrArg V.int g00)) ?_
          walk_at "go"
          refine br_f (by rw [List.length_map]; exact decide_eq_false (by omega)) ?_
          walk_at "go"
          refine br_f (by rw [if_neg (by decide)]; exact decide_eq_false (fun e => by have := V.int.inj e; omega)) ?_
          walk_at "go"
          rw [cut_to t0 (by rw [List.length_map]; omega), ← List.map_take] at w
          walk_at "go"
          rw [cut_from (by omega : (0 : Int) ≤ t + 1) (by rw [List.length_map]; omega), ← List.map_drop] at w
          refine cat_l w (by walk_at "pull") (by walk_at "pull") (by rw [sizeLine_eq]; simp only [List.length_append, List.length_map, List.length_singleton, List.length_take, List.length_drop]; omega) (fun pq H14 w => ?_)
          walk_at "go"
          exact ⟨_, _, _, _, pq, ss.take t.toNat ++ [so] ++ ss.drop (t + 1).toNat, rfl, ⟨by simp only [List.length_append, List.length_take, List.length_drop, List.length_singleton]; omega, by simp only [List.length_append, List.length_take, List.length_drop, List.length_singleton]; omega, sub1 _ _ _ s9 ol, sub1 _ _ _ sa oa⟩, by rw [List.map_append, List.map_append]; walk_at "own"⟩
        · refine br_f (by rw [if_neg (by decide)]; exact decide_eq_false (fun e => g00 (V.int.inj e))) ?_
          walk_at "go"
          by_cases g11 : g = 1
          · refine br_t (by rw [if_neg (by decide)]; exact decide_eq_true (congrArg V.int g11)) ?_
            walk_at "go"
            rw [cut_to t0 (by rw [List.length_map]; omega), ← List.map_take] at w
            walk_at "go"
            rw [cut_from (by omega : (0 : Int) ≤ t) (by rw [List.length_map]; omega), ← List.map_drop] at w
            refine cat_l w (by walk_at "pull") (by walk_at "pull") (by rw [sizeLine_eq]; simp only [List.length_append, List.length_map, List.length_singleton, List.length_take, List.length_drop]; omega) (fun pq H14 w => ?_)
            walk_at "go"
            exact ⟨_, _, _, _, pq, ss.take t.toNat ++ [so] ++ ss.drop (t).toNat, rfl, ⟨by simp only [List.length_append, List.length_take, List.length_drop, List.length_singleton]; omega, by simp only [List.length_append, List.length_take, List.length_drop, List.length_singleton]; omega, sub1 _ _ _ s9 ol, sub1 _ _ _ sa oa⟩, by rw [List.map_append, List.map_append]; walk_at "own"⟩
          · refine br_f (by rw [if_neg (by decide)]; exact decide_eq_false (fun e => g11 (V.int.inj e))) ?_
            walk_at "go"
            rw [cut_to t0 (by rw [List.length_map]; omega), ← List.map_take] at w
            walk_at "go"
            rw [cut_from (by omega : (0 : Int) ≤ t + 1) (by rw [List.length_map]; omega), ← List.map_drop] at w
            refine cat_l w (by walk_at "pull") (by walk_at "pull") (by rw [sizeLine_eq]; simp only [List.length_append, List.length_map, List.length_singleton, List.length_take, List.length_drop]; omega) (fun pq H14 w => ?_)
            walk_at "go"
            exact ⟨_, _, _, _, pq, ss.take t.toNat ++ [so] ++ ss.drop (t + 1).toNat, rfl, ⟨by simp only [List.length_append, List.length_take, List.length_drop, List.length_singleton]; omega, by simp only [List.length_append, List.length_take, List.length_drop, List.length_singleton]; omega, sub1 _ _ _ s9 ol, sub1 _ _ _ sa oa⟩, by rw [List.map_append, List.map_append]; walk_at "own"⟩
    · rintro σ H10 ⟨v5, v6, v7, v8, pb, ss, rfl, ⟨sp, sn, s9, sa⟩, w⟩
      obtain ⟨zt, hzt⟩ : ∃ zt, zt = Txt.join (" " : Str) ss := ⟨_, rfl⟩
      have zl : zt.length ≤ 700 := by rw [hzt]; exact join_le8 s9 (by omega)
      have za : AsZ zt := by rw [hzt]; exact join_asz4 sa
      have sd := sum_le8 s9
      walk_at "go"
      refine Join.mk ⟨ss, .inl (SqL.of (w.get (by walk_at "pull" : Pull _ (Ck.pt pb _) _))), (by rw [sp1]; omega), ?_⟩
      rw [← hzt]
      have w : Own H10 (boxCk b :: []) [seqI K a (ns.map V.int)] := by walk_at "own"
      walk_at "go"
      refine Ask.mk ⟨zt, _, _, rfl, w, by omega, za, fun n hn H11 p w => ?_, fun hw => ⟨fun wd hb H11 p w => ?_, fun hb g H11 p w => ?_⟩⟩
      · have n10 := wrong_lt hn
        walk_at "go"
        refine Ask.mk ⟨_, _, _, rfl, w, .inl ⟨zt, rfl, by omega, fun j hj H12 p2 w => ?_, fun hw => by rw [hw] at hn; cases hn⟩⟩
        obtain rfl : n = j := Option.some.inj (hn.symm.trans hj)
        walk_at "go"
        refine rep_shw (d := .tuple [.str "text", .int (n : Nat)]) (.tup (SqT.of (w.get (by walk_at "pull" : Pull _ (Ck.pt p2 _) _))) (.cons (.str _) (.cons (.int _) .nil))) (shw_ti n10) (by decide) (by decide) ?_
        walk_at "go"
        refine rep_shw (d := .tuple [.str "text", .int (n : Nat)]) (.tup (SqT.of (w.get (by walk_at "pull" : Pull _ (Ck.pt p _) _))) (.cons (.str _) (.cons (.int _) .nil))) (shw_ti n10) (by decide) (by decide) ?_
        walk_at "go"
        refine br_f (by rw [if_pos rfl, decide_eq_true rfl]; rfl) ?_
        walk_at "go"
        exact ⟨_, _, _, _, _, _, _, _, _, _, rfl, by walk_at "own"⟩
      · walk_at "go"
        refine Ask.mk ⟨_, _, _, rfl, w, .inl ⟨zt, rfl, by omega, fun j hj H12 p2 w => (by rw [hw] at hj; cases hj), fun _ => ⟨fun w2 hb2 H12 p2 w => ?_, fun hb2 => by rw [hb] at hb2; cases hb2⟩⟩⟩
        obtain rfl : wd = w2 := Option.some.inj (hb.symm.trans hb2)
        walk_at "go"
        refine rep_shw (d := .tuple [.str "rule", .str wd]) (.tup (SqT.of (w.get (by walk_at "pull" : Pull _ (Ck.pt p2 _) _))) (.cons (.str _) (.cons (.str _) .nil))) (shw_tw hb) (by decide) (by decide) ?_
        walk_at "go"
        refine rep_shw (d := .tuple [.str "rule", .str wd]) (.tup (SqT.of (w.get (by walk_at "pull" : Pull _ (Ck.pt p _) _))) (.cons (.str _) (.cons (.str _) .nil))) (shw_tw hb) (by decide) (by decide) ?_
        walk_at "go"
        refine br_f (by rw [if_pos rfl, decide_eq_true rfl]; rfl) ?_
        walk_at "go"
        exact ⟨_, _, _, _, _, _, _, _, _, _, rfl, by walk_at "own"⟩
      · walk_at "go"
        refine Ask.mk ⟨_, _, _, rfl, w, .inl ⟨zt, rfl, by omega, fun j hj H12 p2 w => (by rw [hw] at hj; cases hj), fun _ => ⟨fun w2 hb2 H12 p2 w => (by rw [hb] at hb2; cases hb2), fun _ _ H12 w => ?_⟩⟩⟩
        generalize numR (Txt.split zt " ") = nz at hb g w ⊢
        have nzl : nz.length = 5 := by obtain ⟨_, _, _, _, _, rfl, _⟩ := g; rfl
        walk_at "go"
        refine rep_shw (.str _) (rtext_shw g) (by decide) (by decide) ?_
        walk_at "go"
        refine ask_rtext (ws := showL nz) (by rw [List.length_map, nzl]) (by unfold showL; rw [List.length_map, nzl]) (showL_sh g) w (by walk_at "pull") (fun H13 w => ?_)
        rw [← rtext_show nzl]
        walk_at "go"
        refine rep_shw (.str _) (rtext_shw g) (by decide) (by decide) ?_
        walk_at "go"
        refine br_f (by rw [if_pos rfl, decide_eq_true rfl]; rfl) ?_
        walk_at "go"
        exact ⟨_, _, _, _, _, _, _, _, _, _, rfl, by walk_at "own"⟩
end
end My
set_option Elab.async false
set_option linter.all false
set_option maxRecDepth 100000
set_option maxHeartbeats 800000
namespace My
open PySem PySem.Spec PyProof.Rows L2 RZ SkE CL OW
theorem b6_of {K : PySem.W.Frag} {fd : FuncData} {ps : List Str} (h : ∃ ds, Vals [] ds ∧ Binds K fd ps ds) : Binds K fd ps [] := by
  obtain ⟨ds, v, b⟩ := h
  cases v
  exact b
theorem all_mk {l : PySem.W.OpenLaw} {w : World} {K : PySem.W.Frag} {h : Heap} {mg : Str → Option Value} {fa f_law C_Rule C_InvalidRule C_InvalidText f_is_integer_from f_is_number_text f_InvalidRule_init f_InvalidText_init f_is_number_for f_is_right_at f_first_wrong f_Rule_init Td_Rule_init f_Rule_read p_Rule_read f_Rule_eq f_Rule_str f_l_box f_l_take f_l_pick f_l_value f_l_rule f_l_rule_text f_l_is_number f_l_due f_l_told a_WORDS : Addr} (X : K.In h) (G : h.Ns mainGlobals mg) (hfa : mg "law" = some (.ref fa))
    {od_is_integer_from an_is_integer_from od_is_number_text an_is_number_text od_InvalidRule_init an_InvalidRule_init od_InvalidText_init an_InvalidText_init od_is_number_for an_is_number_for od_is_right_at an_is_right_at od_first_wrong an_first_wrong od_Rule_init an_Rule_init odT_Rule_init od_Rule_read an_Rule_read od_Rule_eq an_Rule_eq od_Rule_str an_Rule_str od_l_box an_l_box od_l_take an_l_take od_l_pick an_l_pick od_l_value an_l_value od_l_rule an_l_rule od_l_rule_text an_l_rule_text od_l_is_number an_l_is_number od_l_due an_l_due od_l_told an_l_told od_law an_law odC_WORDS : Option Addr} {sl_is_integer_from sl_is_number_text sl_InvalidRule_init sl_InvalidText_init sl_is_number_for sl_is_right_at sl_first_wrong sl_Rule_init slT_Rule_init sl_Rule_read sl_Rule_eq sl_Rule_str sl_l_box sl_l_take sl_l_pick sl_l_value sl_l_rule sl_l_rule_text sl_l_is_number sl_l_due sl_l_told sl_law slC_WORDS : Array (Option Value)} {oc_is_integer_from kV_is_integer_from dc_is_integer_from pm_is_integer_from cd_is_integer_from ct_is_integer_from oc_is_number_text kV_is_number_text dc_is_number_text pm_is_number_text cd_is_number_text ct_is_number_text oc_InvalidRule_init kV_InvalidRule_init dc_InvalidRule_init pm_InvalidRule_init cd_InvalidRule_init ct_InvalidRule_init oc_InvalidText_init kV_InvalidText_init dc_InvalidText_init pm_InvalidText_init cd_InvalidText_init ct_InvalidText_init oc_is_number_for kV_is_number_for dc_is_number_for pm_is_number_for cd_is_number_for ct_is_number_for oc_is_right_at kV_is_right_at dc_is_right_at pm_is_right_at cd_is_right_at ct_is_right_at oc_first_wrong kV_first_wrong dc_first_wrong pm_first_wrong cd_first_wrong ct_first_wrong oc_Rule_init kV_Rule_init dc_Rule_init pm_Rule_init cd_Rule_init ct_Rule_init ocT_Rule_init oc_Rule_read kV_Rule_read dc_Rule_read pm_Rule_read cd_Rule_read ct_Rule_read oc_Rule_eq kV_Rule_eq dc_Rule_eq pm_Rule_eq cd_Rule_eq ct_Rule_eq oc_Rule_str kV_Rule_str dc_Rule_str pm_Rule_str cd_Rule_str ct_Rule_str oc_l_box kV_l_box dc_l_box pm_l_box cd_l_box ct_l_box oc_l_take kV_l_take dc_l_take pm_l_take cd_l_take ct_l_take oc_l_pick kV_l_pick dc_l_pick pm_l_pick cd_l_pick ct_l_pick oc_l_value kV_l_value dc_l_value pm_l_value cd_l_value ct_l_value oc_l_rule kV_l_rule dc_l_rule pm_l_rule cd_l_rule ct_l_rule oc_l_rule_text kV_l_rule_text dc_l_rule_text pm_l_rule_text cd_l_rule_text ct_l_rule_text oc_l_is_number kV_l_is_number dc_l_is_number pm_l_is_number cd_l_is_number ct_l_is_number oc_l_due kV_l_due dc_l_due pm_l_due cd_l_due ct_l_due oc_l_told kV_l_told dc_l_told pm_l_told cd_l_told ct_l_told oc_law kV_law dc_law pm_law cd_law ct_law : Value} {mT_Rule_init mC_WORDS : Nat} {t0_Rule_init tc0_WORDS tc1_WORDS tc2_WORDS tc3_WORDS tc4_WORDS tk_TEXT_LENGTH tk_MOST_DIGITS : Tok}
    {nm_InvalidText q_InvalidText : Str} {N_InvalidText : Addr} {bs_InvalidText : List Value} {sn_InvalidText : List Str} {sub_InvalidText : List Value} {ab_InvalidText : Bool} {col_InvalidText : Option Bool} {dd_InvalidText : Option Addr} {m0_InvalidText m1_InvalidText m2_InvalidText m3_InvalidText m5_InvalidText : Option Value}
    {nm_InvalidRule q_InvalidRule : Str} {N_InvalidRule : Addr} {bs_InvalidRule : List Value} {sn_InvalidRule : List Str} {sub_InvalidRule : List Value} {ab_InvalidRule : Bool} {col_InvalidRule : Option Bool} {dd_InvalidRule : Option Addr} {m0_InvalidRule m1_InvalidRule m2_InvalidRule m3_InvalidRule m5_InvalidRule : Option Value}
    {rest_Rule_read : List Value}
    (aC_Rule : PySem.W.nsIn K mainGlobals "Rule" = some (some (.ref C_Rule)))
    (pg_Rule : PySem.W.plainGet K C_Rule Str.empty = true)
    (hd_Rule : PySem.W.hasDictIn K C_Rule = true)
    (po_Rule : PySem.W.plainOver K C_Rule = true)
    (sa_Rule : PySem.W.findIn K (.ref C_Rule) "__setattr__" = some (some (.builtin "object.__setattr__")))
    (mk_Rule : PySem.W.makesIn K C_Rule = true)
    (kc_Rule : PySem.W.keepIn K (.ref C_Rule) = true)
    (ha_Rule : PySem.W.findIn K (.ref C_Rule) "__class__" = some (some (.builtin "object.__class__")))
    (hm_Rule : PySem.W.mroIn K C_Rule (.type "object") = some true)
    (na_Rule_seats : PySem.W.findIn K (.ref C_Rule) "seats" = some none)
    (na_Rule_lapse : PySem.W.findIn K (.ref C_Rule) "lapse" = some none)
    (na_Rule_beat : PySem.W.findIn K (.ref C_Rule) "beat" = some none)
    (na_Rule_grace : PySem.W.findIn K (.ref C_Rule) "grace" = some none)
    (na_Rule_late : PySem.W.findIn K (.ref C_Rule) "late" = some none)
    (aC_InvalidRule : PySem.W.nsIn K mainGlobals "InvalidRule" = some (some (.ref C_InvalidRule)))
    (aC_InvalidText : PySem.W.nsIn K mainGlobals "InvalidText" = some (some (.ref C_InvalidText)))
    (xL_InvalidText : K.lookup C_InvalidText = some (excClassObj nm_InvalidText q_InvalidText C_InvalidText N_InvalidText bs_InvalidText [.ref C_SeatError, .type "ValueError", .type "Exception", .type "BaseException", .type "object"] true sn_InvalidText sub_InvalidText ab_InvalidText col_InvalidText dd_InvalidText m0_InvalidText m1_InvalidText m2_InvalidText m3_InvalidText m5_InvalidText "ValueError.__new__"))
    (sa_InvalidText : PySem.W.findIn K (.ref C_InvalidText) "__setattr__" = some (some (.builtin "object.__setattr__")))
    (ga_InvalidText : PySem.W.findIn K (.ref C_InvalidText) "__getattribute__" = some (some (.builtin "BaseException.__getattribute__")))
    (gg_InvalidText : PySem.W.findIn K (.ref C_InvalidText) "__getattr__" = some none)
    (kC_InvalidText : PySem.W.keepIn K (.ref C_InvalidText) = true)
    (eC_InvalidText : PySem.W.subIn K (.ref C_InvalidText) (.type "BaseException") = some true)
    (tC_InvalidText : PySem.W.typeIn K (.ref C_InvalidText) = some (.type "type"))
    (hC_InvalidText : PySem.W.hasDictIn K C_InvalidText = true)
    (ha_InvalidText : PySem.W.findIn K (.ref C_InvalidText) "__class__" = some (some (.builtin "object.__class__")))
    (hm_InvalidText : PySem.W.mroIn K C_InvalidText (.type "object") = some true)
    (nb_InvalidText : PySem.W.findIn K (.ref C_InvalidText) "at" = some none)
    (sC_InvalidText : PySem.W.subIn K (.ref C_InvalidText) (.ref C_InvalidText) = some true)
    (xL_InvalidRule : K.lookup C_InvalidRule = some (excClassObj nm_InvalidRule q_InvalidRule C_InvalidRule N_InvalidRule bs_InvalidRule [.ref C_SeatError, .type "ValueError", .type "Exception", .type "BaseException", .type "object"] true sn_InvalidRule sub_InvalidRule ab_InvalidRule col_InvalidRule dd_InvalidRule m0_InvalidRule m1_InvalidRule m2_InvalidRule m3_InvalidRule m5_InvalidRule "ValueError.__new__"))
    (sa_InvalidRule : PySem.W.findIn K (.ref C_InvalidRule) "__setattr__" = some (some (.builtin "object.__setattr__")))
    (ga_InvalidRule : PySem.W.findIn K (.ref C_InvalidRule) "__getattribute__" = some (some (.builtin "BaseException.__getattribute__")))
    (gg_InvalidRule : PySem.W.findIn K (.ref C_InvalidRule) "__getattr__" = some none)
    (kC_InvalidRule : PySem.W.keepIn K (.ref C_InvalidRule) = true)
    (eC_InvalidRule : PySem.W.subIn K (.ref C_InvalidRule) (.type "BaseException") = some true)
    (tC_InvalidRule : PySem.W.typeIn K (.ref C_InvalidRule) = some (.type "type"))
    (hC_InvalidRule : PySem.W.hasDictIn K C_InvalidRule = true)
    (ha_InvalidRule : PySem.W.findIn K (.ref C_InvalidRule) "__class__" = some (some (.builtin "object.__class__")))
    (hm_InvalidRule : PySem.W.mroIn K C_InvalidRule (.type "object") = some true)
    (nb_InvalidRule : PySem.W.findIn K (.ref C_InvalidRule) "word" = some none)
    (sC_InvalidRule : PySem.W.subIn K (.ref C_InvalidRule) (.ref C_InvalidRule) = some true)
    (sx_InvalidRule_InvalidText : PySem.W.subIn K (.ref C_InvalidRule) (.ref C_InvalidText) = some false)
    (hn_ : PySem.W.specialIn K (.builtin "object.__class__") "__get__" = some (some (.builtin "getset_descriptor.__get__")))
    (ht_ : PySem.W.takesIn K (.builtin "object.__class__") = some true)
    (a_is_integer_from : PySem.W.nsIn K mainGlobals "is_integer_from" = some (some (.ref f_is_integer_from)))
    (l_is_integer_from : K.lookup f_is_integer_from = some ⟨oc_is_integer_from, od_is_integer_from, .func (PySem.W.fnOf "is_integer_from" "is_integer_from" (defArgs s_is_integer_from) (defBody s_is_integer_from) (defScope s_is_integer_from) .none kV_is_integer_from dc_is_integer_from pm_is_integer_from an_is_integer_from cd_is_integer_from ct_is_integer_from), sl_is_integer_from⟩)
    (cI_is_integer_from : PySem.W.codeIn K cd_is_integer_from "is_integer_from" = true)
    (k_is_integer_from : PySem.W.keepIn K (.ref f_is_integer_from) = true)
    (a_is_number_text : PySem.W.nsIn K mainGlobals "is_number_text" = some (some (.ref f_is_number_text)))
    (l_is_number_text : K.lookup f_is_number_text = some ⟨oc_is_number_text, od_is_number_text, .func (PySem.W.fnOf "is_number_text" "is_number_text" (defArgs s_is_number_text) (defBody s_is_number_text) (defScope s_is_number_text) .none kV_is_number_text dc_is_number_text pm_is_number_text an_is_number_text cd_is_number_text ct_is_number_text), sl_is_number_text⟩)
    (cI_is_number_text : PySem.W.codeIn K cd_is_number_text "is_number_text" = true)
    (k_is_number_text : PySem.W.keepIn K (.ref f_is_number_text) = true)
    (a_InvalidRule_init : PySem.W.findIn K (.ref C_InvalidRule) "__init__" = some (some (.ref f_InvalidRule_init)))
    (t_InvalidRule_init : PySem.W.typeIn K (.ref f_InvalidRule_init) = some (.type "function"))
    (l_InvalidRule_init : K.lookup f_InvalidRule_init = some ⟨oc_InvalidRule_init, od_InvalidRule_init, .func (PySem.W.fnOf "__init__" "InvalidRule.__init__" (defArgs s_InvalidRule_init) (defBody s_InvalidRule_init) (defScope s_InvalidRule_init) .none kV_InvalidRule_init dc_InvalidRule_init pm_InvalidRule_init an_InvalidRule_init cd_InvalidRule_init ct_InvalidRule_init), sl_InvalidRule_init⟩)
    (cI_InvalidRule_init : PySem.W.codeIn K cd_InvalidRule_init "InvalidRule.__init__" = true)
    (k_InvalidRule_init : PySem.W.keepIn K (.ref f_InvalidRule_init) = true)
    (a_InvalidText_init : PySem.W.findIn K (.ref C_InvalidText) "__init__" = some (some (.ref f_InvalidText_init)))
    (t_InvalidText_init : PySem.W.typeIn K (.ref f_InvalidText_init) = some (.type "function"))
    (l_InvalidText_init : K.lookup f_InvalidText_init = some ⟨oc_InvalidText_init, od_InvalidText_init, .func (PySem.W.fnOf "__init__" "InvalidText.__init__" (defArgs s_InvalidText_init) (defBody s_InvalidText_init) (defScope s_InvalidText_init) .none kV_InvalidText_init dc_InvalidText_init pm_InvalidText_init an_InvalidText_init cd_InvalidText_init ct_InvalidText_init), sl_InvalidText_init⟩)
    (cI_InvalidText_init : PySem.W.codeIn K cd_InvalidText_init "InvalidText.__init__" = true)
    (k_InvalidText_init : PySem.W.keepIn K (.ref f_InvalidText_init) = true)
    (a_is_number_for : PySem.W.nsIn K mainGlobals "is_number_for" = some (some (.ref f_is_number_for)))
    (l_is_number_for : K.lookup f_is_number_for = some ⟨oc_is_number_for, od_is_number_for, .func (PySem.W.fnOf "is_number_for" "is_number_for" (defArgs s_is_number_for) (defBody s_is_number_for) (defScope s_is_number_for) .none kV_is_number_for dc_is_number_for pm_is_number_for an_is_number_for cd_is_number_for ct_is_number_for), sl_is_number_for⟩)
    (cI_is_number_for : PySem.W.codeIn K cd_is_number_for "is_number_for" = true)
    (k_is_number_for : PySem.W.keepIn K (.ref f_is_number_for) = true)
    (a_is_right_at : PySem.W.nsIn K mainGlobals "is_right_at" = some (some (.ref f_is_right_at)))
    (l_is_right_at : K.lookup f_is_right_at = some ⟨oc_is_right_at, od_is_right_at, .func (PySem.W.fnOf "is_right_at" "is_right_at" (defArgs s_is_right_at) (defBody s_is_right_at) (defScope s_is_right_at) .none kV_is_right_at dc_is_right_at pm_is_right_at an_is_right_at cd_is_right_at ct_is_right_at), sl_is_right_at⟩)
    (cI_is_right_at : PySem.W.codeIn K cd_is_right_at "is_right_at" = true)
    (k_is_right_at : PySem.W.keepIn K (.ref f_is_right_at) = true)
    (a_first_wrong : PySem.W.nsIn K mainGlobals "first_wrong" = some (some (.ref f_first_wrong)))
    (l_first_wrong : K.lookup f_first_wrong = some ⟨oc_first_wrong, od_first_wrong, .func (PySem.W.fnOf "first_wrong" "first_wrong" (defArgs s_first_wrong) (defBody s_first_wrong) (defScope s_first_wrong) .none kV_first_wrong dc_first_wrong pm_first_wrong an_first_wrong cd_first_wrong ct_first_wrong), sl_first_wrong⟩)
    (cI_first_wrong : PySem.W.codeIn K cd_first_wrong "first_wrong" = true)
    (k_first_wrong : PySem.W.keepIn K (.ref f_first_wrong) = true)
    (a_Rule_init : PySem.W.findIn K (.ref C_Rule) "__init__" = some (some (.ref f_Rule_init)))
    (i_Rule_init : PySem.W.isFn K (.ref f_Rule_init) = true)
    (l_Rule_init : K.lookup f_Rule_init = some ⟨oc_Rule_init, od_Rule_init, .func (PySem.W.fnOf "__init__" "Rule.__init__" (defArgs s_Rule_init) (defBody s_Rule_init) (defScope s_Rule_init) (.ref Td_Rule_init) kV_Rule_init dc_Rule_init pm_Rule_init an_Rule_init cd_Rule_init ct_Rule_init), sl_Rule_init⟩)
    (cI_Rule_init : PySem.W.codeIn K cd_Rule_init "Rule.__init__" = true)
    (k_Rule_init : PySem.W.keepIn K (.ref f_Rule_init) = true)
    (lT_Rule_init : K.lookup Td_Rule_init = some ⟨ocT_Rule_init, odT_Rule_init, .seq #[.int 0 t0_Rule_init] mT_Rule_init, slT_Rule_init⟩)
    (at_Rule_read : PySem.W.findCls K (.ref C_Rule) (.type "type") "read" = some (.get (.builtin "classmethod.__get__") (.ref p_Rule_read) .none (.ref C_Rule)))
    (rc_Rule_read : PySem.W.recIn K p_Rule_read "classmethod" = some (.ref f_Rule_read :: rest_Rule_read))
    (fi_Rule_read : PySem.W.fnIn K f_Rule_read = true)
    (rd_Rule_read : PySem.W.readsIn K C_Rule (.type "type") = true)
    (ga_Rule_read : PySem.W.specialIn K (.ref C_Rule) "__getattribute__" = some (some (.builtin "type.__getattribute__")))
    (l_Rule_read : K.lookup f_Rule_read = some ⟨oc_Rule_read, od_Rule_read, .func (PySem.W.fnOf "read" "Rule.read" (defArgs s_Rule_read) (defBody s_Rule_read) (defScope s_Rule_read) .none kV_Rule_read dc_Rule_read pm_Rule_read an_Rule_read cd_Rule_read ct_Rule_read), sl_Rule_read⟩)
    (cI_Rule_read : PySem.W.codeIn K cd_Rule_read "Rule.read" = true)
    (k_Rule_read : PySem.W.keepIn K (.ref f_Rule_read) = true)
    (a_Rule_eq : PySem.W.findIn K (.ref C_Rule) "__eq__" = some (some (.ref f_Rule_eq)))
    (i_Rule_eq : PySem.W.isFn K (.ref f_Rule_eq) = true)
    (ne_Rule : PySem.W.findIn K (.ref C_Rule) "__ne__" = some (some (.builtin "object.__ne__")))
    (l_Rule_eq : K.lookup f_Rule_eq = some ⟨oc_Rule_eq, od_Rule_eq, .func (PySem.W.fnOf "__eq__" "Rule.__eq__" (defArgs s_Rule_eq) (defBody s_Rule_eq) (defScope s_Rule_eq) .none kV_Rule_eq dc_Rule_eq pm_Rule_eq an_Rule_eq cd_Rule_eq ct_Rule_eq), sl_Rule_eq⟩)
    (cI_Rule_eq : PySem.W.codeIn K cd_Rule_eq "Rule.__eq__" = true)
    (k_Rule_eq : PySem.W.keepIn K (.ref f_Rule_eq) = true)
    (a_Rule_str : PySem.W.findIn K (.ref C_Rule) "__str__" = some (some (.ref f_Rule_str)))
    (i_Rule_str : PySem.W.isFn K (.ref f_Rule_str) = true)
    (l_Rule_str : K.lookup f_Rule_str = some ⟨oc_Rule_str, od_Rule_str, .func (PySem.W.fnOf "__str__" "Rule.__str__" (defArgs s_Rule_str) (defBody s_Rule_str) (defScope s_Rule_str) .none kV_Rule_str dc_Rule_str pm_Rule_str an_Rule_str cd_Rule_str ct_Rule_str), sl_Rule_str⟩)
    (cI_Rule_str : PySem.W.codeIn K cd_Rule_str "Rule.__str__" = true)
    (k_Rule_str : PySem.W.keepIn K (.ref f_Rule_str) = true)
    (a_l_box : PySem.W.nsIn K mainGlobals "_law_box" = some (some (.ref f_l_box)))
    (l_l_box : K.lookup f_l_box = some ⟨oc_l_box, od_l_box, .func (PySem.W.fnOf "_law_box" "_law_box" (defArgs s_l_box) (defBody s_l_box) (defScope s_l_box) .none kV_l_box dc_l_box pm_l_box an_l_box cd_l_box ct_l_box), sl_l_box⟩)
    (cI_l_box : PySem.W.codeIn K cd_l_box "_law_box" = true)
    (k_l_box : PySem.W.keepIn K (.ref f_l_box) = true)
    (a_l_take : PySem.W.nsIn K mainGlobals "_law_take" = some (some (.ref f_l_take)))
    (l_l_take : K.lookup f_l_take = some ⟨oc_l_take, od_l_take, .func (PySem.W.fnOf "_law_take" "_law_take" (defArgs s_l_take) (defBody s_l_take) (defScope s_l_take) .none kV_l_take dc_l_take pm_l_take an_l_take cd_l_take ct_l_take), sl_l_take⟩)
    (cI_l_take : PySem.W.codeIn K cd_l_take "_law_take" = true)
    (k_l_take : PySem.W.keepIn K (.ref f_l_take) = true)
    (a_l_pick : PySem.W.nsIn K mainGlobals "_law_pick" = some (some (.ref f_l_pick)))
    (l_l_pick : K.lookup f_l_pick = some ⟨oc_l_pick, od_l_pick, .func (PySem.W.fnOf "_law_pick" "_law_pick" (defArgs s_l_pick) (defBody s_l_pick) (defScope s_l_pick) .none kV_l_pick dc_l_pick pm_l_pick an_l_pick cd_l_pick ct_l_pick), sl_l_pick⟩)
    (cI_l_pick : PySem.W.codeIn K cd_l_pick "_law_pick" = true)
    (k_l_pick : PySem.W.keepIn K (.ref f_l_pick) = true)
    (a_l_value : PySem.W.nsIn K mainGlobals "_law_value" = some (some (.ref f_l_value)))
    (l_l_value : K.lookup f_l_value = some ⟨oc_l_value, od_l_value, .func (PySem.W.fnOf "_law_value" "_law_value" (defArgs s_l_value) (defBody s_l_value) (defScope s_l_value) .none kV_l_value dc_l_value pm_l_value an_l_value cd_l_value ct_l_value), sl_l_value⟩)
    (cI_l_value : PySem.W.codeIn K cd_l_value "_law_value" = true)
    (k_l_value : PySem.W.keepIn K (.ref f_l_value) = true)
    (a_l_rule : PySem.W.nsIn K mainGlobals "_law_rule" = some (some (.ref f_l_rule)))
    (l_l_rule : K.lookup f_l_rule = some ⟨oc_l_rule, od_l_rule, .func (PySem.W.fnOf "_law_rule" "_law_rule" (defArgs s_l_rule) (defBody s_l_rule) (defScope s_l_rule) .none kV_l_rule dc_l_rule pm_l_rule an_l_rule cd_l_rule ct_l_rule), sl_l_rule⟩)
    (cI_l_rule : PySem.W.codeIn K cd_l_rule "_law_rule" = true)
    (k_l_rule : PySem.W.keepIn K (.ref f_l_rule) = true)
    (a_l_rule_text : PySem.W.nsIn K mainGlobals "_law_rule_text" = some (some (.ref f_l_rule_text)))
    (l_l_rule_text : K.lookup f_l_rule_text = some ⟨oc_l_rule_text, od_l_rule_text, .func (PySem.W.fnOf "_law_rule_text" "_law_rule_text" (defArgs s_l_rule_text) (defBody s_l_rule_text) (defScope s_l_rule_text) .none kV_l_rule_text dc_l_rule_text pm_l_rule_text an_l_rule_text cd_l_rule_text ct_l_rule_text), sl_l_rule_text⟩)
    (cI_l_rule_text : PySem.W.codeIn K cd_l_rule_text "_law_rule_text" = true)
    (k_l_rule_text : PySem.W.keepIn K (.ref f_l_rule_text) = true)
    (a_l_is_number : PySem.W.nsIn K mainGlobals "_law_is_number" = some (some (.ref f_l_is_number)))
    (l_l_is_number : K.lookup f_l_is_number = some ⟨oc_l_is_number, od_l_is_number, .func (PySem.W.fnOf "_law_is_number" "_law_is_number" (defArgs s_l_is_number) (defBody s_l_is_number) (defScope s_l_is_number) .none kV_l_is_number dc_l_is_number pm_l_is_number an_l_is_number cd_l_is_number ct_l_is_number), sl_l_is_number⟩)
    (cI_l_is_number : PySem.W.codeIn K cd_l_is_number "_law_is_number" = true)
    (k_l_is_number : PySem.W.keepIn K (.ref f_l_is_number) = true)
    (a_l_due : PySem.W.nsIn K mainGlobals "_law_due" = some (some (.ref f_l_due)))
    (l_l_due : K.lookup f_l_due = some ⟨oc_l_due, od_l_due, .func (PySem.W.fnOf "_law_due" "_law_due" (defArgs s_l_due) (defBody s_l_due) (defScope s_l_due) .none kV_l_due dc_l_due pm_l_due an_l_due cd_l_due ct_l_due), sl_l_due⟩)
    (cI_l_due : PySem.W.codeIn K cd_l_due "_law_due" = true)
    (k_l_due : PySem.W.keepIn K (.ref f_l_due) = true)
    (a_l_told : PySem.W.nsIn K mainGlobals "_law_told" = some (some (.ref f_l_told)))
    (l_l_told : K.lookup f_l_told = some ⟨oc_l_told, od_l_told, .func (PySem.W.fnOf "_law_told" "_law_told" (defArgs s_l_told) (defBody s_l_told) (defScope s_l_told) .none kV_l_told dc_l_told pm_l_told an_l_told cd_l_told ct_l_told), sl_l_told⟩)
    (cI_l_told : PySem.W.codeIn K cd_l_told "_law_told" = true)
    (k_l_told : PySem.W.keepIn K (.ref f_l_told) = true)
    (a_law : PySem.W.nsIn K mainGlobals "law" = some (some (.ref f_law)))
    (l_law : K.lookup f_law = some ⟨oc_law, od_law, .func (PySem.W.fnOf "law" "law" (defArgs s_law) (defBody s_law) (defScope s_law) .none kV_law dc_law pm_law an_law cd_law ct_law), sl_law⟩)
    (cI_law : PySem.W.codeIn K cd_law "law" = true)
    (k_law : PySem.W.keepIn K (.ref f_law) = true)
    (z_range : PySem.W.nsIn K mainGlobals "range" = some none)
    (z_max : PySem.W.nsIn K mainGlobals "max" = some none)
    (z_min : PySem.W.nsIn K mainGlobals "min" = some none)
    (z_len : PySem.W.nsIn K mainGlobals "len" = some none)
    (z_repr : PySem.W.nsIn K mainGlobals "repr" = some none)
    (z_isinstance : PySem.W.nsIn K mainGlobals "isinstance" = some none)
    (z_str : PySem.W.nsIn K mainGlobals "str" = some none)
    (z_list : PySem.W.nsIn K mainGlobals "list" = some none)
    (z_abs : PySem.W.nsIn K mainGlobals "abs" = some none)
    (z_int : PySem.W.nsIn K mainGlobals "int" = some none)
    (z_enumerate : PySem.W.nsIn K mainGlobals "enumerate" = some none)
    (z_zip : PySem.W.nsIn K mainGlobals "zip" = some none)
    (z_bool : PySem.W.nsIn K mainGlobals "bool" = some none)
    (gc_WORDS : PySem.W.nsIn K mainGlobals "WORDS" = some (some (.ref a_WORDS)))
    (lC_WORDS : K.lookup a_WORDS = some ⟨.type "tuple", odC_WORDS, .seq #[.str "seats" tc0_WORDS, .str "lapse" tc1_WORDS, .str "beat" tc2_WORDS, .str "grace" tc3_WORDS, .str "late" tc4_WORDS] mC_WORDS, slC_WORDS⟩)
    (gc_TEXT_LENGTH : PySem.W.nsIn K mainGlobals "TEXT_LENGTH" = some (some (.int 10 tk_TEXT_LENGTH)))
    (gc_MOST_DIGITS : PySem.W.nsIn K mainGlobals "MOST_DIGITS" = some (some (.int 7 tk_MOST_DIGITS))) :
    ∃ fd : FuncData, (∀ (s : Shared) (v : Value), BindsTo s fd ⟨[v], []⟩ [("_law_script", v)]) ∧ ∀ base : Heap, K.In base → base.Ns mainGlobals mg → FnG l.prog w K mg base CX0 8 fa fd ["_law_script"] (spLaw K) := by
  have e := hfa.symm.trans (PySem.W.mg_of X G a_law)
  cases e
  have F_is_integer_from := fun_mk (st := s_is_integer_from) l_is_integer_from cI_is_integer_from k_is_integer_from
  have b_is_integer_from := F_is_integer_from.binds (ps := ["value", "least"]) fun _ _ _ _ _ _ us hl => match us, hl with | [_, _], _ => rfl
  have F_is_number_text := fun_mk (st := s_is_number_text) l_is_number_text cI_is_number_text k_is_number_text
  have b_is_number_text := F_is_number_text.binds (ps := ["text", "digits"]) fun _ _ _ _ _ _ us hl => match us, hl with | [_, _], _ => rfl
  have F_InvalidRule_init := fun_mk (st := s_InvalidRule_init) l_InvalidRule_init cI_InvalidRule_init k_InvalidRule_init
  have b_InvalidRule_init := F_InvalidRule_init.binds (ps := ["self", "word"]) fun _ _ _ _ _ _ us hl => match us, hl with | [_, _], _ => rfl
  have F_InvalidText_init := fun_mk (st := s_InvalidText_init) l_InvalidText_init cI_InvalidText_init k_InvalidText_init
  have b_InvalidText_init := F_InvalidText_init.binds (ps := ["self", "at"]) fun _ _ _ _ _ _ us hl => match us, hl with | [_, _], _ => rfl
  have F_is_number_for := fun_mk (st := s_is_number_for) l_is_number_for cI_is_number_for k_is_number_for
  have b_is_number_for := F_is_number_for.binds (ps := ["word", "number"]) fun _ _ _ _ _ _ us hl => match us, hl with | [_, _], _ => rfl
  have F_is_right_at := fun_mk (st := s_is_right_at) l_is_right_at cI_is_right_at k_is_right_at
  have b_is_right_at := F_is_right_at.binds (ps := ["at", "part"]) fun _ _ _ _ _ _ us hl => match us, hl with | [_, _], _ => rfl
  have F_first_wrong := fun_mk (st := s_first_wrong) l_first_wrong cI_first_wrong k_first_wrong
  have b_first_wrong := F_first_wrong.binds (ps := ["parts"]) fun _ _ _ _ _ _ us hl => match us, hl with | [_], _ => rfl
  have F_Rule_init : FunD K "__init__" "Rule.__init__" (defArgs s_Rule_init) (defBody s_Rule_init) (defScope s_Rule_init) [.int 0] [] f_Rule_init (PySem.W.fnOf "__init__" "Rule.__init__" (defArgs s_Rule_init) (defBody s_Rule_init) (defScope s_Rule_init) (.ref Td_Rule_init) kV_Rule_init dc_Rule_init pm_Rule_init an_Rule_init cd_Rule_init ct_Rule_init) := ⟨⟨_, _, _, _, _, _, _, _, _, _, rfl, l_Rule_init, cI_Rule_init, .inr ⟨by simp, Td_Rule_init, _, [.int 0 t0_Rule_init], mT_Rule_init, rfl, lT_Rule_init, rfl, .cons ⟨_, rfl⟩ .nil⟩, .inl rfl⟩, k_Rule_init⟩
  have bd_Rule_init := F_Rule_init.binds1 (ps := ["self", "seats", "lapse", "beat", "grace", "late"]) 5 0 (by simp) rfl (fun _ _ _ _ _ _ _ us its hl ht => match us, its, hl, ht with | [_, _, _, _, _], [_], _, _ => ⟨_, rfl, rfl⟩)
  have b_Rule_init := b6_of (F_Rule_init.binds1 (ps := ["self", "seats", "lapse", "beat", "grace", "late"]) 6 1 (by simp) rfl (fun _ _ _ _ _ _ _ us its hl ht => match us, its, hl, ht with | [_, _, _, _, _, _], [_], _, _ => ⟨_, rfl, rfl⟩))
  have F_Rule_read := fun_mk (st := s_Rule_read) l_Rule_read cI_Rule_read k_Rule_read
  have b_Rule_read := F_Rule_read.binds (ps := ["cls", "text"]) fun _ _ _ _ _ _ us hl => match us, hl with | [_, _], _ => rfl
  have F_Rule_eq := fun_mk (st := s_Rule_eq) l_Rule_eq cI_Rule_eq k_Rule_eq
  have b_Rule_eq := F_Rule_eq.binds (ps := ["self", "other"]) fun _ _ _ _ _ _ us hl => match us, hl with | [_, _], _ => rfl
  have F_Rule_str := fun_mk (st := s_Rule_str) l_Rule_str cI_Rule_str k_Rule_str
  have b_Rule_str := F_Rule_str.binds (ps := ["self"]) fun _ _ _ _ _ _ us hl => match us, hl with | [_], _ => rfl
  have F_l_box := fun_mk (st := s_l_box) l_l_box cI_l_box k_l_box
  have b_l_box := F_l_box.binds (ps := ["_law_script", "_law_k", "_law_own"]) fun _ _ _ _ _ _ us hl => match us, hl with | [_, _, _], _ => rfl
  have F_l_take := fun_mk (st := s_l_take) l_l_take cI_l_take k_l_take
  have b_l_take := F_l_take.binds (ps := ["_law_box_here", "_law_bound"]) fun _ _ _ _ _ _ us hl => match us, hl with | [_, _], _ => rfl
  have F_l_pick := fun_mk (st := s_l_pick) l_l_pick cI_l_pick k_l_pick
  have b_l_pick := F_l_pick.binds (ps := ["_law_box_here", "_law_items"]) fun _ _ _ _ _ _ us hl => match us, hl with | [_, _], _ => rfl
  have F_l_value := fun_mk (st := s_l_value) l_l_value cI_l_value k_l_value
  have b_l_value := F_l_value.binds (ps := ["_law_box_here"]) fun _ _ _ _ _ _ us hl => match us, hl with | [_], _ => rfl
  have F_l_rule := fun_mk (st := s_l_rule) l_l_rule cI_l_rule k_l_rule
  have b_l_rule := F_l_rule.binds (ps := ["_law_box_here"]) fun _ _ _ _ _ _ us hl => match us, hl with | [_], _ => rfl
  have F_l_rule_text := fun_mk (st := s_l_rule_text) l_l_rule_text cI_l_rule_text k_l_rule_text
  have b_l_rule_text := F_l_rule_text.binds (ps := ["_law_numbers"]) fun _ _ _ _ _ _ us hl => match us, hl with | [_], _ => rfl
  have F_l_is_number := fun_mk (st := s_l_is_number) l_l_is_number cI_l_is_number k_l_is_number
  have b_l_is_number := F_l_is_number.binds (ps := ["_law_word"]) fun _ _ _ _ _ _ us hl => match us, hl with | [_], _ => rfl
  have F_l_due := fun_mk (st := s_l_due) l_l_due cI_l_due k_l_due
  have b_l_due := F_l_due.binds (ps := ["_law_text"]) fun _ _ _ _ _ _ us hl => match us, hl with | [_], _ => rfl
  have F_l_told := fun_mk (st := s_l_told) l_l_told cI_l_told k_l_told
  have b_l_told := F_l_told.binds (ps := ["_law_text"]) fun _ _ _ _ _ _ us hl => match us, hl with | [_], _ => rfl
  have F_law := fun_mk (st := s_law) l_law cI_law k_law
  have b_law := F_law.binds (ps := ["_law_script"]) fun _ _ _ _ _ _ us hl => match us, hl with | [_], _ => rfl
  exact ⟨PySem.W.fnOf "law" "law" (defArgs s_law) (defBody s_law) (defScope s_law) .none kV_law dc_law pm_law an_law cd_law ct_law, fun s v => .of_eq rfl, fun base _ _ => G_law l.prog w base ({
    range := PySem.W.mg_none_of X G z_range
    max := PySem.W.mg_none_of X G z_max
    min := PySem.W.mg_none_of X G z_min
    len := PySem.W.mg_none_of X G z_len
    repr := PySem.W.mg_none_of X G z_repr
    isinstance := PySem.W.mg_none_of X G z_isinstance
    str := PySem.W.mg_none_of X G z_str
    list := PySem.W.mg_none_of X G z_list
    abs := PySem.W.mg_none_of X G z_abs
    int := PySem.W.mg_none_of X G z_int
    enumerate := PySem.W.mg_none_of X G z_enumerate
    zip := PySem.W.mg_none_of X G z_zip
    bool := PySem.W.mg_none_of X G z_bool
    C_Rule := C_Rule
    c_Rule := ⟨PySem.W.mg_of X G aC_Rule, ⟨pg_Rule, hd_Rule, po_Rule, sa_Rule⟩, ha_Rule, hn_, ht_, hm_Rule⟩
    na_Rule_seats := na_Rule_seats
    na_Rule_lapse := na_Rule_lapse
    na_Rule_beat := na_Rule_beat
    na_Rule_grace := na_Rule_grace
    na_Rule_late := na_Rule_late
    C_InvalidRule := C_InvalidRule
    ge_InvalidRule := PySem.W.mg_of X G aC_InvalidRule
    C_InvalidText := C_InvalidText
    ge_InvalidText := PySem.W.mg_of X G aC_InvalidText
    xo_InvalidText := ⟨⟨nm_InvalidText, q_InvalidText, N_InvalidText, bs_InvalidText, _, sn_InvalidText, sub_InvalidText, ab_InvalidText, col_InvalidText, dd_InvalidText, m0_InvalidText, m1_InvalidText, m2_InvalidText, m3_InvalidText, m5_InvalidText, xL_InvalidText, by show PySem.HandSPX.refsVE PySem.HandSPX.veTail = true; decide +kernel⟩, sa_InvalidText, eC_InvalidText, tC_InvalidText, kC_InvalidText⟩
    xf_InvalidText := ⟨ga_InvalidText, gg_InvalidText, eC_InvalidText, hC_InvalidText⟩
    xc_InvalidText := ⟨ga_InvalidText, gg_InvalidText, eC_InvalidText, hC_InvalidText, ha_InvalidText, hn_, ht_, hm_InvalidText⟩
    xn_InvalidText := nb_InvalidText
    xm_InvalidText := PySem.W.exm_ref eC_InvalidText hC_InvalidText tC_InvalidText sC_InvalidText
    xi_InvalidText := a_InvalidText_init
    xt_InvalidText := t_InvalidText_init
    xo_InvalidRule := ⟨⟨nm_InvalidRule, q_InvalidRule, N_InvalidRule, bs_InvalidRule, _, sn_InvalidRule, sub_InvalidRule, ab_InvalidRule, col_InvalidRule, dd_InvalidRule, m0_InvalidRule, m1_InvalidRule, m2_InvalidRule, m3_InvalidRule, m5_InvalidRule, xL_InvalidRule, by show PySem.HandSPX.refsVE PySem.HandSPX.veTail = true; decide +kernel⟩, sa_InvalidRule, eC_InvalidRule, tC_InvalidRule, kC_InvalidRule⟩
    xf_InvalidRule := ⟨ga_InvalidRule, gg_InvalidRule, eC_InvalidRule, hC_InvalidRule⟩
    xc_InvalidRule := ⟨ga_InvalidRule, gg_InvalidRule, eC_InvalidRule, hC_InvalidRule, ha_InvalidRule, hn_, ht_, hm_InvalidRule⟩
    xn_InvalidRule := nb_InvalidRule
    xm_InvalidRule := PySem.W.exm_ref eC_InvalidRule hC_InvalidRule tC_InvalidRule sC_InvalidRule
    xi_InvalidRule := a_InvalidRule_init
    xt_InvalidRule := t_InvalidRule_init
    xm_InvalidRule_InvalidText := PySem.W.exm_ref eC_InvalidText hC_InvalidText tC_InvalidText sx_InvalidRule_InvalidText
    f_is_integer_from := f_is_integer_from
    d_is_integer_from := _
    F_is_integer_from := F_is_integer_from
    b_is_integer_from := b_is_integer_from
    g_is_integer_from := PySem.W.mg_of X G a_is_integer_from
    f_is_number_text := f_is_number_text
    d_is_number_text := _
    F_is_number_text := F_is_number_text
    b_is_number_text := b_is_number_text
    g_is_number_text := PySem.W.mg_of X G a_is_number_text
    f_InvalidRule_init := f_InvalidRule_init
    d_InvalidRule_init := _
    F_InvalidRule_init := F_InvalidRule_init
    b_InvalidRule_init := b_InvalidRule_init
    f_InvalidText_init := f_InvalidText_init
    d_InvalidText_init := _
    F_InvalidText_init := F_InvalidText_init
    b_InvalidText_init := b_InvalidText_init
    f_is_number_for := f_is_number_for
    d_is_number_for := _
    F_is_number_for := F_is_number_for
    b_is_number_for := b_is_number_for
    g_is_number_for := PySem.W.mg_of X G a_is_number_for
    f_is_right_at := f_is_right_at
    d_is_right_at := _
    F_is_right_at := F_is_right_at
    b_is_right_at := b_is_right_at
    g_is_right_at := PySem.W.mg_of X G a_is_right_at
    f_first_wrong := f_first_wrong
    d_first_wrong := _
    F_first_wrong := F_first_wrong
    b_first_wrong := b_first_wrong
    g_first_wrong := PySem.W.mg_of X G a_first_wrong
    f_Rule_init := f_Rule_init
    d_Rule_init := _
    F_Rule_init := F_Rule_init
    b_Rule_init := b_Rule_init
    bd_Rule_init := bd_Rule_init
    mk_Rule := ⟨mk_Rule, a_Rule_init, i_Rule_init, kc_Rule⟩
    f_Rule_read := f_Rule_read
    d_Rule_read := _
    F_Rule_read := F_Rule_read
    b_Rule_read := b_Rule_read
    p_Rule_read := p_Rule_read
    cr_Rule_read := ⟨rd_Rule_read, ga_Rule_read⟩
    cm_Rule_read := ⟨at_Rule_read, ⟨_, rc_Rule_read⟩, fi_Rule_read⟩
    f_Rule_eq := f_Rule_eq
    d_Rule_eq := _
    F_Rule_eq := F_Rule_eq
    b_Rule_eq := b_Rule_eq
    i_Rule_eq := a_Rule_eq
    j_Rule_eq := i_Rule_eq
    i_Rule_ne := ne_Rule
    f_Rule_str := f_Rule_str
    d_Rule_str := _
    F_Rule_str := F_Rule_str
    b_Rule_str := b_Rule_str
    i_Rule_str := a_Rule_str
    j_Rule_str := i_Rule_str
    f_l_box := f_l_box
    d_l_box := _
    F_l_box := F_l_box
    b_l_box := b_l_box
    g_l_box := PySem.W.mg_of X G a_l_box
    f_l_take := f_l_take
    d_l_take := _
    F_l_take := F_l_take
    b_l_take := b_l_take
    g_l_take := PySem.W.mg_of X G a_l_take
    f_l_pick := f_l_pick
    d_l_pick := _
    F_l_pick := F_l_pick
    b_l_pick := b_l_pick
    g_l_pick := PySem.W.mg_of X G a_l_pick
    f_l_value := f_l_value
    d_l_value := _
    F_l_value := F_l_value
    b_l_value := b_l_value
    g_l_value := PySem.W.mg_of X G a_l_value
    f_l_rule := f_l_rule
    d_l_rule := _
    F_l_rule := F_l_rule
    b_l_rule := b_l_rule
    g_l_rule := PySem.W.mg_of X G a_l_rule
    f_l_rule_text := f_l_rule_text
    d_l_rule_text := _
    F_l_rule_text := F_l_rule_text
    b_l_rule_text := b_l_rule_text
    g_l_rule_text := PySem.W.mg_of X G a_l_rule_text
    f_l_is_number := f_l_is_number
    d_l_is_number := _
    F_l_is_number := F_l_is_number
    b_l_is_number := b_l_is_number
    g_l_is_number := PySem.W.mg_of X G a_l_is_number
    f_l_due := f_l_due
    d_l_due := _
    F_l_due := F_l_due
    b_l_due := b_l_due
    g_l_due := PySem.W.mg_of X G a_l_due
    f_l_told := f_l_told
    d_l_told := _
    F_l_told := F_l_told
    b_l_told := b_l_told
    g_l_told := PySem.W.mg_of X G a_l_told
    f_law := fa
    d_law := _
    F_law := F_law
    b_law := b_law
    g_law := PySem.W.mg_of X G a_law
    a_WORDS := a_WORDS
    g_WORDS := PySem.W.mg_of X G gc_WORDS
    s_WORDS := fun _ => .inr ⟨_, _, _, lC_WORDS, rfl, rfl, Nat.le_of_ble_eq_true rfl, (.cons ⟨_, rfl⟩ (.cons ⟨_, rfl⟩ (.cons ⟨_, rfl⟩ (.cons ⟨_, rfl⟩ (.cons ⟨_, rfl⟩ .nil)))))⟩
    t_TEXT_LENGTH := tk_TEXT_LENGTH
    g_TEXT_LENGTH := PySem.W.mg_of X G gc_TEXT_LENGTH
    t_MOST_DIGITS := tk_MOST_DIGITS
    g_MOST_DIGITS := PySem.W.mg_of X G gc_MOST_DIGITS } : Tx w K mg)⟩
theorem walk {l : PySem.W.OpenLaw} {q : Program} {loose : List Str} {XP : (Str → Option Value) → Heap → Prop} {YP : World → Heap → Prop} {d : DefRec} {K : Params → PySem.W.Frag} (hn : l.most = some 63) (hdf : d.params.defaults = [])
    (hY : ∀ (w : World) (h : Heap), YP w h → (K w.params).In h)
    (F : ∀ (w : World) (mg : Str → Option Value) (fa : Addr) (h : Heap), (K w.params).In h → h.Ns mainGlobals mg → mg d.name = some (.ref fa) →
      ∃ fd : FuncData, (∀ (s : Shared) (u : Value), BindsTo s fd ⟨[u], []⟩ [("_law_script", u)]) ∧ ∀ base : Heap, (K w.params).In base → base.Ns mainGlobals mg → FnG l.prog w (K w.params) mg base CX0 8 fa fd ["_law_script"] (spLaw (K w.params))) :
    PySem.W.WalkO q loose XP YP l.row.toRowW d [] (fun f vs => PySem.call f vs) :=
  OW.walkS (n := 63) (k := 8) (x := "_law_script") (sp := fun w => spLaw (K w.params)) hn (by decide) hdf ⟨rfl, by decide, by decide⟩ hY F fun _ _ a ns hl hS => ⟨a, ns, rfl, hS, hl, fun _ => rfl⟩
end My
end
open PySem PySem.W PyProof.Rows in
set_option maxRecDepth 100000 in
set_option maxHeartbeats 0 in
theorem PySem.Challenge.cw_lapseseats_k04_texts_of_rules_holds : PySem.Challenge.rw_lapseseats_k04_texts_of_rules.Holds := by
  w_on; o_law; k_head; (case hw => w_witness2)
  k_fill
  refine My.walk (l := PySem.Challenge.rw_lapseseats_k04_texts_of_rules) rfl rfl (fun w h Y => PySem.W.kIn_of Y) ?F
  case F =>
    intro w mg fa h KX G hmg
    refine' My.all_mk KX G hmg ?aC_Rule ?pg_Rule ?hd_Rule ?po_Rule ?sa_Rule ?mk_Rule ?kc_Rule ?ha_Rule ?hm_Rule ?na_Rule_seats ?na_Rule_lapse ?na_Rule_beat ?na_Rule_grace ?na_Rule_late ?aC_InvalidRule ?aC_InvalidText ?xL_InvalidText ?sa_InvalidText ?ga_InvalidText ?gg_InvalidText ?kC_InvalidText ?eC_InvalidText ?tC_InvalidText ?hC_InvalidText ?ha_InvalidText ?hm_InvalidText ?nb_InvalidText ?sC_InvalidText ?xL_InvalidRule ?sa_InvalidRule ?ga_InvalidRule ?gg_InvalidRule ?kC_InvalidRule ?eC_InvalidRule ?tC_InvalidRule ?hC_InvalidRule ?ha_InvalidRule ?hm_InvalidRule ?nb_InvalidRule ?sC_InvalidRule ?sx_InvalidRule_InvalidText ?hn_ ?ht_ ?a_is_integer_from ?l_is_integer_from ?cI_is_integer_from ?k_is_integer_from ?a_is_number_text ?l_is_number_text ?cI_is_number_text ?k_is_number_text ?a_InvalidRule_init ?t_InvalidRule_init ?l_InvalidRule_init ?cI_InvalidRule_init ?k_InvalidRule_init ?a_InvalidText_init ?t_InvalidText_init ?l_InvalidText_init ?cI_InvalidText_init ?k_InvalidText_init ?a_is_number_for ?l_is_number_for ?cI_is_number_for ?k_is_number_for ?a_is_right_at ?l_is_right_at ?cI_is_right_at ?k_is_right_at ?a_first_wrong ?l_first_wrong ?cI_first_wrong ?k_first_wrong ?a_Rule_init ?i_Rule_init ?l_Rule_init ?cI_Rule_init ?k_Rule_init ?lT_Rule_init ?at_Rule_read ?rc_Rule_read ?fi_Rule_read ?rd_Rule_read ?ga_Rule_read ?l_Rule_read ?cI_Rule_read ?k_Rule_read ?a_Rule_eq ?i_Rule_eq ?ne_Rule ?l_Rule_eq ?cI_Rule_eq ?k_Rule_eq ?a_Rule_str ?i_Rule_str ?l_Rule_str ?cI_Rule_str ?k_Rule_str ?a_l_box ?l_l_box ?cI_l_box ?k_l_box ?a_l_take ?l_l_take ?cI_l_take ?k_l_take ?a_l_pick ?l_l_pick ?cI_l_pick ?k_l_pick ?a_l_value ?l_l_value ?cI_l_value ?k_l_value ?a_l_rule ?l_l_rule ?cI_l_rule ?k_l_rule ?a_l_rule_text ?l_l_rule_text ?cI_l_rule_text ?k_l_rule_text ?a_l_is_number ?l_l_is_number ?cI_l_is_number ?k_l_is_number ?a_l_due ?l_l_due ?cI_l_due ?k_l_due ?a_l_told ?l_l_told ?cI_l_told ?k_l_told ?a_law ?l_law ?cI_law ?k_law ?z_range ?z_max ?z_min ?z_len ?z_repr ?z_isinstance ?z_str ?z_list ?z_abs ?z_int ?z_enumerate ?z_zip ?z_bool ?gc_WORDS ?lC_WORDS ?gc_TEXT_LENGTH ?gc_MOST_DIGITS
    (case aC_Rule => first | k_is | rfl | decide +kernel)
    (case pg_Rule => first | k_is | rfl | decide +kernel)
    (case hd_Rule => first | k_is | rfl | decide +kernel)
    (case po_Rule => first | k_is | rfl | decide +kernel)
    (case sa_Rule => first | k_is | rfl | decide +kernel)
    (case mk_Rule => first | k_is | rfl | decide +kernel)
    (case kc_Rule => first | k_is | rfl | decide +kernel)
    (case ha_Rule => first | k_is | rfl | decide +kernel)
    (case hm_Rule => first | k_is | rfl | decide +kernel)
    (case na_Rule_seats => first | k_is | rfl | decide +kernel)
    (case na_Rule_lapse => first | k_is | rfl | decide +kernel)
    (case na_Rule_beat => first | k_is | rfl | decide +kernel)
    (case na_Rule_grace => first | k_is | rfl | decide +kernel)
    (case na_Rule_late => first | k_is | rfl | decide +kernel)
    (case aC_InvalidRule => first | k_is | rfl | decide +kernel)
    (case aC_InvalidText => first | k_is | rfl | decide +kernel)
    (case xL_InvalidText => first | k_is | rfl | decide +kernel)
    (case sa_InvalidText => first | k_is | rfl | decide +kernel)
    (case ga_InvalidText => first | k_is | rfl | decide +kernel)
    (case gg_InvalidText => first | k_is | rfl | decide +kernel)
    (case kC_InvalidText => first | k_is | rfl | decide +kernel)
    (case eC_InvalidText => first | k_is | rfl | decide +kernel)
    (case tC_InvalidText => first | k_is | rfl | decide +kernel)
    (case hC_InvalidText => first | k_is | rfl | decide +kernel)
    (case ha_InvalidText => first | k_is | rfl | decide +kernel)
    (case hm_InvalidText => first | k_is | rfl | decide +kernel)
    (case nb_InvalidText => first | k_is | rfl | decide +kernel)
    (case sC_InvalidText => first | k_is | rfl | decide +kernel)
    (case xL_InvalidRule => first | k_is | rfl | decide +kernel)
    (case sa_InvalidRule => first | k_is | rfl | decide +kernel)
    (case ga_InvalidRule => first | k_is | rfl | decide +kernel)
    (case gg_InvalidRule => first | k_is | rfl | decide +kernel)
    (case kC_InvalidRule => first | k_is | rfl | decide +kernel)
    (case eC_InvalidRule => first | k_is | rfl | decide +kernel)
    (case tC_InvalidRule => first | k_is | rfl | decide +kernel)
    (case hC_InvalidRule => first | k_is | rfl | decide +kernel)
    (case ha_InvalidRule => first | k_is | rfl | decide +kernel)
    (case hm_InvalidRule => first | k_is | rfl | decide +kernel)
    (case nb_InvalidRule => first | k_is | rfl | decide +kernel)
    (case sC_InvalidRule => first | k_is | rfl | decide +kernel)
    (case sx_InvalidRule_InvalidText => first | k_is | rfl | decide +kernel)
    (case hn_ => first | k_is | rfl | decide +kernel)
    (case ht_ => first | k_is | rfl | decide +kernel)
    (case a_is_integer_from => first | k_is | rfl | decide +kernel)
    (case l_is_integer_from => first | k_is | rfl | decide +kernel)
    (case cI_is_integer_from => first | k_is | rfl | decide +kernel)
    (case k_is_integer_from => first | k_is | rfl | decide +kernel)
    (case a_is_number_text => first | k_is | rfl | decide +kernel)
    (case l_is_number_text => first | k_is | rfl | decide +kernel)
    (case cI_is_number_text => first | k_is | rfl | decide +kernel)
    (case k_is_number_text => first | k_is | rfl | decide +kernel)
    (case a_InvalidRule_init => first | k_is | rfl | decide +kernel)
    (case t_InvalidRule_init => first | k_is | rfl | decide +kernel)
    (case l_InvalidRule_init => first | k_is | rfl | decide +kernel)
    (case cI_InvalidRule_init => first | k_is | rfl | decide +kernel)
    (case k_InvalidRule_init => first | k_is | rfl | decide +kernel)
    (case a_InvalidText_init => first | k_is | rfl | decide +kernel)
    (case t_InvalidText_init => first | k_is | rfl | decide +kernel)
    (case l_InvalidText_init => first | k_is | rfl | decide +kernel)
    (case cI_InvalidText_init => first | k_is | rfl | decide +kernel)
    (case k_InvalidText_init => first | k_is | rfl | decide +kernel)
    (case a_is_number_for => first | k_is | rfl | decide +kernel)
    (case l_is_number_for => first | k_is | rfl | decide +kernel)
    (case cI_is_number_for => first | k_is | rfl | decide +kernel)
    (case k_is_number_for => first | k_is | rfl | decide +kernel)
    (case a_is_right_at => first | k_is | rfl | decide +kernel)
    (case l_is_right_at => first | k_is | rfl | decide +kernel)
    (case cI_is_right_at => first | k_is | rfl | decide +kernel)
    (case k_is_right_at => first | k_is | rfl | decide +kernel)
    (case a_first_wrong => first | k_is | rfl | decide +kernel)
    (case l_first_wrong => first | k_is | rfl | decide +kernel)
    (case cI_first_wrong => first | k_is | rfl | decide +kernel)
    (case k_first_wrong => first | k_is | rfl | decide +kernel)
    (case a_Rule_init => first | k_is | rfl | decide +kernel)
    (case i_Rule_init => first | k_is | rfl | decide +kernel)
    (case l_Rule_init => first | k_is | rfl | decide +kernel)
    (case cI_Rule_init => first | k_is | rfl | decide +kernel)
    (case k_Rule_init => first | k_is | rfl | decide +kernel)
    (case lT_Rule_init => first | k_is | rfl | decide +kernel)
    (case at_Rule_read => first | k_is | rfl | decide +kernel)
    (case rc_Rule_read => first | k_is | rfl | decide +kernel)
    (case fi_Rule_read => first | k_is | rfl | decide +kernel)
    (case rd_Rule_read => first | k_is | rfl | decide +kernel)
    (case ga_Rule_read => first | k_is | rfl | decide +kernel)
    (case l_Rule_read => first | k_is | rfl | decide +kernel)
    (case cI_Rule_read => first | k_is | rfl | decide +kernel)
    (case k_Rule_read => first | k_is | rfl | decide +kernel)
    (case a_Rule_eq => first | k_is | rfl | decide +kernel)
    (case i_Rule_eq => first | k_is | rfl | decide +kernel)
    (case ne_Rule => first | k_is | rfl | decide +kernel)
    (case l_Rule_eq => first | k_is | rfl | decide +kernel)
    (case cI_Rule_eq => first | k_is | rfl | decide +kernel)
    (case k_Rule_eq => first | k_is | rfl | decide +kernel)
    (case a_Rule_str => first | k_is | rfl | decide +kernel)
    (case i_Rule_str => first | k_is | rfl | decide +kernel)
    (case l_Rule_str => first | k_is | rfl | decide +kernel)
    (case cI_Rule_str => first | k_is | rfl | decide +kernel)
    (case k_Rule_str => first | k_is | rfl | decide +kernel)
    (case a_l_box => first | k_is | rfl | decide +kernel)
    (case l_l_box => first | k_is | rfl | decide +kernel)
    (case cI_l_box => first | k_is | rfl | decide +kernel)
    (case k_l_box => first | k_is | rfl | decide +kernel)
    (case a_l_take => first | k_is | rfl | decide +kernel)
    (case l_l_take => first | k_is | rfl | decide +kernel)
    (case cI_l_take => first | k_is | rfl | decide +kernel)
    (case k_l_take => first | k_is | rfl | decide +kernel)
    (case a_l_pick => first | k_is | rfl | decide +kernel)
    (case l_l_pick => first | k_is | rfl | decide +kernel)
    (case cI_l_pick => first | k_is | rfl | decide +kernel)
    (case k_l_pick => first | k_is | rfl | decide +kernel)
    (case a_l_value => first | k_is | rfl | decide +kernel)
    (case l_l_value => first | k_is | rfl | decide +kernel)
    (case cI_l_value => first | k_is | rfl | decide +kernel)
    (case k_l_value => first | k_is | rfl | decide +kernel)
    (case a_l_rule => first | k_is | rfl | decide +kernel)
    (case l_l_rule => first | k_is | rfl | decide +kernel)
    (case cI_l_rule => first | k_is | rfl | decide +kernel)
    (case k_l_rule => first | k_is | rfl | decide +kernel)
    (case a_l_rule_text => first | k_is | rfl | decide +kernel)
    (case l_l_rule_text => first | k_is | rfl | decide +kernel)
    (case cI_l_rule_text => first | k_is | rfl | decide +kernel)
    (case k_l_rule_text => first | k_is | rfl | decide +kernel)
    (case a_l_is_number => first | k_is | rfl | decide +kernel)
    (case l_l_is_number => first | k_is | rfl | decide +kernel)
    (case cI_l_is_number => first | k_is | rfl | decide +kernel)
    (case k_l_is_number => first | k_is | rfl | decide +kernel)
    (case a_l_due => first | k_is | rfl | decide +kernel)
    (case l_l_due => first | k_is | rfl | decide +kernel)
    (case cI_l_due => first | k_is | rfl | decide +kernel)
    (case k_l_due => first | k_is | rfl | decide +kernel)
    (case a_l_told => first | k_is | rfl | decide +kernel)
    (case l_l_told => first | k_is | rfl | decide +kernel)
    (case cI_l_told => first | k_is | rfl | decide +kernel)
    (case k_l_told => first | k_is | rfl | decide +kernel)
    (case a_law => first | k_is | rfl | decide +kernel)
    (case l_law => first | k_is | rfl | decide +kernel)
    (case cI_law => first | k_is | rfl | decide +kernel)
    (case k_law => first | k_is | rfl | decide +kernel)
    (case z_range => first | k_is | rfl | decide +kernel)
    (case z_max => first | k_is | rfl | decide +kernel)
    (case z_min => first | k_is | rfl | decide +kernel)
    (case z_len => first | k_is | rfl | decide +kernel)
    (case z_repr => first | k_is | rfl | decide +kernel)
    (case z_isinstance => first | k_is | rfl | decide +kernel)
    (case z_str => first | k_is | rfl | decide +kernel)
    (case z_list => first | k_is | rfl | decide +kernel)
    (case z_abs => first | k_is | rfl | decide +kernel)
    (case z_int => first | k_is | rfl | decide +kernel)
    (case z_enumerate => first | k_is | rfl | decide +kernel)
    (case z_zip => first | k_is | rfl | decide +kernel)
    (case z_bool => first | k_is | rfl | decide +kernel)
    (case gc_WORDS => first | k_is | rfl | decide +kernel)
    (case lC_WORDS => first | k_is | rfl | decide +kernel)
    (case gc_TEXT_LENGTH => first | k_is | rfl | decide +kernel)
    (case gc_MOST_DIGITS => first | k_is | rfl | decide +kernel)
