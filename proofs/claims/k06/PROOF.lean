import PyProof.Rows.All
import Wide.All
import OpenK.AllK
import Wide.FinOn
import HandS.ForMost
import HandS.ForExc
import HandS.Zip
import HandS.Wide
import HandS.IsInst
import HandS.Defaults
import HandS.ExcInit
import HandS.ExcField
import HandS.TryMany
import HandS.RaiseMore
import HandS.FStr
import HandS.OwnEq
import HandS.Star
import HandS.ClsMeth
import HandS.TupAny
import HandS.Flow
import HandS.MakeKw
import PyProof.ReprRoads
import PyProof.CallFns
import HandS.Style
import HandS.CallLocal
import HandS.Sort
import HandS.More
import HandS.Flt
import HandS.Dict
import HandS.Iter
import HandS.Text
import KE.KDictList
import HandS.Conv
import HandS.Walk
import HandS.Deep
import HandS.NoneIn
import HandS.WordsExc
import HandS.ExcOwn
import HandS.CallSlots
import HandS.ExcIs
import KE.KExcIs
import KE.GoesEnum
import HandS.TupSets
import HandS.SetFor
import HandS.Small
import HandS.DictComp
import HandS.StrMore
import HandS.WideBits
import HandS.MakeKwOnly
import HandS.TupMul
import KE.KOpsOwn
import PySem.Challenge.RW_lapseseats_k06_days_made
set_option Elab.async false
set_option linter.all false
set_option maxRecDepth 100000
set_option maxHeartbeats 2000000
namespace CL
open PySem PySem.Spec PyProof.Rows L2
structure Chk (P k : Prop) : Prop where
  p : P
  k : k
structure New (H : Hp) (o : HO) (k : Addr → Hp → Prop) : Prop where
  k : ∀ p, H p = none → k p (upd H p o)
structure Br (c : Bool) (A B : Prop) : Prop where
  t : c = true → A
  f : c = false → B
theorem Br.ite {c : Bool} {A B : Prop} (h : Br c A B) : if c = true then A else B := by
  cases c with
  | true => rw [if_pos rfl]; exact h.t rfl
  | false => rw [if_neg Bool.false_ne_true]; exact h.f rfl
theorem br_t {c : Bool} {A B : Prop} (h : c = true) (a : A) : Br c A B := Br.mk (fun _ => a) (fun z => by rw [h] at z; cases z)
theorem br_f {c : Bool} {A B : Prop} (h : c = false) (b : B) : Br c A B := Br.mk (fun z => by rw [h] at z; cases z) (fun _ => b)
/-- a list or a tuple is read -/
structure Sq (K : PySem.W.Frag) (H : Hp) (p : Addr) (k : List V → Prop) : Prop where
  ex : ∃ xs, (SqL K H p xs ∨ SqT K H p xs) ∧ k xs
theorem Sq.l {K : PySem.W.Frag} {H : Hp} {p : Addr} {k : List V → Prop} {xs : List V} (h : SqL K H p xs) (q : k xs) : Sq K H p k := ⟨xs, .inl h, q⟩
theorem Sq.t {K : PySem.W.Frag} {H : Hp} {p : Addr} {k : List V → Prop} {xs : List V} (h : SqT K H p xs) (q : k xs) : Sq K H p k := ⟨xs, .inr h, q⟩
/-- a mutable list -/
structure Ls (H : Hp) (p : Addr) (k : List V → Prop) : Prop where
  ex : ∃ xs, H p = some (.lst xs) ∧ k xs
theorem Ls.mk' {H : Hp} {p : Addr} {k : List V → Prop} {xs : List V} (h : H p = some (.lst xs)) (q : k xs) : Ls H p k := ⟨xs, h, q⟩
/-- a field of an instance -/
structure Fld (K : PySem.W.Frag) (H : Hp) (p : Addr) (f : Str) (k : V → Prop) : Prop where
  ex : ∃ C dx fs v, H p = some (.ins C dx fs) ∧ Cls K C ∧ NoAttr K C f ∧ fs.lookup f = some v ∧ k v
structure SetF (K : PySem.W.Frag) (H : Hp) (p : Addr) (f : Str) (y : V) (k : Hp → Prop) : Prop where
  ex : ∃ C dx fs, H p = some (.ins C dx fs) ∧ Cls K C ∧ NoAttr K C f ∧ fs.length < 1000 ∧ k (upd H p (.ins C dx (putF f y fs)))
/-- a call of a def: its promise -/
structure Ask (P : Prop) : Prop where
  a : P
/-- isinstance of anything -/
structure IsI (K : PySem.W.Frag) (H : Hp) (x : V) (u : Value) (k : Bool → Prop) : Prop where
  ex : ∃ t b, TyX K H x t ∧ PySem.W.kitOne K t u = some b ∧ k b
section
variable {X : Cx}
theorem weak {e : Expr} {t t' : TE} (h : PE X e t) (w : ∀ σ H Q, t' σ H Q → t σ H Q) : PE X e t' := ⟨fun pins s σ H Q I q => h.run pins s σ H Q I (w _ _ _ q)⟩
theorem weakS {e : Stmt} {t t' : TS} (h : PS X e t) (w : ∀ D σ H, t' D σ H → t D σ H) : PS X e t' := ⟨fun pins s σ H D I q => h.run pins s σ H D I (w _ _ _ q)⟩
end
def cVar (i : Nat) : TE := fun σ H Q => match σ[i]? with
  | some (some v) => Q v H
  | _ => False
theorem c_var {X : Cx} (i : Nat) {x : Str} {pos : Pos} (hN : X.N[i]? = some x := by rfl) (hv : Vis X.env.scope x := by first | exact Or.inl rfl | exact Or.inr (Or.inl rfl) | exact Or.inr (Or.inr rfl)) (hd : (x == ("__debug__" : Str)) = false := by decide)
    (hcd : (x == ("__classdict__" : Str)) = false := by decide) : PE X (.Name x pos) (cVar i) := weak (pe_var hN hv hd hcd) fun σ H Q h => by
  unfold cVar at h
  split at h
  · rename_i v e; exact ⟨v, e, h⟩
  · exact h.elim
def rMulC : R2 := fun x y H Q => match x, y with
  | .int i, .int j => Chk (CMul i j ∨ CMulW i j) (Q (.int (i * j)) H)
  | .ref p, .int k => Ls H p fun xs => Chk (-(2 ^ 63) ≤ k ∧ k < 2 ^ 63 ∧ xs.length * k.toNat ≤ sizeLine) (rRep (.ref p) (.int k) H Q)
  | _, _ => False
theorem c_mul {X : Cx} : OpR X (binaryOp .Mult) rMulC := by
  intro pins s σ H x y v u Q I rx ry h
  unfold rMulC at h
  split at h
  · rcases h.p with z | z
    · exact op_mul pins s σ H _ _ v u Q I rx ry ⟨_, _, rfl, rfl, z, h.k⟩
    · exact op_mulW pins s σ H _ _ v u Q I rx ry ⟨_, _, rfl, rfl, z, h.k⟩
  · obtain ⟨⟨xs, h1, h2⟩⟩ := h
    exact op_rep pins s σ H _ _ v u Q I rx ry h2.k
  · exact h.elim
def rDivC : R2 := fun x y H Q => match x, y with
  | .int i, .int j => Chk (CDiv i j ∨ CDivW i j) (Q (.int (i / j)) H)
  | _, _ => False
theorem c_div {X : Cx} : OpR X (binaryOp .FloorDiv) rDivC := by
  intro pins s σ H x y v u Q I rx ry h
  unfold rDivC at h
  split at h
  · rcases h.p with z | z
    · exact op_fdiv pins s σ H _ _ v u Q I rx ry ⟨_, _, rfl, rfl, z, h.k⟩
    · exact op_fdivW pins s σ H _ _ v u Q I rx ry ⟨_, _, rfl, rfl, z, h.k⟩
  · exact h.elim
def rModC : R2 := fun x y H Q => match x, y with
  | .int i, .int j => Chk (0 < j) (Q (.int (i % j)) H)
  | _, _ => False
theorem c_mod {X : Cx} : OpR X (binaryOp .Mod) rModC := by
  intro pins s σ H x y v u Q I rx ry h
  unfold rModC at h
  split at h
  · exact op_mod pins s σ H _ _ v u Q I rx ry ⟨_, _, rfl, rfl, h.p, h.k⟩
  · exact h.elim
def rPowC : R2 := fun x y H Q => match x, y with
  | .int i, .int j => Chk (CPow i j) (Q (.int (i ^ j.toNat)) H)
  | _, _ => False
theorem c_pow {X : Cx} : OpR X (binaryOp .Pow) rPowC := by
  intro pins s σ H x y v u Q I rx ry h
  unfold rPowC at h
  split at h
  · exact op_pow pins s σ H _ _ v u Q I rx ry ⟨_, _, rfl, rfl, h.p, h.k⟩
  · exact h.elim
def rCmpC (p : Int → Int → Bool) : R2 := fun x y H Q => match x, y with
  | .int i, .int j => Q (.bl (p i j)) H
  | _, _ => False
theorem c_cmp {X : Cx} {f : Value → Value → Sem Value} {p : Int → Int → Bool} (h0 : OpR X f (rI0 fun i j => .bl (p i j))) : OpR X f (rCmpC p) := by
  intro pins s σ H x y v u Q I rx ry h
  unfold rCmpC at h
  split at h
  · exact h0 pins s σ H _ _ v u Q I rx ry ⟨_, _, rfl, rfl, h⟩
  · exact h.elim
abbrev rLtC : R2 := rCmpC fun i j => decide (i < j)
abbrev rLeC : R2 := rCmpC fun i j => decide (i ≤ j)
abbrev rGtC : R2 := rCmpC fun i j => decide (j < i)
abbrev rGeC : R2 := rCmpC fun i j => decide (j ≤ i)
theorem c_lt {X : Cx} : OpR X (compareOp .Lt) rLtC := c_cmp op_lt
theorem c_le {X : Cx} : OpR X (compareOp .LtE) rLeC := c_cmp op_le
theorem c_gt {X : Cx} : OpR X (compareOp .Gt) rGtC := c_cmp op_gt
theorem c_ge {X : Cx} : OpR X (compareOp .GtE) rGeC := c_cmp op_ge
/-- two things at heap places compared: as data (an own == is another rule) -/
structure EqD (K : PySem.W.Frag) (H : Hp) (x y : V) (k : Bool → Prop) : Prop where
  ex : ∃ d e, Dp K H x d ∧ Dp K H y e ∧ SeqAt.shaped d = true ∧ SeqAt.shaped e = true ∧ k (PyData.eqv d e)
def rEqC (K : PySem.W.Frag) (neg : Bool) : R2 := fun x y H Q => match scal x y with
  | true => Q (.bl (if neg then !decide (x = y) else decide (x = y))) H
  | false => EqD K H x y fun b => Q (.bl (if neg then !b else b)) H
theorem c_eq {X : Cx} (hu : X.A.units + 64 < cLine) : OpR X (compareOp .Eq) (rEqC X.K false) := by
  intro pins s σ H x y v u Q I rx ry h
  unfold rEqC at h
  split at h
  · rename_i e
    exact op_eq pins s σ H _ _ v u Q I rx ry ⟨e, h⟩
  · obtain ⟨⟨d, e, h1, h2, h3, h4, q⟩⟩ := h
    exact op_eqD hu pins s σ H _ _ v u Q I rx ry ⟨d, e, h1, h2, h3, h4, q⟩
theorem c_ne {X : Cx} (hu : X.A.units + 64 < cLine) : OpR X (compareOp .NotEq) (rEqC X.K true) := by
  intro pins s σ H x y v u Q I rx ry h
  unfold rEqC at h
  split at h
  · rename_i e
    exact op_ne pins s σ H _ _ v u Q I rx ry ⟨e, h⟩
  · obtain ⟨⟨d, e, h1, h2, h3, h4, q⟩⟩ := h
    exact op_neD hu pins s σ H _ _ v u Q I rx ry ⟨d, e, h1, h2, h3, h4, q⟩
/-- in a list or tuple of flat things; a text in a text -/
def rInC (K : PySem.W.Frag) (neg : Bool) : R2 := fun x y H Q => match y with
  | .ref p => Sq K H p fun xs => Chk (flatV x = true ∧ xs.all flatV = true) (Q (.bl (if neg then !inV x xs else inV x xs)) H)
  | _ => False
theorem c_in {X : Cx} : OpR X (compareOp .In) (rInC X.K false) := by
  intro pins s σ H x y v u Q I rx ry h
  unfold rInC at h
  split at h
  · obtain ⟨⟨xs, h1, h2⟩⟩ := h
    exact op_in_seq pins s σ H _ _ v u Q I rx ry ⟨_, _, rfl, h1, h2.p.1, h2.p.2, h2.k⟩
  · exact h.elim
/-- an item at a place that holds it -/
structure At {α : Type} (xs : List α) (i : Int) (k : α → Prop) : Prop where
  ex : ∃ v, atI xs i = some v ∧ k v
def rIxC (K : PySem.W.Frag) : R2 := fun x y H Q => match x, y with
  | .ref p, .int i => Sq K H p fun xs => At xs i fun v => Q v H
  | .str z, .int i => Chk (z.length ≤ sizeLine) (At z.cps.toList i fun c => Q (.str ⟨#[c]⟩) H)
  | _, _ => False
theorem c_ix {X : Cx} : IxR X (rIxC X.K) := by
  intro value slice pins s σ H x y v u Q I rx ry h hs
  unfold rIxC at h
  split at h
  · obtain ⟨⟨xs, h1 | h1, ⟨v, h2, h3⟩⟩⟩ := h
    · exact ix_list value slice pins s σ H _ _ _ _ Q I rx ry ⟨_, _, _, _, rfl, rfl, h1, h2, h3⟩ hs
    · exact ix_tup value slice pins s σ H _ _ _ _ Q I rx ry ⟨_, _, _, _, rfl, rfl, h1, h2, h3⟩ hs
  · obtain ⟨h0, ⟨v, h2, h3⟩⟩ := h
    exact ix_str value slice pins s σ H _ _ _ _ Q I rx ry ⟨_, _, _, rfl, rfl, h0, h2, h3⟩ hs
  · exact h.elim
end CL
set_option Elab.async false
set_option linter.all false
set_option maxRecDepth 100000
set_option maxHeartbeats 2000000
namespace CL
open PySem PySem.Spec PyProof.Rows L2
/-- truth of a value -/
def Tru (K : PySem.W.Frag) (x : V) (H : Hp) (k : Bool → Prop) : Prop := match x with
  | .bl b => k b
  | .int i => k (i != 0)
  | .non => k false
  | .str y => Chk (y.length ≤ sizeLine) (k ((y.length : Int) != 0))
  | .ref p => Sq K H p fun xs => k (!xs.isEmpty)
  | _ => False
theorem Tru.ok {K : PySem.W.Frag} {x : V} {H : Hp} {k : Bool → Prop} (h : Tru K x H k) : ∃ b, TruV K x H b ∧ k b := by
  unfold Tru at h
  split at h
  · exact ⟨_, rfl, h⟩
  · exact ⟨_, rfl, h⟩
  · exact ⟨_, rfl, h⟩
  · exact ⟨_, ⟨h.p, rfl⟩, h.k⟩
  · obtain ⟨⟨xs, h1 | h1, h2⟩⟩ := h
    · exact ⟨_, .inl ⟨xs, h1, rfl⟩, h2⟩
    · exact ⟨_, .inr (.inl ⟨xs, h1, rfl⟩), h2⟩
  · exact h.elim
def cTest (te : TE) : TT := fun σ H Q => te σ H fun x H1 => match x with
  | .bl b => Q b H1
  | _ => False
def cTruth (K : PySem.W.Frag) (te : TE) : TT := fun σ H Q => te σ H fun x H1 => Tru K x H1 fun b => Q b H1
section
variable {X : Cx} {a b c : Expr} {ta tb tc : TE} {pos : Pos}
/-- a comparison as a test -/
theorem t_cmp {op : CmpOp} {r : R2} (ho : OpR X (compareOp op) r) (ha : PE X a ta) (hb : PE X b tb) (hm : behindInMarks op b = false) : PT X (.Compare a [op] [b] pos) (cTest (tOp r ta tb)) := by
  refine ⟨fun pins s σ H Q I h => ?_⟩
  refine wpAny_isTrue_Compare1 (thn (ha.run pins s σ H _ I h) fun v s1 ⟨x, H1, I1, r1, q1⟩ => thn (hb.run pins s1 σ H1 _ I1 q1) fun u s2 ⟨y, H2, I2, r2, q2⟩ =>
    thn (ho pins s2 σ H2 x y v u _ I2 r1 r2 q2) fun d s3 ⟨z, H3, I3, r3, q3⟩ => ?_) hm
  cases z with
  | bl k => cases r3; exact wpAny_truthy_bool ⟨H3, I3, q3⟩
  | _ => exact (show False from q3).elim
theorem t_truth (ha : PE X a ta) (he : ∀ whole, isTrue a X.env whole = (do let v ← whole; standAt a.pos; holding [v] (truthy v))) : PT X a (cTruth X.K ta) := by
  refine ⟨fun pins s σ H Q I h => ?_⟩
  exact isTrue_plain (thn (ha.run pins s σ H _ I h) fun v s1 ⟨x, H1, I1, r1, q1⟩ => by
    obtain ⟨k, e, q⟩ := Tru.ok q1
    exact tru_ok pins s1 σ H1 x v Q I1 r1 ⟨k, e, q⟩) (he _)
def cOr (t u : TT) : TT := fun σ H Q => t σ H fun c H1 => Br c (Q true H1) (u σ H1 Q)
def cNot (t : TT) : TT := fun σ H Q => t σ H fun c H1 => Q (!c) H1
variable {tA tB' : TT} {rest : List Expr}
theorem w_or1 (ha : PT X a tA) : PW X (.BoolOp .Or [a] pos) tA := pw_or1 ha
theorem br_eq {c : Bool} {A B : Prop} : Br c A B = (if c = true then A else B) := by
  apply propext
  constructor
  · exact Br.ite
  · intro q
    refine Br.mk (fun z => ?_) (fun z => ?_)
    · rw [if_pos z] at q; exact q
    · rw [z, if_neg Bool.false_ne_true] at q; exact q
theorem w_or (ha : PT X a tA) (hb : PW X (.BoolOp .Or (b :: rest) pos) tB') : PW X (.BoolOp .Or (a :: b :: rest) pos) (cOr tA tB') := by
  have e : cOr tA tB' = tOr tA tB' := by
    funext σ H Q
    unfold cOr tOr
    simp only [br_eq]
  rw [e]
  exact pw_or ha hb
theorem t_not (ha : PT X a tA) : PT X (.UnaryOp .Not a pos) (cNot tA) := pt_not ha
/-- a op1 b op2 c -/
def cChain (r r' : R2) (ta tb tc : TE) : TE := fun σ H Q => ta σ H fun x H1 => tb σ H1 fun y H2 => r x y H2 fun z H3 => match z with
  | .bl k => Br k (tc σ H3 fun w' H4 => r' y w' H4 Q) (Q (.bl false) H3)
  | _ => False
/-- values by and, or: Booleans -/
def cAndV (ta tb : TE) : TE := fun σ H Q => ta σ H fun x H1 => match x with
  | .bl c => Br c (tb σ H1 Q) (Q (.bl false) H1)
  | _ => False
def cNotV (ta : TE) : TE := fun σ H Q => ta σ H fun x H1 => match x with
  | .bl c => Q (.bl (!c)) H1
  | _ => False
/-- what follows a Boolean -/
def onB (k : Bool → Hp → Prop) : VK := fun x H => match x with
  | .bl c => k c H
  | _ => False
theorem onB_eq (k : Bool → Hp → Prop) : onB k = fun x H => ∃ c, x = .bl c ∧ k c H := by
  funext x H
  apply propext
  unfold onB
  constructor
  · intro h
    split at h
    · exact ⟨_, rfl, h⟩
    · exact h.elim
  · rintro ⟨c, rfl, h⟩
    exact h
theorem e_and (ha : PE X a ta) (hb : PE X (.BoolOp .And (b :: rest) pos) tb) : PE X (.BoolOp .And (a :: b :: rest) pos) (cAndV ta tb) := by
  have e : cAndV ta tb = tAndV ta tb := by
    funext σ H Q
    show ta σ H (onB fun c H1 => Br c (tb σ H1 Q) (Q (.bl false) H1)) = _
    rw [onB_eq]
    simp only [br_eq]
    rfl
  rw [e]
  exact pe_and ha hb
theorem e_not (ha : PE X a ta) : PE X (.UnaryOp .Not a pos) (cNotV ta) := by
  have e : cNotV ta = tNotV ta := by
    funext σ H Q
    show ta σ H (onB fun c H1 => Q (.bl (!c)) H1) = _
    rw [onB_eq]
    rfl
  rw [e]
  exact pe_not ha
theorem t_chain {op op' : CmpOp} {r r' : R2} (ho : OpR X (compareOp op) r) (ho' : OpR X (compareOp op') r') (ha : PE X a ta) (hb : PE X b tb) (hc : PE X c tc)
    (hm : lastMarks [op, op'] [b, c] = false := by with_unfolding_all rfl) : PT X (.Compare a [op, op'] [b, c] pos) (cTest (cChain r r' ta tb tc)) := by
  have e : cTest (cChain r r' ta tb tc) = tTest (tChain r r' ta tb tc) := by
    funext σ H Q
    show (ta σ H fun x H1 => tb σ H1 fun y H2 => r x y H2 (onB fun k H3 => Br k (tc σ H3 fun w' H4 => r' y w' H4 (onB fun b H => Q b H)) (Q false H3))) = _
    simp only [onB_eq, br_eq]
    show _ = (ta σ H fun x H1 => tb σ H1 fun y H2 => r x y H2 fun z H3 => ∃ k, z = .bl k ∧ (if k = true then tc σ H3 fun w' H4 => r' y w' H4 fun x H' => ∃ k, x = .bl k ∧ Q k H' else ∃ k, V.bl false = .bl k ∧ Q k H3))
    have e2 : ∀ H3, (∃ k, V.bl false = .bl k ∧ Q k H3) = Q false H3 := fun H3 => by
      apply propext
      constructor
      · rintro ⟨k, z, q⟩
        cases z
        exact q
      · exact fun q => ⟨false, rfl, q⟩
    simp only [e2]
  rw [e]
  exact pt_chain ho ho' ha hb hc hm
def cIf (t : TT) (ta tb : TE) : TE := fun σ H Q => t σ H fun c H1 => Br c (ta σ H1 Q) (tb σ H1 Q)
theorem e_if {c : Expr} (hc : PT X c tA) (ha : PE X a ta) (hb : PE X b tb) : PE X (.IfExp c a b pos) (cIf tA ta tb) := by
  have e : cIf tA ta tb = tIf tA ta tb := by
    funext σ H Q
    unfold cIf tIf
    simp only [br_eq]
  rw [e]
  exact pe_ifExp hc ha hb
def cIfS (c : TT) (t u : TS) : TS := fun D σ H => c σ H fun b H1 => Br b (t D σ H1) (u D σ H1)
theorem s_if {c : Expr} {sa sb : List Stmt} {t u : TS} (hc : PT X c tA) (ha : PSs X sa t) (hb : PSs X sb u) : PS X (.If c sa sb pos) (cIfS tA t u) := by
  have e : cIfS tA t u = tIfS tA t u := by
    funext D σ H
    unfold cIfS tIfS
    simp only [br_eq]
  rw [e]
  exact ps_if hc ha hb
end
def cTup (t : TA) : TE := fun σ H Q => t σ H fun xs H1 => Chk (xs.length ≤ sizeLine) (New H1 (.tup xs) fun p H' => Q (.ref p) H')
def cLst (t : TA) : TE := fun σ H Q => t σ H fun xs H1 => Chk (xs.length ≤ sizeLine) (New H1 (.lst xs) fun p H' => Q (.ref p) H')
theorem new_eq {H : Hp} {o : HO} {k : Addr → Hp → Prop} : New H o k = ∀ p, H p = none → k p (upd H p o) := propext ⟨fun h => h.k, fun h => ⟨h⟩⟩
theorem chk_eq {P k : Prop} : Chk P k = (P ∧ k) := propext ⟨fun h => ⟨h.p, h.k⟩, fun h => ⟨h.1, h.2⟩⟩
section
variable {X : Cx} {es : List Expr} {t : TA} {pos : Pos}
theorem e_tup {x1} (h : PA X es t) : PE X (.Tuple es x1 pos) (cTup t) := by
  have e : cTup t = tTup t := by
    funext σ H Q
    unfold cTup tTup
    simp only [chk_eq, new_eq]
  rw [e]
  exact pe_tup h
theorem e_lst (h : PA X es t) : PE X (.List es pos) (cLst t) := by
  have e : cLst t = tLst t := by
    funext σ H Q
    unfold cLst tLst
    simp only [chk_eq, new_eq]
  rw [e]
  exact pe_lst h
end
def cFld (K : PySem.W.Frag) (ta : TE) (f : Str) : TE := fun σ H Q => ta σ H fun x H1 => match x with
  | .ref a => Fld K H1 a f fun v => Q v H1
  | _ => False
def cSetF (K : PySem.W.Frag) (ta tv : TE) (f : Str) : TS := fun D σ H => tv σ H fun y H1 => ta σ H1 fun x H2 => match x with
  | .ref a => SetF K H2 a f y fun H' => D.nx σ H'
  | _ => False
def onR (k : Addr → Hp → Prop) : VK := fun x H => match x with
  | .ref c => k c H
  | _ => False
theorem onR_eq (k : Addr → Hp → Prop) : onR k = fun x H => ∃ c, x = .ref c ∧ k c H := by
  funext x H
  apply propext
  unfold onR
  constructor
  · intro h
    split at h
    · exact ⟨_, rfl, h⟩
    · exact h.elim
  · rintro ⟨c, rfl, h⟩
    exact h
section
variable {X : Cx} {o e value : Expr} {f : Str} {pos pos' : Pos} {ta tv : TE}
theorem e_fld (he : PE X e ta) (hb : attributeBase e f X.env (eval e X.env) = eval e X.env := by rfl) : PE X (.Attribute e f pos) (cFld X.K ta f) := by
  have e2 : cFld X.K ta f = tFld X.K ta f := by
    funext σ H Q
    show ta σ H (onR fun a H1 => Fld X.K H1 a f fun v => Q v H1) = _
    rw [onR_eq]
    have e3 : ∀ (x : V) (H1 : Hp), (∃ a, x = V.ref a ∧ Fld X.K H1 a f fun v => Q v H1) = ∃ a C dx fs v, x = .ref a ∧ H1 a = some (.ins C dx fs) ∧ Cls X.K C ∧ NoAttr X.K C f ∧ fs.lookup f = some v ∧ Q v H1 := fun x H1 => by
      apply propext
      constructor
      · rintro ⟨a, h, ⟨C, dx, fs, v, h1, h2, h3, h4, h5⟩⟩
        exact ⟨a, C, dx, fs, v, h, h1, h2, h3, h4, h5⟩
      · rintro ⟨a, C, dx, fs, v, h, h1, h2, h3, h4, h5⟩
        exact ⟨a, h, ⟨C, dx, fs, v, h1, h2, h3, h4, h5⟩⟩
    simp only [e3]
    rfl
  rw [e2]
  exact pe_fld he hb
theorem s_fld (ha : PE X o ta) (hv : PE X value tv) (hs : swapsWith value (some (.Attribute o f pos')) pos.line X.env = pure false := by rfl) : PS X (.Assign [.Attribute o f pos'] value pos) (cSetF X.K ta tv f) := by
  refine weakS (ps_fld ha hv hs) fun D σ H h => ?_
  have h' : tv σ H fun y H1 => ta σ H1 (onR fun a H2 => SetF X.K H2 a f y fun H' => D.nx σ H') := h
  simp only [onR_eq] at h'
  have e3 : ∀ (x y : V) (H2 : Hp), (∃ a, x = V.ref a ∧ SetF X.K H2 a f y fun H' => D.nx σ H') = ∃ a C dx fs, x = .ref a ∧ H2 a = some (.ins C dx fs) ∧ Cls X.K C ∧ NoAttr X.K C f ∧ fs.length < 1000 ∧ D.nx σ (upd H2 a (.ins C dx (putF f y fs))) := fun x y H2 => by
    apply propext
    constructor
    · rintro ⟨a, h, ⟨C, dx, fs, h1, h2, h3, h4, h5⟩⟩
      exact ⟨a, C, dx, fs, h, h1, h2, h3, h4, h5⟩
    · rintro ⟨a, C, dx, fs, h, h1, h2, h3, h4, h5⟩
      exact ⟨a, h, ⟨C, dx, fs, h1, h2, h3, h4, h5⟩⟩
  simp only [e3] at h'
  exact h'
end
end CL
set_option Elab.async false
set_option linter.all false
set_option maxRecDepth 100000
set_option maxHeartbeats 2000000
namespace CL
open PySem PySem.Spec PyProof.Rows L2 RZ SkE
def rLenC (K : PySem.W.Frag) : List V → Hp → VK → Prop := fun xs H Q => match xs with
  | [.str s] => Chk (s.length ≤ sizeLine) (Q (.int s.length) H)
  | [.ref p] => Sq K H p fun ys => Q (.int ys.length) H
  | _ => False
def rAbsC : List V → Hp → VK → Prop := fun xs H Q => match xs with
  | [.int i] => Q (.int (if i < 0 then -i else i)) H
  | _ => False
def rStrC : List V → Hp → VK → Prop := fun xs H Q => match xs with
  | [.int i] => Chk (i.natAbs.log2 < 1920) (Q (.str (toString i)) H)
  | [.str s] => Q (.str s) H
  | _ => False
def rListC (K : PySem.W.Frag) : List V → Hp → VK → Prop := fun xs H Q => match xs with
  | [.ref p] => Sq K H p fun ys => New H (.lst ys) fun q H' => Q (.ref q) H'
  | _ => False
structure TupR (K : PySem.W.Frag) (H : Hp) (p : Addr) (Q : VK) : Prop where
  ex : ∃ ys, (SqL K H p ys ∧ New H (.tup ys) fun q H' => Q (.ref q) H') ∨ (SqT K H p ys ∧ Q (.ref p) H)
def rTupC (K : PySem.W.Frag) : List V → Hp → VK → Prop := fun xs H Q => match xs with
  | [.ref p] => TupR K H p Q
  | _ => False
/-- isinstance: a built-in class, or what stands at c: an own class, or a new tuple of classes -/
structure IsR (K : PySem.W.Frag) (H : Hp) (x : V) (c : Addr) (k : Bool → Prop) : Prop where
  ex : (∃ t b, TyX K H x t ∧ PySem.W.kitOne K t (.ref c) = some b ∧ k b) ∨
    ∃ cs us t b, H c = some (.tup cs) ∧ Paired ClsV cs us ∧ TyX K H x t ∧ PySem.W.kitAny K t us = some b ∧ k b
def rIsC (K : PySem.W.Frag) : List V → Hp → VK → Prop := fun xs H Q => match xs with
  | [x, .ty n] => IsI K H x (.type n) fun b => Q (.bl b) H
  | [x, .ref c] => IsR K H x c fun b => Q (.bl b) H
  | _ => False
section
variable {X : Cx}
theorem k_len : CallR X (.builtin "len") (rLenC X.K) := by
  intro pins s σ H xs us Q I r h
  unfold rLenC at h
  split at h
  · exact call_len pins s σ H _ us Q I r ⟨_, _, rfl, ⟨h.p, rfl⟩, h.k⟩
  · obtain ⟨⟨ys, h1, h2⟩⟩ := h
    exact call_len_seq pins s σ H _ us Q I r ⟨_, _, rfl, h1, h2⟩
  · exact h.elim
theorem k_abs : CallR X (.builtin "abs") rAbsC := by
  intro pins s σ H xs us Q I r h
  unfold rAbsC at h
  split at h
  · exact call_abs pins s σ H _ us Q I r ⟨_, rfl, h⟩
  · exact h.elim
theorem k_str : CallR X (.type "str") rStrC := by
  intro pins s σ H xs us Q I r h
  unfold rStrC at h
  split at h
  · exact call_str_int pins s σ H _ us Q I r ⟨_, rfl, h.p, h.k⟩
  · exact call_str_str pins s σ H _ us Q I r ⟨_, rfl, h⟩
  · exact h.elim
theorem k_list : CallR X (.type "list") (rListC X.K) := by
  intro pins s σ H xs us Q I r h
  unfold rListC at h
  split at h
  · obtain ⟨⟨ys, h1, h2⟩⟩ := h
    exact call_list_of pins s σ H _ us Q I r ⟨_, _, rfl, h1, h2.k⟩
  · exact h.elim
theorem k_tuple : CallR X (.type "tuple") (rTupC X.K) := by
  intro pins s σ H xs us Q I r h
  unfold rTupC at h
  split at h
  · obtain ⟨⟨ys, ⟨h1, h2⟩ | ⟨h1, h2⟩⟩⟩ := h
    · exact call_tuple_of pins s σ H _ us Q I r ⟨_, _, rfl, .inl ⟨h1, h2.k⟩⟩
    · exact call_tuple_of pins s σ H _ us Q I r ⟨_, _, rfl, .inr ⟨h1, h2⟩⟩
  · exact h.elim
theorem k_isi : CallR X (.builtin "isinstance") (rIsC X.K) := by
  intro pins s σ H xs us Q I r h
  unfold rIsC at h
  split at h
  · obtain ⟨⟨t, b, h1, h2, h3⟩⟩ := h
    exact call_isi pins s σ H _ us Q I r ⟨_, _, t, _, b, rfl, .ty _, h1, h2, h3⟩
  · obtain ⟨⟨t, b, h1, h2, h3⟩ | ⟨cs, ws, t, b, h1, h2, h3, h4, h5⟩⟩ := h
    · exact call_isi pins s σ H _ us Q I r ⟨_, _, t, _, b, rfl, .own _, h1, h2, h3⟩
    · exact call_isiT pins s σ H _ us Q I r ⟨_, _, cs, t, ws, b, rfl, h1, h2, h3, h4, h5⟩
  · exact h.elim
end
def cCall (sp : Sp) (dvs : List V) (E : XK) (t : TA) : TE := fun σ H Q => t σ H fun vs H1 => Ask (sp (vs ++ dvs) H1 Q E)
theorem ask_eq {P : Prop} : Ask P = P := propext ⟨fun h => h.a, fun h => ⟨h⟩⟩
section
variable {X : Cx} {e : Expr} {es : List Expr} {t : TA} {x : Str} {p pos : Pos} {CX : CXT} {k : Nat} {f C : Addr} {fd : FuncData} {ps : List Str} {sp : Sp} {E : XK} {ds : List Value} {dvs : List V}
theorem e_call (F : FnOk X.prog X.w X.K X.mg X.base CX k f fd ps sp) (hr : Room k X.A) (hg : Gl X x) (hm : X.mg x = some (.ref f)) (hk : PySem.W.keepIn X.K (.ref f) = true) (hb : Binds X.K fd ps ds) (hd : Vals dvs ds) (hx : Passes CX X E)
    (ha : PA X (e :: es) t) (hdb : (x == ("__debug__" : Str)) = false := by decide) (he : starEach (e :: es) X.env = (false, eval e X.env) :: starEach es X.env := by rfl) (hpl : (backTo pos (starEach es X.env)).any (·.1) = false := by rfl) :
    PE X (.Call (.Name x p) (e :: es) [] pos) (cCall sp dvs E t) := by
  have e2 : cCall sp dvs E t = tCall sp dvs E t := by
    funext σ H Q
    unfold cCall tCall
    simp only [ask_eq]
  rw [e2]
  exact pe_call F hr hg hm hk hb hd hx ha hdb he hpl
def cMake (C : Addr) (sp : Sp) (dvs : List V) (E : XK) (t : TA) : TE := fun σ H Q => t σ H fun vs H1 => Ask (∀ x dx, H1 x = none → H1 dx = none → dx ≠ x → sp (.ref x :: (vs ++ dvs)) (upd (upd H1 dx (.own x)) x (.ins C dx [])) (fun v H2 => v = .non ∧ Q (.ref x) H2) E)
theorem e_make (M : Mk X.K C f) (F : FnOk X.prog X.w X.K X.mg X.base CX k f fd ps sp) (hr : Room (k + 1) X.A) (hg : Gl X x) (hm : X.mg x = some (.ref C)) (hb : Binds X.K fd ps ds) (hd : Vals dvs ds) (hx : Passes CX X E)
    (ha : PA X (e :: es) t) (hdb : (x == ("__debug__" : Str)) = false := by decide) (he : starEach (e :: es) X.env = (false, eval e X.env) :: starEach es X.env := by rfl) (hpl : (backTo pos (starEach es X.env)).any (·.1) = false := by rfl) :
    PE X (.Call (.Name x p) (e :: es) [] pos) (cMake C sp dvs E t) := by
  have e2 : cMake C sp dvs E t = tMake C sp dvs E t := by
    funext σ H Q
    unfold cMake tMake
    simp only [ask_eq]
  rw [e2]
  exact pe_make M F hr hg hm hb hd hx ha hdb he hpl
end
structure ForW (J : It) (g : TG) (tb : TS) (D : Ends) (σ : L2.St) (H : Hp) : Prop where
  ex : ∃ W : Nat → Nat → L2.St → Hp → Prop, (∃ m, W 0 m σ H) ∧ ∀ i m σ H, W i m σ H →
    (J.stop i H ∧ D.nx σ H) ∨ (J.go i H ∧ ∃ N : L2.St → Hp → Prop, (∀ σ' H', N σ' H' → ∃ m', m' < m ∧ W (i + 1) m' σ' H') ∧ ∀ x H', J.yld i H x H' → g x σ H' fun σ2 H2 => tb { D with nx := N, ct := N, bk := D.nx } σ2 H2)
def cFor (wi : TI) (g : TG) (tb : TS) : TS := fun D σ H => wi σ H fun J H1 => ForW J g tb D σ H1
theorem forw_eq {J : It} {g : TG} {tb : TS} {D : Ends} {σ : L2.St} {H : Hp} : ForW J g tb D σ H = (∃ W : Nat → Nat → L2.St → Hp → Prop, (∃ m, W 0 m σ H) ∧ ∀ i m σ H, W i m σ H →
    (J.stop i H ∧ D.nx σ H) ∨ (J.go i H ∧ ∃ N : L2.St → Hp → Prop, (∀ σ' H', N σ' H' → ∃ m', m' < m ∧ W (i + 1) m' σ' H') ∧ ∀ x H', J.yld i H x H' → g x σ H' fun σ2 H2 => tb { D with nx := N, ct := N, bk := D.nx } σ2 H2)) := propext ⟨fun h => h.ex, fun h => ⟨h⟩⟩
section
variable {X : Cx} {tg : Expr}
theorem s_for {iter : Expr} {body : List Stmt} {wi : TI} {g : TG} {tb : TS} {pos : Pos} (hp : PassesOwn (model X.prog X.w) X.A X.env X.xe) (hc : X.calm = true) (hi : PI X tg iter wi) (hg : PG X tg g) (hb : PSs X body tb)
    (hs : ∀ x, foldedSetIterable iter X.env x = pure x := by intro _; rfl) : PS X (.For tg iter body [] pos) (cFor wi g tb) := by
  have e2 : cFor wi g tb = tFor wi g tb := by
    funext D σ H
    unfold cFor tFor
    simp only [forw_eq]
  rw [e2]
  exact ps_for hp hc hi hg hb hs
def onI1 (k : Int → Hp → Prop) : List V → Hp → Prop := fun xs H => match xs with
  | [.int i] => k i H
  | _ => False
theorem onI1_eq (k : Int → Hp → Prop) : onI1 k = fun xs H => ∃ i, xs = [.int i] ∧ k i H := by
  funext x H
  apply propext
  unfold onI1
  constructor
  · intro h
    split at h
    · exact ⟨_, rfl, h⟩
    · exact h.elim
  · rintro ⟨c, rfl, h⟩
    exact h
def cRng1 (ta : TA) : TI := fun σ H R => ta σ H (onI1 fun j H1 => Chk (-(2 ^ 62) ≤ j ∧ j < 2 ^ 62) (R (Itr 0 j.toNat) H1))
theorem i_range1 {a : Expr} {ta : TA} {p pos : Pos} (hg : Gl X "range") (hm : X.mg "range" = none) (ha : PA X [a] ta) (hs : starEach [a] X.env = [(false, eval a X.env)] := by rfl) : PI X tg (.Call (.Name "range" p) [a] [] pos) (cRng1 ta) := by
  have e2 : cRng1 ta = iRng1 ta := by
    funext σ H R
    unfold cRng1 iRng1
    simp only [onI1_eq, chk_eq, and_assoc]
  rw [e2]
  exact pi_range1 hg hm ha hs
/-- over what a value is: a list or a tuple -/
structure ItS (K : PySem.W.Frag) (H : Hp) (a : Addr) (R : It → Hp → Prop) : Prop where
  ex : ((∃ xs, SqL K H a xs) ∧ R (Itl K a) H) ∨ ((∃ xs, SqT K H a xs) ∧ R (Itt K a) H)
end
structure ItE (K : PySem.W.Frag) (H : Hp) (a : Addr) (R : It → Hp → Prop) : Prop where
  ex : (∃ xs, SqL K H a xs) ∧ R (Ite K a) H
def onR1 (k : Addr → Hp → Prop) : List V → Hp → Prop := fun xs H => match xs with
  | [.ref a] => k a H
  | _ => False
theorem onR1_ok {k : Addr → Hp → Prop} {xs : List V} {H : Hp} (h : onR1 k xs H) : ∃ a, xs = [.ref a] ∧ k a H := by
  unfold onR1 at h
  split at h
  · exact ⟨_, rfl, h⟩
  · exact h.elim
structure UnT (K : PySem.W.Frag) (H : Hp) (a : Addr) (n : Nat) (k : List V → Prop) : Prop where
  ex : ∃ xs, SqT K H a xs ∧ xs.length = n ∧ k xs
def cGNil : TGs := fun vs σ H Q => match vs with
  | [] => Q σ H
  | _ => False
def cGCons (t : TG) (u : TGs) : TGs := fun vs σ H Q => match vs with
  | v :: r => t v σ H fun σ' H' => u r σ' H' Q
  | _ => False
def cGTup (K : PySem.W.Frag) (n : Nat) (t : TGs) : TG := fun v σ H Q => match v with
  | .ref a => UnT K H a n fun xs => t xs σ H Q
  | _ => False
section
variable {X : Cx} {pos : Pos}
theorem weakG {e : Expr} {t t' : TG} (h : PG X e t) (w : ∀ v σ H Q, t' v σ H Q → t v σ H Q) : PG X e t' := ⟨fun pins s σ H v u Q I r q => h.run pins s σ H v u Q I r (w _ _ _ _ q)⟩
theorem weakGs {e : List Expr} {t t' : TGs} (h : PGs X e t) (w : ∀ v σ H Q, t' v σ H Q → t v σ H Q) : PGs X e t' := ⟨fun pins s σ H v u Q I r q => h.run pins s σ H v u Q I r (w _ _ _ _ q)⟩
theorem g_nil : PGs X [] cGNil := weakGs pgs_nil fun vs σ H Q h => by
  unfold cGNil at h
  split at h
  · exact ⟨rfl, h⟩
  · exact h.elim
theorem g_cons {e : Expr} {es : List Expr} {t : TG} {u : TGs} (h1 : PG X e t) (h2 : PGs X es u)
    (hs : (assignEach (e :: es) X.env).map (·.2) = assign e X.env :: (assignEach es X.env).map (·.2) := by rfl) : PGs X (e :: es) (cGCons t u) := weakGs (pgs_cons h1 h2 hs) fun vs σ H Q h => by
  unfold cGCons at h
  split at h
  · exact ⟨_, _, rfl, h⟩
  · exact h.elim
theorem g_tup {es : List Expr} {k : Nat} {t : TGs} {n : Nat} (hc : X.calm = true) (h : PGs X es t)
    (hn : (assignEach es X.env).length = n := by rfl) (hst : (assignEach es X.env).findIdx? (·.1) = none := by rfl) : PG X (.Tuple es k pos) (cGTup X.K n t) := weakG (pg_tup hc h hn hst) fun v σ H Q q => by
  unfold cGTup at q
  split at q
  · obtain ⟨⟨xs, h1, h2, h3⟩⟩ := q
    exact ⟨_, xs, rfl, h1, h2, h3⟩
  · exact q.elim
/-- o[i] = v in a list -/
structure SetL (H : Hp) (p : Addr) (k : Int) (v : V) (Q : Hp → Prop) : Prop where
  ex : ∃ xs j, H p = some (.lst xs) ∧ ixN xs.length k = some j ∧ Q (upd H p (.lst (xs.set j v)))
def rSetC : V → V → V → Hp → (Hp → Prop) → Prop := fun o i v H Q => match o, i with
  | .ref p, .int k => SetL H p k v Q
  | _, _ => False
theorem p_set : PSet X rSetC := by
  intro pins s σ H o i v ov iv u Q I ro ri rv h
  unfold rSetC at h
  split at h
  · obtain ⟨⟨xs, j, h1, h2, h3⟩⟩ := h
    exact set_list pins s σ H _ _ _ _ _ _ Q I ro ri rv ⟨_, xs, _, j, rfl, rfl, h1, h2, h3⟩
  · exact h.elim
/-- xs.append(e), a statement -/
def rAppC : V → List V → Hp → VK → Prop := fun x vs H Q => match x, vs with
  | .ref l, [y] => Ls H l fun xs => Chk (xs.length < sizeLine) (Q .non (upd H l (.lst (xs ++ [y]))))
  | _, _ => False
end
end CL
set_option Elab.async false
set_option linter.all false
set_option maxRecDepth 100000
set_option maxHeartbeats 2000000
namespace CL
open PySem PySem.Spec PyProof.Rows L2 RZ SkE
section
variable {X : Cx}
theorem m_append : MtR X "list.append" rAppC := by
  intro pins s σ H x xs v us Q I rx rs h
  unfold rAppC at h
  split at h
  · obtain ⟨⟨ys, h1, h2⟩⟩ := h
    exact mt_append pins s σ H _ _ v us Q I rx rs ⟨_, _, _, rfl, rfl, h1, h2.p, h2.k⟩
  · exact h.elim
end
structure LcW (J : It) (g : TG) (tt : TT) (te : TE) (vs : List Nat) (σ : L2.St) (D : Addr) (Qd : Hp → Prop) (H0 : Hp) : Prop where
  ex : ∃ W : Nat → Nat → Hp → Prop, (∃ m, W 0 m (upd H0 D (.lst []))) ∧ ∀ i m H, W i m H → (J.stop i H ∧ Qd H) ∨ (J.go i H ∧ ∃ Nx : Hp → Prop, (∀ H', Nx H' → ∃ m', m' < m ∧ W (i + 1) m' H') ∧
    ∀ x H', J.yld i H x H' → g x (wipe σ vs) H' fun σ2 H2 => wipe σ2 vs = wipe σ vs ∧ tt σ2 H2 fun b H3 => if b = true then te σ2 H3 fun y H4 => ∃ acc, H4 D = some (.lst acc) ∧ acc.length < sizeLine ∧ Nx (upd H4 D (.lst (acc ++ [y]))) else Nx H3)
structure NewA (H : Hp) (k : Addr → Prop) : Prop where
  k : ∀ p, H p = none → k p
def cLc (wi : TI) (g : TG) (tt : TT) (te : TE) (vs : List Nat) : TE := fun σ H Q => wi σ H fun J H1 => NewA H1 fun D => LcW J g tt te vs σ D (fun H' => Q (.ref D) H') H1
theorem lcw_eq {J : It} {g : TG} {tt : TT} {te : TE} {vs : List Nat} {σ : L2.St} {D : Addr} {Qd : Hp → Prop} {H0 : Hp} : LcW J g tt te vs σ D Qd H0 = ∃ W : Nat → Nat → Hp → Prop, (∃ m, W 0 m (upd H0 D (.lst []))) ∧ ∀ i m H, W i m H → (J.stop i H ∧ Qd H) ∨ (J.go i H ∧ ∃ Nx : Hp → Prop, (∀ H', Nx H' → ∃ m', m' < m ∧ W (i + 1) m' H') ∧
    ∀ x H', J.yld i H x H' → g x (wipe σ vs) H' fun σ2 H2 => wipe σ2 vs = wipe σ vs ∧ tt σ2 H2 fun b H3 => if b = true then te σ2 H3 fun y H4 => ∃ acc, H4 D = some (.lst acc) ∧ acc.length < sizeLine ∧ Nx (upd H4 D (.lst (acc ++ [y]))) else Nx H3) := propext ⟨fun h => h.ex, fun h => ⟨h⟩⟩
theorem newa_eq {H : Hp} {k : Addr → Prop} : NewA H k = ∀ p, H p = none → k p := propext ⟨fun h => h.k, fun h => ⟨h⟩⟩
theorem clc_eq {wi : TI} {g : TG} {tt : TT} {te : TE} {vs : List Nat} : cLc wi g tt te vs = tLc wi g tt te vs := by
  funext σ H Q
  unfold cLc tLc
  simp only [newa_eq, lcw_eq]
section
variable {X : Cx} {elt tg iter : Expr} {ifs : List Expr} {scope : Scope} {own : List (Str × Nat)} {pos : Pos} {wi : TI} {g : TG} {tt : TT} {te : TE}
theorem e_lc (hc : X.calm = true) (hN : X.N.Nodup) (hi : PI X tg iter wi) (ok : BlkOk X.N X.env.scope scope own)
    (hg : ∀ (s : Shared) (H : Hp) (C : Addr) (cl : List (Str × Addr)) (fp : List Addr), PG (X.blk s H scope (compEnvC scope cl C X.env) fp) tg g)
    (ht : ∀ (s : Shared) (H : Hp) (C : Addr) (cl : List (Str × Addr)) (fp : List Addr), PTs (X.blk s H scope (compEnvC scope cl C X.env) fp) ifs tt)
    (he : ∀ (s : Shared) (H : Hp) (C : Addr) (cl : List (Str × Addr)) (fp : List Addr), PE (X.blk s H scope (compEnvC scope cl C X.env) fp) elt te)
    (hs : ∀ x, foldedSetIterable iter X.env x = pure x := by intro _; rfl) :
    PE X (.ListComp elt [⟨tg, iter, ifs, 0⟩] scope pos) (cLc wi g tt te (own.map (·.2))) := by
  rw [clc_eq]
  exact pe_lc hc hN hi ok hg ht he hs
end
def cPar (i j : Nat) (ta : TA) : TS := fun D σ H => ta σ H fun vs H1 => match vs with
  | [v, w] => D.nx ((σ.set i (some v)).set j (some w)) H1
  | _ => False
theorem s_par {X : Cx} {pos : Pos} {i j : Nat} {x y : Str} {a b : Expr} {ta : TA} {px py pt : Pos} {kt k2 pt2} (hc : X.calm = true) (hN : X.N.Nodup) (hi : X.N[i]? = some x) (hj : X.N[j]? = some y) (hij : i ≠ j)
    (hx : X.env.scope.names.lookup x = some .local) (hy : X.env.scope.names.lookup y = some .local) (ha : PA X [a, b] ta)
    (hw : swappedStores [.Tuple [.Name x px, .Name y py] kt pt] (.Tuple [a, b] k2 pt2) X.env = pure (some [x, y]))
    (hs : swapsWithSole [.Tuple [.Name x px, .Name y py] kt pt] (.Tuple [a, b] k2 pt2) pos.line X.env = pure false := by rfl) :
    PS X (.Assign [.Tuple [.Name x px, .Name y py] kt pt] (.Tuple [a, b] k2 pt2) pos) (cPar i j ta) := by
  have e : cPar i j ta = tPar i j ta := by
    funext D σ H
    unfold cPar tPar
    have e2 : (fun (vs : List V) (H1 : Hp) => (match vs with | [v, w] => D.nx ((σ.set i (some v)).set j (some w)) H1 | _ => False)) = fun vs H1 => ∃ v w, vs = [v, w] ∧ D.nx ((σ.set i (some v)).set j (some w)) H1 := by
      funext vs H1
      apply propext
      constructor
      · intro h
        split at h
        · exact ⟨_, _, rfl, h⟩
        · exact h.elim
      · rintro ⟨v, w, rfl, h⟩
        exact h
    rw [e2]
  rw [e]
  exact ps_par hc hN hi hj hij hx hy ha hw hs
/-- all but b is as it was -/
def But (b : Addr) (H H' : Hp) : Prop := ∀ a o, a ≠ b → H a = some o → H' a = some o
theorem upd_to {H : Hp} {a b : Addr} {o : HO} {r : Option HO} (n : b ≠ a) (h : H b = r) : upd H a o b = r := by rw [upd_ne n]; exact h
theorem At.nat {α : Type} {xs : List α} {i : Int} {k : α → Prop} {v : α} (j : Nat) (e : i = (j : Int)) (h : xs[j]? = some v) (q : k v) : At xs i k := ⟨v, by rw [e]; exact atI_nat h, q⟩
end CL
set_option Elab.async false
set_option linter.all false
set_option maxRecDepth 100000
set_option maxHeartbeats 2000000
namespace CL
open PySem PySem.Spec PyProof.Rows L2 RZ SkE
section
variable {X : Cx} {CX : CXT} {n : Nat} {f C : Addr} {fd : FuncData} {ps : List Str} {sp : Sp} {E : XK}
/-- a def run below the body, where there is room -/
theorem run_at {A : Around} {pins : List (Addr × Obj)} {σ : L2.St} {H : Hp} {s : Shared} {Q : VK} {us : List Value} {vs : List V} (F : FnOk X.prog X.w X.K X.mg X.base CX n f fd ps sp) (hb : Binds X.K fd ps []) (hx : Passes CX X E) (room : Room n A) (fr : A.frames = X.A.frames)
    (I : Inv X pins σ H s) (r : Vals vs us) (h : sp vs H Q E) : wpAny (model X.prog X.w) A (call (.ref f) us) (EP X pins σ Q) X.xe s := by
  have e := I.env0
  have e1 : Env0 X.prog X.w X.K X.mg X.base A X.stack s H := ⟨by rw [fr]; exact e.frames, e.mod, e.bs, e.bsz, e.funs, e.frf, e.hok, e.bare⟩
  have hl : (us ++ []).length = ps.length := by
    rw [List.append_nil, ← r.length]
    exact F.len _ _ _ _ h
  have b1 := hb s us I.kIn hl
  rw [List.append_nil] at b1
  refine wpAny_call (codeAny_mono (F.run A X.stack s H ⟨us, []⟩ us vs Q E room e1 b1 r h) fun res s' hq => ?_)
  cases res with
  | error er => exact hx pins σ H s er s' I hq
  | ok fl =>
    cases fl with
    | ret u => exact I.after hq
    | next => exact False.elim hq
    | brk => exact False.elim hq
    | cont => exact False.elim hq
/-- an instance as the machine sees it -/
theorem inst_at {pins : List (Addr × Obj)} {σ : L2.St} {H : Hp} {s : Shared} {a dx : Addr} {fs : List (Str × V)} (I : Inv X pins σ H s) (h : H a = some (.ins C dx fs)) : ∃ od, PySem.W.InstAt s.heap a (PySem.W.instObj C dx) C (some od) := by
  obtain ⟨mA, J, _⟩ := ins_get I.hok h
  obtain ⟨od, J, _⟩ := J.look
  exact ⟨od, J⟩
/-- what a comparison by an own def must hand back: a Boolean -/
def BackB (neg : Bool) (Q : VK) : VK := fun v H => match v with
  | .bl b => Q (.bl (if neg then !b else b)) H
  | _ => False
/-- own == or != of an instance at the left: what is asked -/
structure OwnC (K : PySem.W.Frag) (C : Addr) (sp : Sp) (E : XK) (neg : Bool) (a : Addr) (y : V) (H : Hp) (Q : VK) : Prop where
  ex : ∃ dx fs t, H a = some (.ins C dx fs) ∧ TyX K H y t ∧ PySem.W.notFirst K C t = true ∧ sp [.ref a, y] H (BackB neg Q) E
def rOwn (K : PySem.W.Frag) (C : Addr) (sp : Sp) (E : XK) (neg : Bool) : R2 := fun x y H Q => match x with
  | .ref a => OwnC K C sp E neg a y H Q
  | _ => False
theorem c_eqO (F : FnOk X.prog X.w X.K X.mg X.base CX n f fd ps sp) (hb : Binds X.K fd ps []) (hx : Passes CX X E) (room : Room n X.A)
    (hs : PySem.W.findIn X.K (.ref C) "__eq__" = some (some (.ref f))) (hf : PySem.W.isFn X.K (.ref f) = true) : OpR X (compareOp .Eq) (rOwn X.K C sp E false) := by
  intro pins s σ H x y v u Q I rx ry h
  unfold rOwn at h
  split at h
  · rename_i a
    obtain ⟨⟨dx, fs, t, h1, h2, h3, h4⟩⟩ := h
    cases rx
    obtain ⟨od, J⟩ := inst_at I h1
    obtain ⟨m, hF⟩ := I.fr
    obtain ⟨Pk, Z, hP, _⟩ := kit_of I ry h2
    show wpAny (model X.prog X.w) X.A (richCompare .Eq (.ref a) u) (EP X pins σ Q) X.xe s
    refine PySem.W.cmp_K (op := .Eq) (tb := t) room.units0 hF I.ok.mod.kin J (Z.ty _ _ I.kIn hP) h3 hs hf ?_
    refine wpAny_mono (run_at F hb hx room rfl I (vs := [.ref a, y]) (.cons rfl (.cons ry .nil)) h4) (fun r s' q => ?_) fun _ _ z => z
    obtain ⟨w, H', I', rw', q'⟩ := q
    unfold BackB at q'
    split at q'
    · rename_i k0
      cases rw'
      exact ⟨.bl k0, H', I', rfl, q'⟩
    · exact q'.elim
  · exact h.elim
theorem ifBound_ne {M : Model} {A : Around} {K : PySem.W.Frag} {x : Addr} {ox : Obj} {od : Option Obj} {s : Shared} {b : Value} {Ex : Value → Shared → Prop} {Q : Option Value → Shared → Prop} (Y : K.In s.heap) (I : PySem.W.InstAt s.heap x ox C od)
    (hs : PySem.W.findIn K (.ref C) "__ne__" = some (some (.builtin "object.__ne__"))) (h : wpAny M A (call (.builtin "object.__ne__") [.ref x, b]) (fun v => Q (some v)) Ex s) : wpAny M A (callSpecialIfBound? (.ref x) "__ne__" [b]) Q Ex s := by
  simp only [callSpecialIfBound?, bindSpecialIfBound?]
  refine wpAny_holding (wpAny_bind (wpAny_bind (wpAny_bind (I.type.here ((PySem.W.looks_findIn Y hs).here (wpAny_bind (wpAny_askSetting (wpAny_ite ?_))))))))
  have fin : wpAny M A (call (.builtin "object.__ne__") ([.ref x] ++ [b]) >>= fun v => pure (some v)) Q Ex s := wpAny_bind (wpAny_mono h (fun v s' z => wpAny_pure z) fun _ _ z => z)
  split
  · exact wpAny_bind (wpAny_of_eq (F.cmp_object.ne.bind _) (wpAny_pure (by exact fin)))
  · exact wpAny_tryCatch (wpAny_bind (wpAny_of_eq (F.cmp_object.ne.bind _) (wpAny_pure (by exact fin))))
open Builtin in
theorem objNe_body {prog : Program} {w : World} {A : Around} {K : PySem.W.Frag} {x : Addr} {ox : Obj} {od : Option Obj} {s : Shared} {b : Value} {Ex : Value → Shared → Prop} {Q : Fin → Shared → Prop} (hu : A.units < cLine) (Y : K.In s.heap) (I : PySem.W.InstAt s.heap x ox C od)
    (hs : PySem.W.findIn K (.ref C) "__eq__" = some (some (.ref f))) (hf : PySem.W.isFn K (.ref f) = true)
    (h : wpAny (model prog w) A (call (.ref f) [.ref x, b]) (fun v s' => ∃ k, v = .bool k ∧ Q (.done (.ret (.bool (!k)))) s') Ex s) :
    wpAny (model prog w) A (Builtin.«object.__ne__» ⟨[.ref x, b], []⟩) Q Ex s := by
  unfold Builtin.«object.__ne__»
  repeat (first
    | with_reducible refine wpAny_cRoomFor hu ?_
    | (refine wpAny_bind (m := callSpecialIfBound? (.ref x) (Str.ofString "__eq__") [b]) (PySem.W.ifBound_K Y I hs hf (wpAny_mono h (fun r s' hr => by
          obtain ⟨k, rfl, hq⟩ := hr
          repeat (first | exact hq | exact wpAny_pure hq | exact wpAny_truthy_bool hq | (refine wpAny_bind (m := truthy (.bool _)) (wpAny_truthy_bool ?_)) | wp_step)) fun _ _ z => z)))
    | wp_step)
theorem ne_own {prog : Program} {w : World} {A : Around} {K : PySem.W.Frag} {x L : Addr} {h₀ : Heap} {m : Str → Option Value} {ox : Obj} {od : Option Obj} {s : Shared} {b tb : Value} {Ex : Value → Shared → Prop} {Q : Value → Shared → Prop} (hu : A.units + 1 < cLine) (Fm : Fr h₀ L s.heap m) (Y₀ : K.In h₀)
    (I : PySem.W.InstAt s.heap x ox C od) (hb : PySem.W.Looks (model prog w) s.heap (typeOf b) tb) (hn : PySem.W.notFirst K C tb = true) (hm : PySem.W.mroIn K C (.type "object") = some true)
    (hs : PySem.W.findIn K (.ref C) "__eq__" = some (some (.ref f))) (hne : PySem.W.findIn K (.ref C) "__ne__" = some (some (.builtin "object.__ne__"))) (hf : PySem.W.isFn K (.ref f) = true)
    (h : wpAny (model prog w) A.in1 (call (.ref f) [.ref x, b]) (fun v s' => ∃ k, v = .bool k ∧ Q (.bool (!k)) s') Ex s) : wpAny (model prog w) A (richCompare .NotEq (.ref x) b) Q Ex s := by
  have Y := Y₀.keeps Fm.keep
  have one : wpAny (model prog w) A (tryCompare (.ref x) "__ne__" b) (fun r s' => ∃ v, r = some v ∧ Q v s') Ex s := by
    unfold tryCompare
    refine wpAny_bind (ifBound_ne Y I hne (wpAny_call (codeAny_call_builtin F.cmp_object.ne.plain F.cmpEntry_ne (PySem.W.check_slot F.cmpKind_ne F.cmpSplit_ne (I.type.andThen (PySem.W.looks_mroIn Y hm)) (F.cmpArgs_ne _ _)
      (objNe_body (A := A.in1) hu Y I hs hf (wpAny_mono h (fun v s' hv => ?_) fun _ _ z => z))))))
    obtain ⟨k, rfl, hq⟩ := hv
    first | exact ⟨k, rfl, wpAny_pure ⟨_, rfl, hq⟩⟩ | exact ⟨k, rfl, wpAny_pure (wpAny_pure ⟨_, rfl, hq⟩)⟩
  unfold richCompare
  simp only [oneThing_ref]
  refine wpAny_holding (wpAny_bind (wpAny_cRoomFor (Nat.lt_of_succ_lt hu) ?_))
  rw [cmpInfo_NotEq]
  dsimp only
  refine wpAny_bind (I.type.here (wpAny_bind (hb.here ?_)))
  split
  · rename_i q
    have e : PySem.W.subIn K tb (.ref C) = some false := by
      rcases Bool.or_eq_true_iff.mp hn with z | z
      · rw [beq_iff_eq.mp z] at q
        simp at q
      · exact beq_iff_eq.mp z
    refine wpAny_bind ((PySem.W.looks_subIn Y e).here ?_)
    simp only [Bool.false_eq_true, if_false]
    refine wpAny_bind (wpAny_mono one (fun r s' z => ?_) fun _ _ z => z)
    obtain ⟨v, rfl, hq⟩ := z
    exact wpAny_pure hq
  · refine wpAny_bind (wpAny_pure ?_)
    simp only [Bool.false_eq_true, if_false]
    refine wpAny_bind (wpAny_mono one (fun r s' z => ?_) fun _ _ z => z)
    obtain ⟨v, rfl, hq⟩ := z
    exact wpAny_pure hq
theorem c_neO (F : FnOk X.prog X.w X.K X.mg X.base CX n f fd ps sp) (hb : Binds X.K fd ps []) (hx : Passes CX X E) (room : Room (n + 1) X.A) (hm : PySem.W.mroIn X.K C (.type "object") = some true)
    (hs : PySem.W.findIn X.K (.ref C) "__eq__" = some (some (.ref f))) (hne : PySem.W.findIn X.K (.ref C) "__ne__" = some (some (.builtin "object.__ne__"))) (hf : PySem.W.isFn X.K (.ref f) = true) : OpR X (compareOp .NotEq) (rOwn X.K C sp E true) := by
  intro pins s σ H x y v u Q I rx ry h
  unfold rOwn at h
  split at h
  · rename_i a
    obtain ⟨⟨dx, fs, t, h1, h2, h3, h4⟩⟩ := h
    cases rx
    obtain ⟨od, J⟩ := inst_at I h1
    obtain ⟨m, hF⟩ := I.fr
    obtain ⟨Pk, Z, hP, _⟩ := kit_of I ry h2
    show wpAny (model X.prog X.w) X.A (richCompare .NotEq (.ref a) u) (EP X pins σ Q) X.xe s
    refine ne_own (tb := t) (by have := room.units; omega) hF I.ok.mod.kin J (Z.ty _ _ I.kIn hP) h3 hm hs hne hf ?_
    refine wpAny_mono (run_at F hb hx room.in1 rfl I (vs := [.ref a, y]) (.cons rfl (.cons ry .nil)) h4) (fun r s' q => ?_) fun _ _ z => z
    obtain ⟨w, H', I', rw', q'⟩ := q
    unfold BackB at q'
    split at q'
    · rename_i k0
      cases rw'
      exact ⟨_, rfl, .bl (!k0), H', I', rfl, q'⟩
    · exact q'.elim
  · exact h.elim
/-- str(x): an int, a text, an instance with an own __str__ -/
def BackS (Q : VK) : VK := fun v H => match v with
  | .str z => Q (.str z) H
  | _ => False
structure OwnS (C : Addr) (sp : Sp) (E : XK) (a : Addr) (H : Hp) (Q : VK) : Prop where
  ex : ∃ dx fs, H a = some (.ins C dx fs) ∧ sp [.ref a] H (BackS Q) E
def rStrO (C : Addr) (sp : Sp) (E : XK) : List V → Hp → VK → Prop := fun xs H Q => match xs with
  | [.ref a] => OwnS C sp E a H Q
  | ys => rStrC ys H Q
theorem k_strO (F : FnOk X.prog X.w X.K X.mg X.base CX n f fd ps sp) (hb : Binds X.K fd ps []) (hx : Passes CX X E) (room : Room (n + 2) X.A)
    (hs : PySem.W.findIn X.K (.ref C) "__str__" = some (some (.ref f))) (hf : PySem.W.isFn X.K (.ref f) = true) : CallR X (.type "str") (rStrO C sp E) := by
  intro pins s σ H xs us Q I r h
  unfold rStrO at h
  split at h
  · rename_i a
    obtain ⟨⟨dx, fs, h1, h2⟩⟩ := h
    obtain ⟨u, rfl, ru⟩ := vals1 r
    cases ru
    obtain ⟨od, J⟩ := inst_at I h1
    have r2 : Room n X.A.in1.in1 := (show Room (n + 1) X.A.in1 from room.in1).in1
    refine PySem.W.kso_call r2.units0 I.kIn J hs hf ?_
    refine wpAny_mono (run_at F hb hx r2 rfl I (vs := [.ref a]) (.cons rfl .nil) h2) (fun v s' q => ?_) fun _ _ z => z
    obtain ⟨w, H', I', rw', q'⟩ := q
    unfold BackS at q'
    split at q'
    · rename_i z0
      obtain ⟨t, rfl⟩ := rw'
      exact ⟨.str z0, H', I', ⟨t, rfl⟩, q'⟩
    · exact q'.elim
  · exact k_str pins s σ H xs us Q I r h
end
end CL
set_option Elab.async false
set_option linter.all false
set_option maxRecDepth 100000
set_option maxHeartbeats 2000000
namespace CL
open PySem PySem.Spec PyProof.Rows L2 RZ SkE
section
variable {X : Cx} {e : Expr} {te : TE} {pos : Pos}
def onJ (k : Str → Hp → Prop) : VK := fun x H => match x with
  | .str y => k y H
  | _ => False
theorem onJ_eq (k : Str → Hp → Prop) : onJ k = fun x H => ∃ y, x = .str y ∧ k y H := by
  funext x H
  apply propext
  unfold onJ
  constructor
  · intro h
    split at h
    · exact ⟨_, rfl, h⟩
    · exact h.elim
  · rintro ⟨y, rfl, h⟩
    exact h
structure Join (K : PySem.W.Frag) (H : Hp) (p : Addr) (a : Str) (k : Str → Prop) : Prop where
  ex : ∃ ys : List Str, (SqL K H p (ys.map V.str) ∨ SqT K H p (ys.map V.str)) ∧ (ys.map (·.length)).sum + ys.length * a.length ≤ 16777216 ∧ k (Txt.join a ys)
def cJoin (K : PySem.W.Frag) (to te : TE) : TE := fun σ H Q => to σ H fun x H1 => match x with
  | .str a => te σ H1 (onR fun p H2 => Join K H2 p a fun z => Q (.str z) H2)
  | _ => False
theorem e_join {o e : Expr} {to te : TE} {apos pos : Pos} (ho : PE X o to) (he : PE X e te) (hs : starEach [e] X.env = [(false, eval e X.env)] := by rfl) (hbase : attributeBase o "join" X.env (eval o X.env) = eval o X.env := by rfl) (hline : (apos.endLine == pos.line) = true := by rfl) :
    PE X (.Call (.Attribute o "join" apos) [e] [] pos) (cJoin X.K to te) := by
  have e2 : cJoin X.K to te = fun σ H Q => to σ H (onJ fun a H1 => te σ H1 (onR fun p H2 => Join X.K H2 p a fun z => Q (.str z) H2)) := rfl
  rw [e2]
  have key := pe_join (X := X) (apos := apos) (pos := pos) ho he hs hbase hline
  refine ⟨fun pins s σ H Q I h => key.run pins s σ H Q I ?_⟩
  rw [onJ_eq] at h
  simp only [onR_eq] at h
  unfold tM1
  have e3 : (fun (x : V) (H1 : Hp) => ∃ y, x = V.str y ∧ te σ H1 fun x H => ∃ c, x = V.ref c ∧ Join X.K H c y fun z => Q (.str z) H) = fun x H1 => (∃ a, x = V.str a) ∧ te σ H1 fun y H2 => ∃ a p, ∃ ys : List Str, x = .str a ∧ [y] = [.ref p] ∧ (SqL X.K H2 p (ys.map V.str) ∨ SqT X.K H2 p (ys.map V.str)) ∧
      (ys.map (·.length)).sum + ys.length * a.length ≤ 16777216 ∧ Q (.str (Txt.join a ys)) H2 := by
    funext x H1
    apply propext
    constructor
    · rintro ⟨a, rfl, h⟩
      refine ⟨⟨a, rfl⟩, ?_⟩
      have e4 : (fun (x : V) (H : Hp) => ∃ c, x = V.ref c ∧ Join X.K H c a fun z => Q (.str z) H) = fun y H2 => ∃ a' p, ∃ ys : List Str, V.str a = .str a' ∧ [y] = [V.ref p] ∧ (SqL X.K H2 p (ys.map V.str) ∨ SqT X.K H2 p (ys.map V.str)) ∧ (ys.map (·.length)).sum + ys.length * a'.length ≤ 16777216 ∧ Q (.str (Txt.join a' ys)) H2 := by
        funext y H2
        apply propext
        constructor
        · rintro ⟨c, rfl, ⟨ys, h1, h2, h3⟩⟩
          exact ⟨a, c, ys, rfl, rfl, h1, h2, h3⟩
        · rintro ⟨a', p, ys, e, e', h1, h2, h3⟩
          cases e
          cases e'
          exact ⟨p, rfl, ⟨ys, h1, h2, h3⟩⟩
      rw [e4] at h
      exact h
    · rintro ⟨⟨a, rfl⟩, h⟩
      refine ⟨a, rfl, ?_⟩
      have e4 : (fun (x : V) (H : Hp) => ∃ c, x = V.ref c ∧ Join X.K H c a fun z => Q (.str z) H) = fun y H2 => ∃ a' p, ∃ ys : List Str, V.str a = .str a' ∧ [y] = [V.ref p] ∧ (SqL X.K H2 p (ys.map V.str) ∨ SqT X.K H2 p (ys.map V.str)) ∧ (ys.map (·.length)).sum + ys.length * a'.length ≤ 16777216 ∧ Q (.str (Txt.join a' ys)) H2 := by
        funext y H2
        apply propext
        constructor
        · rintro ⟨c, rfl, ⟨ys, h1, h2, h3⟩⟩
          exact ⟨a, c, ys, rfl, rfl, h1, h2, h3⟩
        · rintro ⟨a', p, ys, e, e', h1, h2, h3⟩
          cases e
          cases e'
          exact ⟨p, rfl, ⟨ys, h1, h2, h3⟩⟩
      rw [e4]
      exact h
  rw [e3] at h
  exact h
end
structure SlL (K : PySem.W.Frag) (H : Hp) (a : Addr) (lo hi : Option Int) (Q : VK) : Prop where
  ex : (∃ xs, SqL K H a xs ∧ New H (.lst (cutV xs lo hi)) fun p H' => Q (.ref p) H')
structure MethR (H : Hp) (C : Addr) (m : Str) (a : Addr) (k : Prop) : Prop where
  ex : ∃ dx fs, H a = some (.ins C dx fs) ∧ fs.lookup m = none ∧ k
section
variable {K : PySem.W.Frag} {g : TG} {tb : TS} {D : Ends} {σ : L2.St} {H : Hp} {a b : Addr} {xs ys : List V}
theorem fw_range {lo : Int} {n : Nat} (Pv : Nat → L2.St → Hp → Prop) (h0 : Pv 0 σ H) (hs : ∀ i σ H, i < n → Pv i σ H → g (.int (lo + i)) σ H fun σ2 H2 => tb { D with nx := Pv (i + 1), ct := Pv (i + 1), bk := D.nx } σ2 H2) (hd : ∀ σ H, Pv n σ H → D.nx σ H) : ForW (Itr lo n) g tb D σ H := ⟨for_range Pv h0 hs hd⟩
theorem fw_tup (Pv : Nat → L2.St → Hp → Prop) (h0 : Pv 0 σ H) (hl : ∀ i σ H, i ≤ xs.length → Pv i σ H → SqT K H a xs) (hs : ∀ i x σ H, xs[i]? = some x → Pv i σ H → g x σ H fun σ2 H2 => tb { D with nx := Pv (i + 1), ct := Pv (i + 1), bk := D.nx } σ2 H2)
    (hd : ∀ σ H, Pv xs.length σ H → D.nx σ H) : ForW (Itt K a) g tb D σ H := ⟨for_tup Pv h0 hl hs hd⟩
variable {tt : TT} {te : TE} {vs : List Nat} {Qd : Hp → Prop} {p : Addr}
/-- one turn of a comprehension without a test -/
def LcStep (g : TG) (tt : TT) (te : TE) (vs : List Nat) (σ : L2.St) (p : Addr) (x : V) (H : Hp) (Nx : Hp → Prop) : Prop := g x (wipe σ vs) H fun σ2 H2 => wipe σ2 vs = wipe σ vs ∧ tt σ2 H2 fun b H3 =>
    if b = true then te σ2 H3 fun y H4 => ∃ acc, H4 p = some (.lst acc) ∧ acc.length < sizeLine ∧ Nx (upd H4 p (.lst (acc ++ [y]))) else Nx H3
theorem lw_range {lo : Int} {n : Nat} (Pv : Nat → Hp → Prop) (h0 : Pv 0 (upd H p (.lst []))) (hs : ∀ i H, i < n → Pv i H → LcStep g tt te vs σ p (.int (lo + i)) H (Pv (i + 1))) (hd : ∀ H, Pv n H → Qd H) : LcW (Itr lo n) g tt te vs σ p Qd H := ⟨lc_range Pv h0 hs hd⟩
theorem lw_list (Pv : Nat → Hp → Prop) (h0 : Pv 0 (upd H p (.lst []))) (hl : ∀ i H, i ≤ xs.length → Pv i H → SqL K H a xs) (hs : ∀ i x H, xs[i]? = some x → Pv i H → LcStep g tt te vs σ p x H (Pv (i + 1))) (hd : ∀ H, Pv xs.length H → Qd H) : LcW (Itl K a) g tt te vs σ p Qd H := ⟨lc_list Pv h0 hl hs hd⟩
theorem lw_tup (Pv : Nat → Hp → Prop) (h0 : Pv 0 (upd H p (.lst []))) (hl : ∀ i H, i ≤ xs.length → Pv i H → SqT K H a xs) (hs : ∀ i x H, xs[i]? = some x → Pv i H → LcStep g tt te vs σ p x H (Pv (i + 1))) (hd : ∀ H, Pv xs.length H → Qd H) : LcW (Itt K a) g tt te vs σ p Qd H := ⟨lc_tup Pv h0 hl hs hd⟩
end
end CL
set_option Elab.async false
set_option linter.all false
set_option maxRecDepth 100000
set_option maxHeartbeats 2000000
namespace CL
open PySem PySem.Spec PyProof.Rows L2 RZ SkE
theorem c_ixK {X : Cx} {K : PySem.W.Frag} (h : X.K = K) : IxR X (rIxC K) := h ▸ c_ix
theorem c_eqK {X : Cx} {K : PySem.W.Frag} (h : X.K = K) (hu : X.A.units + 64 < cLine) : OpR X (compareOp .Eq) (rEqC K false) := h ▸ c_eq hu
/-- nothing is tracked at p -/
structure Fre (H : Hp) (p : Addr) : Prop where
  n : H p = none
section
variable {H H1 H2 Y : Hp} {a b p : Addr} {o : HO}
theorem But.tr (x : But b H H1) (y : But b H1 H2) : But b H H2 := fun a o n h => y a o n (x a o n h)
/-- an object that H does not know -/
theorem But.fresh (x : But b H H1) (n : Fre H p) : But b H (upd H1 p o) := fun a _ na h => upd_to (ne_of_none h n.n) (x a _ na h)
theorem Same.fresh (x : Same H H1) (n : Fre H p) : Same H (upd H1 p o) := fun a _ h => upd_to (ne_of_none h n.n) (x a _ h)
theorem Same.tr (x : Same H H1) (y : Same H1 H2) : Same H H2 := fun a o h => y a o (x a o h)
theorem But.back (x : But b H Y) (n : p ≠ b) (h : Fre Y p) : Fre H p := ⟨by
  cases e : H p with
  | none => rfl
  | some u =>
    have q := x p u n e
    rw [h.n] at q
    cases q⟩
theorem Same.bk (x : Same H Y) (h : Fre Y p) : Fre H p := ⟨by
  cases e : H p with
  | none => rfl
  | some u =>
    have q := x p u e
    rw [h.n] at q
    cases q⟩
/-- the script: no list of ours, or the module's -/
structure Scr (K : PySem.W.Frag) (H : Hp) (a : Addr) (xs : List V) : Prop where
  sq : SqL K H a xs
  no : ∀ u, H a = some u → ∃ ob ys, u = .frz ob (.lst ys)
theorem Scr.ne {K : PySem.W.Frag} {xs : List V} (s : Scr K H a xs) (h : H p = some o) (d : ∀ ob ys, o ≠ .frz ob (.lst ys)) : a ≠ p := fun e => by
  subst e
  obtain ⟨ob, ys, q⟩ := s.no o h
  exact d ob ys q
end
/-- an own class -/
structure ClsT (K : PySem.W.Frag) (mg : Str → Option Value) (C : Addr) (name : Str) : Prop where
  g : mg name = some (.ref C)
  cl : Cls K C
  ha : PySem.W.findIn K (.ref C) "__class__" = some (some (.builtin "object.__class__"))
  hn : PySem.W.specialIn K (.builtin "object.__class__") "__get__" = some (some (.builtin "getset_descriptor.__get__"))
  ht : PySem.W.takesIn K (.builtin "object.__class__") = some true
  hm : PySem.W.mroIn K C (.type "object") = some true
theorem ClsT.ty {K : PySem.W.Frag} {mg : Str → Option Value} {C : Addr} {name : Str} (t : ClsT K mg C name) {H : Hp} {a dx : Addr} {fs : List (Str × V)} (e : H a = some (.ins C dx fs)) : TyX K H (.ref a) (.ref C) := .base (.ins e t.cl t.ha t.hn t.ht t.hm)
theorem kit_self {K : PySem.W.Frag} {C : Addr} : PySem.W.kitOne K (.ref C) (.ref C) = some true := by
  unfold PySem.W.kitOne
  rw [if_pos (by simp)]
theorem isr_own {K : PySem.W.Frag} {mg : Str → Option Value} {C : Addr} {name : Str} (t : ClsT K mg C name) {H : Hp} {a dx : Addr} {fs : List (Str × V)} {k : Bool → Prop} (e : H a = some (.ins C dx fs)) (q : k true) : IsR K H (.ref a) C k := ⟨.inl ⟨_, _, t.ty e, kit_self, q⟩⟩
theorem notFirst_self {K : PySem.W.Frag} {C : Addr} : PySem.W.notFirst K C (.ref C) = true := by
  unfold PySem.W.notFirst
  rw [Bool.or_eq_true]
  exact .inl (by simp)
theorem kit_int_int {K : PySem.W.Frag} : PySem.W.kitOne K (.type "int") (.type "int") = some true := kit_ty (by decide +kernel)
theorem kit_int_bool {K : PySem.W.Frag} : PySem.W.kitOne K (.type "int") (.type "bool") = some false := kit_ty (by decide +kernel)
theorem kit_int_str {K : PySem.W.Frag} : PySem.W.kitOne K (.type "int") (.type "str") = some false := kit_ty (by decide +kernel)
theorem kit_int_list {K : PySem.W.Frag} : PySem.W.kitOne K (.type "int") (.type "list") = some false := kit_ty (by decide +kernel)
theorem kit_int_tuple {K : PySem.W.Frag} : PySem.W.kitOne K (.type "int") (.type "tuple") = some false := kit_ty (by decide +kernel)
theorem kit_bool_int {K : PySem.W.Frag} : PySem.W.kitOne K (.type "bool") (.type "int") = some true := kit_ty (by decide +kernel)
theorem kit_bool_bool {K : PySem.W.Frag} : PySem.W.kitOne K (.type "bool") (.type "bool") = some true := kit_ty (by decide +kernel)
theorem kit_bool_str {K : PySem.W.Frag} : PySem.W.kitOne K (.type "bool") (.type "str") = some false := kit_ty (by decide +kernel)
theorem kit_bool_list {K : PySem.W.Frag} : PySem.W.kitOne K (.type "bool") (.type "list") = some false := kit_ty (by decide +kernel)
theorem kit_bool_tuple {K : PySem.W.Frag} : PySem.W.kitOne K (.type "bool") (.type "tuple") = some false := kit_ty (by decide +kernel)
theorem kit_str_int {K : PySem.W.Frag} : PySem.W.kitOne K (.type "str") (.type "int") = some false := kit_ty (by decide +kernel)
theorem kit_str_bool {K : PySem.W.Frag} : PySem.W.kitOne K (.type "str") (.type "bool") = some false := kit_ty (by decide +kernel)
theorem kit_str_str {K : PySem.W.Frag} : PySem.W.kitOne K (.type "str") (.type "str") = some true := kit_ty (by decide +kernel)
theorem kit_str_list {K : PySem.W.Frag} : PySem.W.kitOne K (.type "str") (.type "list") = some false := kit_ty (by decide +kernel)
theorem kit_str_tuple {K : PySem.W.Frag} : PySem.W.kitOne K (.type "str") (.type "tuple") = some false := kit_ty (by decide +kernel)
theorem kit_list_int {K : PySem.W.Frag} : PySem.W.kitOne K (.type "list") (.type "int") = some false := kit_ty (by decide +kernel)
theorem kit_list_bool {K : PySem.W.Frag} : PySem.W.kitOne K (.type "list") (.type "bool") = some false := kit_ty (by decide +kernel)
theorem kit_list_str {K : PySem.W.Frag} : PySem.W.kitOne K (.type "list") (.type "str") = some false := kit_ty (by decide +kernel)
theorem kit_list_list {K : PySem.W.Frag} : PySem.W.kitOne K (.type "list") (.type "list") = some true := kit_ty (by decide +kernel)
theorem kit_list_tuple {K : PySem.W.Frag} : PySem.W.kitOne K (.type "list") (.type "tuple") = some false := kit_ty (by decide +kernel)
theorem kit_tuple_int {K : PySem.W.Frag} : PySem.W.kitOne K (.type "tuple") (.type "int") = some false := kit_ty (by decide +kernel)
theorem kit_tuple_bool {K : PySem.W.Frag} : PySem.W.kitOne K (.type "tuple") (.type "bool") = some false := kit_ty (by decide +kernel)
theorem kit_tuple_str {K : PySem.W.Frag} : PySem.W.kitOne K (.type "tuple") (.type "str") = some false := kit_ty (by decide +kernel)
theorem kit_tuple_list {K : PySem.W.Frag} : PySem.W.kitOne K (.type "tuple") (.type "list") = some false := kit_ty (by decide +kernel)
theorem kit_tuple_tuple {K : PySem.W.Frag} : PySem.W.kitOne K (.type "tuple") (.type "tuple") = some true := kit_ty (by decide +kernel)
theorem kit_NoneType_int {K : PySem.W.Frag} : PySem.W.kitOne K (.type "NoneType") (.type "int") = some false := kit_ty (by decide +kernel)
theorem kit_NoneType_bool {K : PySem.W.Frag} : PySem.W.kitOne K (.type "NoneType") (.type "bool") = some false := kit_ty (by decide +kernel)
theorem kit_NoneType_str {K : PySem.W.Frag} : PySem.W.kitOne K (.type "NoneType") (.type "str") = some false := kit_ty (by decide +kernel)
theorem kit_NoneType_list {K : PySem.W.Frag} : PySem.W.kitOne K (.type "NoneType") (.type "list") = some false := kit_ty (by decide +kernel)
theorem kit_NoneType_tuple {K : PySem.W.Frag} : PySem.W.kitOne K (.type "NoneType") (.type "tuple") = some false := kit_ty (by decide +kernel)
/-- a value, an integer of ours that is not below l -/
def intFrom (x : V) (l : Int) : Bool := match x with
  | .int i => decide (l ≤ i)
  | _ => false
/-- a list or a tuple that is tracked, or a flat value -/
inductive AnyV (H : Hp) : V → Prop
  | non : AnyV H .non
  | bl (b : Bool) : AnyV H (.bl b)
  | int (i : Int) : AnyV H (.int i)
  | str (z : Str) : AnyV H (.str z)
  | lst {a : Addr} {xs : List V} (e : H a = some (.lst xs)) : AnyV H (.ref a)
  | tup {a : Addr} {xs : List V} (e : H a = some (.tup xs)) : AnyV H (.ref a)
theorem at_two {x y : V} {c : Prop} [Decidable c] {k : V → Prop} (h1 : c → k y) (h0 : ¬ c → k x) : At [x, y] (if c then 1 else 0) k := by
  by_cases h : c
  · rw [if_pos h]; exact ⟨y, rfl, h1 h⟩
  · rw [if_neg h]; exact ⟨x, rfl, h0 h⟩
theorem log_small {i : Int} (h : i.natAbs < 2 ^ 200) : i.natAbs.log2 < 1920 := Nat.lt_of_lt_of_le (PySem.Flt.log2_lt_of (by decide) h) (by decide)
end CL
set_option Elab.async false
set_option linter.all false
set_option maxRecDepth 100000
set_option maxHeartbeats 2000000
namespace CL
open PySem PySem.Spec PyProof.Rows L2 RZ SkE
structure FnG (P : Program) (W0 : World) (K : PySem.W.Frag) (mg : Str → Option Value) (base : Heap) (CX : CXT) (k : Nat) (f : Addr) (fd : FuncData) (ps : List Str) (sp : Sp) : Prop where
  len : ∀ vs H Q E, sp vs H Q E → vs.length = ps.length
  run : ∀ (A : Around) (outer : List Env) (s : Shared) (H : Hp) (args : Args) (us : List Value) (vs : List V) (Q : VK) (E : XK), A.guards = some [] → Room k A → Env0 P W0 K mg base A outer s H → BindsTo s fd args (ps.zip us) → Vals vs us → sp vs H Q E →
    codeAny (model P W0) A (.call (.ref f) args) (CR CX outer P W0 H s Q E) s
section
variable {CX : CXT} {P : Program} {W0 : World} {K : PySem.W.Frag} {mg : Str → Option Value} {base : Heap} {k : Nat} {f : Addr} {fd : FuncData} {qual x : Str} {st : Stmt} {N ps : List Str} {sp : Sp}
/-- the rule for a def of the module, as Fun.ok, with the empty guard -/
theorem fun_okG (F : Fun K x qual st f fd) (S : FnScope N ps (defScope st)) (len : ∀ vs H Q E, sp vs H Q E → vs.length = ps.length)
    (hbody : ∀ (cdv : Value) (A : Around) (outer : List Env) (s : Shared) (H : Hp) (vs : List V) (Q : VK) (E : XK), A.guards = some [] → Room k (A.deeper (envOfC qual (defScope st) s.heap.objs.size f cdv)) → sp vs H Q E →
      ∃ t, PSs (cxOf CX0 P W0 K mg base N qual (defScope st) f cdv A outer s H E).nox (defBody st) t ∧ t { nx := fun _ H' => Q .non H', rt := Q } (L2.start N vs) H) : FnG P W0 K mg base CX0 (k + 1) f fd ps sp := by
  obtain ⟨oc, od, kV, doc, pm, an, cdv, ct, osl, rfl, lk, hcd⟩ := F.ex
  constructor
  · exact len
  · intro A outer s H args us vs Q E hG hr e0 hb r hsp
    obtain ⟨t, ht, hq⟩ := hbody cdv A outer s H vs Q E hG (hr.deeper _) hsp
    have inK : K.In s.heap := e0.mod.kin.keeps fun b o e => (e0.bs b o e).1
    have noL : s.heap.NoLimit := e0.mod.nolimit.keeps fun b o e => (e0.bs b o e).1
    refine codeAny_call_function hr.depth (inK _ _ lk) rfl S.co S.gen rfl (PySem.W.codeRec_of inK hcd) (hb _ _ _ _ ?_)
    refine wpAny_newFunctionEnv_cells S.kind (fun y hy => ?_) fun env he s1 z => ?_
    · obtain ⟨n, v⟩ := y
      exact (S.par n (List.of_mem_zip hy).1).elim .inl fun q => .inr ⟨q, PySem.W.cellsFrom_some _ _ _ (.inl q)⟩
    · subst he
      refine ⟨noL.keeps z.toInCall.keep, codeAny_func ?_⟩
      have I0 : Inv (cxOf CX0 P W0 K mg base N qual (defScope st) f cdv A outer s H E) [] (L2.start N vs) H s1 := inv_start S hr.hd e0 (len _ _ _ _ hsp) r z
      refine wpAny_mono (ht.nox.run [] s1 (L2.start N vs) H _ I0 hq) (fun fl s' hs => ?_) fun e s' hs => hs
      cases fl with
      | ret u => exact let ⟨v, σ', H', J, rv, q⟩ := hs; ⟨v, H', J.os, J.bare, J.base, J.hok, rv, q⟩
      | next => exact let ⟨σ', H', J, q⟩ := hs; ⟨V.non, H', J.os, J.bare, J.base, J.hok, rfl, q⟩
      | brk => exact let ⟨_, _, _, q⟩ := hs; q.elim
      | cont => exact let ⟨_, _, _, q⟩ := hs; q.elim
end
end CL
set_option Elab.async false
set_option linter.all false
set_option maxRecDepth 100000
set_option maxHeartbeats 2000000
namespace CL
open PySem PySem.Spec PyProof.Rows L2 RZ SkE
end CL
set_option Elab.async false
set_option linter.all false
set_option maxRecDepth 100000
set_option maxHeartbeats 2000000
namespace OW
open PySem PySem.Spec PyProof.Rows L2 RZ SkE CL
/-- an instance that is done: it never changes from now on -/
def doneF (fs : List (Str × V)) : Bool := (fs.lookup ("late" : Str)).isSome || ((fs.lookup ("events" : Str)).isSome || ((fs.lookup ("peak" : Str)).isSome && (fs.lookup ("rule" : Str)).isNone))
def imm : HO → Bool
  | .tup _ => true
  | .frz _ (.lst _) => true
  | .ins _ _ fs => doneF fs
  | _ => false
/-- what never changes stands as it stood -/
def Keep (H H' : Hp) : Prop := ∀ a o, H a = some o → imm o = true → H' a = some o
def Stable (R : Hp → Prop) : Prop := ∀ H H', Keep H H' → R H → R H'
structure OwnF (H : Hp) (L : List (Addr × HO)) (I : List (Hp → Prop)) : Prop where
  at_ : ∀ c ∈ L, H c.1 = some c.2
  nd : (L.map Prod.fst).Nodup
  im : ∀ R ∈ I, R H ∧ Stable R
/-- one of a list, the others -/
inductive Pull {α : Type} : List α → α → List α → Prop
  | head {c : α} {L : List α} : Pull (c :: L) c L
  | tail {c d : α} {L R : List α} (h : Pull L c R) : Pull (d :: L) c (d :: R)
theorem Pull.perm {α : Type} {L : List α} {c : α} {R : List α} (h : Pull L c R) : L.Perm (c :: R) := by
  induction h with
  | head => exact List.Perm.refl _
  | tail h ih => exact (List.Perm.cons _ ih).trans (List.Perm.swap _ _ _)
/-- some of a list, in this order -/
inductive Pick {α : Type} : List α → List α → Prop
  | nil {L : List α} : Pick L []
  | all {L : List α} : Pick L L
  | cons {L R M : List α} {c : α} (h : Pull L c R) (t : Pick R M) : Pick L (c :: M)
  | skip {L M : List α} {c : α} (t : Pick L M) : Pick (c :: L) M
theorem Pick.sub {α : Type} {L M : List α} (h : Pick L M) : ∃ G, L.Perm (M ++ G) := by
  induction h with
  | nil => exact ⟨_, List.Perm.refl _⟩
  | @all L => exact ⟨[], by rw [List.append_nil]⟩
  | cons h t ih =>
    obtain ⟨G, e⟩ := ih
    exact ⟨G, h.perm.trans (List.Perm.cons _ e)⟩
  | @skip L M c t ih =>
    obtain ⟨G, e⟩ := ih
    exact ⟨c :: G, (List.Perm.cons _ e).trans List.perm_middle.symm⟩
section
variable {H H' : Hp} {L R M : List (Addr × HO)} {I J : List (Hp → Prop)} {a b p : Addr} {o o' : HO}
theorem OwnF.perm (h : OwnF H L I) (e : L.Perm M) : OwnF H M I := ⟨fun c m => h.at_ c (e.mem_iff.mpr m), (e.map Prod.fst).nodup_iff.mp h.nd, h.im⟩
theorem OwnF.pre {G : List (Addr × HO)} (h : OwnF H (L ++ G) I) : OwnF H L I := ⟨fun c m => h.at_ c (List.mem_append_left _ m), by
  have := h.nd
  rw [List.map_append] at this
  exact (List.nodup_append.mp this).1, h.im⟩
theorem OwnF.subI (h : OwnF H L I) (e : ∀ R ∈ J, R ∈ I) : OwnF H L J := ⟨h.at_, h.nd, fun R m => h.im R (e R m)⟩
theorem OwnF.pull (h : OwnF H L I) (e : Pull L (a, o) R) : OwnF H ((a, o) :: R) I := h.perm e.perm
theorem OwnF.get (h : OwnF H L I) (e : Pull L (a, o) R) : H a = some o := h.at_ (a, o) (e.perm.mem_iff.mpr List.mem_cons_self)
theorem OwnF.hd (h : OwnF H ((a, o) :: R) I) : H a = some o := h.at_ (a, o) List.mem_cons_self
theorem OwnF.tl (h : OwnF H ((a, o) :: R) I) : OwnF H R I := ⟨fun c m => h.at_ c (List.mem_cons_of_mem _ m), (List.nodup_cons.mp h.nd).2, h.im⟩
theorem OwnF.new (h : OwnF H L I) (n : H p = none) : OwnF (upd H p o) ((p, o) :: L) I := by
  refine ⟨fun c m => ?_, ?_, fun R m => ⟨?_, (h.im R m).2⟩⟩
  · rcases List.mem_cons.mp m with rfl | m
    · exact upd_same
    · have q := h.at_ c m
      rw [upd_ne (ne_of_none q n)]
      exact q
  · rw [List.map_cons, List.nodup_cons]
    refine ⟨fun m => ?_, h.nd⟩
    obtain ⟨c, mc, e⟩ := List.mem_map.mp m
    have q := h.at_ c mc
    rw [e, show (p, o).1 = p from rfl, n] at q
    cases q
  · refine (h.im R m).2 H _ (fun a u q _ => ?_) (h.im R m).1
    rw [upd_ne (ne_of_none q n)]
    exact q
theorem OwnF.put (h : OwnF H L I) (e : Pull L (a, o) R) (m : imm o = false) : OwnF (upd H a o') ((a, o') :: R) I := by
  have h1 := h.pull e
  have nd := List.nodup_cons.mp h1.nd
  refine ⟨fun c mc => ?_, ?_, fun S mS => ⟨?_, (h.im S mS).2⟩⟩
  · rcases List.mem_cons.mp mc with rfl | mc
    · exact upd_same
    · have q := h1.at_ c (List.mem_cons_of_mem _ mc)
      rw [upd_ne (fun e => nd.1 (List.mem_map.mpr ⟨c, mc, e⟩))]
      exact q
  · exact List.nodup_cons.mpr nd
  · refine (h.im S mS).2 H _ (fun b u q i => ?_) (h.im S mS).1
    rw [upd_ne (fun e => ?_)]
    · exact q
    · subst e
      rw [h1.hd] at q
      cases q
      rw [m] at i
      cases i
theorem OwnF.imp {S : Hp → Prop} (h : OwnF H L I) (m : S ∈ I) : S H := (h.im S m).1
theorem OwnF.addI {S : Hp → Prop} (h : OwnF H L I) (s : Stable S) (q : S H) : OwnF H L (S :: I) := ⟨h.at_, h.nd, fun R m => by
  rcases List.mem_cons.mp m with rfl | m
  · exact ⟨q, s⟩
  · exact h.im R m⟩
theorem OwnF.ne {u v : HO} (h : OwnF H L I) (e : Pull L (a, u) R) (f : Pull R (b, v) M) : a ≠ b := fun z => by
  have nd := List.nodup_cons.mp (h.pull e).nd
  exact nd.1 (List.mem_map.mpr ⟨(b, v), f.perm.mem_iff.mpr List.mem_cons_self, z.symm⟩)
end
inductive Ck where
  | pt (a : Addr) (o : HO)
  | ab (P : List (Addr × HO) → Prop)
inductive Flat : List Ck → List (Addr × HO) → Prop
  | nil : Flat [] []
  | pt {a : Addr} {o : HO} {L : List Ck} {F : List (Addr × HO)} (h : Flat L F) : Flat (.pt a o :: L) ((a, o) :: F)
  | ab {P : List (Addr × HO) → Prop} {l F : List (Addr × HO)} {L : List Ck} (p : P l) (h : Flat L F) : Flat (.ab P :: L) (l ++ F)
theorem Flat.perm {L M : List Ck} (e : L.Perm M) : ∀ {F : List (Addr × HO)}, Flat L F → ∃ G, Flat M G ∧ F.Perm G := by
  induction e with
  | nil => exact fun h => ⟨_, h, List.Perm.refl _⟩
  | cons x _ ih =>
    intro F h
    cases h with
    | pt h => obtain ⟨G, f, p⟩ := ih h; exact ⟨_, .pt f, List.Perm.cons _ p⟩
    | ab q h => obtain ⟨G, f, p⟩ := ih h; exact ⟨_, .ab q f, List.Perm.append_left _ p⟩
  | swap x y _ =>
    intro F h
    cases h with
    | pt h =>
      cases h with
      | pt h => exact ⟨_, .pt (.pt h), List.Perm.swap _ _ _⟩
      | ab q h => exact ⟨_, .ab q (.pt h), List.perm_middle.symm⟩
    | ab q h =>
      cases h with
      | pt h => exact ⟨_, .pt (.ab q h), List.perm_middle⟩
      | ab q2 h => exact ⟨_, .ab q2 (.ab q h), by rw [← List.append_assoc, ← List.append_assoc]; exact List.Perm.append_right _ List.perm_append_comm⟩
  | trans _ _ ih1 ih2 =>
    intro F h
    obtain ⟨G, f, p⟩ := ih1 h
    obtain ⟨G2, f2, p2⟩ := ih2 f
    exact ⟨G2, f2, p.trans p2⟩
theorem Flat.app {L M : List Ck} : ∀ {F : List (Addr × HO)}, Flat (L ++ M) F → ∃ A B, Flat L A ∧ Flat M B ∧ F = A ++ B := by
  induction L with
  | nil => exact fun h => ⟨[], _, .nil, h, rfl⟩
  | cons c L ih =>
    intro F h
    cases h with
    | pt h => obtain ⟨A, B, f, g, rfl⟩ := ih h; exact ⟨_, B, .pt f, g, rfl⟩
    | ab q h => obtain ⟨A, B, f, g, rfl⟩ := ih h; exact ⟨_, B, .ab q f, g, (List.append_assoc _ _ _).symm⟩
structure Own (H : Hp) (L : List Ck) (I : List (Hp → Prop)) : Prop where
  ex : ∃ F, Flat L F ∧ OwnF H F I
section
variable {H H' : Hp} {L R M : List Ck} {I J : List (Hp → Prop)} {a b p : Addr} {o o' : HO} {c : Ck}
theorem Own.perm (h : Own H L I) (e : L.Perm M) : Own H M I := by
  obtain ⟨F, f, w⟩ := h.ex
  obtain ⟨G, g, p⟩ := f.perm e
  exact ⟨G, g, w.perm p⟩
theorem Own.pre {G : List Ck} (h : Own H (L ++ G) I) : Own H L I := by
  obtain ⟨F, f, w⟩ := h.ex
  obtain ⟨A, B, f1, _, rfl⟩ := f.app
  exact ⟨A, f1, w.pre⟩
theorem Own.pick (h : Own H L I) (e : Pick L M) : Own H M I := let ⟨_, e⟩ := e.sub; (h.perm e).pre
theorem Own.subI (h : Own H L I) (e : ∀ R ∈ J, R ∈ I) : Own H L J := let ⟨F, f, w⟩ := h.ex; ⟨F, f, w.subI e⟩
theorem Own.pull (h : Own H L I) (e : Pull L c R) : Own H (c :: R) I := h.perm e.perm
theorem Own.hd (h : Own H (.pt a o :: R) I) : H a = some o := by
  obtain ⟨F, f, w⟩ := h.ex
  cases f with
  | pt f => exact w.hd
theorem Own.get (h : Own H L I) (e : Pull L (.pt a o) R) : H a = some o := (h.pull e).hd
theorem Own.tl (h : Own H (c :: R) I) : Own H R I := (h.perm (M := R ++ [c]) (List.perm_append_comm (l₁ := [c]))).pre
theorem Own.new (h : Own H L I) (n : H p = none) : Own (upd H p o) (.pt p o :: L) I := let ⟨F, f, w⟩ := h.ex; ⟨_, .pt f, w.new n⟩
theorem Own.put (h : Own H L I) (e : Pull L (.pt a o) R) (m : imm o = false) : Own (upd H a o') (.pt a o' :: R) I := by
  obtain ⟨F, f, w⟩ := (h.pull e).ex
  cases f with
  | pt f => exact ⟨_, .pt f, w.put .head m⟩
theorem Own.imp {S : Hp → Prop} (h : Own H L I) (m : S ∈ I) : S H := let ⟨_, _, w⟩ := h.ex; w.imp m
theorem Own.addI {S : Hp → Prop} (h : Own H L I) (s : Stable S) (q : S H) : Own H L (S :: I) := let ⟨F, f, w⟩ := h.ex; ⟨F, f, w.addI s q⟩
theorem Own.ne {u v : HO} (h : Own H L I) (e : Pull L (.pt a u) R) (f : Pull R (.pt b v) M) : a ≠ b := by
  obtain ⟨F, g, w⟩ := ((h.pull e).perm (List.Perm.cons _ f.perm)).ex
  cases g with
  | pt g =>
    cases g with
    | pt g => exact w.ne .head .head
/-- a bundle opened and closed -/
theorem Own.open_ {P : List (Addr × HO) → Prop} (h : Own H (.ab P :: R) I) : ∃ l, P l ∧ Own H (l.map (fun x => Ck.pt x.1 x.2) ++ R) I := by
  obtain ⟨F, f, w⟩ := h.ex
  cases f with
  | @ab _ l F _ p f =>
    refine ⟨l, p, _, ?_, w⟩
    clear w p
    induction l with
    | nil => exact f
    | cons x l ih => exact .pt ih
theorem Own.close {P : List (Addr × HO) → Prop} {l : List (Addr × HO)} (p : P l) (h : Own H (l.map (fun x => Ck.pt x.1 x.2) ++ R) I) : Own H (.ab P :: R) I := by
  obtain ⟨F, f, w⟩ := h.ex
  have : ∃ G, Flat R G ∧ F = l ++ G := by
    clear w p h
    induction l generalizing F with
    | nil => exact ⟨F, f, rfl⟩
    | cons x l ih =>
      cases f with
      | pt f => obtain ⟨G, g, rfl⟩ := ih _ f; exact ⟨G, g, rfl⟩
  obtain ⟨G, g, rfl⟩ := this
  exact ⟨_, .ab p g, w⟩
end
/-- a tuple that stays -/
abbrev tupI (a : Addr) (xs : List V) : Hp → Prop := fun H => H a = some (.tup xs)
/-- the script in a form that stays: locked, or of the module's own -/
abbrev seqI (K : PySem.W.Frag) (a : Addr) (xs : List V) : Hp → Prop := fun H => SqL K H a xs ∧ ((∃ o, H a = some (.frz o (.lst xs))) ∨ ∀ H', SqL K H' a xs)
theorem stable_seq {K : PySem.W.Frag} {a : Addr} {xs : List V} : Stable (seqI K a xs) := fun H H' k h => by
  obtain ⟨h, ⟨o, f⟩ | f⟩ := h
  · have q := k _ _ f rfl
    exact ⟨.inl (.inr ⟨o, q⟩), .inl ⟨o, q⟩⟩
  · exact ⟨f H', .inr f⟩
theorem seqI_of {K : PySem.W.Frag} {H : Hp} {a : Addr} {xs : List V} (s : Scr K H a xs) : seqI K a xs H := by
  refine ⟨s.sq, ?_⟩
  rcases s.sq with (h | ⟨o, h⟩) | h
  · obtain ⟨ob, ys, e⟩ := s.no _ h
    cases e
  · exact .inl ⟨o, h⟩
  · exact .inr fun H' => .inr h
theorem own_nil {H : Hp} : Own H [] [] := ⟨[], .nil, ⟨fun c m => (List.not_mem_nil m).elim, List.nodup_nil, fun R m => (List.not_mem_nil m).elim⟩⟩
section
variable {K : PySem.W.Frag} {H : Hp} {L R M : List Ck} {I : List (Hp → Prop)} {a b p : Addr} {o o' : HO} {xs ys : List V}
theorem new_o {k : Addr → Hp → Prop} (h : Own H L I) (q : ∀ p H', Own H' (.pt p o :: L) I → k p H') : New H o k := ⟨fun p n => q p _ (h.new n)⟩
theorem sq_l {k : List V → Prop} (h : Own H L I) (e : Pull L (.pt a (.lst xs)) R) (q : k xs) : Sq K H a k := Sq.l (SqL.of (h.get e)) q
theorem sq_t {k : List V → Prop} (h : Own H L I) (e : Pull L (.pt a (.tup xs)) R) (q : k xs) : Sq K H a k := Sq.t (SqT.of (h.get e)) q
theorem sq_s {k : List V → Prop} (h : Own H L I) (e : seqI K a xs ∈ I) (q : k xs) : Sq K H a k := Sq.l (h.imp e).1 q
theorem sq_i {k : List V → Prop} (h : Own H L I) (e : tupI a xs ∈ I) (q : k xs) : Sq K H a k := Sq.t (SqT.of (h.imp e)) q
theorem ls_o {k : List V → Prop} (h : Own H L I) (e : Pull L (.pt a (.lst xs)) R) (q : k xs) : Ls H a k := Ls.mk' (h.get e) q
theorem fld_o {C dx : Addr} {fs : List (Str × V)} {f : Str} {v : V} {k : V → Prop} (h : Own H L I) (e : Pull L (.pt a (.ins C dx fs)) R) (c : Cls K C) (n : NoAttr K C f) (l : fs.lookup f = some v) (q : k v) : Fld K H a f k := ⟨C, dx, fs, v, h.get e, c, n, l, q⟩
theorem setf_o {C dx : Addr} {fs : List (Str × V)} {f : Str} {y : V} {k : Hp → Prop} (h : Own H L I) (e : Pull L (.pt a (.ins C dx fs)) R) (c : Cls K C) (n : NoAttr K C f) (l : fs.length < 1000) (m : doneF fs = false) (q : ∀ H', Own H' (.pt a (.ins C dx (putF f y fs)) :: R) I → k H') : SetF K H a f y k := ⟨C, dx, fs, h.get e, c, n, l, q _ (h.put e m)⟩
theorem setl_o {i : Int} {j : Nat} {v : V} {Q : Hp → Prop} (h : Own H L I) (e : Pull L (.pt a (.lst xs)) R) (x : ixN xs.length i = some j) (q : ∀ H', Own H' (.pt a (.lst (xs.set j v)) :: R) I → Q H') : SetL H a i v Q := ⟨xs, j, h.get e, x, q _ (h.put e rfl)⟩
theorem unt_o {n : Nat} {k : List V → Prop} (h : Own H L I) (e : Pull L (.pt a (.tup xs)) R) (l : xs.length = n) (q : k xs) : UnT K H a n k := ⟨xs, SqT.of (h.get e), l, q⟩
theorem sll_o {lo hi : Option Int} {Q : VK} (h : Own H L I) (e : Pull L (.pt a (.lst xs)) R) (q : ∀ p H', Own H' (.pt p (.lst (cutV xs lo hi)) :: L) I → Q (.ref p) H') : SlL K H a lo hi Q := ⟨xs, SqL.of (h.get e), new_o h q⟩
theorem sll_s {lo hi : Option Int} {Q : VK} (h : Own H L I) (e : seqI K a xs ∈ I) (q : ∀ p H', Own H' (.pt p (.lst (cutV xs lo hi)) :: L) I → Q (.ref p) H') : SlL K H a lo hi Q := ⟨xs, (h.imp e).1, new_o h q⟩
theorem tupr_l {Q : VK} (h : Own H L I) (e : Pull L (.pt a (.lst xs)) R) (q : ∀ p H', Own H' (.pt p (.tup xs) :: L) I → Q (.ref p) H') : TupR K H a Q := ⟨xs, .inl ⟨SqL.of (h.get e), new_o h q⟩⟩
theorem tupr_t {Q : VK} (h : Own H L I) (e : Pull L (.pt a (.tup xs)) R) (q : Q (.ref a) H) : TupR K H a Q := ⟨xs, .inr ⟨SqT.of (h.get e), q⟩⟩
theorem meth_o {C dx : Addr} {fs : List (Str × V)} {m : Str} {k : Prop} (h : Own H L I) (e : Pull L (.pt a (.ins C dx fs)) R) (l : fs.lookup m = none) (q : k) : MethR H C m a k := ⟨dx, fs, h.get e, l, q⟩
theorem its_l {P : It → Hp → Prop} (h : Own H L I) (e : Pull L (.pt a (.lst xs)) R) (q : P (Itl K a) H) : ItS K H a P := ⟨.inl ⟨⟨xs, SqL.of (h.get e)⟩, q⟩⟩
theorem its_t {P : It → Hp → Prop} (h : Own H L I) (e : Pull L (.pt a (.tup xs)) R) (q : P (Itt K a) H) : ItS K H a P := ⟨.inr ⟨⟨xs, SqT.of (h.get e)⟩, q⟩⟩
theorem its_s {P : It → Hp → Prop} (h : Own H L I) (e : seqI K a xs ∈ I) (q : P (Itl K a) H) : ItS K H a P := ⟨.inl ⟨⟨xs, (h.imp e).1⟩, q⟩⟩
theorem ite_l {P : It → Hp → Prop} (h : Own H L I) (e : Pull L (.pt a (.lst xs)) R) (q : P (Ite K a) H) : ItE K H a P := ⟨⟨xs, SqL.of (h.get e)⟩, q⟩
end
/-- a list that a method changes -/
structure Grow (H : Hp) (l : Addr) (o : HO) (Q : VK) (v : V) : Prop where
  q : Q v (upd H l o)
def rAppG : V → List V → Hp → VK → Prop := fun x vs H Q => match x, vs with
  | .ref l, [y] => Ls H l fun xs => Chk (xs.length < sizeLine) (Grow H l (.lst (xs ++ [y])) Q .non)
  | _, _ => False
theorem m_appG {X : Cx} : MtR X "list.append" rAppG := by
  intro pins s σ H x xs v us Q I rx rs h
  unfold rAppG at h
  split at h
  · obtain ⟨⟨ys, h1, h2⟩⟩ := h
    exact m_append pins s σ H _ _ v us Q I rx rs ⟨ys, h1, ⟨h2.p, h2.k.q⟩⟩
  · exact h.elim
theorem grow_o {H : Hp} {L R : List Ck} {I : List (Hp → Prop)} {l : Addr} {o o' : HO} {Q : VK} {v : V} (h : Own H L I) (e : Pull L (.pt l o) R) (m : imm o = false) (q : ∀ H', Own H' (.pt l o' :: R) I → Q v H') : Grow H l o' Q v := ⟨q _ (h.put e m)⟩
section
variable {K : PySem.W.Frag} {g : TG} {tt : TT} {te : TE} {vs : List Nat} {σ : L2.St} {H : Hp} {L : List Ck} {I : List (Hp → Prop)} {a b : Addr} {xs ys : List V} {Qd : Addr → Hp → Prop}
theorem newa_o {k : Addr → Prop} (h : Own H L I) (q : ∀ p, Own (upd H p (.lst [])) (.pt p (.lst []) :: L) I → k p) : NewA H k := ⟨fun p n => q p (h.new n)⟩
/-- a turn's end -/
structure Acc (p : Addr) (y : V) (H : Hp) (N : Hp → Prop) : Prop where
  ex : ∃ acc, H p = some (.lst acc) ∧ acc.length < sizeLine ∧ N (upd H p (.lst (acc ++ [y])))
end
structure NxW (W : Nat → L2.St → Hp → Prop) (m : Nat) (t : (L2.St → Hp → Prop) → Prop) : Prop where
  ex : ∃ N : L2.St → Hp → Prop, (∀ σ' H', N σ' H' → ∃ m', m' < m ∧ W m' σ' H') ∧ t N
theorem nxw_mk {W : Nat → L2.St → Hp → Prop} {m : Nat} {t : (L2.St → Hp → Prop) → Prop} (h : t fun σ' H' => ∃ m', m' < m ∧ W m' σ' H') : NxW W m t := ⟨_, fun _ _ z => z, h⟩
end OW
set_option Elab.async false
set_option linter.all false
set_option maxRecDepth 100000
set_option maxHeartbeats 2000000
namespace OW
open PySem PySem.Spec PyProof.Rows L2 RZ SkE CL
mutual
def bnd : PyData → Nat
  | .none => 4
  | .bool _ => 5
  | .int _ => 1921
  | .str x => (reprText x).length
  | .list xs => bndAll xs + 2
  | .tuple xs => bndAll xs + 3
  | .dict _ => 0
def bndAll : List PyData → Nat
  | [] => 0
  | x :: xs => bnd x + 2 + bndAll xs
end
/-- a value that can be shown: its data -/
structure RepV (K : PySem.W.Frag) (H : Hp) (x : V) (k : Str → Prop) : Prop where
  ex : ∃ d, Dp K H x d ∧ d.showable = true ∧ d.hasDict = false ∧ d.depth ≤ 60 ∧ bnd d ≤ sizeLine ∧ k d.shown
theorem rep_int {K : PySem.W.Frag} {H : Hp} {i : Int} {k : Str → Prop} (h : i.natAbs.log2 < 1920) (q : k (PyData.int i).shown) : RepV K H (.int i) k := ⟨.int i, .int i, by simp [PyData.showable, h], rfl, Nat.zero_le _, by show 1921 ≤ sizeLine; rw [sizeLine_eq]; decide, q⟩
theorem rep_non {K : PySem.W.Frag} {H : Hp} {k : Str → Prop} (q : k PyData.none.shown) : RepV K H .non k := ⟨.none, .non, rfl, rfl, by decide, by show 4 ≤ sizeLine; rw [sizeLine_eq]; decide, q⟩
theorem rep_bl {K : PySem.W.Frag} {H : Hp} {b : Bool} {k : Str → Prop} (q : k (PyData.bool b).shown) : RepV K H (.bl b) k := ⟨.bool b, .bl b, rfl, rfl, Nat.zero_le _, by show 5 ≤ sizeLine; rw [sizeLine_eq]; decide, q⟩
theorem rep_mk {K : PySem.W.Frag} {H : Hp} {x : V} {d : PyData} {k : Str → Prop} (h : Dp K H x d) (h1 : d.showable = true) (h2 : d.hasDict = false) (h3 : d.depth ≤ 60) (h4 : bnd d ≤ 16000000) (q : k d.shown) : RepV K H x k := ⟨d, h, h1, h2, h3, Nat.le_trans h4 (by rw [sizeLine_eq]; decide), q⟩
theorem dpAll_ints {K : PySem.W.Frag} {H : Hp} : ∀ ns : List Int, DpAll K H (ns.map V.int) (ns.map PyData.int)
  | [] => .nil
  | n :: ns => .cons (.int n) (dpAll_ints ns)
theorem dpAll_strs {K : PySem.W.Frag} {H : Hp} : ∀ ns : List Str, DpAll K H (ns.map V.str) (ns.map PyData.str)
  | [] => .nil
  | n :: ns => .cons (.str n) (dpAll_strs ns)
theorem eqd_mk {K : PySem.W.Frag} {H : Hp} {x y : V} {d e : PyData} {k : Bool → Prop} (h : Dp K H x d) (g : Dp K H y e) (h1 : SeqAt.shaped d = true) (g1 : SeqAt.shaped e = true) (q : k (PyData.eqv d e)) : EqD K H x y k := ⟨d, e, h, g, h1, g1, q⟩
end OW
set_option Elab.async false
set_option linter.all false
set_option maxRecDepth 100000
set_option maxHeartbeats 2000000
namespace OW
open PySem PySem.Spec PyProof.Rows L2 RZ SkE CL
structure LastOf (xs : List V) (k : V → Prop) : Prop where
  ex : ∃ y, xs[xs.length - 1]? = some y ∧ k y
structure RevR (K : PySem.W.Frag) (H : Hp) (a : Addr) (Q : VK) : Prop where
  ex : ∃ xs, SqL K H a xs ∧ New H (.lst xs.reverse) fun p H' => Q (.ref p) H'
section
variable {K : PySem.W.Frag} {H : Hp} {L R : List Ck} {I : List (Hp → Prop)} {a p : Addr} {xs : List V}
theorem rev_o {Q : VK} (h : Own H L I) (e : Pull L (.pt a (.lst xs)) R) (q : ∀ p H', Own H' (.pt p (.lst xs.reverse) :: L) I → Q (.ref p) H') : RevR K H a Q := ⟨xs, SqL.of (h.get e), new_o h q⟩
/-- a new instance handed to its __init__ -/
theorem make_o {C : Addr} {k : Addr → Hp → Prop} (h : Own H L I) (q : ∀ x dx H', Own H' (.pt x (.ins C dx []) :: L) I → k x H') : ∀ x dx, H x = none → H dx = none → dx ≠ x → k x (upd (upd H dx (.own x)) x (.ins C dx [])) := fun x dx hx hd ne => by
  have h1 := h.new (o := .own x) hd
  have h2 := h1.new (o := .ins C dx []) (p := x) (by rw [upd_ne (Ne.symm ne)]; exact hx)
  exact q x dx _ ((h2.perm (List.Perm.swap _ _ _)).tl)
end
end OW
set_option Elab.async false
set_option linter.all false
set_option maxRecDepth 100000
set_option maxHeartbeats 2000000
namespace OW
open PySem PySem.Spec PyProof.Rows L2 RZ SkE CL
/-- the law called by the caller, its promise in the form FnG -/
theorem callS {P : Program} {W0 : World} {K : PySem.W.Frag} {mg mb : Str → Option Value} {k : Nat} {fa a : Addr} {fd : FuncData} {x : Str} {sp : Sp} {t : Shared} {us : List Value} {ns : List Int}
    (inK : K.In t.heap) (gN : t.heap.Ns mainGlobals mg) (bN : t.heap.Ns builtinsNs mb) (bB : ∀ x : Str, x ≠ "__name__" → mb x = bootBuiltins x) (noL : t.heap.NoLimit) (noG : t.gens = #[])
    (at_ : t.heap.get? a = some { cls := .type "list", data := .seq us.toArray }) (are : IntsAre us ns) (len : ns.length ≤ sizeLine) (rm : Room k callerA)
    (F : ∀ base : Heap, K.In base → base.Ns mainGlobals mg → FnG P W0 K mg base CX0 k fa fd [x] sp) (bd : ∀ (s : Shared) (u : Value), BindsTo s fd ⟨[u], []⟩ [(x, u)])
    (prom : ∀ H : Hp, Own H [] [seqI K a (ns.map V.int)] → sp [.ref a] H (fun v _ => v = .bl true) fun _ _ _ => False) :
    codeAny (model P W0) callerA (.call (.ref fa) ⟨[.ref a], []⟩) (fun r s' => r = .ok (.ret (.bool true)) ∧ OldK t.heap s'.heap ∧ s'.os = t.os ∧ AllBare s'.gens) t := by
  have vi := vals_ints are
  have same := are.length
  -- H tracks at most the script, as the module's own or frozen
  have go : ∀ H : Hp, (∀ b, H b = none ∨ ∃ ob xs, H b = some (.frz ob (.lst xs))) → SqL K H a (ns.map V.int) → HOk P W0 H t.heap → (∀ b, H b ≠ none → b = a) → (H a ≠ none → K.lookup a = none) →
      codeAny (model P W0) callerA (.call (.ref fa) ⟨[.ref a], []⟩) (fun r s' => r = .ok (.ret (.bool true)) ∧ OldK t.heap s'.heap ∧ s'.os = t.os ∧ AllBare s'.gens) t := by
    intro H frz sq hok only own
    have notDict : ∀ {b : Addr} {o : Obj} {es : Array DictEntry} {ep : Nat}, t.heap.get? b = some o → o.data = .dict es ep → H b = none := by
      intro b o es ep e d
      by_cases q : H b = none
      · exact q
      · have z := only b q
        rw [z, at_] at e
        cases e
        exact absurd (show Data.seq us.toArray _ = Data.dict es ep from d) (by simp)
    have low : ∀ {b : Addr} {m : Str → Option Value}, t.heap.Ns b m → (hidT t.heap H).Ns b m := by
      rintro b m ⟨o, es, ep, e, d, r⟩
      exact ⟨o, es, ep, hidT_get e (notDict e d), d, r⟩
    have lowK : K.In (hidT t.heap H) := by
      intro b o e
      refine hidT_get (inK b o e) ?_
      by_cases q : H b = none
      · exact q
      · have z := only b q
        rw [z] at q e
        rw [own q] at e
        cases e
    obtain ⟨mc, l1, l2⟩ := noL
    have top : Mod K mg (hidT t.heap H) := ⟨lowK, low gN, ⟨mb, low bN, bB⟩, ⟨mc, low l1, l2⟩⟩
    have e0 : Env0 P W0 K mg (hidT t.heap H) callerA [] t H := ⟨rfl, top, fun b o e => of_hidT e, Nat.le_of_eq (hidT_size _ _), trivial, fun b hb => absurd (show b ∈ ([] : List Addr) from hb) List.not_mem_nil, hok, .of_eq noG⟩
    refine codeAny_mono ((F _ lowK (low gN)).run callerA [] t H ⟨[.ref a], []⟩ [.ref a] [.ref a] _ _ rfl rm e0 (bd t (.ref a)) (.cons rfl .nil) (prom H (own_nil.addI stable_seq (seqI_of ⟨sq, fun u z => (frz a).elim (fun n => by rw [n] at z; cases z) fun ⟨ob, xs, e⟩ => ⟨ob, xs, Option.some.inj (z.symm.trans e)⟩⟩)))) (fun r s' h => ?_)
    rcases r with e | fl
    · exact absurd h (by intro z; exact z)
    · cases fl with
      | ret u =>
        obtain ⟨v, H', os, bare, un, hok', rv, q⟩ := h
        obtain rfl : v = .bl true := q
        obtain rfl : u = Value.bool true := rv
        refine ⟨rfl, OldK.of_keep (fun b o e => ?_), os, bare⟩
        rcases frz b with z | ⟨ob, xs, z⟩
        · exact un.keep b o e z (fun y => absurd (show b ∈ ([] : List Addr) from y) List.not_mem_nil) (by simp)
        · obtain ⟨e1, _⟩ := hok b _ z
          obtain ⟨e2, _⟩ := hok' b _ (un.frzs b ob _ z)
          exact e2.trans (e1.symm.trans e)
      | next => exact absurd h (by intro z; exact z)
      | brk => exact absurd h (by intro z; exact z)
      | cont => exact absurd h (by intro z; exact z)
  cases own : K.lookup a with
  | some o =>
    obtain rfl : ({ cls := .type "list", data := .seq us.toArray } : Obj) = o := Option.some.inj (at_.symm.trans (inK a o own))
    exact go (fun _ => none) (fun _ => .inl rfl) (.inr ⟨_, us.toArray, _, own, rfl, rfl, rfl, by rw [List.size_toArray, same]; exact len, by simpa using vi⟩) (fun b u z => by cases (show (none : Option HO) = some u from z)) (fun b z => absurd rfl z) (fun z => absurd rfl z)
  | none =>
    have here : ∀ {b : Addr}, b ≠ a → (fun b => if b = a then some (HO.frz { cls := .type "list", data := .seq us.toArray } (.lst (ns.map V.int))) else none) b = none := fun n => if_neg n
    refine go (fun b => if b = a then some (.frz { cls := .type "list", data := .seq us.toArray } (.lst (ns.map V.int))) else none) (fun b => ?_) (.inl (.inr ⟨_, if_pos rfl⟩)) (fun b u z => ?_) (fun b z => ?_) (fun _ => own)
    · by_cases n : b = a
      · exact .inr ⟨_, _, if_pos n⟩
      · exact .inl (if_neg n)
    · by_cases n : b = a
      · have z' := (if_pos n).symm.trans z
        cases z'
        subst n
        exact ⟨at_, by rw [List.length_map]; exact len, us, _, vi, at_⟩
      · cases (if_neg n).symm.trans z
    · by_cases n : b = a
      · exact n
      · exact absurd (if_neg n) z
/-- the end, from a promise in the form FnG -/
theorem walkS {l : PySem.W.OpenLaw} {n k : Nat} {q : Program} {loose : List Str} {XP : (Str → Option Value) → Heap → Prop} {YP : World → Heap → Prop} {d : DefRec} {K : Params → PySem.W.Frag} {sp : World → Sp} {x : Str}
    (hn : l.most = some n) (small : n ≤ sizeLine) (df : d.params.defaults = []) (rm : Room k callerA) (hY : ∀ (w : World) (h : Heap), YP w h → (K w.params).In h)
    (F : ∀ (w : World) (mg : Str → Option Value) (fa : Addr) (h : Heap), (K w.params).In h → h.Ns mainGlobals mg → mg d.name = some (.ref fa) →
      ∃ fd : FuncData, (∀ (s : Shared) (u : Value), BindsTo s fd ⟨[u], []⟩ [(x, u)]) ∧ ∀ base : Heap, (K w.params).In base → base.Ns mainGlobals mg → FnG l.prog w (K w.params) mg base CX0 k fa fd [x] (sp w))
    (prom : ∀ (w : World) (H : Hp) (a : Addr) (ns : List Int), ns.length ≤ n → Own H [] [seqI (K w.params) a (ns.map V.int)] → sp w [.ref a] H (fun v _ => v = .bl true) fun _ _ _ => False) :
    PySem.W.WalkO q loose XP YP l.row.toRowW d [] (fun f vs => PySem.call f vs) := by
  refine Att.attach_call hn df (fun w s₀ s₁ mg mb fa o pm cd doc a vs ns G Y ho hd hcd hmg obj areInts few gens => ?_)
  have inK := hY w _ Y
  obtain ⟨fd, bd, hF⟩ := F w mg fa _ inK G.T.g hmg
  exact callS inK G.T.g G.T.b G.T.builtins G.T.nolimit gens obj areInts (Nat.le_trans few small) rm hF bd (fun H sq => prom w H a ns few sq)
end OW
set_option Elab.async false
set_option linter.all false
set_option maxRecDepth 100000
set_option maxHeartbeats 2000000
namespace OW
open PySem PySem.Spec PyProof.Rows L2 RZ SkE CL
theorem int_at {ns : List Int} {j : Nat} (h : j < ns.length) : (ns.map V.int)[j]? = some (V.int (ns.getD j 0)) := by
  rw [List.getElem?_map, List.getD_eq_getElem?_getD, List.getElem?_eq_getElem h]
  rfl
theorem shp_ints : ∀ xs : List Int, PyData.canLayAll0 (xs.map PyData.int) = true ∧ PyData.depthAll (xs.map PyData.int) = 0
  | [] => ⟨rfl, rfl⟩
  | x :: xs => by
    have h := shp_ints xs
    exact ⟨by simp [PyData.canLayAll0, PyData.canLay0, h.1], by simp [PyData.depthAll, PyData.depth, h.2]⟩
theorem shaped_ints (xs : List Int) : SeqAt.shaped (.list (xs.map PyData.int)) = true := by
  have h := shp_ints xs
  simp [SeqAt.shaped, PyData.canLay0, PyData.depth, h.1, h.2]
theorem shaped_nil : SeqAt.shaped (.list []) = true := shaped_ints []
end OW
namespace OW
open PySem PySem.Spec PyProof.Rows L2 RZ SkE CL
end OW
namespace OW
open PySem PySem.Spec PyProof.Rows L2 RZ SkE CL
end OW
namespace OW
open PySem PySem.Spec PyProof.Rows L2 RZ SkE CL
theorem acc_eq {p : Addr} {y : V} {H : Hp} {N : Hp → Prop} : Acc p y H N = ∃ acc, H p = some (.lst acc) ∧ acc.length < sizeLine ∧ N (upd H p (.lst (acc ++ [y]))) := propext ⟨fun h => h.ex, fun h => ⟨h⟩⟩
theorem acc_a {p : Addr} {y : V} {H : Hp} {N : Hp → Prop} {L R : List Ck} {I : List (Hp → Prop)} {xs : List V} (h : Own H L I) (e : Pull L (.pt p (.lst xs)) R) (l : xs.length < sizeLine) (q : ∀ H', Own H' (.pt p (.lst (xs ++ [y])) :: R) I → N H') : Acc p y H N := ⟨xs, h.get e, l, q _ (h.put e rfl)⟩
/-- one turn of a comprehension -/
def LcT (g : TG) (tt : TT) (te : TE) (vs : List Nat) (σ : L2.St) (p : Addr) (x : V) (H : Hp) (Nx : Hp → Prop) : Prop := g x (wipe σ vs) H fun σ2 H2 => wipe σ2 vs = wipe σ vs ∧ tt σ2 H2 fun b H3 => Br b (te σ2 H3 fun y H4 => Acc p y H4 Nx) (Nx H3)
theorem lct_eq {g : TG} {tt : TT} {te : TE} {vs : List Nat} {σ : L2.St} {p : Addr} {x : V} {H : Hp} {Nx : Hp → Prop} : LcT g tt te vs σ p x H Nx = LcStep g tt te vs σ p x H Nx := by
  unfold LcT LcStep
  simp only [br_eq, acc_eq]
section
variable {K : PySem.W.Frag} {g : TG} {tt : TT} {te : TE} {vs : List Nat} {σ : L2.St} {H : Hp} {a b p : Addr} {xs ys : List V} {Qd : Hp → Prop}
theorem la_range {lo : Int} {n : Nat} (Pv : Nat → Hp → Prop) (h0 : Pv 0 (upd H p (.lst []))) (hs : ∀ i H, i < n → Pv i H → LcT g tt te vs σ p (.int (lo + i)) H (Pv (i + 1))) (hd : ∀ H, Pv n H → Qd H) : LcW (Itr lo n) g tt te vs σ p Qd H := lw_range Pv h0 (fun i H h q => lct_eq ▸ hs i H h q) hd
theorem la_list (Pv : Nat → Hp → Prop) (h0 : Pv 0 (upd H p (.lst []))) (hl : ∀ i H, i ≤ xs.length → Pv i H → SqL K H a xs) (hs : ∀ i x H, xs[i]? = some x → Pv i H → LcT g tt te vs σ p x H (Pv (i + 1))) (hd : ∀ H, Pv xs.length H → Qd H) : LcW (Itl K a) g tt te vs σ p Qd H := lw_list Pv h0 hl (fun i x H h q => lct_eq ▸ hs i x H h q) hd
theorem la_tup (Pv : Nat → Hp → Prop) (h0 : Pv 0 (upd H p (.lst []))) (hl : ∀ i H, i ≤ xs.length → Pv i H → SqT K H a xs) (hs : ∀ i x H, xs[i]? = some x → Pv i H → LcT g tt te vs σ p x H (Pv (i + 1))) (hd : ∀ H, Pv xs.length H → Qd H) : LcW (Itt K a) g tt te vs σ p Qd H := lw_tup Pv h0 hl (fun i x H h q => lct_eq ▸ hs i x H h q) hd
end
end OW
namespace OW
theorem log_of2 {i : Int} (h : i.natAbs < 18446744073709551616) : i.natAbs.log2 < 1920 := CL.log_small (Nat.lt_of_lt_of_le h (by rw [show (18446744073709551616 : Nat) = 2 ^ 64 by decide]; exact Nat.pow_le_pow_right (by decide) (by decide)))
end OW
set_option Elab.async false
set_option linter.all false
set_option maxRecDepth 100000
set_option maxHeartbeats 2000000
namespace OW
open PySem PySem.Spec PyProof.Rows L2 RZ SkE CL
structure CallV (P : Program) (w : World) (K : PySem.W.Frag) (mg : Str → Option Value) (base : Heap) (k : Nat) (v : Option (Option V)) (go : Sp → Prop) : Prop where
  ex : ∃ f sp, v = some (some (.ref f)) ∧ Held P w K mg base k f sp ∧ go sp
theorem callv_mk {P : Program} {w : World} {K : PySem.W.Frag} {mg : Str → Option Value} {base : Heap} {k : Nat} {f : Addr} {sp : Sp} {go : Sp → Prop} (h : Held P w K mg base k f sp) (q : go sp) : CallV P w K mg base k (some (some (.ref f))) go := ⟨⟨f, sp, rfl, h, q⟩⟩
structure KD (K : PySem.W.Frag) (w : World) (p : Addr) (z : Str) (k : V → Prop) : Prop where
  ex : ∃ v, KDct K w p z v ∧ k v
structure ItV (K : PySem.W.Frag) (H : Hp) (a : Addr) (R : It → Hp → Prop) : Prop where
  ex : ((∃ xs, SqL K H a xs) ∧ R (Itl K a) H) ∨ ((∃ xs, SqT K H a xs) ∧ R (Itt K a) H) ∨ ∃ lo hi : Int, H a = some (.rng lo hi) ∧ (-(2 ^ 62) ≤ lo ∧ lo < 2 ^ 62 ∧ -(2 ^ 62) ≤ hi ∧ hi < 2 ^ 62) ∧ R (Itr lo (hi - lo).toNat) H
def cVal (K : PySem.W.Frag) (tl : TE) : TI := fun σ H R => tl σ H (onR fun a H1 => ItV K H1 a R)
theorem i_val {X : Cx} {tg l : Expr} {tl : TE} (hl : PE X l tl) : PI X tg l (cVal X.K tl) := by
  refine ⟨fun pins s σ H R I h => ?_⟩
  have h' := h
  refine thn (hl.run pins s σ H _ I h) fun v s1 ⟨x, H1, I1, r1, q1⟩ => ?_
  rw [onR_eq] at q1
  obtain ⟨a, rfl, ⟨q⟩⟩ := q1
  rcases q with ⟨⟨xs, hq⟩, q⟩ | ⟨⟨xs, hq⟩, q⟩ | ⟨lo, hi, ha, ⟨b1, b2, b3, b4⟩, q⟩
  · cases r1
    obtain ⟨vs, _, pl, _⟩ := I1.list hq
    refine wpAny_pyIter_list pl.isList ⟨s1.heap.objs.size, [s1.heap.objs.size], _, _, H1, rfl, I1.kept (t' := s1.toks) fun b o z => Heap.get?_push_of_some _ z, turn_list a _, ⟨_, Heap.get?_push_size _ rfl, rfl, rfl⟩, fun b hb => ?_, q⟩
    obtain rfl : b = s1.heap.objs.size := by simpa using hb
    exact I1.fpOk (Nat.le_refl _) (I1.hok.fresh (Nat.le_refl _))
  · cases r1
    obtain ⟨vs, _, pl, _⟩ := I1.tuple hq
    refine wpAny_pyIter_tuple (show s1.heap.IsTuple a vs.toArray from pl) ⟨s1.heap.objs.size, [s1.heap.objs.size], _, _, H1, rfl, I1.kept (t' := s1.toks) fun b o z => Heap.get?_push_of_some _ z, turn_tuple a _, ⟨_, Heap.get?_push_size _ rfl, rfl, rfl⟩, fun b hb => ?_, q⟩
    obtain rfl : b = s1.heap.objs.size := by simpa using hb
    exact I1.fpOk (Nat.le_refl _) (I1.hok.fresh (Nat.le_refl _))
  · cases r1
    obtain ⟨t, u, v, ho⟩ := I1.hok a _ ha
    refine wpAny_pyIter_range (show IsRange s1.heap a lo hi 1 t u v from ho) (small_one b1 b2 b3 b4) ?_
    refine ⟨s1.heap.objs.size, [s1.heap.objs.size], _, _, H1, rfl, I1.kept (t' := s1.toks) fun b o z => Heap.get?_push_of_some _ z, turn_range _ lo (hi - lo).toNat, ?_, fun b hb => ?_, q⟩
    · have e1 : lo + ((0 : Nat) : Int) * 1 = lo := by simp
      have e2 : (((hi - lo).toNat : Nat) : Int) - ((0 : Nat) : Int) = Builtin.Range.rangeSize lo hi 1 := by rw [rangeSize_one]; split <;> omega
      show IsRangeIter _ _ (lo + ((0 : Nat) : Int) * 1) ((((hi - lo).toNat : Nat) : Int) - ((0 : Nat) : Int)) 1
      rw [e1, e2]
      exact Heap.get?_push_size _ rfl
    · obtain rfl : b = s1.heap.objs.size := by simpa using hb
      exact I1.fpOk (Nat.le_refl _) (I1.hok.fresh (Nat.le_refl _))
section
variable {K : PySem.W.Frag} {H : Hp} {L R : List Ck} {I : List (Hp → Prop)} {a : Addr} {xs : List V}
theorem itv_l {P : It → Hp → Prop} (h : Own H L I) (e : Pull L (.pt a (.lst xs)) R) (q : P (Itl K a) H) : ItV K H a P := ⟨.inl ⟨⟨xs, SqL.of (h.get e)⟩, q⟩⟩
theorem itv_t {P : It → Hp → Prop} (h : Own H L I) (e : Pull L (.pt a (.tup xs)) R) (q : P (Itt K a) H) : ItV K H a P := ⟨.inr (.inl ⟨⟨xs, SqT.of (h.get e)⟩, q⟩)⟩
theorem itv_s {P : It → Hp → Prop} (h : Own H L I) (e : seqI K a xs ∈ I) (q : P (Itl K a) H) : ItV K H a P := ⟨.inl ⟨⟨xs, (h.imp e).1⟩, q⟩⟩
theorem itv_k {P : It → Hp → Prop} (h : SqT K H a xs) (q : P (Itt K a) H) : ItV K H a P := ⟨.inr (.inl ⟨⟨xs, h⟩, q⟩)⟩
theorem itv_r {lo hi : Int} {P : It → Hp → Prop} (h : Own H L I) (e : Pull L (.pt a (.rng lo hi)) R) (b : -(2 ^ 62) ≤ lo ∧ lo < 2 ^ 62 ∧ -(2 ^ 62) ≤ hi ∧ hi < 2 ^ 62) (q : P (Itr lo (hi - lo).toNat) H) : ItV K H a P := ⟨.inr (.inr ⟨lo, hi, h.get e, b, q⟩)⟩
end
end OW
namespace OW
open PySem PySem.Spec PyProof.Rows L2 RZ SkE CL
end OW
set_option Elab.async false
set_option linter.all false
set_option maxRecDepth 100000
set_option maxHeartbeats 2000000
namespace OW
open PySem PySem.Spec PyProof.Rows L2 RZ SkE CL
mutual
inductive IDp (H : Hp) : V → PyData → Prop
  | non : IDp H .non .none
  | bl (b : Bool) : IDp H (.bl b) (.bool b)
  | int (i : Int) : IDp H (.int i) (.int i)
  | str (x : Str) : IDp H (.str x) (.str x)
  | tup {a : Addr} {xs : List V} {ds : List PyData} (h : H a = some (.tup xs)) (g : IDpAll H xs ds) : IDp H (.ref a) (.tuple ds)
inductive IDpAll (H : Hp) : List V → List PyData → Prop
  | nil : IDpAll H [] []
  | cons {v : V} {vs : List V} {d : PyData} {ds : List PyData} (h : IDp H v d) (g : IDpAll H vs ds) : IDpAll H (v :: vs) (d :: ds)
end
mutual
theorem IDp.keep {H H' : Hp} (k : Keep H H') : ∀ (d : PyData) (v : V), IDp H v d → IDp H' v d
  | .none, v, h => by cases h; exact .non
  | .bool b, v, h => by cases h; exact .bl b
  | .int i, v, h => by cases h; exact .int i
  | .str x, v, h => by cases h; exact .str x
  | .tuple ds, v, h => by
    cases h with
    | tup h g => exact .tup (k _ _ h rfl) (IDpAll.keep k ds _ g)
  | .list ds, v, h => by cases h
  | .dict ds, v, h => by cases h
theorem IDpAll.keep {H H' : Hp} (k : Keep H H') : ∀ (ds : List PyData) (vs : List V), IDpAll H vs ds → IDpAll H' vs ds
  | [], vs, h => by cases h; exact .nil
  | d :: ds, vs, h => by
    cases h with
    | cons h g => exact .cons (IDp.keep k d _ h) (IDpAll.keep k ds _ g)
end
mutual
theorem IDp.dp {K : PySem.W.Frag} {H : Hp} : ∀ (d : PyData) (v : V), IDp H v d → Dp K H v d
  | .none, v, h => by cases h; exact .non
  | .bool b, v, h => by cases h; exact .bl b
  | .int i, v, h => by cases h; exact .int i
  | .str x, v, h => by cases h; exact .str x
  | .tuple ds, v, h => by
    cases h with
    | tup h g => exact .tup (SqT.of h) (IDpAll.dp ds _ g)
  | .list ds, v, h => by cases h
  | .dict ds, v, h => by cases h
theorem IDpAll.dp {K : PySem.W.Frag} {H : Hp} : ∀ (ds : List PyData) (vs : List V), IDpAll H vs ds → DpAll K H vs ds
  | [], vs, h => by cases h; exact .nil
  | d :: ds, vs, h => by
    cases h with
    | cons h g => exact .cons (IDp.dp d _ h) (IDpAll.dp ds _ g)
end
abbrev idI (v : V) (d : PyData) : Hp → Prop := fun H => IDp H v d
abbrev idsI (vs : List V) (ds : List PyData) : Hp → Prop := fun H => IDpAll H vs ds
theorem stable_ids {v : List V} {d : List PyData} : Stable (idsI v d) := fun H H' k h => IDpAll.keep k d v h
theorem IDpAll.append {H : Hp} : ∀ {vs ws : List V} {ds es : List PyData}, IDpAll H vs ds → IDpAll H ws es → IDpAll H (vs ++ ws) (ds ++ es)
  | _, _, _, _, .nil, h => h
  | _, _, _, _, .cons a b, h => .cons a (IDpAll.append b h)
theorem IDpAll.len {H : Hp} : ∀ {vs : List V} {ds : List PyData}, IDpAll H vs ds → vs.length = ds.length
  | _, _, .nil => rfl
  | _, _, .cons _ b => congrArg (· + 1) b.len
section
variable {K : PySem.W.Frag} {H : Hp} {L R M : List Ck} {I : List (Hp → Prop)} {a b p : Addr} {xs ys : List V} {ds : List PyData} {d : PyData} {v : V}
structure Cat (K : PySem.W.Frag) (H : Hp) (p q : Addr) (Q : VK) : Prop where
  ex : (∃ xs ys, H p = some (.lst xs) ∧ H q = some (.lst ys) ∧ xs.length + ys.length ≤ sizeLine ∧ New H (.lst (xs ++ ys)) fun r H' => Q (.ref r) H') ∨
    ∃ xs ys, SqT K H p xs ∧ SqT K H q ys ∧ xs ≠ [] ∧ ys ≠ [] ∧ xs.length + ys.length ≤ sizeLine ∧ New H (.tup (xs ++ ys)) fun r H' => Q (.ref r) H'
def rAddG (K : PySem.W.Frag) : R2 := fun x y H Q => match x, y with
  | .int i, .int j => Q (.int (i + j)) H
  | .str a, .str b => Chk (a.length + b.length ≤ sizeLine) (Q (.str (a ++ b)) H)
  | .ref p, .ref q => Cat K H p q Q
  | _, _ => False
theorem c_addG {X : Cx} : OpR X (binaryOp .Add) (rAddG X.K) := by
  intro pins s σ H x y v u Q I rx ry h
  unfold rAddG at h
  split at h
  · exact op_add pins s σ H _ _ v u Q I rx ry ⟨_, _, rfl, rfl, h⟩
  · exact op_add_str pins s σ H _ _ v u Q I rx ry ⟨_, _, rfl, rfl, h.p, h.k⟩
  · obtain ⟨⟨xs, ys, h1, h2, h3, h4⟩ | ⟨xs, ys, h1, h2, h3, h4, h5, h6⟩⟩ := h
    · exact op_cat pins s σ H _ _ v u Q I rx ry ⟨_, _, _, _, rfl, rfl, h1, h2, h3, h4.k⟩
    · exact op_catT pins s σ H _ _ v u Q I rx ry ⟨_, _, _, _, rfl, rfl, h1, h2, h3, h5, fun z => (h4 z).elim, fun _ => h6.k⟩
  · exact h.elim
theorem cat_l {Q : VK} (h : Own H L I) (e : Pull L (.pt a (.lst xs)) R) (f : Pull L (.pt b (.lst ys)) M) (l : xs.length + ys.length ≤ sizeLine) (q : ∀ p H', Own H' (.pt p (.lst (xs ++ ys)) :: L) I → Q (.ref p) H') : Cat K H a b Q := ⟨.inl ⟨xs, ys, h.get e, h.get f, l, new_o h q⟩⟩
theorem cat_t {Q : VK} (h : Own H L I) (e : Pull L (.pt a (.tup xs)) R) (f : Pull L (.pt b (.tup ys)) M) (n : xs ≠ []) (m : ys ≠ []) (l : xs.length + ys.length ≤ sizeLine) (q : ∀ p H', Own H' (.pt p (.tup (xs ++ ys)) :: L) I → Q (.ref p) H') : Cat K H a b Q := ⟨.inr ⟨xs, ys, SqT.of (h.get e), SqT.of (h.get f), n, m, l, new_o h q⟩⟩
structure SlG (K : PySem.W.Frag) (H : Hp) (a : Addr) (lo hi : Option Int) (Q : VK) : Prop where
  ex : (∃ xs, SqL K H a xs ∧ New H (.lst (cutV xs lo hi)) fun p H' => Q (.ref p) H') ∨ ∃ xs, SqT K H a xs ∧ ¬ (HT.sIx xs.length 0 lo = 0 ∧ HT.sIx xs.length xs.length hi = xs.length) ∧ New H (.tup (cutV xs lo hi)) fun p H' => Q (.ref p) H'
theorem slg_l {lo hi : Option Int} {Q : VK} (h : Own H L I) (e : Pull L (.pt a (.lst xs)) R) (q : ∀ p H', Own H' (.pt p (.lst (cutV xs lo hi)) :: L) I → Q (.ref p) H') : SlG K H a lo hi Q := ⟨.inl ⟨xs, SqL.of (h.get e), new_o h q⟩⟩
theorem slg_s {lo hi : Option Int} {Q : VK} (h : Own H L I) (e : seqI K a xs ∈ I) (q : ∀ p H', Own H' (.pt p (.lst (cutV xs lo hi)) :: L) I → Q (.ref p) H') : SlG K H a lo hi Q := ⟨.inl ⟨xs, (h.imp e).1, new_o h q⟩⟩
theorem slg_t {lo hi : Option Int} {Q : VK} (h : Own H L I) (e : Pull L (.pt a (.tup xs)) R) (n : ¬ (HT.sIx xs.length 0 lo = 0 ∧ HT.sIx xs.length xs.length hi = xs.length)) (q : ∀ p H', Own H' (.pt p (.tup (cutV xs lo hi)) :: L) I → Q (.ref p) H') : SlG K H a lo hi Q := ⟨.inr ⟨xs, SqT.of (h.get e), n, new_o h q⟩⟩
end
def rMinG : List V → Hp → VK → Prop := fun xs H Q => match xs with
  | [.int i, .int j] => Q (.int (if j < i then j else i)) H
  | [.int i, .int j, .int k] => Q (.int (if k < (if j < i then j else i) then k else (if j < i then j else i))) H
  | _ => False
theorem k_minG {X : Cx} (hc : X.calm = true) : CallR X (.builtin "min") rMinG := by
  intro pins s σ H xs us Q I r h
  unfold rMinG at h
  split at h
  · exact call_min2 hc pins s σ H _ us Q I r ⟨_, _, rfl, h⟩
  · rename_i i j k
    refine call_min3Nu hc pins s σ H _ us Q I r ⟨_, _, _, _, rfl, ?_, h⟩
    show (nuMin2 (.int i) (.int j)).bind (fun m => nuMin2 m (.int k)) = _
    have e : ∀ a b : Int, nuMin2 (.int a) (.int b) = some (.int (if b < a then b else a)) := fun a b => by
      show (nuLt (.int b) (.int a)).map _ = _
      have : nuLt (.int b) (.int a) = some (decide (b < a)) := rfl
      rw [this]
      by_cases h : b < a
      · simp [h]
      · simp [h]
    rw [e, Option.bind_some, e]
  · exact h.elim
end OW
namespace OW
open PySem PySem.Spec PyProof.Rows L2 RZ SkE CL
end OW
namespace OW
open PySem PySem.Spec PyProof.Rows L2 RZ SkE CL
theorem IDpAll.snoc {H : Hp} {xs : List V} {ds : List PyData} {v : V} {d : PyData} (h : IDpAll H xs ds) (g : IDp H v d) : IDpAll H (xs ++ [v]) (ds ++ [d]) := h.append (.cons g .nil)
end OW
namespace OW
open PySem PySem.Spec PyProof.Rows L2 RZ SkE CL
theorem cut_a {a b c d e : V} : cutV [a,b,c,d,e] none (some 2) = [a,b] := rfl
theorem cut_b {a b c d e : V} : cutV [a,b,c,d,e] (some 3) none = [d,e] := rfl
theorem cut_c {a b c d e : V} : cutV [a,b,c,d,e] none (some 1) = [a] := rfl
theorem cut_d {a b c d e : V} : cutV [a,b,c,d,e] (some 2) none = [c,d,e] := rfl
theorem cut_e {a b c d e : V} : cutV [a,b,c,d,e] (some 1) none = [b,c,d,e] := rfl
theorem cutM_a {a b c d e : Int} : cutV (List.map V.int [a,b,c,d,e]) none (some 2) = [.int a,.int b] := rfl
theorem cutM_b {a b c d e : Int} : cutV (List.map V.int [a,b,c,d,e]) (some 3) none = [.int d,.int e] := rfl
theorem cutM_c {a b c d e : Int} : cutV (List.map V.int [a,b,c,d,e]) none (some 1) = [.int a] := rfl
theorem cutM_d {a b c d e : Int} : cutV (List.map V.int [a,b,c,d,e]) (some 2) none = [.int c,.int d,.int e] := rfl
theorem cutM_e {a b c d e : Int} : cutV (List.map V.int [a,b,c,d,e]) (some 1) none = [.int b,.int c,.int d,.int e] := rfl
end OW
namespace OW
open PySem PySem.Spec PyProof.Rows L2 RZ SkE CL
theorem Own.ids {H : Hp} {L : List Ck} {I : List (Hp → Prop)} {xs : List V} {ds : List PyData} (h : Own H L I) (m : idsI xs ds ∈ I) : IDpAll H xs ds := h.imp m
theorem Own.idd {H : Hp} {L : List Ck} {I : List (Hp → Prop)} {v : V} {d : PyData} (h : Own H L I) (m : idI v d ∈ I) : IDp H v d := h.imp m
theorem Own.tupx {H : Hp} {L : List Ck} {I : List (Hp → Prop)} {a : Addr} {xs : List V} (h : Own H L I) (m : tupI a xs ∈ I) : H a = some (.tup xs) := h.imp m
end OW
namespace OW
open PySem PySem.Spec PyProof.Rows L2 RZ SkE CL
structure JoinS (t : TS) (D : Ends) (σ : L2.St) (H : Hp) : Prop where
  ex : ∃ P : L2.St → Hp → Prop, t { D with nx := P } σ H ∧ ∀ σ' H', P σ' H' → D.nx σ' H'
def cJoinS (t : TS) : TS := fun D σ H => JoinS t D σ H
theorem s_join {X : Cx} {st : Stmt} {t : TS} (h : PS X st t) : PS X st (cJoinS t) := ⟨fun pins s σ H D I q => by
  obtain ⟨⟨P, h1, h2⟩⟩ := (show JoinS t D σ H from q)
  refine thn (h.run pins s σ H _ I h1) fun f s' q => ?_
  cases f with
  | next => exact let ⟨σ', H', J, p⟩ := q; ⟨σ', H', J, h2 σ' H' p⟩
  | brk => exact q
  | cont => exact q
  | ret u => exact q⟩
theorem join_by {t : TS} {D : Ends} {σ : L2.St} {H : Hp} (P : L2.St → Hp → Prop) (h1 : t { D with nx := P } σ H) (h2 : ∀ σ' H', P σ' H' → D.nx σ' H') : JoinS t D σ H := ⟨P, h1, h2⟩
end OW
namespace OW
end OW
set_option Elab.async false
set_option linter.all false
set_option maxRecDepth 100000
set_option maxHeartbeats 2000000
namespace OW
open PySem PySem.Spec PyProof.Rows L2 RZ SkE CL
structure DGt (H : Hp) (a : Addr) (y : V) (k : Option V → Prop) : Prop where
  ex : ∃ o, DGet H a y o ∧ k o
structure DGv (H : Hp) (a : Addr) (y : V) (k : V → Prop) : Prop where
  ex : ∃ v, DGet H a y (some v) ∧ k v
structure DPt (H : Hp) (a : Addr) (y v : V) (k : Hp → Prop) : Prop where
  ex : ∃ H', DPut H a y v H' ∧ k H'
structure DDl (H : Hp) (a : Addr) (y : V) (k : Hp → Prop) : Prop where
  ex : ∃ kvs key, H a = some (.dK kvs) ∧ y = kV key ∧ (valV kvs key).isSome = true ∧ k (upd H a (.dK (dropK kvs key)))
section
variable {H : Hp} {L R : List Ck} {I : List (Hp → Prop)} {a : Addr} {kvs : List (Key × V)} {od : Obj}
theorem dgt_i {i : Int} {k : Option V → Prop} (h : Own H L I) (e : Pull L (.pt a (.dK kvs)) R) (q : k (valV kvs (.inl i))) : DGt H a (.int i) k := ⟨_, DGet.k (k := .inl i) (h.get e), q⟩
theorem dgt_s {z : Str} {k : Option V → Prop} (h : Own H L I) (e : Pull L (.pt a (.dK kvs)) R) (q : k (valV kvs (.inr z))) : DGt H a (.str z) k := ⟨_, DGet.k (k := .inr z) (h.get e), q⟩
theorem dgt_if {i : Int} {k : Option V → Prop} (h : Own H L I) (e : Pull L (.pt a (.frz od (.dK kvs))) R) (q : k (valV kvs (.inl i))) : DGt H a (.int i) k := ⟨_, .inl ⟨kvs, .inl i, .inr ⟨od, h.get e⟩, rfl, rfl⟩, q⟩
theorem dgt_sf {z : Str} {k : Option V → Prop} (h : Own H L I) (e : Pull L (.pt a (.frz od (.dK kvs))) R) (q : k (valV kvs (.inr z))) : DGt H a (.str z) k := ⟨_, .inl ⟨kvs, .inr z, .inr ⟨od, h.get e⟩, rfl, rfl⟩, q⟩
theorem dgv_i {i : Int} {v : V} {k : V → Prop} (h : Own H L I) (e : Pull L (.pt a (.dK kvs)) R) (x : valV kvs (.inl i) = some v) (q : k v) : DGv H a (.int i) k := ⟨v, x ▸ DGet.k (k := .inl i) (h.get e), q⟩
theorem dgv_s {z : Str} {v : V} {k : V → Prop} (h : Own H L I) (e : Pull L (.pt a (.dK kvs)) R) (x : valV kvs (.inr z) = some v) (q : k v) : DGv H a (.str z) k := ⟨v, x ▸ DGet.k (k := .inr z) (h.get e), q⟩
theorem dgv_if {i : Int} {v : V} {k : V → Prop} (h : Own H L I) (e : Pull L (.pt a (.frz od (.dK kvs))) R) (x : valV kvs (.inl i) = some v) (q : k v) : DGv H a (.int i) k := ⟨v, .inl ⟨kvs, .inl i, .inr ⟨od, h.get e⟩, rfl, x.symm⟩, q⟩
theorem dpt_i {i : Int} {v : V} {k : Hp → Prop} (h : Own H L I) (e : Pull L (.pt a (.dK kvs)) R) (l : kvs.length < sizeLine) (q : ∀ H', Own H' (.pt a (.dK (putK kvs (.inl i) v)) :: R) I → k H') : DPt H a (.int i) v k := ⟨_, DPut.k (k := .inl i) (h.get e) l, q _ (h.put e rfl)⟩
theorem dpt_s {z : Str} {v : V} {k : Hp → Prop} (h : Own H L I) (e : Pull L (.pt a (.dK kvs)) R) (l : kvs.length < sizeLine) (q : ∀ H', Own H' (.pt a (.dK (putK kvs (.inr z) v)) :: R) I → k H') : DPt H a (.str z) v k := ⟨_, DPut.k (k := .inr z) (h.get e) l, q _ (h.put e rfl)⟩
theorem ddl_i {i : Int} {k : Hp → Prop} (h : Own H L I) (e : Pull L (.pt a (.dK kvs)) R) (x : (valV kvs (.inl i)).isSome = true) (q : ∀ H', Own H' (.pt a (.dK (dropK kvs (.inl i))) :: R) I → k H') : DDl H a (.int i) k := ⟨kvs, .inl i, h.get e, rfl, x, q _ (h.put e rfl)⟩
end
structure UnL (H : Hp) (d : Addr) (od : Obj) (u : HO) (k : Hp → Prop) : Prop where
  at_ : H d = some (.frz od u)
  k : k (upd H d u)
structure LockE (t : TE) (σ : L2.St) (H : Hp) (Q : VK) : Prop where
  ex : ∃ d u, H d = some u ∧ Mut (some u) ∧ ∀ od, t σ (upd H d (.frz od u)) fun v H' => UnL H' d od u (Q v)
section
variable {H : Hp} {L R : List Ck} {I : List (Hp → Prop)} {d : Addr} {kvs : List (Key × V)} {od : Obj}
theorem lockE_o {t : TE} {σ : L2.St} {Q : VK} (h : Own H L I) (e : Pull L (.pt d (.dK kvs)) R) (q : ∀ od H', Own H' (.pt d (.frz od (.dK kvs)) :: R) I → t σ H' fun v H' => UnL H' d od (.dK kvs) (Q v)) : LockE t σ H Q := ⟨d, _, h.get e, trivial, fun od => q od _ (h.put e rfl)⟩
theorem unl_o {k : Hp → Prop} (h : Own H L I) (e : Pull L (.pt d (.frz od (.dK kvs))) R) (q : ∀ H', Own H' (.pt d (.dK kvs) :: R) I → k H') : UnL H d od (.dK kvs) k := ⟨h.get e, q _ (h.put e rfl)⟩
end
structure ItK (H : Hp) (d : Addr) (R : It → Hp → Prop) : Prop where
  ex : ∃ o kvs, H d = some (.frz o (.dK kvs)) ∧ R (Itk d o kvs) H
section
variable {g : TG} {tb : TS} {D : Ends} {σ : L2.St} {H : Hp} {d p : Addr} {o : Obj} {kvs : List (Key × V)} {tt : TT} {te : TE} {vs : List Nat} {Qd : Hp → Prop} {L R : List Ck} {I : List (Hp → Prop)}
theorem itk_o {P : It → Hp → Prop} (h : Own H L I) (e : Pull L (.pt d (.frz o (.dK kvs))) R) (q : P (Itk d o kvs) H) : ItK H d P := ⟨o, kvs, h.get e, q⟩
end
end OW
set_option Elab.async false
set_option linter.all false
set_option maxRecDepth 100000
set_option maxHeartbeats 2000000
namespace OW
open PySem PySem.Spec PyProof.Rows L2 RZ SkE CL
theorem dgv_sf {H : Hp} {L R : List Ck} {I : List (Hp → Prop)} {a : Addr} {kvs : List (Key × V)} {od : Obj} {z : Str} {v : V} {k : V → Prop} (h : Own H L I) (e : Pull L (.pt a (.frz od (.dK kvs))) R) (x : valV kvs (.inr z) = some v) (q : k v) : DGv H a (.str z) k := ⟨v, .inl ⟨kvs, .inr z, .inr ⟨od, h.get e⟩, rfl, x.symm⟩, q⟩
end OW
set_option Elab.async false
set_option linter.all false
set_option maxRecDepth 100000
set_option maxHeartbeats 2000000
namespace OW
open PySem PySem.Spec PyProof.Rows L2 RZ SkE CL
structure IntS (a : Str) (k : Int → Prop) : Prop where
  ex : ∃ n, PySem.intText? a = some n ∧ a.length ≤ 640 ∧ k n
def rIntG : List V → Hp → VK → Prop := fun xs H Q => match xs with
  | [.int i] => Q (.int i) H
  | [.bl b] => Q (.int (if b then 1 else 0)) H
  | [.str a] => IntS a fun n => Q (.int n) H
  | _ => False
theorem k_intG {X : Cx} : CallR X (.type "int") rIntG := by
  intro pins s σ H xs us Q I r h
  unfold rIntG at h
  split at h
  · exact call_int1 pins s σ H _ us Q I r (.inl ⟨_, rfl, h⟩)
  · exact call_int1 pins s σ H _ us Q I r (.inr ⟨_, rfl, h⟩)
  · obtain ⟨⟨n, h1, h2, h3⟩⟩ := h
    exact call_int_str pins s σ H _ us Q I r ⟨_, n, rfl, h1, h2, h3⟩
  · exact h.elim
theorem unt_i {K : PySem.W.Frag} {H : Hp} {L : List Ck} {I : List (Hp → Prop)} {a : Addr} {xs : List V} {n : Nat} {k : List V → Prop} (h : Own H L I) (m : tupI a xs ∈ I) (l : xs.length = n) (q : k xs) : UnT K H a n k := ⟨xs, SqT.of (h.imp m), l, q⟩
theorem IDpAll.mem {H : Hp} : ∀ {xs : List V} {ds : List PyData} {y : V}, IDpAll H xs ds → y ∈ xs → ∃ d ∈ ds, IDp H y d
  | _, _, y, .nil, m => (List.not_mem_nil m).elim
  | _, _, y, .cons a b, m => by
    rcases List.mem_cons.mp m with rfl | m
    · exact ⟨_, List.mem_cons_self, a⟩
    · obtain ⟨d, hd, h⟩ := b.mem m
      exact ⟨d, List.mem_cons_of_mem _ hd, h⟩
theorem DpAll.len {K : PySem.W.Frag} {H : Hp} : ∀ {xs : List V} {ds : List PyData}, DpAll K H xs ds → xs.length = ds.length
  | _, _, .nil => rfl
  | _, _, .cons _ g => congrArg (· + 1) (DpAll.len g)
theorem DpAll.erase {K : PySem.W.Frag} {H : Hp} : ∀ {xs : List V} {ds : List PyData} (i : Nat), DpAll K H xs ds → DpAll K H (xs.eraseIdx i) (ds.eraseIdx i)
  | _, _, _, .nil => .nil
  | _, _, 0, .cons _ g => g
  | _, _, i + 1, .cons a g => .cons a (DpAll.erase i g)
theorem lay_all : ∀ {ds : List PyData}, (∀ d ∈ ds, d.canLay0 = true ∧ d.depth ≤ 60) → PyData.canLayAll0 ds = true ∧ PyData.depthAll ds ≤ 61
  | [], _ => ⟨rfl, Nat.zero_le _⟩
  | d :: ds, h => by
    have a := h d List.mem_cons_self
    have b := lay_all (fun e m => h e (List.mem_cons_of_mem _ m))
    exact ⟨by simp [PyData.canLayAll0, a.1, b.1], by simp [PyData.depthAll]; omega⟩
theorem shaped_tup {ds : List PyData} (h : ∀ d ∈ ds, d.canLay0 = true ∧ d.depth ≤ 60) : SeqAt.shaped (.tuple ds) = true := by
  have a := lay_all h
  have d : PyData.depthAll ds + 1 ≤ 64 := by omega
  simp [SeqAt.shaped, PyData.canLay0, PyData.depth, a.1, d]
end OW
set_option Elab.async false
set_option linter.all false
set_option maxRecDepth 100000
set_option maxHeartbeats 2000000
namespace OW
open PySem PySem.Spec PyProof.Rows L2 RZ SkE CL
end OW
set_option Elab.async false
set_option linter.all false
set_option maxRecDepth 100000
set_option maxHeartbeats 2000000
namespace OW
open PySem PySem.Spec PyProof.Rows L2 RZ SkE CL
structure ValsL (H : Hp) (d : Addr) (Q : VK) : Prop where
  ex : ∃ kvs, H d = some (.dK kvs) ∧ New H (.lst (kvs.map (·.2))) fun p H' => Q (.ref p) H'
theorem vals_o {H : Hp} {L R : List Ck} {I : List (Hp → Prop)} {d : Addr} {kvs : List (Key × V)} {Q : VK} (h : Own H L I) (e : Pull L (.pt d (.dK kvs)) R) (q : ∀ p H', Own H' (.pt p (.lst (kvs.map (·.2))) :: L) I → Q (.ref p) H') : ValsL H d Q := ⟨kvs, h.get e, new_o h q⟩
end OW
set_option Elab.async false
set_option linter.all false
set_option maxRecDepth 100000
set_option maxHeartbeats 2000000
namespace OW
open PySem PySem.Spec PyProof.Rows L2 RZ SkE CL
def toK : V → Key
  | .int i => .inl i
  | .str z => .inr z
  | _ => .inl 0
def toKs (ps : List (V × V)) : List (Key × V) := ps.map fun p => (toK p.1, p.2)
structure DDsp (H : Hp) (p : Addr) (ps : List (V × V)) (Q : VK) : Prop where
  ex : H p = some (.dK []) ∧ ∃ kvs : List (Key × V), ps = kvs.map (fun kv => (kV kv.1, kv.2)) ∧ kvs.length ≤ 15 ∧ Q (.ref p) (upd H p (.dK (mergeK [] kvs)))
theorem ddsp_o {H : Hp} {L R : List Ck} {I : List (Hp → Prop)} {p : Addr} {ps : List (V × V)} {Q : VK} (h : Own H L I) (e : Pull L (.pt p (.dK [])) R) (f : ps = (toKs ps).map (fun kv => (kV kv.1, kv.2))) (l : (toKs ps).length ≤ 15) (q : ∀ H', Own H' (.pt p (.dK (mergeK [] (toKs ps))) :: R) I → Q (.ref p) H') : DDsp H p ps Q := ⟨h.get e, toKs ps, f, l, q _ (h.put e rfl)⟩
end OW
set_option Elab.async false
set_option linter.all false
set_option maxRecDepth 100000
set_option maxHeartbeats 2000000
namespace OW
open PySem PySem.Spec PyProof.Rows L2 RZ SkE CL
def maxI : List Int → Int
  | [] => 0
  | [x] => x
  | x :: y :: r => if x < maxI (y :: r) then maxI (y :: r) else x
def minI : List Int → Int
  | [] => 0
  | [x] => x
  | x :: y :: r => if minI (y :: r) < x then minI (y :: r) else x
theorem maxI_mem : ∀ {ns : List Int}, 0 < ns.length → maxI ns ∈ ns
  | [x], _ => List.mem_singleton.mpr rfl
  | x :: y :: r, _ => by
    have ih := maxI_mem (ns := y :: r) (Nat.succ_pos _)
    show (if x < maxI (y :: r) then maxI (y :: r) else x) ∈ _
    split
    · exact List.mem_cons_of_mem _ ih
    · exact List.mem_cons_self
theorem maxI_le : ∀ {ns : List Int} {z : Int}, z ∈ ns → z ≤ maxI ns
  | [x], z, m => by rw [List.mem_singleton.mp m]; exact Int.le_refl _
  | x :: y :: r, z, m => by
    show z ≤ (if x < maxI (y :: r) then maxI (y :: r) else x)
    rcases List.mem_cons.mp m with rfl | m
    · split <;> omega
    · have ih := maxI_le m
      split <;> omega
theorem minI_mem : ∀ {ns : List Int}, 0 < ns.length → minI ns ∈ ns
  | [x], _ => List.mem_singleton.mpr rfl
  | x :: y :: r, _ => by
    have ih := minI_mem (ns := y :: r) (Nat.succ_pos _)
    show (if minI (y :: r) < x then minI (y :: r) else x) ∈ _
    split
    · exact List.mem_cons_of_mem _ ih
    · exact List.mem_cons_self
theorem minI_le : ∀ {ns : List Int} {z : Int}, z ∈ ns → minI ns ≤ z
  | [x], z, m => by rw [List.mem_singleton.mp m]; exact Int.le_refl _
  | x :: y :: r, z, m => by
    show (if minI (y :: r) < x then minI (y :: r) else x) ≤ z
    rcases List.mem_cons.mp m with rfl | m
    · split <;> omega
    · have ih := minI_le m
      split <;> omega
theorem maxI_is {ns : List Int} {m : Int} (h : m ∈ ns) (g : ∀ z ∈ ns, z ≤ m) : maxI ns = m := by
  have h0 : 0 < ns.length := List.length_pos_of_mem h
  have a := maxI_le h
  have b := g _ (maxI_mem h0)
  omega
theorem minI_is {ns : List Int} {m : Int} (h : m ∈ ns) (g : ∀ z ∈ ns, m ≤ z) : minI ns = m := by
  have h0 : 0 < ns.length := List.length_pos_of_mem h
  have a := minI_le h
  have b := g _ (minI_mem h0)
  omega
structure MaxL (K : PySem.W.Frag) (H : Hp) (a : Addr) (f : List Int → Int) (k : Int → Prop) : Prop where
  ex : ∃ ns, SqL K H a (ns.map V.int) ∧ 0 < ns.length ∧ k (f ns)
def rMaxG (K : PySem.W.Frag) : List V → Hp → VK → Prop := fun xs H Q => match xs with
  | [.int i, .int j] => Q (.int (if j > i then j else i)) H
  | [.int i, .int j, .int k] => Q (.int (if (if j > i then j else i) < k then k else (if j > i then j else i))) H
  | [.ref a] => MaxL K H a maxI fun m => Q (.int m) H
  | _ => False
theorem k_maxG {X : Cx} (hc : X.calm = true) : CallR X (.builtin "max") (rMaxG X.K) := by
  intro pins s σ H xs us Q I r h
  unfold rMaxG at h
  split at h
  · exact call_max2 hc pins s σ H _ us Q I r ⟨_, _, rfl, h⟩
  · rename_i i j k
    refine call_max3Nu hc pins s σ H _ us Q I r ⟨_, _, _, _, rfl, ?_, h⟩
    show (nuMax2 (.int i) (.int j)).bind (fun m => nuMax2 m (.int k)) = _
    have e : ∀ a b : Int, nuMax2 (.int a) (.int b) = some (.int (if a < b then b else a)) := fun a b => by
      show (nuLt (.int a) (.int b)).map (fun c => if c = true then V.int b else V.int a) = _
      show some (if decide (a < b) = true then V.int b else V.int a) = _
      by_cases h : a < b
      · rw [if_pos (decide_eq_true h), if_pos h]
      · rw [if_neg (by simpa using h), if_neg h]
    rw [e]
    show nuMax2 _ _ = _
    rw [e]
  · obtain ⟨⟨ns, h1, h2, h3⟩⟩ := h
    exact cr_max hc pins s σ H _ us Q I r ⟨_, ns, rfl, h1, h2, fun m a b => maxI_is a b ▸ h3⟩
  · exact h.elim
def rMinL (K : PySem.W.Frag) : List V → Hp → VK → Prop := fun xs H Q => match xs with
  | [.int i, .int j] => Q (.int (if j < i then j else i)) H
  | [.int i, .int j, .int k] => Q (.int (if k < (if j < i then j else i) then k else (if j < i then j else i))) H
  | [.ref a] => MaxL K H a minI fun m => Q (.int m) H
  | _ => False
theorem k_minL {X : Cx} (hc : X.calm = true) : CallR X (.builtin "min") (rMinL X.K) := by
  intro pins s σ H xs us Q I r h
  unfold rMinL at h
  split at h
  · exact k_minG hc pins s σ H _ us Q I r h
  · exact k_minG hc pins s σ H _ us Q I r h
  · obtain ⟨⟨ns, h1, h2, h3⟩⟩ := h
    exact cr_min hc pins s σ H _ us Q I r ⟨_, ns, rfl, h1, h2, fun m a b => minI_is a b ▸ h3⟩
  · exact h.elim
structure AllL (K : PySem.W.Frag) (H : Hp) (a : Addr) (f : List Bool → Bool) (k : Bool → Prop) : Prop where
  ex : ∃ bs, SqL K H a (bs.map V.bl) ∧ k (f bs)
structure InD (K : PySem.W.Frag) (H : Hp) (x y : V) (k : Bool → Prop) : Prop where
  ex : ∃ d ds, Dp K H x d ∧ Dp K H y (.list ds) ∧ SeqAt.shaped d = true ∧ SeqAt.shaped (.list ds) = true ∧ k (ds.any fun z => PyData.eqv z d)
section
variable {K : PySem.W.Frag} {g : TG} {tb : TS} {D : Ends} {σ : L2.St} {H : Hp} {a b p : Addr} {xs ys : List V} {tt : TT} {te : TE} {vs : List Nat} {Qd : Hp → Prop}
theorem fw_enum (Pv : Nat → L2.St → Hp → Prop) (h0 : Pv 0 σ H) (hl : ∀ i σ H, i ≤ xs.length → Pv i σ H → SqL K H a xs)
    (hs : ∀ (i : Nat) (x : V) (T : Addr) (σ : L2.St) (H : Hp), xs[i]? = some x → Pv i σ H → H T = none → g (.ref T) σ (upd H T (.tup [.int (i : Nat), x])) fun σ2 H2 => tb { D with nx := Pv (i + 1), ct := Pv (i + 1), bk := D.nx } σ2 H2) (hd : ∀ σ H, Pv xs.length σ H → D.nx σ H) :
    ForW (Ite K a) g tb D σ H := ⟨for_it walk_enum Pv h0 hl (fun i x σ H H' hi hp ⟨T, x1, y1, e1, hT, e2, e3, e4⟩ => by
      subst e1 e2
      cases e3
      exact hs i y1 T σ H e4 hp hT) hd⟩
end
section
variable {K : PySem.W.Frag} {H : Hp} {L R M : List Ck} {I : List (Hp → Prop)} {a b : Addr} {xs ys : List V}
theorem maxl_o {ns : List Int} {f : List Int → Int} {k : Int → Prop} (h : Own H L I) (e : Pull L (.pt a (.lst (ns.map V.int))) R) (n : 0 < ns.length) (q : k (f ns)) : MaxL K H a f k := ⟨ns, SqL.of (h.get e), n, q⟩
theorem alll_o {bs : List Bool} {f : List Bool → Bool} {k : Bool → Prop} (h : Own H L I) (e : Pull L (.pt a (.lst (bs.map V.bl))) R) (q : k (f bs)) : AllL K H a f k := ⟨bs, SqL.of (h.get e), q⟩
theorem ind_o {ds : List PyData} {d : PyData} {x y : V} {k : Bool → Prop} (h1 : Dp K H x d) (h2 : Dp K H y (.list ds)) (h3 : SeqAt.shaped d = true) (h4 : SeqAt.shaped (.list ds) = true) (q : k (ds.any fun z => PyData.eqv z d)) : InD K H x y k := ⟨d, ds, h1, h2, h3, h4, q⟩
end
def SeqW (k : Bool) (L : List Ck) (I : List (Hp → Prop)) (w : Addr) (xs : List V) : Prop := match k with
  | true => ∃ R, Pull L (.pt w (.lst xs)) R
  | false => (∃ R, Pull L (.pt w (.tup xs)) R) ∨ tupI w xs ∈ I
section
variable {K : PySem.W.Frag} {g : TG} {tb : TS} {D : Ends} {σ : L2.St} {H : Hp} {L M R : List Ck} {I J : List (Hp → Prop)} {a b p w : Addr} {xs ys : List V} {tt : TT} {te : TE} {vs : List Nat} {k : Bool} {c : Ck}
theorem SeqW.tail (h : SeqW k L I w xs) : SeqW k (c :: L) I w xs := match k, h with
  | true, ⟨R, h⟩ => ⟨_, .tail h⟩
  | false, .inl ⟨R, h⟩ => .inl ⟨_, .tail h⟩
  | false, .inr h => .inr h
theorem SeqW.l (h : Own H L I) (e : SeqW true L I w xs) : SqL K H w xs := let ⟨_, e⟩ := e; SqL.of (h.get e)
theorem SeqW.t (h : Own H L I) (e : SeqW false L I w xs) : SqT K H w xs := match e with
  | .inl ⟨_, e⟩ => SqT.of (h.get e)
  | .inr e => SqT.of (h.imp e)
end
theorem IDpAll.at {H : Hp} : ∀ {xs : List V} {ds : List PyData} {i : Nat} {x : V}, IDpAll H xs ds → xs[i]? = some x → ∃ d, ds[i]? = some d ∧ IDp H x d
  | _, _, 0, x, .cons a g, h => by
    cases h
    exact ⟨_, rfl, a⟩
  | _, _, i + 1, x, .cons a g, h => IDpAll.at (i := i) g h
theorem lt_get {α : Type} {l : List α} {i : Nat} {x : α} (h : l[i]? = some x) : i < l.length := (List.getElem?_eq_some_iff.mp h).1
end OW
set_option Elab.async false
set_option linter.all false
set_option maxRecDepth 100000
set_option maxHeartbeats 2000000
namespace OW
open PySem PySem.Spec PyProof.Rows L2 RZ SkE CL
structure ShwB (d : PyData) (m B : Nat) : Prop where
  s : d.showable = true
  h : d.hasDict = false
  l : d.canLay0 = true
  q : d.depth ≤ m
  b : bnd d ≤ B
structure ShwA (ds : List PyData) (m B : Nat) : Prop where
  s : PyData.showableAll ds = true
  h : PyData.hasDictAll ds = false
  l : PyData.canLayAll0 ds = true
  q : PyData.depthAll ds ≤ m
  b : bndAll ds ≤ B
theorem ShwA.tup {ds : List PyData} {m B : Nat} (h : ShwA ds m B) : ShwB (.tuple ds) (m + 1) (B + 3) := ⟨by simpa [PyData.showable] using h.s, by simpa [PyData.hasDict] using h.h, by simpa [PyData.canLay0] using h.l, by have := h.q; simp [PyData.depth]; omega, by have := h.b; show bndAll ds + 3 ≤ B + 3; omega⟩
theorem ShwA.lst {ds : List PyData} {m B : Nat} (h : ShwA ds m B) : ShwB (.list ds) (m + 1) (B + 3) := ⟨by simpa [PyData.showable] using h.s, by simpa [PyData.hasDict] using h.h, by simpa [PyData.canLay0] using h.l, by have := h.q; simp [PyData.depth]; omega, by have := h.b; show bndAll ds + 2 ≤ B + 3; omega⟩
theorem ShwB.shaped {d : PyData} {m B : Nat} (h : ShwB d m B) (a : m ≤ 64) : SeqAt.shaped d = true := by
  have l := h.l
  have e : d.depth ≤ 64 := Nat.le_trans h.q a
  simp [SeqAt.shaped, l, e]
theorem ShwB.refl {d : PyData} {m B : Nat} (h : ShwB d m B) : PyData.eqv d d = true := SeqAt.eqv_refl d h.l
theorem sub_nil {α : Type} {M : List α} : ∀ S ∈ ([] : List α), S ∈ M := fun S h => (List.not_mem_nil h).elim
theorem sub_cons {α : Type} {R : α} {L M : List α} (h : R ∈ M) (t : ∀ S ∈ L, S ∈ M) : ∀ S ∈ R :: L, S ∈ M := fun S m => by
  rcases List.mem_cons.mp m with rfl | m
  · exact h
  · exact t S m
theorem room65 {k : Nat} {A : Around} (r : Room (k + 1) A) : A.units + 65 < cLine := by have := r.un; omega
end OW
set_option Elab.async false
set_option linter.all false
set_option maxRecDepth 100000
set_option maxHeartbeats 2000000
namespace OW
open PySem PySem.Spec PyProof.Rows L2 RZ SkE CL
def rIsG (neg : Bool) : R2 := fun x y H Q => match y with
  | .non => Q (.bl (if neg then !decide (x = .non) else decide (x = .non))) H
  | .bl b => match x with
    | .bl a => Q (.bl (if neg then !decide (a = b) else decide (a = b))) H
    | _ => False
  | _ => False
theorem c_isnotG {X : Cx} : OpR X (compareOp .IsNot) (rIsG true) := by
  intro pins s σ H x y v u Q I rx ry h
  unfold rIsG at h
  split at h
  · exact op_notN pins s σ H _ _ v u Q I rx ry ⟨rfl, h⟩
  · split at h
    · exact op_notBl pins s σ H _ _ v u Q I rx ry ⟨_, _, rfl, rfl, h⟩
    · exact h.elim
  · exact h.elim
theorem i_valK {X : Cx} {K : PySem.W.Frag} {tg l : Expr} {tl : TE} (h : X.K = K) (hl : PE X l tl) : PI X tg l (cVal K tl) := h ▸ i_val hl
end OW
set_option Elab.async false
set_option linter.all false
set_option maxRecDepth 100000
set_option maxHeartbeats 2000000
namespace OW
open PySem PySem.Spec PyProof.Rows L2 RZ SkE CL
structure UnU (K : PySem.W.Frag) (H : Hp) (a : Addr) (n : Nat) (k : List V → Prop) : Prop where
  ex : ∃ xs, SqL K H a xs ∧ xs.length = n ∧ k xs
theorem unu_o {K : PySem.W.Frag} {H : Hp} {L R : List Ck} {I : List (Hp → Prop)} {a : Addr} {xs : List V} {n : Nat} {k : List V → Prop} (h : Own H L I) (e : Pull L (.pt a (.lst xs)) R) (l : xs.length = n) (q : k xs) : UnU K H a n k := ⟨xs, SqL.of (h.get e), l, q⟩
end OW
set_option Elab.async false
set_option linter.all false
set_option maxRecDepth 100000
set_option maxHeartbeats 4000000
namespace OW
open PySem PySem.Spec PyProof.Rows L2 RZ SkE CL
/-- the __init__ of a class of errors with one field -/
def spXI (C : Addr) (f : Str) : Sp := fun vs H Q _ => ∃ (a : Addr) (v : V), vs = [.ref a, v] ∧ H a = some (exo a C none) ∧ ∀ d, H d = none → d ≠ a → Q .non (upd (upd H d (exd d [(f, v)])) a (exo a C (some d)))
/-- raise C(v) -/
structure RaiseR (C : Addr) (f : Str) (v : V) (W : WX) (σ : L2.St) (H : Hp) : Prop where
  ex : ∀ d, H d = none → W (.ref C) (some d) σ (upd H d (.xd [(f, v)]))
def cRaise1 (C : Addr) (f : Str) (W : WX) (ta : TA) : TS := fun _ σ H => ta σ H fun vs H1 => match vs with
  | [v] => RaiseR C f v W σ H1
  | _ => False
/-- what is asked for less -/
def upA (ta : TA) : TA := fun σ H Q => ∃ Q1, ta σ H Q1 ∧ ∀ vs H1, Q1 vs H1 → Q vs H1
theorem pa_up {X : Cx} {es : List Expr} {ta : TA} (ha : PA X es ta) : PA X es (upA ta) := ⟨fun pos pins s σ H Q I ⟨Q1, h, w⟩ => thn (ha.run pos pins s σ H Q1 I h) fun us s1 ⟨vs, H1, I1, r, q⟩ => ⟨vs, H1, I1, r, w _ _ q⟩⟩
section
variable {X : Cx} {C fI : Addr} {f x : Str} {e : Expr} {ta : TA} {W : WX} {p pos pos2 : Pos} {CX : CXT} {k : Nat} {fd : FuncData} {ps : List Str}
theorem s_raise1 (hc : X.calm = true) (tk : Takes X W) (T : OexC X.K C) (iC : PySem.W.findIn X.K (.ref C) "__init__" = some (some (.ref fI))) (tI : PySem.W.typeIn X.K (.ref fI) = some (.type "function"))
    (F1 : FnOk X.prog X.w X.K X.mg X.base CX k fI fd ps (spXI C f)) (hr : Room (k + 1) X.A) (hb : Binds X.K fd ps []) (hx : Passes CX X (fun _ _ _ => False)) (hg : Gl X x) (hm : X.mg x = some (.ref C)) (ha : PA X [e] ta)
    (hdb : (x == ("__debug__" : Str)) = false := by decide) (he : starEach [e] X.env = (false, eval e X.env) :: starEach [] X.env := by rfl) (hpl : (backTo pos (starEach [] X.env)).any (·.1) = false := by rfl) :
    PS X (.Raise (some (.Call (.Name x p) [e] [] pos)) none pos2) (cRaise1 C f W ta) := by
  refine ⟨fun pins s σ H D I h => (ps_raise (W := W) (pos := pos2) hc tk (pmk_oex (p := p) T iC tI F1 hr hb .nil hx hg hm (pa_up ha) hdb he hpl)).run pins s σ H D I ?_⟩
  refine ⟨_, h, fun vs H1 h => ?_⟩
  split at h
  · rename_i v
    refine ⟨by show 1 ≤ 1000; decide, fun a ha => ⟨a, v, rfl, upd_same, fun d hd hda => ⟨rfl, d, [(f, v)], upd_same, ?_, ?_, ?_⟩⟩⟩
    · rw [upd_ne hda, upd_same]
    · rw [upd_ne hda] at hd
      exact hd
    · have hd1 : H1 d = none := by rw [upd_ne hda] at hd; exact hd
      have e : upd (del (upd (upd (upd H1 a (exo a C none)) d (exd d [(f, v)])) a (exo a C (some d))) a) d (.xd [(f, v)]) = upd H1 d (.xd [(f, v)]) := by
        funext b
        by_cases hb : b = d
        · rw [hb, upd_same, upd_same]
        · rw [upd_ne hb, upd_ne hb]
          by_cases hb2 : b = a
          · rw [hb2, del_same, ha]
          · rw [del_ne hb2, upd_ne hb2, upd_ne hb, upd_ne hb2]
      rw [e]
      exact h.ex d hd1
  · exact h.elim
end
/-- the __init__ of such a class keeps its promise -/
theorem init_x {P : Program} {w : World} {K : PySem.W.Frag} {mg : Str → Option Value} {base : Heap} {x qual n f : Str} {st : Stmt} {fa : Addr} {fd : FuncData} {C : Addr} (F : Fun K x qual st fa fd) (S : FnScope ["self", n] ["self", n] (defScope st)) (T : OexC K C) (no : PySem.W.findIn K (.ref C) f = some none)
    (hbody : ∀ (cdv : Value) (A : Around) (outer : List Env) (s : Shared) (H : Hp) (E : XK), PSs (cxOf CX0 P w K mg base ["self", n] qual (defScope st) fa cdv A outer s H E).nox (defBody st) (tOst K f (tVar 0) (tVar 1))) : FnOk P w K mg base CX0 1 fa fd ["self", n] (spXI C f) := by
  refine F.ok S (fun vs H Q E h => ?_) (fun cdv A outer s H vs Q E hr h => ⟨_, hbody cdv A outer s H E, ?_⟩)
  · obtain ⟨a, v, rfl, _⟩ := h
    rfl
  · obtain ⟨a, v, rfl, ha, q⟩ := h
    exact ⟨_, rfl, _, rfl, a, C, rfl, T, no, .inl ⟨ha, fun d hd hda => q d hd hda⟩⟩
structure Wr (p : Prop) : Prop where
  q : p
def wr (W : WX) : WX := fun cls d σ H => Wr (W cls d σ H)
theorem Takes.wr {X : Cx} {W : WX} (t : L2.Takes X W) : L2.Takes X (OW.wr W) := L2.Takes.imp t fun _ _ _ _ h => h.q
section
variable {X : Cx} {x n : Str} {c : Value} {i : Nat} {body suite : List Stmt} {b₀ : Stmt} {np pos pos' : Pos} {tb : WX → TS} {ts : Addr → Value → Option Addr → TS} {Wout : WX}
theorem s_try_as (hs : X.stack = X.env :: X.outer) (hf : X.env.frame = some X.env.locals) (hN : X.N.Nodup) (hi : X.N[i]? = some n) (hln : X.env.kindOf n = some .local) (hc : Names X x c) (tk : L2.Takes X Wout)
    (hb : ∀ (W : WX) (pn : List (Addr × Obj)) (xe : Value → Shared → Prop), L2.Takes (X.tr pn xe) W → PassesOwn (model X.prog X.w) X.A X.env xe → PSs (X.tr pn xe) body (tb W))
    (hsu : ∀ (a : Addr) (oe : Obj) (cls : Value) (d : Option Addr) (pn : List (Addr × Obj)), Zc cls d oe → (∃ vs, oe.data = .fields vs) → PSs (X.suite a ((a, oe) :: pn)) (b₀ :: suite) (ts a cls d)) :
    PS X (.Try body [.ExceptHandler (some (.Name x np)) (some n) (b₀ :: suite) pos'] [] [] pos) (fun D σ H => tb (OW.wr (wAs X.K c i ts Wout D)) D σ H) :=
  ps_try_as (tb := fun W => tb (OW.wr W)) hs hf hN hi hln hc tk (fun W pn xe t po => hb (OW.wr W) pn xe (OW.Takes.wr t) po) hsu
end
theorem catch_yes {K : PySem.W.Frag} {c cls : Value} {i : Nat} {ts : Addr → Value → Option Addr → TS} {Wout : WX} {D : Ends} {d : Option Addr} {σ : L2.St} {H : Hp} (e : PySem.W.exmOne K cls c = some true)
    (h : ∀ a, H a = none → ts a cls d { nx := fun σ' H' => D.nx (σ'.set i none) H', rt := D.rt, bk := fun σ' H' => D.bk (σ'.set i none) H', ct := fun σ' H' => D.ct (σ'.set i none) H' } (σ.set i (some (.ref a))) H) : Wr (wAs K c i ts Wout D cls d σ H) :=
  ⟨⟨true, e, fun _ => h, fun z => by cases z⟩⟩
/-- e.f, e what was caught -/
structure XfG (x : V) (a : Addr) (cls : Value) (d : Option Addr) (C : Addr) (f : Str) (H : Hp) (Q : VK) : Prop where
  ex : x = .ref a ∧ cls = .ref C ∧ ∃ (dd : Addr) (fs : List (Str × V)) (v : V), d = some dd ∧ H dd = some (.xd fs) ∧ fs.lookup f = some v ∧ Q v H
def cXf (a : Addr) (cls : Value) (d : Option Addr) (C : Addr) (f : Str) (te : TE) : TE := fun σ H Q => te σ H fun x H1 => XfG x a cls d C f H1 Q
theorem e_xf {X : Cx} {a C : Addr} {oe : Obj} {cls : Value} {d : Option Addr} {pn : List (Addr × Obj)} {e : Expr} {te : TE} {pos : Pos} {n : Str} (T : XfC X.K C) (hno : PySem.W.findIn X.K (.ref C) n = some none)
    (hz : Zc cls d oe) (hf : ∃ vs, oe.data = .fields vs) (he : PE (X.suite a ((a, oe) :: pn)) e te) (hb : attributeBase e n X.env (eval e X.env) = eval e X.env := by rfl) :
    PE (X.suite a ((a, oe) :: pn)) (.Attribute e n pos) (cXf a cls d C n te) := by
  have e2 : cXf a cls d C n te = tXf a cls d C n te := by
    funext σ H Q
    show (te σ H fun x H1 => XfG x a cls d C n H1 Q) = _
    have e3 : (fun (x : V) (H1 : Hp) => XfG x a cls d C n H1 Q) = fun x H1 => x = .ref a ∧ cls = .ref C ∧ ∃ (dd : Addr) (fs : List (Str × V)) (v : V), d = some dd ∧ H1 dd = some (.xd fs) ∧ fs.lookup n = some v ∧ Q v H1 := by
      funext x H1
      exact propext ⟨fun h => h.ex, fun h => ⟨h⟩⟩
    rw [e3]
    rfl
  rw [e2]
  exact pe_xf T hno hz hf he hb
theorem xf_o {H : Hp} {L R : List Ck} {I : List (Hp → Prop)} {a C dd : Addr} {fs : List (Str × V)} {f : Str} {v : V} {Q : VK} (h : Own H L I) (p : Pull L (.pt dd (.xd fs)) R) (l : fs.lookup f = some v) (q : Q v H) : XfG (.ref a) a (.ref C) (some dd) C f H Q :=
  ⟨rfl, rfl, dd, fs, v, rfl, h.get p, l, q⟩
/-- isinstance(e, c), e what was caught -/
structure IsEG (K : PySem.W.Frag) (D a : Addr) (cls : Value) (d : Option Addr) (x c : V) (H : Hp) (Q : VK) : Prop where
  ex : ∃ (cv : Value) (b : Bool) (dd : Addr) (fs : List (Str × V)), x = .ref a ∧ cls = .ref D ∧ d = some dd ∧ H dd = some (.xd fs) ∧ (∀ u, RelV c u → u = cv) ∧ PySem.W.kitOne K (.ref D) cv = some b ∧ Q (.bl b) H
def rIsEG (K : PySem.W.Frag) (D a : Addr) (cls : Value) (d : Option Addr) : List V → Hp → VK → Prop := fun xs H Q => match xs with
  | [x, c] => IsEG K D a cls d x c H Q
  | _ => False
theorem k_isE {X : Cx} {K : PySem.W.Frag} {a D : Addr} {oe : Obj} {cls : Value} {d : Option Addr} {pn : List (Addr × Obj)} (hK : X.K = K) (C : ExcC K D) (hz : Zc cls d oe) (hf : ∃ vs, oe.data = .fields vs) : CallR (X.suite a ((a, oe) :: pn)) (.builtin "isinstance") (rIsEG K D a cls d) := by
  subst hK
  intro pins s σ H xs us Q I r h
  unfold rIsEG at h
  split at h
  · obtain ⟨cv, b, dd, fs, rfl, rfl, rfl, ea, hcv, e, q⟩ := h.ex
    cases r with
    | cons rx rr =>
      cases rr with
      | cons rt rr =>
        cases rr
        cases rx
        have ec := hcv _ rt
        subst ec
        obtain ⟨hget, _⟩ := I.pin (a, oe) (List.mem_append.mpr (.inl List.mem_cons_self))
        obtain ⟨vs, hv⟩ := hf
        have hx : ObjOk X.prog X.w H s.heap dd (.xd fs) := I.hok dd _ ea
        obtain ⟨mA, hns, hr⟩ := hx
        obtain ⟨od, ho, hl⟩ := lookIn_ns hns
        have J : PySem.W.InstAt s.heap a oe D (some od) := ⟨hget, hz.1, by unfold PySem.W.notCls; rw [hv] <;> rfl, by rw [hz.2]; exact ho⟩
        have hcl : (PySem.W.clsIn X.K D).isSome = true := by
          obtain ⟨cd, hc, _⟩ := PySem.W.any_some C.hd
          rw [hc]
          rfl
        exact PySem.W.kia_one (PySem.W.kitx_exc hcl C.hg C.hk C.hs C.ha C.hn C.ht C.hm) I.kIn J e (fun z => nomatch z) fun tk => ⟨.bl b, H, I.kept (t' := tk) fun _ _ z => z, rfl, q⟩
  · exact h.elim
theorem isE_o {K : PySem.W.Frag} {H : Hp} {L R : List Ck} {I : List (Hp → Prop)} {a D c dd : Addr} {fs : List (Str × V)} {b : Bool} {Q : VK} (h : Own H L I) (p : Pull L (.pt dd (.xd fs)) R) (e : PySem.W.kitOne K (.ref D) (.ref c) = some b) (q : Q (.bl b) H) : IsEG K D a (.ref D) (some dd) (.ref a) (.ref c) H Q :=
  ⟨.ref c, b, dd, fs, rfl, rfl, rfl, h.get p, fun u r => r, e, q⟩
theorem raise_o {H : Hp} {L : List Ck} {I : List (Hp → Prop)} {C : Addr} {f : Str} {v : V} {W : WX} {σ : L2.St} (h : Own H L I) (q : ∀ d H', Own H' (.pt d (.xd [(f, v)]) :: L) I → W (.ref C) (some d) σ H') : RaiseR C f v W σ H := ⟨fun d hd => q d _ (h.new hd)⟩
end OW
set_option Elab.async false
set_option linter.all false
set_option maxRecDepth 100000
set_option maxHeartbeats 2000000
namespace OW
open PySem PySem.Spec PyProof.Rows L2 RZ SkE CL
mutual
inductive VO (l : List (Addr × HO)) : V → PyData → Prop
  | non : VO l .non .none
  | bl (b : Bool) : VO l (.bl b) (.bool b)
  | int (i : Int) : VO l (.int i) (.int i)
  | str (z : Str) : VO l (.str z) (.str z)
  | lst {a : Addr} {xs : List V} {ds : List PyData} (m : (a, HO.lst xs) ∈ l) (g : VOAll l xs ds) : VO l (.ref a) (.list ds)
  | tup {a : Addr} {xs : List V} {ds : List PyData} (m : (a, HO.tup xs) ∈ l) (g : VOAll l xs ds) : VO l (.ref a) (.tuple ds)
inductive VOAll (l : List (Addr × HO)) : List V → List PyData → Prop
  | nil : VOAll l [] []
  | cons {v : V} {vs : List V} {d : PyData} {ds : List PyData} (h : VO l v d) (g : VOAll l vs ds) : VOAll l (v :: vs) (d :: ds)
end
section
variable {l l' : List (Addr × HO)} {H : Hp} {K : PySem.W.Frag}
theorem VO.any {d : PyData} {v : V} (k : ∀ p ∈ l, H p.1 = some p.2) (h : VO l v d) : AnyV H v := by
  cases h with
  | non => exact .non
  | bl b => exact .bl b
  | int i => exact .int i
  | str z => exact .str z
  | lst m g => exact .lst (k _ m)
  | tup m g => exact .tup (k _ m)
theorem VOAll.len : ∀ {vs : List V} {ds : List PyData}, VOAll l vs ds → vs.length = ds.length
  | _, _, .nil => rfl
  | _, _, .cons h g => by rw [List.length_cons, List.length_cons, g.len]
theorem VOAll.at : ∀ {vs : List V} {ds : List PyData} {i : Nat} {x : V}, VOAll l vs ds → vs[i]? = some x → ∃ d, ds[i]? = some d ∧ VO l x d
  | _, _, i, x, .nil, h => by cases h
  | _, _, 0, x, .cons h g, e => by cases e; exact ⟨_, rfl, h⟩
  | _, _, i + 1, x, .cons h g, e => g.at (i := i) e
theorem VOAll.set {y : V} {e : PyData} (h : VO l y e) : ∀ {vs : List V} {ds : List PyData} {i : Nat}, VOAll l vs ds → VOAll l (vs.set i y) (ds.set i e)
  | _, _, i, .nil => .nil
  | _, _, 0, .cons _ g => .cons h g
  | _, _, i + 1, .cons h2 g => .cons h2 (g.set (i := i) h)
end
theorem pull_app {α : Type} {c : α} {L R : List α} (e : Pull L c R) : ∀ M : List α, Pull (M ++ L) c (M ++ R)
  | [] => e
  | x :: M => .tail (pull_app e M)
end OW
set_option Elab.async false
set_option linter.all false
set_option maxRecDepth 100000
set_option maxHeartbeats 2000000
namespace PySem
open Sem (wp)
set_option maxHeartbeats 1000000 in
theorem meets_enumerate_newB1 {v : Value} {o : Obj} {H : Heap → Prop} (B : Begins v o H) :
    Meets (Builtin.«enumerate.__new__» ⟨[.type "enumerate", v], []⟩) (fun _ R s => H s.heap ∧
      R (.ok (.ret (.ref (s.heap.push o).objs.size))) { s with heap := (s.heap.push o).push { cls := .type "enumerate", data := .fields #[.none, .bool false, .ref s.heap.objs.size, rawInt 0, .none, .none] } }) :=
  .of_wp fun prog w A R s h => by
    obtain ⟨hp, g, d, tk, os⟩ := s; obtain ⟨h1, h⟩ := h
    have hsub := sub_enumerate
    have q1 : ∀ {A' : Around} {E : Value → Shared → Prop} {Q : Value → Shared → Prop}, Q (.ref hp.objs.size) ⟨hp.push o, g, d, tk, os⟩ → wpAny (model prog w) A' (pyIter v) Q E ⟨hp, g, d, tk, os⟩ :=
      fun q => B.iter prog w _ _ ⟨hp, g, d, tk, os⟩ _ h1 q
    wp_walk using q1
    refine wpAny_stack_any fun st => wpAny_pure ?_
    split
    · rename_i c _ _ _ _ _
      cases (c == Value.type "enumerate")
      · wp_walk using q1
        exact ⟨_, rfl, h⟩
      · wp_walk using q1
        exact ⟨_, rfl, h⟩
    · wp_walk using q1
      exact ⟨_, rfl, h⟩
section
variable {prog : Program} {w : World} {A : Around} {E : Value → Shared → Prop} {s : Shared}
theorem enum_begins1 {v : Value} {o : Obj} {H : Heap → Prop} {Q : Value → Shared → Prop} (B : Begins v o H) (h1 : H s.heap)
    (h : ∀ h', IsEnum h' (s.heap.objs.size + 1) s.heap.objs.size 0 .none → h'.get? s.heap.objs.size = some o → h'.objs.size = s.heap.objs.size + 2 →
      (∀ b o, s.heap.get? b = some o → h'.get? b = some o) → Q (.ref (s.heap.objs.size + 1)) { s with heap := h' }) :
    wpAny (model prog w) A (call (.type "enumerate") [v]) Q E s := by
  refine callType_new F.called_enumerate (by decide) (F.typeCall_enumerate_1 _) (F.newCall_enumerate_1 _) (fun obj => F.args_object_init_2 obj _) F.entry_enumerate_new
    (meets_enumerate_newB1 B) ⟨h1, ?_⟩
  have hz : (s.heap.push o).objs.size = s.heap.objs.size + 1 := Heap.size_push ..
  show _ ∧ _
  rw [hz]
  have he : IsEnum ((s.heap.push o).push { cls := .type "enumerate", data := .fields #[.none, .bool false, .ref s.heap.objs.size, rawInt 0, .none, .none] }) (s.heap.objs.size + 1) s.heap.objs.size 0 .none := by
    have := Heap.get?_push_size (s.heap.push o) (o := { cls := .type "enumerate", data := .fields #[.none, .bool false, .ref s.heap.objs.size, rawInt 0, .none, .none] }) rfl
    rw [hz] at this; exact this
  refine ⟨⟨_, he, rfl⟩, h _ he (Heap.get?_push_of_some _ (Heap.get?_push_size _ B.free)) (by rw [Heap.size_push, hz]) fun b o x => Heap.get?_push_of_some _ (Heap.get?_push_of_some _ x)⟩
theorem enumT_end {e it t : Addr} {i : Nat} {j : Int} {items : Array Value} {old : Value} {Q : Option Value → Shared → Prop} (hh : A.in1.handled = none)
    (he : IsEnum s.heap e it j old) (hit : s.heap.IsTupleIter it t i) (ht : s.heap.IsTuple t items) (hx : items[i]? = none)
    (hQ : ∀ h', Heap.ExtBut it s.heap h' → Q none { s with heap := h' }) : wpAny (model prog w) A (pyNext (.ref e)) Q E s := by
  have hT : s.TypeIs (.ref e) "enumerate" := ⟨_, he, rfl⟩
  unfold pyNext
  refine wpAny_bind (wpAny_attempt (wpAny_callSpecial?_slot (name := Str.ofString "__next__") hT F.slot_enumerate_next
    (wpAny_call_entry F.slot_enumerate_next hT F.entry_enumerate_next ?_ (F.args_enumerate_next_1 _))))
  show wpAny _ _ (field (.ref e) 2 >>= _) _ _ _
  refine wpAny_bind (wpAny_field he rfl (x := .ref it) rfl ?_)
  refine wpAny_bind (wpAny_nextOf_tuple_end hh hit ht hx fun h' x he' hx' => ?_)
  obtain ⟨o, ho, hc⟩ := hx'
  refine wpAny_bind (wpAny_isInstance (T := "StopIteration") (b := true) ⟨o, ho, hc⟩ isSubtype_stop ?_)
  exact wpAny_pure (hQ _ he')
end
end PySem
namespace L2
open PySem PySem.Spec PyProof.Rows
/-- the tuple at a as it stands at each turn, each item in a new pair -/
def IteT (K : PySem.W.Frag) (a : Addr) : It :=
  ⟨fun i H => ∃ (xs : List V) (x : V), SqT K H a xs ∧ xs[i]? = some x, fun i H v H' => ∃ T x, v = .ref T ∧ H T = none ∧ H' = upd H T (.tup [.int (i : Nat), x]) ∧ ∀ xs, SqT K H a xs → xs[i]? = some x, fun i H => ∃ xs : List V, SqT K H a xs ∧ xs.length ≤ i⟩
theorem turn_enumT {P : Program} {w : World} {K : PySem.W.Frag} {elts : List Expr} {kk : Nat} {tpos : Pos} (a e it : Addr) :
    Turn P w K (.Tuple elts kk tpos) (IteT K a) [e, it] e (fun i h => (∃ old, IsEnum h e it ((i : Nat) : Int) old) ∧ h.IsTupleIter it a i ∧ e ≠ it) where
  mem := by simp
  obj := fun i h st b hb => by
    obtain ⟨⟨old, he⟩, ⟨o, ho, hc, hd⟩, _⟩ := st
    have e' : b = e ∨ b = it := by simpa using hb
    rcases e' with z | z
    · rw [z]; exact ⟨_, he, fun v q => nomatch q⟩
    · rw [z]; exact ⟨o, ho, fun v q => by rw [hd] at q; cases q⟩
  keep := fun i h h' st k => let ⟨⟨old, he⟩, hi, hne⟩ := st; ⟨⟨old, k e (by simp) _ he⟩, hi.at fun o q => k it (by simp) o q, hne⟩
  item := by
    intro X hP hw hK hc i pins s σ H E I hf st hg
    subst hP hw hK
    obtain ⟨⟨old, he⟩, hit, hne⟩ := st
    obtain ⟨xs, x, hq, hx⟩ := hg
    obtain ⟨its, rv, p, hz⟩ := I.tuple hq
    obtain ⟨u, hu, ru⟩ := rv.get hx
    have hel : e < s.heap.objs.size := Heap.lt_size he
    have hil : it < s.heap.objs.size := by obtain ⟨_, q, _⟩ := hit; exact Heap.lt_size q
    have pt : s.heap.IsTuple a its.toArray := p
    have ai : a ≠ it := fun z => by
      obtain ⟨o1, q1, c1, _⟩ := pt
      obtain ⟨o2, q2, c2, _⟩ := hit
      rw [z, q2] at q1
      cases q1
      rw [c2] at c1
      exact absurd (Value.type.inj c1) (by decide)
    have ea : e ≠ a := fun z => by
      obtain ⟨o1, q1, c1, _⟩ := pt
      rw [← z] at q1
      have q2 := he
      unfold IsEnum at q2
      rw [q1] at q2
      cases q2
      exact absurd (Value.type.inj c1) (by decide)
    have hh : X.A.in1.handled = none := I.ok.hd hc
    have D := Draws.tuple (prog := X.prog) (w := X.w) (A := X.A.in1) hh it a ai its.toArray
    have hlt : i < its.toArray.size := by
      have := (List.getElem?_eq_some_iff.mp hu).1
      simpa using this
    refine wpAny_pyNext_enum_itemD D he ⟨hit, pt⟩ hlt hne (by simp [hne, ea]) fun x' h' tk hPx ho hst' hT hsz hk => ?_
    have ex : x' = u := by
      have q : its.toArray[i]? = some u := by simpa using hu
      rw [hPx] at q
      exact Option.some.inj q
    subst ex
    refine ⟨_, rfl, wpAny_letOwnedTupleGo_enum (s := { s with heap := h', toks := tk + 1 }) ho fun h'' he' sb => ?_⟩
    have hT2 : h''.get? s.heap.objs.size = some { cls := .type "tuple", data := .seq #[.int i tk, x'] } := (sb.2 _ (Nat.ne_of_gt hel)).trans hT
    have new : ObjOk X.prog X.w (upd H s.heap.objs.size (.tup [.int (i : Nat), x])) h'' s.heap.objs.size (.tup [.int (i : Nat), x]) :=
      ⟨by show 2 ≤ sizeLine; decide, [.int i tk, x'], .cons ⟨_, rfl⟩ (.cons ru .nil), ⟨_, hT2, rfl, _, rfl⟩⟩
    have I1 : Inv X pins σ (upd H s.heap.objs.size (.tup [.int (i : Nat), x])) { s with heap := h'', toks := tk + 1 } :=
      I.turnedNew (ch := [e, it]) (fun b ob hb q => (sb.2 b (fun z => hb (by simp [z]))).trans (hk b ob (fun z => hb (by simp [z])) (fun z => hb (by simp [z])) q)) hf (Nat.le_refl _) new
    refine ⟨.ref s.heap.objs.size, _, I1, rfl, ⟨_, x, rfl, I.hok.fresh (Nat.le_refl _), rfl, fun ys hy => by rw [I.tuple_inj hy hq]; exact hx⟩, ⟨⟨x', ?_⟩, hst'.1.at fun o q => (sb.2 it (Ne.symm hne)).trans q, hne⟩, fun b hb => ?_⟩
    · have e1 : ((i + 1 : Nat) : Int) = (i : Int) + 1 := by omega
      rw [e1]; exact he'
    · have hb' : b < s.heap.objs.size := by
        have e' : b = e ∨ b = it := by simpa using hb
        rcases e' with z | z
        · rw [z]; exact hel
        · rw [z]; exact hil
      rw [upd_ne (Nat.ne_of_lt hb')]
      exact (hf b hb).1
  done := by
    intro X hP hw hK hc i pins s σ H E I hf st hg
    subst hP hw hK
    obtain ⟨⟨old, he⟩, hit, hne⟩ := st
    obtain ⟨xs, hq, hx⟩ := hg
    obtain ⟨its, rv, p, hz⟩ := I.tuple hq
    obtain ⟨f0, f1, f2, f3, f4, f5⟩ := hf it (by simp)
    have hl := rv.length
    have pt : s.heap.IsTuple a its.toArray := p
    have ai : a ≠ it := fun z => by
      obtain ⟨o1, q1, c1, _⟩ := pt
      obtain ⟨o2, q2, c2, _⟩ := hit
      rw [z, q2] at q1
      cases q1
      rw [c2] at c1
      exact absurd (Value.type.inj c1) (by decide)
    exact enumT_end (I.ok.hd hc) he hit pt (by simp; omega) fun h' eb => ⟨rfl, I.turned (t' := s.toks) (fun b o hb q => eb b o hb q) f0 f1 f3 f4 f5⟩
  self := fun A i s Q E st h => let ⟨⟨_, he⟩, _⟩ := st; wpAny_pyIter_enum he h
theorem walk_enumT {K : PySem.W.Frag} {a : Addr} {xs : List V} : Walk (IteT K a) xs.length (fun H => SqT K H a xs) (YPair (fun i => some (.int (i : Nat))) (fun i => xs[i]?)) := by
  refine ⟨fun i _ hi q => ⟨xs, xs[i], q, by simp [hi]⟩, fun _ q => ⟨xs, q, Nat.le_refl _⟩, fun i H v H' _ q y => ?_⟩
  obtain ⟨T, x, h1, h2, h3, h4⟩ := y
  exact ⟨T, .int (i : Nat), x, h1, h2, h3, rfl, h4 xs q⟩
/-- enumerate of a list or a tuple -/
def iEnumA (K : PySem.W.Frag) (ta : TA) : TI := fun σ H R => ta σ H fun vs H1 => ∃ a, vs = [.ref a] ∧ ((∃ xs, SqL K H1 a xs) ∧ R (Ite K a) H1 ∨ (∃ xs, SqT K H1 a xs) ∧ R (IteT K a) H1)
theorem pi_enumA {X : Cx} {e : Expr} {ta : TA} {p pos tpos : Pos} {elts : List Expr} {kk : Nat} (hg : Gl X "enumerate") (hm : X.mg "enumerate" = none) (ha : PA X [e] ta) (hs : starEach [e] X.env = [(false, eval e X.env)] := by rfl) :
    PI X (.Tuple elts kk tpos) (.Call (.Name "enumerate" p) [e] [] pos) (iEnumA X.K ta) := by
  refine ⟨fun pins s σ H R I h => ?_⟩
  refine Call_ (ld_blt I hg hm boot_enumerate (PyProof.Rows.callWith_type1 (thn (ha.run pos pins s σ H _ I h) fun us s1 ⟨vs, H1, I1, r1, q1⟩ => ?_) hs rfl))
  obtain ⟨a, ex, q⟩ := q1
  subst ex
  cases r1 with
  | cons r rr =>
    cases rr
    cases r
    have hle : ∀ b, b ∈ [s1.heap.objs.size + 1, s1.heap.objs.size] → s1.heap.objs.size ≤ b := fun b hb => by
      have e' : b = s1.heap.objs.size + 1 ∨ b = s1.heap.objs.size := by simpa using hb
      rcases e' with z | z
      · rw [z]; exact Nat.le_add_right _ _
      · rw [z]; exact Nat.le_refl _
    rcases q with ⟨⟨xs, hq⟩, q⟩ | ⟨⟨xs, hq⟩, q⟩
    · obtain ⟨its, rv, p', hz⟩ := I1.list hq
      refine call_enumerate_list p'.isList fun h' he hit hsz hk => wpAny_pyIter_enum he ?_
      have I2 : Inv X pins σ H1 { s1 with heap := h' } := I1.kept (t' := s1.toks) hk
      exact ⟨s1.heap.objs.size + 1, [s1.heap.objs.size + 1, s1.heap.objs.size], _, _, H1, rfl, I2, turn_enum a (s1.heap.objs.size + 1) s1.heap.objs.size, ⟨⟨.none, he⟩, hit, Nat.succ_ne_self _⟩, fun b hb => I1.fpOk (hle b hb) (I1.hok.fresh (hle b hb)), q⟩
    · obtain ⟨its, rv, p', hz⟩ := I1.tuple hq
      have pt : s1.heap.IsTuple a its.toArray := p'
      refine enum_begins1 (begins_tuple a its.toArray) pt fun h' he hit hsz hk => wpAny_pyIter_enum he ?_
      have I2 : Inv X pins σ H1 { s1 with heap := h' } := I1.kept (t' := s1.toks) hk
      exact ⟨s1.heap.objs.size + 1, [s1.heap.objs.size + 1, s1.heap.objs.size], _, _, H1, rfl, I2, turn_enumT a (s1.heap.objs.size + 1) s1.heap.objs.size, ⟨⟨.none, he⟩, ⟨_, hit, rfl, rfl⟩, Nat.succ_ne_self _⟩, fun b hb => I1.fpOk (hle b hb) (I1.hok.fresh (hle b hb)), q⟩
end L2
namespace OW
open PySem PySem.Spec PyProof.Rows L2 RZ SkE CL
structure ItEA (K : PySem.W.Frag) (H : Hp) (a : Addr) (R : It → Hp → Prop) : Prop where
  ex : (∃ xs, SqL K H a xs) ∧ R (Ite K a) H ∨ (∃ xs, SqT K H a xs) ∧ R (IteT K a) H
def cEnumA (K : PySem.W.Frag) (ta : TA) : TI := fun σ H R => ta σ H (onR1 fun a H1 => ItEA K H1 a R)
theorem i_enumA {X : Cx} {K : PySem.W.Frag} {e : Expr} {ta : TA} {p pos tpos : Pos} {elts : List Expr} {kk : Nat} (hK : X.K = K) (hg : Gl X "enumerate") (hm : X.mg "enumerate" = none) (ha : PA X [e] ta) (hs : starEach [e] X.env = [(false, eval e X.env)] := by rfl) :
    PI X (.Tuple elts kk tpos) (.Call (.Name "enumerate" p) [e] [] pos) (cEnumA K ta) := by
  subst hK
  have e2 : cEnumA X.K ta = iEnumA X.K ta := by
    funext σ H R
    show (ta σ H (onR1 fun a H1 => ItEA X.K H1 a R)) = ta σ H _
    congr 1
    funext vs H1
    refine propext ⟨fun h => ?_, fun h => ?_⟩
    · obtain ⟨a, rfl, h⟩ := onR1_ok h
      exact ⟨a, rfl, h.ex⟩
    · obtain ⟨a, rfl, h⟩ := h
      exact ⟨h⟩
  rw [e2]
  exact pi_enumA hg hm ha hs
section
variable {K : PySem.W.Frag} {g : TG} {tb : TS} {D : Ends} {σ : L2.St} {H : Hp} {a b p : Addr} {xs ys : List V} {tt : TT} {te : TE} {vs : List Nat} {Qd : Hp → Prop}
theorem fw_enumT (Pv : Nat → L2.St → Hp → Prop) (h0 : Pv 0 σ H) (hl : ∀ i σ H, i ≤ xs.length → Pv i σ H → SqT K H a xs)
    (hs : ∀ (i : Nat) (x : V) (T : Addr) (σ : L2.St) (H : Hp), xs[i]? = some x → Pv i σ H → H T = none → g (.ref T) σ (upd H T (.tup [.int (i : Nat), x])) fun σ2 H2 => tb { D with nx := Pv (i + 1), ct := Pv (i + 1), bk := D.nx } σ2 H2) (hd : ∀ σ H, Pv xs.length σ H → D.nx σ H) :
    ForW (IteT K a) g tb D σ H := ⟨for_it walk_enumT Pv h0 hl (fun i x σ H H' hi hp ⟨T, x1, y1, e1, hT, e2, e3, e4⟩ => by
      subst e1 e2
      cases e3
      exact hs i y1 T σ H e4 hp hT) hd⟩
end
section
variable {K : PySem.W.Frag} {H : Hp} {L R : List Ck} {I : List (Hp → Prop)} {a : Addr} {xs : List V}
theorem itea_t {P : It → Hp → Prop} (h : SqT K H a xs) (q : P (IteT K a) H) : ItEA K H a P := ⟨.inr ⟨⟨xs, h⟩, q⟩⟩
theorem itea_sl {P : It → Hp → Prop} (h : SqL K H a xs) (q : P (Ite K a) H) : ItEA K H a P := ⟨.inl ⟨⟨xs, h⟩, q⟩⟩
end
end OW
set_option Elab.async false
set_option linter.all false
set_option maxRecDepth 100000
set_option maxHeartbeats 2000000
namespace OW
open PySem PySem.Spec PyProof.Rows L2 RZ SkE CL
structure IsTT (K : PySem.W.Frag) (H : Hp) (x : V) (tp : Addr) (k : Bool → Prop) : Prop where
  ex : ∃ cs us t b, H tp = some (.tup cs) ∧ Paired ClsV cs us ∧ TyX K H x t ∧ PySem.W.kitAny K t us = some b ∧ k b
/-- whether a value is a list or a tuple -/
inductive SeqB (K : PySem.W.Frag) (H : Hp) : V → Bool → Prop
  | non : SeqB K H .non false
  | bl (b : Bool) : SeqB K H (.bl b) false
  | int (i : Int) : SeqB K H (.int i) false
  | str (z : Str) : SeqB K H (.str z) false
  | lst {a : Addr} {xs : List V} (e : H a = some (.lst xs)) : SeqB K H (.ref a) true
  | tup {a : Addr} {xs : List V} (e : H a = some (.tup xs)) : SeqB K H (.ref a) true
  | oth {x : V} {t : Value} {b : Bool} (ty : TyX K H x t) (k : PySem.W.kitAny K t [.type "list", .type "tuple"] = some b) : SeqB K H x b
theorem kitLT {K : PySem.W.Frag} {H : Hp} {x : V} {b : Bool} {tp : Addr} {k : Bool → Prop} (h : SeqB K H x b) (ht : H tp = some (.tup [.ty "list", .ty "tuple"])) (q : k b) : IsTT K H x tp k := by
  have p : Paired ClsV [.ty "list", .ty "tuple"] [.type "list", .type "tuple"] := .cons (.ty _) (.cons (.ty _) .nil)
  cases h with
  | non => exact ⟨_, _, _, _, ht, p, .base .non, kitAny_cons kit_NoneType_list (fun _ => kitAny_cons kit_NoneType_tuple (fun _ => kitAny_nil) (fun z => by cases z)) (fun z => by cases z), q⟩
  | bl b => exact ⟨_, _, _, _, ht, p, .base (.bl _), kitAny_cons kit_bool_list (fun _ => kitAny_cons kit_bool_tuple (fun _ => kitAny_nil) (fun z => by cases z)) (fun z => by cases z), q⟩
  | int i => exact ⟨_, _, _, _, ht, p, .base (.int _), kitAny_cons kit_int_list (fun _ => kitAny_cons kit_int_tuple (fun _ => kitAny_nil) (fun z => by cases z)) (fun z => by cases z), q⟩
  | str z => exact ⟨_, _, _, _, ht, p, .base (.str _), kitAny_cons kit_str_list (fun _ => kitAny_cons kit_str_tuple (fun _ => kitAny_nil) (fun z => by cases z)) (fun z => by cases z), q⟩
  | lst e => exact ⟨_, _, _, _, ht, p, .base (.lst e), kitAny_cons kit_list_list (fun z => by cases z) (fun _ => rfl), q⟩
  | tup e => exact ⟨_, _, _, _, ht, p, .base (.tup e), kitAny_cons kit_tuple_list (fun _ => kitAny_cons kit_tuple_tuple (fun z => by cases z) (fun _ => rfl)) (fun z => by cases z), q⟩
  | oth ty z => exact ⟨_, _, _, _, ht, p, ty, z, q⟩
def seqD : PyData → Bool
  | .list _ => true
  | .tuple _ => true
  | _ => false
theorem VO.seq {K : PySem.W.Frag} {l : List (Addr × HO)} {H : Hp} {d : PyData} {v : V} (k : ∀ p ∈ l, H p.1 = some p.2) (h : VO l v d) : SeqB K H v (seqD d) := by
  cases h with
  | non => exact .non
  | bl b => exact .bl b
  | int i => exact .int i
  | str z => exact .str z
  | lst m g => exact .lst (k _ m)
  | tup m g => exact .tup (k _ m)
def cMake0 (C : Addr) (sp : Sp) (dvs : List V) (E : XK) : TE := fun σ H Q => Ask (∀ x dx, H x = none → H dx = none → dx ≠ x → sp (.ref x :: dvs) (upd (upd H dx (.own x)) x (.ins C dx [])) (fun v H2 => v = .non ∧ Q (.ref x) H2) E)
theorem e_make0 {X : Cx} {CX : CXT} {k : Nat} {f C : Addr} {fd : FuncData} {ps : List Str} {sp : Sp} {dvs : List V} {ds : List Value} {E : XK} {x : Str} {p pos : Pos} (M : Mk X.K C f) (F : FnOk X.prog X.w X.K X.mg X.base CX k f fd ps sp) (hr : Room (k + 1) X.A) (hg : Gl X x) (hm : X.mg x = some (.ref C)) (hb : Binds X.K fd ps ds) (hd : Vals dvs ds) (hx : Passes CX X E)
    (hdb : (x == ("__debug__" : Str)) = false := by decide) : PE X (.Call (.Name x p) [] [] pos) (cMake0 C sp dvs E) := by
  have e2 : cMake0 C sp dvs E = tMake C sp dvs E tNil := by
    funext σ H Q
    unfold cMake0 tMake
    simp only [ask_eq]
    rfl
  rw [e2]
  exact pe_make0 M F hr hg hm hb hd hx hdb
end OW
set_option Elab.async false
set_option linter.all false
set_option maxRecDepth 100000
set_option maxHeartbeats 2000000
namespace L2
open PySem PySem.Spec PyProof.Rows SeqAt
end L2
namespace OW
open PySem PySem.Spec PyProof.Rows L2 RZ SkE CL
end OW
set_option Elab.async false
set_option linter.all false
set_option maxRecDepth 100000
set_option maxHeartbeats 2000000
namespace OW
open PySem PySem.Spec PyProof.Rows L2 RZ SkE CL
structure LenD (H : Hp) (a : Addr) (k : Nat → Prop) : Prop where
  ex : ∃ kvs : List (Key × V), H a = some (.dK kvs) ∧ k kvs.length
structure RepL (H : Hp) (a : Addr) (n : Int) (Q : VK) : Prop where
  ex : ∃ xs, H a = some (.lst xs) ∧ (-(2 ^ 63) ≤ n ∧ n < 2 ^ 63 ∧ xs.length * n.toNat ≤ sizeLine) ∧ New H (.lst (List.replicate n.toNat xs).flatten) fun p H' => Q (.ref p) H'
structure FldInc (K : PySem.W.Frag) (H : Hp) (a : Addr) (f : Str) (c : Int) (k : Hp → Prop) : Prop where
  ex : ∃ C dx fs i, H a = some (.ins C dx fs) ∧ Cls K C ∧ NoAttr K C f ∧ fs.lookup f = some (.int i) ∧ fs.length < 1000 ∧ k (upd H a (.ins C dx (putF f (.int (i + c)) fs)))
structure ItD (H : Hp) (d : Addr) (T : Addr → Obj → List (Key × V) → It) (R : It → Hp → Prop) : Prop where
  ex : ∃ o kvs, H d = some (.frz o (.dK kvs)) ∧ R (T d o kvs) H
section
variable {g : TG} {tb : TS} {D : Ends} {σ : L2.St} {H : Hp} {d p : Addr} {o : Obj} {kvs : List (Key × V)} {tt : TT} {te : TE} {vs : List Nat} {Qd : Hp → Prop} {L R : List Ck} {I : List (Hp → Prop)}
theorem itd_o {T : Addr → Obj → List (Key × V) → It} {P : It → Hp → Prop} (h : Own H L I) (e : Pull L (.pt d (.frz o (.dK kvs))) R) (q : P (T d o kvs) H) : ItD H d T P := ⟨o, kvs, h.get e, q⟩
end
def ddN (ns : List Int) : Nat := (PyProof.Rows.firstMet (fun i => ns.getD i 0) ns.length).length
structure LenSet (K : PySem.W.Frag) (H : Hp) (a : Addr) (k : Nat → Prop) : Prop where
  ex : ∃ ns : List Int, SqL K H a (ns.map V.int) ∧ ns.length ≤ 4000 ∧ k (ddN ns)
theorem lenset_o {K : PySem.W.Frag} {H : Hp} {L R : List Ck} {I : List (Hp → Prop)} {a : Addr} {ns : List Int} {k : Nat → Prop} (h : Own H L I) (e : Pull L (.pt a (.lst (ns.map V.int))) R) (l : ns.length ≤ 4000) (q : k (ddN ns)) : LenSet K H a k := ⟨ns, SqL.of (h.get e), l, q⟩
theorem lend_o {H : Hp} {L R : List Ck} {I : List (Hp → Prop)} {a : Addr} {kvs : List (Key × V)} {k : Nat → Prop} (h : Own H L I) (e : Pull L (.pt a (.dK kvs)) R) (q : k kvs.length) : LenD H a k := ⟨kvs, h.get e, q⟩
theorem repl_o {H : Hp} {L R : List Ck} {I : List (Hp → Prop)} {a : Addr} {xs : List V} {n : Int} {Q : VK} (h : Own H L I) (e : Pull L (.pt a (.lst xs)) R) (b : -(2 ^ 63) ≤ n ∧ n < 2 ^ 63 ∧ xs.length * n.toNat ≤ sizeLine) (q : ∀ p H', Own H' (.pt p (.lst (List.replicate n.toNat xs).flatten) :: L) I → Q (.ref p) H') : RepL H a n Q := ⟨xs, h.get e, b, new_o h q⟩
theorem fldinc_o {K : PySem.W.Frag} {H : Hp} {L R : List Ck} {I : List (Hp → Prop)} {a C dx : Addr} {fs : List (Str × V)} {f : Str} {i c : Int} {k : Hp → Prop} (h : Own H L I) (e : Pull L (.pt a (.ins C dx fs)) R) (hc : Cls K C) (n : NoAttr K C f) (l : fs.lookup f = some (.int i)) (s : fs.length < 1000) (m : doneF fs = false)
    (q : ∀ H', Own H' (.pt a (.ins C dx (putF f (.int (i + c)) fs)) :: R) I → k H') : FldInc K H a f c k := ⟨C, dx, fs, i, h.get e, hc, n, l, s, q _ (h.put e m)⟩
structure DPop (H : Hp) (a : Addr) (y : V) (Q : VK) : Prop where
  ex : ∃ kvs key v, H a = some (.dK kvs) ∧ y = kV key ∧ valV kvs key = some v ∧ Q v (upd H a (.dK (dropK kvs key)))
structure IsDk (H : Hp) (a : Addr) (k : Prop) : Prop where
  ex : (∃ kvs : List (Key × V), H a = some (.dK kvs)) ∧ k
theorem dpop_i {H : Hp} {L R : List Ck} {I : List (Hp → Prop)} {a : Addr} {kvs : List (Key × V)} {i : Int} {v : V} {Q : VK} (h : Own H L I) (e : Pull L (.pt a (.dK kvs)) R) (l : valV kvs (.inl i) = some v) (q : ∀ H', Own H' (.pt a (.dK (dropK kvs (.inl i))) :: R) I → Q v H') : DPop H a (.int i) Q := ⟨kvs, .inl i, v, h.get e, rfl, l, q _ (h.put e rfl)⟩
theorem isdk_o {H : Hp} {L R : List Ck} {I : List (Hp → Prop)} {a : Addr} {kvs : List (Key × V)} {k : Prop} (h : Own H L I) (e : Pull L (.pt a (.dK kvs)) R) (q : k) : IsDk H a k := ⟨⟨kvs, h.get e⟩, q⟩
structure RemI (H : Hp) (a : Addr) (k : Int) (Q : VK) : Prop where
  ex : ∃ ns : List Int, H a = some (.lst (ns.map V.int)) ∧ k ∈ ns ∧ Q .non (upd H a (.lst ((ns.erase k).map V.int)))
structure CntI (K : PySem.W.Frag) (H : Hp) (a : Addr) (k : Int) (Q : Nat → Prop) : Prop where
  ex : ∃ ns : List Int, SqL K H a (ns.map V.int) ∧ Q (ns.count k)
theorem remi_o {H : Hp} {L R : List Ck} {I : List (Hp → Prop)} {a : Addr} {ns : List Int} {k : Int} {Q : VK} (h : Own H L I) (e : Pull L (.pt a (.lst (ns.map V.int))) R) (m : k ∈ ns) (q : ∀ H', Own H' (.pt a (.lst ((ns.erase k).map V.int)) :: R) I → Q .non H') : RemI H a k Q := ⟨ns, h.get e, m, q _ (h.put e rfl)⟩
theorem cnti_o {K : PySem.W.Frag} {H : Hp} {L R : List Ck} {I : List (Hp → Prop)} {a : Addr} {ns : List Int} {k : Int} {Q : Nat → Prop} (h : Own H L I) (e : Pull L (.pt a (.lst (ns.map V.int))) R) (q : Q (ns.count k)) : CntI K H a k Q := ⟨ns, SqL.of (h.get e), q⟩
end OW
set_option Elab.async false
set_option linter.all false
set_option maxRecDepth 100000
set_option maxHeartbeats 2000000
namespace OW
open PySem PySem.Spec PyProof.Rows L2 RZ SkE CL
/-- the numbers of a rule -/
structure Ru where
  se : Int
  la : Int
  be : Int
  gr : Int
  lt : Int
abbrev Ru.l (r : Ru) : List Int := [r.se, r.la, r.be, r.gr, r.lt]
/-- how things stand: the moment; who uses which seat since which answer; what is kept; who is cut off -/
structure Hs where
  mo : Int
  us : List (Int × Int × Int)
  kp : List (Option (Int × Int))
  ct : List Int
def usesB (s : Hs) (u : Int) : Bool := (s.us.lookup u).isSome
def cutB (s : Hs) (u : Int) : Bool := decide (u ∈ s.ct)
def speakB (s : Hs) (u : Int) : Bool := usesB s u && !cutB s u
def putU (us : List (Int × Int × Int)) (u : Int) (v : Int × Int) : List (Int × Int × Int) := if (us.lookup u).isSome then us.map (fun p => if p.1 = u then (p.1, v) else p) else us ++ [(u, v)]
def delU (us : List (Int × Int × Int)) (u : Int) : List (Int × Int × Int) := us.filter fun p => decide (p.1 ≠ u)
def ansH (s : Hs) (u : Int) (i : Nat) : Hs := { s with us := putU s.us u (i, s.mo), kp := s.kp.set i (some (u, s.mo)) }
def outK (la mo : Int) : Option (Int × Int) → Bool
  | none => false
  | some p => decide (mo - p.2 = la)
def takenK (s : Hs) (la mo : Int) : Option (Int × Int) → Bool
  | none => false
  | some p => decide (mo - p.2 = la) && speakB s p.1
inductive Wd
  | borrow | word | back | crash | stop | cut | join
  deriving DecidableEq
def Wd.s : Wd → Str
  | .borrow => "borrow"
  | .word => "word"
  | .back => "back"
  | .crash => "crash"
  | .stop => "stop"
  | .cut => "cut"
  | .join => "join"
inductive Ev
  | pass
  | on (w : Wd) (u : Int)
def Ev.d : Ev → PyData
  | .pass => .tuple [.str "pass"]
  | .on w u => .tuple [.str w.s, .int u]
/-- whether a deed of a user is possible -/
def canU (r : Ru) (s : Hs) : Wd → Int → Bool
  | .borrow, u => !usesB s u && !cutB s u
  | .word, u => speakB s u
  | .back, u => speakB s u
  | .crash, u => usesB s u
  | .stop, u => match s.us.lookup u with
    | none => false
    | some p => decide (r.gr ≤ s.mo - p.2)
  | .cut, u => !cutB s u
  | .join, u => cutB s u
def passOk (r : Ru) (s : Hs) (p : Int × Int × Int) : Bool := !decide (r.gr + r.lt ≤ s.mo - p.2.2) && !(decide (r.be + r.lt ≤ s.mo - p.2.2) && !cutB s p.1)
def canH (r : Ru) (s : Hs) : Ev → Bool
  | .pass => s.us.all (passOk r s)
  | .on w u => canU r s w u
def leaveH (s : Hs) (u : Int) : Hs := { s with us := delU s.us u }
def passK (la mo : Int) (h : Option (Int × Int)) : Option (Int × Int) := if outK la mo h then none else h
def doPass (r : Ru) (s : Hs) : Hs × List Str :=
  ({ s with mo := s.mo + 1, kp := s.kp.map (passK r.la (s.mo + 1)) }, if s.kp.any (takenK s r.la (s.mo + 1)) then ["taken"] else [])
/-- a dict of users -/
inductive UsR (l : List (Addr × HO)) : List (Key × V) → List (Int × Int × Int) → Prop
  | nil : UsR l [] []
  | cons {u i t : Int} {a : Addr} {kvs : List (Key × V)} {us : List (Int × Int × Int)} (m : (a, HO.tup [.int i, .int t]) ∈ l) (g : UsR l kvs us) : UsR l ((.inl u, .ref a) :: kvs) ((u, i, t) :: us)
section
variable {l l' : List (Addr × HO)} {kvs : List (Key × V)} {us : List (Int × Int × Int)}
theorem UsR.len (h : UsR l kvs us) : kvs.length = us.length := by
  induction h with
  | nil => rfl
  | cons m g ih => rw [List.length_cons, List.length_cons, ih]
theorem lookup_pos {u v : Int} {x : Int × Int} (e : v = u) : List.lookup u ((v, x) :: us) = some x := by subst e; exact List.lookup_cons_self
theorem lookup_neg {u v : Int} {x : Int × Int} (e : v ≠ u) : List.lookup u ((v, x) :: us) = List.lookup u us := by
  rw [List.lookup_cons, beq_false_of_ne (Ne.symm e)]
theorem UsR.noneU {u : Int} (h : UsR l kvs us) (e : us.lookup u = none) : valV kvs (.inl u) = none := by
  induction h with
  | nil => rfl
  | @cons v i t a kvs us m g ih =>
    by_cases z : v = u
    · rw [lookup_pos z] at e; cases e
    · rw [lookup_neg z] at e
      rw [valV_neg (p := ((Sum.inl v : Key), V.ref a)) (fun q => z (Sum.inl.inj q))]
      exact ih e
theorem UsR.someU {u : Int} {x : Int × Int} (h : UsR l kvs us) (e : us.lookup u = some x) : ∃ a, valV kvs (.inl u) = some (.ref a) ∧ (a, HO.tup [.int x.1, .int x.2]) ∈ l := by
  induction h with
  | nil => cases e
  | @cons v i t a kvs us m g ih =>
    by_cases z : v = u
    · rw [lookup_pos z] at e
      cases e
      exact ⟨a, valV_pos (p := ((Sum.inl v : Key), V.ref a)) (congrArg Sum.inl z), m⟩
    · rw [lookup_neg z] at e
      obtain ⟨b, h1, h2⟩ := ih e
      exact ⟨b, by rw [valV_neg (p := ((Sum.inl v : Key), V.ref a)) (fun q => z (Sum.inl.inj q))]; exact h1, h2⟩
theorem UsR.isSomeU {u : Int} (h : UsR l kvs us) : (valV kvs (.inl u)).isSome = (us.lookup u).isSome := by
  cases e : us.lookup u with
  | none => rw [h.noneU e]; rfl
  | some x => obtain ⟨a, h1, _⟩ := h.someU e; rw [h1]; rfl
theorem UsR.snoc {u i t : Int} {a : Addr} (m : (a, HO.tup [.int i, .int t]) ∈ l) (h : UsR l kvs us) : UsR l (kvs ++ [(.inl u, .ref a)]) (us ++ [(u, i, t)]) := by
  induction h with
  | nil => exact .cons m .nil
  | cons m2 g ih => exact .cons m2 ih
theorem UsR.mapU {u i t : Int} {a : Addr} (m : (a, HO.tup [.int i, .int t]) ∈ l) (h : UsR l kvs us) : UsR l (kvs.map fun kv => if kv.1 = .inl u then (kv.1, .ref a) else kv) (us.map fun p => if p.1 = u then (p.1, i, t) else p) := by
  induction h with
  | nil => exact .nil
  | @cons v j w b kvs us m2 g ih =>
    rw [List.map_cons, List.map_cons]
    by_cases z : v = u
    · rw [if_pos (congrArg Sum.inl z), if_pos z]
      exact .cons m ih
    · rw [if_neg fun q => z (Sum.inl.inj q), if_neg z]
      exact .cons m2 ih
theorem UsR.put {u i t : Int} {a : Addr} (m : (a, HO.tup [.int i, .int t]) ∈ l) (h : UsR l kvs us) : UsR l (putK kvs (.inl u) (.ref a)) (putU us u (i, t)) := by
  unfold putK putU
  rw [valV_any, h.isSomeU]
  by_cases e : (us.lookup u).isSome = true
  · rw [if_pos e, if_pos e]
    have := h.mapU (u := u) m
    refine cast ?_ this
    congr 1
  · rw [if_neg e, if_neg e]
    exact h.snoc m
theorem UsR.drop {u : Int} (h : UsR l kvs us) : UsR l (dropK kvs (.inl u)) (delU us u) := by
  unfold dropK delU
  induction h with
  | nil => exact .nil
  | @cons v j w b kvs us m2 g ih =>
    by_cases z : v = u
    · rw [List.filter_cons_of_neg (by simp [z]), List.filter_cons_of_neg (by simp [z])]
      exact ih
    · rw [List.filter_cons_of_pos (by simp [z]), List.filter_cons_of_pos (by simp [z])]
      exact .cons m2 ih
theorem UsR.at {i : Nat} {k : Key} {v : V} (h : UsR l kvs us) (e : kvs[i]? = some (k, v)) : ∃ u j t a, k = .inl u ∧ v = .ref a ∧ us[i]? = some (u, j, t) ∧ (a, HO.tup [.int j, .int t]) ∈ l := by
  induction h generalizing i with
  | nil => cases e
  | @cons u j t a kvs us m g ih =>
    cases i with
    | zero => cases e; exact ⟨u, j, t, a, rfl, rfl, rfl, m⟩
    | succ i => exact ih e
end
/-- each user once -/
def NdU (us : List (Int × Int × Int)) : Prop := (us.map (·.1)).Nodup
theorem lookup_none {us : List (Int × Int × Int)} {u : Int} (e : us.lookup u = none) : u ∉ us.map (·.1) := by
  induction us with
  | nil => exact List.not_mem_nil
  | cons p us ih =>
    by_cases z : p.1 = u
    · rw [show p = (p.1, p.2) from rfl, lookup_pos z] at e
      cases e
    · rw [show p = (p.1, p.2) from rfl, lookup_neg z] at e
      intro m
      rcases List.mem_cons.mp m with q | q
      · exact z q.symm
      · exact ih e q
theorem NdU.put {us : List (Int × Int × Int)} (u : Int) (v : Int × Int) (h : NdU us) : NdU (putU us u v) := by
  unfold putU
  by_cases e : (us.lookup u).isSome = true
  · rw [if_pos e]
    unfold NdU
    rw [List.map_map]
    have : (Prod.fst ∘ fun p : Int × Int × Int => if p.1 = u then (p.1, v) else p) = Prod.fst := by
      funext p
      show (if p.1 = u then (p.1, v) else p).1 = p.1
      split <;> rfl
    rw [this]
    exact h
  · rw [if_neg e]
    have e : us.lookup u = none := by
      cases q : us.lookup u with
      | none => rfl
      | some x => rw [q] at e; exact absurd rfl e
    unfold NdU
    rw [List.map_append]
    refine List.nodup_append.mpr ⟨h, by simp, fun a ha b hb => ?_⟩
    have hb : b = u := by simpa using hb
    rintro rfl
    exact lookup_none e (hb ▸ ha)
theorem NdU.nil : NdU [] := List.nodup_nil
/-- what is kept for a seat -/
inductive KpV (l : List (Addr × HO)) : V → Option (Int × Int) → Prop
  | non : KpV l .non none
  | tup {a : Addr} {u t : Int} (m : (a, HO.tup [.int u, .int t]) ∈ l) : KpV l (.ref a) (some (u, t))
inductive KpR (l : List (Addr × HO)) : List V → List (Option (Int × Int)) → Prop
  | nil : KpR l [] []
  | cons {v : V} {h : Option (Int × Int)} {vs : List V} {hs : List (Option (Int × Int))} (a : KpV l v h) (g : KpR l vs hs) : KpR l (v :: vs) (h :: hs)
/-- what was met -/
inductive MtR (l : List (Addr × HO)) : List V → List (Int × Str) → Prop
  | nil : MtR l [] []
  | cons {a : Addr} {i : Int} {z : Str} {vs : List V} {ms : List (Int × Str)} (m : (a, HO.tup [.int i, .str z]) ∈ l) (g : MtR l vs ms) : MtR l (.ref a :: vs) ((i, z) :: ms)
section
variable {l l' : List (Addr × HO)} {vs ws : List V} {hs : List (Option (Int × Int))} {ms ns : List (Int × Str)}
theorem KpR.len (h : KpR l vs hs) : vs.length = hs.length := by
  induction h with
  | nil => rfl
  | cons a g ih => rw [List.length_cons, List.length_cons, ih]
theorem KpR.at {i : Nat} {v : V} (h : KpR l vs hs) (e : vs[i]? = some v) : ∃ x, hs[i]? = some x ∧ KpV l v x := by
  induction h generalizing i with
  | nil => cases e
  | cons a g ih =>
    cases i with
    | zero => cases e; exact ⟨_, rfl, a⟩
    | succ i => exact ih e
theorem KpR.set {i : Nat} {v : V} {x : Option (Int × Int)} (a : KpV l v x) (h : KpR l vs hs) : KpR l (vs.set i v) (hs.set i x) := by
  induction h generalizing i with
  | nil => exact .nil
  | cons b g ih =>
    cases i with
    | zero => exact .cons a g
    | succ i => exact .cons b ih
theorem MtR.len (h : MtR l vs ms) : vs.length = ms.length := by
  induction h with
  | nil => rfl
  | cons a g ih => rw [List.length_cons, List.length_cons, ih]
theorem MtR.app (h : MtR l vs ms) (g : MtR l ws ns) : MtR l (vs ++ ws) (ms ++ ns) := by
  induction h with
  | nil => exact g
  | cons m _ ih => exact .cons m ih
end
/-- the fields of a house -/
def hf (rr pu pk pc pm : Addr) (mo pe ev : Int) : List (Str × V) := [("rule", .ref rr), ("moment", .int mo), ("using", .ref pu), ("kept", .ref pk), ("cut", .ref pc), ("met", .ref pm), ("peak", .int pe), ("many_events", .int ev)]
abbrev stayI (K : PySem.W.Frag) (t : Addr) (xs : List V) : Hp → Prop := fun H => H t = some (.tup xs) ∨ ∀ H', SqT K H' t xs
theorem stable_stay {K : PySem.W.Frag} {t : Addr} {xs : List V} : Stable (stayI K t xs) := fun H H' k h => h.elim (fun e => .inl (k _ _ e rfl)) .inr
theorem stay_sq {K : PySem.W.Frag} {t : Addr} {xs : List V} {H : Hp} {L : List Ck} {I : List (Hp → Prop)} (w : Own H L I) (m : stayI K t xs ∈ I) : SqT K H t xs := (w.imp m).elim (fun e => SqT.of e) fun e => e H
abbrev insI (r : Addr) (C dx : Addr) (fs : List (Str × V)) : Hp → Prop := fun H => H r = some (.ins C dx fs)
theorem fld_ins {K : PySem.W.Frag} {H : Hp} {L : List Ck} {I : List (Hp → Prop)} {r C dx : Addr} {fs : List (Str × V)} {f : Str} {v : V} {k : V → Prop} (h : Own H L I) (e : insI r C dx fs ∈ I) (c : Cls K C) (n : NoAttr K C f) (l : fs.lookup f = some v) (q : k v) : Fld K H r f k := ⟨C, dx, fs, v, h.imp e, c, n, l, q⟩
theorem strOk_wd (w : Wd) : PyData.strOk w.s = true := by cases w <;> decide +kernel
theorem ev_lay (e : Ev) : e.d.canLay0 = true ∧ e.d.depth ≤ 60 := by
  cases e with
  | pass => exact ⟨by decide +kernel, by decide +kernel⟩
  | on w u =>
    refine ⟨?_, ?_⟩
    · simp [Ev.d, PyData.canLay0, PyData.canLayAll0, strOk_wd]
    · simp [Ev.d, PyData.depth, PyData.depthAll]
/-- users that events speak of -/
def evU : Ev → Prop
  | .pass => True
  | .on _ u => 0 ≤ u ∧ u < 1000
structure KeysL (H : Hp) (d : Addr) (Q : VK) : Prop where
  ex : ∃ kvs : List (Key × V), H d = some (.dK kvs) ∧ New H (.lst (kvs.map fun kv => kV kv.1)) fun p H' => Q (.ref p) H'
theorem keysl_o {H : Hp} {L R : List Ck} {I : List (Hp → Prop)} {d : Addr} {kvs : List (Key × V)} {Q : VK} (h : Own H L I) (e : Pull L (.pt d (.dK kvs)) R) (q : ∀ p H', Own H' (.pt p (.lst (kvs.map fun kv => kV kv.1)) :: L) I → Q (.ref p) H') : KeysL H d Q := ⟨kvs, h.get e, new_o h q⟩
end OW
set_option Elab.async false
set_option linter.all false
set_option maxRecDepth 100000
set_option maxHeartbeats 2000000
namespace OW
open PySem PySem.Spec PyProof.Rows L2 RZ SkE CL
end OW
set_option Elab.async false
set_option linter.all false
set_option maxRecDepth 100000
set_option maxHeartbeats 2000000
namespace OW
open PySem PySem.Spec PyProof.Rows L2 RZ SkE CL
theorem wipe_cons (σ : L2.St) (i : Nat) (vs : List Nat) : L2.wipe σ (i :: vs) = (L2.wipe σ vs).set i none := rfl
theorem wipe_out {σ : L2.St} {v : Option V} {i : Nat} : ∀ {vs : List Nat}, i ∉ vs → L2.wipe (σ.set i v) vs = (L2.wipe σ vs).set i v
  | [], _ => rfl
  | j :: vs, h => by
    have ne : i ≠ j := fun e => h (by rw [e]; exact List.mem_cons_self)
    rw [wipe_cons, wipe_cons, wipe_out (fun m => h (List.mem_cons_of_mem _ m))]
    exact List.set_comm _ _ ne
theorem wipe_setN {σ : L2.St} {v : Option V} {i : Nat} : ∀ {vs : List Nat}, i ∈ vs → L2.wipe (σ.set i v) vs = L2.wipe σ vs
  | [], h => (List.not_mem_nil h).elim
  | j :: vs, h => by
    rw [wipe_cons, wipe_cons]
    by_cases e : i ∈ vs
    · rw [wipe_setN e]
    · have : i = j := (List.mem_cons.mp h).resolve_right e
      subst this
      rw [wipe_out e, List.set_set]
theorem wipe_twice {σ : L2.St} : ∀ {vs : List Nat}, L2.wipe (L2.wipe σ vs) vs = L2.wipe σ vs
  | [] => rfl
  | j :: vs => by
    rw [wipe_cons, wipe_cons]
    by_cases e : j ∈ vs
    · rw [wipe_setN e, wipe_twice]
    · rw [wipe_out e, wipe_twice, List.set_set]
end OW
set_option Elab.async false
set_option linter.all false
set_option maxRecDepth 100000
set_option maxHeartbeats 2000000
namespace OW
open PySem PySem.Spec PyProof.Rows L2 RZ SkE CL
def BackR (Q : VK) : VK := fun v H => match v with
  | .ref r => Q (.ref r) H
  | _ => False
structure OwnA (C : Addr) (sp : Sp) (E : XK) (a b : Addr) (H : Hp) (Q : VK) : Prop where
  ex : ∃ dx fs dx2 fs2, H a = some (.ins C dx fs) ∧ H b = some (.ins C dx2 fs2) ∧ sp [.ref a, .ref b] H (BackR Q) E
def rAddO (C : Addr) (sp : Sp) (E : XK) : R2 := fun x y H Q => match x, y with
  | .ref a, .ref b => OwnA C sp E a b H Q
  | _, _ => False
section
variable {X : Cx} {CX : CXT} {n : Nat} {f C : Addr} {fd : FuncData} {ps : List Str} {sp : Sp} {E : XK} {name : Str}
theorem c_addO (t : ClsT X.K X.mg C name) (F : FnOk X.prog X.w X.K X.mg X.base CX n f fd ps sp) (hb : Binds X.K fd ps []) (hx : Passes CX X E) (room : Room n X.A) (hc : PySem.W.selfFirst X.K C = true)
    (hs : PySem.W.findIn X.K (.ref C) "__add__" = some (some (.ref f))) (hf : PySem.W.isFn X.K (.ref f) = true) : OpR X (binaryOp .Add) (rAddO C sp E) := by
  intro pins s σ H x y v u Q I rx ry h
  unfold rAddO at h
  split at h
  · rename_i a b
    obtain ⟨⟨dx, fs, dx2, fs2, h1, h2, h4⟩⟩ := h
    cases rx
    have ry2 := ry
    cases ry
    obtain ⟨od, J⟩ := inst_at I h1
    obtain ⟨od2, J2⟩ := inst_at I h2
    obtain ⟨m, hF⟩ := I.fr
    have hs2 : PySem.W.findIn X.K (.ref C) (PySem.dunder (Operator.info .Add).2) = some (some (.ref f)) := hs
    refine PySem.W.binop_K (op := .Add) hF I.ok.mod.kin J J2.type hc hs2 hf ?_
    refine wpAny_mono (run_at F hb hx room rfl I (vs := [.ref a, .ref b]) (.cons rfl (.cons ry2 .nil)) h4) (fun r s' q => ?_) fun _ _ z => z
    obtain ⟨w, H', I', rw', q'⟩ := q
    unfold BackR at q'
    split at q'
    · rename_i k0
      cases rw'
      exact ⟨.ref k0, H', I', rfl, q'⟩
    · exact q'.elim
  · exact h.elim
structure OwnLn (C : Addr) (sp : Sp) (E : XK) (a : Addr) (H : Hp) (Q : VK) : Prop where
  ex : ∃ dx fs, H a = some (.ins C dx fs) ∧ sp [.ref a] H (fun v H' => ∃ i : Int, v = .int i ∧ (0 ≤ i ∧ i < 2 ^ 63) ∧ Q (.int i) H') E
def rLenO (C : Addr) (sp : Sp) (E : XK) : List V → Hp → VK → Prop := fun xs H Q => match xs with
  | [.ref a] => OwnLn C sp E a H Q
  | _ => False
theorem k_lenO (F : FnOk X.prog X.w X.K X.mg X.base CX n f fd ps sp) (hb : Binds X.K fd ps []) (hx : Passes CX X E) (room : Room (n + 1) X.A)
    (hs : PySem.W.findIn X.K (.ref C) "__len__" = some (some (.ref f))) (hf : PySem.W.isFn X.K (.ref f) = true) : CallR X (.builtin "len") (rLenO C sp E) := by
  intro pins s σ H xs us Q I r h
  unfold rLenO at h
  split at h
  · rename_i a
    obtain ⟨⟨dx, fs, h1, h2⟩⟩ := h
    obtain ⟨u, rfl, ru⟩ := vals1 r
    cases ru
    obtain ⟨od, J⟩ := inst_at I h1
    obtain ⟨m, hF⟩ := I.fr
    have r2 : Room n X.A.in1 := room.in1
    refine PySem.W.len_K hF I.ok.mod.kin J hs hf ?_
    refine wpAny_mono (run_at F hb hx r2 rfl I (vs := [.ref a]) (.cons rfl .nil) h2) (fun v s' q => ?_) fun _ _ z => z
    obtain ⟨w, H', I', rw', i, rfl, hi, q'⟩ := q
    obtain ⟨t, rfl⟩ := rw'
    exact ⟨hi, ⟨.int i, H', I'.tok _, ⟨_, rfl⟩, q'⟩⟩
  · exact h.elim
end
structure CatE (K : PySem.W.Frag) (H : Hp) (a b : Addr) (Q : VK) : Prop where
  ex : ∃ xs ys, SqT K H a xs ∧ SqT K H b ys ∧ xs.length + ys.length ≤ sizeLine ∧ (xs = [] → Q (.ref b) H) ∧ (xs ≠ [] → ys = [] → Q (.ref a) H) ∧ (xs ≠ [] → ys ≠ [] → New H (.tup (xs ++ ys)) fun p H' => Q (.ref p) H')
def rCatE (K : PySem.W.Frag) : R2 := fun x y H Q => match x, y with
  | .ref a, .ref b => CatE K H a b Q
  | _, _ => False
theorem c_catE {X : Cx} : OpR X (binaryOp .Add) (rCatE X.K) := by
  intro pins s σ H x y v u Q I rx ry h
  unfold rCatE at h
  split at h
  · obtain ⟨⟨xs, ys, h1, h2, h3, q0, q1, q2⟩⟩ := h
    exact op_catA pins s σ H _ _ v u Q I rx ry ⟨_, _, xs, ys, rfl, rfl, h1, h2, h3, q0, q1, fun a b => (q2 a b).k⟩
  · exact h.elim
end OW
set_option Elab.async false
set_option linter.all false
set_option maxRecDepth 100000
set_option maxHeartbeats 2000000
namespace OW
open PySem PySem.Spec PyProof.Rows L2 RZ SkE CL
structure DictCp (H : Hp) (a : Addr) (Q : VK) : Prop where
  ex : ∃ kvs, H a = some (.dK kvs) ∧ New H (.dK kvs) fun p => Q (.ref p)
theorem dictcp_o {H : Hp} {L R : List Ck} {I : List (Hp → Prop)} {a : Addr} {kvs : List (Key × V)} {Q : VK} (h : Own H L I) (e : Pull L (.pt a (.dK kvs)) R) (q : ∀ p H', Own H' (.pt p (.dK kvs) :: L) I → Q (.ref p) H') : DictCp H a Q := ⟨⟨kvs, h.get e, new_o h q⟩⟩
end OW
set_option Elab.async false
set_option linter.all false
set_option maxRecDepth 100000
set_option maxHeartbeats 2000000
namespace OW
open PySem PySem.Spec PyProof.Rows L2 RZ SkE CL
/-- a dict of users -/
inductive StR (l : Addr → Int → Int → Prop) : List (Key × V) → List (Int × Int × Int) → Prop
  | nil : StR l [] []
  | cons {u i t : Int} {a : Addr} {kvs : List (Key × V)} {us : List (Int × Int × Int)} (m : l a i t) (g : StR l kvs us) : StR l ((.inl u, .ref a) :: kvs) ((u, i, t) :: us)
section
variable {l l' : Addr → Int → Int → Prop} {kvs : List (Key × V)} {us : List (Int × Int × Int)}
theorem StR.len (h : StR l kvs us) : kvs.length = us.length := by
  induction h with
  | nil => rfl
  | cons m g ih => rw [List.length_cons, List.length_cons, ih]
theorem StR.noneU {u : Int} (h : StR l kvs us) (e : us.lookup u = none) : valV kvs (.inl u) = none := by
  induction h with
  | nil => rfl
  | @cons v i t a kvs us m g ih =>
    by_cases z : v = u
    · rw [lookup_pos z] at e; cases e
    · rw [lookup_neg z] at e
      rw [valV_neg (p := ((Sum.inl v : Key), V.ref a)) (fun q => z (Sum.inl.inj q))]
      exact ih e
theorem StR.someU {u : Int} {x : Int × Int} (h : StR l kvs us) (e : us.lookup u = some x) : ∃ a, valV kvs (.inl u) = some (.ref a) ∧ l a x.1 x.2 := by
  induction h with
  | nil => cases e
  | @cons v i t a kvs us m g ih =>
    by_cases z : v = u
    · rw [lookup_pos z] at e
      cases e
      exact ⟨a, valV_pos (p := ((Sum.inl v : Key), V.ref a)) (congrArg Sum.inl z), m⟩
    · rw [lookup_neg z] at e
      obtain ⟨b, h1, h2⟩ := ih e
      exact ⟨b, by rw [valV_neg (p := ((Sum.inl v : Key), V.ref a)) (fun q => z (Sum.inl.inj q))]; exact h1, h2⟩
theorem StR.isSomeU {u : Int} (h : StR l kvs us) : (valV kvs (.inl u)).isSome = (us.lookup u).isSome := by
  cases e : us.lookup u with
  | none => rw [h.noneU e]; rfl
  | some x => obtain ⟨a, h1, _⟩ := h.someU e; rw [h1]; rfl
theorem StR.snoc {u i t : Int} {a : Addr} (m : l a i t) (h : StR l kvs us) : StR l (kvs ++ [(.inl u, .ref a)]) (us ++ [(u, i, t)]) := by
  induction h with
  | nil => exact .cons m .nil
  | cons m2 g ih => exact .cons m2 ih
theorem StR.mapU {u i t : Int} {a : Addr} (m : l a i t) (h : StR l kvs us) : StR l (kvs.map fun kv => if kv.1 = .inl u then (kv.1, .ref a) else kv) (us.map fun p => if p.1 = u then (p.1, i, t) else p) := by
  induction h with
  | nil => exact .nil
  | @cons v j w b kvs us m2 g ih =>
    rw [List.map_cons, List.map_cons]
    by_cases z : v = u
    · rw [if_pos (congrArg Sum.inl z), if_pos z]
      exact .cons m ih
    · rw [if_neg fun q => z (Sum.inl.inj q), if_neg z]
      exact .cons m2 ih
theorem StR.put {u i t : Int} {a : Addr} (m : l a i t) (h : StR l kvs us) : StR l (putK kvs (.inl u) (.ref a)) (putU us u (i, t)) := by
  unfold putK putU
  rw [valV_any, h.isSomeU]
  by_cases e : (us.lookup u).isSome = true
  · rw [if_pos e, if_pos e]
    have := h.mapU (u := u) m
    refine cast ?_ this
    congr 1
  · rw [if_neg e, if_neg e]
    exact h.snoc m
theorem StR.drop {u : Int} (h : StR l kvs us) : StR l (dropK kvs (.inl u)) (delU us u) := by
  unfold dropK delU
  induction h with
  | nil => exact .nil
  | @cons v j w b kvs us m2 g ih =>
    by_cases z : v = u
    · rw [List.filter_cons_of_neg (by simp [z]), List.filter_cons_of_neg (by simp [z])]
      exact ih
    · rw [List.filter_cons_of_pos (by simp [z]), List.filter_cons_of_pos (by simp [z])]
      exact .cons m2 ih
theorem StR.at {i : Nat} {k : Key} {v : V} (h : StR l kvs us) (e : kvs[i]? = some (k, v)) : ∃ u j t a, k = .inl u ∧ v = .ref a ∧ us[i]? = some (u, j, t) ∧ l a j t := by
  induction h generalizing i with
  | nil => cases e
  | @cons u j t a kvs us m g ih =>
    cases i with
    | zero => cases e; exact ⟨u, j, t, a, rfl, rfl, rfl, m⟩
    | succ i => exact ih e
end
theorem take_sn {α : Type} {l : List α} {i : Nat} {x : α} (h : l[i]? = some x) : l.take (i + 1) = l.take i ++ [x] := by rw [List.take_add_one, h]; rfl
end OW
set_option Elab.async false
set_option linter.all false
set_option maxRecDepth 100000
set_option maxHeartbeats 2000000
namespace OW
open PySem PySem.Spec PyProof.Rows L2 RZ SkE CL
def putA {β : Type} (l : List (Int × β)) (u : Int) (b : β) : List (Int × β) := if (l.lookup u).isSome then l.map fun p => if p.1 = u then (p.1, b) else p else l ++ [(u, b)]
def dropA {β : Type} (l : List (Int × β)) (u : Int) : List (Int × β) := l.filter fun p => decide (p.1 ≠ u)
/-- the keys stand once -/
def NdA {β : Type} (l : List (Int × β)) : Prop := (l.map (·.1)).Nodup
theorem lkA_pos {β : Type} {v u : Int} {x : β} {l : List (Int × β)} (z : v = u) : ((v, x) :: l).lookup u = some x := by
  subst z
  rw [List.lookup_cons, show (v == v) = true from beq_self_eq_true v]
theorem lkA_neg {β : Type} {v u : Int} {x : β} {l : List (Int × β)} (z : ¬ v = u) : ((v, x) :: l).lookup u = l.lookup u := by
  rw [List.lookup_cons, show (u == v) = false from beq_false_of_ne (fun e => z e.symm)]
theorem lkA_mem {β : Type} {u : Int} {b : β} : ∀ {l : List (Int × β)}, l.lookup u = some b → (u, b) ∈ l
  | [], h => by cases h
  | (v, x) :: l, h => by
    by_cases z : v = u
    · rw [lkA_pos z] at h
      cases h
      rw [z]
      exact List.mem_cons_self
    · rw [lkA_neg z] at h
      exact List.mem_cons_of_mem _ (lkA_mem h)
theorem lkA_none {β : Type} {u : Int} : ∀ {l : List (Int × β)}, l.lookup u = none → u ∉ l.map (·.1)
  | [], _ => fun m => (List.not_mem_nil m).elim
  | (v, x) :: l, h => by
    by_cases z : v = u
    · rw [lkA_pos z] at h; cases h
    · rw [lkA_neg z] at h
      intro m
      rcases List.mem_cons.mp m with e | m
      · exact z e.symm
      · exact lkA_none h m
theorem lkA_out {β : Type} {u : Int} {l : List (Int × β)} (h : u ∉ l.map (·.1)) : l.lookup u = none := by
  cases e : l.lookup u with
  | none => rfl
  | some b => exact (h (List.mem_map.mpr ⟨_, lkA_mem e, rfl⟩)).elim
theorem lkA_nd {β : Type} {u : Int} {b : β} {l : List (Int × β)} (n : NdA l) (m : (u, b) ∈ l) : l.lookup u = some b := by
  induction l with
  | nil => exact (List.not_mem_nil m).elim
  | cons p l ih =>
    obtain ⟨v, x⟩ := p
    have nd := List.nodup_cons.mp (show (v :: l.map (·.1)).Nodup from n)
    rcases List.mem_cons.mp m with e | m
    · cases e; exact lkA_pos rfl
    · rw [lkA_neg (fun z => nd.1 (List.mem_map.mpr ⟨_, m, z.symm⟩))]
      exact ih nd.2 m
theorem keysA_map {β : Type} (l : List (Int × β)) (u : Int) (b : β) : (l.map fun p => if p.1 = u then (p.1, b) else p).map (·.1) = l.map (·.1) := by
  rw [List.map_map]
  refine List.map_congr_left fun p _ => ?_
  show (if p.1 = u then (p.1, b) else p).1 = p.1
  split <;> rfl
theorem NdA.put {β : Type} {l : List (Int × β)} {u : Int} {b : β} (n : NdA l) : NdA (putA l u b) := by
  unfold putA NdA
  cases e : l.lookup u with
  | some x =>
    rw [show (some x).isSome = true from rfl, if_pos rfl, keysA_map]
    exact n
  | none =>
    rw [show (none : Option β).isSome = false from rfl, if_neg (by decide), List.map_append]
    refine List.nodup_append.mpr ⟨n, List.nodup_cons.mpr ⟨fun m => (List.not_mem_nil m).elim, List.nodup_nil⟩, fun x hx y hy => ?_⟩
    rcases List.mem_cons.mp hy with rfl | hy
    · exact fun z => lkA_none e (z ▸ hx)
    · exact (List.not_mem_nil hy).elim
theorem NdA.filter {β : Type} {l : List (Int × β)} (q : Int × β → Bool) (n : NdA l) : NdA (l.filter q) := List.Pairwise.sublist (List.Sublist.map _ List.filter_sublist) n
theorem NdA.drop {β : Type} {l : List (Int × β)} {u : Int} (n : NdA l) : NdA (dropA l u) := n.filter _
theorem lkA_put {β : Type} (l : List (Int × β)) (u v : Int) (b : β) : (putA l u b).lookup v = if u = v then some b else l.lookup v := by
  have app : ∀ m : List (Int × β), m.lookup u = none → (m ++ [(u, b)]).lookup v = if u = v then some b else m.lookup v := by
    intro m
    induction m with
    | nil =>
      intro _
      by_cases z : u = v
      · rw [if_pos z]; exact lkA_pos z
      · rw [if_neg z]; exact lkA_neg z
    | cons p m ih =>
      obtain ⟨w, x⟩ := p
      intro h
      by_cases z : w = u
      · rw [lkA_pos z] at h; cases h
      · rw [lkA_neg z] at h
        by_cases y : w = v
        · rw [if_neg (fun e => z (y.trans e.symm)), List.cons_append, lkA_pos y, lkA_pos y]
        · rw [List.cons_append, lkA_neg y, lkA_neg y]
          exact ih h
  unfold putA
  cases e : l.lookup u with
  | none =>
    rw [show (none : Option β).isSome = false from rfl, if_neg (by decide)]
    exact app l e
  | some y =>
    rw [show (some y).isSome = true from rfl, if_pos rfl]
    have go : ∀ m : List (Int × β), (m.lookup u).isSome = true → (m.map fun p => if p.1 = u then (p.1, b) else p).lookup v = if u = v then some b else m.lookup v := by
      intro m
      induction m with
      | nil => intro h; cases h
      | cons p m ih =>
        obtain ⟨w, x⟩ := p
        intro h
        rw [List.map_cons]
        by_cases z : w = u
        · rw [show (if (w, x).1 = u then ((w, x).1, b) else (w, x)) = (w, b) from if_pos z]
          by_cases y : w = v
          · rw [lkA_pos y, if_pos (z.symm.trans y)]
          · rw [lkA_neg y, lkA_neg y, if_neg (fun e => y (z.trans e))]
            clear ih h
            induction m with
            | nil => rfl
            | cons q m ih =>
              obtain ⟨w2, x2⟩ := q
              rw [List.map_cons]
              by_cases z2 : w2 = u
              · rw [show (if (w2, x2).1 = u then ((w2, x2).1, b) else (w2, x2)) = (w2, b) from if_pos z2, lkA_neg (fun e => y (z.trans (z2.symm.trans e))), lkA_neg (fun e => y (z.trans (z2.symm.trans e)))]
                exact ih
              · rw [show (if (w2, x2).1 = u then ((w2, x2).1, b) else (w2, x2)) = (w2, x2) from if_neg z2]
                by_cases y2 : w2 = v
                · rw [lkA_pos y2, lkA_pos y2]
                · rw [lkA_neg y2, lkA_neg y2]
                  exact ih
        · rw [show (if (w, x).1 = u then ((w, x).1, b) else (w, x)) = (w, x) from if_neg z]
          rw [lkA_neg z] at h
          by_cases y : w = v
          · rw [lkA_pos y, lkA_pos y, if_neg (fun e => z (y.trans e.symm))]
          · rw [lkA_neg y, lkA_neg y]
            exact ih h
    exact go l (by rw [e]; rfl)
/-- a dict in the heap that holds these -/
inductive KvR {β : Type} (r : V → β → Prop) : List (Key × V) → List (Int × β) → Prop
  | nil : KvR r [] []
  | cons {u : Int} {b : β} {v : V} {kvs : List (Key × V)} {l : List (Int × β)} (m : r v b) (g : KvR r kvs l) : KvR r ((.inl u, v) :: kvs) ((u, b) :: l)
section
variable {β : Type} {r r' : V → β → Prop} {kvs : List (Key × V)} {l : List (Int × β)}
theorem KvR.len (h : KvR r kvs l) : kvs.length = l.length := by
  induction h with
  | nil => rfl
  | cons m g ih => rw [List.length_cons, List.length_cons, ih]
theorem KvR.noneU {u : Int} (h : KvR r kvs l) (e : l.lookup u = none) : valV kvs (.inl u) = none := by
  induction h with
  | nil => rfl
  | @cons v b x kvs l m g ih =>
    by_cases z : v = u
    · rw [lkA_pos z] at e; cases e
    · rw [lkA_neg z] at e
      rw [valV_neg (p := ((Sum.inl v : Key), x)) (fun q => z (Sum.inl.inj q))]
      exact ih e
theorem KvR.someU {u : Int} {b : β} (h : KvR r kvs l) (e : l.lookup u = some b) : ∃ v, valV kvs (.inl u) = some v ∧ r v b := by
  induction h with
  | nil => cases e
  | @cons v b x kvs l m g ih =>
    by_cases z : v = u
    · rw [lkA_pos z] at e
      cases e
      exact ⟨x, valV_pos (p := ((Sum.inl v : Key), x)) (congrArg Sum.inl z), m⟩
    · rw [lkA_neg z] at e
      obtain ⟨b, h1, h2⟩ := ih e
      exact ⟨b, by rw [valV_neg (p := ((Sum.inl v : Key), x)) (fun q => z (Sum.inl.inj q))]; exact h1, h2⟩
theorem KvR.isSomeU {u : Int} (h : KvR r kvs l) : (valV kvs (.inl u)).isSome = (l.lookup u).isSome := by
  cases e : l.lookup u with
  | none => rw [h.noneU e]; rfl
  | some x => obtain ⟨a, h1, _⟩ := h.someU e; rw [h1]; rfl
theorem KvR.snoc {u : Int} {b : β} {v : V} (m : r v b) (h : KvR r kvs l) : KvR r (kvs ++ [(.inl u, v)]) (l ++ [(u, b)]) := by
  induction h with
  | nil => exact .cons m .nil
  | cons m2 g ih => exact .cons m2 ih
theorem KvR.mapU {u : Int} {b : β} {v : V} (m : r v b) (h : KvR r kvs l) : KvR r (kvs.map fun kv => if kv.1 = .inl u then (kv.1, v) else kv) (l.map fun p => if p.1 = u then (p.1, b) else p) := by
  induction h with
  | nil => exact .nil
  | @cons w c x kvs l m2 g ih =>
    rw [List.map_cons, List.map_cons]
    by_cases z : w = u
    · rw [if_pos (congrArg Sum.inl z), if_pos z]
      exact .cons m ih
    · rw [if_neg fun q => z (Sum.inl.inj q), if_neg z]
      exact .cons m2 ih
theorem KvR.put {u : Int} {b : β} {v : V} (m : r v b) (h : KvR r kvs l) : KvR r (putK kvs (.inl u) v) (putA l u b) := by
  unfold putK putA
  rw [valV_any, h.isSomeU]
  by_cases e : (l.lookup u).isSome = true
  · rw [if_pos e, if_pos e]
    have := h.mapU (u := u) m
    refine cast ?_ this
    congr 1
  · rw [if_neg e, if_neg e]
    exact h.snoc m
theorem KvR.drop {u : Int} (h : KvR r kvs l) : KvR r (dropK kvs (.inl u)) (dropA l u) := by
  unfold dropK dropA
  induction h with
  | nil => exact .nil
  | @cons v b x kvs l m2 g ih =>
    by_cases z : v = u
    · rw [List.filter_cons_of_neg (by simp [z]), List.filter_cons_of_neg (by simp [z])]
      exact ih
    · rw [List.filter_cons_of_pos (by simp [z]), List.filter_cons_of_pos (by simp [z])]
      exact .cons m2 ih
theorem KvR.at {i : Nat} {k : Key} {v : V} (h : KvR r kvs l) (e : kvs[i]? = some (k, v)) : ∃ u b, k = .inl u ∧ l[i]? = some (u, b) ∧ r v b := by
  induction h generalizing i with
  | nil => cases e
  | @cons u b x kvs l m g ih =>
    cases i with
    | zero => cases e; exact ⟨u, b, rfl, rfl, m⟩
    | succ i => exact ih e
end
end OW
set_option Elab.async false
set_option linter.all false
set_option maxRecDepth 100000
set_option maxHeartbeats 2000000
namespace OW
open PySem PySem.Spec PyProof.Rows L2 RZ SkE CL
def SeqA (K : PySem.W.Frag) (k : Bool) (L : List Ck) (I : List (Hp → Prop)) (w : Addr) (xs : List V) : Prop := match k with
  | true => ∃ R, Pull L (.pt w (.lst xs)) R
  | false => stayI K w xs ∈ I
section
variable {K : PySem.W.Frag} {g : TG} {tb : TS} {D : Ends} {σ : L2.St} {H : Hp} {L M R : List Ck} {I J : List (Hp → Prop)} {a b p w : Addr} {xs ys : List V} {tt : TT} {te tk tv : TE} {vs : List Nat} {k : Bool} {c : Ck}
theorem SeqA.tail (h : SeqA K k L I w xs) : SeqA K k (c :: L) I w xs := match k, h with
  | true, ⟨R, h⟩ => ⟨_, .tail h⟩
  | false, h => h
theorem SeqA.sub (h : SeqA K k L I w xs) (s : ∀ S ∈ I, S ∈ J) : SeqA K k L J w xs := match k, h with
  | true, h => h
  | false, h => s _ h
theorem SeqA.l (h : Own H L I) (e : SeqA K true L I w xs) : SqL K H w xs := let ⟨_, e⟩ := e; SqL.of (h.get e)
theorem SeqA.t (h : Own H L I) (e : SeqA K false L I w xs) : SqT K H w xs := stay_sq h e
theorem SeqA.any (h : Own H L I) (e : SeqA K k L I w xs) {P : Prop} (q1 : SqL K H w xs → P) (q2 : SqT K H w xs → P) : P := match k, e with
  | true, e => q1 (SeqA.l h e)
  | false, e => q2 (SeqA.t h e)
theorem seqa_enum (h : Own H L I) (e : SeqA K k L I w xs) (Pv : Nat → L2.St → Hp → Prop) (h0 : Pv 0 σ H) (hk : ∀ i σ H', Pv i σ H' → ∃ M J, Own H' M J ∧ SeqA K k M J w xs)
    (hs : ∀ (i : Nat) (x : V) (T : Addr) (σ : L2.St) (H : Hp), xs[i]? = some x → Pv i σ H → H T = none → g (.ref T) σ (upd H T (.tup [.int (i : Nat), x])) fun σ2 H2 => tb { D with nx := Pv (i + 1), ct := Pv (i + 1), bk := D.nx } σ2 H2) (hd : ∀ σ H', Pv xs.length σ H' → D.nx σ H') : ItEA K H w fun J H1 => ForW J g tb D σ H1 := by
  cases k with
  | true => exact itea_sl (SeqA.l h e) (fw_enum Pv h0 (fun i σ H' _ q => let ⟨M, J, o, z⟩ := hk i σ H' q; SeqA.l o z) hs hd)
  | false => exact itea_t (SeqA.t h e) (fw_enumT Pv h0 (fun i σ H' _ q => let ⟨M, J, o, z⟩ := hk i σ H' q; SeqA.t o z) hs hd)
end
/-- data, as a list or a tuple -/
structure DArg (K : PySem.W.Frag) (L : List Ck) (I : List (Hp → Prop)) (a : Addr) (ds : List PyData) : Prop where
  ex : ∃ k xs, SeqA K k L I a xs ∧ idsI xs ds ∈ I
section
variable {K : PySem.W.Frag} {H : Hp} {L R : List Ck} {I J : List (Hp → Prop)} {a : Addr} {xs : List V} {ds : List PyData} {c : Ck}
theorem DArg.lst (e : Pull L (.pt a (.lst xs)) R) (m : idsI xs ds ∈ I) : DArg K L I a ds := ⟨true, xs, ⟨_, e⟩, m⟩
theorem DArg.tup (e : stayI K a xs ∈ I) (m : idsI xs ds ∈ I) : DArg K L I a ds := ⟨false, xs, e, m⟩
theorem DArg.tail (h : DArg K L I a ds) : DArg K (c :: L) I a ds := let ⟨⟨k, xs, s, m⟩⟩ := h; ⟨k, xs, s.tail, m⟩
theorem DArg.sub (h : DArg K L I a ds) (s : ∀ S ∈ I, S ∈ J) : DArg K L J a ds := let ⟨⟨k, xs, z, m⟩⟩ := h; ⟨k, xs, z.sub s, s _ m⟩
end
end OW
set_option Elab.async false
set_option linter.all false
set_option maxRecDepth 100000
set_option maxHeartbeats 2000000
namespace OW
open PySem PySem.Spec PyProof.Rows L2 RZ SkE CL
structure En where
  t : Int
  w : Str
  u : Int
abbrev En.d (e : En) : PyData := .tuple [.int e.t, .str e.w, .int e.u]
def stillL (la mo : Int) (k : List (Int × Int)) : List (Int × Int) := k.filter fun p => decide (mo - p.2 < la)
def grantL (r : Ru) (k : List (Int × Int)) (e : En) : Bool := if e.w = "borrow" then (k.lookup e.u).isSome || decide ((k.length : Int) < r.se) else match k.lookup e.u with
  | none => false
  | some t => decide (e.t - t ≤ r.gr + r.lt)
def nextL (k : List (Int × Int)) (e : En) : List (Int × Int) := if e.w = "back" then dropA k e.u else putA k e.u e.t
def stepL (r : Ru) (k : List (Int × Int)) (e : En) : List (Int × Int) := nextL (stillL r.la e.t k) e
def misL (r : Ru) : List (Int × Int) → List En → Nat → Option Nat
  | _, [], _ => none
  | k, e :: es, i => if grantL r (stillL r.la e.t k) e then misL r (stepL r k e) es (i + 1) else some i
def logL (r : Ru) (k : List (Int × Int)) (es : List En) : List (Int × Int) := es.foldl (stepL r) k
end OW
set_option Elab.async false
set_option linter.all false
set_option maxRecDepth 100000
set_option maxHeartbeats 2000000
namespace OW
open PySem PySem.Spec PyProof.Rows L2 RZ SkE CL
end OW
set_option Elab.async false
set_option linter.all false
set_option maxRecDepth 100000
set_option maxHeartbeats 2000000
namespace OW
open PySem PySem.Spec PyProof.Rows L2 RZ SkE CL
structure DGet2 (H : Hp) (a : Addr) (y z : V) (Q : VK) : Prop where
  ex : ∃ o, DGet H a y o ∧ Q (o.getD z) H
section
variable {H : Hp} {L R : List Ck} {I : List (Hp → Prop)} {a : Addr} {kvs : List (Key × V)} {i : Int} {z : V} {Q : VK}
theorem dget2_i (h : Own H L I) (e : Pull L (.pt a (.dK kvs)) R) (q : Q ((valV kvs (.inl i)).getD z) H) : DGet2 H a (.int i) z Q := ⟨_, DGet.k (k := .inl i) (h.get e), q⟩
end
theorem lkA_drop {β : Type} (l : List (Int × β)) (u v : Int) : (dropA l u).lookup v = if u = v then none else l.lookup v := by
  unfold dropA
  induction l with
  | nil => split <;> rfl
  | cons p l ih =>
    obtain ⟨w, x⟩ := p
    by_cases z : w = u
    · rw [List.filter_cons_of_neg (by simp [z]), ih]
      by_cases y : u = v
      · rw [if_pos y, if_pos y]
      · rw [if_neg y, if_neg y, lkA_neg (fun e => y (z.symm.trans e))]
    · rw [List.filter_cons_of_pos (by simp [z])]
      by_cases y : w = v
      · rw [lkA_pos y, lkA_pos y, if_neg (fun e => z (y.trans e.symm))]
      · rw [lkA_neg y, lkA_neg y, ih]
theorem lkA_filter {β : Type} {q : Int × β → Bool} {l : List (Int × β)} (n : NdA l) (u : Int) : (l.filter q).lookup u = match l.lookup u with
    | some b => if q (u, b) then some b else none
    | none => none := by
  cases e : l.lookup u with
  | none =>
    refine lkA_out fun m => ?_
    obtain ⟨x, hx, hu⟩ := List.mem_map.mp m
    exact lkA_none e (List.mem_map.mpr ⟨x, (List.mem_filter.mp hx).1, hu⟩)
  | some b =>
    show _ = if q (u, b) then some b else none
    cases hq : q (u, b) with
    | true =>
      rw [if_pos rfl]
      exact lkA_nd (n.filter q) (List.mem_filter.mpr ⟨lkA_mem e, hq⟩)
    | false =>
      rw [if_neg (by decide)]
      refine lkA_out fun m => ?_
      obtain ⟨⟨w, x⟩, hx, hu⟩ := List.mem_map.mp m
      obtain rfl : w = u := hu
      have hx := List.mem_filter.mp hx
      have := lkA_nd n hx.1
      rw [e] at this
      cases this
      rw [hq] at hx
      cases hx.2
end OW
set_option Elab.async false
set_option linter.all false
set_option maxRecDepth 100000
set_option maxHeartbeats 2000000
namespace OW
open PySem PySem.Spec PyProof.Rows L2 RZ SkE CL
section
variable {β : Type} {k l : List (Int × β)} {u : Int} {b : β}
theorem NdA.perm (n : NdA k) (p : l.Perm k) : NdA l := (p.map (fun x : Int × β => x.1)).nodup_iff.mpr n
end
/-- a log that fits, so far -/
def FitsL (r : Ru) (es : List En) : Prop := misL r [] es 0 = none
theorem misL_split {r : Ru} : ∀ (as bs : List En) (k : List (Int × Int)) (j : Nat), misL r k (as ++ bs) j = match misL r k as j with
    | some i => some i
    | none => misL r (logL r k as) bs (j + as.length)
  | [], bs, k, j => rfl
  | a :: as, bs, k, j => by
    rw [List.cons_append, misL, misL]
    cases g : grantL r (stillL r.la a.t k) a with
    | false => rw [if_neg (by decide)]; rfl
    | true =>
      rw [if_pos rfl, if_pos rfl, misL_split as bs _ _, List.length_cons, show j + 1 + as.length = j + (as.length + 1) by omega]
      rfl
theorem FitsL.take {r : Ru} {es : List En} (h : FitsL r es) (i : Nat) : FitsL r (es.take i) := by
  unfold FitsL at h ⊢
  have := misL_split (r := r) (es.take i) (es.drop i) [] 0
  rw [List.take_append_drop, h] at this
  cases e : misL r [] (es.take i) 0 with
  | none => rfl
  | some j => rw [e] at this; cases this
end OW
set_option Elab.async false
set_option linter.all false
set_option maxRecDepth 100000
set_option maxHeartbeats 2000000
namespace OW
open PySem PySem.Spec PyProof.Rows L2 RZ SkE CL
def digS (s : Str) : Bool := decide (0 < s.length) && (TL.tl s).all fun c => decide (48 ≤ c) && decide (c ≤ 57)
def numS (s : Str) (d : Int) : Bool := decide ((s.length : Int) ≤ d) && (digS s && (decide (s = "0") || decide ((TL.tl s).head? ≠ some 48)))
theorem numL_head : ∀ (k n : Nat), n ≤ k → 0 < n → (TL.numL n).head? ≠ some 48
  | 0, n, h, h0 => by omega
  | k + 1, n, h, h0 => by
    by_cases z : n < 10
    · rw [TL.numL_lt z]
      intro e
      have : 48 + n = 48 := Option.some.inj e
      omega
    · rw [TL.numL_step (by omega)]
      have ih := numL_head k (n / 10) (by omega) (by omega)
      have ne := TL.numL_ne (n / 10)
      cases e : TL.numL (n / 10) with
      | nil => exact (ne e).elim
      | cons c l => rw [e] at ih; exact ih
abbrev shN (n : Int) : Str := Str.ofString (toString n)
theorem tl_sh {n : Int} (h : 0 ≤ n) : TL.tl (shN n) = TL.numL n.toNat := by
  obtain ⟨k, rfl⟩ := Int.eq_ofNat_of_zero_le h
  exact TL.tl_num k
theorem sh_len {n : Int} {k : Nat} (h : 0 ≤ n) (hk : 0 < k) (h1 : n < 10 ^ k) : (shN n).length ≤ k := by
  rw [TL.len_tl, tl_sh h]
  refine TL.numL_len hk ?_
  have : ((n.toNat : Nat) : Int) < ((10 ^ k : Nat) : Int) := by
    rw [Int.toNat_of_nonneg h]
    exact Int.lt_of_lt_of_le h1 (by rw [Int.natCast_pow]; exact Int.le_refl _)
  exact Int.ofNat_lt.mp this
theorem sh_dig {n : Int} (h : 0 ≤ n) : digS (shN n) = true := by
  unfold digS
  rw [TL.len_tl, tl_sh h]
  have d := TL.numL_digits n.toNat
  have e := TL.numL_ne n.toNat
  refine Bool.and_eq_true_iff.mpr ⟨decide_eq_true (List.length_pos_iff.mpr e), List.all_eq_true.mpr fun c m => ?_⟩
  have := d c m
  exact Bool.and_eq_true_iff.mpr ⟨decide_eq_true this.1, decide_eq_true this.2⟩
theorem sh_num {n d : Int} {k : Nat} (h : 0 ≤ n) (hk : 0 < k) (h1 : n < 10 ^ k) (hd : d = k) : numS (shN n) d = true := by
  unfold numS
  refine Bool.and_eq_true_iff.mpr ⟨decide_eq_true ?_, Bool.and_eq_true_iff.mpr ⟨sh_dig h, ?_⟩⟩
  · have := sh_len h hk h1
    omega
  · by_cases z : n = 0
    · subst z
      rw [decide_eq_true (show shN 0 = "0" from rfl)]
      rfl
    · rw [tl_sh h, decide_eq_true (numL_head n.toNat n.toNat (Nat.le_refl _) (by omega)), Bool.or_true]
theorem sh_int {n : Int} {k : Nat} (h : 0 ≤ n) (hk : 0 < k) (h1 : n < 10 ^ k) (h2 : k ≤ 600) : intText? (shN n) = some n ∧ (shN n).length ≤ 640 := by
  have l := sh_len h hk h1
  refine ⟨?_, by omega⟩
  obtain ⟨m, rfl⟩ := Int.eq_ofNat_of_zero_le h
  refine TL.int_num ?_
  rw [TL.len_tl, tl_sh h] at l
  exact Nat.le_trans l (by omega)
structure MakeV (C : Addr) (v : Option (Option V)) (k : Prop) : Prop where
  e : v = some (some (.ref C))
  k : k
structure CMethR (C : Addr) (x : V) (k : Prop) : Prop where
  e : x = .ref C
  k : k
end OW
set_option Elab.async false
set_option linter.all false
set_option maxRecDepth 100000
set_option maxHeartbeats 2000000
namespace OW
open PySem PySem.Spec PyProof.Rows L2 RZ SkE CL
mutual
inductive IDk (K : PySem.W.Frag) (H : Hp) : V → PyData → Prop
  | non : IDk K H .non .none
  | bl (b : Bool) : IDk K H (.bl b) (.bool b)
  | int (i : Int) : IDk K H (.int i) (.int i)
  | str (x : Str) : IDk K H (.str x) (.str x)
  | tup {a : Addr} {xs : List V} {ds : List PyData} (h : H a = some (.tup xs) ∨ ∀ H', SqT K H' a xs) (g : IDkAll K H xs ds) : IDk K H (.ref a) (.tuple ds)
inductive IDkAll (K : PySem.W.Frag) (H : Hp) : List V → List PyData → Prop
  | nil : IDkAll K H [] []
  | cons {v : V} {vs : List V} {d : PyData} {ds : List PyData} (h : IDk K H v d) (g : IDkAll K H vs ds) : IDkAll K H (v :: vs) (d :: ds)
end
section
variable {K : PySem.W.Frag} {H H' : Hp}
mutual
theorem IDk.keep (k : Keep H H') : ∀ (d : PyData) (v : V), IDk K H v d → IDk K H' v d
  | .none, _, h => by cases h; exact .non
  | .bool b, _, h => by cases h; exact .bl b
  | .int i, _, h => by cases h; exact .int i
  | .str z, _, h => by cases h; exact .str z
  | .list ds, _, h => by cases h
  | .tuple ds, _, h => by cases h with | tup m g => exact .tup (m.elim (fun e => .inl (k _ _ e rfl)) .inr) (IDkAll.keep k ds _ g)
  | .dict es, _, h => by cases h
theorem IDkAll.keep (k : Keep H H') : ∀ (ds : List PyData) (vs : List V), IDkAll K H vs ds → IDkAll K H' vs ds
  | [], _, h => by cases h; exact .nil
  | d :: ds, _, h => by cases h with | cons h g => exact .cons (IDk.keep k d _ h) (IDkAll.keep k ds _ g)
end
mutual
theorem IDk.dp : ∀ (d : PyData) (v : V), IDk K H v d → Dp K H v d
  | .none, _, h => by cases h; exact .non
  | .bool b, _, h => by cases h; exact .bl b
  | .int i, _, h => by cases h; exact .int i
  | .str z, _, h => by cases h; exact .str z
  | .list ds, _, h => by cases h
  | .tuple ds, _, h => by cases h with | tup m g => exact .tup (m.elim (fun e => SqT.of e) (fun e => e H)) (IDkAll.dp ds _ g)
  | .dict es, _, h => by cases h
theorem IDkAll.dp : ∀ (ds : List PyData) (vs : List V), IDkAll K H vs ds → DpAll K H vs ds
  | [], _, h => by cases h; exact .nil
  | d :: ds, _, h => by cases h with | cons h g => exact .cons (IDk.dp d _ h) (IDkAll.dp ds _ g)
end
mutual
theorem IDp.idk : ∀ (d : PyData) (v : V), IDp H v d → IDk K H v d
  | .none, _, h => by cases h; exact .non
  | .bool b, _, h => by cases h; exact .bl b
  | .int i, _, h => by cases h; exact .int i
  | .str z, _, h => by cases h; exact .str z
  | .list ds, _, h => by cases h
  | .tuple ds, _, h => by cases h with | tup m g => exact .tup (.inl m) (IDpAll.idk ds _ g)
  | .dict es, _, h => by cases h
theorem IDpAll.idk : ∀ (ds : List PyData) (vs : List V), IDpAll H vs ds → IDkAll K H vs ds
  | [], _, h => by cases h; exact .nil
  | d :: ds, _, h => by cases h with | cons h g => exact .cons (IDp.idk d _ h) (IDpAll.idk ds _ g)
end
theorem IDkAll.len : ∀ {vs : List V} {ds : List PyData}, IDkAll K H vs ds → vs.length = ds.length
  | _, _, .nil => rfl
  | _, _, .cons _ g => congrArg (· + 1) g.len
theorem IDkAll.append : ∀ {vs ws : List V} {ds es : List PyData}, IDkAll K H vs ds → IDkAll K H ws es → IDkAll K H (vs ++ ws) (ds ++ es)
  | _, _, _, _, .nil, h => h
  | _, _, _, _, .cons a g, h => .cons a (g.append h)
theorem IDkAll.at : ∀ {xs : List V} {ds : List PyData} {i : Nat} {x : V}, IDkAll K H xs ds → xs[i]? = some x → ∃ d, ds[i]? = some d ∧ IDk K H x d
  | _, _, 0, x, .cons a g, h => by
    cases h
    exact ⟨_, rfl, a⟩
  | _, _, i + 1, x, .cons a g, h => IDkAll.at (i := i) g h
theorem IDkAll.atF {α : Type} {D : α → PyData} {xs : List V} {l : List α} {i : Nat} {x : V} (h : IDkAll K H xs (l.map D)) (hx : xs[i]? = some x) : ∃ e, l[i]? = some e ∧ IDk K H x (D e) := by
  obtain ⟨d, hd, g⟩ := h.at hx
  rw [List.getElem?_map] at hd
  cases hp : l[i]? with
  | none => rw [hp] at hd; cases hd
  | some p =>
    rw [hp] at hd
    cases hd
    exact ⟨p, rfl, g⟩
end
abbrev ksI (K : PySem.W.Frag) (vs : List V) (ds : List PyData) : Hp → Prop := fun H => IDkAll K H vs ds
theorem stable_ks {K : PySem.W.Frag} {v : List V} {d : List PyData} : Stable (ksI K v d) := fun H H' k h => IDkAll.keep k d v h
/-- a day: its row of values -/
def dvI (K : PySem.W.Frag) (C r : Addr) (xs : List V) : Hp → Prop := fun H => ∃ dx t, H r = some (.ins C dx [("events", .ref t)]) ∧ (H t = some (.tup xs) ∨ ∀ H', SqT K H' t xs)
theorem stable_dv {K : PySem.W.Frag} {C r : Addr} {xs : List V} : Stable (dvI K C r xs) := fun H H' k ⟨dx, t, a, b⟩ => ⟨dx, t, k _ _ a rfl, b.elim (fun e => .inl (k _ _ e rfl)) .inr⟩
theorem dv_open {K : PySem.W.Frag} {C r : Addr} {xs : List V} {H : Hp} {L : List Ck} {I : List (Hp → Prop)} (w : Own H L I) (m : dvI K C r xs ∈ I) : ∃ dx t, Own H L (insI r C dx [("events", .ref t)] :: stayI K t xs :: I) := by
  obtain ⟨dx, t, a, b⟩ := w.imp m
  have w := w.addI (S := stayI K t xs) stable_stay b
  exact ⟨dx, t, w.addI (S := insI r C dx [("events", .ref t)]) (fun H H' k h => k _ _ h rfl) a⟩
def evT : Ev → Str
  | .pass => "pass"
  | .on w u => Str.join " " [w.s, shN u]
def wdOf (z : Str) : Option Wd := [Wd.borrow, .word, .back, .crash, .stop, .cut, .join].find? fun w => decide (w.s = z)
def readE (z : Str) : Option Ev := if z = "pass" then some .pass else match Txt.split z " " with
  | [w, u] => match wdOf w with
    | some wd => if numS u 2 then some (.on wd ((intText? u).getD 0)) else none
    | none => none
  | _ => none
theorem wdOf_s (w : Wd) : wdOf w.s = some w := by cases w <;> decide +kernel
theorem wd_free (w : Wd) : 32 ∉ TL.tl w.s := by cases w <;> decide +kernel
theorem sh_free {n : Int} {s : Nat} (h : 0 ≤ n) (hs : s < 48 ∨ 57 < s) : s ∉ TL.tl (shN n) := by
  rw [tl_sh h]
  exact TL.numL_free hs
theorem sp_tl : TL.tl (" " : Str) = 32 :: [] := by decide +kernel
theorem join_ne_pass (w : Wd) (u : Int) : Str.join " " [w.s, shN u] ≠ ("pass" : Str) := by
  intro e
  have e2 := congrArg TL.tl e
  rw [TL.tl_join] at e2
  have m : 32 ∈ TL.joinL (TL.tl " ") ([w.s, shN u].map TL.tl) := by
    show 32 ∈ TL.joinL (TL.tl " ") [TL.tl w.s, TL.tl (shN u)]
    rw [sp_tl]
    show 32 ∈ TL.tl w.s ++ ([32] ++ TL.tl (shN u))
    simp
  rw [e2] at m
  exact absurd m (by decide +kernel)
theorem evT_split (w : Wd) {u : Int} (h : 0 ≤ u) : Txt.split (Str.join " " [w.s, shN u]) " " = [w.s, shN u] := by
  rw [← TL.join_eq]
  refine TL.split_join (s := 32) (S := []) sp_tl (by decide +kernel) (by simp) (fun p m => ?_)
  simp only [List.mem_cons, List.not_mem_nil, or_false] at m
  rcases m with rfl | rfl
  · exact wd_free w
  · exact sh_free h (.inl (by decide))
def evU2 : Ev → Prop
  | .pass => True
  | .on _ u => 0 ≤ u ∧ u < 100
theorem evU2.u : ∀ {e : Ev}, evU2 e → evU e
  | .pass, _ => trivial
  | .on _ _, h => ⟨h.1, Int.lt_of_lt_of_le h.2 (by decide)⟩
theorem read_evT {e : Ev} (h : evU2 e) : readE (evT e) = some e := by
  cases e with
  | pass => unfold readE evT; rw [if_pos rfl]
  | on w u =>
    have h : 0 ≤ u ∧ u < 100 := h
    have e1 : evT (.on w u) = Str.join " " [w.s, shN u] := rfl
    unfold readE
    rw [e1, if_neg (join_ne_pass w u), evT_split w h.1]
    show (match wdOf w.s with | some wd => if numS (shN u) 2 then some (Ev.on wd ((intText? (shN u)).getD 0)) else none | none => none) = _
    rw [wdOf_s]
    show (if numS (shN u) 2 then some (Ev.on w ((intText? (shN u)).getD 0)) else none) = _
    rw [sh_num (d := 2) (k := 2) h.1 (by decide) (by omega) rfl, if_pos rfl, (sh_int (k := 2) h.1 (by decide) (by omega) (by decide)).1]
    rfl
theorem semi_tl : TL.tl ("; " : Str) = 59 :: [32] := by decide +kernel
theorem wd_free2 (w : Wd) : 59 ∉ TL.tl w.s := by cases w <;> decide +kernel
theorem evT_free {e : Ev} (h : evU2 e) : 59 ∉ TL.tl (evT e) := by
  cases e with
  | pass => decide +kernel
  | on w u =>
    have h : 0 ≤ u ∧ u < 100 := h
    show 59 ∉ TL.tl (Str.join " " [w.s, shN u])
    rw [TL.tl_join]
    show 59 ∉ TL.joinL (TL.tl " ") [TL.tl w.s, TL.tl (shN u)]
    rw [sp_tl]
    show 59 ∉ TL.tl w.s ++ ([32] ++ TL.tl (shN u))
    intro m
    rcases List.mem_append.mp m with m | m
    · exact wd_free2 w m
    · rcases List.mem_append.mp m with m | m
      · simp at m
      · exact sh_free h.1 (.inr (by decide)) m
def dayT (es : List Ev) : Str := Str.join "; " (es.map evT)
theorem dayT_split {es : List Ev} (ne : es ≠ []) (h : ∀ e ∈ es, evU2 e) : Txt.split (dayT es) "; " = es.map evT := by
  unfold dayT
  rw [← TL.join_eq]
  refine TL.split_join (s := 59) (S := [32]) semi_tl (by decide +kernel) (by simpa using ne) (fun p m => ?_)
  obtain ⟨e, he, rfl⟩ := List.mem_map.mp m
  exact evT_free (h e he)
/-- the events that parts tell, up to one that tells none -/
def readP : List Str → Option (List Ev)
  | [] => some []
  | z :: zs => match readE z with
    | none => none
    | some e => (readP zs).map (e :: ·)
theorem readP_evT : ∀ {es : List Ev}, (∀ e ∈ es, evU2 e) → readP (es.map evT) = some es
  | [], _ => rfl
  | e :: es, h => by
    rw [List.map_cons, readP, read_evT (h e List.mem_cons_self), readP_evT fun x m => h x (List.mem_cons_of_mem _ m)]
    rfl
def partsD (z : Str) : List Str := if z = "" then [] else Txt.split z "; "
theorem evT_ne {e : Ev} : evT e ≠ "" := by
  cases e with
  | pass => decide +kernel
  | on w u =>
    intro z
    have z2 := congrArg TL.tl z
    have e1 : TL.tl (evT (.on w u)) = TL.tl w.s ++ ([32] ++ TL.tl (shN u)) := by
      show TL.tl (Str.join " " [w.s, shN u]) = _
      rw [TL.tl_join]
      show TL.joinL (TL.tl " ") [TL.tl w.s, TL.tl (shN u)] = _
      rw [sp_tl]
      rfl
    rw [e1] at z2
    have : TL.tl ("" : Str) = [] := rfl
    rw [this] at z2
    simp at z2
theorem dayT_ne {es : List Ev} (ne : es ≠ []) : dayT es ≠ "" := by
  match es, ne with
  | e :: es, _ =>
    intro z
    have z2 := congrArg TL.tl z
    unfold dayT at z2
    rw [TL.tl_join] at z2
    have n0 : TL.tl (evT e) ≠ [] := fun q => evT_ne (e := e) (TL.ext_tl (q.trans (show TL.tl ("" : Str) = [] from rfl).symm))
    cases es with
    | nil => exact n0 z2
    | cons d es =>
      have : TL.tl (evT e) ++ (TL.tl "; " ++ TL.joinL (TL.tl "; ") (((d :: es).map evT).map TL.tl)) = [] := z2
      exact n0 (List.append_eq_nil_iff.mp this).1
theorem dayT_parts {es : List Ev} (h : ∀ e ∈ es, evU2 e) : partsD (dayT es) = es.map evT := by
  unfold partsD
  by_cases ne : es = []
  · subst ne
    rw [if_pos (show dayT [] = "" from rfl)]
    rfl
  · rw [if_neg (dayT_ne ne), dayT_split ne h]
instance : DecidableEq Ev := fun a b => match a, b with
  | .pass, .pass => .isTrue rfl
  | .pass, .on _ _ => .isFalse Ev.noConfusion
  | .on _ _, .pass => .isFalse Ev.noConfusion
  | .on w u, .on x v => if h : w = x ∧ u = v then .isTrue (by rw [h.1, h.2]) else .isFalse fun e => h (by cases e; exact ⟨rfl, rfl⟩)
theorem ev_eqv : ∀ a b : Ev, PyData.eqv a.d b.d = decide (a = b)
  | .pass, .pass => by rw [decide_eq_true rfl]; decide +kernel
  | .pass, .on w u => by rw [decide_eq_false (fun h => by cases h)]; cases w <;> rfl
  | .on w u, .pass => by rw [decide_eq_false (fun h => by cases h)]; cases w <;> rfl
  | .on w u, .on w2 u2 => by
    show (PyData.eqv (.str w.s) (.str w2.s) && (PyData.eqv (.int u) (.int u2) && true)) = _
    rw [show PyData.eqv (.str w.s) (.str w2.s) = decide (w = w2) by cases w <;> cases w2 <;> decide +kernel, show PyData.eqv (.int u) (.int u2) = decide (u = u2) from rfl, Bool.and_true]
    by_cases h : w = w2
    · by_cases h2 : u = u2
      · rw [decide_eq_true h, decide_eq_true h2, decide_eq_true (by rw [h, h2])]
        rfl
      · rw [decide_eq_false h2, Bool.and_false, decide_eq_false (fun e => h2 (by cases e; rfl))]
    · rw [decide_eq_false h, Bool.false_and, decide_eq_false (fun e => h (by cases e; rfl))]
theorem evs_eqv : ∀ es fs : List Ev, PyData.eqvAll (es.map Ev.d) (fs.map Ev.d) = decide (es = fs)
  | [], [] => rfl
  | [], _ :: _ => rfl
  | _ :: _, [] => rfl
  | e :: es, f :: fs => by
    show (PyData.eqv e.d f.d && PyData.eqvAll (es.map Ev.d) (fs.map Ev.d)) = _
    rw [ev_eqv, evs_eqv es fs]
    by_cases h : e = f
    · by_cases h2 : es = fs
      · rw [decide_eq_true h, decide_eq_true h2, decide_eq_true (by rw [h, h2])]
        rfl
      · rw [decide_eq_false h2, Bool.and_false, decide_eq_false (fun z => h2 (List.cons.inj z).2)]
    · rw [decide_eq_false h, Bool.false_and, decide_eq_false (fun z => h (List.cons.inj z).1)]
theorem evs_tup (es fs : List Ev) : PyData.eqv (.tuple (es.map Ev.d)) (.tuple (fs.map Ev.d)) = decide (es = fs) := evs_eqv es fs
theorem evs_shaped (es : List Ev) : SeqAt.shaped (.tuple (es.map Ev.d)) = true := shaped_tup fun d m => by
  obtain ⟨e, _, rfl⟩ := List.mem_map.mp m
  exact ev_lay e
end OW
set_option Elab.async false
set_option linter.all false
set_option maxRecDepth 100000
set_option maxHeartbeats 2000000
namespace OW
open PySem PySem.Spec PyProof.Rows L2 RZ SkE CL
/-- how a house stands while its day is possible: each user has one kept seat at most, nobody is too old, and who uses has the moment of its seat -/
structure LgS (r : Ru) (s : Hs) : Prop where
  once : ∀ (i j : Nat) (u t t' : Int), s.kp[i]? = some (some (u, t)) → s.kp[j]? = some (some (u, t')) → i = j
  age : ∀ p ∈ s.us, s.mo - p.2.2 ≤ r.gr + r.lt
  same : ∀ p ∈ s.us, ∀ t, some (p.1, t) ∈ s.kp → t = p.2.2
  nd : NdA s.us
theorem mem_at {α : Type} {l : List α} {x : α} : x ∈ l ↔ ∃ j : Nat, l[j]? = some x := List.mem_iff_getElem?
theorem clr_mem {kp : List (Option (Int × Int))} {u : Int} {i : Nat} (hu : ∀ (j : Nat) (t : Int), kp[j]? = some (some (u, t)) → j = i) (hv : ∀ v t, kp[i]? = some (some (v, t)) → v = u) (v t : Int) :
    some (v, t) ∈ kp.set i none ↔ v ≠ u ∧ some (v, t) ∈ kp := by
  rw [mem_at, mem_at]
  constructor
  · rintro ⟨j, hj⟩
    rw [List.getElem?_set] at hj
    by_cases e : i = j
    · rw [if_pos e] at hj
      split at hj <;> cases hj
    · rw [if_neg e] at hj
      exact ⟨fun z => by subst z; exact e (hu j t hj).symm, j, hj⟩
  · rintro ⟨z, j, hj⟩
    refine ⟨j, ?_⟩
    rw [List.getElem?_set, if_neg (fun e => z (hv v t (by rw [e]; exact hj)))]
    exact hj
theorem put_mem {β : Type} {l : List (Int × β)} {u : Int} {b : β} {p : Int × β} (h : p ∈ putA l u b) : p = (u, b) ∨ (p ∈ l ∧ p.1 ≠ u) := by
  unfold putA at h
  split at h
  · obtain ⟨q, m, rfl⟩ := List.mem_map.mp h
    by_cases e : q.1 = u
    · rw [if_pos e, e]; exact .inl rfl
    · rw [if_neg e]; exact .inr ⟨m, e⟩
  · rename_i c
    rcases List.mem_append.mp h with m | m
    · refine .inr ⟨m, fun e => c ?_⟩
      subst e
      cases g : l.lookup p.1 with
      | some x => rfl
      | none => exact absurd (List.mem_map.mpr ⟨p, m, rfl⟩) (lkA_none g)
    · exact .inl (List.mem_singleton.mp m)
theorem LgS.pass {r : Ru} {s : Hs} (h : LgS r s) (ok : canH r s .pass = true) : LgS r (doPass r s).1 := by
  have sub : ∀ (j : Nat) (x : Int × Int), (s.kp.map (passK r.la (s.mo + 1)))[j]? = some (some x) → s.kp[j]? = some (some x) := fun j x hj => by
    rw [List.getElem?_map] at hj
    obtain ⟨y, hy, e⟩ := Option.map_eq_some_iff.mp hj
    unfold passK at e
    split at e
    · cases e
    · rw [hy, e]
  refine ⟨fun j k v t t' hj hk => h.once j k v t t' (sub j _ hj) (sub k _ hk), fun p m => ?_, fun p m t hm => ?_, h.nd⟩
  · have o := List.all_eq_true.mp ok p m
    unfold passOk at o
    have o := (Bool.and_eq_true _ _ |>.mp o).1
    have o : ¬ (r.gr + r.lt ≤ s.mo - p.2.2) := by simpa using o
    show s.mo + 1 - p.2.2 ≤ _
    omega
  · obtain ⟨j, hj⟩ := mem_at.mp hm
    exact h.same p m t (mem_at.mpr ⟨j, sub j _ hj⟩)
/-- what is kept by the log is what is kept -/
structure KpL (r : Ru) (k : List (Int × Int)) (s : Hs) : Prop where
  nd : NdA k
  mem : ∀ u t, (stillL r.la s.mo k).lookup u = some t ↔ some (u, t) ∈ s.kp
theorem still_nd {la mo : Int} {k : List (Int × Int)} (n : NdA k) : NdA (stillL la mo k) := n.filter _
theorem still_lk {la mo : Int} {k : List (Int × Int)} (n : NdA k) (u t : Int) : (stillL la mo k).lookup u = some t ↔ k.lookup u = some t ∧ mo - t < la := by
  unfold stillL
  rw [lkA_filter n]
  cases e : k.lookup u with
  | none => simp
  | some x =>
    show (if decide (mo - x < la) then some x else none) = some t ↔ _
    by_cases h : mo - x < la
    · rw [decide_eq_true h, if_pos rfl]
      constructor
      · intro q; cases q; exact ⟨rfl, h⟩
      · rintro ⟨q, _⟩; exact q
    · rw [decide_eq_false h, if_neg (by decide)]
      constructor
      · intro q; cases q
      · rintro ⟨q, z⟩; cases q; exact absurd z h
/-- a kept seat is not yet lost -/
theorem KpL.fresh {r : Ru} {k : List (Int × Int)} {s : Hs} (h : KpL r k s) {u t : Int} (m : some (u, t) ∈ s.kp) : s.mo - t < r.la := ((still_lk h.nd u t).mp ((h.mem u t).mpr m)).2
theorem KpL.same {r : Ru} {k : List (Int × Int)} {s s' : Hs} (h : KpL r k s) (a : s'.mo = s.mo) (b : s'.kp = s.kp) : KpL r k s' := ⟨h.nd, fun u t => by rw [a, b]; exact h.mem u t⟩
theorem KpL.pass {r : Ru} {k : List (Int × Int)} {s : Hs} (h : KpL r k s) : KpL r k (doPass r s).1 := by
  refine ⟨h.nd, fun u t => ?_⟩
  show (stillL r.la (s.mo + 1) k).lookup u = some t ↔ some (u, t) ∈ s.kp.map (passK r.la (s.mo + 1))
  rw [still_lk h.nd]
  constructor
  · rintro ⟨a, b⟩
    have m := (h.mem u t).mp ((still_lk h.nd u t).mpr ⟨a, by omega⟩)
    refine List.mem_map.mpr ⟨_, m, ?_⟩
    unfold passK outK
    rw [if_neg (by rw [decide_eq_true_eq]; show ¬ s.mo + 1 - t = r.la; omega)]
  · intro m
    obtain ⟨x, hx, e⟩ := List.mem_map.mp m
    unfold passK at e
    split at e
    · cases e
    · rename_i o
      subst e
      have f := h.fresh hx
      have o : ¬ (s.mo + 1 - t = r.la) := fun z => o (decide_eq_true z)
      exact ⟨((still_lk h.nd u t).mp ((h.mem u t).mpr hx)).1, by omega⟩
theorem KpL.back {r : Ru} {k : List (Int × Int)} {s : Hs} {u : Int} {i : Nat} (h : KpL r k s) (hu : ∀ (j : Nat) (t : Int), s.kp[j]? = some (some (u, t)) → j = i) (hv : ∀ v t, s.kp[i]? = some (some (v, t)) → v = u) : KpL r (stepL r k ⟨s.mo, "back", u⟩) (leaveH { s with kp := s.kp.set i none } u) := by
  have n := still_nd (la := r.la) (mo := s.mo) h.nd
  have e : stepL r k ⟨s.mo, "back", u⟩ = dropA (stillL r.la s.mo k) u := by
    unfold stepL nextL
    rw [if_pos rfl]
  rw [e]
  refine ⟨n.drop, fun v t => ?_⟩
  rw [still_lk n.drop, lkA_drop]
  show _ ∧ s.mo - t < r.la ↔ some (v, t) ∈ s.kp.set i none
  rw [clr_mem hu hv]
  by_cases z : u = v
  · rw [if_pos z]
    exact ⟨fun q => absurd q.1 (by intro y; cases y), fun q => absurd z.symm q.1⟩
  · rw [if_neg z, h.mem]
    exact ⟨fun q => ⟨fun y => z y.symm, q.1⟩, fun q => ⟨q.2, h.fresh q.2⟩⟩
def lastA (es : List En) : List (Int × Int × Str) := es.foldl (fun m e => putA m e.u (e.t, e.w)) []
theorem lastA_snoc (es : List En) (e : En) : lastA (es ++ [e]) = putA (lastA es) e.u (e.t, e.w) := by
  unfold lastA
  rw [List.foldl_append]
  rfl
/-- who uses has an entry of the moment of its seat, and gave nothing back -/
def UsL (log : List En) (s : Hs) : Prop := ∀ p ∈ s.us, ∃ w : Str, (lastA log).lookup p.1 = some (p.2.2, w) ∧ w ≠ "back"
theorem UsL.sub {log : List En} {s s' : Hs} (h : UsL log s) (e : ∀ p ∈ s'.us, p ∈ s.us) : UsL log s' := fun p m => h p (e p m)
theorem UsL.put {log : List En} {s : Hs} {u : Int} {i : Nat} {w : Str} (h : UsL log s) (nb : w ≠ "back") : UsL (log ++ [⟨s.mo, w, u⟩]) (ansH s u i) := fun p m => by
  rw [lastA_snoc, lkA_put]
  rcases put_mem (show p ∈ putA s.us u (((i : Nat) : Int), s.mo) from m) with e | ⟨m, e⟩
  · rw [e, if_pos rfl]
    exact ⟨w, rfl, nb⟩
  · rw [if_neg fun q => e q.symm]
    exact h p m
theorem UsL.back {log : List En} {s s' : Hs} {u mo : Int} {w : Str} (h : UsL log s) (e : ∀ p ∈ s'.us, p ∈ s.us ∧ p.1 ≠ u) : UsL (log ++ [⟨mo, w, u⟩]) s' := fun p m => by
  rw [lastA_snoc, lkA_put, if_neg fun q => (e p m).2 q.symm]
  exact h p (e p m).1
end OW
set_option Elab.async false
set_option linter.all false
set_option maxRecDepth 100000
set_option maxHeartbeats 2000000
namespace L2
open PySem PySem.Spec PyProof.Rows
end L2
namespace OW
open PySem PySem.Spec PyProof.Rows L2 RZ SkE CL
end OW
set_option Elab.async false
set_option linter.all false
set_option maxRecDepth 100000
set_option maxHeartbeats 2000000
namespace OW
open PySem PySem.Spec PyProof.Rows L2 RZ SkE CL
end OW
set_option Elab.async false
set_option linter.all false
set_option maxRecDepth 100000
set_option maxHeartbeats 2000000
section
open PySem PySem.Spec PyProof.Rows L2 RZ SkE CL OW
local macro_rules | `(tactic| walk_at "subi") => `(tactic| first
  | exact fun _ z => z
  | exact fun _ z => List.mem_cons_of_mem _ z
  | exact fun _ z => List.mem_cons_of_mem _ (List.mem_cons_of_mem _ z)
  | exact fun _ z => List.mem_cons_of_mem _ (List.mem_cons_of_mem _ (List.mem_cons_of_mem _ z))
  | exact fun _ z => List.mem_cons_of_mem _ (List.mem_cons_of_mem _ (List.mem_cons_of_mem _ (List.mem_cons_of_mem _ z)))
  | exact fun _ z => List.mem_cons_of_mem _ (List.mem_cons_of_mem _ (List.mem_cons_of_mem _ (List.mem_cons_of_mem _ (List.mem_cons_of_mem _ z))))
  | exact fun _ z => List.mem_cons_of_mem _ (List.mem_cons_of_mem _ (List.mem_cons_of_mem _ (List.mem_cons_of_mem _ (List.mem_cons_of_mem _ (List.mem_cons_of_mem _ z)))))
  | exact fun _ z => List.mem_cons_of_mem _ (List.mem_cons_of_mem _ (List.mem_cons_of_mem _ (List.mem_cons_of_mem _ (List.mem_cons_of_mem _ (List.mem_cons_of_mem _ (List.mem_cons_of_mem _ z))))))
  | exact fun _ z => List.mem_cons_of_mem _ (List.mem_cons_of_mem _ (List.mem_cons_of_mem _ (List.mem_cons_of_mem _ (List.mem_cons_of_mem _ (List.mem_cons_of_mem _ (List.mem_cons_of_mem _ (List.mem_cons_of_mem _ z)))))))
  | exact fun _ z => (List.not_mem_nil z).elim
  | exact sub_nil
  | (refine sub_cons (by walk_at "mem") ?_; walk_at "subi")
  | (intro R z; apply List.mem_cons_of_mem; revert z; revert R; walk_at "subi"))
local macro_rules | `(tactic| walk_at "pull1") => `(tactic| first | assumption | exact Pull.head | (apply Pull.tail; walk_at "pull1"))
local macro_rules | `(tactic| walk_at "pull") => `(tactic| first | assumption | exact Pull.head | exact (Pull.tail Pull.head) | exact (Pull.tail (Pull.tail Pull.head)) | exact (Pull.tail (Pull.tail (Pull.tail Pull.head))) | exact (Pull.tail (Pull.tail (Pull.tail (Pull.tail Pull.head)))) | exact (Pull.tail (Pull.tail (Pull.tail (Pull.tail (Pull.tail Pull.head))))) | exact (Pull.tail (Pull.tail (Pull.tail (Pull.tail (Pull.tail (Pull.tail Pull.head)))))) | exact (Pull.tail (Pull.tail (Pull.tail (Pull.tail (Pull.tail (Pull.tail (Pull.tail Pull.head))))))) | exact (Pull.tail (Pull.tail (Pull.tail (Pull.tail (Pull.tail (Pull.tail (Pull.tail (Pull.tail Pull.head)))))))) | exact (Pull.tail (Pull.tail (Pull.tail (Pull.tail (Pull.tail (Pull.tail (Pull.tail (Pull.tail (Pull.tail Pull.head))))))))) | exact (Pull.tail (Pull.tail (Pull.tail (Pull.tail (Pull.tail (Pull.tail (Pull.tail (Pull.tail (Pull.tail (Pull.tail Pull.head)))))))))) | exact (Pull.tail (Pull.tail (Pull.tail (Pull.tail (Pull.tail (Pull.tail (Pull.tail (Pull.tail (Pull.tail (Pull.tail (Pull.tail Pull.head))))))))))) | (apply Pull.tail; walk_at "pull1"))
local macro_rules | `(tactic| walk_at "mem1") => `(tactic| first | assumption | exact List.mem_cons_self | (refine List.mem_cons_of_mem _ ?_; walk_at "mem1"))
local macro_rules | `(tactic| walk_at "mem") => `(tactic| first | assumption | exact List.mem_cons_self | exact (List.mem_cons_of_mem _ List.mem_cons_self) | exact (List.mem_cons_of_mem _ (List.mem_cons_of_mem _ List.mem_cons_self)) | exact (List.mem_cons_of_mem _ (List.mem_cons_of_mem _ (List.mem_cons_of_mem _ List.mem_cons_self))) | exact (List.mem_cons_of_mem _ (List.mem_cons_of_mem _ (List.mem_cons_of_mem _ (List.mem_cons_of_mem _ List.mem_cons_self)))) | exact (List.mem_cons_of_mem _ (List.mem_cons_of_mem _ (List.mem_cons_of_mem _ (List.mem_cons_of_mem _ (List.mem_cons_of_mem _ List.mem_cons_self))))) | exact (List.mem_cons_of_mem _ (List.mem_cons_of_mem _ (List.mem_cons_of_mem _ (List.mem_cons_of_mem _ (List.mem_cons_of_mem _ (List.mem_cons_of_mem _ List.mem_cons_self)))))) | exact (List.mem_cons_of_mem _ (List.mem_cons_of_mem _ (List.mem_cons_of_mem _ (List.mem_cons_of_mem _ (List.mem_cons_of_mem _ (List.mem_cons_of_mem _ (List.mem_cons_of_mem _ List.mem_cons_self))))))) | exact (List.mem_cons_of_mem _ (List.mem_cons_of_mem _ (List.mem_cons_of_mem _ (List.mem_cons_of_mem _ (List.mem_cons_of_mem _ (List.mem_cons_of_mem _ (List.mem_cons_of_mem _ (List.mem_cons_of_mem _ List.mem_cons_self)))))))) | exact (List.mem_cons_of_mem _ (List.mem_cons_of_mem _ (List.mem_cons_of_mem _ (List.mem_cons_of_mem _ (List.mem_cons_of_mem _ (List.mem_cons_of_mem _ (List.mem_cons_of_mem _ (List.mem_cons_of_mem _ (List.mem_cons_of_mem _ List.mem_cons_self))))))))) | exact (List.mem_cons_of_mem _ (List.mem_cons_of_mem _ (List.mem_cons_of_mem _ (List.mem_cons_of_mem _ (List.mem_cons_of_mem _ (List.mem_cons_of_mem _ (List.mem_cons_of_mem _ (List.mem_cons_of_mem _ (List.mem_cons_of_mem _ (List.mem_cons_of_mem _ List.mem_cons_self)))))))))) | exact (List.mem_cons_of_mem _ (List.mem_cons_of_mem _ (List.mem_cons_of_mem _ (List.mem_cons_of_mem _ (List.mem_cons_of_mem _ (List.mem_cons_of_mem _ (List.mem_cons_of_mem _ (List.mem_cons_of_mem _ (List.mem_cons_of_mem _ (List.mem_cons_of_mem _ (List.mem_cons_of_mem _ List.mem_cons_self))))))))))) | exact (List.mem_cons_of_mem _ (List.mem_cons_of_mem _ (List.mem_cons_of_mem _ (List.mem_cons_of_mem _ (List.mem_cons_of_mem _ (List.mem_cons_of_mem _ (List.mem_cons_of_mem _ (List.mem_cons_of_mem _ (List.mem_cons_of_mem _ (List.mem_cons_of_mem _ (List.mem_cons_of_mem _ (List.mem_cons_of_mem _ List.mem_cons_self)))))))))))) | exact (List.mem_cons_of_mem _ (List.mem_cons_of_mem _ (List.mem_cons_of_mem _ (List.mem_cons_of_mem _ (List.mem_cons_of_mem _ (List.mem_cons_of_mem _ (List.mem_cons_of_mem _ (List.mem_cons_of_mem _ (List.mem_cons_of_mem _ (List.mem_cons_of_mem _ (List.mem_cons_of_mem _ (List.mem_cons_of_mem _ (List.mem_cons_of_mem _ List.mem_cons_self))))))))))))) | exact (List.mem_cons_of_mem _ (List.mem_cons_of_mem _ (List.mem_cons_of_mem _ (List.mem_cons_of_mem _ (List.mem_cons_of_mem _ (List.mem_cons_of_mem _ (List.mem_cons_of_mem _ (List.mem_cons_of_mem _ (List.mem_cons_of_mem _ (List.mem_cons_of_mem _ (List.mem_cons_of_mem _ (List.mem_cons_of_mem _ (List.mem_cons_of_mem _ (List.mem_cons_of_mem _ List.mem_cons_self)))))))))))))) | exact (List.mem_cons_of_mem _ (List.mem_cons_of_mem _ (List.mem_cons_of_mem _ (List.mem_cons_of_mem _ (List.mem_cons_of_mem _ (List.mem_cons_of_mem _ (List.mem_cons_of_mem _ (List.mem_cons_of_mem _ (List.mem_cons_of_mem _ (List.mem_cons_of_mem _ (List.mem_cons_of_mem _ (List.mem_cons_of_mem _ (List.mem_cons_of_mem _ (List.mem_cons_of_mem _ (List.mem_cons_of_mem _ List.mem_cons_self))))))))))))))) | (refine List.mem_cons_of_mem _ ?_; walk_at "mem1"))
local macro_rules | `(tactic| walk_at "hp") => `(tactic| first | assumption | exact Own.get (by assumption) (by walk_at "pull") | exact Own.tupx (by assumption) (by walk_at "mem"))
local macro_rules | `(tactic| walk_at "pick") => `(tactic| first | exact Pick.all | exact Pick.nil | (refine Pick.cons (by walk_at "pull") ?_; walk_at "pick") | (refine Pick.skip ?_; walk_at "pick"))
local macro_rules | `(tactic| walk_at "own") => `(tactic| first | assumption | exact Own.subI (Own.pick (by assumption) (by walk_at "pick")) (by walk_at "subi"))
local macro_rules | `(tactic| walk_at "dps") => `(tactic| first
  | exact DpAll.nil
  | exact dpAll_ints _
  | exact dpAll_strs _
  | assumption
  | exact IDpAll.dp _ _ (Own.ids (by assumption) (by walk_at "mem"))
  | (apply DpAll.cons; (focus (walk_at "dp")); walk_at "dps"))
local macro_rules | `(tactic| walk_at "dp") => `(tactic| first
  | exact Dp.int _
  | exact Dp.str _
  | exact Dp.non
  | exact Dp.bl _
  | assumption
  | exact IDp.dp _ _ (Own.idd (by assumption) (by walk_at "mem"))
  | (apply Dp.tup; (focus (exact SqT.of (by walk_at "hp"))); walk_at "dps")
  | (apply Dp.lst; (focus (exact SqL.of (by walk_at "hp"))); walk_at "dps")
  | (apply Dp.tup; (focus (walk_at "seq")); walk_at "dps"))
local macro_rules | `(tactic| walk_at "sd") => `(tactic| first
  | assumption
  | (exact ⟨by decide, by decide⟩)
  | exact ⟨rfl, rfl⟩
  | (show (_ : Nat) ≤ sizeLine; (try simp only [List.length_cons, List.length_nil, List.length_append, List.length_map, List.length_take]); rw [sizeLine_eq]; omega)
  | (show (_ : Nat) < sizeLine; (try simp only [List.length_cons, List.length_nil, List.length_append, List.length_map, List.length_take]); rw [sizeLine_eq]; omega)
  | omega
  | (exact Or.inl (Or.inl ⟨by omega, by omega⟩))
  | (exact Or.inl (Or.inr ⟨by omega, by omega⟩))
  | (exact Or.inl ⟨by omega, by omega⟩)
  | (exact ⟨by omega, by omega⟩)
  | (exact ⟨by decide, by decide, by decide⟩)
  | decide
  | walk_at "len")
local macro_rules | `(tactic| walk_at "br") => `(tactic| first
  | refine br_t (by first | rfl | assumption) ?_
  | refine br_f (by first | rfl | assumption) ?_
  | refine br_t (by exact decide_eq_true (by omega)) ?_
  | refine br_f (by exact decide_eq_false (by omega)) ?_
  | walk_at "br2")
local macro_rules | `(tactic| walk_at "kit") => `(tactic| first
  | exact kit_int_int | exact kit_int_bool | exact kit_int_str | exact kit_int_list | exact kit_int_tuple
  | exact kit_bool_int | exact kit_bool_bool | exact kit_bool_str | exact kit_bool_list | exact kit_bool_tuple
  | exact kit_str_int | exact kit_str_bool | exact kit_str_str | exact kit_str_list | exact kit_str_tuple
  | exact kit_list_int | exact kit_list_bool | exact kit_list_str | exact kit_list_list | exact kit_list_tuple
  | exact kit_tuple_int | exact kit_tuple_bool | exact kit_tuple_str | exact kit_tuple_list | exact kit_tuple_tuple
  | exact kit_NoneType_int | exact kit_NoneType_bool | exact kit_NoneType_str | exact kit_NoneType_list | exact kit_NoneType_tuple)
local macro_rules | `(tactic| walk_at "isi") => `(tactic| first
  | refine IsI.mk ⟨_, _, .base (.int _), (by walk_at "kit"), ?_⟩
  | refine IsI.mk ⟨_, _, .base (.str _), (by walk_at "kit"), ?_⟩
  | refine IsI.mk ⟨_, _, .base .non, (by walk_at "kit"), ?_⟩
  | refine IsI.mk ⟨_, _, .base (.bl _), (by walk_at "kit"), ?_⟩
  | refine IsI.mk ⟨_, _, .base (.lst (by walk_at "hp")), (by walk_at "kit"), ?_⟩
  | refine IsI.mk ⟨_, _, .base (.tup (by walk_at "hp")), (by walk_at "kit"), ?_⟩)
local macro_rules | `(tactic| walk_at "log") => `(tactic| first | assumption | exact log_of2 (by omega))
set_option hygiene false in
local macro_rules | `(tactic| walk_at "one") => `(tactic| first
  | ((with_reducible show Sq _ _ _ _); first
    | refine sq_l (by assumption) (by walk_at "pull") ?_
    | refine sq_t (by assumption) (by walk_at "pull") ?_
    | refine sq_s (by assumption) (by walk_at "mem") ?_
    | refine sq_i (by assumption) (by walk_at "mem") ?_
    | refine Sq.t (by walk_at "seq") ?_)
  | ((with_reducible show Ls _ _ _); refine ls_o (by assumption) (by walk_at "pull") ?_)
  | ((with_reducible show Fld _ _ _ _ _); first | refine fld_o (by assumption) (by walk_at "pull") (by walk_at "cls") (by walk_at "cls") rfl ?_ | walk_at "fld")
  | ((with_reducible show SetF _ _ _ _ _ _); refine setf_o (by assumption) (by walk_at "pull") (by walk_at "cls") (by walk_at "cls") (by first | decide | exact Nat.le_of_ble_eq_true rfl) (by first | rfl | decide +kernel) (fun HH w => ?_))
  | ((with_reducible show New _ _ _); refine new_o (by assumption) (fun pp HH w => ?_))
  | ((with_reducible show Grow _ _ _ _ _); refine grow_o (by assumption) (by walk_at "pull") rfl (fun HH w => ?_))
  | ((with_reducible show Chk _ _); refine Chk.mk (by walk_at "sd") ?_)
  | ((with_reducible show Br _ _ _); walk_at "br")
  | ((with_reducible show Ask _); walk_at "ask")
  | ((with_reducible show IsI _ _ _ _ _); walk_at "isi")
  | ((with_reducible show At _ _ _); first | refine At.mk ⟨_, rfl, ?_⟩ | walk_at "at")
  | ((with_reducible show LastOf _ _); refine LastOf.mk ⟨_, rfl, ?_⟩)
  | ((with_reducible show SetL _ _ _ _ _); refine setl_o (by assumption) (by walk_at "pull") rfl (fun HH w => ?_))
  | ((with_reducible show UnT _ _ _ _ _); first | refine unt_o (by assumption) (by walk_at "pull") rfl ?_ | refine unt_i (by assumption) (by walk_at "mem") rfl ?_ | refine ⟨_, (by walk_at "seq"), rfl, ?_⟩)
  | ((with_reducible show RaiseR _ _ _ _ _ _); refine raise_o (by assumption) (fun dx HH w => ?_))
  | ((with_reducible show Wr _); refine catch_yes (by walk_at "exm") (fun ea hea => ?_))
  | ((with_reducible show XfG _ _ _ _ _ _ _ _); refine xf_o (by assumption) (by walk_at "pull") rfl ?_)
  | ((with_reducible show IsEG _ _ _ _ _ _ _ _ _); refine isE_o (by assumption) (by walk_at "pull") (by walk_at "kitE") ?_)
  | ((with_reducible show UnU _ _ _ _ _); refine unu_o (by assumption) (by walk_at "pull") rfl ?_)
  | ((with_reducible show SlL _ _ _ _ _ _); first | refine sll_o (by assumption) (by walk_at "pull") (fun pp HH w => ?_) | refine sll_s (by assumption) (by walk_at "mem") (fun pp HH w => ?_))
  | ((with_reducible show Cat _ _ _ _ _); first | refine cat_l (by assumption) (by walk_at "pull") (by walk_at "pull") (by walk_at "sd") (fun pp HH w => ?_) | (refine cat_t (by assumption) (by walk_at "pull") (by walk_at "pull") (List.cons_ne_nil _ _) (List.cons_ne_nil _ _) (by walk_at "sd") (fun pp HH w => ?_); (try simp only [List.cons_append, List.nil_append] at w)))
  | ((with_reducible show SlG _ _ _ _ _ _); first | refine slg_l (by assumption) (by walk_at "pull") (fun pp HH w => ?_) | refine slg_s (by assumption) (by walk_at "mem") (fun pp HH w => ?_) | (refine slg_t (by assumption) (by walk_at "pull") (by show ¬ (HT.sIx 5 0 _ = 0 ∧ HT.sIx 5 5 _ = 5); decide) (fun pp HH w => ?_); (try simp only [cut_a, cut_b, cut_c, cut_d, cut_e, cutM_a, cutM_b, cutM_c, cutM_d, cutM_e] at w)))
  | ((with_reducible show RevR _ _ _ _); refine rev_o (by assumption) (by walk_at "pull") (fun pp HH w => ?_))
  | ((with_reducible show TupR _ _ _ _); first | refine tupr_l (by assumption) (by walk_at "pull") (fun pp HH w => ?_) | refine tupr_t (by assumption) (by walk_at "pull") ?_)
  | ((with_reducible show EqD _ _ _ _ _); apply eqd_mk; (focus (walk_at "dp")); (focus (walk_at "dp")); (focus (walk_at "shp")); (focus (walk_at "shp")))
  | ((with_reducible show RepV _ _ _ _); first
    | refine rep_int (by walk_at "log") ?_
    | refine rep_non ?_
    | refine rep_bl ?_
    | (apply rep_mk; (focus (walk_at "dp")); (focus (walk_at "shw")); (focus (walk_at "shw")); (focus (walk_at "shw")); (focus (walk_at "shw"))))
  | ((with_reducible show ItS _ _ _ _); first | refine its_l (by assumption) (by walk_at "pull") ?_ | refine its_t (by assumption) (by walk_at "pull") ?_ | refine its_s (by assumption) (by walk_at "mem") ?_)
  | ((with_reducible show ItV _ _ _ _); first | refine itv_l (by assumption) (by walk_at "pull") ?_ | refine itv_t (by assumption) (by walk_at "pull") ?_ | refine itv_s (by assumption) (by walk_at "mem") ?_ | refine itv_r (by assumption) (by walk_at "pull") (by walk_at "sd") ?_ | refine itv_k (by walk_at "seq") ?_)
  | ((with_reducible show KD _ _ _ _ _); refine KD.mk ⟨_, by walk_at "kd", ?_⟩)
  | ((with_reducible show CallV _ _ _ _ _ _ _ _); refine callv_mk (by walk_at "held") ?_)
  | ((with_reducible show DGt _ _ _ _); first | refine dgt_i (by assumption) (by walk_at "pull") ?_ | refine dgt_s (by assumption) (by walk_at "pull") ?_ | refine dgt_if (by assumption) (by walk_at "pull") ?_ | refine dgt_sf (by assumption) (by walk_at "pull") ?_ | walk_at "dgt")
  | ((with_reducible show DGv _ _ _ _); first | refine dgv_i (by assumption) (by walk_at "pull") (by walk_at "dv") ?_ | refine dgv_s (by assumption) (by walk_at "pull") (by walk_at "dv") ?_ | refine dgv_if (by assumption) (by walk_at "pull") (by walk_at "dv") ?_ | refine dgv_sf (by assumption) (by walk_at "pull") (by walk_at "dv") ?_ | walk_at "dgv")
  | ((with_reducible show DPt _ _ _ _ _); first | refine dpt_i (by assumption) (by walk_at "pull") (by walk_at "sd") (fun HH w => ?_) | refine dpt_s (by assumption) (by walk_at "pull") (by walk_at "sd") (fun HH w => ?_))
  | ((with_reducible show DDl _ _ _ _); refine ddl_i (by assumption) (by walk_at "pull") (by walk_at "dv") (fun HH w => ?_))
  | ((with_reducible show LenD _ _ _); refine lend_o (by assumption) (by walk_at "pull") ?_)
  | ((with_reducible show DictCp _ _ _); refine dictcp_o (by assumption) (by walk_at "pull") (fun pp HH w => ?_))
  | ((with_reducible show KeysL _ _ _); refine keysl_o (by assumption) (by walk_at "pull") (fun pp HH w => ?_))
  | ((with_reducible show RepL _ _ _ _); refine repl_o (by assumption) (by walk_at "pull") (by walk_at "sd") (fun pp HH w => ?_))
  | ((with_reducible show FldInc _ _ _ _ _ _); refine fldinc_o (by assumption) (by walk_at "pull") (by walk_at "cls") (by walk_at "cls") rfl (by first | decide | exact Nat.le_of_ble_eq_true rfl) (by first | rfl | decide +kernel) (fun HH w => ?_))
  | ((with_reducible show ItD _ _ _ _); refine itd_o (by assumption) (by walk_at "pull") ?_)
  | ((with_reducible show LenSet _ _ _ _); refine lenset_o (by assumption) (by walk_at "pull") (by walk_at "len") ?_)
  | ((with_reducible show DPop _ _ _ _); refine dpop_i (by assumption) (by walk_at "pull") (by walk_at "dv") (fun HH w => ?_))
  | ((with_reducible show DGet2 _ _ _ _ _); refine dget2_i (by assumption) (by walk_at "pull") ?_)
  | ((with_reducible show MakeV _ _ _); refine MakeV.mk rfl ?_)
  | ((with_reducible show CMethR _ _ _); refine CMethR.mk rfl ?_)
  | ((with_reducible show IsDk _ _ _); refine isdk_o (by assumption) (by walk_at "pull") ?_)
  | ((with_reducible show RemI _ _ _ _); refine remi_o (by assumption) (by walk_at "pull") (by walk_at "mem") (fun HH w => ?_))
  | ((with_reducible show CntI _ _ _ _ _); refine cnti_o (by assumption) (by walk_at "pull") ?_)
  | ((with_reducible show LockE _ _ _ _); refine lockE_o (by assumption) (by walk_at "pull") (fun od HH w => ?_))
  | ((with_reducible show UnL _ _ _ _ _); refine unl_o (by assumption) (by walk_at "pull") (fun HH w => ?_))
  | ((with_reducible show ItK _ _ _); refine itk_o (by assumption) (by walk_at "pull") ?_)
  | ((with_reducible show ValsL _ _ _); refine vals_o (by assumption) (by walk_at "pull") (fun pp HH w => ?_))
  | ((with_reducible show DDsp _ _ _ _); refine ddsp_o (by assumption) (by walk_at "pull") rfl (by first | decide | exact Nat.le_of_ble_eq_true rfl) (fun HH w => ?_))
  | ((with_reducible show ItE _ _ _ _); refine ite_l (by assumption) (by walk_at "pull") ?_)
  | ((with_reducible show MaxL _ _ _ _ _); refine maxl_o (by assumption) (by walk_at "pull") (by walk_at "len") ?_)
  | ((with_reducible show AllL _ _ _ _ _); refine alll_o (by assumption) (by walk_at "pull") ?_)
  | ((with_reducible show InD _ _ _ _ _); apply ind_o; (focus (walk_at "dp")); (focus (walk_at "dp")); (focus (walk_at "shp")); (focus (walk_at "shp")))
  | ((with_reducible show MethR _ _ _ _ _); first | refine meth_o (by assumption) (by walk_at "pull") rfl ?_ | walk_at "meth")
  | ((with_reducible show OwnS _ _ _ _ _ _); walk_at "owns")
  | ((with_reducible show NxW _ _ _); refine nxw_mk ?_)
  | ((with_reducible show IsR _ _ _ _ _); refine isr_own (by walk_at "cls") (by walk_at "hp") ?_)
  | ((with_reducible show And _ _); first | refine And.intro (by (with_reducible show wipe _ _ = wipe _ _); (repeat (first | exact wipe_twice | refine (wipe_setN (by decide)).trans ?_)); done) ?_ | refine And.intro (rfl : wipe _ _ = wipe _ _) ?_ | refine And.intro (Or.inl ⟨rfl, _, SqL.of (by walk_at "hp")⟩) ?_)
  | ((with_reducible show Exists _); refine Exists.intro _ (And.intro rfl ?_))
  | ((with_reducible show Exists _); refine Exists.intro _ (Exists.intro _ (And.intro rfl (And.intro (Or.inr (SqL.of (by walk_at "hp"))) ?_))))
  | ((with_reducible show Exists _); refine Exists.intro _ (Exists.intro _ (And.intro rfl (And.intro (Or.inl (SqT.of (by walk_at "hp"))) ?_))))
  | ((with_reducible show Acc _ _ _ _); refine acc_a (by assumption) (by walk_at "pull") (by walk_at "sd") (fun HH w => ?_)))
local macro_rules | `(tactic| walk_at "go") => `(tactic| ((repeat ((try (conv => whnf)); walk_at "one")); (try (conv => whnf))))
set_option Elab.async false
set_option linter.all false
set_option maxRecDepth 100000
set_option maxHeartbeats 2000000
namespace L2
open PySem PySem.Spec PyProof.Rows
end L2
namespace OW
open PySem PySem.Spec PyProof.Rows L2 RZ SkE CL
end OW
set_option Elab.async false
set_option linter.all false
set_option maxRecDepth 100000
set_option maxHeartbeats 2000000
namespace OW
open PySem PySem.Spec PyProof.Rows L2 RZ SkE CL
/-- the signs of a text, walked -/
structure ItS (v : V) (H : Hp) (R : It → Hp → Prop) : Prop where
  ex : ∃ x, v = .str x ∧ R (Its x) H
end OW
set_option Elab.async false
set_option linter.all false
set_option maxRecDepth 100000
set_option maxHeartbeats 2000000
namespace OW
open PySem PySem.Spec PyProof.Rows L2 RZ SkE CL
/-- texts of plain signs -/
def AsZ (z : Str) : Prop := ∀ c ∈ TL.tl z, c < 128
theorem AsZ.app {a b : Str} (h : AsZ a) (g : AsZ b) : AsZ (a ++ b) := fun c m => by
  rw [TL.tl_append] at m
  exact (List.mem_append.mp m).elim (h c) (g c)
theorem AsZ.ok {z : Str} (h : AsZ z) : PyData.strOk z = true := by
  unfold PyData.strOk
  rw [← Array.all_toList, List.all_eq_true]
  exact fun c m => decide_eq_true (Nat.lt_trans (h c m) (by decide))
end OW
set_option Elab.async false
set_option linter.all false
set_option maxRecDepth 100000
set_option maxHeartbeats 2000000
namespace OW
open PySem PySem.Spec PyProof.Rows L2 RZ SkE CL
end OW
set_option Elab.async false
set_option linter.all false
set_option maxRecDepth 100000
set_option maxHeartbeats 2000000
namespace OW
open PySem PySem.Spec PyProof.Rows L2 RZ SkE CL
theorem obj_iadd : typeLookup (.type "object") "__iadd__" = pure none := by rw [typeLookup_type, builtinLookup_eq_fast]; kernel_rfl
section
variable {prog : Program} {w : World} {A : Around} {E : Value → Shared → Prop} {s : Shared} {K : PySem.W.Frag} {x C L f : Addr} {h₀ : Heap} {m : Str → Option Value} {ox : Obj} {od : Option Obj}
theorem no_iadd {M : Model} {hp : Heap} {cd : ClassData} (X : K.In hp) (hc : PySem.W.clsIn K C = some cd) (hm : cd.mro = [.ref C, .type "object"]) (hi : PySem.W.findIn K (.ref C) "__iadd__" = some none) : PySem.W.Looks M hp (fillsInplaceSlot (.ref C) (Operator.info .Add).2 true) false := by
  intro A1 Q1 E1 t k q
  have Lm : PySem.W.Looks M hp (mroOf (.ref C)) cd.mro := (PySem.W.looks_clsIn X hc).andThen (f := fun cd => pure cd.mro) .now
  unfold fillsInplaceSlot
  refine wpAny_bind (Lm A1 _ E1 t k ?_)
  rw [hm, List.anyM_cons]
  refine wpAny_bind (wpAny_bind ((PySem.W.looks_findIn X hi) A1 _ E1 t k ?_))
  refine wpAny_pure ?_
  rw [if_neg (by decide), List.anyM_cons]
  refine wpAny_bind (wpAny_bind ?_)
  rw [show dunderI (Operator.info .Add).2 = "__iadd__" from rfl, obj_iadd]
  refine wpAny_pure (wpAny_pure ?_)
  rw [if_neg (by decide), List.anyM_nil]
  exact wpAny_pure q
theorem inplace_own {b : Value} {Q : Value → Shared → Prop} {cd : ClassData} (F : Fr h₀ L s.heap m) (X₀ : K.In h₀) (I : PySem.W.InstAt s.heap x ox C od) (tb : PySem.W.Looks (model prog w) s.heap (typeOf b) (.ref C)) (hc : PySem.W.clsIn K C = some cd) (hm : cd.mro = [.ref C, .type "object"])
    (hi : PySem.W.findIn K (.ref C) "__iadd__" = some none) (hs : PySem.W.findIn K (.ref C) "__add__" = some (some (.ref f))) (hf : PySem.W.isFn K (.ref f) = true)
    (run : wpAny (model prog w) A (call (.ref f) [.ref x, b]) (PySem.W.CmpBack Q) E s) : wpAny (model prog w) A (inplaceOp .Add (.ref x) b) Q E s := by
  have Y := X₀.keeps F.keep
  have none_ := no_iadd (M := model prog w) Y hc hm hi
  have fills := PySem.W.fills_K (M := model prog w) (nm := (Operator.info .Add).2) Y hc hm hs
  have tries : wpAny (model prog w) A (tryMethod (.ref x) (PySem.dunder (Operator.info .Add).2) b) (fun r s' => ∃ v, r = some v ∧ Q v s') E s := by
    unfold tryMethod
    refine wpAny_bind (PySem.W.special_fn Y I hs (beq_iff_eq.mp hf) (wpAny_mono run (fun v s' hv => ?_) fun _ _ e => e))
    cases v <;> first | exact hv.elim | exact wpAny_pure ⟨_, rfl, hv⟩
  have bin : wpAny (model prog w) A (binaryOp1 (Operator.info .Add).2 (.ref x) b) (fun r s' => ∃ v, r = some v ∧ Q v s') E s := by
    unfold binaryOp1
    refine wpAny_bind (I.type.here (wpAny_bind (tb.here (wpAny_bind (fills.here ?_)))))
    simp only [beq_self_eq_true, if_true]
    refine wpAny_bind (wpAny_pure ?_)
    simp only [Bool.and_false, Bool.false_eq_true, if_false, Bool.false_and]
    refine wpAny_bind (wpAny_pure ?_)
    simp only [Bool.false_eq_true, if_false]
    refine wpAny_bind (wpAny_mono tries (fun r s' z => ?_) fun _ _ e => e)
    obtain ⟨v, rfl, q⟩ := z
    exact wpAny_pure ⟨v, rfl, q⟩
  unfold inplaceOp
  refine wpAny_holding (wpAny_bind (I.type.here (wpAny_bind (none_.here ?_))))
  simp only [Bool.false_eq_true, if_false]
  refine wpAny_bind (wpAny_mono bin (fun r s' z => ?_) fun _ _ e => e)
  obtain ⟨v, rfl, q⟩ := z
  exact wpAny_pure q
end
section
variable {X : Cx} {CX : CXT} {n : Nat} {f C : Addr} {fd : FuncData} {ps : List Str} {sp : Sp} {E : XK} {name : Str}
theorem any_mro {K : PySem.W.Frag} {D : Addr} (h : ((PySem.W.clsIn K D).any fun cd => cd.mro == [.ref D, .type "object"]) = true) : ∃ cd, PySem.W.clsIn K D = some cd ∧ cd.mro = [.ref D, .type "object"] := by
  cases e : PySem.W.clsIn K D with
  | none => rw [e] at h; cases h
  | some cd => rw [e] at h; exact ⟨cd, rfl, beq_iff_eq.mp h⟩
theorem ip_addO (t : ClsT X.K X.mg C name) (F : FnOk X.prog X.w X.K X.mg X.base CX n f fd ps sp) (hb : Binds X.K fd ps []) (hx : Passes CX X E) (room : Room n X.A) (hc : ((PySem.W.clsIn X.K C).any fun cd => cd.mro == [.ref C, .type "object"]) = true)
    (hi : PySem.W.findIn X.K (.ref C) "__iadd__" = some none) (hs : PySem.W.findIn X.K (.ref C) "__add__" = some (some (.ref f))) (hf : PySem.W.isFn X.K (.ref f) = true) : PIp X .Add (rAddO C sp E) := by
  intro pins s σ H x y v u Q I rx ry h
  unfold rAddO at h
  split at h
  · rename_i a b
    obtain ⟨⟨dx, fs, dx2, fs2, h1, h2, h4⟩⟩ := h
    cases rx
    have ry2 := ry
    cases ry
    obtain ⟨od, J⟩ := inst_at I h1
    obtain ⟨od2, J2⟩ := inst_at I h2
    obtain ⟨m, hF⟩ := I.fr
    obtain ⟨cd, hcd, hm⟩ := any_mro hc
    refine inplace_own hF I.ok.mod.kin J J2.type hcd hm hi hs hf ?_
    refine wpAny_mono (run_at F hb hx room rfl I (vs := [.ref a, .ref b]) (.cons rfl (.cons ry2 .nil)) h4) (fun r s' q => ?_) fun _ _ z => z
    obtain ⟨w, H', I', rw', q'⟩ := q
    unfold BackR at q'
    split at q'
    · rename_i k0
      cases rw'
      exact ⟨.ref k0, H', I', rfl, q'⟩
    · exact q'.elim
  · exact h.elim
/-- own x[i]: what is asked -/
structure OwnG (C : Addr) (sp : Sp) (E : XK) (x y : V) (H : Hp) (Q : VK) : Prop where
  ex : ∃ a dx fs, x = .ref a ∧ H a = some (.ins C dx fs) ∧ sp [.ref a, y] H Q E
def cGetO (C : Addr) (sp : Sp) (E : L2.St → XK) (ta tb : TE) : TE := fun σ H Q => ta σ H fun x H1 => tb σ H1 fun y H2 => OwnG C sp (E σ) x y H2 Q
theorem run_atS {E : L2.St → XK} {A : Around} {pins : List (Addr × Obj)} {σ : L2.St} {H : Hp} {s : Shared} {Q : VK} {us : List Value} {vs : List V} (F : FnOk X.prog X.w X.K X.mg X.base CX n f fd ps sp) (hb : Binds X.K fd ps []) (hx : PassesAt CX X σ (E σ)) (room : Room n A) (fr : A.frames = X.A.frames)
    (I : Inv X pins σ H s) (r : Vals vs us) (h : sp vs H Q (E σ)) : wpAny (model X.prog X.w) A (call (.ref f) us) (EP X pins σ Q) X.xe s := by
  have e := I.env0
  have e1 : Env0 X.prog X.w X.K X.mg X.base A X.stack s H := ⟨by rw [fr]; exact e.frames, e.mod, e.bs, e.bsz, e.funs, e.frf, e.hok, e.bare⟩
  have hl : (us ++ []).length = ps.length := by
    rw [List.append_nil, ← r.length]
    exact F.len _ _ _ _ h
  have b1 := hb s us I.kIn hl
  rw [List.append_nil] at b1
  refine wpAny_call (codeAny_mono (F.run A X.stack s H ⟨us, []⟩ us vs Q (E σ) room e1 b1 r h) fun res s' hq => ?_)
  cases res with
  | error er => exact hx pins H s er s' I hq
  | ok fl =>
    cases fl with
    | ret u => exact I.after hq
    | next => exact False.elim hq
    | brk => exact False.elim hq
    | cont => exact False.elim hq
theorem pass_at (h : Passes CX X E) (σ : L2.St) : PassesAt CX X σ ((fun _ => E) σ) := fun pins H s e s' I c => h pins σ H s e s' I c
theorem e_getO {E : L2.St → XK} {a b : Expr} {ta tb : TE} {pos : Pos} (F : FnOk X.prog X.w X.K X.mg X.base CX n f fd ps sp) (hb : Binds X.K fd ps []) (hx : ∀ σ, PassesAt CX X σ (E σ)) (room : Room (n + 1) X.A)
    (hs : PySem.W.findIn X.K (.ref C) "__getitem__" = some (some (.ref f))) (hf : PySem.W.isFn X.K (.ref f) = true) (hfi : PySem.W.fnIn X.K f = true) (ha : PE X a ta) (he : PE X b tb)
    (hsl : ∀ (x i : Value), subscripted b true x i = runValue (.builtin "lifetime.subscript" ⟨[x, i], []⟩) := by intros; with_unfolding_all rfl) : PE X (.Subscript a b pos) (cGetO C sp E ta tb) := by
  constructor
  intro pins s σ H Q I h
  refine Subscript_ (binT ha he I (R := fun x y H2 => OwnG C sp (E σ) x y H2 Q) h fun v u s2 x y H2 I2 rx ry q => ?_)
  obtain ⟨p, dx, fs, rfl, h1, h2⟩ := q.ex
  cases rx
  obtain ⟨od, J⟩ := inst_at I2 h1
  obtain ⟨m, hF⟩ := I2.fr
  exact PySem.W.sub_K hF I2.ok.mod.kin J hs hfi hf (run_atS F hb (hx σ) room.in1 rfl I2 (vs := [.ref p, y]) (.cons rfl (.cons ry .nil)) h2) (hsl _ _)
end
end OW
set_option Elab.async false
set_option linter.all false
set_option maxRecDepth 100000
set_option maxHeartbeats 800000
namespace My
open PySem PySem.Spec PyProof.Rows L2 RZ SkE CL OW
def topS (i : Nat) : Stmt := PySem.Challenge.pw_lapseseats_k06_days_made.main.body.getD i (.Pass ⟨0, 0, 0, 0⟩)
abbrev s_is_integer_from : Stmt := topS 1
theorem sc_is_integer_from : FnScope ["value", "least"] ["value", "least"] (defScope s_is_integer_from) := ⟨rfl, rfl, rfl, by decide +kernel, rfl, by decide +kernel, by decide +kernel⟩
abbrev s_is_sequence : Stmt := topS 2
theorem sc_is_sequence : FnScope ["value"] ["value"] (defScope s_is_sequence) := ⟨rfl, rfl, rfl, by decide +kernel, rfl, by decide +kernel, by decide +kernel⟩
abbrev s_InvalidDay_init : Stmt := inClass (topS 6) 0
theorem sc_InvalidDay_init : FnScope ["self", "at"] ["self", "at"] (defScope s_InvalidDay_init) := ⟨rfl, rfl, rfl, by decide +kernel, rfl, by decide +kernel, by decide +kernel⟩
abbrev s_is_event : Stmt := topS 12
theorem sc_is_event : FnScope ["value", "word", "user"] ["value"] (defScope s_is_event) := ⟨rfl, rfl, rfl, by decide +kernel, rfl, by decide +kernel, by decide +kernel⟩
abbrev s_first_wrong : Stmt := topS 13
theorem sc_first_wrong : FnScope ["values", "at", "value"] ["values"] (defScope s_first_wrong) := ⟨rfl, rfl, rfl, by decide +kernel, rfl, by decide +kernel, by decide +kernel⟩
abbrev s_event_text : Stmt := topS 14
theorem sc_event_text : FnScope ["event", "part"] ["event"] (defScope s_event_text) := ⟨rfl, rfl, rfl, by decide +kernel, rfl, by decide +kernel, by decide +kernel⟩
abbrev s_Day_init : Stmt := inClass (topS 16) 0
theorem sc_Day_init : FnScope ["self", "events", "at"] ["self", "events"] (defScope s_Day_init) := ⟨rfl, rfl, rfl, by decide +kernel, rfl, by decide +kernel, by decide +kernel⟩
abbrev s_Day_len : Stmt := inClass (topS 16) 2
theorem sc_Day_len : FnScope ["self"] ["self"] (defScope s_Day_len) := ⟨rfl, rfl, rfl, by decide +kernel, rfl, by decide +kernel, by decide +kernel⟩
abbrev s_Day_getitem : Stmt := inClass (topS 16) 3
theorem sc_Day_getitem : FnScope ["self", "at"] ["self", "at"] (defScope s_Day_getitem) := ⟨rfl, rfl, rfl, by decide +kernel, rfl, by decide +kernel, by decide +kernel⟩
abbrev s_Day_add : Stmt := inClass (topS 16) 5
theorem sc_Day_add : FnScope ["self", "other"] ["self", "other"] (defScope s_Day_add) := ⟨rfl, rfl, rfl, by decide +kernel, rfl, by decide +kernel, by decide +kernel⟩
abbrev s_Day_eq : Stmt := inClass (topS 16) 6
theorem sc_Day_eq : FnScope ["self", "other"] ["self", "other"] (defScope s_Day_eq) := ⟨rfl, rfl, rfl, by decide +kernel, rfl, by decide +kernel, by decide +kernel⟩
abbrev s_Day_str : Stmt := inClass (topS 16) 7
theorem sc_Day_str : FnScope ["self", "event"] ["self"] (defScope s_Day_str) := ⟨rfl, rfl, rfl, by decide +kernel, rfl, by decide +kernel, by decide +kernel⟩
abbrev s_l_box : Stmt := topS 18
theorem sc_l_box : FnScope ["_law_script", "_law_k", "_law_own", "_law_cell", "_law_seed"] ["_law_script", "_law_k", "_law_own"] (defScope s_l_box) := ⟨rfl, rfl, rfl, by decide +kernel, rfl, by decide +kernel, by decide +kernel⟩
abbrev s_l_take : Stmt := topS 19
theorem sc_l_take : FnScope ["_law_box_here", "_law_bound", "_law_digit", "_law_raw", "_law_wide"] ["_law_box_here", "_law_bound"] (defScope s_l_take) := ⟨rfl, rfl, rfl, by decide +kernel, rfl, by decide +kernel, by decide +kernel⟩
abbrev s_l_pick : Stmt := topS 20
theorem sc_l_pick : FnScope ["_law_box_here", "_law_items"] ["_law_box_here", "_law_items"] (defScope s_l_pick) := ⟨rfl, rfl, rfl, by decide +kernel, rfl, by decide +kernel, by decide +kernel⟩
abbrev s_l_events : Stmt := topS 21
theorem sc_l_events : FnScope ["_law_box_here", "_law_many", "_law_words", "_law_found", "_law_turn"] ["_law_box_here", "_law_many"] (defScope s_l_events) := ⟨rfl, rfl, rfl, by decide +kernel, rfl, by decide +kernel, by decide +kernel⟩
abbrev s_l_is_out : Stmt := topS 22
theorem sc_l_is_out : FnScope ["_law_made", "_law_at", "_law_found", "e"] ["_law_made", "_law_at"] (defScope s_l_is_out) := ⟨rfl, rfl, rfl, by decide +kernel, rfl, by decide +kernel, by decide +kernel⟩
abbrev s_law : Stmt := topS 23
theorem sc_law : FnScope ["_law_script", "_law_k", "_law_box_here", "_law_before", "_law_turn", "_law_events_here", "_law_handed", "_law_made", "_law_text", "_law_at", "_law_kept", "_law_held", "_law_event", "_law_part"] ["_law_script"] (defScope s_law) := ⟨rfl, rfl, rfl, by decide +kernel, rfl, by decide +kernel, by decide +kernel⟩
structure Tx (W0 : World) (K : PySem.W.Frag) (mg : Str → Option Value) where
  range : mg "range" = none
  max : mg "max" = none
  min : mg "min" = none
  list : mg "list" = none
  len : mg "len" = none
  str : mg "str" = none
  tuple : mg "tuple" = none
  abs : mg "abs" = none
  int : mg "int" = none
  isinstance : mg "isinstance" = none
  enumerate : mg "enumerate" = none
  bool : mg "bool" = none
  C_Day : Addr
  c_Day : ClsT K mg C_Day "Day"
  na_Day_events : NoAttr K C_Day "events"
  C_SeatError : Addr
  ge_SeatError : mg "SeatError" = some (.ref C_SeatError)
  C_InvalidDay : Addr
  ge_InvalidDay : mg "InvalidDay" = some (.ref C_InvalidDay)
  C_InvalidText : Addr
  ge_InvalidText : mg "InvalidText" = some (.ref C_InvalidText)
  xo_InvalidDay : OexC K C_InvalidDay
  xf_InvalidDay : XfC K C_InvalidDay
  xc_InvalidDay : ExcC K C_InvalidDay
  xn_InvalidDay : PySem.W.findIn K (.ref C_InvalidDay) "at" = some none
  xm_InvalidDay : PySem.W.exmOne K (.ref C_InvalidDay) (.ref C_InvalidDay) = some true
  kit_InvalidDay_SeatError : PySem.W.kitOne K (.ref C_InvalidDay) (.ref C_SeatError) = some true
  kit_InvalidDay_InvalidText : PySem.W.kitOne K (.ref C_InvalidDay) (.ref C_InvalidText) = some false
  f_is_integer_from : Addr
  d_is_integer_from : FuncData
  F_is_integer_from : Fun K "is_integer_from" "is_integer_from" s_is_integer_from f_is_integer_from d_is_integer_from
  b_is_integer_from : Binds K d_is_integer_from ["value", "least"] []
  g_is_integer_from : mg "is_integer_from" = some (.ref f_is_integer_from)
  f_is_sequence : Addr
  d_is_sequence : FuncData
  F_is_sequence : Fun K "is_sequence" "is_sequence" s_is_sequence f_is_sequence d_is_sequence
  b_is_sequence : Binds K d_is_sequence ["value"] []
  g_is_sequence : mg "is_sequence" = some (.ref f_is_sequence)
  f_InvalidDay_init : Addr
  d_InvalidDay_init : FuncData
  F_InvalidDay_init : Fun K "__init__" "InvalidDay.__init__" s_InvalidDay_init f_InvalidDay_init d_InvalidDay_init
  b_InvalidDay_init : Binds K d_InvalidDay_init ["self", "at"] []
  xi_InvalidDay : PySem.W.findIn K (.ref C_InvalidDay) "__init__" = some (some (.ref f_InvalidDay_init))
  xt_InvalidDay : PySem.W.typeIn K (.ref f_InvalidDay_init) = some (.type "function")
  f_is_event : Addr
  d_is_event : FuncData
  F_is_event : Fun K "is_event" "is_event" s_is_event f_is_event d_is_event
  b_is_event : Binds K d_is_event ["value"] []
  g_is_event : mg "is_event" = some (.ref f_is_event)
  f_first_wrong : Addr
  d_first_wrong : FuncData
  F_first_wrong : Fun K "first_wrong" "first_wrong" s_first_wrong f_first_wrong d_first_wrong
  b_first_wrong : Binds K d_first_wrong ["values"] []
  g_first_wrong : mg "first_wrong" = some (.ref f_first_wrong)
  f_event_text : Addr
  d_event_text : FuncData
  F_event_text : Fun K "event_text" "event_text" s_event_text f_event_text d_event_text
  b_event_text : Binds K d_event_text ["event"] []
  g_event_text : mg "event_text" = some (.ref f_event_text)
  f_Day_init : Addr
  d_Day_init : FuncData
  e_Day_init : Addr
  es_Day_init : ∀ H : Hp, SqT K H e_Day_init []
  el_Day_init : ∃ o, K.lookup e_Day_init = some o ∧ o.cls = .type "tuple"
  F_Day_init : FunD K "__init__" "Day.__init__" (defArgs s_Day_init) (defBody s_Day_init) (defScope s_Day_init) [.ref e_Day_init] [] f_Day_init d_Day_init
  b_Day_init : Binds K d_Day_init ["self", "events"] []
  bd_Day_init : ∃ ds, Vals [.ref e_Day_init] ds ∧ Binds K d_Day_init ["self", "events"] ds
  mk_Day : Mk K C_Day f_Day_init
  f_Day_len : Addr
  d_Day_len : FuncData
  F_Day_len : Fun K "__len__" "Day.__len__" s_Day_len f_Day_len d_Day_len
  b_Day_len : Binds K d_Day_len ["self"] []
  i_Day_len : PySem.W.findIn K (.ref C_Day) "__len__" = some (some (.ref f_Day_len))
  j_Day_len : PySem.W.isFn K (.ref f_Day_len) = true
  f_Day_getitem : Addr
  d_Day_getitem : FuncData
  F_Day_getitem : Fun K "__getitem__" "Day.__getitem__" s_Day_getitem f_Day_getitem d_Day_getitem
  b_Day_getitem : Binds K d_Day_getitem ["self", "at"] []
  i_Day_getitem : PySem.W.findIn K (.ref C_Day) "__getitem__" = some (some (.ref f_Day_getitem))
  j_Day_getitem : PySem.W.isFn K (.ref f_Day_getitem) = true
  f_Day_add : Addr
  d_Day_add : FuncData
  F_Day_add : Fun K "__add__" "Day.__add__" s_Day_add f_Day_add d_Day_add
  b_Day_add : Binds K d_Day_add ["self", "other"] []
  i_Day_add : PySem.W.findIn K (.ref C_Day) "__add__" = some (some (.ref f_Day_add))
  j_Day_add : PySem.W.isFn K (.ref f_Day_add) = true
  f_Day_eq : Addr
  d_Day_eq : FuncData
  F_Day_eq : Fun K "__eq__" "Day.__eq__" s_Day_eq f_Day_eq d_Day_eq
  b_Day_eq : Binds K d_Day_eq ["self", "other"] []
  i_Day_eq : PySem.W.findIn K (.ref C_Day) "__eq__" = some (some (.ref f_Day_eq))
  j_Day_eq : PySem.W.isFn K (.ref f_Day_eq) = true
  i_Day_ne : PySem.W.findIn K (.ref C_Day) "__ne__" = some (some (.builtin "object.__ne__"))
  f_Day_str : Addr
  d_Day_str : FuncData
  F_Day_str : Fun K "__str__" "Day.__str__" s_Day_str f_Day_str d_Day_str
  b_Day_str : Binds K d_Day_str ["self"] []
  i_Day_str : PySem.W.findIn K (.ref C_Day) "__str__" = some (some (.ref f_Day_str))
  j_Day_str : PySem.W.isFn K (.ref f_Day_str) = true
  f_l_box : Addr
  d_l_box : FuncData
  F_l_box : Fun K "_law_box" "_law_box" s_l_box f_l_box d_l_box
  b_l_box : Binds K d_l_box ["_law_script", "_law_k", "_law_own"] []
  g_l_box : mg "_law_box" = some (.ref f_l_box)
  f_l_take : Addr
  d_l_take : FuncData
  F_l_take : Fun K "_law_take" "_law_take" s_l_take f_l_take d_l_take
  b_l_take : Binds K d_l_take ["_law_box_here", "_law_bound"] []
  g_l_take : mg "_law_take" = some (.ref f_l_take)
  f_l_pick : Addr
  d_l_pick : FuncData
  F_l_pick : Fun K "_law_pick" "_law_pick" s_l_pick f_l_pick d_l_pick
  b_l_pick : Binds K d_l_pick ["_law_box_here", "_law_items"] []
  g_l_pick : mg "_law_pick" = some (.ref f_l_pick)
  f_l_events : Addr
  d_l_events : FuncData
  F_l_events : Fun K "_law_events" "_law_events" s_l_events f_l_events d_l_events
  b_l_events : Binds K d_l_events ["_law_box_here", "_law_many"] []
  g_l_events : mg "_law_events" = some (.ref f_l_events)
  f_l_is_out : Addr
  d_l_is_out : FuncData
  F_l_is_out : Fun K "_law_is_out" "_law_is_out" s_l_is_out f_l_is_out d_l_is_out
  b_l_is_out : Binds K d_l_is_out ["_law_made", "_law_at"] []
  g_l_is_out : mg "_law_is_out" = some (.ref f_l_is_out)
  f_law : Addr
  d_law : FuncData
  F_law : Fun K "law" "law" s_law f_law d_law
  b_law : Binds K d_law ["_law_script"] []
  g_law : mg "law" = some (.ref f_law)
  a_PASS : Addr
  g_PASS : mg "PASS" = some (.ref a_PASS)
  s_PASS : ∀ H : Hp, SqT K H a_PASS [.str "pass"]
  a_USER_WORDS : Addr
  g_USER_WORDS : mg "USER_WORDS" = some (.ref a_USER_WORDS)
  s_USER_WORDS : ∀ H : Hp, SqT K H a_USER_WORDS [.str "borrow", .str "word", .str "back", .str "crash", .str "stop", .str "cut", .str "join"]
  nf_str : PySem.W.notFirst K C_Day (.type "str") = true
  nf_tup : PySem.W.notFirst K C_Day (.type "tuple") = true
  ks_Day : PySem.W.kitOne K (.type "str") (.ref C_Day) = some false
  kt_Day : PySem.W.kitOne K (.type "tuple") (.ref C_Day) = some false
  sf_Day : PySem.W.selfFirst K C_Day = true
  fi_Day_getitem : PySem.W.fnIn K f_Day_getitem = true
  mi_Day : ((PySem.W.clsIn K C_Day).any fun cd => cd.mro == [.ref C_Day, .type "object"]) = true
  ii_Day : PySem.W.findIn K (.ref C_Day) "__iadd__" = some none
end My
set_option Elab.async false
set_option linter.all false
set_option maxRecDepth 100000
set_option maxHeartbeats 800000
namespace My
open PySem PySem.Spec PyProof.Rows L2 RZ SkE CL OW
def spIntFrom : Sp := fun vs H Q _ => ∃ (x : V) (l : Int), vs = [x, .int l] ∧ AnyV H x ∧ Q (.bl (intFrom x l)) H
theorem ask_intfrom {x : V} {l : Int} {H : Hp} {Q : VK} {E : XK} (h : AnyV H x) (q : Q (.bl (intFrom x l)) H) : Ask (spIntFrom ([x, .int l] ++ []) H Q E) := ⟨x, l, rfl, h, q⟩
section
variable (P : Program) (W0 : World) {K : PySem.W.Frag} {mg : Str → Option Value} (base : Heap)
set_option hygiene false in
local macro_rules | `(tactic| walk_at "ask") => `(tactic| first
  | fail)
theorem G_is_integer_from (T : Tx W0 K mg) : FnOk P W0 K mg base CX0 1 T.f_is_integer_from T.d_is_integer_from ["value", "least"] spIntFrom := by
  refine T.F_is_integer_from.ok sc_is_integer_from (fun vs H Q E h => ?_) (fun cdv A outer s H vs Q E hr h => ?_)
  · obtain ⟨x, l, rfl, _⟩ := h
    rfl
  · obtain ⟨x, l, rfl, hx, q⟩ := h
    refine ⟨_, (pss_one (ps_ret (e_and (pe_callB k_isi (by rfl) T.isinstance (by decide +kernel) (pa_cons (c_var 0) (pa_cons (pe_bltn (v := .ty "int") (by rfl) T.int (by decide +kernel) rfl) pa_nil))) (e_and (e_not (pe_callB k_isi (by rfl) T.isinstance (by decide +kernel) (pa_cons (c_var 0) (pa_cons (pe_bltn (v := .ty "bool") (by rfl) T.bool (by decide +kernel) rfl) pa_nil)))) (pe_one (pe_cmpR c_ge (c_var 0) (c_var 1) (nomark _))))))), ?_⟩
    cases hx with
    | non => walk_at "go"; exact q
    | bl b => walk_at "go"; exact q
    | int i => walk_at "go"; exact q
    | str z => walk_at "go"; exact q
    | lst e =>
      (conv => whnf)
      refine IsI.mk ⟨_, _, .base (.lst e), (by walk_at "kit"), ?_⟩
      walk_at "go"
      exact q
    | tup e =>
      (conv => whnf)
      refine IsI.mk ⟨_, _, .base (.tup e), (by walk_at "kit"), ?_⟩
      walk_at "go"
      exact q
end
end My
set_option Elab.async false
set_option linter.all false
set_option maxRecDepth 100000
set_option maxHeartbeats 800000
namespace My
open PySem PySem.Spec PyProof.Rows L2 RZ SkE CL OW
section
variable (P : Program) (W0 : World) {K : PySem.W.Frag} {mg : Str → Option Value} (base : Heap)
theorem G_InvalidDay_init (T : Tx W0 K mg) : FnOk P W0 K mg base CX0 1 T.f_InvalidDay_init T.d_InvalidDay_init ["self", "at"] (spXI T.C_InvalidDay "at") :=
  init_x T.F_InvalidDay_init sc_InvalidDay_init T.xo_InvalidDay T.xn_InvalidDay (fun _ _ _ _ _ _ => pss_one (ps_ost (pv 0) (pv 1)))
end
end My
set_option Elab.async false
set_option linter.all false
set_option maxRecDepth 100000
set_option maxHeartbeats 800000
namespace My
open PySem PySem.Spec PyProof.Rows L2 RZ SkE CL OW
theorem wd_memK (w : Wd) : inV (.str w.s) [.str "borrow", .str "word", .str "back", .str "crash", .str "stop", .str "cut", .str "join"] = true := by cases w <;> decide +kernel
theorem ev_isPassK (e : Ev) : PyData.eqv e.d (.tuple [.str "pass"]) = (match e with | .pass => true | .on _ _ => false) := by
  cases e with
  | pass => decide +kernel
  | on w u => cases w <;> rfl
theorem evk_at {K : PySem.W.Frag} {H : Hp} {v : V} {e : Ev} (h : IDk K H v e.d) : ∃ a, v = .ref a ∧ (H a = some (.tup (match e with | .pass => [.str "pass"] | .on w u => [.str w.s, .int u])) ∨ ∀ H', SqT K H' a (match e with | .pass => [.str "pass"] | .on w u => [.str w.s, .int u])) := by
  cases e with
  | pass =>
    cases h with
    | tup h g => cases g with | cons a g => cases g; cases a; exact ⟨_, rfl, h⟩
  | on w u =>
    cases h with
    | tup h g =>
      cases g with
      | cons a g => cases g with | cons b g => cases g; cases a; cases b; exact ⟨_, rfl, h⟩
def spSeqK (K : PySem.W.Frag) : Sp := fun vs H Q _ => ∃ (x : V) (L : List Ck) (I : List (Hp → Prop)), vs = [x] ∧ Own H L I ∧ (∀ R H', Own H' (R ++ L) I → SeqB K H' x true) ∧ ∀ H', Own H' L I → Q (.bl true) H'
theorem ask_seqK {K : PySem.W.Frag} {x : V} {H : Hp} {Q : VK} {E : XK} {L : List Ck} {I : List (Hp → Prop)} (h : Own H L I) (s : ∀ R H', Own H' (R ++ L) I → SeqB K H' x true) (q : ∀ H', Own H' L I → Q (.bl true) H') : Ask (spSeqK K ([x] ++ []) H Q E) := ⟨x, L, I, rfl, h, s, q⟩
theorem stayK_seq {K : PySem.W.Frag} {H : Hp} {a : Addr} {xs : List V} (h : H a = some (.tup xs) ∨ ∀ H', SqT K H' a xs) : SeqB K H (.ref a) true := by
  rcases h with h | h
  · exact .tup h
  · rcases h (fun _ => none) with (z | ⟨_, z⟩) | ⟨_, _, _, z, co, _⟩
    · cases z
    · cases z
    · exact .oth (.kTuple z co) (kitAny_cons kit_tuple_list (fun _ => kitAny_cons kit_tuple_tuple (fun z => by cases z) (fun _ => rfl)) (fun z => by cases z))
theorem seqa_seq {K : PySem.W.Frag} {k : Bool} {L : List Ck} {I : List (Hp → Prop)} {a : Addr} {xs : List V} (s : SeqA K k L I a xs) (R : List Ck) (H' : Hp) (w : Own H' (R ++ L) I) : SeqB K H' (.ref a) true := by
  cases k with
  | true => obtain ⟨R2, p⟩ := s; exact .lst (w.get (pull_app p R))
  | false => exact stayK_seq (w.imp s)
theorem isi_stay {K : PySem.W.Frag} {H : Hp} {a : Addr} {xs : List V} {k : Bool → Prop} (h : H a = some (.tup xs) ∨ ∀ H', SqT K H' a xs) (q : k true) : IsI K H (.ref a) (.type "tuple") k := by
  rcases h with h | h
  · exact IsI.mk ⟨_, _, .base (.tup h), kit_tuple_tuple, q⟩
  · rcases h (fun _ => none) with (z | ⟨_, z⟩) | ⟨_, _, _, z, co, _⟩
    · cases z
    · cases z
    · exact IsI.mk ⟨_, _, .kTuple z co, kit_tuple_tuple, q⟩
def spEvK (K : PySem.W.Frag) : Sp := fun vs H Q _ => ∃ (x : V) (e : Ev) (L : List Ck) (I : List (Hp → Prop)), vs = [x] ∧ Own H L I ∧ IDk K H x e.d ∧ evU e ∧ Q (.bl true) H
theorem ask_evK {K : PySem.W.Frag} {x : V} {e : Ev} {H : Hp} {Q : VK} {E : XK} {L : List Ck} {I : List (Hp → Prop)} (h : Own H L I) (d : IDk K H x e.d) (u : evU e) (q : Q (.bl true) H) : Ask (spEvK K ([x] ++ []) H Q E) := ⟨x, e, L, I, rfl, h, d, u, q⟩
def spFWK (K : PySem.W.Frag) : Sp := fun vs H Q _ => ∃ (k : Bool) (a : Addr) (xs : List V) (es : List Ev) (L : List Ck) (I : List (Hp → Prop)), vs = [.ref a] ∧ Own H L I ∧ SeqA K k L I a xs ∧ ksI K xs (es.map Ev.d) ∈ I ∧ (∀ e ∈ es, evU e) ∧ ∀ H', Own H' L I → Q .non H'
theorem ask_fwK {K : PySem.W.Frag} {k : Bool} {a : Addr} {xs : List V} {es : List Ev} {H : Hp} {Q : VK} {E : XK} {L : List Ck} {I : List (Hp → Prop)} (h : Own H L I) (s : SeqA K k L I a xs) (d : ksI K xs (es.map Ev.d) ∈ I) (u : ∀ e ∈ es, evU e) (q : ∀ H', Own H' L I → Q .non H') : Ask (spFWK K ([.ref a] ++ []) H Q E) := ⟨k, a, xs, es, L, I, rfl, h, s, d, u, q⟩
def spDayV (K : PySem.W.Frag) (C : Addr) : Sp := fun vs H Q _ => ∃ (k : Bool) (p dx a : Addr) (xs : List V) (es : List Ev) (L : List Ck) (I : List (Hp → Prop)), vs = [.ref p, .ref a] ∧ Own H (.pt p (.ins C dx []) :: L) I ∧ SeqA K k (.pt p (.ins C dx []) :: L) I a xs ∧ ksI K xs (es.map Ev.d) ∈ I ∧ (∀ e ∈ es, evU e) ∧ ∀ H', Own H' L (dvI K C p xs :: I) → Q .non H'
theorem ask_dayV {K : PySem.W.Frag} {C a : Addr} {k0 : Bool} {xs : List V} {es : List Ev} {H : Hp} {k : Addr → Hp → Prop} {E : XK} {L : List Ck} {I : List (Hp → Prop)} {vs : List V} (hvs : vs = [.ref a]) (h : Own H L I) (s : SeqA K k0 L I a xs) (d : ksI K xs (es.map Ev.d) ∈ I) (u : ∀ e ∈ es, evU e) (q : ∀ r H', Own H' L (dvI K C r xs :: I) → k r H') :
    Ask (∀ y dx, H y = none → H dx = none → dx ≠ y → spDayV K C (.ref y :: vs) (upd (upd H dx (.own y)) y (.ins C dx [])) (fun v H2 => v = .non ∧ k y H2) E) := by
  subst hvs
  exact ⟨make_o (k := fun y H' => spDayV K C (.ref y :: [.ref a]) H' (fun v H2 => v = .non ∧ k y H2) E) h fun y dx H' w => ⟨k0, y, dx, a, xs, es, L, I, rfl, w, s.tail, d, u, fun H2 w2 => ⟨rfl, q y H2 w2⟩⟩⟩
section
variable (P : Program) (W0 : World) {K : PySem.W.Frag} {mg : Str → Option Value} (base : Heap)
set_option hygiene false in
local macro_rules | `(tactic| walk_at "cls") => `(tactic| first | exact T.c_Day.cl | exact T.na_Day_events)
set_option hygiene false in
local macro_rules | `(tactic| walk_at "seq") => `(tactic| first | exact T.s_PASS _ | exact T.s_USER_WORDS _ | exact stay_sq (by assumption) (by walk_at "mem"))
local macro_rules | `(tactic| walk_at "len") => `(tactic| first | assumption | omega | exact ⟨rfl, by decide⟩)
set_option hygiene false in
local macro_rules | `(tactic| walk_at "ask") => `(tactic| first
  | fail)
theorem G_is_sequence (T : Tx W0 K mg) : FnOk P W0 K mg base CX0 1 T.f_is_sequence T.d_is_sequence ["value"] (spSeqK K) := by
  refine T.F_is_sequence.ok sc_is_sequence (fun vs H Q E h => ?_) (fun cdv A outer s H vs Q E hr h => ?_)
  · obtain ⟨x, L, I, rfl, _⟩ := h
    rfl
  · obtain ⟨x, L, I, rfl, hO, hs, q⟩ := h
    refine ⟨_, (pss_one (ps_ret (pe_callB k_isi (by rfl) T.isinstance (by decide +kernel) (pa_cons (c_var 0) (pa_cons (e_tup (pa_cons (pe_bltn (v := .ty "list") (by rfl) T.list (by decide +kernel) rfl) (pa_cons (pe_bltn (v := .ty "tuple") (by rfl) T.tuple (by decide +kernel) rfl) pa_nil))) pa_nil))))), ?_⟩
    walk_at "go"
    exact IsR.mk (.inr (kitLT (hs [.pt pp _] _ w) w.hd (q _ w.tl)).ex)
theorem G_is_event (T : Tx W0 K mg) : FnOk P W0 K mg base CX0 2 T.f_is_event T.d_is_event ["value"] (spEvK K) := by
  refine T.F_is_event.ok sc_is_event (fun vs H Q E h => ?_) (fun cdv A outer s H vs Q E hr h => ?_)
  · obtain ⟨x, e, L, I, rfl, _⟩ := h
    rfl
  · obtain ⟨x, e, L, I, rfl, hO, hd, hu, q⟩ := h
    have hu64 := Room.units hr
    have hu65 := room65 hr
    refine ⟨_, (pss_cons (s_if (t_not (t_truth (pe_callB k_isi (by rfl) T.isinstance (by decide +kernel) (pa_cons (c_var 0) (pa_cons (pe_bltn (v := .ty "tuple") (by rfl) T.tuple (by decide +kernel) rfl) pa_nil))) (fun _ => rfl))) (pss_one (ps_ret pe_bl)) pss_nil)
    (pss_cons (s_if (t_cmp (c_ne hu64) (pe_callB k_len (by rfl) T.len PySem.boot_len (pa_cons (c_var 0) pa_nil)) pe_int (nomark _)) (pss_one (ps_ret (pe_cmpR (c_eq hu64) (c_var 0) (pe_glob (v := .ref _) (by rfl) T.g_PASS rfl) (nomark _)))) pss_nil)
    (pss_cons (ps_asg (c_var 0) (g_tup (by rfl) (g_cons (pg_name (i := 1) sc_is_event.nd rfl (Or.inl rfl)) (g_cons (pg_name (i := 2) sc_is_event.nd rfl (Or.inl rfl)) g_nil))))
    (pss_one (ps_ret (e_and (pe_cmpR c_in (c_var 1) (pe_glob (v := .ref _) (by rfl) T.g_USER_WORDS rfl) (by with_unfolding_all rfl)) (pe_one (e_call (G_is_integer_from P W0 base T) (hr.mono (by decide)) (by rfl) T.g_is_integer_from T.F_is_integer_from.kp T.b_is_integer_from .nil pass0 (pa_cons (c_var 2) (pa_cons pe_int pa_nil)))))))))), ?_⟩
    obtain ⟨a, rfl, ha⟩ := evk_at hd
    have w := hO.addI stable_stay ha
    (conv => whnf)
    refine isi_stay ha ?_
    cases e with
    | pass =>
      walk_at "go"
      refine eqd_mk (IDk.dp _ _ hd) (.tup (T.s_PASS _) (.cons (.str _) .nil)) (by decide +kernel) (by decide +kernel) ?_
      walk_at "go"
      exact cast (congrArg (fun b => Q (V.bl b) H) (by rw [if_neg (by decide)]; exact (ev_isPassK .pass).symm)) q
    | on wd u =>
      walk_at "go"
      refine br_t (by rw [if_neg (by decide)]; exact wd_memK wd) ?_
      walk_at "go"
      refine ask_intfrom (.int _) ?_
      rw [show intFrom (.int u) 0 = true from decide_eq_true hu.1]
      walk_at "go"
      exact q
theorem G_first_wrong (T : Tx W0 K mg) : FnOk P W0 K mg base CX0 3 T.f_first_wrong T.d_first_wrong ["values"] (spFWK K) := by
  refine T.F_first_wrong.ok sc_first_wrong (fun vs H Q E h => ?_) (fun cdv A outer s H vs Q E hr h => ?_)
  · obtain ⟨k, a, xs, es, L, I, rfl, _⟩ := h
    rfl
  · obtain ⟨k, a, xs, es, L, I, rfl, hO, hs, hd, hu, q⟩ := h
    refine ⟨_, (pss_cons (s_for PassesOwn.never (by rfl) (i_enumA (K := K) rfl (by rfl) T.enumerate (pa_cons (c_var 0) pa_nil)) (g_tup (by rfl) (g_cons (pg_name (i := 1) sc_first_wrong.nd rfl (Or.inl rfl)) (g_cons (pg_name (i := 2) sc_first_wrong.nd rfl (Or.inl rfl)) g_nil))) (pss_one (s_if (t_not (t_truth (e_call (G_is_event P W0 base T) (hr.mono (by decide)) (by rfl) T.g_is_event T.F_is_event.kp T.b_is_event .nil pass0 (pa_cons (c_var 2) pa_nil)) (fun _ => rfl))) (pss_one (ps_ret (c_var 1))) pss_nil)))
    (pss_one (ps_ret pe_non))), ?_⟩
    walk_at "go"
    refine seqa_enum hO hs (fun i σ H' => ∃ v1 v2 : Option V, σ = [some (.ref a), v1, v2] ∧ Own H' L I) ⟨_, _, rfl, hO⟩ (fun i σ H' ⟨_, _, _, e⟩ => ⟨_, _, e, hs⟩) ?_ ?_
    · rintro i x tq σ H1 hx ⟨v1, v2, rfl, e⟩ htq
      have e := e.new (o := .tup [.int (i : Nat), x]) htq
      obtain ⟨ev, hev, hi⟩ := IDkAll.atF (e.imp hd) hx
      walk_at "go"
      refine ask_evK e hi (hu ev (List.mem_of_getElem? hev)) ?_
      walk_at "go"
      exact ⟨_, _, rfl, by walk_at "own"⟩
    · rintro σ H1 ⟨v1, v2, rfl, e⟩
      walk_at "go"
      exact q _ e
theorem G_Day_init (T : Tx W0 K mg) : FnOk P W0 K mg base CX0 4 T.f_Day_init T.d_Day_init ["self", "events"] (spDayV K T.C_Day) := by
  refine T.F_Day_init.ok sc_Day_init (fun vs H Q E h => ?_) (fun cdv A outer s H vs Q E hr h => ?_)
  · obtain ⟨k, p, dx, a, xs, es, L, I, rfl, _⟩ := h
    rfl
  · obtain ⟨k, p, dx, a, xs, es, L, I, rfl, hO, hs, hd, hu, q⟩ := h
    have hu64 := Room.units hr
    refine ⟨_, PSs.nox (pss_cons (s_if (t_not (t_truth (e_call (G_is_sequence P W0 base T) (hr.mono (by decide)) (by rfl) T.g_is_sequence T.F_is_sequence.kp T.b_is_sequence .nil pass0 (pa_cons (c_var 1) pa_nil)) (fun _ => rfl))) (pss_one ps_never) pss_nil)
    (pss_cons (ps_set (i := 2) sc_Day_init.nd rfl (Or.inl rfl) (e_call (G_first_wrong P W0 base T) (hr.mono (by decide)) (by rfl) T.g_first_wrong T.F_first_wrong.kp T.b_first_wrong .nil pass0 (pa_cons (c_var 1) pa_nil)))
    (pss_cons (s_if (t_cmp c_isnotG (c_var 2) pe_non (nomark _)) (pss_one ps_never) pss_nil)
    (pss_one (s_fld (c_var 0) (pe_callTy k_tuple (by rfl) T.tuple (by decide +kernel) (pa_cons (c_var 1) pa_nil))))))), ?_⟩
    (conv => whnf)
    refine ask_seqK hO (seqa_seq hs) (fun H1 w => ?_)
    walk_at "go"
    refine ask_fwK w hs hd hu (fun H2 w => ?_)
    walk_at "go"
    cases k with
    | true =>
      obtain ⟨R, pl⟩ := hs
      refine tupr_l w pl (fun t H3 w => ?_)
      walk_at "go"
      have w := w.addI (S := dvI K T.C_Day p xs) stable_dv ⟨dx, t, w.hd, .inl (w.get (by walk_at "pull" : Pull _ (Ck.pt t (.tup xs)) _))⟩
      exact q _ (by walk_at "own")
    | false =>
      refine TupR.mk ⟨xs, .inr ⟨stay_sq w hs, ?_⟩⟩
      walk_at "go"
      have w := w.addI (S := dvI K T.C_Day p xs) stable_dv ⟨dx, _, w.hd, w.imp hs⟩
      exact q _ (by walk_at "own")
end
end My
set_option Elab.async false
set_option linter.all false
set_option maxRecDepth 100000
set_option maxHeartbeats 800000
namespace My
open PySem PySem.Spec PyProof.Rows L2 RZ SkE CL OW
def spEvTx (K : PySem.W.Frag) : Sp := fun vs H Q _ => ∃ (x : V) (e : Ev) (L : List Ck) (I : List (Hp → Prop)), vs = [x] ∧ Own H L I ∧ IDk K H x e.d ∧ evU2 e ∧ ∀ H', Own H' L I → Q (.str (evT e)) H'
theorem ask_evtx {K : PySem.W.Frag} {x : V} {e : Ev} {H : Hp} {Q : VK} {E : XK} {L : List Ck} {I : List (Hp → Prop)} (h : Own H L I) (d : IDk K H x e.d) (u : evU2 e) (q : ∀ H', Own H' L I → Q (.str (evT e)) H') : Ask (spEvTx K ([x] ++ []) H Q E) := ⟨x, e, L, I, rfl, h, d, u, q⟩
section
variable (P : Program) (W0 : World) {K : PySem.W.Frag} {mg : Str → Option Value} (base : Heap)
set_option hygiene false in
local macro_rules | `(tactic| walk_at "seq") => `(tactic| first | exact T.s_PASS _ | exact T.s_USER_WORDS _ | exact stay_sq (by assumption) (by walk_at "mem"))
local macro_rules | `(tactic| walk_at "len") => `(tactic| first | assumption | omega | exact ⟨rfl, by decide⟩)
set_option hygiene false in
local macro_rules | `(tactic| walk_at "ask") => `(tactic| first
  | fail)
theorem G_event_text (T : Tx W0 K mg) : FnOk P W0 K mg base CX0 1 T.f_event_text T.d_event_text ["event"] (spEvTx K) := by
  refine T.F_event_text.ok sc_event_text (fun vs H Q E h => ?_) (fun cdv A outer s H vs Q E hr h => ?_)
  · obtain ⟨x, e, L, I, rfl, _⟩ := h
    rfl
  · obtain ⟨x, e, L, I, rfl, hO, hd, hu, q⟩ := h
    have hu64 := Room.units hr
    have sl := sizeLine_eq
    refine ⟨_, (pss_one (ps_ret (e_join pe_str (e_lc (own := [("part", 1)]) (by rfl) sc_event_text.nd (i_val (c_var 0)) (blkOk_by (own := [("part", 1)]) (N := ["event", "part"]) (sc := defScope s_event_text) (by decide +kernel)) (fun _ _ _ _ _ => (pg_name (i := 1) sc_event_text.nd rfl (Or.inl rfl))) (fun _ _ _ _ _ => pts_nil) (fun _ _ _ _ _ => (pe_callTy k_str (by rfl) T.str (by decide +kernel) (pa_cons (c_var 1) pa_nil))))))), ?_⟩
    obtain ⟨a, rfl, ha⟩ := evk_at hd
    have w := hO.addI stable_stay ha
    walk_at "go"
    refine newa_o w (fun y w => ?_)
    cases e with
    | pass =>
      refine la_tup (xs := [.str "pass"]) (fun i H' => Own H' (.pt y (.lst ((([("pass" : Str)]).take i).map V.str)) :: L) (stayI K a [.str "pass"] :: I)) w (fun i H' _ e => stay_sq e List.mem_cons_self) ?_ ?_
      · rintro i x H1 hx w
        have hi : i < 1 := lt_get hx
        obtain rfl : i = 0 := by omega
        cases hx
        walk_at "go"
        exact w
      · rintro H1 w
        walk_at "go"
        refine Join.mk ⟨["pass"], .inl (SqL.of (w.get (by walk_at "pull" : Pull _ (Ck.pt y _) _))), by decide +kernel, ?_⟩
        rw [show Txt.join (" " : Str) (["pass"] : List Str) = evT .pass by rw [TL.join_eq]; rfl]
        exact q _ (Own.subI (Own.pick w (by walk_at "pick")) (by walk_at "subi"))
    | on wd u =>
      have hu2 : 0 ≤ u ∧ u < 100 := hu
      have sl2 := sh_len (n := u) (k := 2) hu2.1 (by decide) (by omega)
      have wl : wd.s.length ≤ 6 := by cases wd <;> decide +kernel
      refine la_tup (xs := [.str wd.s, .int u]) (fun i H' => Own H' (.pt y (.lst ((([wd.s, shN u] : List Str).take i).map V.str)) :: L) (stayI K a [.str wd.s, .int u] :: I)) w (fun i H' _ e => stay_sq e List.mem_cons_self) ?_ ?_
      · rintro i x H1 hx w
        have hi : i < 2 := lt_get hx
        have hi2 : i = 0 ∨ i = 1 := by omega
        rcases hi2 with rfl | rfl
        · cases hx
          walk_at "go"
          exact w
        · cases hx
          walk_at "go"
          refine Chk.mk (log_of2 (by omega)) ?_
          walk_at "go"
          exact w
      · rintro H1 w
        walk_at "go"
        refine Join.mk ⟨[wd.s, shN u], .inl (SqL.of (w.get (by walk_at "pull" : Pull _ (Ck.pt y _) _))), ?_, ?_⟩
        · show wd.s.length + ((shN u).length + 0) + 2 * Str.length " " ≤ 16777216
          rw [show Str.length " " = 1 by decide +kernel]
          omega
        rw [show Txt.join (" " : Str) ([wd.s, shN u] : List Str) = evT (.on wd u) by rw [TL.join_eq]; rfl]
        exact q _ (Own.subI (Own.pick w (by walk_at "pick")) (by walk_at "subi"))
end
end My
set_option Elab.async false
set_option linter.all false
set_option maxRecDepth 100000
set_option maxHeartbeats 800000
namespace My
open PySem PySem.Spec PyProof.Rows L2 RZ SkE CL OW
theorem evT_len {e : Ev} (h : evU2 e) : (evT e).length ≤ 9 := by
  cases e with
  | pass => decide +kernel
  | on w u =>
    have h : 0 ≤ u ∧ u < 100 := h
    have a := sh_len (n := u) (k := 2) h.1 (by decide) (by omega)
    have b : w.s.length ≤ 6 := by cases w <;> decide +kernel
    show (Str.join " " [w.s, shN u]).length ≤ 9
    rw [TL.len_tl, TL.tl_join]
    show (TL.joinL (TL.tl " ") [TL.tl w.s, TL.tl (shN u)]).length ≤ 9
    rw [sp_tl]
    show (TL.tl w.s ++ ([32] ++ TL.tl (shN u))).length ≤ 9
    rw [List.length_append, List.length_append, ← TL.len_tl, ← TL.len_tl, List.length_singleton]
    omega
theorem evT_sum : ∀ {es : List Ev}, (∀ e ∈ es, evU2 e) → ((es.map evT).map (·.length)).sum ≤ 9 * es.length
  | [], _ => Nat.zero_le _
  | e :: es, h => by
    have := evT_sum fun x m => h x (List.mem_cons_of_mem e m)
    have := evT_len (h e List.mem_cons_self)
    simp only [List.map_cons, List.sum_cons, List.length_cons] at *
    omega
def spDStr (K : PySem.W.Frag) (C : Addr) : Sp := fun vs H Q _ => ∃ (r : Addr) (xs : List V) (es : List Ev) (L : List Ck) (I : List (Hp → Prop)), vs = [.ref r] ∧ Own H L I ∧ dvI K C r xs ∈ I ∧ ksI K xs (es.map Ev.d) ∈ I ∧ (∀ e ∈ es, evU2 e) ∧ es.length ≤ 1000 ∧ ∀ H', Own H' L I → Q (.str (dayT es)) H'
theorem owns_day {K : PySem.W.Frag} {C r : Addr} {xs : List V} {es : List Ev} {H : Hp} {Q : VK} {E : XK} {L : List Ck} {I : List (Hp → Prop)} (h : Own H L I) (p : dvI K C r xs ∈ I) (d : ksI K xs (es.map Ev.d) ∈ I) (u : ∀ e ∈ es, evU2 e) (n : es.length ≤ 1000) (q : ∀ H', Own H' L I → Q (.str (dayT es)) H') : OwnS C (spDStr K C) E r H Q := by
  obtain ⟨dx, t, w, _⟩ := h.imp p
  exact ⟨dx, _, w, r, xs, es, L, I, rfl, h, p, d, u, n, q⟩
def spDEq (K : PySem.W.Frag) (C : Addr) : Sp := fun vs H Q _ => ∃ (a : Addr) (y : V) (xs : List V) (es : List Ev) (L : List Ck) (I : List (Hp → Prop)), vs = [.ref a, y] ∧ Own H L I ∧ dvI K C a xs ∈ I ∧ ksI K xs (es.map Ev.d) ∈ I ∧
  ((∃ (b : Addr) (ys : List V) (fs : List Ev), y = .ref b ∧ dvI K C b ys ∈ I ∧ ksI K ys (fs.map Ev.d) ∈ I ∧ Q (.bl (decide (es = fs))) H) ∨ ∃ t, TyX K H y t ∧ PySem.W.kitOne K t (.ref C) = some false ∧ Q (.bl false) H)
theorem eqo_day {K : PySem.W.Frag} {mg : Str → Option Value} {C a b : Addr} {name : Str} (t : ClsT K mg C name) {xs ys : List V} {es fs : List Ev} {neg : Bool} {H : Hp} {Q : VK} {E : XK} {L : List Ck} {I : List (Hp → Prop)} (h : Own H L I) (p : dvI K C a xs ∈ I) (d : ksI K xs (es.map Ev.d) ∈ I) (p2 : dvI K C b ys ∈ I) (d2 : ksI K ys (fs.map Ev.d) ∈ I) (q : BackB neg Q (.bl (decide (es = fs))) H) : OwnC K C (spDEq K C) E neg a (.ref b) H Q := by
  obtain ⟨dx, t1, w, _⟩ := h.imp p
  obtain ⟨dy, t2, w2, _⟩ := h.imp p2
  exact ⟨dx, _, _, w, t.ty w2, notFirst_self, a, _, xs, es, L, I, rfl, h, p, d, .inl ⟨b, ys, fs, rfl, p2, d2, q⟩⟩
theorem eqx_day {K : PySem.W.Frag} {C a : Addr} {xs : List V} {es : List Ev} {y : V} {t : Value} {neg : Bool} {H : Hp} {Q : VK} {E : XK} {L : List Ck} {I : List (Hp → Prop)} (h : Own H L I) (p : dvI K C a xs ∈ I) (d : ksI K xs (es.map Ev.d) ∈ I) (ty : TyX K H y t) (nf : PySem.W.notFirst K C t = true) (kt : PySem.W.kitOne K t (.ref C) = some false) (q : BackB neg Q (.bl false) H) : OwnC K C (spDEq K C) E neg a y H Q := by
  obtain ⟨dx, t1, w, _⟩ := h.imp p
  exact ⟨dx, _, t, w, ty, nf, a, _, xs, es, L, I, rfl, h, p, d, .inr ⟨t, ty, kt, q⟩⟩
def spDLen (K : PySem.W.Frag) (C : Addr) : Sp := fun vs H Q _ => ∃ (r : Addr) (xs : List V) (L : List Ck) (I : List (Hp → Prop)), vs = [.ref r] ∧ Own H L I ∧ dvI K C r xs ∈ I ∧ ∀ H', Own H' L I → Q (.int xs.length) H'
theorem len_day {K : PySem.W.Frag} {C r : Addr} {xs : List V} {H : Hp} {Q : VK} {E : XK} {L : List Ck} {I : List (Hp → Prop)} (h : Own H L I) (p : dvI K C r xs ∈ I) (n : xs.length ≤ 1000) (q : ∀ H', Own H' L I → Q (.int xs.length) H') : OwnLn C (spDLen K C) E r H Q := by
  obtain ⟨dx, t, w, _⟩ := h.imp p
  exact ⟨dx, _, w, r, xs, L, I, rfl, h, p, fun H' w2 => ⟨_, rfl, ⟨Int.natCast_nonneg _, by omega⟩, q _ w2⟩⟩
def spDAdd (K : PySem.W.Frag) (C : Addr) : Sp := fun vs H Q _ => ∃ (a b : Addr) (xs ys : List V) (es fs : List Ev) (L : List Ck) (I : List (Hp → Prop)), vs = [.ref a, .ref b] ∧ Own H L I ∧ dvI K C a xs ∈ I ∧ ksI K xs (es.map Ev.d) ∈ I ∧ dvI K C b ys ∈ I ∧ ksI K ys (fs.map Ev.d) ∈ I ∧ (∀ e ∈ es ++ fs, evU e) ∧ es.length + fs.length ≤ 1000 ∧ ∀ H' r, Own H' L (dvI K C r (xs ++ ys) :: ksI K (xs ++ ys) ((es ++ fs).map Ev.d) :: I) → Q (.ref r) H'
theorem add_day {K : PySem.W.Frag} {C a b : Addr} {xs ys : List V} {es fs : List Ev} {H : Hp} {Q : VK} {E : XK} {L : List Ck} {I : List (Hp → Prop)} (h : Own H L I) (p : dvI K C a xs ∈ I) (d : ksI K xs (es.map Ev.d) ∈ I) (p2 : dvI K C b ys ∈ I) (d2 : ksI K ys (fs.map Ev.d) ∈ I) (u : ∀ e ∈ es ++ fs, evU e) (n : es.length + fs.length ≤ 1000) (q : ∀ H' r, Own H' L (dvI K C r (xs ++ ys) :: ksI K (xs ++ ys) ((es ++ fs).map Ev.d) :: I) → Q (.ref r) H') : OwnA C (spDAdd K C) E a b H Q := by
  obtain ⟨dx, t1, w, _⟩ := h.imp p
  obtain ⟨dx2, t2, w2, _⟩ := h.imp p2
  exact ⟨⟨dx, _, dx2, _, w, w2, a, b, xs, ys, es, fs, L, I, rfl, h, p, d, p2, d2, u, n, q⟩⟩
section
variable (P : Program) (W0 : World) {K : PySem.W.Frag} {mg : Str → Option Value} (base : Heap)
set_option hygiene false in
local macro_rules | `(tactic| walk_at "cls") => `(tactic| first | exact T.c_Day.cl | exact T.na_Day_events)
set_option hygiene false in
local macro_rules | `(tactic| walk_at "fld") => `(tactic| refine fld_ins (by assumption) (by walk_at "mem") (by walk_at "cls") (by walk_at "cls") (by rfl) ?_)
set_option hygiene false in
local macro_rules | `(tactic| walk_at "seq") => `(tactic| first | exact stay_sq (by assumption) (by walk_at "mem"))
local macro_rules | `(tactic| walk_at "len") => `(tactic| first | assumption | omega | exact ⟨rfl, by decide⟩)
set_option hygiene false in
local macro_rules | `(tactic| walk_at "ask") => `(tactic| first
  | fail)
theorem G_Day_str (T : Tx W0 K mg) : FnOk P W0 K mg base CX0 2 T.f_Day_str T.d_Day_str ["self"] (spDStr K T.C_Day) := by
  refine T.F_Day_str.ok sc_Day_str (fun vs H Q E h => ?_) (fun cdv A outer s H vs Q E hr h => ?_)
  · obtain ⟨r, xs, es, L, I, rfl, _⟩ := h
    rfl
  · obtain ⟨r, xs, es, L, I, rfl, hO, hp, hd, hu, hn, q⟩ := h
    have hu64 := Room.units hr
    have sl := sizeLine_eq
    obtain ⟨dx, t, w⟩ := dv_open hO hp
    have xl := (w.imp (by walk_at "mem" : ksI K xs (es.map Ev.d) ∈ _)).len
    rw [List.length_map] at xl
    refine ⟨_, (pss_one (ps_ret (e_join pe_str (e_lc (own := [("event", 1)]) (by rfl) sc_Day_str.nd (i_val (e_fld (c_var 0))) (blkOk_by (own := [("event", 1)]) (N := ["self", "event"]) (sc := defScope s_Day_str) (by decide +kernel)) (fun _ _ _ _ _ => (pg_name (i := 1) sc_Day_str.nd rfl (Or.inl rfl))) (fun _ _ _ _ _ => pts_nil) (fun _ _ _ _ _ => (e_call (G_event_text P W0 base T) (hr.mono (by decide)) (by rfl) T.g_event_text T.F_event_text.kp T.b_event_text .nil pass0 (pa_cons (c_var 1) pa_nil))))))), ?_⟩
    walk_at "go"
    refine newa_o w (fun y w => ?_)
    refine la_tup (xs := xs) (fun i H' => Own H' (.pt y (.lst (((es.take i).map evT).map V.str)) :: L) (insI r T.C_Day dx [("events", .ref t)] :: stayI K t xs :: I)) w (fun i H' _ e => stay_sq e (by walk_at "mem")) ?_ ?_
    · rintro i x H1 hx w
      obtain ⟨e, he, hi⟩ := IDkAll.atF (w.imp (by walk_at "mem" : ksI K xs (es.map Ev.d) ∈ _)) hx
      have il := lt_get he
      have zl : (((es.take i).map evT).map V.str).length ≤ 1000 := by rw [List.length_map, List.length_map, List.length_take]; omega
      walk_at "go"
      refine ask_evtx w hi (hu e (List.mem_of_getElem? he)) (fun H2 w => ?_)
      walk_at "go"
      rw [take_sn he, List.map_append, List.map_append]
      exact Own.subI (Own.pick w (by walk_at "pick")) (by walk_at "subi")
    · rintro H1 w
      rw [xl, List.take_length] at w
      walk_at "go"
      refine Join.mk ⟨es.map evT, .inl (SqL.of (w.get (by walk_at "pull" : Pull _ (Ck.pt y _) _))), ?_, ?_⟩
      · have := evT_sum hu
        rw [List.length_map, show Str.length "; " = 2 by decide +kernel]
        omega
      rw [show Txt.join ("; " : Str) (es.map evT) = dayT es from TL.join_eq _ _]
      exact q _ (Own.subI (Own.pick w (by walk_at "pick")) (by walk_at "subi"))
theorem G_Day_eq (T : Tx W0 K mg) : FnOk P W0 K mg base CX0 1 T.f_Day_eq T.d_Day_eq ["self", "other"] (spDEq K T.C_Day) := by
  refine T.F_Day_eq.ok sc_Day_eq (fun vs H Q E h => ?_) (fun cdv A outer s H vs Q E hr h => ?_)
  · obtain ⟨a, y, xs, es, L, I, rfl, _⟩ := h
    rfl
  · have hu64 := Room.units hr
    obtain ⟨a, y, xs, es, L, I, rfl, hO, hp, hd, ⟨b, ys, fs, rfl, hp2, hd2, q⟩ | ⟨t, ty, kt, q⟩⟩ := h
    · obtain ⟨dx, t1, w⟩ := dv_open hO hp
      obtain ⟨dx2, t2, w⟩ := dv_open w (by walk_at "mem" : dvI K T.C_Day b ys ∈ _)
      refine ⟨_, (pss_one (ps_ret (e_and (pe_callB k_isi (by rfl) T.isinstance (by decide +kernel) (pa_cons (c_var 1) (pa_cons (pe_glob (v := .ref _) (by rfl) T.c_Day.g rfl) pa_nil))) (pe_one (pe_cmpR (c_eq hu64) (e_fld (c_var 0)) (e_fld (c_var 1)) (nomark _)))))), ?_⟩
      (conv => whnf)
      refine IsR.mk (.inl ⟨_, _, T.c_Day.ty (w.imp (by walk_at "mem" : insI b T.C_Day dx2 [("events", .ref t2)] ∈ _)), kit_self, ?_⟩)
      walk_at "go"
      refine eqd_mk (d := .tuple (es.map Ev.d)) (e := .tuple (fs.map Ev.d)) (.tup (stay_sq w (by walk_at "mem" : stayI K t1 xs ∈ _)) (IDkAll.dp _ _ (w.imp (by walk_at "mem" : ksI K xs (es.map Ev.d) ∈ _)))) (.tup (stay_sq w (by walk_at "mem" : stayI K t2 ys ∈ _)) (IDkAll.dp _ _ (w.imp (by walk_at "mem" : ksI K ys (fs.map Ev.d) ∈ _)))) (evs_shaped _) (evs_shaped _) ?_
      rw [evs_tup]
      walk_at "go"
      exact q
    · refine ⟨_, (pss_one (ps_ret (e_and (pe_callB k_isi (by rfl) T.isinstance (by decide +kernel) (pa_cons (c_var 1) (pa_cons (pe_glob (v := .ref _) (by rfl) T.c_Day.g rfl) pa_nil))) (pe_one (pe_cmpR (c_eq hu64) (e_fld (c_var 0)) (e_fld (c_var 1)) (nomark _)))))), ?_⟩
      (conv => whnf)
      refine IsR.mk (.inl ⟨_, _, ty, kt, ?_⟩)
      walk_at "go"
      exact q
theorem G_Day_len (T : Tx W0 K mg) : FnOk P W0 K mg base CX0 1 T.f_Day_len T.d_Day_len ["self"] (spDLen K T.C_Day) := by
  refine T.F_Day_len.ok sc_Day_len (fun vs H Q E h => ?_) (fun cdv A outer s H vs Q E hr h => ?_)
  · obtain ⟨r, xs, L, I, rfl, _⟩ := h
    rfl
  · obtain ⟨r, xs, L, I, rfl, hO, hp, q⟩ := h
    obtain ⟨dx, t, w⟩ := dv_open hO hp
    refine ⟨_, (pss_one (ps_ret (pe_callB k_len (by rfl) T.len PySem.boot_len (pa_cons (e_fld (c_var 0)) pa_nil)))), ?_⟩
    walk_at "go"
    exact q _ (w.subI (by walk_at "subi"))
theorem G_Day_add (T : Tx W0 K mg) : FnOk P W0 K mg base CX0 6 T.f_Day_add T.d_Day_add ["self", "other"] (spDAdd K T.C_Day) := by
  refine T.F_Day_add.ok sc_Day_add (fun vs H Q E h => ?_) (fun cdv A outer s H vs Q E hr h => ?_)
  · obtain ⟨a, b, xs, ys, es, fs, L, I, rfl, _⟩ := h
    rfl
  · obtain ⟨p, o, xs, ys, es, fs, L, I, rfl, hO, hp, hd, hp2, hd2, hu, hn, q⟩ := h
    obtain ⟨dx1, t1, w⟩ := dv_open hO hp
    obtain ⟨dx2, t2, w⟩ := dv_open w (by walk_at "mem" : dvI K T.C_Day o ys ∈ _)
    have xl := (w.imp (by walk_at "mem" : ksI K xs (es.map Ev.d) ∈ _)).len
    have yl := (w.imp (by walk_at "mem" : ksI K ys (fs.map Ev.d) ∈ _)).len
    rw [List.length_map] at xl yl
    have sl := sizeLine_eq
    refine ⟨_, (pss_cons (s_if (t_not (t_truth (pe_callB k_isi (by rfl) T.isinstance (by decide +kernel) (pa_cons (c_var 1) (pa_cons (pe_glob (v := .ref _) (by rfl) T.c_Day.g rfl) pa_nil))) (fun _ => rfl))) (pss_one ps_never) pss_nil)
    (pss_one (ps_ret (e_make T.mk_Day (G_Day_init P W0 base T) (hr.mono (by decide)) (by rfl) T.c_Day.g T.b_Day_init .nil pass0 (pa_cons (pe_op c_catE (e_fld (c_var 0)) (e_fld (c_var 1))) pa_nil))))), ?_⟩
    (conv => whnf)
    refine IsR.mk (.inl ⟨_, _, T.c_Day.ty (w.imp (by walk_at "mem" : insI o T.C_Day dx2 [("events", .ref t2)] ∈ _)), kit_self, ?_⟩)
    walk_at "go"
    refine CatE.mk ⟨xs, ys, stay_sq w (by walk_at "mem" : stayI K t1 xs ∈ _), stay_sq w (by walk_at "mem" : stayI K t2 ys ∈ _), by omega, fun z => ?_, fun z y => ?_, fun z y => ?_⟩
    · have e : es = [] := by subst z; exact List.length_eq_zero_iff.mp xl.symm
      subst e
      subst z
      rw [List.nil_append] at q
      walk_at "go"
      refine ask_dayV (es := fs) rfl w (by walk_at "mem" : SeqA K false _ _ t2 ys) (by walk_at "mem") (fun e m => hu e (List.mem_append_right _ m)) (fun r H1 w => ?_)
      walk_at "go"
      exact q _ _ (Own.subI w (by walk_at "subi"))
    · have e : fs = [] := by subst y; exact List.length_eq_zero_iff.mp yl.symm
      subst e
      subst y
      rw [List.append_nil, List.append_nil] at q
      walk_at "go"
      refine ask_dayV (es := es) rfl w (by walk_at "mem" : SeqA K false _ _ t1 xs) (by walk_at "mem") (fun e m => hu e (List.mem_append_left _ m)) (fun r H1 w => ?_)
      walk_at "go"
      exact q _ _ (Own.subI w (by walk_at "subi"))
    · walk_at "go"
      have w := w.addI (S := stayI K pp (xs ++ ys)) stable_stay (.inl (w.get (by walk_at "pull")))
      have w := w.addI (S := ksI K (xs ++ ys) ((es ++ fs).map Ev.d)) stable_ks (by
        rw [List.map_append]
        exact (w.imp (by walk_at "mem" : ksI K xs (es.map Ev.d) ∈ _)).append (w.imp (by walk_at "mem" : ksI K ys (fs.map Ev.d) ∈ _)))
      refine ask_dayV (es := es ++ fs) rfl w (by walk_at "mem" : SeqA K false _ _ pp (xs ++ ys)) (by walk_at "mem") hu (fun r H1 w => ?_)
      walk_at "go"
      exact q _ _ (Own.subI (Own.pick w (by walk_at "pick")) (by walk_at "subi"))
end
end My
set_option Elab.async false
set_option linter.all false
set_option maxRecDepth 100000
set_option maxHeartbeats 800000
namespace My
open PySem PySem.Spec PyProof.Rows L2 RZ SkE CL OW
/-- where draws come from -/
@[irreducible] def boxCk (b : Addr) : Ck := .ab fun l => ∃ x s c : Int, l = [(b, .lst [.int x, .int s, .int c])]
theorem box_open {b : Addr} {H : Hp} {L R : List Ck} {I : List (Hp → Prop)} (h : Own H L I) (e : Pull L (boxCk b) R) : ∃ x s c : Int, Own H (.pt b (.lst [.int x, .int s, .int c]) :: R) I := by
  have h1 := h.pull e
  unfold boxCk at h1
  obtain ⟨l, ⟨x, s, c, rfl⟩, w⟩ := h1.open_
  exact ⟨x, s, c, w⟩
theorem box_close {b : Addr} {x s c : Int} {H : Hp} {R : List Ck} {I : List (Hp → Prop)} (h : Own H (.pt b (.lst [.int x, .int s, .int c]) :: R) I) : Own H (boxCk b :: R) I := by
  unfold boxCk
  exact Own.close (l := [(b, .lst [.int x, .int s, .int c])]) ⟨x, s, c, rfl⟩ h
def spTake : Sp := fun vs H Q _ => ∃ (b : Addr) (n : Int) (L R : List Ck) (I : List (Hp → Prop)), vs = [.ref b, .int n] ∧ Own H L I ∧ Pull L (boxCk b) R ∧ 0 < n ∧ n < 1000000 ∧ ∀ H' d, 0 ≤ d → d < n → Own H' (boxCk b :: R) I → Q (.int d) H'
theorem ask_take {b : Addr} {n : Int} {H : Hp} {Q : VK} {E : XK} {L R : List Ck} {I : List (Hp → Prop)} (h : Own H L I) (p : Pull L (boxCk b) R) (h0 : 0 < n) (h1 : n < 1000000) (k : ∀ H' d, 0 ≤ d → d < n → Own H' (boxCk b :: R) I → Q (.int d) H') : Ask (spTake ([.ref b, .int n] ++ []) H Q E) := ⟨b, n, L, R, I, rfl, h, p, h0, h1, k⟩
def spBox (K : PySem.W.Frag) : Sp := fun vs H Q _ => ∃ (a : Addr) (k o : Int) (ns : List Int) (L : List Ck) (I : List (Hp → Prop)), vs = [.ref a, .int k, .int o] ∧ Own H L I ∧ seqI K a (ns.map V.int) ∈ I ∧ ns.length ≤ 63 ∧ 0 ≤ k ∧ ∀ H' p, Own H' (boxCk p :: L) I → Q (.ref p) H'
theorem ask_box {K : PySem.W.Frag} {a : Addr} {k o : Int} {ns : List Int} {H : Hp} {Q : VK} {E : XK} {L : List Ck} {I : List (Hp → Prop)} (h : Own H L I) (p : seqI K a (ns.map V.int) ∈ I) (l : ns.length ≤ 63) (h0 : 0 ≤ k) (q : ∀ H' p, Own H' (boxCk p :: L) I → Q (.ref p) H') : Ask (spBox K ([.ref a, .int k, .int o] ++ []) H Q E) := ⟨a, k, o, ns, L, I, rfl, h, p, l, h0, q⟩
theorem pull_mem {α : Type} {d : α} : ∀ {R : List α}, d ∈ R → ∃ R3, Pull R d R3
  | x :: R, m => by
    rcases List.mem_cons.mp m with rfl | m
    · exact ⟨_, .head⟩
    · obtain ⟨R3, e⟩ := pull_mem m
      exact ⟨_, .tail e⟩
theorem pull_other {α : Type} {L R R2 : List α} {c d : α} (h : Pull L c R) (g : Pull L d R2) (n : c ≠ d) : ∃ R3, Pull R d R3 := by
  have m : d ∈ c :: R := h.perm.mem_iff.mp (g.perm.mem_iff.mpr List.mem_cons_self)
  rcases List.mem_cons.mp m with e | m
  · exact (n e.symm).elim
  · exact pull_mem m
def spPick : Sp := fun vs H Q _ => ∃ (b l : Addr) (xs : List V) (L R R2 : List Ck) (I : List (Hp → Prop)), vs = [.ref b, .ref l] ∧ Own H L I ∧ Pull L (boxCk b) R ∧ Pull L (.pt l (.lst xs)) R2 ∧ (0 < xs.length ∧ xs.length < 1000) ∧ ∀ H' x, x ∈ xs → Own H' (boxCk b :: R) I → Q x H'
theorem ask_pick {b l : Addr} {xs : List V} {H : Hp} {Q : VK} {E : XK} {L R R2 : List Ck} {I : List (Hp → Prop)} (h : Own H L I) (p : Pull L (boxCk b) R) (p2 : Pull L (.pt l (.lst xs)) R2) (n : 0 < xs.length ∧ xs.length < 1000) (q : ∀ H' x, x ∈ xs → Own H' (boxCk b :: R) I → Q x H') : Ask (spPick ([.ref b, .ref l] ++ []) H Q E) := ⟨b, l, xs, L, R, R2, I, rfl, h, p, p2, n, q⟩
section
variable (P : Program) (W0 : World) {K : PySem.W.Frag} {mg : Str → Option Value} (base : Heap)
set_option hygiene false in
local macro_rules | `(tactic| walk_at "ask") => `(tactic| first
  | fail)
theorem G_l_take (T : Tx W0 K mg) : FnOk P W0 K mg base CX0 1 T.f_l_take T.d_l_take ["_law_box_here", "_law_bound"] spTake := by
  refine T.F_l_take.ok sc_l_take (fun vs H Q E h => ?_) (fun cdv A outer s H vs Q E hr h => ?_)
  · obtain ⟨b, n, L, R, I, rfl, _⟩ := h
    rfl
  · obtain ⟨b, n, L, R, I, rfl, hO, hp, h0, h1, k⟩ := h
    obtain ⟨x, s', c, hO⟩ := box_open hO hp
    refine ⟨_, (pss_cons (s_if (t_cmp c_gt (pe_ix (c_ixK (K := K) rfl) (c_var 0) pe_int (fun _ _ => rfl)) pe_int (nomark _)) (pss_cons (ps_set (i := 2) sc_l_take.nd rfl (Or.inl rfl) (pe_op c_mod (pe_callTy k_intG (by rfl) T.int (by decide +kernel) (pa_cons (pe_ix (c_ixK (K := K) rfl) (c_var 0) pe_int (fun _ _ => rfl)) pa_nil)) (c_var 1)))
    (pss_cons (ps_asg (pe_op c_div (pe_ix (c_ixK (K := K) rfl) (c_var 0) pe_int (fun _ _ => rfl)) (c_var 1)) (pg_sub (c_var 0) pe_int p_set))
    (pss_one (ps_ret (c_var 2))))) pss_nil)
    (pss_cons (ps_asg (pe_op c_addG (pe_ix (c_ixK (K := K) rfl) (c_var 0) pe_int (fun _ _ => rfl)) pe_int) (pg_sub (c_var 0) pe_int p_set))
    (pss_cons (ps_set (i := 3) sc_l_take.nd rfl (Or.inl rfl) (pe_op c_mod (pe_callTy k_intG (by rfl) T.int (by decide +kernel) (pa_cons (pe_op c_mul (pe_op c_addG (pe_ix (c_ixK (K := K) rfl) (c_var 0) pe_int (fun _ _ => rfl)) (pe_op c_mul pe_int (pe_ix (c_ixK (K := K) rfl) (c_var 0) pe_int (fun _ _ => rfl)))) pe_int) pa_nil)) pe_int))
    (pss_cons (ps_asg (pe_op c_addG (pe_op c_mod (pe_callTy k_intG (by rfl) T.int (by decide +kernel) (pa_cons (pe_op c_addG (pe_op c_mul (c_var 3) pe_int) pe_int) pa_nil)) pe_int) pe_int) (pg_sub (c_var 0) pe_int p_set))
    (pss_cons (s_if (t_cmp c_lt (c_var 1) (pe_op c_pow pe_int pe_int) (nomark _)) (pss_one (ps_ret (pe_op c_mod (pe_callTy k_intG (by rfl) T.int (by decide +kernel) (pa_cons (pe_op c_div (pe_op c_addG (pe_op c_mul (c_var 3) pe_int) (pe_ix (c_ixK (K := K) rfl) (c_var 0) pe_int (fun _ _ => rfl))) pe_int) pa_nil)) (c_var 1)))) pss_nil)
    (pss_cons (ps_set (i := 4) sc_l_take.nd rfl (Or.inl rfl) (pe_op c_mul (pe_op c_addG (pe_op c_mul (c_var 3) pe_int) (pe_ix (c_ixK (K := K) rfl) (c_var 0) pe_int (fun _ _ => rfl))) (pe_op c_pow pe_int pe_int)))
    (pss_one (ps_ret (pe_op c_mod (pe_callTy k_intG (by rfl) T.int (by decide +kernel) (pa_cons (pe_op c_addG (pe_op c_addG (c_var 4) (pe_op c_mul (pe_op c_pow (pe_ix (c_ixK (K := K) rfl) (c_var 0) pe_int (fun _ _ => rfl)) pe_int) pe_int)) (c_var 3)) pa_nil)) (c_var 1)))))))))), ?_⟩
    walk_at "go"
    refine Br.mk (fun hx => ?_) (fun hx => ?_)
    · walk_at "go"
      exact k _ _ (Int.emod_nonneg _ (by omega)) (Int.emod_lt_of_pos _ h0) (box_close (by walk_at "own"))
    · walk_at "go"
      refine br_t (decide_eq_true (show n < 1099511627776 by omega)) ?_
      walk_at "go"
      exact k _ _ (Int.emod_nonneg _ (by omega)) (Int.emod_lt_of_pos _ h0) (box_close (by walk_at "own"))
theorem G_l_box (T : Tx W0 K mg) : FnOk P W0 K mg base CX0 1 T.f_l_box T.d_l_box ["_law_script", "_law_k", "_law_own"] (spBox K) := by
  refine T.F_l_box.ok sc_l_box (fun vs H Q E h => ?_) (fun cdv A outer s H vs Q E hr h => ?_)
  · obtain ⟨a, k, o, ns, L, I, rfl, _⟩ := h
    rfl
  · obtain ⟨a, k, o, ns, L, I, rfl, hO, hI, hl, hk, q⟩ := h
    refine ⟨_, (pss_cons (ps_set (i := 3) sc_l_box.nd rfl (Or.inl rfl) (pe_op c_addG (pe_op c_addG (pe_op c_mul pe_int (c_var 1)) (pe_op c_mul pe_int (c_var 2))) pe_int))
    (pss_cons (s_if (t_cmp c_lt (c_var 1) (pe_callB k_len (by rfl) T.len PySem.boot_len (pa_cons (c_var 0) pa_nil)) (nomark _)) (pss_one (ps_set (i := 3) sc_l_box.nd rfl (Or.inl rfl) (pe_callB k_abs (by rfl) T.abs (by decide +kernel) (pa_cons (pe_ix (c_ixK (K := K) rfl) (c_var 0) (c_var 1) (fun _ _ => rfl)) pa_nil)))) (pss_one (s_if (t_cmp c_gt (pe_callB k_len (by rfl) T.len PySem.boot_len (pa_cons (c_var 0) pa_nil)) pe_int (nomark _)) (pss_one (ps_set (i := 3) sc_l_box.nd rfl (Or.inl rfl) (pe_op c_addG (c_var 3) (pe_op c_mul (pe_op c_mod (pe_callTy k_intG (by rfl) T.int (by decide +kernel) (pa_cons (pe_callB k_abs (by rfl) T.abs (by decide +kernel) (pa_cons (pe_ix (c_ixK (K := K) rfl) (c_var 0) (pe_op c_mod (pe_callTy k_intG (by rfl) T.int (by decide +kernel) (pa_cons (c_var 1) pa_nil)) (pe_callB k_len (by rfl) T.len PySem.boot_len (pa_cons (c_var 0) pa_nil))) (fun _ _ => rfl)) pa_nil)) pa_nil)) pe_int) pe_int)))) pss_nil)))
    (pss_cons (ps_set (i := 4) sc_l_box.nd rfl (Or.inl rfl) (pe_op c_addG (pe_op c_mod (pe_callTy k_intG (by rfl) T.int (by decide +kernel) (pa_cons (pe_op c_addG (pe_op c_mul (pe_op c_mod (pe_callTy k_intG (by rfl) T.int (by decide +kernel) (pa_cons (c_var 3) pa_nil)) pe_int) pe_int) (pe_op c_mul pe_int (pe_op c_addG (c_var 1) (pe_op c_mul pe_int (c_var 2))))) pa_nil)) pe_int) pe_int))
    (pss_one (ps_ret (e_lst (pa_cons (pe_ix (c_ixK (K := K) rfl) (e_lst (pa_cons pe_int (pa_cons (c_var 3) pa_nil))) (pe_callTy k_intG (by rfl) T.int (by decide +kernel) (pa_cons (pe_cmpR c_ge (c_var 3) (pe_op c_pow pe_int pe_int) (nomark _)) pa_nil)) (fun _ _ => rfl)) (pa_cons (c_var 4) (pa_cons pe_int pa_nil))))))))), ?_⟩
    walk_at "go"
    refine Br.mk (fun hx => ?_) (fun hx => ?_)
    · have hx' : k < ((ns.map V.int).length : Int) := of_decide_eq_true hx
      rw [List.length_map] at hx'
      walk_at "go"
      refine At.nat k.toNat (by omega) (int_at (by omega)) ?_
      walk_at "go"
      refine at_two (fun _ => ?_) (fun _ => ?_)
      · walk_at "go"
        exact q _ _ (box_close (by walk_at "own"))
      · walk_at "go"
        exact q _ _ (box_close (by walk_at "own"))
    · walk_at "go"
      refine Br.mk (fun hy => ?_) (fun hy => ?_)
      · have hy' : (0 : Int) < ((ns.map V.int).length : Int) := of_decide_eq_true hy
        have hy2 := hy'
        rw [List.length_map] at hy'
        have m0 := Int.emod_nonneg k (b := (ns.length : Int)) (by omega)
        have m1 := Int.emod_lt_of_pos k hy'
        walk_at "go"
        refine At.nat (k % (ns.length : Int)).toNat (by rw [List.length_map]; omega) (int_at (by omega)) ?_
        walk_at "go"
        refine at_two (fun _ => ?_) (fun _ => ?_)
        · walk_at "go"
          exact q _ _ (box_close (by walk_at "own"))
        · walk_at "go"
          exact q _ _ (box_close (by walk_at "own"))
      · walk_at "go"
        refine at_two (fun _ => ?_) (fun _ => ?_)
        · walk_at "go"
          exact q _ _ (box_close (by walk_at "own"))
        · walk_at "go"
          exact q _ _ (box_close (by walk_at "own"))
section
set_option hygiene false in
local macro_rules | `(tactic| walk_at "ask") => `(tactic| refine ask_take (by assumption) (by walk_at "pull") (by walk_at "sd") (by walk_at "sd") (fun HH d d0 d1 w => ?_))
theorem G_l_pick (T : Tx W0 K mg) : FnOk P W0 K mg base CX0 2 T.f_l_pick T.d_l_pick ["_law_box_here", "_law_items"] spPick := by
  refine T.F_l_pick.ok sc_l_pick (fun vs H Q E h => ?_) (fun cdv A outer s H vs Q E hr h => ?_)
  · obtain ⟨b, l, xs, L, R, R2, I, rfl, _⟩ := h
    rfl
  · obtain ⟨b, l, xs, L, R, R2, I, rfl, hO, hp, hp2, hn, k⟩ := h
    refine ⟨_, (pss_one (ps_ret (pe_ix (c_ixK (K := K) rfl) (c_var 1) (e_call (G_l_take P W0 base T) (hr.mono (by decide)) (by rfl) T.g_l_take T.F_l_take.kp T.b_l_take .nil pass0 (pa_cons (c_var 0) (pa_cons (pe_callB k_len (by rfl) T.len PySem.boot_len (pa_cons (c_var 1) pa_nil)) pa_nil))) (fun _ _ => rfl)))), ?_⟩
    (conv => whnf)
    refine sq_l hO hp2 ?_
    walk_at "go"
    have hi : d.toNat < xs.length := by omega
    obtain ⟨R3, hp3⟩ : ∃ R3, Pull R (.pt l (.lst xs)) R3 := pull_other hp hp2 (fun z => by unfold boxCk at z; cases z)
    refine sq_l w (.tail hp3) ?_
    refine At.nat d.toNat (by omega) (List.getElem?_eq_getElem hi) ?_
    exact k _ _ (List.getElem_mem hi) w
end
end
end My
set_option Elab.async false
set_option linter.all false
set_option maxRecDepth 100000
set_option maxHeartbeats 800000
namespace My
open PySem PySem.Spec PyProof.Rows L2 RZ SkE CL OW
def spGetG (K : PySem.W.Frag) (C : Addr) : Sp := fun vs H Q _ => ∃ (r : Addr) (xs : List V) (i : Nat) (x : V) (L : List Ck) (I : List (Hp → Prop)), vs = [.ref r, .int (i : Nat)] ∧ Own H L I ∧ dvI K C r xs ∈ I ∧ xs[i]? = some x ∧ ∀ H', Own H' L I → Q x H'
theorem get_day {K : PySem.W.Frag} {C r : Addr} {xs : List V} {i : Nat} {x : V} {H : Hp} {Q : VK} {E : XK} {L : List Ck} {I : List (Hp → Prop)} (h : Own H L I) (p : dvI K C r xs ∈ I) (hx : xs[i]? = some x) (q : ∀ H', Own H' L I → Q x H') : OwnG C (spGetG K C) E (.ref r) (.int (i : Nat)) H Q := by
  obtain ⟨dx, t, w, _⟩ := h.imp p
  exact ⟨_, dx, _, rfl, w, r, xs, i, x, L, I, rfl, h, p, hx, q⟩
def spGetX (K : PySem.W.Frag) (C CE : Addr) : Sp := fun vs H Q E => ∃ (r : Addr) (xs : List V) (i : Int) (L : List Ck) (I : List (Hp → Prop)), vs = [.ref r, .int i] ∧ Own H L I ∧ dvI K C r xs ∈ I ∧ xs.length ≤ 1000 ∧ (i < 0 ∨ (xs.length : Int) ≤ i) ∧ ∀ H' d, Own H' (.pt d (.xd [("at", .int i)]) :: L) I → E (.ref CE) (some d) H'
theorem get_dayX {K : PySem.W.Frag} {C CE r : Addr} {xs : List V} {i : Int} {H : Hp} {Q : VK} {E : XK} {L : List Ck} {I : List (Hp → Prop)} (h : Own H L I) (p : dvI K C r xs ∈ I) (l : xs.length ≤ 1000) (o : i < 0 ∨ (xs.length : Int) ≤ i) (q : ∀ H' d, Own H' (.pt d (.xd [("at", .int i)]) :: L) I → E (.ref CE) (some d) H') : OwnG C (spGetX K C CE) E (.ref r) (.int i) H Q := by
  obtain ⟨dx, t, w, _⟩ := h.imp p
  exact ⟨_, dx, _, rfl, w, r, xs, i, L, I, rfl, h, p, l, o, q⟩
def spOut6 (K : PySem.W.Frag) (C : Addr) : Sp := fun vs H Q _ => ∃ (r : Addr) (xs : List V) (i : Int) (L : List Ck) (I : List (Hp → Prop)), vs = [.ref r, .int i] ∧ Own H L I ∧ dvI K C r xs ∈ I ∧ xs.length ≤ 1000 ∧ (i < 0 ∨ (xs.length : Int) ≤ i) ∧ ∀ H', Own H' L I → Q (.bl true) H'
theorem ask_out6 {K : PySem.W.Frag} {C r : Addr} {xs : List V} {i : Int} {H : Hp} {Q : VK} {E : XK} {L : List Ck} {I : List (Hp → Prop)} (h : Own H L I) (p : dvI K C r xs ∈ I) (l : xs.length ≤ 1000) (o : i < 0 ∨ (xs.length : Int) ≤ i) (q : ∀ H', Own H' L I → Q (.bl true) H') : Ask (spOut6 K C ([.ref r, .int i] ++ []) H Q E) := ⟨r, xs, i, L, I, rfl, h, p, l, o, q⟩
section
variable (P : Program) (W0 : World) {K : PySem.W.Frag} {mg : Str → Option Value} (base : Heap)
set_option hygiene false in
local macro_rules | `(tactic| walk_at "cls") => `(tactic| first | exact T.c_Day.cl | exact T.na_Day_events)
set_option hygiene false in
local macro_rules | `(tactic| walk_at "fld") => `(tactic| refine fld_ins (by assumption) (by walk_at "mem") (by walk_at "cls") (by walk_at "cls") (by rfl) ?_)
set_option hygiene false in
local macro_rules | `(tactic| walk_at "seq") => `(tactic| first | exact stay_sq (by assumption) (by walk_at "mem"))
set_option hygiene false in
local macro_rules | `(tactic| walk_at "exm") => `(tactic| exact T.xm_InvalidDay)
set_option hygiene false in
local macro_rules | `(tactic| walk_at "kitE") => `(tactic| first | exact T.kit_InvalidDay_SeatError | exact T.kit_InvalidDay_InvalidText)
local macro_rules | `(tactic| walk_at "len") => `(tactic| first | assumption | omega | exact ⟨rfl, by decide⟩)
set_option hygiene false in
local macro_rules | `(tactic| walk_at "ask") => `(tactic| first
  | fail)
theorem G_Day_getitem (T : Tx W0 K mg) : FnOk P W0 K mg base CX0 3 T.f_Day_getitem T.d_Day_getitem ["self", "at"] (spGetG K T.C_Day) := by
  refine T.F_Day_getitem.ok sc_Day_getitem (fun vs H Q E h => ?_) (fun cdv A outer s H vs Q E hr h => ?_)
  · obtain ⟨r, xs, i, x, L, I, rfl, _⟩ := h
    rfl
  · obtain ⟨r, xs, i, x, L, I, rfl, hO, hp, hx, q⟩ := h
    obtain ⟨dx, t, w⟩ := dv_open hO hp
    have il := lt_get hx
    have sl := sizeLine_eq
    refine ⟨_, (pss_cons (s_if (t_not (t_chain c_le c_lt pe_int (c_var 1) (pe_callB k_len (by rfl) T.len PySem.boot_len (pa_cons (e_fld (c_var 0)) pa_nil)))) (pss_one ps_never) pss_nil)
    (pss_one (ps_ret (pe_ix (c_ixK (K := K) rfl) (e_fld (c_var 0)) (c_var 1) (fun _ _ => rfl))))), ?_⟩
    walk_at "go"
    refine br_f (congrArg (!·) (decide_eq_true (by omega))) ?_
    walk_at "go"
    refine At.nat i rfl hx ?_
    walk_at "go"
    exact q _ (w.subI (by walk_at "subi"))
theorem GX_Day_getitem (T : Tx W0 K mg) : FnOk P W0 K mg base (L2.CX P W0) 3 T.f_Day_getitem T.d_Day_getitem ["self", "at"] (spGetX K T.C_Day T.C_InvalidDay) := by
  refine T.F_Day_getitem.okX sc_Day_getitem (fun vs H Q E h => ?_) (fun cdv A outer s H vs Q E hr h => ?_)
  · obtain ⟨r, xs, i, L, I, rfl, _⟩ := h
    rfl
  · obtain ⟨r, xs, i, L, I, rfl, hO, hp, hl, ho, q⟩ := h
    obtain ⟨dx, t, w⟩ := dv_open hO hp
    have sl := sizeLine_eq
    refine ⟨_, (pss_cons (s_if (t_not (t_chain c_le c_lt pe_int (c_var 1) (pe_callB k_len (by rfl) T.len PySem.boot_len (pa_cons (e_fld (c_var 0)) pa_nil)))) (pss_one (s_raise1 (by rfl) (takes_of rfl rfl rfl rfl) T.xo_InvalidDay T.xi_InvalidDay T.xt_InvalidDay (G_InvalidDay_init P W0 base T) (hr.mono (by decide)) T.b_InvalidDay_init pass0 (by rfl) T.ge_InvalidDay (pa_cons (c_var 1) pa_nil))) pss_nil)
    (pss_one (ps_ret (pe_ix (c_ixK (K := K) rfl) (e_fld (c_var 0)) (c_var 1) (fun _ _ => rfl))))), ?_⟩
    walk_at "go"
    by_cases h0 : 0 ≤ i
    · refine br_t (decide_eq_true h0) ?_
      walk_at "go"
      refine br_t (congrArg (!·) (decide_eq_false (by omega))) ?_
      walk_at "go"
      exact q _ _ (Own.subI (Own.pick w (by walk_at "pick")) (by walk_at "subi"))
    · refine br_f (decide_eq_false h0) ?_
      walk_at "go"
      exact q _ _ (Own.subI (Own.pick w (by walk_at "pick")) (by walk_at "subi"))
theorem G_l_is_out (T : Tx W0 K mg) : FnOk P W0 K mg base CX0 6 T.f_l_is_out T.d_l_is_out ["_law_made", "_law_at"] (spOut6 K T.C_Day) := by
  refine T.F_l_is_out.ok sc_l_is_out (fun vs H Q E h => ?_) (fun cdv A outer s H vs Q E hr h => ?_)
  · obtain ⟨r, xs, i, L, I, rfl, _⟩ := h
    rfl
  · obtain ⟨r, xs, i, L, I, rfl, hO, hp, hl, ho, q⟩ := h
    have hu64 := Room.units hr
    refine ⟨_, (pss_cons (ps_set (i := 2) sc_l_is_out.nd rfl (Or.inl rfl) pe_bl)
    (pss_cons (s_try_as (i := 3) (c := .ref T.C_InvalidDay) rfl rfl sc_l_is_out.nd rfl rfl ⟨by rfl, by decide, .inl T.ge_InvalidDay⟩ takes0 (fun W pn xe tk po => (pss_one (ps_expr (e_getO (GX_Day_getitem P W0 base T) T.b_Day_getitem (passAt tk) (hr.mono (by decide)) T.i_Day_getitem T.j_Day_getitem T.fi_Day_getitem (c_var 0) (c_var 1))))) (fun a oe cls d pn hz hf => (pss_one (ps_set (i := 2) sc_l_is_out.nd rfl (Or.inl rfl) (e_and (pe_cmpR (c_eqK (K := K) rfl (by exact hu64)) (e_xf T.xf_InvalidDay T.xn_InvalidDay hz hf (c_var 3)) (c_var 1) (nomark _)) (e_and (pe_callB (k_isE (K := K) rfl T.xc_InvalidDay hz hf) (by rfl) T.isinstance (by decide +kernel) (pa_cons (c_var 3) (pa_cons (pe_glob (v := .ref _) (by rfl) T.ge_SeatError rfl) pa_nil))) (pe_one (e_not (pe_callB (k_isE (K := K) rfl T.xc_InvalidDay hz hf) (by rfl) T.isinstance (by decide +kernel) (pa_cons (c_var 3) (pa_cons (pe_glob (v := .ref _) (by rfl) T.ge_InvalidText rfl) pa_nil)))))))))))
    (pss_one (ps_ret (c_var 2))))), ?_⟩
    walk_at "go"
    refine get_dayX hO hp hl ho (fun H1 d w => ?_)
    walk_at "go"
    refine br_t (by rw [if_neg (by decide)]; exact decide_eq_true rfl) ?_
    walk_at "go"
    exact q _ (Own.subI (Own.pick w (by walk_at "pick")) (by walk_at "subi"))
end
end My
set_option Elab.async false
set_option linter.all false
set_option maxRecDepth 100000
set_option maxHeartbeats 800000
namespace My
open PySem PySem.Spec PyProof.Rows L2 RZ SkE CL OW
theorem e_joinK {X : Cx} {K : PySem.W.Frag} {o e : Expr} {to te : TE} {apos pos : Pos} (hK : X.K = K) (ho : PE X o to) (he : PE X e te) (hs : starEach [e] X.env = [(false, eval e X.env)] := by rfl) (hbase : attributeBase o "join" X.env (eval o X.env) = eval o X.env := by rfl) (hline : (apos.endLine == pos.line) = true := by rfl) :
    PE X (.Call (.Attribute o "join" apos) [e] [] pos) (cJoin K to te) := hK ▸ e_join ho he hs hbase hline
theorem wd_pick {x : V} (m : x ∈ [V.str "borrow", .str "word", .str "back", .str "crash", .str "stop", .str "cut", .str "join"]) : ∃ w : Wd, x = .str w.s := by
  simp only [List.mem_cons, List.not_mem_nil, or_false] at m
  rcases m with rfl | rfl | rfl | rfl | rfl | rfl | rfl
  · exact ⟨.borrow, rfl⟩
  · exact ⟨.word, rfl⟩
  · exact ⟨.back, rfl⟩
  · exact ⟨.crash, rfl⟩
  · exact ⟨.stop, rfl⟩
  · exact ⟨.cut, rfl⟩
  · exact ⟨.join, rfl⟩
def spEvs6 : Sp := fun vs H Q _ => ∃ (b : Addr) (n : Int) (L R : List Ck) (I : List (Hp → Prop)), vs = [.ref b, .int n] ∧ Own H L I ∧ Pull L (boxCk b) R ∧ 0 ≤ n ∧ n ≤ 30 ∧ ∀ H' p (xs : List V) (es : List Ev), (∀ e ∈ es, evU2 e) → (es.length : Int) ≤ n → Own H' (.pt p (.lst xs) :: boxCk b :: R) (idsI xs (es.map Ev.d) :: I) → Q (.ref p) H'
theorem ask_evs6 {b : Addr} {n : Int} {H : Hp} {Q : VK} {E : XK} {L R : List Ck} {I : List (Hp → Prop)} (h : Own H L I) (p : Pull L (boxCk b) R) (h0 : 0 ≤ n) (h1 : n ≤ 30) (q : ∀ H' p (xs : List V) (es : List Ev), (∀ e ∈ es, evU2 e) → (es.length : Int) ≤ n → Own H' (.pt p (.lst xs) :: boxCk b :: R) (idsI xs (es.map Ev.d) :: I) → Q (.ref p) H') : Ask (spEvs6 ([.ref b, .int n] ++ []) H Q E) := ⟨b, n, L, R, I, rfl, h, p, h0, h1, q⟩
section
variable (P : Program) (W0 : World) {K : PySem.W.Frag} {mg : Str → Option Value} (base : Heap)
local macro_rules | `(tactic| walk_at "len") => `(tactic| first | assumption | omega)
set_option hygiene false in
local macro_rules | `(tactic| walk_at "ask") => `(tactic| first
  | fail)
theorem G_l_events (T : Tx W0 K mg) : FnOk P W0 K mg base CX0 3 T.f_l_events T.d_l_events ["_law_box_here", "_law_many"] spEvs6 := by
  refine T.F_l_events.ok sc_l_events (fun vs H Q E h => ?_) (fun cdv A outer s H vs Q E hr h => ?_)
  · obtain ⟨b, n, L, R, I, rfl, _⟩ := h
    rfl
  · obtain ⟨b, n, L, R, I, rfl, hO, hp, h0, h1, q⟩ := h
    have hu64 := Room.units hr
    have sl := sizeLine_eq
    have hO := hO.pull hp
    refine ⟨_, (pss_cons (s_par (i := 2) (j := 3) (by rfl) sc_l_events.nd rfl rfl (by decide) rfl rfl (pa_cons (e_lst (pa_cons pe_str (pa_cons pe_str (pa_cons pe_str (pa_cons pe_str (pa_cons pe_str (pa_cons pe_str (pa_cons pe_str pa_nil)))))))) (pa_cons (e_lst pa_nil) pa_nil)) (by rfl))
    (pss_cons (s_for PassesOwn.never (by rfl) (i_range1 (by rfl) T.range (pa_cons (e_call (G_l_take P W0 base T) (hr.mono (by decide)) (by rfl) T.g_l_take T.F_l_take.kp T.b_l_take .nil pass0 (pa_cons (c_var 0) (pa_cons (pe_op c_addG (c_var 1) pe_int) pa_nil))) pa_nil)) (pg_name (i := 4) sc_l_events.nd rfl (Or.inl rfl)) (pss_one (ps_expr (pe_bm PySem.F.plainAttrs_list PySem.F.slot_list_append PySem.F.type_list_append m_appG (c_var 3) (pa_cons (e_if (t_cmp (c_eq hu64) (e_call (G_l_take P W0 base T) (hr.mono (by decide)) (by rfl) T.g_l_take T.F_l_take.kp T.b_l_take .nil pass0 (pa_cons (c_var 0) (pa_cons pe_int pa_nil))) pe_int (nomark _)) (e_tup (pa_cons pe_str pa_nil)) (e_tup (pa_cons (e_call (G_l_pick P W0 base T) (hr.mono (by decide)) (by rfl) T.g_l_pick T.F_l_pick.kp T.b_l_pick .nil pass0 (pa_cons (c_var 0) (pa_cons (c_var 2) pa_nil))) (pa_cons (e_call (G_l_take P W0 base T) (hr.mono (by decide)) (by rfl) T.g_l_take T.F_l_take.kp T.b_l_take .nil pass0 (pa_cons (c_var 0) (pa_cons pe_int pa_nil))) pa_nil)))) pa_nil)))))
    (pss_one (ps_ret (c_var 3))))), ?_⟩
    walk_at "go"
    rename_i pw _ _
    obtain ⟨pf, rfl⟩ : ∃ pf, pf = pp := ⟨_, rfl⟩
    refine ask_take (n := n + 1) w (by walk_at "pull") (by omega) (by omega) (fun H1 d d0 d1 w => ?_)
    walk_at "go"
    have w : Own H1 (.pt pf (.lst []) :: .pt pw (.lst [V.str "borrow", .str "word", .str "back", .str "crash", .str "stop", .str "cut", .str "join"]) :: boxCk b :: R) (idsI [] (([] : List Ev).map Ev.d) :: I) := Own.addI (by walk_at "own") stable_ids .nil
    refine fw_range (fun i σ H' => ∃ (v4 : Option V) (ys : List V) (es : List Ev), σ = [some (.ref b), some (.int n), some (.ref pw), some (.ref pf), v4] ∧ (es.length = i ∧ ∀ e ∈ es, evU2 e) ∧ Own H' (.pt pf (.lst ys) :: .pt pw (.lst [V.str "borrow", .str "word", .str "back", .str "crash", .str "stop", .str "cut", .str "join"]) :: boxCk b :: R) (idsI ys (es.map Ev.d) :: I)) ⟨_, [], [], rfl, ⟨rfl, fun e m => (List.not_mem_nil m).elim⟩, w⟩ ?_ ?_
    · rintro i σ H2 hi ⟨v4, ys, es, rfl, ⟨el, eu⟩, w⟩
      have yl := (w.ids (by walk_at "mem" : idsI ys _ ∈ _)).len
      rw [List.length_map] at yl
      walk_at "go"
      refine ask_take (n := 3) w (by walk_at "pull") (by decide) (by decide) (fun H3 f f0 f1 w => ?_)
      walk_at "go"
      by_cases fz : f = 0
      · refine br_t (by rw [if_neg (by decide)]; exact decide_eq_true (congrArg V.int fz)) ?_
        walk_at "go"
        refine ⟨_, ys ++ [.ref pp], es ++ [Ev.pass], rfl, ⟨by rw [List.length_append, el]; rfl, fun e m => ?_⟩, ?_⟩
        · rcases List.mem_append.mp m with m | m
          · exact eu e m
          · rw [List.mem_singleton.mp m]; trivial
        have w := w.addI (S := idsI (ys ++ [.ref pp]) ((es ++ [Ev.pass]).map Ev.d)) stable_ids (by
          rw [List.map_append]
          exact (w.ids (by walk_at "mem" : idsI ys _ ∈ _)).append (.cons (.tup (w.get (by walk_at "pull" : Pull _ (Ck.pt pp _) _)) (.cons (.str _) .nil)) .nil))
        walk_at "own"
      · refine br_f (by rw [if_neg (by decide)]; exact decide_eq_false (fun e => fz (V.int.inj e))) ?_
        walk_at "go"
        refine ask_pick w (by walk_at "pull") (by walk_at "pull" : Pull _ (Ck.pt pw _) _) (by decide) (fun H4 x mx w => ?_)
        obtain ⟨wd, rfl⟩ := wd_pick mx
        walk_at "go"
        refine ask_take (n := 6) w (by walk_at "pull") (by decide) (by decide) (fun H5 u u0 u1 w => ?_)
        walk_at "go"
        refine ⟨_, ys ++ [.ref pp], es ++ [Ev.on wd u], rfl, ⟨by rw [List.length_append, el]; rfl, fun e m => ?_⟩, ?_⟩
        · rcases List.mem_append.mp m with m | m
          · exact eu e m
          · rw [List.mem_singleton.mp m]; exact ⟨u0, by omega⟩
        have w := w.addI (S := idsI (ys ++ [.ref pp]) ((es ++ [Ev.on wd u]).map Ev.d)) stable_ids (by
          rw [List.map_append]
          exact (w.ids (by walk_at "mem" : idsI ys _ ∈ _)).append (.cons (.tup (w.get (by walk_at "pull" : Pull _ (Ck.pt pp _) _)) (.cons (.str _) (.cons (.int _) .nil))) .nil))
        walk_at "own"
    · rintro σ H2 ⟨v4, ys, es, rfl, ⟨el, eu⟩, w⟩
      walk_at "go"
      exact q _ _ ys es eu (by omega) (by walk_at "own")
end
end My
set_option Elab.async false
set_option linter.all false
set_option maxRecDepth 100000
set_option maxHeartbeats 800000
namespace My
open PySem PySem.Spec PyProof.Rows L2 RZ SkE CL OW
theorem evl_shaped (es : List Ev) : SeqAt.shaped (.list (es.map Ev.d)) = true := evs_shaped es
theorem evl_eqv (es fs : List Ev) : PyData.eqv (.list (es.map Ev.d)) (.list (fs.map Ev.d)) = decide (es = fs) := evs_eqv es fs
theorem dayT_inj {es fs : List Ev} (h : ∀ e ∈ es, evU2 e) (g : ∀ e ∈ fs, evU2 e) (z : dayT es = dayT fs) : es = fs := by
  have a : readP (partsD (dayT es)) = some es := by rw [dayT_parts h]; exact readP_evT h
  have b : readP (partsD (dayT fs)) = some fs := by rw [dayT_parts g]; exact readP_evT g
  rw [z, b] at a
  exact (Option.some.inj a).symm
theorem dayT_dec {es fs : List Ev} (h : ∀ e ∈ es, evU2 e) (g : ∀ e ∈ fs, evU2 e) : decide (V.str (dayT es) = V.str (dayT fs)) = decide (es = fs) := decide_eq_decide.mpr ⟨fun z => dayT_inj h g (V.str.inj z), fun z => by rw [z]⟩
def spLaw (K : PySem.W.Frag) : Sp := fun vs H Q _ => ∃ (a : Addr) (ns : List Int), vs = [.ref a] ∧ Own H [] [seqI K a (ns.map V.int)] ∧ ns.length ≤ 63 ∧ ∀ H', Q (.bl true) H'
section
variable (P : Program) (W0 : World) {K : PySem.W.Frag} {mg : Str → Option Value} (base : Heap)
set_option hygiene false in
local macro_rules | `(tactic| walk_at "cls") => `(tactic| first | exact T.c_Day.cl | exact T.na_Day_events)
set_option hygiene false in
local macro_rules | `(tactic| walk_at "fld") => `(tactic| refine fld_ins (by assumption) (by walk_at "mem") (by walk_at "cls") (by walk_at "cls") (by rfl) ?_)
set_option hygiene false in
local macro_rules | `(tactic| walk_at "seq") => `(tactic| first | exact stay_sq (by assumption) (by walk_at "mem"))
local macro_rules | `(tactic| walk_at "shp") => `(tactic| first | exact shaped_nil | (decide +kernel))
local macro_rules | `(tactic| walk_at "len") => `(tactic| first | assumption | omega | (rw [List.length_map]; omega))
set_option hygiene false in
local macro_rules | `(tactic| walk_at "ask") => `(tactic| first
  | fail)
set_option maxHeartbeats 4000000 in
theorem G_law (T : Tx W0 K mg) : FnG P W0 K mg base CX0 9 T.f_law T.d_law ["_law_script"] (spLaw K) := by
  refine fun_okG T.F_law sc_law (fun vs H Q E h => ?_) (fun cdv A outer s H vs Q E hG hr h => ?_)
  · obtain ⟨a, ns, rfl, _⟩ := h
    rfl
  · obtain ⟨a, ns, rfl, hO, hl, q⟩ := h
    have hu64 := Room.units hr
    have hu65 := room65 hr
    have sl := sizeLine_eq
    obtain ⟨ds0, v_Day_init_0, b_Day_init_0⟩ := T.bd_Day_init
    refine ⟨_, (pss_cons (s_for PassesOwn.never (by rfl) (i_range1 (by rfl) T.range (pa_cons (pe_callB (k_maxG (by rfl)) (by rfl) T.max (by decide +kernel) (pa_cons pe_int (pa_cons (pe_callB (k_minL (by rfl)) (by rfl) T.min (by decide +kernel) (pa_cons pe_int (pa_cons (pe_callB k_len (by rfl) T.len PySem.boot_len (pa_cons (c_var 0) pa_nil)) pa_nil))) pa_nil))) pa_nil)) (pg_name (i := 1) sc_law.nd rfl (Or.inl rfl)) (pss_cons (s_par (i := 2) (j := 3) (by rfl) sc_law.nd rfl rfl (by decide) rfl rfl (pa_cons (e_call (G_l_box P W0 base T) (hr.mono (by decide)) (by rfl) T.g_l_box T.F_l_box.kp T.b_l_box .nil pass0 (pa_cons (c_var 0) (pa_cons (c_var 1) (pa_cons pe_int pa_nil)))) (pa_cons (e_make0 T.mk_Day (G_Day_init P W0 base T) (hr.mono (by decide)) (by rfl) T.c_Day.g b_Day_init_0 v_Day_init_0 pass0) pa_nil)) (by rfl))
    (pss_one (s_for PassesOwn.never (by rfl) (i_range1 (by rfl) T.range (pa_cons pe_int pa_nil)) (pg_name (i := 4) sc_law.nd rfl (Or.inl rfl)) (pss_cons (ps_set (i := 5) sc_law.nd rfl (Or.inl rfl) (e_call (G_l_events P W0 base T) (hr.mono (by decide)) (by rfl) T.g_l_events T.F_l_events.kp T.b_l_events .nil pass0 (pa_cons (c_var 2) (pa_cons pe_int pa_nil))))
    (pss_cons (ps_set (i := 6) sc_law.nd rfl (Or.inl rfl) (pe_callTy k_list (by rfl) T.list (by decide +kernel) (pa_cons (c_var 5) pa_nil)))
    (pss_cons (ps_set (i := 7) sc_law.nd rfl (Or.inr rfl) (e_make T.mk_Day (G_Day_init P W0 base T) (hr.mono (by decide)) (by rfl) T.c_Day.g T.b_Day_init .nil pass0 (pa_cons (c_var 6) pa_nil)))
    (pss_cons (ps_expr (pe_bm PySem.F.plainAttrs_list PySem.F.slot_list_append PySem.F.type_list_append m_appG (c_var 6) (pa_cons (e_tup (pa_cons pe_str pa_nil)) pa_nil)))
    (pss_cons (ps_set (i := 8) sc_law.nd rfl (Or.inl rfl) (e_join pe_str (e_lc (own := [("_law_event", 12)]) (by rfl) sc_law.nd (i_val (c_var 5)) (blkOk_by (own := [("_law_event", 12)]) (N := ["_law_script", "_law_k", "_law_box_here", "_law_before", "_law_turn", "_law_events_here", "_law_handed", "_law_made", "_law_text", "_law_at", "_law_kept", "_law_held", "_law_event", "_law_part"]) (sc := defScope s_law) (by decide +kernel)) (fun _ _ _ _ _ => (pg_name (i := 12) sc_law.nd rfl (Or.inl rfl))) (fun _ _ _ _ _ => pts_nil) (fun _ _ _ _ _ => (e_joinK (K := K) rfl pe_str (e_lc (own := [("_law_part", 13)]) (by rfl) sc_law.nd (i_valK (K := K) rfl (c_var 12)) (by (conv => arg 2; whnf); exact blkOk_by (own := [("_law_part", 13)]) (N := ["_law_script", "_law_k", "_law_box_here", "_law_before", "_law_turn", "_law_events_here", "_law_handed", "_law_made", "_law_text", "_law_at", "_law_kept", "_law_held", "_law_event", "_law_part"]) (by rfl)) (fun _ _ _ _ _ => (pg_name (i := 13) sc_law.nd rfl (Or.inl rfl))) (fun _ _ _ _ _ => pts_nil) (fun _ _ _ _ _ => (pe_callTy k_str (by rfl) T.str (by decide +kernel) (pa_cons (c_var 13) pa_nil)))))))))
    (pss_cons (s_if (PW.pt (w_or (t_cmp (c_ne hu64) (e_fld (c_var 7)) (pe_callTy k_tuple (by rfl) T.tuple (by decide +kernel) (pa_cons (c_var 5) pa_nil)) (nomark _)) (w_or (t_cmp (c_ne hu64) (pe_callB (k_lenO (G_Day_len P W0 base T) T.b_Day_len pass0 (hr.mono (by decide)) T.i_Day_len T.j_Day_len) (by rfl) T.len PySem.boot_len (pa_cons (c_var 7) pa_nil)) (pe_callB k_len (by rfl) T.len PySem.boot_len (pa_cons (c_var 5) pa_nil)) (nomark _)) (w_or1 (t_cmp (c_ne hu64) (pe_callTy (k_strO (G_Day_str P W0 base T) T.b_Day_str pass0 (hr.mono (by decide)) T.i_Day_str T.j_Day_str) (by rfl) T.str (by decide +kernel) (pa_cons (c_var 7) pa_nil)) (c_var 8) (nomark _)))))) (pss_one (ps_ret pe_bl)) pss_nil)
    (pss_cons (s_if (PW.pt (w_or (t_cmp (c_neO (G_Day_eq P W0 base T) T.b_Day_eq pass0 (hr.mono (by decide)) T.c_Day.hm T.i_Day_eq T.i_Day_ne T.j_Day_eq) (e_make T.mk_Day (G_Day_init P W0 base T) (hr.mono (by decide)) (by rfl) T.c_Day.g T.b_Day_init .nil pass0 (pa_cons (pe_callTy k_tuple (by rfl) T.tuple (by decide +kernel) (pa_cons (c_var 5) pa_nil)) pa_nil)) (c_var 7) (nomark _)) (w_or (t_cmp (c_eqO (G_Day_eq P W0 base T) T.b_Day_eq pass0 (hr.mono (by decide)) T.i_Day_eq T.j_Day_eq) (c_var 7) (c_var 8) (nomark _)) (w_or1 (t_cmp (c_eqO (G_Day_eq P W0 base T) T.b_Day_eq pass0 (hr.mono (by decide)) T.i_Day_eq T.j_Day_eq) (c_var 7) (e_fld (c_var 7)) (nomark _)))))) (pss_one (ps_ret pe_bl)) pss_nil)
    (pss_cons (s_if (t_cmp (c_ne hu64) (e_lc (own := [("_law_at", 9)]) (by rfl) sc_law.nd (i_range1 (by rfl) T.range (pa_cons (pe_callB k_len (by rfl) T.len PySem.boot_len (pa_cons (c_var 5) pa_nil)) pa_nil)) (blkOk_by (own := [("_law_at", 9)]) (N := ["_law_script", "_law_k", "_law_box_here", "_law_before", "_law_turn", "_law_events_here", "_law_handed", "_law_made", "_law_text", "_law_at", "_law_kept", "_law_held", "_law_event", "_law_part"]) (sc := defScope s_law) (by decide +kernel)) (fun _ _ _ _ _ => (pg_name (i := 9) sc_law.nd rfl (Or.inl rfl))) (fun _ _ _ _ _ => pts_nil) (fun _ _ _ _ _ => (e_getO (G_Day_getitem P W0 base T) T.b_Day_getitem (pass_at pass0) (hr.mono (by decide)) T.i_Day_getitem T.j_Day_getitem T.fi_Day_getitem (c_var 7) (c_var 9)))) (c_var 5) (nomark _)) (pss_one (ps_ret pe_bl)) pss_nil)
    (pss_cons (s_for PassesOwn.never (by rfl) (i_val (e_tup (pa_cons (pe_un un_neg pe_int) (pa_cons (pe_callB k_len (by rfl) T.len PySem.boot_len (pa_cons (c_var 5) pa_nil)) (pa_cons (pe_op c_addG (pe_op c_addG (pe_callB k_len (by rfl) T.len PySem.boot_len (pa_cons (c_var 5) pa_nil)) pe_int) (e_call (G_l_take P W0 base T) (hr.mono (by decide)) (by rfl) T.g_l_take T.F_l_take.kp T.b_l_take .nil pass0 (pa_cons (c_var 2) (pa_cons pe_int pa_nil)))) pa_nil))))) (pg_name (i := 9) sc_law.nd rfl (Or.inl rfl)) (pss_one (s_if (t_not (t_truth (e_call (G_l_is_out P W0 base T) (hr.mono (by decide)) (by rfl) T.g_l_is_out T.F_l_is_out.kp T.b_l_is_out .nil pass0 (pa_cons (c_var 7) (pa_cons (c_var 9) pa_nil))) (fun _ => rfl))) (pss_one (ps_ret pe_bl)) pss_nil)))
    (pss_cons (s_par (i := 10) (j := 11) (by rfl) sc_law.nd rfl rfl (by decide) rfl rfl (pa_cons (pe_callTy (k_strO (G_Day_str P W0 base T) T.b_Day_str pass0 (hr.mono (by decide)) T.i_Day_str T.j_Day_str) (by rfl) T.str (by decide +kernel) (pa_cons (c_var 3) pa_nil)) (pa_cons (c_var 3) pa_nil)) (by rfl))
    (pss_cons (ps_aug (i := 11) sc_law.nd rfl (Or.inl rfl) (c_var 7) (ip_addO T.c_Day (G_Day_add P W0 base T) T.b_Day_add pass0 (hr.mono (by decide)) T.mi_Day T.ii_Day T.i_Day_add T.j_Day_add))
    (pss_cons (s_join (s_if (PW.pt (w_or (t_cmp (c_ne hu64) (pe_callTy (k_strO (G_Day_str P W0 base T) T.b_Day_str pass0 (hr.mono (by decide)) T.i_Day_str T.j_Day_str) (by rfl) T.str (by decide +kernel) (pa_cons (c_var 3) pa_nil)) (c_var 10) (nomark _)) (w_or (t_cmp (c_neO (G_Day_eq P W0 base T) T.b_Day_eq pass0 (hr.mono (by decide)) T.c_Day.hm T.i_Day_eq T.i_Day_ne T.j_Day_eq) (c_var 11) (pe_op (c_addO T.c_Day (G_Day_add P W0 base T) T.b_Day_add pass0 (hr.mono (by decide)) T.sf_Day T.i_Day_add T.j_Day_add) (c_var 3) (c_var 7)) (nomark _)) (w_or1 (t_cmp (c_ne hu64) (e_fld (c_var 11)) (pe_op c_catE (e_fld (c_var 3)) (e_fld (c_var 7))) (nomark _)))))) (pss_one (ps_ret pe_bl)) pss_nil))
    (pss_cons (s_if (PW.pt (w_or (t_cmp (c_ne hu64) (pe_cmpR (c_eqO (G_Day_eq P W0 base T) T.b_Day_eq pass0 (hr.mono (by decide)) T.i_Day_eq T.j_Day_eq) (c_var 3) (c_var 7) (nomark _)) (pe_cmpR (c_eq hu64) (pe_callTy (k_strO (G_Day_str P W0 base T) T.b_Day_str pass0 (hr.mono (by decide)) T.i_Day_str T.j_Day_str) (by rfl) T.str (by decide +kernel) (pa_cons (c_var 3) pa_nil)) (c_var 8) (nomark _)) (nomark _)) (w_or1 (t_cmp (c_ne hu64) (pe_cmpR (c_neO (G_Day_eq P W0 base T) T.b_Day_eq pass0 (hr.mono (by decide)) T.c_Day.hm T.i_Day_eq T.i_Day_ne T.j_Day_eq) (c_var 3) (c_var 7) (nomark _)) (pe_cmpR (c_ne hu64) (pe_callTy (k_strO (G_Day_str P W0 base T) T.b_Day_str pass0 (hr.mono (by decide)) T.i_Day_str T.j_Day_str) (by rfl) T.str (by decide +kernel) (pa_cons (c_var 3) pa_nil)) (c_var 8) (nomark _)) (nomark _))))) (pss_one (ps_ret pe_bl)) pss_nil)
    (pss_one (ps_set (i := 3) sc_law.nd rfl (Or.inl rfl) (c_var 7))))))))))))))))))))
    (pss_one (ps_ret (e_and (pe_cmpR (c_eq hu64) (pe_callB (k_lenO (G_Day_len P W0 base T) T.b_Day_len pass0 (hr.mono (by decide)) T.i_Day_len T.j_Day_len) (by rfl) T.len PySem.boot_len (pa_cons (e_make0 T.mk_Day (G_Day_init P W0 base T) (hr.mono (by decide)) (by rfl) T.c_Day.g b_Day_init_0 v_Day_init_0 pass0) pa_nil)) pe_int (nomark _)) (e_and (pe_cmpR (c_eq hu64) (pe_callTy (k_strO (G_Day_str P W0 base T) T.b_Day_str pass0 (hr.mono (by decide)) T.i_Day_str T.j_Day_str) (by rfl) T.str (by decide +kernel) (pa_cons (e_make0 T.mk_Day (G_Day_init P W0 base T) (hr.mono (by decide)) (by rfl) T.c_Day.g b_Day_init_0 v_Day_init_0 pass0) pa_nil)) pe_str (nomark _)) (pe_one (pe_cmpR (c_eqO (G_Day_eq P W0 base T) T.b_Day_eq pass0 (hr.mono (by decide)) T.i_Day_eq T.j_Day_eq) (e_make T.mk_Day (G_Day_init P W0 base T) (hr.mono (by decide)) (by rfl) T.c_Day.g T.b_Day_init .nil pass0 (pa_cons (e_lst pa_nil) pa_nil)) (e_make T.mk_Day (G_Day_init P W0 base T) (hr.mono (by decide)) (by rfl) T.c_Day.g T.b_Day_init .nil pass0 (pa_cons (e_tup pa_nil) pa_nil)) (nomark _)))))))), ?_⟩
    walk_at "go"
    refine fw_range (fun i σ H' => ∃ v1 v2 v3 v4 v5 v6 v7 v8 v9 v10 v11 v12 v13 : Option V, σ = [some (.ref a), v1, v2, v3, v4, v5, v6, v7, v8, v9, v10, v11, v12, v13] ∧ Own H' [] [seqI K a (ns.map V.int)]) ⟨_, _, _, _, _, _, _, _, _, _, _, _, _, rfl, hO⟩ ?_ ?_
    rotate_left
    · rintro σ H1 ⟨v1, v2, v3, v4, v5, v6, v7, v8, v9, v10, v11, v12, v13, rfl, w⟩
      walk_at "go"
      have w := (w.addI (stable_ks : Stable (ksI K [] (([] : List Ev).map Ev.d))) .nil).addI (stable_stay : Stable (stayI K T.e_Day_init [])) (.inr T.es_Day_init)
      refine ask_dayV (es := []) (k0 := false) rfl w (by walk_at "mem" : stayI K T.e_Day_init [] ∈ _) (by walk_at "mem" : ksI K [] (([] : List Ev).map Ev.d) ∈ _) (fun e m => (List.not_mem_nil m).elim) (fun r1 H2 w => ?_)
      walk_at "go"
      refine len_day w (by walk_at "mem" : dvI K T.C_Day r1 [] ∈ _) (by decide) (fun H3 w => ?_)
      walk_at "go"
      have w : Own H3 [] (ksI K [] (([] : List Ev).map Ev.d) :: stayI K T.e_Day_init [] :: seqI K a (ns.map V.int) :: []) := by walk_at "own"
      refine ask_dayV (es := []) (k0 := false) rfl w (by walk_at "mem" : stayI K T.e_Day_init [] ∈ _) (by walk_at "mem" : ksI K [] (([] : List Ev).map Ev.d) ∈ _) (fun e m => (List.not_mem_nil m).elim) (fun r2 H4 w => ?_)
      walk_at "go"
      refine owns_day (es := []) w (by walk_at "mem" : dvI K T.C_Day r2 [] ∈ _) (by walk_at "mem" : ksI K [] (([] : List Ev).map Ev.d) ∈ _) (fun e m => (List.not_mem_nil m).elim) (by decide) (fun H5 w => ?_)
      walk_at "go"
      refine ask_dayV (es := []) (k0 := true) rfl w ⟨_, (by walk_at "pull" : Pull _ (Ck.pt pp (.lst [])) _)⟩ (by walk_at "mem" : ksI K [] (([] : List Ev).map Ev.d) ∈ _) (fun e m => (List.not_mem_nil m).elim) (fun r3 H6 w => ?_)
      walk_at "go"
      have w := w.addI (S := stayI K pp []) stable_stay (.inl (w.get (by walk_at "pull" : Pull _ (Ck.pt pp (.tup [])) _)))
      refine ask_dayV (es := []) (k0 := false) rfl w (by walk_at "mem" : stayI K pp [] ∈ _) (by walk_at "mem" : ksI K [] (([] : List Ev).map Ev.d) ∈ _) (fun e m => (List.not_mem_nil m).elim) (fun r4 H7 w => ?_)
      walk_at "go"
      refine eqo_day (es := []) (fs := []) T.c_Day w (by walk_at "mem" : dvI K T.C_Day r3 [] ∈ _) (by walk_at "mem" : ksI K [] (([] : List Ev).map Ev.d) ∈ _) (by walk_at "mem" : dvI K T.C_Day r4 [] ∈ _) (by walk_at "mem" : ksI K [] (([] : List Ev).map Ev.d) ∈ _) ?_
      rw [decide_eq_true (rfl : ([] : List Ev) = [])]
      walk_at "go"
      exact q _
    rintro i σ H1 hi ⟨v1, v2, v3, v4, v5, v6, v7, v8, v9, v10, v11, v12, v13, rfl, e⟩
    walk_at "go"
    refine ask_box e List.mem_cons_self hl (by omega) (fun H2 b w => ?_)
    walk_at "go"
    have w := (w.addI (stable_ks : Stable (ksI K [] (([] : List Ev).map Ev.d))) .nil).addI (stable_stay : Stable (stayI K T.e_Day_init [])) (.inr T.es_Day_init)
    refine ask_dayV (es := []) (k0 := false) rfl w (by walk_at "mem" : stayI K T.e_Day_init [] ∈ _) (by walk_at "mem" : ksI K [] (([] : List Ev).map Ev.d) ∈ _) (fun e m => (List.not_mem_nil m).elim) (fun r0 H3 w => ?_)
    walk_at "go"
    refine fw_range (fun i2 σ H' => ∃ (v4 v5 v6 v7 v8 v9 v10 v11 v12 v13 : Option V) (rb : Addr) (xb : List V) (eb : List Ev), σ = [some (.ref a), some (.int (0 + (i : Int))), some (.ref b), some (.ref rb), v4, v5, v6, v7, v8, v9, v10, v11, v12, v13] ∧ ((∀ e ∈ eb, evU2 e) ∧ eb.length ≤ 30) ∧ Own H' (boxCk b :: []) (dvI K T.C_Day rb xb :: ksI K xb (eb.map Ev.d) :: seqI K a (ns.map V.int) :: [])) ⟨_, _, _, _, _, _, _, _, _, _, r0, [], [], rfl, ⟨fun e m => (List.not_mem_nil m).elim, by decide⟩, by walk_at "own"⟩ ?_ ?_
    rotate_left
    · rintro σ H4 ⟨v4, v5, v6, v7, v8, v9, v10, v11, v12, v13, rb, xb, eb, rfl, _, w⟩
      walk_at "go"
      exact ⟨_, _, _, _, _, _, _, _, _, _, _, _, _, rfl, by walk_at "own"⟩
    rintro i2 σ H4 hi2 ⟨v4, v5, v6, v7, v8, v9, v10, v11, v12, v13, rb, xb, eb, rfl, ⟨bu, bl⟩, w⟩
    walk_at "go"
    refine ask_evs6 w (by walk_at "pull") (by decide) (by decide) (fun H5 pe xs es eu el w => ?_)
    have el : es.length ≤ 30 := by omega
    have xl := (w.ids (by walk_at "mem" : idsI xs (es.map Ev.d) ∈ _)).len
    rw [List.length_map] at xl
    have w := w.addI (S := ksI K xs (es.map Ev.d)) stable_ks (IDpAll.idk _ _ (w.ids (by walk_at "mem" : idsI xs (es.map Ev.d) ∈ _)))
    walk_at "go"
    obtain ⟨ph, rfl⟩ : ∃ ph, ph = pp := ⟨_, rfl⟩
    refine ask_dayV (es := es) (k0 := true) rfl w ⟨_, (by walk_at "pull" : Pull _ (Ck.pt ph _) _)⟩ (by walk_at "mem" : ksI K xs (es.map Ev.d) ∈ _) (fun e m => (eu e m).u) (fun r H6 w => ?_)
    walk_at "go"
    have w : Own HH (.pt pe (.lst xs) :: boxCk b :: []) (dvI K T.C_Day r xs :: ksI K xs (es.map Ev.d) :: dvI K T.C_Day rb xb :: ksI K xb (eb.map Ev.d) :: seqI K a (ns.map V.int) :: []) := by walk_at "own"
    refine newa_o w (fun y w => ?_)
    refine la_list (xs := xs) (fun i H' => Own H' (.pt y (.lst (((es.take i).map evT).map V.str)) :: .pt pe (.lst xs) :: boxCk b :: []) (dvI K T.C_Day r xs :: ksI K xs (es.map Ev.d) :: dvI K T.C_Day rb xb :: ksI K xb (eb.map Ev.d) :: seqI K a (ns.map V.int) :: [])) w (fun i H' _ e => SqL.of (e.get (.tail .head))) ?_ ?_
    · rintro i3 x H7 hx w
      obtain ⟨e, he, hie⟩ := IDkAll.atF (w.imp (by walk_at "mem" : ksI K xs (es.map Ev.d) ∈ _)) hx
      obtain ⟨ea, rfl, ha⟩ := evk_at hie
      have ue := eu e (List.mem_of_getElem? he)
      have il := lt_get he
      have zl : (((es.take i3).map evT).map V.str).length ≤ 1000 := by rw [List.length_map, List.length_map, List.length_take]; omega
      have w := w.addI stable_stay ha
      walk_at "go"
      refine newa_o w (fun z w => ?_)
      cases e with
      | pass =>
        refine la_tup (xs := [.str "pass"]) (fun i H' => Own H' (.pt z (.lst ((([("pass" : Str)]).take i).map V.str)) :: .pt y (.lst (((es.take i3).map evT).map V.str)) :: .pt pe (.lst xs) :: boxCk b :: []) (stayI K ea [.str "pass"] :: (dvI K T.C_Day r xs :: ksI K xs (es.map Ev.d) :: dvI K T.C_Day rb xb :: ksI K xb (eb.map Ev.d) :: seqI K a (ns.map V.int) :: []))) w (fun i H' _ e => stay_sq e List.mem_cons_self) ?_ ?_
        · rintro i x H1 hx w
          have hi : i < 1 := lt_get hx
          obtain rfl : i = 0 := by omega
          cases hx
          walk_at "go"
          exact w
        · rintro H1 w
          walk_at "go"
          refine Join.mk ⟨["pass"], .inl (SqL.of (w.get (by walk_at "pull" : Pull _ (Ck.pt z _) _))), by decide +kernel, ?_⟩
          rw [show Txt.join (" " : Str) (["pass"] : List Str) = evT .pass by rw [TL.join_eq]; rfl]
          walk_at "go"
          rw [take_sn he, List.map_append, List.map_append]
          exact Own.subI (Own.pick w (by walk_at "pick")) (by walk_at "subi")
      | on wd u =>
        have hu2 : 0 ≤ u ∧ u < 100 := ue
        have sl2 := sh_len (n := u) (k := 2) hu2.1 (by decide) (by omega)
        have wl : wd.s.length ≤ 6 := by cases wd <;> decide +kernel
        refine la_tup (xs := [.str wd.s, .int u]) (fun i H' => Own H' (.pt z (.lst ((([wd.s, shN u] : List Str).take i).map V.str)) :: .pt y (.lst (((es.take i3).map evT).map V.str)) :: .pt pe (.lst xs) :: boxCk b :: []) (stayI K ea [.str wd.s, .int u] :: (dvI K T.C_Day r xs :: ksI K xs (es.map Ev.d) :: dvI K T.C_Day rb xb :: ksI K xb (eb.map Ev.d) :: seqI K a (ns.map V.int) :: []))) w (fun i H' _ e => stay_sq e List.mem_cons_self) ?_ ?_
        · rintro i x H1 hx w
          have hi : i < 2 := lt_get hx
          have hi2 : i = 0 ∨ i = 1 := by omega
          rcases hi2 with rfl | rfl
          · cases hx
            walk_at "go"
            exact w
          · cases hx
            walk_at "go"
            refine Chk.mk (log_of2 (by omega)) ?_
            walk_at "go"
            exact w
        · rintro H1 w
          walk_at "go"
          refine Join.mk ⟨[wd.s, shN u], .inl (SqL.of (w.get (by walk_at "pull" : Pull _ (Ck.pt z _) _))), ?_, ?_⟩
          · show wd.s.length + ((shN u).length + 0) + 2 * Str.length " " ≤ 16777216
            rw [show Str.length " " = 1 by decide +kernel]
            omega
          rw [show Txt.join (" " : Str) ([wd.s, shN u] : List Str) = evT (.on wd u) by rw [TL.join_eq]; rfl]
          walk_at "go"
          rw [take_sn he, List.map_append, List.map_append]
          exact Own.subI (Own.pick w (by walk_at "pick")) (by walk_at "subi")
    rintro H7 w
    rw [xl, List.take_length] at w
    walk_at "go"
    refine Join.mk ⟨es.map evT, .inl (SqL.of (w.get (by walk_at "pull" : Pull _ (Ck.pt y _) _))), ?_, ?_⟩
    · have := evT_sum eu
      rw [List.length_map, show Str.length "; " = 2 by decide +kernel]
      omega
    rw [show Txt.join ("; " : Str) (es.map evT) = dayT es from TL.join_eq _ _]
    have w : Own H7 (.pt pe (.lst xs) :: boxCk b :: []) (dvI K T.C_Day r xs :: ksI K xs (es.map Ev.d) :: dvI K T.C_Day rb xb :: ksI K xb (eb.map Ev.d) :: seqI K a (ns.map V.int) :: []) := by walk_at "own"
    walk_at "go"
    obtain ⟨dx, te, w⟩ := dv_open w (by walk_at "mem" : dvI K T.C_Day r xs ∈ _)
    walk_at "go"
    refine eqd_mk (d := .tuple (es.map Ev.d)) (e := .tuple (es.map Ev.d)) (.tup (stay_sq w (by walk_at "mem" : stayI K te xs ∈ _)) (IDkAll.dp _ _ (w.imp (by walk_at "mem" : ksI K xs (es.map Ev.d) ∈ _)))) (.tup (SqT.of (w.get (by walk_at "pull" : Pull _ (Ck.pt pp _) _))) (IDkAll.dp _ _ (w.imp (by walk_at "mem" : ksI K xs (es.map Ev.d) ∈ _)))) (evs_shaped _) (evs_shaped _) ?_
    rw [evs_tup, decide_eq_true rfl]
    walk_at "go"
    refine len_day w (by walk_at "mem" : dvI K T.C_Day r xs ∈ _) (by omega) (fun H8 w => ?_)
    walk_at "go"
    refine br_f (by rw [if_pos rfl, decide_eq_true rfl]; rfl) ?_
    walk_at "go"
    refine owns_day w (by walk_at "mem" : dvI K T.C_Day r xs ∈ _) (by walk_at "mem" : ksI K xs (es.map Ev.d) ∈ _) eu (by omega) (fun H9 w => ?_)
    walk_at "go"
    refine br_f (by rw [if_pos rfl, decide_eq_true rfl]; rfl) ?_
    have w : Own H9 (.pt pe (.lst xs) :: boxCk b :: []) (insI r T.C_Day dx [("events", .ref te)] :: stayI K te xs :: (dvI K T.C_Day r xs :: ksI K xs (es.map Ev.d) :: dvI K T.C_Day rb xb :: ksI K xb (eb.map Ev.d) :: seqI K a (ns.map V.int) :: [])) := by walk_at "own"
    walk_at "go"
    have w := w.addI (S := stayI K pp xs) stable_stay (.inl (w.get (by walk_at "pull" : Pull _ (Ck.pt pp _) _)))
    refine ask_dayV (es := es) (k0 := false) rfl w (by walk_at "mem" : stayI K pp xs ∈ _) (by walk_at "mem" : ksI K xs (es.map Ev.d) ∈ _) (fun e m => (eu e m).u) (fun r1 H10 w => ?_)
    walk_at "go"
    refine eqo_day (es := es) (fs := es) T.c_Day w (by walk_at "mem" : dvI K T.C_Day r1 xs ∈ _) (by walk_at "mem" : ksI K xs (es.map Ev.d) ∈ _) (by walk_at "mem" : dvI K T.C_Day r xs ∈ _) (by walk_at "mem" : ksI K xs (es.map Ev.d) ∈ _) ?_
    rw [decide_eq_true (rfl : es = es)]
    walk_at "go"
    have w : Own H10 (.pt pe (.lst xs) :: boxCk b :: []) (insI r T.C_Day dx [("events", .ref te)] :: stayI K te xs :: (dvI K T.C_Day r xs :: ksI K xs (es.map Ev.d) :: dvI K T.C_Day rb xb :: ksI K xb (eb.map Ev.d) :: seqI K a (ns.map V.int) :: [])) := by walk_at "own"
    refine eqx_day w (by walk_at "mem" : dvI K T.C_Day r xs ∈ _) (by walk_at "mem" : ksI K xs (es.map Ev.d) ∈ _) (.base (.str _)) T.nf_str T.ks_Day ?_
    walk_at "go"
    have ty : TyX K H10 (.ref te) (.type "tuple") := by
      rcases w.imp (by walk_at "mem" : stayI K te xs ∈ _) with h | h
      · exact .base (.tup h)
      · rcases h (fun _ => none) with (z | ⟨_, z⟩) | ⟨_, _, _, z, co, _⟩
        · cases z
        · cases z
        · exact .kTuple z co
    refine eqx_day w (by walk_at "mem" : dvI K T.C_Day r xs ∈ _) (by walk_at "mem" : ksI K xs (es.map Ev.d) ∈ _) ty T.nf_tup T.kt_Day ?_
    walk_at "go"
    have w : Own H10 (.pt pe (.lst xs) :: boxCk b :: []) (dvI K T.C_Day r xs :: ksI K xs (es.map Ev.d) :: dvI K T.C_Day rb xb :: ksI K xb (eb.map Ev.d) :: seqI K a (ns.map V.int) :: []) := by walk_at "own"
    refine newa_o w (fun y2 w => ?_)
    refine la_range (fun i H' => Own H' (.pt y2 (.lst (xs.take i)) :: .pt pe (.lst xs) :: boxCk b :: []) (dvI K T.C_Day r xs :: ksI K xs (es.map Ev.d) :: dvI K T.C_Day rb xb :: ksI K xb (eb.map Ev.d) :: seqI K a (ns.map V.int) :: [])) w ?_ ?_
    · rintro i3 H11 hi3 w
      have il : i3 < xs.length := by omega
      have hx : xs[i3]? = some (xs[i3]'il) := List.getElem?_eq_getElem _
      obtain ⟨x, hxd⟩ : ∃ x, x = xs[i3]'il := ⟨_, rfl⟩
      rw [← hxd] at hx
      have hx2 : xs[0 + i3]? = some x := by rw [Nat.zero_add]; exact hx
      walk_at "go"
      refine get_day w (by walk_at "mem" : dvI K T.C_Day r xs ∈ _) hx2 (fun H12 w => ?_)
      have tl : (xs.take i3).length ≤ 30 := by rw [List.length_take]; omega
      walk_at "go"
      rw [take_sn hx]
      exact w
    rintro H11 w
    have w : Own H11 (.pt y2 (.lst xs) :: .pt pe (.lst xs) :: boxCk b :: []) (dvI K T.C_Day r xs :: ksI K xs (es.map Ev.d) :: dvI K T.C_Day rb xb :: ksI K xb (eb.map Ev.d) :: seqI K a (ns.map V.int) :: []) := by
      have := w
      rwa [show xs.take _ = xs from List.take_of_length_le (by omega)] at this
    walk_at "go"
    refine eqd_mk (d := .list (es.map Ev.d)) (e := .list (es.map Ev.d)) (.lst (SqL.of (w.get (by walk_at "pull" : Pull _ (Ck.pt y2 _) _))) (IDkAll.dp _ _ (w.imp (by walk_at "mem" : ksI K xs (es.map Ev.d) ∈ _)))) (.lst (SqL.of (w.get (by walk_at "pull" : Pull _ (Ck.pt pe _) _))) (IDkAll.dp _ _ (w.imp (by walk_at "mem" : ksI K xs (es.map Ev.d) ∈ _)))) (evl_shaped _) (evl_shaped _) ?_
    rw [evl_eqv, decide_eq_true rfl]
    walk_at "go"
    refine ask_take (n := 9) w (by walk_at "pull") (by decide) (by decide) (fun H12 d d0 d1 w => ?_)
    walk_at "go"
    have w : Own HH (.pt pp (.tup [.int (-1), .int (xs.length : Nat), .int ((xs.length : Nat) + 1 + d)]) :: .pt pe (.lst xs) :: boxCk b :: []) (dvI K T.C_Day r xs :: ksI K xs (es.map Ev.d) :: dvI K T.C_Day rb xb :: ksI K xb (eb.map Ev.d) :: seqI K a (ns.map V.int) :: []) := by walk_at "own"
    refine fw_tup (xs := [.int (-1), .int (xs.length : Nat), .int ((xs.length : Nat) + 1 + d)]) (fun i3 σ H' => ∃ v9 v10 v11 v12 v13 : Option V, σ = [some (.ref a), some (.int (0 + (i : Int))), some (.ref b), some (.ref rb), some (.int (0 + (i2 : Int))), some (.ref pe), some (.ref ph), some (.ref r), some (.str (dayT es)), v9, v10, v11, v12, v13] ∧ Own H' (.pt pp (.tup [.int (-1), .int (xs.length : Nat), .int ((xs.length : Nat) + 1 + d)]) :: .pt pe (.lst xs) :: boxCk b :: []) (dvI K T.C_Day r xs :: ksI K xs (es.map Ev.d) :: dvI K T.C_Day rb xb :: ksI K xb (eb.map Ev.d) :: seqI K a (ns.map V.int) :: [])) ⟨_, _, _, _, _, rfl, w⟩ (fun i3 σ H' _ ⟨_, _, _, _, _, _, e⟩ => SqT.of e.hd) ?_ ?_
    · rintro i3 x σ H13 hx ⟨v9, v10, v11, v12, v13, rfl, w⟩
      have hi3 : i3 < 3 := lt_get hx
      have hi3 : i3 = 0 ∨ i3 = 1 ∨ i3 = 2 := by omega
      rcases hi3 with rfl | rfl | rfl
      · cases hx
        walk_at "go"
        refine ask_out6 w (by walk_at "mem" : dvI K T.C_Day r xs ∈ _) (by omega) (.inl (by decide)) (fun H14 w => ?_)
        walk_at "go"
        exact ⟨_, _, _, _, _, rfl, w⟩
      · cases hx
        walk_at "go"
        refine ask_out6 w (by walk_at "mem" : dvI K T.C_Day r xs ∈ _) (by omega) (.inr (Int.le_refl _)) (fun H14 w => ?_)
        walk_at "go"
        exact ⟨_, _, _, _, _, rfl, w⟩
      · cases hx
        walk_at "go"
        refine ask_out6 w (by walk_at "mem" : dvI K T.C_Day r xs ∈ _) (by omega) (.inr (by omega)) (fun H14 w => ?_)
        walk_at "go"
        exact ⟨_, _, _, _, _, rfl, w⟩
    rintro σ H13 ⟨v9, v10, v11, v12, v13, rfl, w⟩
    have w : Own H13 (.pt pe (.lst xs) :: boxCk b :: []) (dvI K T.C_Day r xs :: ksI K xs (es.map Ev.d) :: dvI K T.C_Day rb xb :: ksI K xb (eb.map Ev.d) :: seqI K a (ns.map V.int) :: []) := by walk_at "own"
    have xbl := (w.imp (by walk_at "mem" : ksI K xb (eb.map Ev.d) ∈ _)).len
    rw [List.length_map] at xbl
    have uu : ∀ e ∈ eb ++ es, evU e := fun e m => (List.mem_append.mp m).elim (fun m => (bu e m).u) (fun m => (eu e m).u)
    walk_at "go"
    refine owns_day w (by walk_at "mem" : dvI K T.C_Day rb xb ∈ _) (by walk_at "mem" : ksI K xb (eb.map Ev.d) ∈ _) bu (by omega) (fun H14 w => ?_)
    walk_at "go"
    refine add_day w (by walk_at "mem" : dvI K T.C_Day rb xb ∈ _) (by walk_at "mem" : ksI K xb (eb.map Ev.d) ∈ _) (by walk_at "mem" : dvI K T.C_Day r xs ∈ _) (by walk_at "mem" : ksI K xs (es.map Ev.d) ∈ _) uu (by omega) (fun H15 rh w => ?_)
    walk_at "go"
    refine join_by (fun σ' H' => ∃ v9 v10 v11 v12 v13 : Option V, σ' = [some (.ref a), some (.int (0 + (i : Int))), some (.ref b), some (.ref rb), some (.int (0 + (i2 : Int))), some (.ref pe), some (.ref ph), some (.ref r), some (.str (dayT es)), v9, v10, v11, v12, v13] ∧ Own H' (.pt pe (.lst xs) :: boxCk b :: []) (dvI K T.C_Day r xs :: ksI K xs (es.map Ev.d) :: dvI K T.C_Day rb xb :: ksI K xb (eb.map Ev.d) :: seqI K a (ns.map V.int) :: [])) ?_ ?_
    · walk_at "go"
      refine owns_day w (by walk_at "mem" : dvI K T.C_Day rb xb ∈ _) (by walk_at "mem" : ksI K xb (eb.map Ev.d) ∈ _) bu (by omega) (fun H16 w => ?_)
      walk_at "go"
      refine br_f (by rw [if_pos rfl, decide_eq_true rfl]; rfl) ?_
      walk_at "go"
      refine add_day w (by walk_at "mem" : dvI K T.C_Day rb xb ∈ _) (by walk_at "mem" : ksI K xb (eb.map Ev.d) ∈ _) (by walk_at "mem" : dvI K T.C_Day r xs ∈ _) (by walk_at "mem" : ksI K xs (es.map Ev.d) ∈ _) uu (by omega) (fun H17 rk w => ?_)
      walk_at "go"
      refine eqo_day (es := eb ++ es) (fs := eb ++ es) T.c_Day w (by walk_at "mem" : dvI K T.C_Day rh (xb ++ xs) ∈ _) (by walk_at "mem" : ksI K (xb ++ xs) ((eb ++ es).map Ev.d) ∈ _) (by walk_at "mem" : dvI K T.C_Day rk (xb ++ xs) ∈ _) (by walk_at "mem" : ksI K (xb ++ xs) ((eb ++ es).map Ev.d) ∈ _) ?_
      rw [decide_eq_true (rfl : eb ++ es = eb ++ es)]
      walk_at "go"
      have w : Own H17 (.pt pe (.lst xs) :: boxCk b :: []) (dvI K T.C_Day rh (xb ++ xs) :: ksI K (xb ++ xs) ((eb ++ es).map Ev.d) :: (dvI K T.C_Day r xs :: ksI K xs (es.map Ev.d) :: dvI K T.C_Day rb xb :: ksI K xb (eb.map Ev.d) :: seqI K a (ns.map V.int) :: [])) := by walk_at "own"
      obtain ⟨dh, th, w⟩ := dv_open w (by walk_at "mem" : dvI K T.C_Day rh (xb ++ xs) ∈ _)
      obtain ⟨db, tb, w⟩ := dv_open w (by walk_at "mem" : dvI K T.C_Day rb xb ∈ _)
      obtain ⟨dm, tm, w⟩ := dv_open w (by walk_at "mem" : dvI K T.C_Day r xs ∈ _)
      walk_at "go"
      have d0 := stay_sq w (by walk_at "mem" : stayI K tb xb ∈ _)
      have d1 := stay_sq w (by walk_at "mem" : stayI K tm xs ∈ _)
      have kd : IDkAll K H17 (xb ++ xs) ((eb ++ es).map Ev.d) := w.imp (by walk_at "mem" : ksI K (xb ++ xs) ((eb ++ es).map Ev.d) ∈ _)
      have dph : Dp K H17 (.ref th) (.tuple ((eb ++ es).map Ev.d)) := .tup (stay_sq w (by walk_at "mem" : stayI K th (xb ++ xs) ∈ _)) (IDkAll.dp _ _ kd)
      refine CatE.mk ⟨xb, xs, d0, d1, by omega, fun z => ?_, fun z y => ?_, fun z y => ?_⟩
      · have e0 : eb = [] := by subst z; exact List.length_eq_zero_iff.mp xbl.symm
        subst e0
        subst z
        (conv => whnf)
        have d2 : Dp K H17 (.ref tm) (.tuple (([] ++ es).map Ev.d)) := .tup (xs := xs) d1 (IDkAll.dp _ _ kd)
        refine eqd_mk dph d2 (evs_shaped _) (evs_shaped _) ?_
        rw [evs_tup, decide_eq_true rfl]
        walk_at "go"
        exact ⟨_, _, _, _, _, rfl, by walk_at "own"⟩
      · have e0 : es = [] := by subst y; exact List.length_eq_zero_iff.mp xl.symm
        subst e0
        subst y
        have d0 : SqT K H17 tb (xb ++ []) := by rw [List.append_nil]; exact d0
        (conv => whnf)
        have d2 : Dp K H17 (.ref tb) (.tuple ((eb ++ []).map Ev.d)) := .tup (xs := xb ++ []) d0 (IDkAll.dp _ _ kd)
        refine eqd_mk dph d2 (evs_shaped _) (evs_shaped _) ?_
        rw [evs_tup, decide_eq_true rfl]
        walk_at "go"
        exact ⟨_, _, _, _, _, rfl, by walk_at "own"⟩
      · walk_at "go"
        refine eqd_mk (d := .tuple ((eb ++ es).map Ev.d)) (e := .tuple ((eb ++ es).map Ev.d)) (.tup (stay_sq w (by walk_at "mem" : stayI K th (xb ++ xs) ∈ _)) (IDkAll.dp _ _ (w.imp (by walk_at "mem" : ksI K (xb ++ xs) ((eb ++ es).map Ev.d) ∈ _)))) (.tup (SqT.of (w.get (by walk_at "pull" : Pull _ (Ck.pt pp _) _))) (IDkAll.dp _ _ (w.imp (by walk_at "mem" : ksI K (xb ++ xs) ((eb ++ es).map Ev.d) ∈ _)))) (evs_shaped _) (evs_shaped _) ?_
        rw [evs_tup, decide_eq_true rfl]
        walk_at "go"
        exact ⟨_, _, _, _, _, rfl, by walk_at "own"⟩
    rintro σ H18 ⟨v9, v10, v11, v12, v13, rfl, w⟩
    have dd := dayT_dec bu eu
    walk_at "go"
    refine eqo_day (es := eb) (fs := es) T.c_Day w (by walk_at "mem" : dvI K T.C_Day rb xb ∈ _) (by walk_at "mem" : ksI K xb (eb.map Ev.d) ∈ _) (by walk_at "mem" : dvI K T.C_Day r xs ∈ _) (by walk_at "mem" : ksI K xs (es.map Ev.d) ∈ _) ?_
    walk_at "go"
    refine owns_day w (by walk_at "mem" : dvI K T.C_Day rb xb ∈ _) (by walk_at "mem" : ksI K xb (eb.map Ev.d) ∈ _) bu (by omega) (fun H19 w => ?_)
    walk_at "go"
    refine br_f (by show (!decide (V.bl (decide (eb = es)) = V.bl (decide (V.str (dayT eb) = V.str (dayT es))))) = false; rw [dd, decide_eq_true rfl]; rfl) ?_
    walk_at "go"
    refine eqo_day (es := eb) (fs := es) T.c_Day w (by walk_at "mem" : dvI K T.C_Day rb xb ∈ _) (by walk_at "mem" : ksI K xb (eb.map Ev.d) ∈ _) (by walk_at "mem" : dvI K T.C_Day r xs ∈ _) (by walk_at "mem" : ksI K xs (es.map Ev.d) ∈ _) ?_
    walk_at "go"
    refine owns_day w (by walk_at "mem" : dvI K T.C_Day rb xb ∈ _) (by walk_at "mem" : ksI K xb (eb.map Ev.d) ∈ _) bu (by omega) (fun H20 w => ?_)
    walk_at "go"
    refine br_f (by show (!decide (V.bl (!decide (eb = es)) = V.bl (!decide (V.str (dayT eb) = V.str (dayT es))))) = false; rw [dd, decide_eq_true rfl]; rfl) ?_
    walk_at "go"
    exact ⟨_, _, _, _, _, _, _, _, _, _, r, xs, es, rfl, ⟨eu, el⟩, by walk_at "own"⟩
end
end My
set_option Elab.async false
set_option linter.all false
set_option maxRecDepth 100000
set_option maxHeartbeats 800000
namespace My
open PySem PySem.Spec PyProof.Rows L2 RZ SkE CL OW
theorem b6_of {K : PySem.W.Frag} {fd : FuncData} {ps : List Str} (h : ∃ ds, Vals [] ds ∧ Binds K fd ps ds) : Binds K fd ps [] := by
  obtain ⟨ds, v, b⟩ := h
  cases v
  exact b
theorem all_mk {l : PySem.W.OpenLaw} {w : World} {K : PySem.W.Frag} {h : Heap} {mg : Str → Option Value} {fa f_law C_Day C_SeatError C_InvalidDay C_InvalidText f_is_integer_from f_is_sequence f_InvalidDay_init f_is_event f_first_wrong f_event_text f_Day_init Td_Day_init Te_Day_init f_Day_len f_Day_getitem f_Day_add f_Day_eq f_Day_str f_l_box f_l_take f_l_pick f_l_events f_l_is_out a_PASS a_USER_WORDS : Addr} (X : K.In h) (G : h.Ns mainGlobals mg) (hfa : mg "law" = some (.ref fa))
    {od_is_integer_from an_is_integer_from od_is_sequence an_is_sequence od_InvalidDay_init an_InvalidDay_init od_is_event an_is_event od_first_wrong an_first_wrong od_event_text an_event_text od_Day_init an_Day_init odT_Day_init odE_Day_init od_Day_len an_Day_len od_Day_getitem an_Day_getitem od_Day_add an_Day_add od_Day_eq an_Day_eq od_Day_str an_Day_str od_l_box an_l_box od_l_take an_l_take od_l_pick an_l_pick od_l_events an_l_events od_l_is_out an_l_is_out od_law an_law odC_PASS odC_USER_WORDS : Option Addr} {sl_is_integer_from sl_is_sequence sl_InvalidDay_init sl_is_event sl_first_wrong sl_event_text sl_Day_init slT_Day_init slE_Day_init sl_Day_len sl_Day_getitem sl_Day_add sl_Day_eq sl_Day_str sl_l_box sl_l_take sl_l_pick sl_l_events sl_l_is_out sl_law slC_PASS slC_USER_WORDS : Array (Option Value)} {oc_is_integer_from kV_is_integer_from dc_is_integer_from pm_is_integer_from cd_is_integer_from ct_is_integer_from oc_is_sequence kV_is_sequence dc_is_sequence pm_is_sequence cd_is_sequence ct_is_sequence oc_InvalidDay_init kV_InvalidDay_init dc_InvalidDay_init pm_InvalidDay_init cd_InvalidDay_init ct_InvalidDay_init oc_is_event kV_is_event dc_is_event pm_is_event cd_is_event ct_is_event oc_first_wrong kV_first_wrong dc_first_wrong pm_first_wrong cd_first_wrong ct_first_wrong oc_event_text kV_event_text dc_event_text pm_event_text cd_event_text ct_event_text oc_Day_init kV_Day_init dc_Day_init pm_Day_init cd_Day_init ct_Day_init ocT_Day_init oc_Day_len kV_Day_len dc_Day_len pm_Day_len cd_Day_len ct_Day_len oc_Day_getitem kV_Day_getitem dc_Day_getitem pm_Day_getitem cd_Day_getitem ct_Day_getitem oc_Day_add kV_Day_add dc_Day_add pm_Day_add cd_Day_add ct_Day_add oc_Day_eq kV_Day_eq dc_Day_eq pm_Day_eq cd_Day_eq ct_Day_eq oc_Day_str kV_Day_str dc_Day_str pm_Day_str cd_Day_str ct_Day_str oc_l_box kV_l_box dc_l_box pm_l_box cd_l_box ct_l_box oc_l_take kV_l_take dc_l_take pm_l_take cd_l_take ct_l_take oc_l_pick kV_l_pick dc_l_pick pm_l_pick cd_l_pick ct_l_pick oc_l_events kV_l_events dc_l_events pm_l_events cd_l_events ct_l_events oc_l_is_out kV_l_is_out dc_l_is_out pm_l_is_out cd_l_is_out ct_l_is_out oc_law kV_law dc_law pm_law cd_law ct_law : Value} {mT_Day_init mE_Day_init mC_PASS mC_USER_WORDS : Nat} {tc0_PASS tc0_USER_WORDS tc1_USER_WORDS tc2_USER_WORDS tc3_USER_WORDS tc4_USER_WORDS tc5_USER_WORDS tc6_USER_WORDS : Tok}
    {nm_InvalidDay q_InvalidDay : Str} {N_InvalidDay : Addr} {bs_InvalidDay : List Value} {sn_InvalidDay : List Str} {sub_InvalidDay : List Value} {ab_InvalidDay : Bool} {col_InvalidDay : Option Bool} {dd_InvalidDay : Option Addr} {m0_InvalidDay m1_InvalidDay m2_InvalidDay m3_InvalidDay m5_InvalidDay : Option Value}
    (aC_Day : PySem.W.nsIn K mainGlobals "Day" = some (some (.ref C_Day)))
    (pg_Day : PySem.W.plainGet K C_Day Str.empty = true)
    (hd_Day : PySem.W.hasDictIn K C_Day = true)
    (po_Day : PySem.W.plainOver K C_Day = true)
    (sa_Day : PySem.W.findIn K (.ref C_Day) "__setattr__" = some (some (.builtin "object.__setattr__")))
    (mk_Day : PySem.W.makesIn K C_Day = true)
    (kc_Day : PySem.W.keepIn K (.ref C_Day) = true)
    (ha_Day : PySem.W.findIn K (.ref C_Day) "__class__" = some (some (.builtin "object.__class__")))
    (hm_Day : PySem.W.mroIn K C_Day (.type "object") = some true)
    (na_Day_events : PySem.W.findIn K (.ref C_Day) "events" = some none)
    (aC_SeatError : PySem.W.nsIn K mainGlobals "SeatError" = some (some (.ref C_SeatError)))
    (aC_InvalidDay : PySem.W.nsIn K mainGlobals "InvalidDay" = some (some (.ref C_InvalidDay)))
    (aC_InvalidText : PySem.W.nsIn K mainGlobals "InvalidText" = some (some (.ref C_InvalidText)))
    (xL_InvalidDay : K.lookup C_InvalidDay = some (excClassObj nm_InvalidDay q_InvalidDay C_InvalidDay N_InvalidDay bs_InvalidDay [.ref C_SeatError, .type "ValueError", .type "Exception", .type "BaseException", .type "object"] true sn_InvalidDay sub_InvalidDay ab_InvalidDay col_InvalidDay dd_InvalidDay m0_InvalidDay m1_InvalidDay m2_InvalidDay m3_InvalidDay m5_InvalidDay "ValueError.__new__"))
    (sa_InvalidDay : PySem.W.findIn K (.ref C_InvalidDay) "__setattr__" = some (some (.builtin "object.__setattr__")))
    (ga_InvalidDay : PySem.W.findIn K (.ref C_InvalidDay) "__getattribute__" = some (some (.builtin "BaseException.__getattribute__")))
    (gg_InvalidDay : PySem.W.findIn K (.ref C_InvalidDay) "__getattr__" = some none)
    (kC_InvalidDay : PySem.W.keepIn K (.ref C_InvalidDay) = true)
    (eC_InvalidDay : PySem.W.subIn K (.ref C_InvalidDay) (.type "BaseException") = some true)
    (tC_InvalidDay : PySem.W.typeIn K (.ref C_InvalidDay) = some (.type "type"))
    (hC_InvalidDay : PySem.W.hasDictIn K C_InvalidDay = true)
    (ha_InvalidDay : PySem.W.findIn K (.ref C_InvalidDay) "__class__" = some (some (.builtin "object.__class__")))
    (hm_InvalidDay : PySem.W.mroIn K C_InvalidDay (.type "object") = some true)
    (nb_InvalidDay : PySem.W.findIn K (.ref C_InvalidDay) "at" = some none)
    (sC_InvalidDay : PySem.W.subIn K (.ref C_InvalidDay) (.ref C_InvalidDay) = some true)
    (kit_InvalidDay_SeatError : PySem.W.kitOne K (.ref C_InvalidDay) (.ref C_SeatError) = some true)
    (kit_InvalidDay_InvalidText : PySem.W.kitOne K (.ref C_InvalidDay) (.ref C_InvalidText) = some false)
    (hn_ : PySem.W.specialIn K (.builtin "object.__class__") "__get__" = some (some (.builtin "getset_descriptor.__get__")))
    (ht_ : PySem.W.takesIn K (.builtin "object.__class__") = some true)
    (a_is_integer_from : PySem.W.nsIn K mainGlobals "is_integer_from" = some (some (.ref f_is_integer_from)))
    (l_is_integer_from : K.lookup f_is_integer_from = some ⟨oc_is_integer_from, od_is_integer_from, .func (PySem.W.fnOf "is_integer_from" "is_integer_from" (defArgs s_is_integer_from) (defBody s_is_integer_from) (defScope s_is_integer_from) .none kV_is_integer_from dc_is_integer_from pm_is_integer_from an_is_integer_from cd_is_integer_from ct_is_integer_from), sl_is_integer_from⟩)
    (cI_is_integer_from : PySem.W.codeIn K cd_is_integer_from "is_integer_from" = true)
    (k_is_integer_from : PySem.W.keepIn K (.ref f_is_integer_from) = true)
    (a_is_sequence : PySem.W.nsIn K mainGlobals "is_sequence" = some (some (.ref f_is_sequence)))
    (l_is_sequence : K.lookup f_is_sequence = some ⟨oc_is_sequence, od_is_sequence, .func (PySem.W.fnOf "is_sequence" "is_sequence" (defArgs s_is_sequence) (defBody s_is_sequence) (defScope s_is_sequence) .none kV_is_sequence dc_is_sequence pm_is_sequence an_is_sequence cd_is_sequence ct_is_sequence), sl_is_sequence⟩)
    (cI_is_sequence : PySem.W.codeIn K cd_is_sequence "is_sequence" = true)
    (k_is_sequence : PySem.W.keepIn K (.ref f_is_sequence) = true)
    (a_InvalidDay_init : PySem.W.findIn K (.ref C_InvalidDay) "__init__" = some (some (.ref f_InvalidDay_init)))
    (t_InvalidDay_init : PySem.W.typeIn K (.ref f_InvalidDay_init) = some (.type "function"))
    (l_InvalidDay_init : K.lookup f_InvalidDay_init = some ⟨oc_InvalidDay_init, od_InvalidDay_init, .func (PySem.W.fnOf "__init__" "InvalidDay.__init__" (defArgs s_InvalidDay_init) (defBody s_InvalidDay_init) (defScope s_InvalidDay_init) .none kV_InvalidDay_init dc_InvalidDay_init pm_InvalidDay_init an_InvalidDay_init cd_InvalidDay_init ct_InvalidDay_init), sl_InvalidDay_init⟩)
    (cI_InvalidDay_init : PySem.W.codeIn K cd_InvalidDay_init "InvalidDay.__init__" = true)
    (k_InvalidDay_init : PySem.W.keepIn K (.ref f_InvalidDay_init) = true)
    (a_is_event : PySem.W.nsIn K mainGlobals "is_event" = some (some (.ref f_is_event)))
    (l_is_event : K.lookup f_is_event = some ⟨oc_is_event, od_is_event, .func (PySem.W.fnOf "is_event" "is_event" (defArgs s_is_event) (defBody s_is_event) (defScope s_is_event) .none kV_is_event dc_is_event pm_is_event an_is_event cd_is_event ct_is_event), sl_is_event⟩)
    (cI_is_event : PySem.W.codeIn K cd_is_event "is_event" = true)
    (k_is_event : PySem.W.keepIn K (.ref f_is_event) = true)
    (a_first_wrong : PySem.W.nsIn K mainGlobals "first_wrong" = some (some (.ref f_first_wrong)))
    (l_first_wrong : K.lookup f_first_wrong = some ⟨oc_first_wrong, od_first_wrong, .func (PySem.W.fnOf "first_wrong" "first_wrong" (defArgs s_first_wrong) (defBody s_first_wrong) (defScope s_first_wrong) .none kV_first_wrong dc_first_wrong pm_first_wrong an_first_wrong cd_first_wrong ct_first_wrong), sl_first_wrong⟩)
    (cI_first_wrong : PySem.W.codeIn K cd_first_wrong "first_wrong" = true)
    (k_first_wrong : PySem.W.keepIn K (.ref f_first_wrong) = true)
    (a_event_text : PySem.W.nsIn K mainGlobals "event_text" = some (some (.ref f_event_text)))
    (l_event_text : K.lookup f_event_text = some ⟨oc_event_text, od_event_text, .func (PySem.W.fnOf "event_text" "event_text" (defArgs s_event_text) (defBody s_event_text) (defScope s_event_text) .none kV_event_text dc_event_text pm_event_text an_event_text cd_event_text ct_event_text), sl_event_text⟩)
    (cI_event_text : PySem.W.codeIn K cd_event_text "event_text" = true)
    (k_event_text : PySem.W.keepIn K (.ref f_event_text) = true)
    (a_Day_init : PySem.W.findIn K (.ref C_Day) "__init__" = some (some (.ref f_Day_init)))
    (i_Day_init : PySem.W.isFn K (.ref f_Day_init) = true)
    (l_Day_init : K.lookup f_Day_init = some ⟨oc_Day_init, od_Day_init, .func (PySem.W.fnOf "__init__" "Day.__init__" (defArgs s_Day_init) (defBody s_Day_init) (defScope s_Day_init) (.ref Td_Day_init) kV_Day_init dc_Day_init pm_Day_init an_Day_init cd_Day_init ct_Day_init), sl_Day_init⟩)
    (cI_Day_init : PySem.W.codeIn K cd_Day_init "Day.__init__" = true)
    (k_Day_init : PySem.W.keepIn K (.ref f_Day_init) = true)
    (lT_Day_init : K.lookup Td_Day_init = some ⟨ocT_Day_init, odT_Day_init, .seq #[.ref Te_Day_init] mT_Day_init, slT_Day_init⟩)
    (lE_Day_init : K.lookup Te_Day_init = some ⟨.type "tuple", odE_Day_init, .seq #[] mE_Day_init, slE_Day_init⟩)
    (a_Day_len : PySem.W.findIn K (.ref C_Day) "__len__" = some (some (.ref f_Day_len)))
    (i_Day_len : PySem.W.isFn K (.ref f_Day_len) = true)
    (l_Day_len : K.lookup f_Day_len = some ⟨oc_Day_len, od_Day_len, .func (PySem.W.fnOf "__len__" "Day.__len__" (defArgs s_Day_len) (defBody s_Day_len) (defScope s_Day_len) .none kV_Day_len dc_Day_len pm_Day_len an_Day_len cd_Day_len ct_Day_len), sl_Day_len⟩)
    (cI_Day_len : PySem.W.codeIn K cd_Day_len "Day.__len__" = true)
    (k_Day_len : PySem.W.keepIn K (.ref f_Day_len) = true)
    (a_Day_getitem : PySem.W.findIn K (.ref C_Day) "__getitem__" = some (some (.ref f_Day_getitem)))
    (i_Day_getitem : PySem.W.isFn K (.ref f_Day_getitem) = true)
    (l_Day_getitem : K.lookup f_Day_getitem = some ⟨oc_Day_getitem, od_Day_getitem, .func (PySem.W.fnOf "__getitem__" "Day.__getitem__" (defArgs s_Day_getitem) (defBody s_Day_getitem) (defScope s_Day_getitem) .none kV_Day_getitem dc_Day_getitem pm_Day_getitem an_Day_getitem cd_Day_getitem ct_Day_getitem), sl_Day_getitem⟩)
    (cI_Day_getitem : PySem.W.codeIn K cd_Day_getitem "Day.__getitem__" = true)
    (k_Day_getitem : PySem.W.keepIn K (.ref f_Day_getitem) = true)
    (a_Day_add : PySem.W.findIn K (.ref C_Day) "__add__" = some (some (.ref f_Day_add)))
    (i_Day_add : PySem.W.isFn K (.ref f_Day_add) = true)
    (l_Day_add : K.lookup f_Day_add = some ⟨oc_Day_add, od_Day_add, .func (PySem.W.fnOf "__add__" "Day.__add__" (defArgs s_Day_add) (defBody s_Day_add) (defScope s_Day_add) .none kV_Day_add dc_Day_add pm_Day_add an_Day_add cd_Day_add ct_Day_add), sl_Day_add⟩)
    (cI_Day_add : PySem.W.codeIn K cd_Day_add "Day.__add__" = true)
    (k_Day_add : PySem.W.keepIn K (.ref f_Day_add) = true)
    (a_Day_eq : PySem.W.findIn K (.ref C_Day) "__eq__" = some (some (.ref f_Day_eq)))
    (i_Day_eq : PySem.W.isFn K (.ref f_Day_eq) = true)
    (ne_Day : PySem.W.findIn K (.ref C_Day) "__ne__" = some (some (.builtin "object.__ne__")))
    (l_Day_eq : K.lookup f_Day_eq = some ⟨oc_Day_eq, od_Day_eq, .func (PySem.W.fnOf "__eq__" "Day.__eq__" (defArgs s_Day_eq) (defBody s_Day_eq) (defScope s_Day_eq) .none kV_Day_eq dc_Day_eq pm_Day_eq an_Day_eq cd_Day_eq ct_Day_eq), sl_Day_eq⟩)
    (cI_Day_eq : PySem.W.codeIn K cd_Day_eq "Day.__eq__" = true)
    (k_Day_eq : PySem.W.keepIn K (.ref f_Day_eq) = true)
    (a_Day_str : PySem.W.findIn K (.ref C_Day) "__str__" = some (some (.ref f_Day_str)))
    (i_Day_str : PySem.W.isFn K (.ref f_Day_str) = true)
    (l_Day_str : K.lookup f_Day_str = some ⟨oc_Day_str, od_Day_str, .func (PySem.W.fnOf "__str__" "Day.__str__" (defArgs s_Day_str) (defBody s_Day_str) (defScope s_Day_str) .none kV_Day_str dc_Day_str pm_Day_str an_Day_str cd_Day_str ct_Day_str), sl_Day_str⟩)
    (cI_Day_str : PySem.W.codeIn K cd_Day_str "Day.__str__" = true)
    (k_Day_str : PySem.W.keepIn K (.ref f_Day_str) = true)
    (a_l_box : PySem.W.nsIn K mainGlobals "_law_box" = some (some (.ref f_l_box)))
    (l_l_box : K.lookup f_l_box = some ⟨oc_l_box, od_l_box, .func (PySem.W.fnOf "_law_box" "_law_box" (defArgs s_l_box) (defBody s_l_box) (defScope s_l_box) .none kV_l_box dc_l_box pm_l_box an_l_box cd_l_box ct_l_box), sl_l_box⟩)
    (cI_l_box : PySem.W.codeIn K cd_l_box "_law_box" = true)
    (k_l_box : PySem.W.keepIn K (.ref f_l_box) = true)
    (a_l_take : PySem.W.nsIn K mainGlobals "_law_take" = some (some (.ref f_l_take)))
    (l_l_take : K.lookup f_l_take = some ⟨oc_l_take, od_l_take, .func (PySem.W.fnOf "_law_take" "_law_take" (defArgs s_l_take) (defBody s_l_take) (defScope s_l_take) .none kV_l_take dc_l_take pm_l_take an_l_take cd_l_take ct_l_take), sl_l_take⟩)
    (cI_l_take : PySem.W.codeIn K cd_l_take "_law_take" = true)
    (k_l_take : PySem.W.keepIn K (.ref f_l_take) = true)
    (a_l_pick : PySem.W.nsIn K mainGlobals "_law_pick" = some (some (.ref f_l_pick)))
    (l_l_pick : K.lookup f_l_pick = some ⟨oc_l_pick, od_l_pick, .func (PySem.W.fnOf "_law_pick" "_law_pick" (defArgs s_l_pick) (defBody s_l_pick) (defScope s_l_pick) .none kV_l_pick dc_l_pick pm_l_pick an_l_pick cd_l_pick ct_l_pick), sl_l_pick⟩)
    (cI_l_pick : PySem.W.codeIn K cd_l_pick "_law_pick" = true)
    (k_l_pick : PySem.W.keepIn K (.ref f_l_pick) = true)
    (a_l_events : PySem.W.nsIn K mainGlobals "_law_events" = some (some (.ref f_l_events)))
    (l_l_events : K.lookup f_l_events = some ⟨oc_l_events, od_l_events, .func (PySem.W.fnOf "_law_events" "_law_events" (defArgs s_l_events) (defBody s_l_events) (defScope s_l_events) .none kV_l_events dc_l_events pm_l_events an_l_events cd_l_events ct_l_events), sl_l_events⟩)
    (cI_l_events : PySem.W.codeIn K cd_l_events "_law_events" = true)
    (k_l_events : PySem.W.keepIn K (.ref f_l_events) = true)
    (a_l_is_out : PySem.W.nsIn K mainGlobals "_law_is_out" = some (some (.ref f_l_is_out)))
    (l_l_is_out : K.lookup f_l_is_out = some ⟨oc_l_is_out, od_l_is_out, .func (PySem.W.fnOf "_law_is_out" "_law_is_out" (defArgs s_l_is_out) (defBody s_l_is_out) (defScope s_l_is_out) .none kV_l_is_out dc_l_is_out pm_l_is_out an_l_is_out cd_l_is_out ct_l_is_out), sl_l_is_out⟩)
    (cI_l_is_out : PySem.W.codeIn K cd_l_is_out "_law_is_out" = true)
    (k_l_is_out : PySem.W.keepIn K (.ref f_l_is_out) = true)
    (a_law : PySem.W.nsIn K mainGlobals "law" = some (some (.ref f_law)))
    (l_law : K.lookup f_law = some ⟨oc_law, od_law, .func (PySem.W.fnOf "law" "law" (defArgs s_law) (defBody s_law) (defScope s_law) .none kV_law dc_law pm_law an_law cd_law ct_law), sl_law⟩)
    (cI_law : PySem.W.codeIn K cd_law "law" = true)
    (k_law : PySem.W.keepIn K (.ref f_law) = true)
    (z_range : PySem.W.nsIn K mainGlobals "range" = some none)
    (z_max : PySem.W.nsIn K mainGlobals "max" = some none)
    (z_min : PySem.W.nsIn K mainGlobals "min" = some none)
    (z_list : PySem.W.nsIn K mainGlobals "list" = some none)
    (z_len : PySem.W.nsIn K mainGlobals "len" = some none)
    (z_str : PySem.W.nsIn K mainGlobals "str" = some none)
    (z_tuple : PySem.W.nsIn K mainGlobals "tuple" = some none)
    (z_abs : PySem.W.nsIn K mainGlobals "abs" = some none)
    (z_int : PySem.W.nsIn K mainGlobals "int" = some none)
    (z_isinstance : PySem.W.nsIn K mainGlobals "isinstance" = some none)
    (z_enumerate : PySem.W.nsIn K mainGlobals "enumerate" = some none)
    (z_bool : PySem.W.nsIn K mainGlobals "bool" = some none)
    (gc_PASS : PySem.W.nsIn K mainGlobals "PASS" = some (some (.ref a_PASS)))
    (lC_PASS : K.lookup a_PASS = some ⟨.type "tuple", odC_PASS, .seq #[.str "pass" tc0_PASS] mC_PASS, slC_PASS⟩)
    (gc_USER_WORDS : PySem.W.nsIn K mainGlobals "USER_WORDS" = some (some (.ref a_USER_WORDS)))
    (lC_USER_WORDS : K.lookup a_USER_WORDS = some ⟨.type "tuple", odC_USER_WORDS, .seq #[.str "borrow" tc0_USER_WORDS, .str "word" tc1_USER_WORDS, .str "back" tc2_USER_WORDS, .str "crash" tc3_USER_WORDS, .str "stop" tc4_USER_WORDS, .str "cut" tc5_USER_WORDS, .str "join" tc6_USER_WORDS] mC_USER_WORDS, slC_USER_WORDS⟩)
    (x_nf_str : PySem.W.notFirst K C_Day (.type "str") = true)
    (x_nf_tup : PySem.W.notFirst K C_Day (.type "tuple") = true)
    (x_ks_Day : PySem.W.kitOne K (.type "str") (.ref C_Day) = some false)
    (x_kt_Day : PySem.W.kitOne K (.type "tuple") (.ref C_Day) = some false)
    (x_sf_Day : PySem.W.selfFirst K C_Day = true)
    (x_fi_Day_getitem : PySem.W.fnIn K f_Day_getitem = true)
    (x_mi_Day : ((PySem.W.clsIn K C_Day).any fun cd => cd.mro == [.ref C_Day, .type "object"]) = true)
    (x_ii_Day : PySem.W.findIn K (.ref C_Day) "__iadd__" = some none) :
    ∃ fd : FuncData, (∀ (s : Shared) (v : Value), BindsTo s fd ⟨[v], []⟩ [("_law_script", v)]) ∧ ∀ base : Heap, K.In base → base.Ns mainGlobals mg → FnG l.prog w K mg base CX0 9 fa fd ["_law_script"] (spLaw K) := by
  have e := hfa.symm.trans (PySem.W.mg_of X G a_law)
  cases e
  have F_is_integer_from := fun_mk (st := s_is_integer_from) l_is_integer_from cI_is_integer_from k_is_integer_from
  have b_is_integer_from := F_is_integer_from.binds (ps := ["value", "least"]) fun _ _ _ _ _ _ us hl => match us, hl with | [_, _], _ => rfl
  have F_is_sequence := fun_mk (st := s_is_sequence) l_is_sequence cI_is_sequence k_is_sequence
  have b_is_sequence := F_is_sequence.binds (ps := ["value"]) fun _ _ _ _ _ _ us hl => match us, hl with | [_], _ => rfl
  have F_InvalidDay_init := fun_mk (st := s_InvalidDay_init) l_InvalidDay_init cI_InvalidDay_init k_InvalidDay_init
  have b_InvalidDay_init := F_InvalidDay_init.binds (ps := ["self", "at"]) fun _ _ _ _ _ _ us hl => match us, hl with | [_, _], _ => rfl
  have F_is_event := fun_mk (st := s_is_event) l_is_event cI_is_event k_is_event
  have b_is_event := F_is_event.binds (ps := ["value"]) fun _ _ _ _ _ _ us hl => match us, hl with | [_], _ => rfl
  have F_first_wrong := fun_mk (st := s_first_wrong) l_first_wrong cI_first_wrong k_first_wrong
  have b_first_wrong := F_first_wrong.binds (ps := ["values"]) fun _ _ _ _ _ _ us hl => match us, hl with | [_], _ => rfl
  have F_event_text := fun_mk (st := s_event_text) l_event_text cI_event_text k_event_text
  have b_event_text := F_event_text.binds (ps := ["event"]) fun _ _ _ _ _ _ us hl => match us, hl with | [_], _ => rfl
  have F_Day_init : FunD K "__init__" "Day.__init__" (defArgs s_Day_init) (defBody s_Day_init) (defScope s_Day_init) [.ref Te_Day_init] [] f_Day_init (PySem.W.fnOf "__init__" "Day.__init__" (defArgs s_Day_init) (defBody s_Day_init) (defScope s_Day_init) (.ref Td_Day_init) kV_Day_init dc_Day_init pm_Day_init an_Day_init cd_Day_init ct_Day_init) := ⟨⟨_, _, _, _, _, _, _, _, _, _, rfl, l_Day_init, cI_Day_init, .inr ⟨by simp, Td_Day_init, _, [.ref Te_Day_init], mT_Day_init, rfl, lT_Day_init, rfl, .cons rfl .nil⟩, .inl rfl⟩, k_Day_init⟩
  have bd_Day_init := F_Day_init.binds1 (ps := ["self", "events"]) 1 0 (by simp) rfl (fun _ _ _ _ _ _ _ us its hl ht => match us, its, hl, ht with | [_], [_], _, _ => ⟨_, rfl, rfl⟩)
  have b_Day_init := b6_of (F_Day_init.binds1 (ps := ["self", "events"]) 2 1 (by simp) rfl (fun _ _ _ _ _ _ _ us its hl ht => match us, its, hl, ht with | [_, _], [_], _, _ => ⟨_, rfl, rfl⟩))
  have F_Day_len := fun_mk (st := s_Day_len) l_Day_len cI_Day_len k_Day_len
  have b_Day_len := F_Day_len.binds (ps := ["self"]) fun _ _ _ _ _ _ us hl => match us, hl with | [_], _ => rfl
  have F_Day_getitem := fun_mk (st := s_Day_getitem) l_Day_getitem cI_Day_getitem k_Day_getitem
  have b_Day_getitem := F_Day_getitem.binds (ps := ["self", "at"]) fun _ _ _ _ _ _ us hl => match us, hl with | [_, _], _ => rfl
  have F_Day_add := fun_mk (st := s_Day_add) l_Day_add cI_Day_add k_Day_add
  have b_Day_add := F_Day_add.binds (ps := ["self", "other"]) fun _ _ _ _ _ _ us hl => match us, hl with | [_, _], _ => rfl
  have F_Day_eq := fun_mk (st := s_Day_eq) l_Day_eq cI_Day_eq k_Day_eq
  have b_Day_eq := F_Day_eq.binds (ps := ["self", "other"]) fun _ _ _ _ _ _ us hl => match us, hl with | [_, _], _ => rfl
  have F_Day_str := fun_mk (st := s_Day_str) l_Day_str cI_Day_str k_Day_str
  have b_Day_str := F_Day_str.binds (ps := ["self"]) fun _ _ _ _ _ _ us hl => match us, hl with | [_], _ => rfl
  have F_l_box := fun_mk (st := s_l_box) l_l_box cI_l_box k_l_box
  have b_l_box := F_l_box.binds (ps := ["_law_script", "_law_k", "_law_own"]) fun _ _ _ _ _ _ us hl => match us, hl with | [_, _, _], _ => rfl
  have F_l_take := fun_mk (st := s_l_take) l_l_take cI_l_take k_l_take
  have b_l_take := F_l_take.binds (ps := ["_law_box_here", "_law_bound"]) fun _ _ _ _ _ _ us hl => match us, hl with | [_, _], _ => rfl
  have F_l_pick := fun_mk (st := s_l_pick) l_l_pick cI_l_pick k_l_pick
  have b_l_pick := F_l_pick.binds (ps := ["_law_box_here", "_law_items"]) fun _ _ _ _ _ _ us hl => match us, hl with | [_, _], _ => rfl
  have F_l_events := fun_mk (st := s_l_events) l_l_events cI_l_events k_l_events
  have b_l_events := F_l_events.binds (ps := ["_law_box_here", "_law_many"]) fun _ _ _ _ _ _ us hl => match us, hl with | [_, _], _ => rfl
  have F_l_is_out := fun_mk (st := s_l_is_out) l_l_is_out cI_l_is_out k_l_is_out
  have b_l_is_out := F_l_is_out.binds (ps := ["_law_made", "_law_at"]) fun _ _ _ _ _ _ us hl => match us, hl with | [_, _], _ => rfl
  have F_law := fun_mk (st := s_law) l_law cI_law k_law
  have b_law := F_law.binds (ps := ["_law_script"]) fun _ _ _ _ _ _ us hl => match us, hl with | [_], _ => rfl
  exact ⟨PySem.W.fnOf "law" "law" (defArgs s_law) (defBody s_law) (defScope s_law) .none kV_law dc_law pm_law an_law cd_law ct_law, fun s v => .of_eq rfl, fun base _ _ => G_law l.prog w base ({
    range := PySem.W.mg_none_of X G z_range
    max := PySem.W.mg_none_of X G z_max
    min := PySem.W.mg_none_of X G z_min
    list := PySem.W.mg_none_of X G z_list
    len := PySem.W.mg_none_of X G z_len
    str := PySem.W.mg_none_of X G z_str
    tuple := PySem.W.mg_none_of X G z_tuple
    abs := PySem.W.mg_none_of X G z_abs
    int := PySem.W.mg_none_of X G z_int
    isinstance := PySem.W.mg_none_of X G z_isinstance
    enumerate := PySem.W.mg_none_of X G z_enumerate
    bool := PySem.W.mg_none_of X G z_bool
    C_Day := C_Day
    c_Day := ⟨PySem.W.mg_of X G aC_Day, ⟨pg_Day, hd_Day, po_Day, sa_Day⟩, ha_Day, hn_, ht_, hm_Day⟩
    na_Day_events := na_Day_events
    C_SeatError := C_SeatError
    ge_SeatError := PySem.W.mg_of X G aC_SeatError
    C_InvalidDay := C_InvalidDay
    ge_InvalidDay := PySem.W.mg_of X G aC_InvalidDay
    C_InvalidText := C_InvalidText
    ge_InvalidText := PySem.W.mg_of X G aC_InvalidText
    xo_InvalidDay := ⟨⟨nm_InvalidDay, q_InvalidDay, N_InvalidDay, bs_InvalidDay, _, sn_InvalidDay, sub_InvalidDay, ab_InvalidDay, col_InvalidDay, dd_InvalidDay, m0_InvalidDay, m1_InvalidDay, m2_InvalidDay, m3_InvalidDay, m5_InvalidDay, xL_InvalidDay, by show PySem.HandSPX.refsVE PySem.HandSPX.veTail = true; decide +kernel⟩, sa_InvalidDay, eC_InvalidDay, tC_InvalidDay, kC_InvalidDay⟩
    xf_InvalidDay := ⟨ga_InvalidDay, gg_InvalidDay, eC_InvalidDay, hC_InvalidDay⟩
    xc_InvalidDay := ⟨ga_InvalidDay, gg_InvalidDay, eC_InvalidDay, hC_InvalidDay, ha_InvalidDay, hn_, ht_, hm_InvalidDay⟩
    xn_InvalidDay := nb_InvalidDay
    xm_InvalidDay := PySem.W.exm_ref eC_InvalidDay hC_InvalidDay tC_InvalidDay sC_InvalidDay
    xi_InvalidDay := a_InvalidDay_init
    xt_InvalidDay := t_InvalidDay_init
    kit_InvalidDay_SeatError := kit_InvalidDay_SeatError
    kit_InvalidDay_InvalidText := kit_InvalidDay_InvalidText
    f_is_integer_from := f_is_integer_from
    d_is_integer_from := _
    F_is_integer_from := F_is_integer_from
    b_is_integer_from := b_is_integer_from
    g_is_integer_from := PySem.W.mg_of X G a_is_integer_from
    f_is_sequence := f_is_sequence
    d_is_sequence := _
    F_is_sequence := F_is_sequence
    b_is_sequence := b_is_sequence
    g_is_sequence := PySem.W.mg_of X G a_is_sequence
    f_InvalidDay_init := f_InvalidDay_init
    d_InvalidDay_init := _
    F_InvalidDay_init := F_InvalidDay_init
    b_InvalidDay_init := b_InvalidDay_init
    f_is_event := f_is_event
    d_is_event := _
    F_is_event := F_is_event
    b_is_event := b_is_event
    g_is_event := PySem.W.mg_of X G a_is_event
    f_first_wrong := f_first_wrong
    d_first_wrong := _
    F_first_wrong := F_first_wrong
    b_first_wrong := b_first_wrong
    g_first_wrong := PySem.W.mg_of X G a_first_wrong
    f_event_text := f_event_text
    d_event_text := _
    F_event_text := F_event_text
    b_event_text := b_event_text
    g_event_text := PySem.W.mg_of X G a_event_text
    f_Day_init := f_Day_init
    d_Day_init := _
    F_Day_init := F_Day_init
    b_Day_init := b_Day_init
    e_Day_init := Te_Day_init
    el_Day_init := ⟨_, lE_Day_init, rfl⟩
    es_Day_init := fun _ => .inr ⟨_, _, _, lE_Day_init, rfl, rfl, Nat.le_of_ble_eq_true rfl, .nil⟩
    bd_Day_init := bd_Day_init
    mk_Day := ⟨mk_Day, a_Day_init, i_Day_init, kc_Day⟩
    f_Day_len := f_Day_len
    d_Day_len := _
    F_Day_len := F_Day_len
    b_Day_len := b_Day_len
    i_Day_len := a_Day_len
    j_Day_len := i_Day_len
    f_Day_getitem := f_Day_getitem
    d_Day_getitem := _
    F_Day_getitem := F_Day_getitem
    b_Day_getitem := b_Day_getitem
    i_Day_getitem := a_Day_getitem
    j_Day_getitem := i_Day_getitem
    f_Day_add := f_Day_add
    d_Day_add := _
    F_Day_add := F_Day_add
    b_Day_add := b_Day_add
    i_Day_add := a_Day_add
    j_Day_add := i_Day_add
    f_Day_eq := f_Day_eq
    d_Day_eq := _
    F_Day_eq := F_Day_eq
    b_Day_eq := b_Day_eq
    i_Day_eq := a_Day_eq
    j_Day_eq := i_Day_eq
    i_Day_ne := ne_Day
    f_Day_str := f_Day_str
    d_Day_str := _
    F_Day_str := F_Day_str
    b_Day_str := b_Day_str
    i_Day_str := a_Day_str
    j_Day_str := i_Day_str
    f_l_box := f_l_box
    d_l_box := _
    F_l_box := F_l_box
    b_l_box := b_l_box
    g_l_box := PySem.W.mg_of X G a_l_box
    f_l_take := f_l_take
    d_l_take := _
    F_l_take := F_l_take
    b_l_take := b_l_take
    g_l_take := PySem.W.mg_of X G a_l_take
    f_l_pick := f_l_pick
    d_l_pick := _
    F_l_pick := F_l_pick
    b_l_pick := b_l_pick
    g_l_pick := PySem.W.mg_of X G a_l_pick
    f_l_events := f_l_events
    d_l_events := _
    F_l_events := F_l_events
    b_l_events := b_l_events
    g_l_events := PySem.W.mg_of X G a_l_events
    f_l_is_out := f_l_is_out
    d_l_is_out := _
    F_l_is_out := F_l_is_out
    b_l_is_out := b_l_is_out
    g_l_is_out := PySem.W.mg_of X G a_l_is_out
    f_law := fa
    d_law := _
    F_law := F_law
    b_law := b_law
    g_law := PySem.W.mg_of X G a_law
    a_PASS := a_PASS
    g_PASS := PySem.W.mg_of X G gc_PASS
    s_PASS := fun _ => .inr ⟨_, _, _, lC_PASS, rfl, rfl, Nat.le_of_ble_eq_true rfl, (.cons ⟨_, rfl⟩ .nil)⟩
    a_USER_WORDS := a_USER_WORDS
    g_USER_WORDS := PySem.W.mg_of X G gc_USER_WORDS
    s_USER_WORDS := fun _ => .inr ⟨_, _, _, lC_USER_WORDS, rfl, rfl, Nat.le_of_ble_eq_true rfl, (.cons ⟨_, rfl⟩ (.cons ⟨_, rfl⟩ (.cons ⟨_, rfl⟩ (.cons ⟨_, rfl⟩ (.cons ⟨_, rfl⟩ (.cons ⟨_, rfl⟩ (.cons ⟨_, rfl⟩ .nil)))))))⟩
    nf_str := x_nf_str
    nf_tup := x_nf_tup
    ks_Day := x_ks_Day
    kt_Day := x_kt_Day
    sf_Day := x_sf_Day
    fi_Day_getitem := x_fi_Day_getitem
    mi_Day := x_mi_Day
    ii_Day := x_ii_Day } : Tx w K mg)⟩
theorem walk {l : PySem.W.OpenLaw} {q : Program} {loose : List Str} {XP : (Str → Option Value) → Heap → Prop} {YP : World → Heap → Prop} {d : DefRec} {K : Params → PySem.W.Frag} (hn : l.most = some 63) (hdf : d.params.defaults = [])
    (hY : ∀ (w : World) (h : Heap), YP w h → (K w.params).In h)
    (F : ∀ (w : World) (mg : Str → Option Value) (fa : Addr) (h : Heap), (K w.params).In h → h.Ns mainGlobals mg → mg d.name = some (.ref fa) →
      ∃ fd : FuncData, (∀ (s : Shared) (u : Value), BindsTo s fd ⟨[u], []⟩ [("_law_script", u)]) ∧ ∀ base : Heap, (K w.params).In base → base.Ns mainGlobals mg → FnG l.prog w (K w.params) mg base CX0 9 fa fd ["_law_script"] (spLaw (K w.params))) :
    PySem.W.WalkO q loose XP YP l.row.toRowW d [] (fun f vs => PySem.call f vs) :=
  OW.walkS (n := 63) (k := 9) (x := "_law_script") (sp := fun w => spLaw (K w.params)) hn (by decide) hdf ⟨rfl, by decide, by decide⟩ hY F fun _ _ a ns hl hS => ⟨a, ns, rfl, hS, hl, fun _ => rfl⟩
end My
end
open PySem PySem.W PyProof.Rows in
set_option maxRecDepth 100000 in
set_option maxHeartbeats 0 in
theorem PySem.Challenge.cw_lapseseats_k06_days_made_holds : PySem.Challenge.rw_lapseseats_k06_days_made.Holds := by
  w_on; o_law; k_head; (case hw => w_witness2)
  k_fill
  refine My.walk (l := PySem.Challenge.rw_lapseseats_k06_days_made) rfl rfl (fun w h Y => PySem.W.kIn_of Y) ?F
  case F =>
    intro w mg fa h KX G hmg
    refine' My.all_mk KX G hmg ?aC_Day ?pg_Day ?hd_Day ?po_Day ?sa_Day ?mk_Day ?kc_Day ?ha_Day ?hm_Day ?na_Day_events ?aC_SeatError ?aC_InvalidDay ?aC_InvalidText ?xL_InvalidDay ?sa_InvalidDay ?ga_InvalidDay ?gg_InvalidDay ?kC_InvalidDay ?eC_InvalidDay ?tC_InvalidDay ?hC_InvalidDay ?ha_InvalidDay ?hm_InvalidDay ?nb_InvalidDay ?sC_InvalidDay ?kit_InvalidDay_SeatError ?kit_InvalidDay_InvalidText ?hn_ ?ht_ ?a_is_integer_from ?l_is_integer_from ?cI_is_integer_from ?k_is_integer_from ?a_is_sequence ?l_is_sequence ?cI_is_sequence ?k_is_sequence ?a_InvalidDay_init ?t_InvalidDay_init ?l_InvalidDay_init ?cI_InvalidDay_init ?k_InvalidDay_init ?a_is_event ?l_is_event ?cI_is_event ?k_is_event ?a_first_wrong ?l_first_wrong ?cI_first_wrong ?k_first_wrong ?a_event_text ?l_event_text ?cI_event_text ?k_event_text ?a_Day_init ?i_Day_init ?l_Day_init ?cI_Day_init ?k_Day_init ?lT_Day_init ?lE_Day_init ?a_Day_len ?i_Day_len ?l_Day_len ?cI_Day_len ?k_Day_len ?a_Day_getitem ?i_Day_getitem ?l_Day_getitem ?cI_Day_getitem ?k_Day_getitem ?a_Day_add ?i_Day_add ?l_Day_add ?cI_Day_add ?k_Day_add ?a_Day_eq ?i_Day_eq ?ne_Day ?l_Day_eq ?cI_Day_eq ?k_Day_eq ?a_Day_str ?i_Day_str ?l_Day_str ?cI_Day_str ?k_Day_str ?a_l_box ?l_l_box ?cI_l_box ?k_l_box ?a_l_take ?l_l_take ?cI_l_take ?k_l_take ?a_l_pick ?l_l_pick ?cI_l_pick ?k_l_pick ?a_l_events ?l_l_events ?cI_l_events ?k_l_events ?a_l_is_out ?l_l_is_out ?cI_l_is_out ?k_l_is_out ?a_law ?l_law ?cI_law ?k_law ?z_range ?z_max ?z_min ?z_list ?z_len ?z_str ?z_tuple ?z_abs ?z_int ?z_isinstance ?z_enumerate ?z_bool ?gc_PASS ?lC_PASS ?gc_USER_WORDS ?lC_USER_WORDS ?x_nf_str ?x_nf_tup ?x_ks_Day ?x_kt_Day ?x_sf_Day ?x_fi_Day_getitem ?x_mi_Day ?x_ii_Day
    (case aC_Day => first | k_is | rfl | decide +kernel)
    (case pg_Day => first | k_is | rfl | decide +kernel)
    (case hd_Day => first | k_is | rfl | decide +kernel)
    (case po_Day => first | k_is | rfl | decide +kernel)
    (case sa_Day => first | k_is | rfl | decide +kernel)
    (case mk_Day => first | k_is | rfl | decide +kernel)
    (case kc_Day => first | k_is | rfl | decide +kernel)
    (case ha_Day => first | k_is | rfl | decide +kernel)
    (case hm_Day => first | k_is | rfl | decide +kernel)
    (case na_Day_events => first | k_is | rfl | decide +kernel)
    (case aC_SeatError => first | k_is | rfl | decide +kernel)
    (case aC_InvalidDay => first | k_is | rfl | decide +kernel)
    (case aC_InvalidText => first | k_is | rfl | decide +kernel)
    (case xL_InvalidDay => first | k_is | rfl | decide +kernel)
    (case sa_InvalidDay => first | k_is | rfl | decide +kernel)
    (case ga_InvalidDay => first | k_is | rfl | decide +kernel)
    (case gg_InvalidDay => first | k_is | rfl | decide +kernel)
    (case kC_InvalidDay => first | k_is | rfl | decide +kernel)
    (case eC_InvalidDay => first | k_is | rfl | decide +kernel)
    (case tC_InvalidDay => first | k_is | rfl | decide +kernel)
    (case hC_InvalidDay => first | k_is | rfl | decide +kernel)
    (case ha_InvalidDay => first | k_is | rfl | decide +kernel)
    (case hm_InvalidDay => first | k_is | rfl | decide +kernel)
    (case nb_InvalidDay => first | k_is | rfl | decide +kernel)
    (case sC_InvalidDay => first | k_is | rfl | decide +kernel)
    (case kit_InvalidDay_SeatError => first | k_is | rfl | decide +kernel)
    (case kit_InvalidDay_InvalidText => first | k_is | rfl | decide +kernel)
    (case hn_ => first | k_is | rfl | decide +kernel)
    (case ht_ => first | k_is | rfl | decide +kernel)
    (case a_is_integer_from => first | k_is | rfl | decide +kernel)
    (case l_is_integer_from => first | k_is | rfl | decide +kernel)
    (case cI_is_integer_from => first | k_is | rfl | decide +kernel)
    (case k_is_integer_from => first | k_is | rfl | decide +kernel)
    (case a_is_sequence => first | k_is | rfl | decide +kernel)
    (case l_is_sequence => first | k_is | rfl | decide +kernel)
    (case cI_is_sequence => first | k_is | rfl | decide +kernel)
    (case k_is_sequence => first | k_is | rfl | decide +kernel)
    (case a_InvalidDay_init => first | k_is | rfl | decide +kernel)
    (case t_InvalidDay_init => first | k_is | rfl | decide +kernel)
    (case l_InvalidDay_init => first | k_is | rfl | decide +kernel)
    (case cI_InvalidDay_init => first | k_is | rfl | decide +kernel)
    (case k_InvalidDay_init => first | k_is | rfl | decide +kernel)
    (case a_is_event => first | k_is | rfl | decide +kernel)
    (case l_is_event => first | k_is | rfl | decide +kernel)
    (case cI_is_event => first | k_is | rfl | decide +kernel)
    (case k_is_event => first | k_is | rfl | decide +kernel)
    (case a_first_wrong => first | k_is | rfl | decide +kernel)
    (case l_first_wrong => first | k_is | rfl | decide +kernel)
    (case cI_first_wrong => first | k_is | rfl | decide +kernel)
    (case k_first_wrong => first | k_is | rfl | decide +kernel)
    (case a_event_text => first | k_is | rfl | decide +kernel)
    (case l_event_text => first | k_is | rfl | decide +kernel)
    (case cI_event_text => first | k_is | rfl | decide +kernel)
    (case k_event_text => first | k_is | rfl | decide +kernel)
    (case a_Day_init => first | k_is | rfl | decide +kernel)
    (case i_Day_init => first | k_is | rfl | decide +kernel)
    (case l_Day_init => first | k_is | rfl | decide +kernel)
    (case cI_Day_init => first | k_is | rfl | decide +kernel)
    (case k_Day_init => first | k_is | rfl | decide +kernel)
    (case lT_Day_init => first | k_is | rfl | decide +kernel)
    (case lE_Day_init => first | k_is | rfl | decide +kernel)
    (case a_Day_len => first | k_is | rfl | decide +kernel)
    (case i_Day_len => first | k_is | rfl | decide +kernel)
    (case l_Day_len => first | k_is | rfl | decide +kernel)
    (case cI_Day_len => first | k_is | rfl | decide +kernel)
    (case k_Day_len => first | k_is | rfl | decide +kernel)
    (case a_Day_getitem => first | k_is | rfl | decide +kernel)
    (case i_Day_getitem => first | k_is | rfl | decide +kernel)
    (case l_Day_getitem => first | k_is | rfl | decide +kernel)
    (case cI_Day_getitem => first | k_is | rfl | decide +kernel)
    (case k_Day_getitem => first | k_is | rfl | decide +kernel)
    (case a_Day_add => first | k_is | rfl | decide +kernel)
    (case i_Day_add => first | k_is | rfl | decide +kernel)
    (case l_Day_add => first | k_is | rfl | decide +kernel)
    (case cI_Day_add => first | k_is | rfl | decide +kernel)
    (case k_Day_add => first | k_is | rfl | decide +kernel)
    (case a_Day_eq => first | k_is | rfl | decide +kernel)
    (case i_Day_eq => first | k_is | rfl | decide +kernel)
    (case ne_Day => first | k_is | rfl | decide +kernel)
    (case l_Day_eq => first | k_is | rfl | decide +kernel)
    (case cI_Day_eq => first | k_is | rfl | decide +kernel)
    (case k_Day_eq => first | k_is | rfl | decide +kernel)
    (case a_Day_str => first | k_is | rfl | decide +kernel)
    (case i_Day_str => first | k_is | rfl | decide +kernel)
    (case l_Day_str => first | k_is | rfl | decide +kernel)
    (case cI_Day_str => first | k_is | rfl | decide +kernel)
    (case k_Day_str => first | k_is | rfl | decide +kernel)
    (case a_l_box => first | k_is | rfl | decide +kernel)
    (case l_l_box => first | k_is | rfl | decide +kernel)
    (case cI_l_box => first | k_is | rfl | decide +kernel)
    (case k_l_box => first | k_is | rfl | decide +kernel)
    (case a_l_take => first | k_is | rfl | decide +kernel)
    (case l_l_take => first | k_is | rfl | decide +kernel)
    (case cI_l_take => first | k_is | rfl | decide +kernel)
    (case k_l_take => first | k_is | rfl | decide +kernel)
    (case a_l_pick => first | k_is | rfl | decide +kernel)
    (case l_l_pick => first | k_is | rfl | decide +kernel)
    (case cI_l_pick => first | k_is | rfl | decide +kernel)
    (case k_l_pick => first | k_is | rfl | decide +kernel)
    (case a_l_events => first | k_is | rfl | decide +kernel)
    (case l_l_events => first | k_is | rfl | decide +kernel)
    (case cI_l_events => first | k_is | rfl | decide +kernel)
    (case k_l_events => first | k_is | rfl | decide +kernel)
    (case a_l_is_out => first | k_is | rfl | decide +kernel)
    (case l_l_is_out => first | k_is | rfl | decide +kernel)
    (case cI_l_is_out => first | k_is | rfl | decide +kernel)
    (case k_l_is_out => first | k_is | rfl | decide +kernel)
    (case a_law => first | k_is | rfl | decide +kernel)
    (case l_law => first | k_is | rfl | decide +kernel)
    (case cI_law => first | k_is | rfl | decide +kernel)
    (case k_law => first | k_is | rfl | decide +kernel)
    (case z_range => first | k_is | rfl | decide +kernel)
    (case z_max => first | k_is | rfl | decide +kernel)
    (case z_min => first | k_is | rfl | decide +kernel)
    (case z_list => first | k_is | rfl | decide +kernel)
    (case z_len => first | k_is | rfl | decide +kernel)
    (case z_str => first | k_is | rfl | decide +kernel)
    (case z_tuple => first | k_is | rfl | decide +kernel)
    (case z_abs => first | k_is | rfl | decide +kernel)
    (case z_int => first | k_is | rfl | decide +kernel)
    (case z_isinstance => first | k_is | rfl | decide +kernel)
    (case z_enumerate => first | k_is | rfl | decide +kernel)
    (case z_bool => first | k_is | rfl | decide +kernel)
    (case gc_PASS => first | k_is | rfl | decide +kernel)
    (case lC_PASS => first | k_is | rfl | decide +kernel)
    (case gc_USER_WORDS => first | k_is | rfl | decide +kernel)
    (case lC_USER_WORDS => first | k_is | rfl | decide +kernel)
    (case x_nf_str => first | k_is | rfl | decide +kernel)
    (case x_nf_tup => first | k_is | rfl | decide +kernel)
    (case x_ks_Day => first | k_is | rfl | decide +kernel)
    (case x_kt_Day => first | k_is | rfl | decide +kernel)
    (case x_sf_Day => first | k_is | rfl | decide +kernel)
    (case x_fi_Day_getitem => first | k_is | rfl | decide +kernel)
    (case x_mi_Day => first | k_is | rfl | decide +kernel)
    (case x_ii_Day => first | k_is | rfl | decide +kernel)
