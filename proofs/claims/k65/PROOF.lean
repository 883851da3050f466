import PyProof.Rows.All
import Wide.All
import OpenK.AllK
import Wide.FinOn
import PyProof.EqAt
import PyProof.EqKinds
import PyProof.TupleCall
import HandS.ForMost
import HandS.IsInst
import HandS.Gcd
import HandS.Wide
import HandS.WideBits
import HandS.Style
import HandS.ForExc
import Flt.RightSqrt
import HandS.OwnEq
import HandS.TupAny
import HandS.Exc
import HandS.ExcInit
import HandS.ExcField
import HandS.ExcValue
import HandS.WordsExc
import HandS.ExcIs
import KE.KExcIs
import HandS.Defaults
import PySem.Challenge.RW_slitsheets_k65_errors_by_their_classes
set_option Elab.async false
set_option linter.all false
set_option maxRecDepth 100000
set_option maxHeartbeats 4000000
set_option exponentiation.threshold 4000
/-! Rules and words that all laws share. -/
namespace Kx
open PySem PySem.Spec PyProof.Rows L2

abbrev SV := L2.St
/-! ### a def of the text under its name -/
structure DefAt (P : Program) (w : World) (K : PySem.W.Frag) (mg : Str → Option Value) (base : Heap) (k : Nat) (x : Str) (f : Addr) (fd : FuncData) (ps : List Str) (sp : Sp) : Prop where
  F : FnOk P w K mg base CX0 k f fd ps sp
  m : mg x = some (.ref f)
  kp : PySem.W.keepIn K (.ref f) = true
  b : Binds K fd ps []
def tD (sp : Sp) (t : TA) : TE := fun σ H Q => t σ H fun vs H1 => sp vs H1 Q E0
def tDK (sp : Sp) (gV : List V → List V) (t : TA) : TE := fun σ H Q => t σ H fun zs H1 => sp (gV zs) H1 Q E0
section
variable {X : Cx} {k j : Nat} {f : Addr} {fd : FuncData} {ps ks : List Str} {sp : Sp} {x : Str} {p pos : Pos} {e : Expr} {es : List Expr} {t tk : TA} {kws : List Keyword}
theorem pe_d (D : DefAt X.prog X.w X.K X.mg X.base k x f fd ps sp) (hr : Room j X.A) (ha : PA X (e :: es) t) (hkj : k ≤ j := by decide) (hg : Gl X x := by rfl) (hdb : (x == ("__debug__" : Str)) = false := by decide)
    (he : starEach (e :: es) X.env = (false, eval e X.env) :: starEach es X.env := by rfl) (hpl : (backTo pos (starEach es X.env)).any (·.1) = false := by rfl) : PE X (.Call (.Name x p) (e :: es) [] pos) (tD sp t) := by
  refine ⟨fun pins s σ H Q I h => ?_⟩
  refine (pe_call (dvs := []) D.F (hr.mono hkj) hg D.m D.kp D.b .nil pass0 ha hdb he hpl).run pins s σ H Q I ?_
  have e : (tCall sp [] E0 t) = tD sp t := by funext a b c; unfold tCall tD; simp only [List.append_nil]
  rw [e]
  exact h
/-- how a call by keywords alone binds -/
structure KB0 (K : PySem.W.Frag) (fd : FuncData) (ps ks : List Str) (g : List Value → List Value) (gV : List V → List V) : Prop where
  to : ∀ (s : Shared) (ws : List Value), ws.length = ks.length → BindsTo s fd ⟨[], ks.zip ws⟩ (ps.zip (g ws))
  rel : ∀ {zs : List V} {ws : List Value}, zs.length = ks.length → Vals zs ws → Vals (gV zs) (g ws)
  ln : ∀ zs : List V, (gV zs).length = ps.length → zs.length = ks.length
/-- f(k = v, ..): keywords alone -/
theorem pe_dk {g : List Value → List Value} {gV : List V → List V} (D : DefAt X.prog X.w X.K X.mg X.base k x f fd ps sp) (hr : Room j X.A) (hb : KB0 X.K fd ps ks g gV) (hkw : PK X kws tk) (hkj : k ≤ j := by decide) (hg : Gl X x := by rfl)
    (hall : (backToKw pos (keywordEach kws X.env)).all (·.1.isSome) = true := by rfl) (hks : (backToKw pos (keywordEach kws X.env)).filterMap (·.1) = ks := by rfl) (hdb : (x == ("__debug__" : Str)) = false := by decide)
    (hpl : ((backTo pos (starEach [] X.env)).any (·.1) || (backToKw pos (keywordEach kws X.env)).any (·.1.isNone)) = false := by rfl) :
    PE X (.Call (.Name x p) [] kws pos) (tDK sp gV tk) := by
  refine ⟨fun pins s σ H Q I h => ?_⟩
  refine wpAny_Call_Name_kw (ld_glob I hg D.m ?_ hdb)
  refine PySem.W.callWith_KW0 (h₀ := X.base) I.ok.mod.kin D.kp hall ?_ hpl
  refine thn (hkw.run pos pins s σ H _ I h) fun ws s2 ⟨zs, H2, I2, rz, q2⟩ => ⟨I2.kIn, ?_⟩
  rw [hks]
  have lz := hb.ln zs (D.F.len _ _ _ _ q2)
  have b := hb.to s2 ws (rz.length.symm.trans lz)
  refine wpAny_call (codeAny_mono (D.F.run X.A X.stack s2 H2 ⟨[], ks.zip ws⟩ (g ws) (gV zs) Q E0 (hr.mono hkj) I2.env0 b (hb.rel lz rz) q2) fun r s' hq => ?_)
  cases r with
  | error e => exact (hq : False).elim
  | ok fl =>
    cases fl with
    | ret u => exact I2.after hq
    | next => exact False.elim hq
    | brk => exact False.elim hq
    | cont => exact False.elim hq
theorem kb_mk {K : PySem.W.Frag} {x qual : Str} {st : Stmt} {f : Addr} {fd : FuncData} {ps ks : List Str} {g : List Value → List Value} {gV : List V → List V} (F : Fun K x qual st f fd)
    (h : ∀ (kV doc pm : Value) (an : Option Addr) (cdv ct : Value) (ws : List Value), ws.length = ks.length → bindArgs (PySem.W.fnOf x qual (defArgs st) (defBody st) (defScope st) .none kV doc pm an cdv ct) ⟨[], ks.zip ws⟩ = pure (ps.zip (g ws)))
    (hr : ∀ {zs : List V} {ws : List Value}, zs.length = ks.length → Vals zs ws → Vals (gV zs) (g ws)) (hl : ∀ zs : List V, (gV zs).length = ps.length → zs.length = ks.length) : KB0 K fd ps ks g gV := by
  obtain ⟨oc, od, kV, doc, pm, an, cdv, ct, osl, rfl, lk, hcd⟩ := F.ex
  exact ⟨fun s ws hw => .of_eq (h kV doc pm an cdv ct ws hw), hr, hl⟩
end

/-! ### numbers -/
/-- a divisor but 0 of at most 9000 bits -/
def DivOk (j : Int) : Prop := j ≠ 0 ∧ j.natAbs.log2 < 9000
def PowOk (i j : Int) : Prop := 0 ≤ j ∧ (Builtin.Int.intBits i : Int) * j ≤ 2 ^ 27
section
variable {X : Cx}
theorem op_fdivX : OpR X (binaryOp .FloorDiv) (rI (fun _ j => DivOk j) fun i j => .int (i.fdiv j)) := opI fun i j _ _ _ _ _ hc q =>
  floordiv_int hc.1 q (.inl (PyProof.noPylong_of_log2 hc.2))
theorem op_mulU : OpR X (binaryOp .Mult) (rI IntMulOk fun i j => .int (i * j)) := opI fun _ _ _ _ _ _ _ hc q => mul_int q hc
/-- ** of numbers whose power has at most 2 ^ 27 bits -/
theorem op_powX : OpR X (binaryOp .Pow) (rI PowOk fun i j => .int (i ^ j.toNat)) := opI fun _ _ _ _ _ _ _ hc q => pow_int hc.1 hc.2 q
/-- math.isqrt -/
def rt (n : Int) : Int := ((Float64.isqrt n.toNat : Nat) : Int)
theorem cr_isqrt : CallR X (.builtin "math.isqrt") (fun vs H Q => ∃ a : Int, vs = [.int a] ∧ 0 ≤ a ∧ a.toNat.log2 < 13000 ∧ Q (.int (rt a)) H) := by
  intro pins s σ H vs us Q I r h
  obtain ⟨a, rfl, h0, h1, q⟩ := h
  obtain ⟨u, rfl, t, rfl⟩ := vals1 r
  exact call_function_meets PySem.W.MGF.kind_isqrt PySem.W.MGF.plain_isqrt PySem.W.MGF.entry_isqrt (PySem.W.MGF.args_isqrt _) (PySem.W.mg_run_isqrt a t (by omega) (by omega) (by omega)).meets ⟨.int _, H, I.tok _, ⟨_, rfl⟩, q⟩
theorem cr_int : CallR X (.type "int") (fun xs H Q => ∃ i, xs = [.int i] ∧ Q (.int i) H) := fun pins s σ H xs us Q I r h => call_int1 pins s σ H xs us Q I r (.inl h)
/-- repr of a number, of True, False, None -/
def flatText : V → Option Str
  | .int i => if i.natAbs.log2 < 1920 then some (toString i) else none
  | .bl b => some (if b then "True" else "False")
  | .non => some "None"
  | _ => none
theorem cr_repr : CallR X (.builtin "repr") (fun vs H Q => ∃ (x : V) (z : Str), vs = [x] ∧ flatText x = some z ∧ Q (.str z) H) := by
  intro pins s σ H vs us Q I r h
  obtain ⟨x, z, rfl, hz, q⟩ := h
  obtain ⟨u, rfl, rx⟩ := vals1 r
  cases x with
  | int i =>
    obtain ⟨t, rfl⟩ := rx
    have hz2 : (if i.natAbs.log2 < 1920 then some (toString i : Str) else Option.none) = some z := hz
    by_cases hl : i.natAbs.log2 < 1920
    · rw [if_pos hl] at hz2
      have hz3 := Option.some.inj hz2
      subst hz3
      exact PySem.P.repr_of_int hl ⟨.str _, H, I.tok _, ⟨_, rfl⟩, q⟩
    · rw [if_neg hl] at hz2
      cases hz2
  | bl b =>
    cases rx
    cases hz
    exact PySem.P.repr_of_bool ⟨.str _, H, I.tok _, ⟨_, rfl⟩, q⟩
  | non =>
    cases rx
    cases hz
    exact PySem.P.repr_of_none ⟨.str _, H, I.tok _, ⟨_, rfl⟩, q⟩
  | str _ => cases hz
  | byt _ => cases hz
  | flt _ => cases hz
  | ref _ => cases hz
  | ty _ => cases hz
end

/-! ### loops, opened by hand -/
section
variable {wi : TI} {g : TG} {tb : TS} {D : Ends} {σ : SV} {H : Hp} {c : TT} {tt : TT} {te : TE} {vs : List Nat}
def ForW (J : It) (g : TG) (tb : TS) (D : Ends) (σ : SV) (H1 : Hp) : Prop := ∃ W : Nat → Nat → SV → Hp → Prop, (∃ m, W 0 m σ H1) ∧ ∀ i m σ H, W i m σ H →
  (J.stop i H ∧ D.nx σ H) ∨ (J.go i H ∧ ∃ N : SV → Hp → Prop, (∀ σ' H', N σ' H' → ∃ m', m' < m ∧ W (i + 1) m' σ' H') ∧ ∀ x H', J.yld i H x H' → g x σ H' fun σ2 H2 => tb { D with nx := N, ct := N, bk := D.nx } σ2 H2)
theorem tFor_eq : tFor wi g tb = fun D σ H => wi σ H fun J H1 => ForW J g tb D σ H1 := rfl
theorem forW_range {n : Nat} {lo : Int} (Pv : Nat → SV → Hp → Prop) (h0 : Pv 0 σ H) (hs : ∀ i σ' H', i < n → Pv i σ' H' → g (.int (lo + i)) σ' H' fun σ2 H2 => tb { D with nx := Pv (i + 1), ct := Pv (i + 1), bk := D.nx } σ2 H2)
    (hd : ∀ σ' H', Pv n σ' H' → D.nx σ' H') : ForW (Itr lo n) g tb D σ H := for_range Pv h0 hs hd
theorem forW_list {K : PySem.W.Frag} {a : Addr} {xs : List V} (Pv : Nat → SV → Hp → Prop) (h0 : Pv 0 σ H) (hl : ∀ i σ H, i ≤ xs.length → Pv i σ H → SqL K H a xs)
    (hs : ∀ i x σ' H', xs[i]? = some x → Pv i σ' H' → g x σ' H' fun σ2 H2 => tb { D with nx := Pv (i + 1), ct := Pv (i + 1), bk := D.nx } σ2 H2) (hd : ∀ σ' H', Pv xs.length σ' H' → D.nx σ' H') : ForW (Itl K a) g tb D σ H := for_list Pv h0 hl hs hd
theorem forW_tup {K : PySem.W.Frag} {a : Addr} {xs : List V} (Pv : Nat → SV → Hp → Prop) (h0 : Pv 0 σ H) (hl : ∀ i σ H, i ≤ xs.length → Pv i σ H → SqT K H a xs)
    (hs : ∀ i x σ' H', xs[i]? = some x → Pv i σ' H' → g x σ' H' fun σ2 H2 => tb { D with nx := Pv (i + 1), ct := Pv (i + 1), bk := D.nx } σ2 H2) (hd : ∀ σ' H', Pv xs.length σ' H' → D.nx σ' H') : ForW (Itt K a) g tb D σ H := for_tup Pv h0 hl hs hd
def WStep (W : Nat → SV → Hp → Prop) (m : Nat) (tb : TS) (D : Ends) (σ : SV) (H1 : Hp) : Prop := ∃ N : SV → Hp → Prop, (∀ σ' H', N σ' H' → ∃ m', m' < m ∧ W m' σ' H') ∧ tb { D with nx := N, ct := N, bk := D.nx } σ H1
theorem whileI (Pv : SV → Hp → Prop) (μ : SV → Hp → Nat) (h0 : Pv σ H) (hs : ∀ σ' H', Pv σ' H' → c σ' H' fun b H1 => if b = true then WStep (fun m σ H => m = μ σ H ∧ Pv σ H) (μ σ' H') tb D σ' H1 else D.nx σ' H1) : tWhile c tb D σ H :=
  ⟨fun m σ H => m = μ σ H ∧ Pv σ H, ⟨_, rfl, h0⟩, by
    rintro m σ1 H1 ⟨rfl, p⟩
    exact hs σ1 H1 p⟩
theorem wstep {Pv : SV → Hp → Prop} {μ : SV → Hp → Nat} {m : Nat} {H1 : Hp} (h : tb { D with nx := fun σ' H' => Pv σ' H' ∧ μ σ' H' < m, ct := fun σ' H' => Pv σ' H' ∧ μ σ' H' < m, bk := D.nx } σ H1) : WStep (fun m σ H => m = μ σ H ∧ Pv σ H) m tb D σ H1 :=
  ⟨_, fun σ' H' z => ⟨_, z.2, rfl, z.1⟩, h⟩
def LcW (J : It) (g : TG) (tt : TT) (te : TE) (vs : List Nat) (D : Addr) (σ : SV) (H1 : Hp) (Q : VK) : Prop := ∃ W : Nat → Nat → Hp → Prop, (∃ m, W 0 m (upd H1 D (.lst []))) ∧ ∀ i m H, W i m H →
  (J.stop i H ∧ Q (.ref D) H) ∨ (J.go i H ∧ ∃ Ny : Hp → Prop, (∀ H', Ny H' → ∃ m', m' < m ∧ W (i + 1) m' H') ∧ ∀ x H', J.yld i H x H' → g x (wipe σ vs) H' fun σ2 H2 => wipe σ2 vs = wipe σ vs ∧ tt σ2 H2 fun b H3 =>
    if b = true then te σ2 H3 fun y H4 => ∃ acc, H4 D = some (.lst acc) ∧ acc.length < sizeLine ∧ Ny (upd H4 D (.lst (acc ++ [y]))) else Ny H3)
theorem tLc_eq : tLc wi g tt te vs = fun σ H Q => wi σ H fun J H1 => ∀ D, H1 D = none → LcW J g tt te vs D σ H1 Q := rfl
section
variable {Dd : Addr} {Q : VK}
theorem lcW_range {n : Nat} {lo : Int} (Pv : Nat → Hp → Prop) (h0 : Pv 0 (upd H Dd (.lst [])))
    (hs : ∀ i H, i < n → Pv i H → g (.int (lo + i)) (wipe σ vs) H fun σ2 H2 => wipe σ2 vs = wipe σ vs ∧ tt σ2 H2 fun b H3 =>
      if b = true then te σ2 H3 fun y H4 => ∃ acc, H4 Dd = some (.lst acc) ∧ acc.length < sizeLine ∧ Pv (i + 1) (upd H4 Dd (.lst (acc ++ [y]))) else Pv (i + 1) H3) (hd : ∀ H, Pv n H → Q (.ref Dd) H) : LcW (Itr lo n) g tt te vs Dd σ H Q := lc_range Pv h0 hs hd
theorem lcW_list {K : PySem.W.Frag} {a : Addr} {xs : List V} (Pv : Nat → Hp → Prop) (h0 : Pv 0 (upd H Dd (.lst []))) (hl : ∀ i H, i ≤ xs.length → Pv i H → SqL K H a xs)
    (hs : ∀ i x H, xs[i]? = some x → Pv i H → g x (wipe σ vs) H fun σ2 H2 => wipe σ2 vs = wipe σ vs ∧ tt σ2 H2 fun b H3 =>
      if b = true then te σ2 H3 fun y H4 => ∃ acc, H4 Dd = some (.lst acc) ∧ acc.length < sizeLine ∧ Pv (i + 1) (upd H4 Dd (.lst (acc ++ [y]))) else Pv (i + 1) H3) (hd : ∀ H, Pv xs.length H → Q (.ref Dd) H) : LcW (Itl K a) g tt te vs Dd σ H Q := lc_list Pv h0 hl hs hd
theorem lcW_tup {K : PySem.W.Frag} {a : Addr} {xs : List V} (Pv : Nat → Hp → Prop) (h0 : Pv 0 (upd H Dd (.lst []))) (hl : ∀ i H, i ≤ xs.length → Pv i H → SqT K H a xs)
    (hs : ∀ i x H, xs[i]? = some x → Pv i H → g x (wipe σ vs) H fun σ2 H2 => wipe σ2 vs = wipe σ vs ∧ tt σ2 H2 fun b H3 =>
      if b = true then te σ2 H3 fun y H4 => ∃ acc, H4 Dd = some (.lst acc) ∧ acc.length < sizeLine ∧ Pv (i + 1) (upd H4 Dd (.lst (acc ++ [y]))) else Pv (i + 1) H3) (hd : ∀ H, Pv xs.length H → Q (.ref Dd) H) : LcW (Itt K a) g tt te vs Dd σ H Q := lc_tup Pv h0 hl hs hd
end
end

/-! ### items of what is tracked -/
section
variable {X : Cx}
theorem ixL : IxR X (fun x y H Q => ∃ p xs i v, x = .ref p ∧ y = .int i ∧ H p = some (.lst xs) ∧ atI xs i = some v ∧ Q v H) := by
  intro value slice pins s σ H x y v u Q I rx ry h hs
  obtain ⟨p, xs, i, z, e1, e2, h1, h2, q⟩ := h
  exact ix_list value slice pins s σ H x y v u Q I rx ry ⟨p, xs, i, z, e1, e2, SqL.of h1, h2, q⟩ hs
theorem ixT : IxR X (fun x y H Q => ∃ p xs i v, x = .ref p ∧ y = .int i ∧ H p = some (.tup xs) ∧ atI xs i = some v ∧ Q v H) := by
  intro value slice pins s σ H x y v u Q I rx ry h hs
  obtain ⟨p, xs, i, z, e1, e2, h1, h2, q⟩ := h
  exact ix_tup value slice pins s σ H x y v u Q I rx ry ⟨p, xs, i, z, e1, e2, SqT.of h1, h2, q⟩ hs
end
/-- a, b, .. = a tracked tuple of n items -/
def gT (n : Nat) (t : TGs) : TG := fun v σ H Q => ∃ a xs, v = .ref a ∧ H a = some (.tup xs) ∧ xs.length = n ∧ t xs σ H Q
theorem pg_tupT {X : Cx} {es : List Expr} {k : Nat} {t : TGs} {pos : Pos} (n : Nat) (hc : X.calm = true) (h : PGs X es t) (hn : (assignEach es X.env).length = n := by rfl) (hst : (assignEach es X.env).findIdx? (·.1) = none := by rfl) : PG X (.Tuple es k pos) (gT n t) := by
  refine ⟨fun pins s σ H v u Q I r hw => ?_⟩
  obtain ⟨a, xs, e1, hq, hl, hw⟩ := hw
  exact (pg_tup hc h hn hst).run pins s σ H v u Q I r ⟨a, xs, e1, SqT.of hq, hl, hw⟩
/-- a, b, .. = a tracked list of n items -/
def gL (n : Nat) (t : TGs) : TG := fun v σ H Q => ∃ a xs, v = .ref a ∧ H a = some (.lst xs) ∧ xs.length = n ∧ t xs σ H Q
theorem pg_lstT {X : Cx} {es : List Expr} {k : Nat} {t : TGs} {pos : Pos} (n : Nat) (hc : X.calm = true) (h : PGs X es t) (hn : (assignEach es X.env).length = n := by rfl) (hst : (assignEach es X.env).findIdx? (·.1) = none := by rfl) : PG X (.Tuple es k pos) (gL n t) := by
  refine ⟨fun pins s σ H v u Q I r hw => ?_⟩
  obtain ⟨a, xs, e1, hq, hl, hw⟩ := hw
  exact (pg_lst hc h hn hst).run pins s σ H v u Q I r ⟨a, xs, e1, SqL.of hq, hl, hw⟩
theorem lenL {X : Cx} : CallR X (.builtin "len") (fun xs H Q => ∃ p ys, xs = [.ref p] ∧ H p = some (.lst ys) ∧ Q (.int ys.length) H) := by
  intro pins s σ H xs us Q I r h
  obtain ⟨p, ys, e, h1, q⟩ := h
  exact call_len_seq pins s σ H xs us Q I r ⟨p, ys, e, .inl (SqL.of h1), q⟩
theorem lenT {X : Cx} : CallR X (.builtin "len") (fun xs H Q => ∃ p ys, xs = [.ref p] ∧ H p = some (.tup ys) ∧ Q (.int ys.length) H) := by
  intro pins s σ H xs us Q I r h
  obtain ⟨p, ys, e, h1, q⟩ := h
  exact call_len_seq pins s σ H xs us Q I r ⟨p, ys, e, .inr (SqT.of h1), q⟩
theorem cxK {CX : CXT} {P : Program} {w : World} {K : PySem.W.Frag} {mg : Str → Option Value} {base : Heap} {N : List Str} {qual : Str} {sc : Scope} {f : Addr} {cd : Value} {A : Around} {outer : List Env} {s : Shared} {H : Hp} {E : XK} : (cxOf CX P w K mg base N qual sc f cd A outer s H E).K = K := rfl
theorem atI_0 {α : Type} {x : α} {l : List α} : atI (x :: l) 0 = some x := atI_nat (j := 0) rfl
theorem atI_1 {α : Type} {x y : α} {l : List α} : atI (x :: y :: l) 1 = some y := atI_nat (j := 1) rfl
theorem atI_2 {α : Type} {x y z : α} {l : List α} : atI (x :: y :: z :: l) 2 = some z := atI_nat (j := 2) rfl
theorem atI_3 {α : Type} {x y z u : α} {l : List α} : atI (x :: y :: z :: u :: l) 3 = some u := atI_nat (j := 3) rfl
theorem ixN_30 : ixN 3 0 = some 0 := by decide
theorem ixN_31 : ixN 3 1 = some 1 := by decide
theorem ixN_32 : ixN 3 2 = some 2 := by decide

/-! ### sizes -/
theorem cmw {i j : Int} (h1 : -(2 ^ 2500) < i) (h2 : i < 2 ^ 2500) (h3 : -(2 ^ 2500) < j) (h4 : j < 2 ^ 2500) : IntMulOk i j :=
  CMulW.ok (wide_mul (a := 2500) (b := 2500) (by omega) (by omega) (by decide) (by decide) (by decide))
theorem cmr {i j : Int} (h1 : -(2 ^ 64) < j) (h2 : j < 2 ^ 64) : IntMulOk i j := CMul.ok (.inr ⟨h1, h2⟩)
theorem cml {i j : Int} (h1 : -(2 ^ 64) < i) (h2 : i < 2 ^ 64) : IntMulOk i j := CMul.ok (.inl ⟨h1, h2⟩)
theorem cpow {i : Int} {j : Int} (h0 : 0 ≤ j) (h1 : j ≤ 1000) (h2 : -(2 ^ 2500) < i) (h3 : i < 2 ^ 2500) : PowOk i j := by
  have h := PyProof.Rows.intBits_le (show i.natAbs < 2 ^ 2500 by omega)
  refine ⟨h0, ?_⟩
  have h4 : (Builtin.Int.intBits i : Int) ≤ 2500 := by omega
  have h5 := Int.mul_le_mul h4 h1 h0 (by decide)
  exact Int.le_trans h5 (by decide)
theorem cdiv {j : Int} (h0 : j ≠ 0) (h1 : -(2 ^ 2500) < j) (h2 : j < 2 ^ 2500) : DivOk j :=
  ⟨h0, Nat.lt_of_lt_of_le (PySem.Flt.log2_lt_of (by decide) (show j.natAbs < 2 ^ 2500 by omega)) (by decide)⟩

theorem cut1 (xs : List V) : cutV xs none (some 1) = xs.take 1 := by
  unfold cutV
  cases xs with
  | nil => rfl
  | cons x l =>
    have e : HT.sIx (x :: l).length (x :: l).length (some 1) = 1 := by simp [HT.sIx]
    have e2 : HT.sIx (x :: l).length 0 (Option.none) = 0 := rfl
    rw [e, e2]
    rfl
/-! ### the draws -/
def Keep (g : Addr) (H H' : Hp) : Prop := ∀ b o, b ≠ g → H b = some o → H' b = some o
theorem Keep.refl (g : Addr) (H : Hp) : Keep g H H := fun _ _ _ h => h
theorem Keep.trans {g : Addr} {H H1 H2 : Hp} (a : Keep g H H1) (b : Keep g H1 H2) : Keep g H H2 := fun c o n h => b c o n (a c o n h)
theorem Keep.of {g : Addr} {H H' : Hp} (a : Same H H') : Keep g H H' := fun c o _ h => a c o h
theorem Same.upd {H : Hp} {a : Addr} {o : HO} (h : H a = none) : Same H (upd H a o) := fun b u e => by
  rw [upd_ne (ne_of_none e h)]
  exact e
theorem Same.upd2 {H H1 : Hp} {a : Addr} {o : HO} (s : Same H H1) (h : H a = none) : Same H (L2.upd H1 a o) := fun b u e => by
  rw [upd_ne (ne_of_none e h)]
  exact s b u e
def GenAt (H : Hp) (g : Addr) (k : Nat) : Prop := ∃ a b c : Int, H g = some (.lst [.int a, .int b, .int c]) ∧ 0 ≤ a ∧ a < 2 ^ 2000 ∧ 0 ≤ b ∧ b < 2 ^ 32 ∧ 0 ≤ c ∧ c ≤ k
theorem GenAt.mono {H : Hp} {g : Addr} {j k : Nat} (h : GenAt H g j) (l : j ≤ k) : GenAt H g k := by
  obtain ⟨a, b, c, e, h1, h2, h3, h4, h5, h6⟩ := h
  exact ⟨a, b, c, e, h1, h2, h3, h4, h5, by omega⟩
theorem GenAt.same {H H' : Hp} {g : Addr} {k : Nat} (h : GenAt H g k) (s : Same H H') : GenAt H' g k := by
  obtain ⟨a, b, c, e, r⟩ := h
  exact ⟨a, b, c, s _ _ e, r⟩
def spHash : Sp := fun vs H Q _ => ∃ a i : Int, vs = [.int a, .int i] ∧ 0 ≤ a ∧ a < 2 ^ 32 ∧ 0 ≤ i ∧ i < 2 ^ 60 ∧ ∀ h : Int, 0 ≤ h → h < 2147483647 → Q (.int h) H
def spRandom : Sp := fun vs H Q _ => ∃ (g : Addr) (n : Int) (k : Nat), vs = [.ref g, .int n] ∧ GenAt H g k ∧ k ≤ 2 ^ 40 ∧ 1 ≤ n ∧ n < 2 ^ 300 ∧ ∀ (r : Int) (H' : Hp), 0 ≤ r → r < n → GenAt H' g (k + 20) → Keep g H H' → Q (.int r) H'
def spCell (K : PySem.W.Frag) : Sp := fun vs H Q _ => ∃ (a : Addr) (ns : List Int) (i : Int), vs = [.ref a, .int i] ∧ SqL K H a (ns.map V.int) ∧ 0 ≤ i ∧ i < 100 ∧ ∀ (r : Int) (H' : Hp), Same H H' → Q (.int r) H'
def spGen (K : PySem.W.Frag) : Sp := fun vs H Q _ => ∃ (a : Addr) (ns : List Int) (i : Int), vs = [.ref a, .int i] ∧ SqL K H a (ns.map V.int) ∧ 0 ≤ i ∧ i < 100 ∧ ∀ (g : Addr) (H' : Hp), H g = none → Same H H' → GenAt H' g 100000 → Q (.ref g) H'
/-- a def of two ints that hands back an int reckoned by F -/
def gcdI (a b : Int) : Int := ((Nat.gcd a.natAbs b.natAbs : Nat) : Int)
def spCommon : Sp := fun vs H Q _ => ∃ a b : Int, vs = [.int a, .int b] ∧ Q (.int (gcdI a b)) H
def spRoot : Sp := fun vs H Q _ => ∃ n : Int, vs = [.int n] ∧ 0 ≤ n ∧ n < 2 ^ 2000 ∧ ∀ H', Same H H' → Q (.int (rt n)) H'

/-- the number in a slot, for a measure -/
def slotN (σ : SV) (i : Nat) : Nat := match σ[i]? with
  | some (some (.int v)) => v.toNat
  | _ => 0
theorem gcdI_step {x y : Int} (hx : 0 ≤ x) (hy : 0 < y) : gcdI y (x % y) = gcdI x y := by
  unfold gcdI
  have e : (x % y).natAbs = x.natAbs % y.natAbs := by
    have h1 := Int.emod_nonneg x (show y ≠ 0 by omega)
    have h2 : ((x.natAbs % y.natAbs : Nat) : Int) = x % y := by
      rw [Int.natCast_emod, Int.natAbs_of_nonneg hx, Int.natAbs_of_nonneg (by omega)]
    omega
  rw [e, Nat.gcd_comm, ← Nat.gcd_rec, Nat.gcd_comm]
theorem gcdI_zero {x : Int} (hx : 0 ≤ x) : gcdI x 0 = x := by
  unfold gcdI
  rw [show (0 : Int).natAbs = 0 from rfl, Nat.gcd_zero_right]
  omega
theorem gcdI_abs (a b : Int) : gcdI (if a < 0 then -a else a) (if b < 0 then -b else b) = gcdI a b := by
  unfold gcdI
  have h : ∀ z : Int, (if z < 0 then -z else z).natAbs = z.natAbs := fun z => by split <;> omega
  rw [h, h]
theorem rt_spec {n : Int} (h : 0 ≤ n) : 0 ≤ rt n ∧ rt n * rt n ≤ n ∧ n < (rt n + 1) * (rt n + 1) := by
  obtain ⟨m, rfl⟩ := Int.eq_ofNat_of_zero_le h
  have q := PySem.Float64.isqrt_spec m
  unfold rt
  rw [Int.toNat_natCast]
  refine ⟨Int.natCast_nonneg _, ?_, ?_⟩
  · exact_mod_cast q.1
  · exact_mod_cast q.2
theorem sq_mono {x y : Int} (h : 0 ≤ x) (h2 : x ≤ y) : x * x ≤ y * y := Int.mul_le_mul h2 h2 h (by omega)
theorem rt_unique {n r : Int} (h : 0 ≤ n) (h0 : 0 ≤ r) (h1 : r * r ≤ n) (h2 : n < (r + 1) * (r + 1)) : r = rt n := by
  obtain ⟨s0, s1, s2⟩ := rt_spec h
  have a : ¬ r + 1 ≤ rt n := fun z => by
    have q := sq_mono (by omega) z
    omega
  have b : ¬ rt n + 1 ≤ r := fun z => by
    have q := sq_mono (by omega) z
    omega
  omega
theorem lg {n : Int} (h : n < 2 ^ 3900) : n.toNat.log2 < 13000 := by
  by_cases h0 : n.toNat = 0
  · rw [h0]; decide
  · have h2 : n.toNat < 2 ^ 3900 := by omega
    have := (Nat.log2_lt h0).mpr h2
    omega
theorem rGcd_eq : rGcd = fun vs H Q => ∃ a b : Int, vs = [.int a, .int b] ∧ Q (.int (gcdI a b)) H := rfl
theorem scal_ii {a b : Int} : scal (.int a) (.int b) = true := rfl
theorem scal_bb {a b : Bool} : scal (.bl a) (.bl b) = true := rfl
theorem scal_ss {a b : Str} : scal (.str a) (.str b) = true := rfl
end Kx

set_option Elab.async false
set_option linter.all false
set_option maxRecDepth 100000
set_option maxHeartbeats 4000000
set_option exponentiation.threshold 4000
/-! Root numbers as plain functions. -/
namespace Kx
open PySem

def Sq (D : Int) : Prop := rt D * rt D = D
instance (D : Int) : Decidable (Sq D) := by unfold Sq; infer_instance
def sgn (x : Int) : Int := if x = 0 then 0 else if 0 < x then 1 else -1
def sideF (D x y : Int) : Int :=
  if x = 0 ∧ y = 0 then 0 else if 0 ≤ x ∧ 0 ≤ y then 1 else if x ≤ 0 ∧ y ≤ 0 then -1 else
  if x * x - D * y * y = 0 then 0 else if (decide (0 < x * x - D * y * y) = decide (0 < x)) then 1 else -1
def sideP (D x y : Int) : Int := if D * y * y < x * x then sgn x else sgn y
theorem sq_of {D x y : Int} (hD : 0 ≤ D) (hy : y ≠ 0) (h : x * x = D * y * y) : Sq D := by
  have hyn : 0 < y.natAbs := Int.natAbs_pos.mpr hy
  obtain ⟨m, rfl⟩ := Int.eq_ofNat_of_zero_le hD
  have hn : x.natAbs * x.natAbs = m * (y.natAbs * y.natAbs) := by
    have e := congrArg Int.natAbs h
    rw [Int.natAbs_mul, Int.natAbs_mul, Int.natAbs_mul, Int.natAbs_natCast, Nat.mul_assoc] at e
    exact e
  have hd : y.natAbs ∣ x.natAbs := by
    have h1 : y.natAbs ^ 2 ∣ x.natAbs ^ 2 := ⟨m, by rw [Nat.pow_two, Nat.pow_two, hn]; exact Nat.mul_comm _ _⟩
    exact (Nat.pow_dvd_pow_iff (by decide)).mp h1
  obtain ⟨k, hk⟩ := hd
  have hm : k * k = m := by
    rw [hk] at hn
    have e : y.natAbs * y.natAbs * (k * k) = y.natAbs * y.natAbs * m := by
      rw [Nat.mul_comm (y.natAbs * y.natAbs) m, ← hn]
      simp only [Nat.mul_assoc, Nat.mul_left_comm]
    exact Nat.eq_of_mul_eq_mul_left (Nat.mul_pos hyn hyn) e
  have e : ((k : Nat) : Int) = rt (m : Int) := by
    refine rt_unique (Int.natCast_nonneg _) (Int.natCast_nonneg _) ?_ ?_
    · rw [← hm]
      exact Int.le_of_eq (Int.natCast_mul k k).symm
    · rw [← hm]
      have : (((k * k : Nat)) : Int) = (k : Int) * (k : Int) := Int.natCast_mul k k
      rw [this]
      have h2 : ((k : Int) + 1) * ((k : Int) + 1) = (k : Int) * k + 2 * k + 1 := by grind
      omega
  unfold Sq
  rw [← e, ← hm]
  exact (Int.natCast_mul k k).symm
theorem dyy_nn {D y : Int} (hD : 0 ≤ D) : 0 ≤ D * y * y := by
  rw [Int.mul_assoc]
  exact Int.mul_nonneg hD (by
    rcases Int.le_total 0 y with h | h
    · exact Int.mul_nonneg h h
    · exact Int.mul_nonneg_of_nonpos_of_nonpos h h)
theorem dyy_pos {D y : Int} (hD : 0 < D) (hy : y ≠ 0) : 0 < D * y * y := by
  have h1 : 0 < y * y := by
    rcases Int.lt_or_gt_of_ne hy with h | h
    · exact Int.mul_pos_of_neg_of_neg h h
    · exact Int.mul_pos h h
  rw [Int.mul_assoc]
  exact Int.mul_pos hD h1
theorem xx_pos {x : Int} (hx : x ≠ 0) : 0 < x * x := by
  rcases Int.lt_or_gt_of_ne hx with h | h
  · exact Int.mul_pos_of_neg_of_neg h h
  · exact Int.mul_pos h h
theorem side_eq {D x y : Int} (hD : 0 < D) (h : y = 0 ∨ ¬ Sq D) : sideP D x y = sideF D x y := by
  have hne : y ≠ 0 → x * x ≠ D * y * y := fun hy e => by
    rcases h with h | h
    · exact hy h
    · exact h (sq_of (by omega) hy e)
  have f1 : x = 0 → x * x = 0 := fun e => by rw [e]; rfl
  have f2 : x ≠ 0 → 0 < x * x := xx_pos
  have f3 : y = 0 → D * y * y = 0 := fun e => by rw [e, Int.mul_zero]
  have f4 : y ≠ 0 → 0 < D * y * y := dyy_pos hD
  unfold sideP sideF sgn
  simp only [decide_eq_decide]
  generalize x * x = u at *
  generalize D * y * y = v at *
  repeat' split
  all_goals omega
/-- the floor of y times the root -/
def flM (D y : Int) : Int := if 0 ≤ y then rt (D * y * y) else -rt (D * y * y - 1) - 1
theorem floor_low {D y z : Int} (hD : 0 < D) (h : -flM D y ≤ z) : 0 ≤ sideF D z y := by
  unfold flM at h
  unfold sideF
  by_cases hy : 0 ≤ y
  · rw [if_pos hy] at h
    obtain ⟨s0, s1, s2⟩ := rt_spec (dyy_nn (y := y) (Int.le_of_lt hD))
    by_cases hz : 0 ≤ z
    · by_cases h0 : z = 0 ∧ y = 0
      · rw [if_pos h0]; decide
      · rw [if_neg h0, if_pos ⟨hz, hy⟩]; decide
    · have h1 : z * z ≤ D * y * y := by
        have := sq_mono (x := -z) (y := rt (D * y * y)) (by omega) (by omega)
        have e : -z * -z = z * z := by grind
        omega
      have hy0 : y ≠ 0 := fun e => by
        subst e
        have h2 : 0 < z * z := xx_pos (by omega)
        rw [Int.mul_zero] at h1
        omega
      rw [if_neg (by omega), if_neg (by omega), if_neg (by omega)]
      by_cases h4 : z * z - D * y * y = 0
      · rw [if_pos h4]; decide
      · rw [if_neg h4, if_pos (by rw [decide_eq_false (by omega), decide_eq_false (by omega)])]; decide
  · rw [if_neg hy] at h
    have hp := dyy_pos hD (show y ≠ 0 by omega)
    obtain ⟨s0, s1, s2⟩ := rt_spec (show 0 ≤ D * y * y - 1 by omega)
    have hz : 0 < z := by omega
    have h1 : D * y * y ≤ z * z := by
      have := sq_mono (x := rt (D * y * y - 1) + 1) (y := z) (by omega) (by omega)
      omega
    rw [if_neg (by omega), if_neg (by omega), if_neg (by omega)]
    by_cases h4 : z * z - D * y * y = 0
    · rw [if_pos h4]; decide
    · rw [if_neg h4, if_pos (by rw [decide_eq_true (by omega), decide_eq_true hz])]; decide
theorem floor_high {D y z : Int} (hD : 0 < D) (h : z ≤ -1 - flM D y) : sideF D z y < 0 := by
  unfold flM at h
  unfold sideF
  by_cases hy : 0 ≤ y
  · rw [if_pos hy] at h
    obtain ⟨s0, s1, s2⟩ := rt_spec (dyy_nn (y := y) (Int.le_of_lt hD))
    by_cases hy0 : y = 0
    · rw [if_neg (by omega), if_neg (by omega), if_pos (by omega)]; decide
    · have h1 : D * y * y < z * z := by
        have := sq_mono (x := rt (D * y * y) + 1) (y := -z) (by omega) (by omega)
        have e : -z * -z = z * z := by grind
        omega
      rw [if_neg (by omega), if_neg (by omega), if_neg (by omega), if_neg (by omega), if_neg (by rw [decide_eq_true (show 0 < z * z - D * y * y by omega), decide_eq_false (by omega)]; decide)]
      decide
  · rw [if_neg hy] at h
    have hp := dyy_pos hD (show y ≠ 0 by omega)
    obtain ⟨s0, s1, s2⟩ := rt_spec (show 0 ≤ D * y * y - 1 by omega)
    by_cases hz : z ≤ 0
    · rw [if_neg (by omega), if_neg (by omega), if_pos (by omega)]; decide
    · have h1 : z * z < D * y * y := by
        have := sq_mono (x := z) (y := rt (D * y * y - 1)) (by omega) (by omega)
        omega
      rw [if_neg (by omega), if_neg (by omega), if_neg (by omega), if_neg (by omega), if_neg (by rw [decide_eq_false (show ¬ 0 < z * z - D * y * y by omega), decide_eq_true (by omega)]; decide)]
      decide
/-! ### least terms -/
def lsg (x y b : Int) : Int := if b < 0 then 0 - gcdI (gcdI x y) b else gcdI (gcdI x y) b
def red (x y b : Int) : Int × Int × Int := (x.fdiv (lsg x y b), y.fdiv (lsg x y b), b.fdiv (lsg x y b))
def least (D x y b : Int) : Int × Int × Int := if rt D * rt D = D then red (x + y * rt D) 0 b else red x y b
theorem gcdI_nn (a b : Int) : 0 ≤ gcdI a b := Int.natCast_nonneg _
theorem gcdI_dvdl (a b : Int) : gcdI a b ∣ a := Int.gcd_dvd_left a b
theorem gcdI_dvdr (a b : Int) : gcdI a b ∣ b := Int.gcd_dvd_right a b
theorem gcdI_pos {a b : Int} (h : b ≠ 0) : 0 < gcdI a b := by
  unfold gcdI
  have := Nat.gcd_pos_of_pos_right a.natAbs (Int.natAbs_pos.mpr h)
  omega
theorem gcdI_le {a b : Int} (h : b ≠ 0) : gcdI a b ≤ b.natAbs := by
  unfold gcdI
  have := Nat.gcd_le_right a.natAbs (Int.natAbs_pos.mpr h)
  omega
theorem gcdI_mul (k a b : Int) : gcdI (k * a) (k * b) = k.natAbs * gcdI a b := by
  have h := Int.gcd_mul_left k a b
  unfold gcdI
  have h2 : ((k * a).natAbs.gcd (k * b).natAbs) = k.natAbs * (a.natAbs.gcd b.natAbs) := h
  rw [h2, Int.natCast_mul]
theorem lsg_ne {x y b : Int} (h : b ≠ 0) : lsg x y b ≠ 0 := by
  have := gcdI_pos (a := gcdI x y) h
  unfold lsg
  split <;> omega
theorem lsg_size {x y b : Int} (h : b ≠ 0) : (lsg x y b).natAbs ≤ b.natAbs := by
  have h1 := gcdI_le (a := gcdI x y) h
  have h2 := gcdI_nn (gcdI x y) b
  unfold lsg
  split <;> omega
theorem lsg_abs {x y b : Int} : ((lsg x y b).natAbs : Int) = gcdI (gcdI x y) b := by
  have h2 := gcdI_nn (gcdI x y) b
  unfold lsg
  split <;> omega
/-- the three numbers as multiples -/
theorem red_mul {x y b : Int} (h : b ≠ 0) : x = lsg x y b * (red x y b).1 ∧ y = lsg x y b * (red x y b).2.1 ∧ b = lsg x y b * (red x y b).2.2 := by
  have hs := lsg_ne (x := x) (y := y) h
  have hd : ∀ z : Int, gcdI (gcdI x y) b ∣ z → z = lsg x y b * (z.fdiv (lsg x y b)) := fun z hz => by
    have h1 : lsg x y b ∣ z := by
      unfold lsg
      split
      · rw [Int.zero_sub]; exact Int.neg_dvd.mpr hz
      · exact hz
    obtain ⟨q, e⟩ := h1
    have e2 : z.fdiv (lsg x y b) = q := by
      have := Int.mul_fdiv_cancel_left (a := lsg x y b) q hs
      rw [← e] at this
      exact this
    rw [e2]; exact e
  exact ⟨hd x (Int.dvd_trans (gcdI_dvdl _ _) (gcdI_dvdl _ _)), hd y (Int.dvd_trans (gcdI_dvdl _ _) (gcdI_dvdr _ _)), hd b (gcdI_dvdr _ _)⟩
theorem gcd3_mul (k a b c : Int) : gcdI (gcdI (k * a) (k * b)) (k * c) = k.natAbs * gcdI (gcdI a b) c := by
  rw [gcdI_mul]
  have : gcdI ((k.natAbs : Int) * gcdI a b) (k * c) = gcdI (k * gcdI a b) (k * c) := by
    unfold gcdI
    rw [Int.natAbs_mul, Int.natAbs_mul k, Int.natAbs_natCast, Int.natAbs_mul k]
  rw [this, gcdI_mul]
theorem red_gcd {x y b : Int} (h : b ≠ 0) : gcdI (gcdI (red x y b).1 (red x y b).2.1) (red x y b).2.2 = 1 := by
  obtain ⟨e1, e2, e3⟩ := red_mul (x := x) (y := y) h
  have hp := gcdI_pos (a := gcdI x y) h
  have hg : gcdI (gcdI x y) b = (lsg x y b).natAbs * gcdI (gcdI (red x y b).1 (red x y b).2.1) (red x y b).2.2 := by
    rw [← gcd3_mul, ← e1, ← e2, ← e3]
  rw [lsg_abs] at hg
  have h2 : gcdI (gcdI x y) b * 1 = gcdI (gcdI x y) b * gcdI (gcdI (red x y b).1 (red x y b).2.1) (red x y b).2.2 := by
    rw [Int.mul_one]; exact hg
  exact (Int.eq_of_mul_eq_mul_left (by omega) h2).symm
theorem red_below {x y b : Int} (h : b ≠ 0) : 1 ≤ (red x y b).2.2 := by
  obtain ⟨_, _, e3⟩ := red_mul (x := x) (y := y) h
  have hs := lsg_ne (x := x) (y := y) h
  have hp := gcdI_pos (a := gcdI x y) h
  generalize (red x y b).2.2 = q at *
  by_cases hb : b < 0
  · have hl : lsg x y b < 0 := by unfold lsg; rw [if_pos hb]; omega
    by_cases hq : 1 ≤ q
    · exact hq
    · have := Int.mul_nonneg_of_nonpos_of_nonpos (Int.le_of_lt hl) (show q ≤ 0 by omega)
      omega
  · have hl : 0 < lsg x y b := by unfold lsg; rw [if_neg hb]; omega
    by_cases hq : 1 ≤ q
    · exact hq
    · have := Int.mul_nonpos_of_nonneg_of_nonpos (Int.le_of_lt hl) (show q ≤ 0 by omega)
      omega
theorem fdiv_size {z s q : Int} (hs : s ≠ 0) (e : z = s * q) : q.natAbs ≤ z.natAbs := by
  rw [e, Int.natAbs_mul]
  exact Nat.le_mul_of_pos_left _ (Int.natAbs_pos.mpr hs)
theorem red_size {x y b : Int} (h : b ≠ 0) : (red x y b).1.natAbs ≤ x.natAbs ∧ (red x y b).2.1.natAbs ≤ y.natAbs ∧ (red x y b).2.2.natAbs ≤ b.natAbs := by
  obtain ⟨e1, e2, e3⟩ := red_mul (x := x) (y := y) h
  have hs := lsg_ne (x := x) (y := y) h
  exact ⟨fdiv_size hs e1, fdiv_size hs e2, fdiv_size hs e3⟩
/-- what a triple needs to be the one: unique -/
theorem red_unique {x y b X Y B s : Int} (hs : s ≠ 0) (hB : 1 ≤ B) (hg : gcdI (gcdI X Y) B = 1) (e1 : x = s * X) (e2 : y = s * Y) (e3 : b = s * B) : red x y b = (X, Y, B) := by
  have hl : lsg x y b = s := by
    have hgc : gcdI (gcdI x y) b = s.natAbs := by rw [e1, e2, e3, gcd3_mul, hg, Int.mul_one]
    unfold lsg
    rw [hgc]
    by_cases h : s < 0
    · have : b < 0 := by rw [e3]; exact Int.mul_neg_of_neg_of_pos h (by omega)
      rw [if_pos this]; omega
    · have : ¬ b < 0 := by
        have := Int.mul_nonneg (show 0 ≤ s by omega) (show 0 ≤ B by omega)
        rw [e3]; omega
      rw [if_neg this]; omega
  unfold red
  rw [hl, e1, e2, e3, Int.mul_fdiv_cancel_left _ hs, Int.mul_fdiv_cancel_left _ hs, Int.mul_fdiv_cancel_left _ hs]
theorem red_scale {x y b k : Int} (hk : k ≠ 0) (hb : b ≠ 0) : red (k * x) (k * y) (k * b) = red x y b := by
  obtain ⟨e1, e2, e3⟩ := red_mul (x := x) (y := y) hb
  refine red_unique (s := k * lsg x y b) (Int.mul_ne_zero hk (lsg_ne hb)) (red_below hb) (red_gcd hb) ?_ ?_ ?_
  · rw [Int.mul_assoc]; exact congrArg (k * ·) e1
  · rw [Int.mul_assoc]; exact congrArg (k * ·) e2
  · rw [Int.mul_assoc]; exact congrArg (k * ·) e3
theorem least_scale {D x y b k : Int} (hk : k ≠ 0) (hb : b ≠ 0) : least D (k * x) (k * y) (k * b) = least D x y b := by
  unfold least
  split
  · rw [show k * x + k * y * rt D = k * (x + y * rt D) by grind]
    have := red_scale (x := x + y * rt D) (y := 0) hk hb
    rwa [Int.mul_zero] at this
  · exact red_scale hk hb
/-- a triple in least terms -/
def Good (D : Int) (t : Int × Int × Int) : Prop := 1 ≤ t.2.2 ∧ gcdI (gcdI t.1 t.2.1) t.2.2 = 1 ∧ (t.2.1 = 0 ∨ ¬ Sq D)
theorem least_good {D x y b : Int} (hb : b ≠ 0) : Good D (least D x y b) := by
  unfold least
  by_cases h : rt D * rt D = D
  · rw [if_pos h]
    refine ⟨red_below hb, red_gcd hb, .inl ?_⟩
    unfold red
    exact Int.zero_fdiv (lsg (x + y * rt D) 0 b)
  · rw [if_neg h]
    exact ⟨red_below hb, red_gcd hb, .inr h⟩
theorem red_self {X Y B : Int} (hB : 1 ≤ B) (hg : gcdI (gcdI X Y) B = 1) : red X Y B = (X, Y, B) :=
  red_unique (s := 1) (by decide) hB hg (Int.one_mul _).symm (Int.one_mul _).symm (Int.one_mul _).symm
theorem least_self {D : Int} {t : Int × Int × Int} (h : Good D t) : least D t.1 t.2.1 t.2.2 = t := by
  obtain ⟨h1, h2, h3⟩ := h
  unfold least
  split
  · rename_i hs
    rcases h3 with h3 | h3
    · rw [h3] at h2 ⊢
      rw [Int.zero_mul, Int.add_zero, red_self h1 h2]
      exact Prod.ext rfl (Prod.ext h3.symm rfl)
    · exact absurd hs h3
  · rw [red_self h1 h2]
end Kx
namespace Kx
open PySem PySem.Spec PyProof.Rows L2
/-! ### kinds of values -/
def tyS (H : Hp) : V → Option String
  | .non => some "NoneType"
  | .bl _ => some "bool"
  | .int _ => some "int"
  | .str _ => some "str"
  | .ref a => match H a with
    | some (.lst _) => some "list"
    | some (.tup _) => some "tuple"
    | some (.dK _) => some "dict"
    | _ => none
  | _ => none
def isIntV : V → Bool
  | .int _ => true
  | _ => false
theorem tyS_of {K : PySem.W.Frag} {H : Hp} {x : V} {t : String} (h : tyS H x = some t) : TyX K H x (.type t) ∧ t ∈ ["NoneType", "bool", "int", "str", "list", "tuple", "dict"] ∧ (isIntV x = (t == "int")) := by
  cases x with
  | non => cases h; exact ⟨.base .non, by decide, (show false = ("NoneType" == "int") by decide)⟩
  | bl b => cases h; exact ⟨.base (.bl b), by decide, (show false = ("bool" == "int") by decide)⟩
  | int i => cases h; exact ⟨.base (.int i), by decide, (show true = ("int" == "int") by decide)⟩
  | str z => cases h; exact ⟨.base (.str z), by decide, (show false = ("str" == "int") by decide)⟩
  | byt _ => cases h
  | flt _ => cases h
  | ty _ => cases h
  | ref a =>
    have h2 : (match H a with | some (.lst _) => some "list" | some (.tup _) => some "tuple" | some (.dK _) => some "dict" | _ => none) = some t := h
    cases e : H a with
    | none => rw [e] at h2; cases h2
    | some o =>
      rw [e] at h2
      cases o with
      | lst xs => cases h2; exact ⟨.base (.lst e), by decide, (show false = ("list" == "int") by decide)⟩
      | tup xs => cases h2; exact ⟨.base (.tup e), by decide, (show false = ("tuple" == "int") by decide)⟩
      | dK kvs => cases h2; exact ⟨.base (.dK e), by decide, (show false = ("dict" == "int") by decide)⟩
      | _ => cases h2
theorem tyS_same {H H' : Hp} {x : V} {t : String} (s : Same H H') (h : tyS H x = some t) : tyS H' x = some t := by
  cases x with
  | ref a =>
    have h2 : (match H a with | some (.lst _) => some "list" | some (.tup _) => some "tuple" | some (.dK _) => some "dict" | _ => none) = some t := h
    show (match H' a with | some (.lst _) => some "list" | some (.tup _) => some "tuple" | some (.dK _) => some "dict" | _ => none) = some t
    cases e : H a with
    | none => rw [e] at h2; cases h2
    | some o => rw [s a o e]; rw [e] at h2; exact h2
  | _ => exact h
def OkItem (H : Hp) (x : V) : Prop := ∃ t, tyS H x = some t
theorem OkItem.same {H H' : Hp} {x : V} (h : OkItem H x) (s : Same H H') : OkItem H' x := let ⟨t, e⟩ := h; ⟨t, tyS_same s e⟩
/-- a value that the judging defs may be asked for -/
def OkV (H : Hp) (x : V) : Prop := OkItem H x ∧ ∀ a xs, x = .ref a → H a = some (.tup xs) → ∀ y ∈ xs, OkItem H y
def wholesB (H : Hp) (m : Int) : V → Bool
  | .ref a => match H a with
    | some (.tup xs) => decide ((xs.length : Int) = m) && xs.all isIntV
    | _ => false
  | _ => false
def spWhole : Sp := fun vs H Q _ => ∃ x, vs = [x] ∧ OkItem H x ∧ Q (.bl (isIntV x)) H
def spWholes : Sp := fun vs H Q _ => ∃ (x : V) (m : Int), vs = [x, .int m] ∧ m ≤ 1000 ∧ OkV H x ∧ ∀ H', Same H H' → Q (.bl (wholesB H m x)) H'
def measB : V → Bool
  | .int i => decide (5 ≤ i) && decide (i % 4 < 2)
  | _ => false
def spIsMeasure : Sp := fun vs H Q _ => ∃ x, vs = [x] ∧ OkItem H x ∧ Q (.bl (measB x)) H
def Meas (D : Int) : Prop := 5 ≤ D ∧ D % 4 < 2
/-- where the measure is one -/
def spCheckMeasure0 : Sp := fun vs H Q _ => ∃ D : Int, vs = [.int D] ∧ Meas D ∧ Q .non H
def spHasRoot : Sp := fun vs H Q _ => ∃ D : Int, vs = [.int D] ∧ 0 ≤ D ∧ D < 2 ^ 2000 ∧ Q (.bl (decide (Sq D))) H
def rootB (D : Int) (H : Hp) (x : V) : Bool := wholesB H 3 x && (match x with
  | .ref a => match H a with
    | some (.tup [.int x, .int y, .int b]) => decide (1 ≤ b) && (decide (gcdI (gcdI x y) b ≤ 1) && (decide (y = 0) || !decide (Sq D)))
    | _ => false
  | _ => false)
def spIsRootOf : Sp := fun vs H Q _ => ∃ (D : Int) (x : V), vs = [.int D, x] ∧ 0 ≤ D ∧ D < 2 ^ 2000 ∧ OkV H x ∧ ∀ H', Same H H' → Q (.bl (rootB D H x)) H'
def rootV (t : Int × Int × Int) : List V := [.int t.1, .int t.2.1, .int t.2.2]
/-- a root number stands at a -/
def RootAt (D : Int) (H : Hp) (a : Addr) (t : Int × Int × Int) : Prop := H a = some (.tup (rootV t)) ∧ Good D t
theorem RootAt.same {D : Int} {H H' : Hp} {a : Addr} {t : Int × Int × Int} (h : RootAt D H a t) (s : Same H H') : RootAt D H' a t := ⟨s _ _ h.1, h.2⟩
theorem RootAt.okV {D : Int} {H : Hp} {a : Addr} {t : Int × Int × Int} (h : RootAt D H a t) : OkV H (.ref a) := by
  refine ⟨⟨"tuple", ?_⟩, fun b xs e1 e2 y hy => ?_⟩
  · show (match H a with | some (.lst _) => some "list" | some (.tup _) => some "tuple" | some (.dK _) => some "dict" | _ => none) = some "tuple"
    rw [h.1]
  · cases e1
    rw [h.1] at e2
    cases e2
    simp only [rootV, List.mem_cons, List.not_mem_nil, or_false] at hy
    rcases hy with rfl | rfl | rfl <;> exact ⟨"int", rfl⟩
theorem RootAt.isRoot {D : Int} {H : Hp} {a : Addr} {t : Int × Int × Int} (h : RootAt D H a t) : rootB D H (.ref a) = true := by
  obtain ⟨h1, h2, h3, h4⟩ := h
  unfold rootB wholesB
  simp only [h1, rootV, List.length_cons, List.length_nil, List.all_cons, List.all_nil, isIntV]
  rw [decide_eq_true h2, decide_eq_true (show gcdI (gcdI t.1 t.2.1) t.2.2 ≤ 1 by omega)]
  rcases h4 with h4 | h4
  · rw [decide_eq_true h4]; rfl
  · rw [decide_eq_false h4]; simp
/-- where every item is a root number -/
def spCheck0 : Sp := fun vs H Q _ => ∃ (D : Int) (a : Addr) (rs : List Addr), vs = [.int D, .ref a] ∧ Meas D ∧ D < 2 ^ 2000 ∧ H a = some (.tup (rs.map V.ref)) ∧ (∀ r ∈ rs, ∃ t, RootAt D H r t) ∧ ∀ H', Same H H' → Q .non H'
def spSgn : Sp := fun vs H Q _ => ∃ x : Int, vs = [.int x] ∧ Q (.int (sgn x)) H
def spFlM : Sp := fun vs H Q _ => ∃ D y : Int, vs = [.int D, .int y] ∧ 0 < D ∧ D < 2 ^ 1000 ∧ -(2 ^ 1000) < y ∧ y < 2 ^ 1000 ∧ Q (.int (flM D y)) H
/-- no part is too large -/
def Small (t : Int × Int × Int) : Prop := t.1.natAbs < 2 ^ 900 ∧ t.2.1.natAbs < 2 ^ 900 ∧ t.2.2.natAbs < 2 ^ 900
def spRootSide : Sp := fun vs H Q _ => ∃ (D : Int) (a : Addr) (t : Int × Int × Int), vs = [.int D, .ref a] ∧ Meas D ∧ D < 2 ^ 500 ∧ RootAt D H a t ∧ Small t ∧ ∀ H', Same H H' → Q (.int (sideP D t.1 t.2.1)) H'
def spRootFloor : Sp := fun vs H Q _ => ∃ (D : Int) (a : Addr) (t : Int × Int × Int), vs = [.int D, .ref a] ∧ Meas D ∧ D < 2 ^ 500 ∧ RootAt D H a t ∧ Small t ∧ ∀ H', Same H H' → Q (.int ((t.1 + flM D t.2.1).fdiv t.2.2)) H'
/-! ### the law's own -/
def spMeasure : Sp := fun vs H Q _ => ∃ (g : Addr) (n : Int) (k : Nat), vs = [.ref g, .int n] ∧ GenAt H g k ∧ k ≤ 2 ^ 39 ∧ 1 ≤ n ∧ n ≤ 40 ∧ ∀ (D : Int) (H' : Hp), Meas D → D < 2 ^ 200 → GenAt H' g (k + 100) → Keep g H H' → Q (.int D) H'
def spLeast : Sp := fun vs H Q _ => ∃ D x y b : Int, vs = [.int D, .int x, .int y, .int b] ∧ 0 ≤ D ∧ D < 2 ^ 1000 ∧ x.natAbs < 2 ^ 2000 ∧ y.natAbs < 2 ^ 2000 ∧ b.natAbs < 2 ^ 2000 ∧ b ≠ 0 ∧ ∀ (p : Addr) (H' : Hp), H p = none → Same H H' → H' p = some (.tup (rootV (least D x y b))) → Q (.ref p) H'
def spSideF : Sp := fun vs H Q _ => ∃ D x y : Int, vs = [.int D, .int x, .int y] ∧ 0 ≤ D ∧ D < 2 ^ 1000 ∧ x.natAbs < 2 ^ 2450 ∧ y.natAbs < 2 ^ 1000 ∧ Q (.int (sideF D x y)) H
def spDrawn : Sp := fun vs H Q _ => ∃ (g : Addr) (D n : Int) (k : Nat), vs = [.ref g, .int D, .int n] ∧ GenAt H g k ∧ k ≤ 2 ^ 39 ∧ 0 ≤ D ∧ D < 2 ^ 500 ∧ 1 ≤ n ∧ n ≤ 40 ∧
  ∀ (x y b : Int) (p : Addr) (H' : Hp), x.natAbs < 2 ^ 150 → y.natAbs < 2 ^ 150 → 1 ≤ b → b < 2 ^ 150 → H p = none → H' p = some (.tup (rootV (least D x y b))) → GenAt H' g (k + 100) → Keep g H H' → Q (.ref p) H'
def spFloorRight : Sp := fun vs H Q _ => ∃ (D : Int) (a : Addr) (t : Int × Int × Int), vs = [.int D, .ref a] ∧ Meas D ∧ D < 2 ^ 500 ∧ RootAt D H a t ∧ Small t ∧ ∀ H', Same H H' → Q (.bl true) H'
theorem Keep.free {g p : Addr} {H H' : Hp} (k : Keep g H H') (hp : p ≠ g) (h : H' p = none) : H p = none := by
  cases e : H p with
  | none => rfl
  | some o =>
    rw [k p o hp e] at h
    cases h
theorem wholes_get {H : Hp} {m : Int} {x : V} (h : wholesB H m x = true) : ∃ a xs, x = .ref a ∧ H a = some (.tup xs) ∧ (xs.length : Int) = m ∧ xs.all isIntV = true := by
  cases x with
  | ref a =>
    have h2 : (match H a with | some (.tup xs) => decide ((xs.length : Int) = m) && xs.all isIntV | _ => false) = true := h
    cases e : H a with
    | none => rw [e] at h2; cases h2
    | some o =>
      rw [e] at h2
      cases o with
      | tup xs =>
        obtain ⟨p, q⟩ := Bool.and_eq_true_iff.mp h2
        exact ⟨a, xs, rfl, e, of_decide_eq_true p, q⟩
      | _ => cases h2
  | _ => cases h
theorem isInt_get {x : V} (h : isIntV x = true) : ∃ i, x = .int i := by
  cases x with
  | int i => exact ⟨i, rfl⟩
  | _ => cases h
theorem wholes3 {H : Hp} {x : V} (h : wholesB H 3 x = true) : ∃ a i j k, x = .ref a ∧ H a = some (.tup [.int i, .int j, .int k]) := by
  obtain ⟨a, xs, e, ha, hl, hall⟩ := wholes_get h
  have hl3 : xs.length = 3 := by omega
  match xs, hl3 with
  | [u, v, w'], _ =>
    simp only [List.all_cons, List.all_nil, Bool.and_true, Bool.and_eq_true] at hall
    obtain ⟨h1, h2, h3⟩ := hall
    obtain ⟨i, rfl⟩ := isInt_get h1
    obtain ⟨j, rfl⟩ := isInt_get h2
    obtain ⟨l, rfl⟩ := isInt_get h3
    exact ⟨a, i, j, l, e, ha⟩
theorem rootB3 {D : Int} {H : Hp} {a : Addr} {i j k : Int} (h : H a = some (.tup [.int i, .int j, .int k])) : rootB D H (.ref a) = (decide (1 ≤ k) && (decide (gcdI (gcdI i j) k ≤ 1) && (decide (j = 0) || !decide (Sq D)))) := by
  unfold rootB wholesB
  simp only [h, List.length_cons, List.length_nil, List.all_cons, List.all_nil, isIntV, Bool.and_self, Bool.and_true]
  rfl
theorem rootB_not {D : Int} {H : Hp} {x : V} (h : wholesB H 3 x = false) : rootB D H x = false := by
  unfold rootB
  rw [h, Bool.false_and]
theorem measB_int {i : Int} : measB (.int i) = (decide (5 ≤ i) && decide (i % 4 < 2)) := rfl
theorem rIsi_ty {K : PySem.W.Frag} {H : Hp} {x : V} {t c : String} {b : Bool} {Q : VK} (ht : tyS H x = some t) (hb : kitB t c = some b) (q : Q (.bl b) H) : rIsi K [x, .ty c] H Q :=
  ⟨x, .ty c, .type t, .type c, b, rfl, .ty c, (tyS_of ht).1, kit_ty hb, q⟩
theorem tyS_tuple {H : Hp} {x : V} (h : tyS H x = some "tuple") : ∃ a xs, x = .ref a ∧ H a = some (.tup xs) := by
  cases x with
  | ref a =>
    have h2 : (match H a with | some (.lst _) => some "list" | some (.tup _) => some "tuple" | some (.dK _) => some "dict" | _ => none) = some "tuple" := h
    cases e : H a with
    | none => rw [e] at h2; cases h2
    | some o =>
      rw [e] at h2
      cases o with
      | tup xs => exact ⟨a, xs, rfl, e⟩
      | lst xs => exact absurd (Option.some.inj h2) (by decide)
      | dK xs => exact absurd (Option.some.inj h2) (by decide)
      | _ => cases h2
  | non => exact absurd (Option.some.inj h) (by decide)
  | bl _ => exact absurd (Option.some.inj h) (by decide)
  | int _ => exact absurd (Option.some.inj h) (by decide)
  | str _ => exact absurd (Option.some.inj h) (by decide)
  | _ => cases h
theorem tyS_tup {H : Hp} {a : Addr} {xs : List V} (h : H a = some (.tup xs)) : tyS H (.ref a) = some "tuple" := by
  show (match H a with | some (.lst _) => some "list" | some (.tup _) => some "tuple" | some (.dK _) => some "dict" | _ => none) = some "tuple"
  rw [h]
theorem wholes_not {H : Hp} {m : Int} {x : V} {t : String} (h : tyS H x = some t) (ht : t ≠ "tuple") : wholesB H m x = false := by
  cases hw : wholesB H m x with
  | false => rfl
  | true =>
    obtain ⟨a, xs, rfl, ha, _⟩ := wholes_get hw
    rw [tyS_tup ha] at h
    exact absurd (Option.some.inj h).symm ht
theorem wholes_tup {H : Hp} {m : Int} {a : Addr} {xs : List V} (h : H a = some (.tup xs)) : wholesB H m (.ref a) = (decide ((xs.length : Int) = m) && xs.all isIntV) := by
  unfold wholesB
  simp only [h]
theorem any_tuple (K : PySem.W.Frag) {H : Hp} {x : V} (h : OkItem H x) : (∃ t, tyS H x = some t ∧ kitB t "tuple" = some false ∧ t ≠ "tuple") ∨ (∃ a xs, x = .ref a ∧ H a = some (.tup xs)) := by
  obtain ⟨t, ht⟩ := h
  have hm := (tyS_of (K := K) ht).2.1
  simp only [List.mem_cons, List.not_mem_nil, or_false] at hm
  rcases hm with rfl | rfl | rfl | rfl | rfl | rfl | rfl
  · exact .inl ⟨_, ht, by decide +kernel, by decide⟩
  · exact .inl ⟨_, ht, by decide +kernel, by decide⟩
  · exact .inl ⟨_, ht, by decide +kernel, by decide⟩
  · exact .inl ⟨_, ht, by decide +kernel, by decide⟩
  · exact .inl ⟨_, ht, by decide +kernel, by decide⟩
  · exact .inr (tyS_tuple ht)
  · exact .inl ⟨_, ht, by decide +kernel, by decide⟩
theorem rt_le {n : Int} (h : 0 ≤ n) : 0 ≤ rt n ∧ rt n ≤ n := by
  obtain ⟨s0, s1, s2⟩ := rt_spec h
  refine ⟨s0, ?_⟩
  by_cases h : rt n ≤ 0
  · omega
  · have := Int.mul_le_mul_of_nonneg_right (show 1 ≤ rt n by omega) s0
    omega
theorem ediv_size {x b : Int} (h : 1 ≤ b) : (x / b).natAbs ≤ x.natAbs + 1 := by
  have h1 := Int.emod_nonneg x (show b ≠ 0 by omega)
  have h2 := Int.emod_lt_of_pos x (show 0 < b by omega)
  have h3 := Int.mul_ediv_add_emod x b
  by_cases hx : 0 ≤ x
  · have h4 := Int.ediv_nonneg hx (show 0 ≤ b by omega)
    have h5 := Int.ediv_le_self b hx
    omega
  · have hq : x / b ≤ -1 := by
      by_cases h : x / b ≤ -1
      · exact h
      · have := Int.mul_nonneg (show 0 ≤ b by omega) (show 0 ≤ x / b by omega)
        omega
    have h6 := Int.mul_le_mul_of_nonpos_right h (show x / b + 1 ≤ 0 by omega)
    rw [Int.mul_add, Int.mul_one] at h6
    omega
theorem flat_int {i : Int} (h : i.natAbs < 2 ^ 1900) : flatText (.int i) = some (toString i : Str) := by
  have h2 : i.natAbs.log2 < 1920 := Nat.lt_of_lt_of_le (PySem.Flt.log2_lt_of (by decide) h) (by decide)
  show (if i.natAbs.log2 < 1920 then some (toString i : Str) else none) = _
  rw [if_pos h2]
theorem sideF_small (D x y : Int) : (sideF D x y).natAbs ≤ 1 := by
  unfold sideF
  repeat' split
  all_goals decide
theorem least_small {D x y b : Int} (h0 : 0 ≤ D) (h1 : D < 2 ^ 200) (hx : x.natAbs < 2 ^ 600) (hy : y.natAbs < 2 ^ 600) (hb : b.natAbs < 2 ^ 600) (hb0 : b ≠ 0) : Small (least D x y b) := by
  obtain ⟨r0, r1⟩ := rt_le h0
  unfold least Small
  split
  · have w1 : (y * rt D).natAbs < 2 ^ (600 + 200) := wide_lt hy (by omega)
    simp only [Nat.reduceAdd] at w1
    obtain ⟨p, q, r⟩ := red_size (x := x + y * rt D) (y := 0) hb0
    exact ⟨by omega, by omega, by omega⟩
  · obtain ⟨p, q, r⟩ := red_size (x := x) (y := y) hb0
    exact ⟨by omega, by omega, by omega⟩
theorem RootAt.least {D x y b : Int} {H : Hp} {a : Addr} (h : H a = some (.tup (rootV (least D x y b)))) (hb0 : b ≠ 0) : RootAt D H a (least D x y b) := ⟨h, least_good hb0⟩
/-- behind all draws: what stood stands, a generator apart -/
def spRight (K : PySem.W.Frag) : Sp := fun vs H Q _ => ∃ g : Addr, vs = [.ref g] ∧ GenAt H g 100000 ∧ ∀ H', Keep g H H' → Q (.bl true) H'
def spLaw (K : PySem.W.Frag) : Sp := fun vs H Q _ => ∃ (a : Addr) (ns : List Int), vs = [.ref a] ∧ SqL K H a (ns.map V.int) ∧ ns.length ≤ 63 ∧ ∀ H', Q (.bl true) H'

theorem dpAll_ints {K : PySem.W.Frag} {H : Hp} : ∀ ns : List Int, DpAll K H (ns.map V.int) (ns.map PyData.int)
  | [] => .nil
  | n :: ns => .cons (.int n) (dpAll_ints ns)
theorem dp_ints {K : PySem.W.Frag} {H : Hp} {a : Addr} {ns : List Int} (h : H a = some (.lst (ns.map V.int))) : Dp K H (.ref a) (.list (ns.map PyData.int)) := .lst (SqL.of h) (dpAll_ints ns)
theorem eqv_same {d : PyData} (h : SeqAt.shaped d = true) : PyData.eqv d d = true := SeqAt.eqv_refl d (SeqAt.canLay_of_shaped h)
/-- two lists of the same ints -/
theorem ne_ints {K : PySem.W.Frag} {H : Hp} {a b : Addr} {Q : VK} (ns : List Int) (h1 : H a = some (.lst (ns.map V.int))) (h2 : H b = some (.lst (ns.map V.int))) (hs : SeqAt.shaped (.list (ns.map PyData.int)) = true) (q : Q (.bl false) H) : rNeD K (.ref a) (.ref b) H Q :=
  ⟨_, _, dp_ints h1, dp_ints h2, hs, hs, by rw [eqv_same hs]; exact q⟩
theorem eq_ints {K : PySem.W.Frag} {H : Hp} {a b : Addr} {Q : VK} (ns : List Int) (h1 : H a = some (.lst (ns.map V.int))) (h2 : H b = some (.lst (ns.map V.int))) (hs : SeqAt.shaped (.list (ns.map PyData.int)) = true) (q : Q (.bl true) H) : rEqD K (.ref a) (.ref b) H Q :=
  ⟨_, _, dp_ints h1, dp_ints h2, hs, hs, by rw [eqv_same hs]; exact q⟩
theorem ne_new {H : Hp} {p q : Addr} {o : HO} (h : upd H p o q = none) : p ≠ q := fun z => by
  rw [← z, upd_same] at h
  cases h
end Kx

set_option Elab.async false
set_option linter.all false
set_option maxRecDepth 100000
set_option maxHeartbeats 4000000
set_option exponentiation.threshold 4000
/-! Defs that ask for the repr of data: no repr is under way around them. -/
namespace Kx
open PySem PySem.Spec PyProof.Rows L2

structure FnG (P : Program) (w : World) (K : PySem.W.Frag) (mg : Str → Option Value) (base : Heap) (k : Nat) (f : Addr) (fd : FuncData) (ps : List Str) (sp : Sp) : Prop where
  len : ∀ vs H Q E, sp vs H Q E → vs.length = ps.length
  run : ∀ (A : Around) (outer : List Env) (s : Shared) (H : Hp) (args : Args) (us : List Value) (vs : List V) (Q : VK) (E : XK), A.guards = some [] → Room k A → Env0 P w K mg base A outer s H → BindsTo s fd args (ps.zip us) → Vals vs us → sp vs H Q E →
    codeAny (model P w) A (.call (.ref f) args) (CR CX0 outer P w H s Q E) s
theorem FnG.of {P : Program} {w : World} {K : PySem.W.Frag} {mg : Str → Option Value} {base : Heap} {k : Nat} {f : Addr} {fd : FuncData} {ps : List Str} {sp : Sp} (F : FnOk P w K mg base CX0 k f fd ps sp) : FnG P w K mg base k f fd ps sp :=
  ⟨F.len, fun A outer s H args us vs Q E _ => F.run A outer s H args us vs Q E⟩
section
variable {P : Program} {w : World} {K : PySem.W.Frag} {mg : Str → Option Value} {base : Heap}
/-- a def by its body, which may lean on the guards -/
theorem fnG_mk {x qual : Str} {st : Stmt} {f : Addr} {fd : FuncData} {N ps : List Str} {k : Nat} {sp : Sp} (F : Fun K x qual st f fd) (S : FnScope N ps (defScope st)) (hlen : ∀ vs H Q E, sp vs H Q E → vs.length = ps.length)
    (body : ∀ (cdv : Value) (A : Around) (outer : List Env) (s : Shared) (H : Hp) (vs : List V) (Q : VK) (E : XK), (A.deeper (envOfC qual (defScope st) s.heap.objs.size f cdv)).guards = some [] → Room k (A.deeper (envOfC qual (defScope st) s.heap.objs.size f cdv)) → sp vs H Q E →
      ∃ t, PSs (cxOf CX0 P w K mg base N qual (defScope st) f cdv A outer s H E).nox (defBody st) t ∧ t { nx := fun _ H' => Q .non H', rt := Q } (L2.start N vs) H) : FnG P w K mg base (k + 1) f fd ps sp := by
  obtain ⟨cls0, dct0, kwd0, doc0, mod0, ann0, cdv, typ0, slots0, rfl, look, code⟩ := F.ex
  constructor
  · exact hlen
  · intro A outer s H args us vs Q E gd room e0 binds rel hsp
    have ln := hlen _ _ _ _ hsp
    have kept : ∀ b o, base.get? b = some o → s.heap.get? b = some o := fun b o z => (e0.bs b o z).1
    have kin := e0.mod.kin.keeps kept
    have kinds : ∀ y ∈ ps.zip us, (defScope st).names.lookup y.1 = some .local ∨ ((defScope st).names.lookup y.1 = some .cell ∧ ((cellsFrom (s.heap.objs.size + 1) (defScope st).names []).lookup y.1).isSome = true) := by
      rintro ⟨nm, vl⟩ hy
      rcases S.par nm (List.of_mem_zip hy).1 with h | h
      · left; exact h
      · right; exact ⟨h, PySem.W.cellsFrom_some _ _ _ (.inl h)⟩
    apply codeAny_call_function room.depth (kin _ _ look) rfl S.co S.gen rfl (PySem.W.codeRec_of kin code)
    apply binds
    refine wpAny_newFunctionEnv_cells S.kind kinds fun env henv s1 ic => ?_
    subst henv
    refine ⟨(e0.mod.nolimit.keeps kept).keeps ic.toInCall.keep, codeAny_func ?_⟩
    obtain ⟨t, der, rd⟩ := body cdv A outer s H vs Q E gd (room.deeper _) hsp
    have inv0 : Inv (cxOf CX0 P w K mg base N qual (defScope st) f cdv A outer s H E) [] (L2.start N vs) H s1 := inv_start S room.hd e0 ln rel ic
    have back : ∀ {σ1 : SV} {H1 : Hp} {s2 : Shared} {v : V} {u : Value}, Inv (cxOf CX0 P w K mg base N qual (defScope st) f cdv A outer s H E) [] σ1 H1 s2 → RelV v u → Q v H1 → CE outer P w H s Q u s2 := by
      intro σ1 H1 s2 v u J rv q
      exact ⟨v, H1, J.os, J.bare, J.base, J.hok, rv, q⟩
    refine wpAny_mono (der.nox.run [] s1 (L2.start N vs) H _ inv0 rd) (fun fl s2 hs => ?_) fun e s2 hs => hs
    cases fl with
    | ret u => exact let ⟨v, σ1, H1, J, rv, q⟩ := hs; back J rv q
    | next => exact let ⟨σ1, H1, J, q⟩ := hs; back (v := V.non) (u := Value.none) J rfl q
    | brk => exact let ⟨_, _, _, q⟩ := hs; q.elim
    | cont => exact let ⟨_, _, _, q⟩ := hs; q.elim
end
structure DefG (P : Program) (w : World) (K : PySem.W.Frag) (mg : Str → Option Value) (base : Heap) (k : Nat) (x : Str) (f : Addr) (fd : FuncData) (ps : List Str) (sp : Sp) : Prop where
  F : FnG P w K mg base k f fd ps sp
  m : mg x = some (.ref f)
  kp : PySem.W.keepIn K (.ref f) = true
  b : Binds K fd ps []
section
variable {X : Cx} {k j : Nat} {f : Addr} {fd : FuncData} {ps ks : List Str} {sp : Sp} {x : Str} {p pos : Pos} {e : Expr} {es : List Expr} {t tk : TA} {kws : List Keyword}
theorem pe_g (D : DefG X.prog X.w X.K X.mg X.base k x f fd ps sp) (gd : X.A.guards = some []) (hr : Room j X.A) (ha : PA X (e :: es) t) (hkj : k ≤ j := by decide) (hg : Gl X x := by rfl) (hdb : (x == ("__debug__" : Str)) = false := by decide)
    (he : starEach (e :: es) X.env = (false, eval e X.env) :: starEach es X.env := by rfl) (hpl : (backTo pos (starEach es X.env)).any (·.1) = false := by rfl) : PE X (.Call (.Name x p) (e :: es) [] pos) (tD sp t) := by
  refine ⟨fun pins s σ H Q I h => wpAny_Call_Name_kw (ld_glob I hg D.m ?_ hdb)⟩
  refine PySem.W.callWith_K (h₀ := X.base) I.ok.mod.kin D.kp (thn (ha.run pos pins s σ H _ I h) fun us s1 ⟨vs, H1, I1, r, q⟩ => ⟨I1.kIn, ?_⟩) he hpl
  have hl : us.length = ps.length := r.length.symm.trans (D.F.len _ _ _ _ q)
  have hb := D.b s1 us I1.kIn (by rw [List.append_nil]; exact hl)
  rw [List.append_nil] at hb
  refine wpAny_call (codeAny_mono (D.F.run X.A X.stack s1 H1 ⟨us, []⟩ us vs Q E0 gd (hr.mono hkj) I1.env0 hb r q) fun rr s2 hq => ?_)
  cases rr with
  | error er => exact (hq : False).elim
  | ok fl =>
    cases fl with
    | ret u => exact I1.after hq
    | next => exact False.elim hq
    | brk => exact False.elim hq
    | cont => exact False.elim hq
end
/-- repr of data -/
theorem cr_reprD {X : Cx} (gd : X.A.guards = some []) (hu : X.A.units + 64 < cLine) : CallR X (.builtin "repr") (fun vs H Q => ∃ (x : V) (d : PyData), vs = [x] ∧ Dp X.K H x d ∧ d.showable = true ∧ d.hasDict = false ∧ d.depth ≤ 60 ∧ d.shown.length ≤ sizeLine ∧ Q (.str d.shown) H) := by
  intro pins s σ H vs us Q I r h
  obtain ⟨x, d, rfl, hd, h1, h2, h3, h4, q⟩ := h
  obtain ⟨u, rfl, rx⟩ := vals1 r
  cases x with
  | ref a =>
    cases rx
    obtain ⟨as, rd⟩ := Dp.reads I d (.ref a) (.ref a) hd rfl
    exact repr_of_reads' rd h1 (PyData.noDict_hsm h2) gd (by omega) (fun _ _ z => z) (fun h' t tk hk => ⟨.str d.shown, H, I.kept hk, ⟨_, rfl⟩, q⟩) h4
  | int i =>
    cases hd
    obtain ⟨t, rfl⟩ := rx
    exact PySem.P.repr_of_int (by simpa [PyData.showable] using h1) ⟨.str _, H, I.tok _, ⟨_, rfl⟩, by simpa only [PyData.shown] using q⟩
  | bl b =>
    cases hd
    cases rx
    exact PySem.P.repr_of_bool ⟨.str _, H, I.tok _, ⟨_, rfl⟩, by simpa only [PyData.shown] using q⟩
  | non =>
    cases hd
    cases rx
    exact PySem.P.repr_of_none ⟨.str _, H, I.tok _, ⟨_, rfl⟩, by simpa only [PyData.shown] using q⟩
  | str z =>
    cases hd
    obtain ⟨t, rfl⟩ := rx
    exact PySem.P.repr_of_str ⟨.str _, H, I.tok _, ⟨_, rfl⟩, by simpa only [PyData.shown] using q⟩ (by simpa only [PyData.shown] using h4)
  | _ => cases hd
end Kx
namespace Kx
open PySem PySem.Spec PyProof.Rows L2
section
variable {P : Program} {w : World} {K : PySem.W.Frag} {mg mb : Str → Option Value} {k : Nat} {fa a : Addr} {fd : FuncData} {x : Str} {sp : Sp} {s₁ : Shared} {vs : List Value} {ns : List Int}
/-- the law's def at a heap in which nothing but the script is tracked -/
theorem lawG_at (kin : K.In s₁.heap) (gl : s₁.heap.Ns mainGlobals mg) (bl : s₁.heap.Ns builtinsNs mb) (bb : ∀ x : Str, x ≠ "__name__" → mb x = bootBuiltins x) (lim : s₁.heap.NoLimit) (gens : s₁.gens = #[])
    (sc : s₁.heap.get? a = some { cls := .type "list", data := .seq vs.toArray }) (hr : Room k callerA)
    (F : ∀ base : Heap, K.In base → base.Ns mainGlobals mg → FnG P w K mg base k fa fd [x] sp) (bind : ∀ (s : Shared) (u : Value), BindsTo s fd ⟨[u], []⟩ [(x, u)])
    (H : Hp) (only : Only H) (ok : HOk P w H s₁.heap) (lone : ∀ b, H b ≠ none → b = a) (notK : H a ≠ none → K.lookup a = none) (want : sp [.ref a] H (fun v _ => v = .bl true) E0) :
    codeAny (model P w) callerA (.call (.ref fa) ⟨[.ref a], []⟩) (fun r s' => r = .ok (.ret (.bool true)) ∧ OldK s₁.heap s'.heap ∧ s'.os = s₁.os ∧ AllBare s'.gens) s₁ := by
  have free : ∀ {b : Addr}, b ≠ a → H b = none := fun {b} hb => by
    cases q : H b with
    | none => rfl
    | some u => exact (hb (lone b (by rw [q]; exact Option.some_ne_none u))).elim
  have dictFree : ∀ {b : Addr} {o : Obj} {es : Array DictEntry} {ep : Nat}, s₁.heap.get? b = some o → o.data = .dict es ep → H b = none := fun {b o es ep} e d => by
    by_cases hb : b = a
    · subst hb
      rw [sc] at e
      cases e
      exact absurd d (fun z => by cases z)
    · exact free hb
  have kNs : ∀ {b : Addr} {m : Str → Option Value}, s₁.heap.Ns b m → (hidT s₁.heap H).Ns b m := by
    rintro b m ⟨o, es, ep, e, d, r⟩
    exact ⟨o, es, ep, hidT_get e (dictFree e d), d, r⟩
  have kFree : ∀ b o, K.lookup b = some o → H b = none := fun b o e => by
    by_cases hb : b = a
    · subst hb
      cases q : H b with
      | none => rfl
      | some u =>
        rw [notK (by rw [q]; exact Option.some_ne_none u)] at e
        cases e
    · exact free hb
  have kinB : K.In (hidT s₁.heap H) := fun b o e => hidT_get (kin b o e) (kFree b o e)
  have modB : Mod K mg (hidT s₁.heap H) := ⟨kinB, kNs gl, ⟨mb, kNs bl, bb⟩, by
    obtain ⟨mc, l1, l2⟩ := lim
    exact ⟨mc, kNs l1, l2⟩⟩
  have entry : Env0 P w K mg (hidT s₁.heap H) callerA [] s₁ H :=
    { frames := rfl, mod := modB, bs := fun b o e => of_hidT e, bsz := Nat.le_of_eq (hidT_size _ _), funs := trivial, frf := fun b hb => (by cases hb), hok := ok, bare := .of_eq gens }
  have go := (F _ kinB (kNs gl)).run callerA [] s₁ H ⟨[.ref a], []⟩ [.ref a] [.ref a] (fun v _ => v = .bl true) E0 rfl hr entry (bind s₁ (.ref a)) (.cons rfl .nil) want
  refine codeAny_mono go fun r s' h => ?_
  match r, h with
  | .error _, h => exact (h : False).elim
  | .ok .next, h => exact (h : False).elim
  | .ok .brk, h => exact (h : False).elim
  | .ok .cont, h => exact (h : False).elim
  | .ok (.ret u), h =>
    obtain ⟨v, H1, os, bare, un, ok1, rel, q⟩ := h
    have q1 : v = .bl true := q
    rw [q1] at rel
    have ru : u = Value.bool true := rel
    rw [ru]
    refine ⟨rfl, OldK.of_keep fun b o e => ?_, os, bare⟩
    cases hb : H b with
    | none => exact un.keep b o e hb (fun z => by cases z) (fun z => by cases z)
    | some t =>
      rcases only b with z | ⟨ob, xs, z⟩
      · rw [hb] at z; cases z
      · have e1 := (ok b _ z).1
        rw [e] at e1
        cases e1
        exact (ok1 b _ (un.frzs b _ _ z)).1
theorem lawG (kin : K.In s₁.heap) (gl : s₁.heap.Ns mainGlobals mg) (bl : s₁.heap.Ns builtinsNs mb) (bb : ∀ x : Str, x ≠ "__name__" → mb x = bootBuiltins x) (lim : s₁.heap.NoLimit) (gens : s₁.gens = #[])
    (sc : s₁.heap.get? a = some { cls := .type "list", data := .seq vs.toArray }) (hints : IntsAre vs ns) (hl : ns.length ≤ sizeLine) (hr : Room k callerA)
    (F : ∀ base : Heap, K.In base → base.Ns mainGlobals mg → FnG P w K mg base k fa fd [x] sp) (bind : ∀ (s : Shared) (u : Value), BindsTo s fd ⟨[u], []⟩ [(x, u)])
    (want : ∀ H : Hp, Only H → SqL K H a (ns.map V.int) → sp [.ref a] H (fun v _ => v = .bl true) E0) :
    codeAny (model P w) callerA (.call (.ref fa) ⟨[.ref a], []⟩) (fun r s' => r = .ok (.ret (.bool true)) ∧ OldK s₁.heap s'.heap ∧ s'.os = s₁.os ∧ AllBare s'.gens) s₁ := by
  have rv := vals_ints hints
  have lenV := hints.length
  cases hk : K.lookup a with
  | some o =>
    have e := kin a o hk
    rw [sc] at e
    cases e
    have on : Only (fun _ => none) := fun _ => .inl rfl
    refine lawG_at kin gl bl bb lim gens sc hr F bind (fun _ => none) on (fun b u z => by cases z) (fun b z => (z rfl).elim) (fun z => (z rfl).elim) (want _ on ?_)
    exact .inr ⟨_, vs.toArray, _, hk, rfl, rfl, rfl, by rw [List.size_toArray, lenV]; exact hl, by simpa using rv⟩
  | none =>
    have on : Only (fun b => if b = a then some (.frz { cls := .type "list", data := .seq vs.toArray } (.lst (ns.map V.int))) else none) := fun b => by
      by_cases hb : b = a
      · exact .inr ⟨_, _, if_pos hb⟩
      · exact .inl (if_neg hb)
    refine lawG_at kin gl bl bb lim gens sc hr F bind _ on (fun b u z => ?_) (fun b z => ?_) (fun _ => hk) (want _ on (.inl (.inr ⟨_, if_pos rfl⟩)))
    · by_cases hb : b = a
      · have z1 := (if_pos hb).symm.trans z
        cases z1
        rw [hb]
        exact ⟨sc, by rw [List.length_map]; exact hl, vs, _, rv, sc⟩
      · have z1 := (if_neg hb).symm.trans z
        cases z1
    · by_cases hb : b = a
      · exact hb
      · exact (z (if_neg hb)).elim
end
theorem walkG {l : PySem.W.OpenLaw} {n k : Nat} {q : Program} {loose : List Str} {XP : (Str → Option Value) → Heap → Prop} {YP : World → Heap → Prop} {d : DefRec} {K : Params → PySem.W.Frag} {sp : World → Sp} {x : Str}
    (hn : l.most = some n) (hn2 : n ≤ sizeLine) (hdf : d.params.defaults = []) (hr : Room k callerA) (hY : ∀ (w : World) (h : Heap), YP w h → (K w.params).In h)
    (F : ∀ (w : World) (mg : Str → Option Value) (fa : Addr) (h : Heap), (K w.params).In h → h.Ns mainGlobals mg → mg d.name = some (.ref fa) →
      ∃ fd : FuncData, (∀ (s : Shared) (u : Value), BindsTo s fd ⟨[u], []⟩ [(x, u)]) ∧ ∀ base : Heap, (K w.params).In base → base.Ns mainGlobals mg → FnG l.prog w (K w.params) mg base k fa fd [x] (sp w))
    (want : ∀ (w : World) (H : Hp) (a : Addr) (ns : List Int), ns.length ≤ n → Only H → SqL (K w.params) H a (ns.map V.int) → sp w [.ref a] H (fun v _ => v = .bl true) E0) :
    PySem.W.WalkO q loose XP YP l.row.toRowW d [] (fun f vs => PySem.call f vs) := by
  apply Att.attach_call hn hdf
  intro w s₀ s₁ mg mb fa o pm cd doc a vs ns G Y ho hd hcd hmg hobj hints hlen hg
  obtain ⟨fd, hb, hF⟩ := F w mg fa _ (hY w _ Y) G.T.g hmg
  exact lawG (hY w _ Y) G.T.g G.T.b G.T.builtins G.T.nolimit hg hobj hints (Nat.le_trans hlen hn2) hr hF hb (fun H hO hS => want w H a ns hlen hO hS)
end Kx

set_option Elab.async false
set_option linter.all false
set_option maxRecDepth 100000
set_option maxHeartbeats 4000000
set_option exponentiation.threshold 4000
/-! The reckoning of root numbers. -/
namespace Kx
open PySem
theorem least_red {D x y b : Int} (h : Sq D → y = 0) : least D x y b = red x y b := by
  unfold least
  split
  · rename_i hs
    rw [h hs, Int.zero_mul, Int.add_zero]
  · rfl
def plusT (D s : Int) (t u : Int × Int × Int) : Int × Int × Int := least D (t.1 * u.2.2 + s * u.1 * t.2.2) (t.2.1 * u.2.2 + s * u.2.1 * t.2.2) (t.2.2 * u.2.2)
def timesT (D : Int) (t u : Int × Int × Int) : Int × Int × Int := least D (t.1 * u.1 + D * t.2.1 * u.2.1) (t.1 * u.2.1 + t.2.1 * u.1) (t.2.2 * u.2.2)
def normT (D : Int) (u : Int × Int × Int) : Int := u.1 * u.1 - D * u.2.1 * u.2.1
def invT (D : Int) (u : Int × Int × Int) : Int × Int × Int := least D (u.2.2 * u.1) (-u.2.2 * u.2.1) (normT D u)
theorem Good.flat {D : Int} {t : Int × Int × Int} (h : Good D t) (s : Sq D) : t.2.1 = 0 := by
  rcases h.2.2 with h | h
  · exact h
  · exact absurd s h
theorem mul_ne {a b : Int} (h : a ≠ 0) (h2 : b ≠ 0) : a * b ≠ 0 := Int.mul_ne_zero h h2
theorem below_ne {D : Int} {t : Int × Int × Int} (h : Good D t) : t.2.2 ≠ 0 := by have := h.1; omega
theorem plus_good {D s : Int} {t u : Int × Int × Int} (ht : Good D t) (hu : Good D u) : Good D (plusT D s t u) := least_good (mul_ne (below_ne ht) (below_ne hu))
theorem times_good {D : Int} {t u : Int × Int × Int} (ht : Good D t) (hu : Good D u) : Good D (timesT D t u) := least_good (mul_ne (below_ne ht) (below_ne hu))
theorem norm_ne {D : Int} {u : Int × Int × Int} (h0 : 0 ≤ D) (hu : Good D u) (hz : ¬ (u.1 = 0 ∧ u.2.1 = 0)) : normT D u ≠ 0 := fun e => by
  unfold normT at e
  by_cases hy : u.2.1 = 0
  · rw [hy] at e
    have h1 : u.1 ≠ 0 := fun z => hz ⟨z, hy⟩
    have h2 := xx_pos h1
    rw [Int.mul_zero] at e
    omega
  · rcases hu.2.2 with h | h
    · exact hy h
    · exact h (sq_of (x := u.1) h0 hy (by omega))
theorem plus_red {D s : Int} {t u : Int × Int × Int} (ht : Good D t) (hu : Good D u) : plusT D s t u = red (t.1 * u.2.2 + s * u.1 * t.2.2) (t.2.1 * u.2.2 + s * u.2.1 * t.2.2) (t.2.2 * u.2.2) :=
  least_red fun h => by rw [ht.flat h, hu.flat h, Int.zero_mul, Int.mul_zero, Int.zero_mul]; rfl
theorem times_red {D : Int} {t u : Int × Int × Int} (ht : Good D t) (hu : Good D u) : timesT D t u = red (t.1 * u.1 + D * t.2.1 * u.2.1) (t.1 * u.2.1 + t.2.1 * u.1) (t.2.2 * u.2.2) :=
  least_red fun h => by rw [ht.flat h, hu.flat h, Int.zero_mul, Int.mul_zero]; rfl
theorem inv_red {D : Int} {u : Int × Int × Int} (hu : Good D u) : invT D u = red (u.2.2 * u.1) (-u.2.2 * u.2.1) (normT D u) :=
  least_red fun h => by rw [hu.flat h, Int.mul_zero]
theorem inv_good {D : Int} {u : Int × Int × Int} (h0 : 0 ≤ D) (hu : Good D u) (hz : ¬ (u.1 = 0 ∧ u.2.1 = 0)) : Good D (invT D u) := least_good (norm_ne h0 hu hz)
theorem ringA (a3 p a1 P1 D a2 P2 : Int) : a3 * p * (a1 * P1 + D * a2 * P2) = a3 * (a1 * (p * P1) + D * a2 * (p * P2)) := by grind
theorem ringB (u v U1 V3 V1 U3 : Int) : u * v * (U1 * V3 + 1 * V1 * U3) = (u * U1) * (v * V3) + 1 * (v * V1) * (u * U3) := by grind
theorem ringC (a1 a2 a3 b1 b2 b3 c1 c2 c3 D : Int) : a3 * (a1 * (b1 * c3 + 1 * c1 * b3) + D * a2 * (b2 * c3 + 1 * c2 * b3)) = (a1 * b1 + D * a2 * b2) * (a3 * c3) + 1 * (a1 * c1 + D * a2 * c2) * (a3 * b3) := by grind
theorem ringD (a3 p a1 P1 a2 P2 : Int) : a3 * p * (a1 * P2 + a2 * P1) = a3 * (a1 * (p * P2) + a2 * (p * P1)) := by grind
theorem ringE (a1 a2 a3 b1 b2 b3 c1 c2 c3 : Int) : a3 * (a1 * (b2 * c3 + 1 * c2 * b3) + a2 * (b1 * c3 + 1 * c1 * b3)) = (a1 * b2 + a2 * b1) * (a3 * c3) + 1 * (a1 * c2 + a2 * c1) * (a3 * b3) := by grind
theorem ringF (a3 p P3 : Int) : a3 * p * (a3 * P3) = a3 * (a3 * (p * P3)) := by grind
theorem ringG (u v U3 V3 : Int) : u * v * (U3 * V3) = (u * U3) * (v * V3) := by grind
theorem ringH (a3 b3 c3 : Int) : a3 * (a3 * (b3 * c3)) = (a3 * b3) * (a3 * c3) := by grind
theorem ringI (q i T1 b1 D T2 b2 : Int) : q * i * (T1 * b1 + D * T2 * b2) = i * (b1 * (q * T1) + D * b2 * (q * T2)) := by grind
theorem ringJ (i a1 I1 D a2 I2 b1 b2 : Int) : i * (b1 * (a1 * I1 + D * a2 * I2) + D * b2 * (a1 * I2 + a2 * I1)) = b1 * (a1 * (i * I1) + D * a2 * (i * I2)) + D * b2 * (a1 * (i * I2) + a2 * (i * I1)) := by grind
theorem ringK (a1 a2 b1 b2 b3 D : Int) : b1 * (a1 * (b3 * b1) + D * a2 * (-b3 * b2)) + D * b2 * (a1 * (-b3 * b2) + a2 * (b3 * b1)) = b3 * (b1 * b1 - D * b2 * b2) * a1 := by grind
theorem ringL (q i T1 b1 T2 b2 : Int) : q * i * (T1 * b2 + T2 * b1) = i * (b2 * (q * T1) + b1 * (q * T2)) := by grind
theorem ringM (i a1 I1 D a2 I2 b1 b2 : Int) : i * (b2 * (a1 * I1 + D * a2 * I2) + b1 * (a1 * I2 + a2 * I1)) = b2 * (a1 * (i * I1) + D * a2 * (i * I2)) + b1 * (a1 * (i * I2) + a2 * (i * I1)) := by grind
theorem ringN (a1 a2 b1 b2 b3 D : Int) : b2 * (a1 * (b3 * b1) + D * a2 * (-b3 * b2)) + b1 * (a1 * (-b3 * b2) + a2 * (b3 * b1)) = b3 * (b1 * b1 - D * b2 * b2) * a2 := by grind
theorem ringO (q i T3 b3 : Int) : q * i * (T3 * b3) = i * b3 * (q * T3) := by grind
theorem ringP (i a3 I3 b3 : Int) : i * b3 * (a3 * I3) = b3 * (i * I3) * a3 := by grind
theorem ringQ (q i U1 I1 D U2 I2 : Int) : q * i * (U1 * I1 + D * U2 * I2) = (q * U1) * (i * I1) + D * (q * U2) * (i * I2) := by grind
theorem ringR (a1 a2 b1 b2 b3 D : Int) : (a1 * b1 + D * a2 * b2) * (b3 * b1) + D * (a1 * b2 + a2 * b1) * (-b3 * b2) = b3 * (b1 * b1 - D * b2 * b2) * a1 := by grind
theorem ringS (q i U1 I1 U2 I2 : Int) : q * i * (U1 * I2 + U2 * I1) = (q * U1) * (i * I2) + (q * U2) * (i * I1) := by grind
theorem ringT (a1 a2 b1 b2 b3 D : Int) : (a1 * b1 + D * a2 * b2) * (-b3 * b2) + (a1 * b2 + a2 * b1) * (b3 * b1) = b3 * (b1 * b1 - D * b2 * b2) * a2 := by grind
theorem ringU (a3 b3 n : Int) : (a3 * b3) * n = b3 * n * a3 := by grind
/-- the sum's product is the products' sum -/
theorem distrib {D : Int} {a b c : Int × Int × Int} (ha : Good D a) (hb : Good D b) (hc : Good D c) : timesT D a (plusT D 1 b c) = plusT D 1 (timesT D a b) (timesT D a c) := by
  have na := below_ne ha
  have nb := below_ne hb
  have nc := below_ne hc
  have gP : Good D (plusT D 1 b c) := plus_good hb hc
  have gU : Good D (timesT D a b) := times_good ha hb
  have gV : Good D (timesT D a c) := times_good ha hc
  rw [times_red ha gP, plus_red gU gV]
  obtain ⟨p1, p2, p3⟩ := red_mul (x := b.1 * c.2.2 + 1 * c.1 * b.2.2) (y := b.2.1 * c.2.2 + 1 * c.2.1 * b.2.2) (mul_ne nb nc)
  obtain ⟨u1, u2, u3⟩ := red_mul (x := a.1 * b.1 + D * a.2.1 * b.2.1) (y := a.1 * b.2.1 + a.2.1 * b.1) (mul_ne na nb)
  obtain ⟨v1, v2, v3⟩ := red_mul (x := a.1 * c.1 + D * a.2.1 * c.2.1) (y := a.1 * c.2.1 + a.2.1 * c.1) (mul_ne na nc)
  rw [← plus_red hb hc] at p1 p2 p3
  rw [← times_red ha hb] at u1 u2 u3
  rw [← times_red ha hc] at v1 v2 v3
  have sp := lsg_ne (x := b.1 * c.2.2 + 1 * c.1 * b.2.2) (y := b.2.1 * c.2.2 + 1 * c.2.1 * b.2.2) (mul_ne nb nc)
  have su := lsg_ne (x := a.1 * b.1 + D * a.2.1 * b.2.1) (y := a.1 * b.2.1 + a.2.1 * b.1) (mul_ne na nb)
  have sv := lsg_ne (x := a.1 * c.1 + D * a.2.1 * c.2.1) (y := a.1 * c.2.1 + a.2.1 * c.1) (mul_ne na nc)
  have nP := below_ne gP
  have nU := below_ne gU
  have nV := below_ne gV
  generalize lsg (b.1 * c.2.2 + 1 * c.1 * b.2.2) (b.2.1 * c.2.2 + 1 * c.2.1 * b.2.2) (b.2.2 * c.2.2) = p at *
  generalize lsg (a.1 * b.1 + D * a.2.1 * b.2.1) (a.1 * b.2.1 + a.2.1 * b.1) (a.2.2 * b.2.2) = u at *
  generalize lsg (a.1 * c.1 + D * a.2.1 * c.2.1) (a.1 * c.2.1 + a.2.1 * c.1) (a.2.2 * c.2.2) = v at *
  generalize plusT D 1 b c = P at *
  generalize timesT D a b = U at *
  generalize timesT D a c = V at *
  rw [← red_scale (k := a.2.2 * p) (mul_ne na sp) (mul_ne na nP), ← red_scale (k := u * v) (mul_ne su sv) (mul_ne nU nV)]
  have e1 : a.2.2 * p * (a.1 * P.1 + D * a.2.1 * P.2.1) = u * v * (U.1 * V.2.2 + 1 * V.1 * U.2.2) := by rw [ringA, ← p1, ← p2, ringB u v, ← u1, ← v3, ← v1, ← u3, ringC]
  have e2 : a.2.2 * p * (a.1 * P.2.1 + a.2.1 * P.1) = u * v * (U.2.1 * V.2.2 + 1 * V.2.1 * U.2.2) := by rw [ringD, ← p1, ← p2, ringB u v, ← u2, ← v3, ← v2, ← u3, ringE]
  have e3 : a.2.2 * p * (a.2.2 * P.2.2) = u * v * (U.2.2 * V.2.2) := by rw [ringF, ← p3, ringG, ← u3, ← v3, ringH]
  rw [e1, e2, e3]
/-- what is divided by comes back -/
theorem over_times {D : Int} {a b : Int × Int × Int} (h0 : 0 ≤ D) (ha : Good D a) (hb : Good D b) (hz : ¬ (b.1 = 0 ∧ b.2.1 = 0)) : timesT D (timesT D a (invT D b)) b = a := by
  have na := below_ne ha
  have nb := below_ne hb
  have nn := norm_ne h0 hb hz
  have gI := inv_good h0 hb hz
  have gQ : Good D (timesT D a (invT D b)) := times_good ha gI
  rw [times_red gQ hb]
  obtain ⟨i1, i2, i3⟩ := red_mul (x := b.2.2 * b.1) (y := -b.2.2 * b.2.1) nn
  have si := lsg_ne (x := b.2.2 * b.1) (y := -b.2.2 * b.2.1) nn
  rw [← inv_red hb] at i1 i2 i3
  have nI := below_ne gI
  obtain ⟨q1, q2, q3⟩ := red_mul (x := a.1 * (invT D b).1 + D * a.2.1 * (invT D b).2.1) (y := a.1 * (invT D b).2.1 + a.2.1 * (invT D b).1) (mul_ne na nI)
  have sq := lsg_ne (x := a.1 * (invT D b).1 + D * a.2.1 * (invT D b).2.1) (y := a.1 * (invT D b).2.1 + a.2.1 * (invT D b).1) (mul_ne na nI)
  rw [← times_red ha gI] at q1 q2 q3
  have nQ := below_ne gQ
  generalize lsg (a.1 * (invT D b).1 + D * a.2.1 * (invT D b).2.1) (a.1 * (invT D b).2.1 + a.2.1 * (invT D b).1) (a.2.2 * (invT D b).2.2) = q at *
  generalize timesT D a (invT D b) = T at *
  generalize lsg (b.2.2 * b.1) (-b.2.2 * b.2.1) (normT D b) = i at *
  generalize invT D b = I at *
  have hn : normT D b = b.1 * b.1 - D * b.2.1 * b.2.1 := rfl
  generalize normT D b = n at *
  rw [← red_scale (k := q * i) (mul_ne sq si) (mul_ne nQ nb)]
  have e1 : q * i * (T.1 * b.1 + D * T.2.1 * b.2.1) = b.2.2 * n * a.1 := by rw [ringI, ← q1, ← q2, ringJ, ← i1, ← i2, ringK, ← hn]
  have e2 : q * i * (T.1 * b.2.1 + T.2.1 * b.1) = b.2.2 * n * a.2.1 := by rw [ringL, ← q1, ← q2, ringM, ← i1, ← i2, ringN, ← hn]
  have e3 : q * i * (T.2.2 * b.2.2) = b.2.2 * n * a.2.2 := by rw [ringO, ← q3, ringP, ← i3]
  rw [e1, e2, e3, red_scale (mul_ne nb nn) na]
  exact red_self ha.1 ha.2.1
theorem times_over {D : Int} {a b : Int × Int × Int} (h0 : 0 ≤ D) (ha : Good D a) (hb : Good D b) (hz : ¬ (b.1 = 0 ∧ b.2.1 = 0)) : timesT D (timesT D a b) (invT D b) = a := by
  have na := below_ne ha
  have nb := below_ne hb
  have nn := norm_ne h0 hb hz
  have gI := inv_good h0 hb hz
  have gU : Good D (timesT D a b) := times_good ha hb
  rw [times_red gU gI]
  obtain ⟨i1, i2, i3⟩ := red_mul (x := b.2.2 * b.1) (y := -b.2.2 * b.2.1) nn
  have si := lsg_ne (x := b.2.2 * b.1) (y := -b.2.2 * b.2.1) nn
  rw [← inv_red hb] at i1 i2 i3
  have nI := below_ne gI
  obtain ⟨q1, q2, q3⟩ := red_mul (x := a.1 * b.1 + D * a.2.1 * b.2.1) (y := a.1 * b.2.1 + a.2.1 * b.1) (mul_ne na nb)
  have sq := lsg_ne (x := a.1 * b.1 + D * a.2.1 * b.2.1) (y := a.1 * b.2.1 + a.2.1 * b.1) (mul_ne na nb)
  rw [← times_red ha hb] at q1 q2 q3
  have nU := below_ne gU
  generalize lsg (a.1 * b.1 + D * a.2.1 * b.2.1) (a.1 * b.2.1 + a.2.1 * b.1) (a.2.2 * b.2.2) = q at *
  generalize timesT D a b = U at *
  generalize lsg (b.2.2 * b.1) (-b.2.2 * b.2.1) (normT D b) = i at *
  generalize invT D b = I at *
  have hn : normT D b = b.1 * b.1 - D * b.2.1 * b.2.1 := rfl
  generalize normT D b = n at *
  rw [← red_scale (k := q * i) (mul_ne sq si) (mul_ne nU nI)]
  have e1 : q * i * (U.1 * I.1 + D * U.2.1 * I.2.1) = b.2.2 * n * a.1 := by rw [ringQ, ← q1, ← q2, ← i1, ← i2, ringR, ← hn]
  have e2 : q * i * (U.1 * I.2.1 + U.2.1 * I.1) = b.2.2 * n * a.2.1 := by rw [ringS, ← q1, ← q2, ← i1, ← i2, ringT, ← hn]
  have e3 : q * i * (U.2.2 * I.2.2) = b.2.2 * n * a.2.2 := by rw [ringG, ← q3, ← i3, ringU]
  rw [e1, e2, e3, red_scale (mul_ne nb nn) na]
  exact red_self ha.1 ha.2.1
end Kx
namespace Kx
open PySem PySem.Spec PyProof.Rows L2
/-! ### sizes -/
def Sz (n : Nat) (t : Int × Int × Int) : Prop := t.1.natAbs < 2 ^ n ∧ t.2.1.natAbs < 2 ^ n ∧ t.2.2.natAbs < 2 ^ n
theorem up {x n m : Nat} (h : x < 2 ^ n) (l : n ≤ m) : x < 2 ^ m := Nat.lt_of_lt_of_le h (Nat.pow_le_pow_right (by decide) l)
theorem Sz.up {n m : Nat} {t : Int × Int × Int} (h : Sz n t) (l : n ≤ m) : Sz m t := ⟨Kx.up h.1 l, Kx.up h.2.1 l, Kx.up h.2.2 l⟩
theorem sz_add {x y : Int} {k : Nat} (hx : x.natAbs < 2 ^ k) (hy : y.natAbs < 2 ^ k) : (x + y).natAbs < 2 ^ (k + 1) := by
  rw [Nat.pow_succ]
  omega
theorem sz_sub {x y : Int} {k : Nat} (hx : x.natAbs < 2 ^ k) (hy : y.natAbs < 2 ^ k) : (x - y).natAbs < 2 ^ (k + 1) := by
  rw [Nat.pow_succ]
  omega
theorem bnd {x : Int} {n : Nat} (h : x.natAbs < 2 ^ n) (l : n ≤ 2000) : x.natAbs < 2 ^ 2000 := up h l
theorem okm {i j : Int} {n m : Nat} (hi : i.natAbs < 2 ^ n) (hj : j.natAbs < 2 ^ m) (ln : n ≤ 2000) (lm : m ≤ 2000) : IntMulOk i j := by
  have h1 := bnd hi ln
  have h2 := bnd hj lm
  exact cmw (by omega) (by omega) (by omega) (by omega)
theorem red_sz {x y b : Int} {n : Nat} (hb : b ≠ 0) (h1 : x.natAbs < 2 ^ n) (h2 : y.natAbs < 2 ^ n) (h3 : b.natAbs < 2 ^ n) : Sz n (red x y b) := by
  obtain ⟨p, q, r⟩ := red_size (x := x) (y := y) hb
  exact ⟨Nat.lt_of_le_of_lt p h1, Nat.lt_of_le_of_lt q h2, Nat.lt_of_le_of_lt r h3⟩
section
variable {D s : Int} {t u : Int × Int × Int} {n m : Nat}
theorem one_mul_sz {s z : Int} {k : Nat} (hs : s = 1 ∨ s = -1) (hz : z.natAbs < 2 ^ k) : (s * z).natAbs < 2 ^ k := by
  rcases hs with rfl | rfl
  · rw [Int.one_mul]; exact hz
  · rw [Int.neg_mul, Int.one_mul, Int.natAbs_neg]; exact hz
theorem plus_sz (hs : s = 1 ∨ s = -1) (ht : Good D t) (hu : Good D u) (zt : Sz n t) (zu : Sz m u) : Sz (n + m + 1) (plusT D s t u) := by
  rw [plus_red ht hu]
  refine red_sz (mul_ne (below_ne ht) (below_ne hu)) (sz_add (wide_lt zt.1 zu.2.2) ?_) (sz_add (wide_lt zt.2.1 zu.2.2) ?_) (Kx.up (wide_lt zt.2.2 zu.2.2) (by omega))
  · rw [Nat.add_comm n m]; exact wide_lt (one_mul_sz hs zu.1) zt.2.2
  · rw [Nat.add_comm n m]; exact wide_lt (one_mul_sz hs zu.2.1) zt.2.2
theorem dmul_sz {k : Nat} (h0 : D.natAbs < 2 ^ 200) {x y : Int} (hx : x.natAbs < 2 ^ n) (hy : y.natAbs < 2 ^ m) (l : 200 + n + m ≤ k) : (D * x * y).natAbs < 2 ^ k := Kx.up (wide_lt (wide_lt h0 hx) hy) l
theorem times_sz (h0 : D.natAbs < 2 ^ 200) (ht : Good D t) (hu : Good D u) (zt : Sz n t) (zu : Sz m u) : Sz (n + m + 201) (timesT D t u) := by
  rw [times_red ht hu]
  refine red_sz (mul_ne (below_ne ht) (below_ne hu)) (sz_add (Kx.up (wide_lt zt.1 zu.1) (by omega)) (dmul_sz h0 zt.2.1 zu.2.1 (by omega))) (Kx.up (sz_add (wide_lt zt.1 zu.2.1) (wide_lt zt.2.1 zu.1)) (by omega)) (Kx.up (wide_lt zt.2.2 zu.2.2) (by omega))
theorem norm_sz (h0 : D.natAbs < 2 ^ 200) (zu : Sz m u) : (normT D u).natAbs < 2 ^ (2 * m + 201) := by
  unfold normT
  exact sz_sub (Kx.up (wide_lt zu.1 zu.1) (by omega)) (dmul_sz h0 zu.2.1 zu.2.1 (by omega))
theorem inv_sz (h0 : 0 ≤ D) (h1 : D.natAbs < 2 ^ 200) (hu : Good D u) (hz : ¬ (u.1 = 0 ∧ u.2.1 = 0)) (zu : Sz m u) : Sz (2 * m + 201) (invT D u) := by
  rw [inv_red hu]
  have hn : (-u.2.2).natAbs < 2 ^ m := by rw [Int.natAbs_neg]; exact zu.2.2
  exact red_sz (norm_ne h0 hu hz) (Kx.up (wide_lt zu.2.2 zu.1) (by omega)) (Kx.up (wide_lt hn zu.2.1) (by omega)) (norm_sz h1 zu)
end
/-! ### promises -/
def spReduced : Sp := fun vs H Q _ => ∃ D x y b : Int, vs = [.int D, .int x, .int y, .int b] ∧ 0 ≤ D ∧ D < 2 ^ 1000 ∧ x.natAbs < 2 ^ 2000 ∧ y.natAbs < 2 ^ 2000 ∧ b.natAbs < 2 ^ 2000 ∧ b ≠ 0 ∧ ∀ (p : Addr) (H' : Hp), H p = none → Same H H' → H' p = some (.tup (rootV (least D x y b))) → Q (.ref p) H'
/-- two root numbers at hand -/
structure Two (D : Int) (H : Hp) (a b : Addr) (t u : Int × Int × Int) (n m : Nat) : Prop where
  M : Meas D
  lt : D < 2 ^ 200
  ra : RootAt D H a t
  rb : RootAt D H b u
  za : Sz n t
  zb : Sz m u
theorem Two.same {D : Int} {H H' : Hp} {a b : Addr} {t u : Int × Int × Int} {n m : Nat} (h : Two D H a b t u n m) (s : Same H H') : Two D H' a b t u n m := ⟨h.M, h.lt, h.ra.same s, h.rb.same s, h.za, h.zb⟩
theorem Two.dn {D : Int} {H : Hp} {a b : Addr} {t u : Int × Int × Int} {n m : Nat} (h : Two D H a b t u n m) : 0 ≤ D ∧ D.natAbs < 2 ^ 200 := by
  have h1 := h.M.1
  have h2 := h.lt
  constructor <;> omega
def spTotal : Sp := fun vs H Q _ => ∃ (D s : Int) (a b : Addr) (t u : Int × Int × Int) (n m : Nat), vs = [.int D, .ref a, .ref b, .int s] ∧ (s = 1 ∨ s = -1) ∧ Two D H a b t u n m ∧ n + m ≤ 1700 ∧ ∀ (p : Addr) (H' : Hp), H p = none → Same H H' → RootAt D H' p (plusT D s t u) → Q (.ref p) H'
def spPlus (s : Int) : Sp := fun vs H Q _ => ∃ (D : Int) (a b : Addr) (t u : Int × Int × Int) (n m : Nat), vs = [.int D, .ref a, .ref b] ∧ Two D H a b t u n m ∧ n + m ≤ 1700 ∧ ∀ (p : Addr) (H' : Hp), H p = none → Same H H' → RootAt D H' p (plusT D s t u) → Q (.ref p) H'
def spTimes : Sp := fun vs H Q _ => ∃ (D : Int) (a b : Addr) (t u : Int × Int × Int) (n m : Nat), vs = [.int D, .ref a, .ref b] ∧ Two D H a b t u n m ∧ n + m ≤ 1700 ∧ ∀ (p : Addr) (H' : Hp), H p = none → Same H H' → RootAt D H' p (timesT D t u) → Q (.ref p) H'
def spOver : Sp := fun vs H Q _ => ∃ (D : Int) (a b : Addr) (t u : Int × Int × Int) (n m : Nat), vs = [.int D, .ref a, .ref b] ∧ Two D H a b t u n m ∧ n + 2 * m ≤ 1450 ∧ ¬ (u.1 = 0 ∧ u.2.1 = 0) ∧ ∀ (p : Addr) (H' : Hp), H p = none → Same H H' → RootAt D H' p (timesT D t (invT D u)) → Q (.ref p) H'
/-- the law's own sums: with the sign as the last argument -/
def spLawPlus : Sp := spTotal
/-! ### repr -/
mutual
def cost : PyData → Nat
  | .none => 4
  | .bool _ => 5
  | .int _ => 1925
  | .str x => (reprText x).length
  | .list xs => costAll xs + 3
  | .tuple xs => costAll xs + 3
  | .dict _ => 0
def costAll : List PyData → Nat
  | [] => 0
  | x :: xs => cost x + 2 + costAll xs
end
theorem listText_le : ∀ ts : List Str, (listText ts).length ≤ piled ts + 3
  | [] => by decide
  | t :: ts => by
    unfold listText
    show (textFrom 1 (("[" : Str) ++ t) ts ++ ("]" : Str)).length ≤ _
    have h := textFrom_length_pos ts 1 (("[" : Str) ++ t) (by decide)
    have e1 : ∀ a b : Str, (a ++ b).length = a.length + b.length := fun a b => Str.length_append a b
    rw [e1, h, e1, piled_cons]
    have e2 : ("[" : Str).length = 1 := by decide
    have e3 : ("]" : Str).length = 1 := by decide
    omega
theorem tupleText_le (ts : List Str) : (tupleText ts).length ≤ piled ts + 3 := by
  unfold tupleText
  have e1 : ∀ a b : Str, (a ++ b).length = a.length + b.length := fun a b => Str.length_append a b
  rw [e1, e1]
  have e2 : ("(" : Str).length = 1 := by decide
  have hj : (Str.join ", " ts).length ≤ piled ts := by
    cases ts with
    | nil => decide
    | cons t r =>
      have := join_length_add (t :: r) (by simp)
      omega
  have e3 : ∀ c : Bool, ((if c then ",)" else ")" : String) : Str).length ≤ 2 := fun c => by cases c <;> decide
  have := e3 (ts.length == 1)
  omega
mutual
theorem cost_ok : ∀ d : PyData, d.showable = true → d.hasDict = false → d.shown.length ≤ cost d
  | .none, _, _ => by simp only [PyData.shown, cost]; decide
  | .bool b, _, _ => by cases b <;> simp only [PyData.shown, cost] <;> decide
  | .int i, h, _ => by
    simp only [PyData.shown, cost]
    have h2 : i.natAbs.log2 < 1920 := by simpa [PyData.showable] using h
    exact Nat.le_trans (int_text_len_1921 h2) (by decide)
  | .str x, _, _ => by simp only [PyData.shown, cost]; exact Nat.le_refl _
  | .list xs, h, hd => by
    simp only [PyData.shown, cost]
    have := costAll_ok xs (by simpa [PyData.showable] using h) (by simpa [PyData.hasDict] using hd)
    have := listText_le (PyData.shownAll xs)
    omega
  | .tuple xs, h, hd => by
    simp only [PyData.shown, cost]
    have := costAll_ok xs (by simpa [PyData.showable] using h) (by simpa [PyData.hasDict] using hd)
    have := tupleText_le (PyData.shownAll xs)
    omega
  | .dict _, _, h => by simp [PyData.hasDict] at h
theorem costAll_ok : ∀ ds : List PyData, PyData.showableAll ds = true → PyData.hasDictAll ds = false → piled (PyData.shownAll ds) ≤ costAll ds
  | [], _, _ => by simp only [PyData.shownAll, costAll]; decide
  | d :: ds, h, hd => by
    have h1 : d.showable = true ∧ PyData.showableAll ds = true := by simpa [PyData.showableAll] using h
    have h2 : d.hasDict = false ∧ PyData.hasDictAll ds = false := by simpa [PyData.hasDictAll] using hd
    simp only [PyData.shownAll, costAll, piled_cons]
    have := cost_ok d h1.1 h2.1
    have := costAll_ok ds h1.2 h2.2
    omega
end
/-- data whose repr may be asked for -/
structure Rp (K : PySem.W.Frag) (H : Hp) (x : V) (d : PyData) : Prop where
  dp : Dp K H x d
  sh : d.showable = true
  nd : d.hasDict = false
  de : d.depth ≤ 60
  co : cost d ≤ 16000000
theorem cr_reprR {X : Cx} (gd : X.A.guards = some []) (hu : X.A.units + 64 < cLine) : CallR X (.builtin "repr") (fun vs H Q => ∃ (x : V) (d : PyData), vs = [x] ∧ Rp X.K H x d ∧ Q (.str d.shown) H) := by
  intro pins s σ H vs us Q I r h
  obtain ⟨x, d, e, R, q⟩ := h
  exact cr_reprD gd hu pins s σ H vs us Q I r ⟨x, d, e, R.dp, R.sh, R.nd, R.de, Nat.le_trans (cost_ok d R.sh R.nd) (Nat.le_trans R.co (by decide)), q⟩
def rootD (t : Int × Int × Int) : PyData := .tuple [.int t.1, .int t.2.1, .int t.2.2]
theorem dp_root {K : PySem.W.Frag} {H : Hp} {a : Addr} {t : Int × Int × Int} (h : H a = some (.tup (rootV t))) : Dp K H (.ref a) (rootD t) := .tup (SqT.of h) (.cons (.int _) (.cons (.int _) (.cons (.int _) .nil)))
theorem log_sz {x : Int} {n : Nat} (h : x.natAbs < 2 ^ n) (l : n ≤ 1900) : x.natAbs.log2 < 1920 := Nat.lt_of_lt_of_le (PySem.Flt.log2_lt_of (by decide) (up h l)) (by decide)
theorem root_show {t : Int × Int × Int} {n : Nat} (z : Sz n t) (l : n ≤ 1900) : (rootD t).showable = true := by
  simp only [rootD, PyData.showable, PyData.showableAll, log_sz z.1 l, log_sz z.2.1 l, log_sz z.2.2 l, decide_true, Bool.and_self]
theorem shaped_root (t : Int × Int × Int) : SeqAt.shaped (rootD t) = true := rfl
theorem ne_roots {K : PySem.W.Frag} {H : Hp} {a b : Addr} {t u : Int × Int × Int} {Q : VK} (h1 : H a = some (.tup (rootV t))) (h2 : H b = some (.tup (rootV u))) (e : t = u) (q : Q (.bl false) H) : rNeD K (.ref a) (.ref b) H Q := by
  subst e
  exact ⟨_, _, dp_root h1, dp_root h2, rfl, rfl, by rw [eqv_same rfl]; exact q⟩
theorem eq_roots {K : PySem.W.Frag} {H : Hp} {a b : Addr} {t u : Int × Int × Int} {Q : VK} (h1 : H a = some (.tup (rootV t))) (h2 : H b = some (.tup (rootV u))) (e : t = u) (q : Q (.bl true) H) : rEqD K (.ref a) (.ref b) H Q := by
  subst e
  exact ⟨_, _, dp_root h1, dp_root h2, rfl, rfl, by rw [eqv_same rfl]; exact q⟩
theorem rp_roots3 {K : PySem.W.Frag} {H : Hp} {L a b c : Addr} {t u v : Int × Int × Int} {n m l : Nat} (hL : H L = some (.lst [.ref a, .ref b, .ref c])) (h1 : H a = some (.tup (rootV t))) (h2 : H b = some (.tup (rootV u))) (h3 : H c = some (.tup (rootV v)))
    (z1 : Sz n t) (z2 : Sz m u) (z3 : Sz l v) (l1 : n ≤ 1900) (l2 : m ≤ 1900) (l3 : l ≤ 1900) : Rp K H (.ref L) (.list [rootD t, rootD u, rootD v]) where
  dp := .lst (SqL.of hL) (.cons (dp_root h1) (.cons (dp_root h2) (.cons (dp_root h3) .nil)))
  sh := by
    show (PyData.showableAll [rootD t, rootD u, rootD v]) = true
    simp only [PyData.showableAll, root_show z1 l1, root_show z2 l2, root_show z3 l3, Bool.and_self]
  nd := rfl
  de := Nat.le_of_ble_eq_true rfl
  co := Nat.le_of_ble_eq_true rfl
theorem GenAt.ne {H : Hp} {g a : Addr} {k : Nat} (G : GenAt H g k) {xs : List V} (h : H a = some (.tup xs)) : a ≠ g := fun z => by
  obtain ⟨_, _, _, e, _⟩ := G
  rw [z, e] at h
  cases h
theorem GenAt.nn {H : Hp} {g a : Addr} {k : Nat} (G : GenAt H g k) (h : H a = none) : a ≠ g := fun z => by
  obtain ⟨_, _, _, e, _⟩ := G
  rw [z, e] at h
  cases h
theorem GenAt.upd {H : Hp} {g d : Addr} {k : Nat} {o : HO} (G : GenAt H g k) (h : d ≠ g) : GenAt (L2.upd H d o) g k := by
  obtain ⟨a, b, c, e, r⟩ := G
  exact ⟨a, b, c, by rw [upd_ne (Ne.symm h)]; exact e, r⟩
theorem Keep.root {D : Int} {H H' : Hp} {g a : Addr} {k : Nat} {t : Int × Int × Int} (s : Keep g H H') (G : GenAt H g k) (r : RootAt D H a t) : RootAt D H' a t := ⟨s _ _ (G.ne r.1) r.1, r.2⟩
theorem RootAt.upd {D : Int} {H : Hp} {d a : Addr} {t : Int × Int × Int} {xs : List V} {o : HO} (r : RootAt D H a t) (h : H d = some (.lst xs)) : RootAt D (L2.upd H d o) a t := by
  refine ⟨?_, r.2⟩
  rw [upd_ne (fun z => ?_)]
  · exact r.1
  · have := r.1
    rw [z, h] at this
    cases this
theorem Keep.upd {H H' : Hp} {g d : Addr} {o : HO} (s : Keep g H H') (h : H d = none) : Keep g H (L2.upd H' d o) := fun b u hb e => by
  rw [upd_ne (ne_of_none e h)]
  exact s b u hb e
theorem rt_half {D : Int} (h0 : 0 ≤ D) (h1 : D < 2 ^ 200) : rt D < 2 ^ 100 := by
  obtain ⟨s0, s1, s2⟩ := rt_spec h0
  by_cases h : rt D < 2 ^ 100
  · exact h
  · have := sq_mono (x := 2 ^ 100) (y := rt D) (by decide) (by omega)
    omega
theorem least_sz {D x y b : Int} (h0 : 0 ≤ D) (h1 : D < 2 ^ 200) (hx : x.natAbs < 2 ^ 150) (hy : y.natAbs < 2 ^ 150) (hb : b.natAbs < 2 ^ 150) (hb0 : b ≠ 0) : Sz 251 (least D x y b) := by
  obtain ⟨r0, r1⟩ := rt_le h0
  have r2 := rt_half h0 h1
  have w1 : (y * rt D).natAbs < 2 ^ (150 + 100) := wide_lt hy (by omega)
  simp only [Nat.reduceAdd] at w1
  unfold least
  split
  · exact red_sz hb0 (sz_add (up hx (by decide)) w1) (by decide) (up hb (by decide))
  · exact red_sz hb0 (up hx (by decide)) (up hy (by decide)) (up hb (by decide))
theorem Good.le {D : Int} {t : Int × Int × Int} (h : Good D t) : t = least D t.1 t.2.1 t.2.2 := (least_self h).symm
theorem two_new {D : Int} {H : Hp} {p q : Addr} {t u : Int × Int × Int} (M : Meas D) (l : D < 2 ^ 200) (n1 : H p = none) (n2 : L2.upd H p (.tup (rootV t)) q = none) (gt : Good D t) (gu : Good D u) (zt : Sz 10 t) (zu : Sz 10 u) :
    Two D (L2.upd (L2.upd H p (.tup (rootV t))) q (.tup (rootV u))) p q t u 10 10 :=
  ⟨M, l, ⟨by rw [upd_ne (ne_new n2)]; exact upd_same, gt⟩, ⟨upd_same, gu⟩, zt, zu⟩
end Kx

set_option Elab.async false
set_option linter.all false
set_option maxRecDepth 100000
set_option maxHeartbeats 4000000
set_option exponentiation.threshold 4000
/-! Odd values: what they are, and that they stay. -/
namespace Kx
open PySem PySem.Spec PyProof.Rows L2
mutual
theorem dp_same {K : PySem.W.Frag} {H H' : Hp} (s : Same H H') : ∀ (d : PyData) (v : V), Dp K H v d → Dp K H' v d
  | .none, _, h => by cases h; exact .non
  | .bool _, _, h => by cases h; exact .bl _
  | .int _, _, h => by cases h; exact .int _
  | .str _, _, h => by cases h; exact .str _
  | .list ds, _, h => by
    cases h with
    | lst q r => exact .lst (SqL.ext q s) (dpAll_same s ds _ r)
  | .tuple ds, _, h => by
    cases h with
    | tup q r => exact .tup (SqT.ext q s) (dpAll_same s ds _ r)
  | .dict _, _, h => by cases h
theorem dpAll_same {K : PySem.W.Frag} {H H' : Hp} (s : Same H H') : ∀ (ds : List PyData) (vs : List V), DpAll K H vs ds → DpAll K H' vs ds
  | [], _, h => by cases h; exact .nil
  | d :: ds, _, h => by
    cases h with
    | cons q r => exact .cons (dp_same s d _ q) (dpAll_same s ds _ r)
end
theorem Rp.same {K : PySem.W.Frag} {H H' : Hp} {x : V} {d : PyData} (h : Rp K H x d) (s : Same H H') : Rp K H' x d := ⟨dp_same s _ _ h.dp, h.sh, h.nd, h.de, h.co⟩
theorem OkItem.at {H : Hp} {a : Addr} (h : OkItem H (.ref a)) : ∃ o, H a = some o := by
  obtain ⟨t, ht⟩ := h
  have h2 : (match H a with | some (.lst _) => some "list" | some (.tup _) => some "tuple" | some (.dK _) => some "dict" | _ => none) = some t := ht
  cases e : H a with
  | none => rw [e] at h2; cases h2
  | some o => exact ⟨o, rfl⟩
theorem OkV.same {H H' : Hp} {x : V} (h : OkV H x) (s : Same H H') : OkV H' x := by
  refine ⟨h.1.same s, fun a xs e1 e2 y hy => ?_⟩
  subst e1
  obtain ⟨o, ho⟩ := h.1.at
  have := s _ _ ho
  rw [e2] at this
  cases this
  exact (h.2 a xs rfl ho y hy).same s
def Flat (d : PyData) : Prop := d.canLay0 = true ∧ d.depth ≤ 20
theorem flat_lay : ∀ {ds : List PyData}, (∀ d ∈ ds, Flat d) → PyData.canLayAll0 ds = true ∧ PyData.depthAll ds ≤ 20
  | [], _ => ⟨rfl, by simp only [PyData.depthAll]; omega⟩
  | d :: ds, h => by
    obtain ⟨h1, h2⟩ := h d (List.mem_cons_self ..)
    obtain ⟨h3, h4⟩ := flat_lay (ds := ds) fun e he => h e (List.mem_cons_of_mem _ he)
    refine ⟨?_, ?_⟩
    · simp only [PyData.canLayAll0, h1, h3, Bool.and_self]
    · simp only [PyData.depthAll]
      omega
theorem flat_shaped {ds : List PyData} (h : ∀ d ∈ ds, Flat d) : SeqAt.shaped (.list ds) = true := by
  obtain ⟨h1, h2⟩ := flat_lay h
  have e1 : PyData.canLay0 (.list ds) = true := by simp only [PyData.canLay0]; exact h1
  have e2 : PyData.depth (.list ds) ≤ 64 := by simp only [PyData.depth]; omega
  unfold SeqAt.shaped
  rw [e1, decide_eq_true e2]
  rfl
theorem dp_filter {K : PySem.W.Frag} {H : Hp} {f : V → Bool} : ∀ {xs : List V} {ds : List PyData}, DpAll K H xs ds → (∀ d ∈ ds, Flat d) → ∃ es, DpAll K H (xs.filter f) es ∧ ∀ d ∈ es, Flat d
  | [], _, _, _ => ⟨[], .nil, fun d hd => absurd hd List.not_mem_nil⟩
  | x :: xs, _, h, hf => by
    cases h with
    | @cons _ _ d ds q r =>
      obtain ⟨es, h1, h2⟩ := dp_filter (f := f) r fun e he => hf e (List.mem_cons_of_mem _ he)
      cases hx : f x with
      | true =>
        rw [List.filter_cons_of_pos hx]
        refine ⟨d :: es, .cons q h1, fun e he => ?_⟩
        rcases List.mem_cons.mp he with rfl | he
        · exact hf e (List.mem_cons_self ..)
        · exact h2 e he
      | false =>
        rw [List.filter_cons_of_neg (by rw [hx]; decide)]
        exact ⟨es, h1, h2⟩
theorem dpAll_nil {K : PySem.W.Frag} {H : Hp} {xs : List V} {ds : List PyData} (h : DpAll K H xs ds) : xs.isEmpty = ds.isEmpty := by
  cases h <;> rfl
/-- a value that is asked for, with its data -/
structure Val (K : PySem.W.Frag) (H : Hp) (x : V) (d : PyData) : Prop where
  rp : Rp K H x d
  ok : OkV H x
  it : ∀ a xs, x = .ref a → H a = some (.tup xs) → ∃ ds, DpAll K H xs ds ∧ ∀ d ∈ ds, Flat d
theorem Val.same {K : PySem.W.Frag} {H H' : Hp} {x : V} {d : PyData} (h : Val K H x d) (s : Same H H') : Val K H' x d := by
  refine ⟨h.rp.same s, h.ok.same s, fun a xs e1 e2 => ?_⟩
  subst e1
  obtain ⟨o, ho⟩ := h.ok.1.at
  have := s _ _ ho
  rw [e2] at this
  cases this
  obtain ⟨ds, h1, h2⟩ := h.it a xs rfl ho
  exact ⟨ds, dpAll_same s _ _ h1, h2⟩
theorem all_filter (f : V → Bool) : ∀ xs : List V, (xs.filter fun x => !f x).isEmpty = xs.all f
  | [] => rfl
  | x :: xs => by
    cases h : f x with
    | true => rw [List.filter_cons_of_neg (by rw [h]; decide), List.all_cons, h, Bool.true_and, all_filter f xs]
    | false => rw [List.filter_cons_of_pos (by rw [h]; rfl), List.all_cons, h]; rfl
theorem eqv_nil (es : List PyData) : PyData.eqv (.list es) (.list []) = es.isEmpty := by cases es <;> rfl
/-- a list that holds what is not let is empty exactly if all is let -/
theorem ne_empty {K : PySem.W.Frag} {H : Hp} {L E : Addr} {xs : List V} {ds : List PyData} {f : V → Bool} {Q : VK} (hL : H L = some (.lst (xs.filter fun x => !f x))) (hE : H E = some (.lst [])) (hd : DpAll K H xs ds) (hf : ∀ d ∈ ds, Flat d) (q : Q (.bl (!xs.all f)) H) : rNeD K (.ref L) (.ref E) H Q := by
  obtain ⟨es, h1, h2⟩ := dp_filter (f := fun x => !f x) hd hf
  refine ⟨.list es, .list [], .lst (SqL.of hL) h1, .lst (SqL.of hE) .nil, flat_shaped h2, rfl, ?_⟩
  rw [eqv_nil, ← dpAll_nil h1, all_filter]
  exact q
def spLawIsRoot (K : PySem.W.Frag) : Sp := fun vs H Q _ => ∃ (D : Int) (x : V) (d : PyData), vs = [.int D, x] ∧ 0 ≤ D ∧ D < 2 ^ 2000 ∧ Val K H x d ∧ ∀ H', Same H H' → Q (.bl (rootB D H x)) H'
def spIsRoot : Sp := fun vs H Q _ => ∃ (D : Int) (x : V), vs = [.int D, x] ∧ Meas D ∧ D < 2 ^ 2000 ∧ OkV H x ∧ ∀ H', Same H H' → Q (.bl (rootB D H x)) H'
/-- where all three are numbers, the last one not 0 -/
def spRootNumber0 : Sp := fun vs H Q _ => ∃ D x y b : Int, vs = [.int D, .int x, .int y, .int b] ∧ Meas D ∧ D < 2 ^ 1000 ∧ x.natAbs < 2 ^ 2000 ∧ y.natAbs < 2 ^ 2000 ∧ b.natAbs < 2 ^ 2000 ∧ b ≠ 0 ∧ ∀ (p : Addr) (H' : Hp), H p = none → Same H H' → H' p = some (.tup (rootV (least D x y b))) → Q (.ref p) H'
/-! ### values made of plain items -/
structure It (K : PySem.W.Frag) (H : Hp) (v : V) (d : PyData) : Prop where
  dp : Dp K H v d
  sh : d.showable = true
  nd : d.hasDict = false
  de : d.depth ≤ 10
  co : cost d ≤ 100000
  la : d.canLay0 = true
  ok : OkItem H v
inductive ItAll (K : PySem.W.Frag) (H : Hp) : List V → List PyData → Prop
  | nil : ItAll K H [] []
  | cons {v : V} {d : PyData} {vs : List V} {ds : List PyData} : It K H v d → ItAll K H vs ds → ItAll K H (v :: vs) (d :: ds)
section
variable {K : PySem.W.Frag} {H : Hp}
theorem It.int {i : Int} {n : Nat} (h : i.natAbs < 2 ^ n) (l : n ≤ 1900) : It K H (.int i) (.int i) :=
  ⟨.int i, by simp only [PyData.showable, log_sz h l, decide_true], rfl, Nat.le_of_ble_eq_true rfl, Nat.le_of_ble_eq_true rfl, rfl, ⟨"int", rfl⟩⟩
theorem It.bl {b : Bool} : It K H (.bl b) (.bool b) := ⟨.bl b, rfl, rfl, Nat.le_of_ble_eq_true rfl, Nat.le_of_ble_eq_true rfl, rfl, ⟨"bool", rfl⟩⟩
theorem It.non : It K H .non .none := ⟨.non, rfl, rfl, Nat.le_of_ble_eq_true rfl, Nat.le_of_ble_eq_true rfl, rfl, ⟨"NoneType", rfl⟩⟩
theorem It.str {x : Str} (h1 : (PyData.str x).showable = true) (h2 : cost (.str x) ≤ 100000) (h3 : (PyData.str x).canLay0 = true) : It K H (.str x) (.str x) := ⟨.str x, h1, rfl, Nat.le_of_ble_eq_true rfl, h2, h3, ⟨"str", rfl⟩⟩
theorem itAll_facts : ∀ {vs : List V} {ds : List PyData}, ItAll K H vs ds → DpAll K H vs ds ∧ PyData.showableAll ds = true ∧ PyData.hasDictAll ds = false ∧ PyData.depthAll ds ≤ 10 ∧ costAll ds ≤ 100002 * vs.length ∧ PyData.canLayAll0 ds = true ∧ (∀ v ∈ vs, OkItem H v) ∧ ∀ d ∈ ds, Flat d
  | [], _, h => by
    cases h
    exact ⟨.nil, rfl, rfl, by simp only [PyData.depthAll]; omega, by simp only [costAll]; omega, rfl, fun v hv => absurd hv List.not_mem_nil, fun v hv => absurd hv List.not_mem_nil⟩
  | v :: vs, _, h => by
    cases h with
    | cons q r =>
      obtain ⟨h1, h2, h3, h4, h5, h6, h7, h8⟩ := itAll_facts r
      have a1 := q.de
      have a2 := q.co
      refine ⟨.cons q.dp h1, ?_, ?_, ?_, ?_, ?_, ?_, ?_⟩
      · simp only [PyData.showableAll, q.sh, h2, Bool.and_self]
      · simp only [PyData.hasDictAll, q.nd, h3, Bool.or_self]
      · simp only [PyData.depthAll]; omega
      · simp only [costAll, List.length_cons]; omega
      · simp only [PyData.canLayAll0, q.la, h6, Bool.and_self]
      · intro x hx
        rcases List.mem_cons.mp hx with rfl | hx
        · exact q.ok
        · exact h7 x hx
      · intro x hx
        rcases List.mem_cons.mp hx with rfl | hx
        · exact ⟨q.la, by omega⟩
        · exact h8 x hx
theorem val_tup {p : Addr} {xs : List V} {ds : List PyData} (h : H p = some (.tup xs)) (hi : ItAll K H xs ds) (hl : xs.length ≤ 100) : Val K H (.ref p) (.tuple ds) := by
  obtain ⟨h1, h2, h3, h4, h5, h6, h7, h8⟩ := itAll_facts hi
  refine ⟨⟨.tup (SqT.of h) h1, ?_, ?_, ?_, ?_⟩, ⟨⟨"tuple", tyS_tup h⟩, fun a ys e1 e2 y hy => ?_⟩, fun a ys e1 e2 => ?_⟩
  · simp only [PyData.showable]; exact h2
  · simp only [PyData.hasDict]; exact h3
  · simp only [PyData.depth]; omega
  · simp only [cost]; omega
  · cases e1
    rw [h] at e2
    cases e2
    exact h7 y hy
  · cases e1
    rw [h] at e2
    cases e2
    exact ⟨ds, h1, h8⟩
theorem tyS_lst {a : Addr} {xs : List V} (h : H a = some (.lst xs)) : tyS H (.ref a) = some "list" := by
  show (match H a with | some (.lst _) => some "list" | some (.tup _) => some "tuple" | some (.dK _) => some "dict" | _ => none) = some "list"
  rw [h]
theorem val_lst {p : Addr} {xs : List V} {ds : List PyData} (h : H p = some (.lst xs)) (hi : ItAll K H xs ds) (hl : xs.length ≤ 100) : Val K H (.ref p) (.list ds) := by
  obtain ⟨h1, h2, h3, h4, h5, h6, h7, h8⟩ := itAll_facts hi
  refine ⟨⟨.lst (SqL.of h) h1, ?_, ?_, ?_, ?_⟩, ⟨⟨"list", tyS_lst h⟩, fun a ys e1 e2 y hy => ?_⟩, fun a ys e1 e2 => ?_⟩
  · simp only [PyData.showable]; exact h2
  · simp only [PyData.hasDict]; exact h3
  · simp only [PyData.depth]; omega
  · simp only [cost]; omega
  · cases e1
    rw [h] at e2
    cases e2
  · cases e1
    rw [h] at e2
    cases e2
/-- a list of one int as an item -/
theorem It.lst1 {p : Addr} {i : Int} {n : Nat} (h : H p = some (.lst [.int i])) (hi : i.natAbs < 2 ^ n) (l : n ≤ 1900) : It K H (.ref p) (.list [.int i]) :=
  ⟨.lst (SqL.of h) (.cons (.int _) .nil), by simp only [PyData.showable, PyData.showableAll, log_sz hi l, decide_true, Bool.and_self], rfl, Nat.le_of_ble_eq_true rfl, Nat.le_of_ble_eq_true rfl, rfl, ⟨"list", tyS_lst h⟩⟩
theorem val_root {D : Int} {p : Addr} {t : Int × Int × Int} {n : Nat} (h : RootAt D H p t) (z : Sz n t) (l : n ≤ 1900) : Val K H (.ref p) (rootD t) := val_tup h.1 (.cons (.int z.1 l) (.cons (.int z.2.1 l) (.cons (.int z.2.2 l) .nil))) (Nat.le_of_ble_eq_true rfl)
end
theorem wholesB_same {H H' : Hp} {m : Int} {x : V} (s : Same H H') (h : OkItem H x) : wholesB H' m x = wholesB H m x := by
  cases x with
  | ref a =>
    obtain ⟨o, ho⟩ := h.at
    unfold wholesB
    simp only [ho, s _ _ ho]
  | _ => rfl
theorem rootB_same {D : Int} {H H' : Hp} {x : V} (s : Same H H') (h : OkItem H x) : rootB D H' x = rootB D H x := by
  unfold rootB
  rw [wholesB_same s h]
  cases x with
  | ref a =>
    obtain ⟨o, ho⟩ := h.at
    simp only [ho, s _ _ ho]
  | _ => rfl
theorem rp_bl {K : PySem.W.Frag} {H : Hp} {b : Bool} : Rp K H (.bl b) (.bool b) := ⟨.bl b, rfl, rfl, Nat.le_of_ble_eq_true rfl, Nat.le_of_ble_eq_true rfl⟩
theorem rp_root {K : PySem.W.Frag} {D : Int} {H : Hp} {a : Addr} {t : Int × Int × Int} {n : Nat} (h : RootAt D H a t) (z : Sz n t) (l : n ≤ 1900) : Rp K H (.ref a) (rootD t) := (val_root h z l).rp
theorem okV_of {H : Hp} {x : V} {t : String} (h : tyS H x = some t) (hn : t ≠ "tuple") : OkV H x := ⟨⟨t, h⟩, fun a xs e1 e2 => by
  subst e1
  rw [tyS_tup e2] at h
  exact absurd (Option.some.inj h).symm hn⟩
theorem okV_tup0 {H : Hp} {a : Addr} (h : H a = some (.tup [])) : OkV H (.ref a) := ⟨⟨"tuple", tyS_tup h⟩, fun b xs e1 e2 y hy => by
  cases e1
  rw [h] at e2
  cases e2
  exact absurd hy List.not_mem_nil⟩
theorem tyS_dK {H : Hp} {a : Addr} {kvs : List (Key × V)} (h : H a = some (.dK kvs)) : tyS H (.ref a) = some "dict" := by
  show (match H a with | some (.lst _) => some "list" | some (.tup _) => some "tuple" | some (.dK _) => some "dict" | _ => none) = some "dict"
  rw [h]
theorem rootB_of {D : Int} {H : Hp} {x : V} {t : String} (h : tyS H x = some t) (hn : t ≠ "tuple") : rootB D H x = false := rootB_not (wholes_not h hn)
theorem rootB_tup0 {D : Int} {H : Hp} {a : Addr} (h : H a = some (.tup [])) : rootB D H (.ref a) = false := rootB_not (by rw [wholes_tup h]; rfl)
/-- the empty list beside the empty list -/
theorem ne_nil {K : PySem.W.Frag} {H : Hp} {a b : Addr} {Q : VK} (h1 : H a = some (.lst [])) (h2 : H b = some (.lst [])) (q : Q (.bl false) H) : rNeD K (.ref a) (.ref b) H Q :=
  ⟨.list [], .list [], .lst (SqL.of h1) .nil, .lst (SqL.of h2) .nil, rfl, rfl, q⟩
/-! rules that name the frame themselves, for comprehensions -/
section
variable {X : Cx} {K : PySem.W.Frag}
theorem call_isiK (h : X.K = K) : CallR X (.builtin "isinstance") (rIsi K) := h ▸ call_isi
theorem op_neDK (h : X.K = K) (hu : X.A.units + 64 < cLine) : OpR X (compareOp .NotEq) (rNeD K) := h ▸ op_neD hu
theorem op_eqDK (h : X.K = K) (hu : X.A.units + 64 < cLine) : OpR X (compareOp .Eq) (rEqD K) := h ▸ op_eqD hu
theorem sl_tupK (h : X.K = K) : SlR X (rSlT K) := h ▸ sl_tup
theorem sl_listK (h : X.K = K) : SlR X (rSlL K) := h ▸ sl_list
theorem op_catTK (h : X.K = K) : OpR X (binaryOp .Add) (rCatT K) := h ▸ op_catT
theorem call_list_ofK (h : X.K = K) : CallR X (.type "list") (fun xs H Q => ∃ p ys, xs = [.ref p] ∧ (SqL K H p ys ∨ SqT K H p ys) ∧ ∀ l, H l = none → Q (.ref l) (upd H l (.lst ys))) := h ▸ call_list_of
end
/-- one statement at a time -/
theorem seq_gen {A B : TS} {D : Ends} {σ : SV} {H : Hp} (h : ∀ C : SV → Hp → Prop, (∀ σ H, C σ H = B D σ H) → A { D with nx := C } σ H) : tSeq A B D σ H := h _ fun _ _ => rfl
/-- f() -/
theorem pe_d0 {X : Cx} {k j : Nat} {f : Addr} {fd : FuncData} {ps : List Str} {sp : Sp} {x : Str} {p pos : Pos} (D : DefAt X.prog X.w X.K X.mg X.base k x f fd ps sp) (hr : Room j X.A) (hkj : k ≤ j := by decide) (hg : Gl X x := by rfl) (hdb : (x == ("__debug__" : Str)) = false := by decide) :
    PE X (.Call (.Name x p) [] [] pos) (tD sp tNil) := by
  refine ⟨fun pins s σ H Q I h => ?_⟩
  refine (pe_call0 (dvs := []) D.F (hr.mono hkj) hg D.m D.kp D.b .nil pass0 hdb).run pins s σ H Q I ?_
  have e : (tCall sp [] E0 tNil) = tD sp tNil := by funext a b c; unfold tCall tD; simp only [List.append_nil]
  rw [e]
  exact h
end Kx

set_option Elab.async false
set_option linter.all false
set_option maxRecDepth 100000
set_option maxHeartbeats 4000000
set_option exponentiation.threshold 4000
/-! Cuttings. -/
namespace Kx
open PySem PySem.Spec PyProof.Rows L2
def CutOk (a b c e : Int) : Bool := decide (1 ≤ b) && (decide (1 ≤ c) && (decide (c + e < b) && (decide (0 ≤ a) && (decide (a < gcdI b c) && decide (gcdI (gcdI a (gcdI b c)) e = 1)))))
theorem gcd4 (a b c e : Int) : gcdI (gcdI a b) (gcdI c e) = gcdI (gcdI a (gcdI b c)) e := by
  simp only [gcdI, Int.natAbs_natCast, Nat.gcd_assoc]
def cutB (H : Hp) (x : V) : Bool := wholesB H 4 x && (match x with
  | .ref p => match H p with
    | some (.tup [.int a, .int b, .int c, .int e]) => CutOk a b c e
    | _ => false
  | _ => false)
theorem wholes4 {H : Hp} {x : V} (h : wholesB H 4 x = true) : ∃ p a b c e, x = .ref p ∧ H p = some (.tup [.int a, .int b, .int c, .int e]) := by
  obtain ⟨p, xs, e, ha, hl, hall⟩ := wholes_get h
  have hl4 : xs.length = 4 := by omega
  match xs, hl4 with
  | [u, v, w', y], _ =>
    simp only [List.all_cons, List.all_nil, Bool.and_true, Bool.and_eq_true] at hall
    obtain ⟨h1, h2, h3, h4⟩ := hall
    obtain ⟨i, rfl⟩ := isInt_get h1
    obtain ⟨j, rfl⟩ := isInt_get h2
    obtain ⟨l, rfl⟩ := isInt_get h3
    obtain ⟨m, rfl⟩ := isInt_get h4
    exact ⟨p, i, j, l, m, e, ha⟩
theorem cutB4 {H : Hp} {p : Addr} {a b c e : Int} (h : H p = some (.tup [.int a, .int b, .int c, .int e])) : cutB H (.ref p) = CutOk a b c e := by
  unfold cutB wholesB
  simp only [h, List.length_cons, List.length_nil, List.all_cons, List.all_nil, isIntV, Bool.and_self, Bool.and_true]
  rfl
theorem cutB_not {H : Hp} {x : V} (h : wholesB H 4 x = false) : cutB H x = false := by
  unfold cutB
  rw [h, Bool.false_and]
theorem cutB_same {H H' : Hp} {x : V} (s : Same H H') (h : OkItem H x) : cutB H' x = cutB H x := by
  unfold cutB
  rw [wholesB_same s h]
  cases x with
  | ref a =>
    obtain ⟨o, ho⟩ := h.at
    simp only [ho, s _ _ ho]
  | _ => rfl
abbrev Q4 := Int × Int × Int × Int
def cutV4 (q : Q4) : List V := [.int q.1, .int q.2.1, .int q.2.2.1, .int q.2.2.2]
def okQ (q : Q4) : Bool := CutOk q.1 q.2.1 q.2.2.1 q.2.2.2
def measC (q : Q4) : Int := q.2.2.2 * q.2.2.2 + 4 * q.2.1 * q.2.2.1
structure CutAt (H : Hp) (p : Addr) (q : Q4) : Prop where
  at' : H p = some (.tup (cutV4 q))
  ok : okQ q = true
theorem CutAt.same {H H' : Hp} {p : Addr} {q : Q4} (h : CutAt H p q) (s : Same H H') : CutAt H' p q := ⟨s _ _ h.at', h.ok⟩
theorem okQ_get {q : Q4} (h : okQ q = true) : 1 ≤ q.2.1 ∧ 1 ≤ q.2.2.1 ∧ q.2.2.1 + q.2.2.2 < q.2.1 ∧ 0 ≤ q.1 ∧ q.1 < gcdI q.2.1 q.2.2.1 ∧ gcdI (gcdI q.1 (gcdI q.2.1 q.2.2.1)) q.2.2.2 = 1 := by
  unfold okQ CutOk at h
  simp only [Bool.and_eq_true, decide_eq_true_eq] at h
  exact h
theorem sq_mod4 (e : Int) : (e * e) % 4 = 0 ∨ (e * e) % 4 = 1 := by
  have h : e % 2 = 0 ∨ e % 2 = 1 := by omega
  rcases h with h | h
  · left
    have e1 : e = 2 * (e / 2) := by omega
    rw [e1, show 2 * (e / 2) * (2 * (e / 2)) = 4 * ((e / 2) * (e / 2)) by grind]
    omega
  · right
    have e1 : e = 2 * (e / 2) + 1 := by omega
    rw [e1, show (2 * (e / 2) + 1) * (2 * (e / 2) + 1) = 4 * ((e / 2) * (e / 2) + e / 2) + 1 by grind]
    omega
theorem meas_cut {q : Q4} (h : okQ q = true) : Meas (measC q) := by
  obtain ⟨h1, h2, h3, _⟩ := okQ_get h
  unfold Meas measC
  generalize q.2.1 = b at *
  generalize q.2.2.1 = c at *
  generalize q.2.2.2 = e at *
  have hm := sq_mod4 e
  have hbc : b ≤ b * c := by
    have := Int.mul_le_mul_of_nonneg_left h2 (show 0 ≤ b by omega)
    omega
  have hcb : c ≤ b * c := by
    have := Int.mul_le_mul_of_nonneg_right h1 (show 0 ≤ c by omega)
    omega
  have e1 : 4 * b * c = 4 * (b * c) := Int.mul_assoc 4 b c
  have hee : 0 ≤ e * e := by
    by_cases h : e = 0
    · rw [h]; decide
    · have := xx_pos h; omega
  have he0 : e ≠ 0 → 0 < e * e := xx_pos
  rw [e1]
  refine ⟨?_, by omega⟩
  by_cases he : e = 0
  · subst he
    omega
  · have := he0 he
    omega
def spIsCutting : Sp := fun vs H Q _ => ∃ x, vs = [x] ∧ OkV H x ∧ ∀ H', Same H H' → Q (.bl (cutB H x)) H'
/-- where it is one -/
def spCheckCut0 : Sp := fun vs H Q _ => ∃ (p : Addr) (q : Q4), vs = [.ref p] ∧ CutAt H p q ∧ ∀ H', Same H H' → Q .non H'
def Sz4 (n : Nat) (q : Q4) : Prop := q.1.natAbs < 2 ^ n ∧ q.2.1.natAbs < 2 ^ n ∧ q.2.2.1.natAbs < 2 ^ n ∧ q.2.2.2.natAbs < 2 ^ n
def spMeasureOf0 : Sp := fun vs H Q _ => ∃ (p : Addr) (q : Q4), vs = [.ref p] ∧ CutAt H p q ∧ Sz4 1000 q ∧ ∀ H', Same H H' → Q (.int (measC q)) H'
def spApart : Sp := fun vs H Q _ => ∃ a b c : Int, vs = [.int a, .int b, .int c] ∧ Q (.bl (decide (gcdI (gcdI a b) c = 1))) H
def spWholeRoot0 : Sp := fun vs H Q _ => ∃ D : Int, vs = [.int D] ∧ Meas D ∧ D < 2 ^ 2000 ∧ Q (.int (rt D)) H
def spLawIsCutting : Sp := fun vs H Q _ => ∃ a b c e : Int, vs = [.int a, .int b, .int c, .int e] ∧ Q (.bl (CutOk a b c e)) H
/-- four numbers at an address -/
def spLawMeasure4 : Sp := fun vs H Q _ => ∃ (p : Addr) (q : Q4), vs = [.ref p] ∧ H p = some (.tup (cutV4 q)) ∧ Sz4 1000 q ∧ Q (.int (measC q)) H
theorem cutAt_okV {H : Hp} {p : Addr} {q : Q4} (h : H p = some (.tup (cutV4 q))) : OkV H (.ref p) := by
  refine ⟨⟨"tuple", tyS_tup h⟩, fun b xs e1 e2 y hy => ?_⟩
  cases e1
  rw [h] at e2
  cases e2
  simp only [cutV4, List.mem_cons, List.not_mem_nil, or_false] at hy
  rcases hy with rfl | rfl | rfl | rfl <;> exact ⟨"int", rfl⟩
theorem cutB_q {H : Hp} {p : Addr} {q : Q4} (h : H p = some (.tup (cutV4 q))) : cutB H (.ref p) = okQ q := cutB4 h
theorem meas_sz {q : Q4} {n : Nat} (h : Sz4 n q) : (measC q).natAbs < 2 ^ (2 * n + 4) := by
  obtain ⟨_, h2, h3, h4⟩ := h
  unfold measC
  have w1 : (q.2.2.2 * q.2.2.2).natAbs < 2 ^ (2 * n + 3) := up (wide_lt h4 h4) (by omega)
  have w2 : (4 * q.2.1 * q.2.2.1).natAbs < 2 ^ (2 * n + 3) := up (wide_lt (wide_lt (show (4 : Int).natAbs < 2 ^ 3 by decide) h2) h3) (by omega)
  exact sz_add w1 w2
end Kx
namespace Kx
open PySem PySem.Spec PyProof.Rows L2
def spDrawnCut : Sp := fun vs H Q _ => ∃ (g : Addr) (n : Int) (k : Nat), vs = [.ref g, .int n] ∧ GenAt H g k ∧ k ≤ 2 ^ 39 ∧ 1 ≤ n ∧ n ≤ 10 ^ 15 ∧
  ∀ (q : Q4) (p : Addr) (H' : Hp), Sz4 70 q → H p = none → H' p = some (.tup (cutV4 q)) → GenAt H' g (k + 200) → Keep g H H' → Q (.ref p) H'
def spRootRight : Sp := fun vs H Q _ => ∃ D : Int, vs = [.int D] ∧ Meas D ∧ D < 2 ^ 1000 ∧ Q (.bl true) H
def spGreat : Sp := fun vs H Q _ => vs = [] ∧ ∀ H', Same H H' → Q (.bl true) H'
def spFour (n : Nat) : Sp := fun vs H Q _ => ∃ (p : Addr) (q : Q4), vs = [.ref p] ∧ H p = some (.tup (cutV4 q)) ∧ Sz4 n q ∧ ∀ H', Same H H' → Q (.bl true) H'
end Kx
namespace Kx
open PySem PySem.Spec PyProof.Rows L2
def setQ (q : Q4) (i : Nat) (v : V) : List V := (cutV4 q).set i v
theorem bend {K : PySem.W.Frag} {H : Hp} {p : Addr} {q : Q4} {i : Nat} {v : V} {Qf : VK} (hp : H p = some (.tup (cutV4 q))) (hi : i < 4) (k : ∀ r H', Same H H' → H' r = some (.tup (setQ q i v)) → Qf (.ref r) H') :
    rSlA K (.ref p) none (some (0 + (i : Int))) H fun x H1 => 1 ≤ sizeLine ∧ ∀ p1, H1 p1 = none → rCatA K x (.ref p1) (upd H1 p1 (.tup [v])) fun y H2 => rSlA K (.ref p) (some (0 + (i : Int) + 1)) none H2 fun z H3 => rCatA K y z H3 Qf := by
  rcases (show i = 0 ∨ i = 1 ∨ i = 2 ∨ i = 3 by omega) with rfl | rfl | rfl | rfl
  · refine ⟨p, cutV4 q, rfl, SqT.of hp, fun h => absurd h (show ¬ (HT.sIx 4 0 none = 0 ∧ HT.sIx 4 4 (some (0 + ((0 : Nat) : Int))) = 4) by decide), fun _ a na => ⟨by decide, fun b nb => ?_⟩⟩
    rw [show cutV (cutV4 q) none (some (0 + ((0 : Nat) : Int))) = [] from rfl] at nb ⊢
    have ea : (upd (upd H a (.tup [])) b (.tup [v])) a = some (.tup []) := (Same.upd nb) _ _ upd_same
    have eb : (upd (upd H a (.tup [])) b (.tup [v])) b = some (.tup [v]) := upd_same
    have s1 : Same H (upd (upd H a (.tup [])) b (.tup [v])) := (Same.upd na).trans (Same.upd nb)
    generalize upd (upd H a (.tup [])) b (.tup [v]) = h1 at *
    have rest : ∀ (r : Addr) (h2 : Hp), Same H h2 → h2 r = some (.tup [v]) → rSlA K (.ref p) (some (0 + ((0 : Nat) : Int) + 1)) none h2 fun z H3 => rCatA K (.ref r) z H3 Qf := by
      intro r h2 s2 er
      refine ⟨p, cutV4 q, rfl, SqT.of (s2 _ _ hp), fun h => absurd h (show ¬ (HT.sIx 4 0 (some (0 + ((0 : Nat) : Int) + 1)) = 0 ∧ HT.sIx 4 4 none = 4) by decide), fun _ c nc => ?_⟩
      rw [show cutV (cutV4 q) (some (0 + ((0 : Nat) : Int) + 1)) none = [V.int q.2.1, V.int q.2.2.1, V.int q.2.2.2] from rfl]
      refine ⟨r, c, [v], [V.int q.2.1, V.int q.2.2.1, V.int q.2.2.2], rfl, rfl, SqT.of ((Same.upd nc) _ _ er), SqT.of upd_same, (show 4 ≤ sizeLine by decide), fun h => absurd h (by simp), ?_, ?_⟩
      · exact fun _ h => absurd h (by simp)
      · exact fun _ _ d nd => k d _ ((s2.trans (Same.upd nc)).trans (Same.upd nd)) upd_same
    exact ⟨a, b, [], [v], rfl, rfl, SqT.of ea, SqT.of eb, (show 1 ≤ sizeLine by decide), fun _ => rest b _ s1 eb, fun h => absurd rfl h, fun h => absurd rfl h⟩
  · refine ⟨p, cutV4 q, rfl, SqT.of hp, fun h => absurd h (show ¬ (HT.sIx 4 0 none = 0 ∧ HT.sIx 4 4 (some (0 + ((1 : Nat) : Int))) = 4) by decide), fun _ a na => ⟨by decide, fun b nb => ?_⟩⟩
    rw [show cutV (cutV4 q) none (some (0 + ((1 : Nat) : Int))) = [V.int q.1] from rfl] at nb ⊢
    have ea : (upd (upd H a (.tup [V.int q.1])) b (.tup [v])) a = some (.tup [V.int q.1]) := (Same.upd nb) _ _ upd_same
    have eb : (upd (upd H a (.tup [V.int q.1])) b (.tup [v])) b = some (.tup [v]) := upd_same
    have s1 : Same H (upd (upd H a (.tup [V.int q.1])) b (.tup [v])) := (Same.upd na).trans (Same.upd nb)
    generalize upd (upd H a (.tup [V.int q.1])) b (.tup [v]) = h1 at *
    have rest : ∀ (r : Addr) (h2 : Hp), Same H h2 → h2 r = some (.tup [V.int q.1, v]) → rSlA K (.ref p) (some (0 + ((1 : Nat) : Int) + 1)) none h2 fun z H3 => rCatA K (.ref r) z H3 Qf := by
      intro r h2 s2 er
      refine ⟨p, cutV4 q, rfl, SqT.of (s2 _ _ hp), fun h => absurd h (show ¬ (HT.sIx 4 0 (some (0 + ((1 : Nat) : Int) + 1)) = 0 ∧ HT.sIx 4 4 none = 4) by decide), fun _ c nc => ?_⟩
      rw [show cutV (cutV4 q) (some (0 + ((1 : Nat) : Int) + 1)) none = [V.int q.2.2.1, V.int q.2.2.2] from rfl]
      refine ⟨r, c, [V.int q.1, v], [V.int q.2.2.1, V.int q.2.2.2], rfl, rfl, SqT.of ((Same.upd nc) _ _ er), SqT.of upd_same, (show 4 ≤ sizeLine by decide), fun h => absurd h (by simp), ?_, ?_⟩
      · exact fun _ h => absurd h (by simp)
      · exact fun _ _ d nd => k d _ ((s2.trans (Same.upd nc)).trans (Same.upd nd)) upd_same
    exact ⟨a, b, [V.int q.1], [v], rfl, rfl, SqT.of ea, SqT.of eb, (show 2 ≤ sizeLine by decide), fun h => absurd h (by simp), fun _ h => absurd h (by simp), fun _ _ r nr => rest r _ (s1.trans (Same.upd nr)) upd_same⟩
  · refine ⟨p, cutV4 q, rfl, SqT.of hp, fun h => absurd h (show ¬ (HT.sIx 4 0 none = 0 ∧ HT.sIx 4 4 (some (0 + ((2 : Nat) : Int))) = 4) by decide), fun _ a na => ⟨by decide, fun b nb => ?_⟩⟩
    rw [show cutV (cutV4 q) none (some (0 + ((2 : Nat) : Int))) = [V.int q.1, V.int q.2.1] from rfl] at nb ⊢
    have ea : (upd (upd H a (.tup [V.int q.1, V.int q.2.1])) b (.tup [v])) a = some (.tup [V.int q.1, V.int q.2.1]) := (Same.upd nb) _ _ upd_same
    have eb : (upd (upd H a (.tup [V.int q.1, V.int q.2.1])) b (.tup [v])) b = some (.tup [v]) := upd_same
    have s1 : Same H (upd (upd H a (.tup [V.int q.1, V.int q.2.1])) b (.tup [v])) := (Same.upd na).trans (Same.upd nb)
    generalize upd (upd H a (.tup [V.int q.1, V.int q.2.1])) b (.tup [v]) = h1 at *
    have rest : ∀ (r : Addr) (h2 : Hp), Same H h2 → h2 r = some (.tup [V.int q.1, V.int q.2.1, v]) → rSlA K (.ref p) (some (0 + ((2 : Nat) : Int) + 1)) none h2 fun z H3 => rCatA K (.ref r) z H3 Qf := by
      intro r h2 s2 er
      refine ⟨p, cutV4 q, rfl, SqT.of (s2 _ _ hp), fun h => absurd h (show ¬ (HT.sIx 4 0 (some (0 + ((2 : Nat) : Int) + 1)) = 0 ∧ HT.sIx 4 4 none = 4) by decide), fun _ c nc => ?_⟩
      rw [show cutV (cutV4 q) (some (0 + ((2 : Nat) : Int) + 1)) none = [V.int q.2.2.2] from rfl]
      refine ⟨r, c, [V.int q.1, V.int q.2.1, v], [V.int q.2.2.2], rfl, rfl, SqT.of ((Same.upd nc) _ _ er), SqT.of upd_same, (show 4 ≤ sizeLine by decide), fun h => absurd h (by simp), ?_, ?_⟩
      · exact fun _ h => absurd h (by simp)
      · exact fun _ _ d nd => k d _ ((s2.trans (Same.upd nc)).trans (Same.upd nd)) upd_same
    exact ⟨a, b, [V.int q.1, V.int q.2.1], [v], rfl, rfl, SqT.of ea, SqT.of eb, (show 3 ≤ sizeLine by decide), fun h => absurd h (by simp), fun _ h => absurd h (by simp), fun _ _ r nr => rest r _ (s1.trans (Same.upd nr)) upd_same⟩
  · refine ⟨p, cutV4 q, rfl, SqT.of hp, fun h => absurd h (show ¬ (HT.sIx 4 0 none = 0 ∧ HT.sIx 4 4 (some (0 + ((3 : Nat) : Int))) = 4) by decide), fun _ a na => ⟨by decide, fun b nb => ?_⟩⟩
    rw [show cutV (cutV4 q) none (some (0 + ((3 : Nat) : Int))) = [V.int q.1, V.int q.2.1, V.int q.2.2.1] from rfl] at nb ⊢
    have ea : (upd (upd H a (.tup [V.int q.1, V.int q.2.1, V.int q.2.2.1])) b (.tup [v])) a = some (.tup [V.int q.1, V.int q.2.1, V.int q.2.2.1]) := (Same.upd nb) _ _ upd_same
    have eb : (upd (upd H a (.tup [V.int q.1, V.int q.2.1, V.int q.2.2.1])) b (.tup [v])) b = some (.tup [v]) := upd_same
    have s1 : Same H (upd (upd H a (.tup [V.int q.1, V.int q.2.1, V.int q.2.2.1])) b (.tup [v])) := (Same.upd na).trans (Same.upd nb)
    generalize upd (upd H a (.tup [V.int q.1, V.int q.2.1, V.int q.2.2.1])) b (.tup [v]) = h1 at *
    have rest : ∀ (r : Addr) (h2 : Hp), Same H h2 → h2 r = some (.tup [V.int q.1, V.int q.2.1, V.int q.2.2.1, v]) → rSlA K (.ref p) (some (0 + ((3 : Nat) : Int) + 1)) none h2 fun z H3 => rCatA K (.ref r) z H3 Qf := by
      intro r h2 s2 er
      refine ⟨p, cutV4 q, rfl, SqT.of (s2 _ _ hp), fun h => absurd h (show ¬ (HT.sIx 4 0 (some (0 + ((3 : Nat) : Int) + 1)) = 0 ∧ HT.sIx 4 4 none = 4) by decide), fun _ c nc => ?_⟩
      rw [show cutV (cutV4 q) (some (0 + ((3 : Nat) : Int) + 1)) none = [] from rfl]
      refine ⟨r, c, [V.int q.1, V.int q.2.1, V.int q.2.2.1, v], [], rfl, rfl, SqT.of ((Same.upd nc) _ _ er), SqT.of upd_same, (show 4 ≤ sizeLine by decide), fun h => absurd h (by simp), ?_, ?_⟩
      · exact fun _ _ => k r _ (s2.trans (Same.upd nc)) ((Same.upd nc) _ _ er)
      · exact fun _ h => absurd rfl h
    exact ⟨a, b, [V.int q.1, V.int q.2.1, V.int q.2.2.1], [v], rfl, rfl, SqT.of ea, SqT.of eb, (show 4 ≤ sizeLine by decide), fun h => absurd h (by simp), fun _ h => absurd h (by simp), fun _ _ r nr => rest r _ (s1.trans (Same.upd nr)) upd_same⟩
def setZ (q : Q4) : Nat → Int → Q4
  | 0, n => (n, q.2.1, q.2.2.1, q.2.2.2)
  | 1, n => (q.1, n, q.2.2.1, q.2.2.2)
  | 2, n => (q.1, q.2.1, n, q.2.2.2)
  | _, n => (q.1, q.2.1, q.2.2.1, n)
theorem setQ_int {q : Q4} {i : Nat} {n : Int} (hi : i < 4) : setQ q i (.int n) = cutV4 (setZ q i n) := by
  rcases (show i = 0 ∨ i = 1 ∨ i = 2 ∨ i = 3 by omega) with rfl | rfl | rfl | rfl <;> rfl
theorem setZ_sz {q : Q4} {i : Nat} {n : Int} {m : Nat} (z : Sz4 m q) (hn : n.natAbs < 2 ^ m) : Sz4 m (setZ q i n) := by
  obtain ⟨z1, z2, z3, z4⟩ := z
  unfold setZ
  split
  · exact ⟨hn, z2, z3, z4⟩
  · exact ⟨z1, hn, z3, z4⟩
  · exact ⟨z1, z2, hn, z4⟩
  · exact ⟨z1, z2, z3, hn⟩
theorem Sz4.up {n m : Nat} {q : Q4} (h : Sz4 n q) (l : n ≤ m) : Sz4 m q := ⟨Kx.up h.1 l, Kx.up h.2.1 l, Kx.up h.2.2.1 l, Kx.up h.2.2.2 l⟩
/-- a tuple with an odd item is none -/
theorem setQ_odd {H : Hp} {r : Addr} {q : Q4} {i : Nat} {v : V} (hi : i < 4) (h : H r = some (.tup (setQ q i v))) (hv : isIntV v = false) : cutB H (.ref r) = false := by
  refine cutB_not ?_
  rw [wholes_tup h]
  have : (setQ q i v).all isIntV = false := by
    rcases (show i = 0 ∨ i = 1 ∨ i = 2 ∨ i = 3 by omega) with rfl | rfl | rfl | rfl <;> (simp [setQ, cutV4, isIntV]; exact hv)
  rw [this, Bool.and_false]
theorem setQ_ok {H : Hp} {r : Addr} {q : Q4} {i : Nat} {v : V} (hi : i < 4) (h : H r = some (.tup (setQ q i v))) (hv : OkItem H v) : OkV H (.ref r) := by
  refine ⟨⟨"tuple", tyS_tup h⟩, fun b xs e1 e2 y hy => ?_⟩
  cases e1
  rw [h] at e2
  cases e2
  have hm : y = v ∨ y ∈ cutV4 q := by
    rcases List.mem_or_eq_of_mem_set hy with h | h
    · exact .inr h
    · exact .inl h
  rcases hm with rfl | hm
  · exact hv
  · simp only [cutV4, List.mem_cons, List.not_mem_nil, or_false] at hm
    rcases hm with rfl | rfl | rfl | rfl <;> exact ⟨"int", rfl⟩
end Kx
namespace Kx
open PySem PySem.Spec PyProof.Rows L2
theorem cutB_of {H : Hp} {x : V} {t : String} (h : tyS H x = some t) (hn : t ≠ "tuple") : cutB H x = false := cutB_not (wholes_not h hn)
theorem cutB_len {H : Hp} {a : Addr} {xs : List V} (h : H a = some (.tup xs)) (hl : xs.length ≠ 4) : cutB H (.ref a) = false := cutB_not (by
  rw [wholes_tup h, decide_eq_false (by omega), Bool.false_and])
theorem okV_tup {H : Hp} {a : Addr} {xs : List V} (h : H a = some (.tup xs)) (hi : ∀ y ∈ xs, OkItem H y) : OkV H (.ref a) := ⟨⟨"tuple", tyS_tup h⟩, fun b ys e1 e2 y hy => by
  cases e1
  rw [h] at e2
  cases e2
  exact hi y hy⟩
theorem shaped_ints (ns : List Int) : SeqAt.shaped (.list (ns.map PyData.int)) = true := flat_shaped fun d hd => by
  obtain ⟨n, _, rfl⟩ := List.mem_map.mp hd
  exact ⟨rfl, Nat.le_of_ble_eq_true rfl⟩
end Kx
namespace Kx
open PySem PySem.Spec PyProof.Rows L2
theorem eq_nil {K : PySem.W.Frag} {H : Hp} {a b : Addr} {Q : VK} (h1 : H a = some (.lst [])) (h2 : H b = some (.lst [])) (q : Q (.bl true) H) : rEqD K (.ref a) (.ref b) H Q :=
  ⟨.list [], .list [], .lst (SqL.of h1) .nil, .lst (SqL.of h2) .nil, rfl, rfl, q⟩
end Kx
namespace Kx
open PySem PySem.Spec PyProof.Rows L2
theorem dpAll_bools {K : PySem.W.Frag} {H : Hp} : ∀ bs : List Bool, DpAll K H (bs.map V.bl) (bs.map PyData.bool)
  | [] => .nil
  | b :: bs => .cons (.bl b) (dpAll_bools bs)
theorem shaped_bools (bs : List Bool) : SeqAt.shaped (.list (bs.map PyData.bool)) = true := flat_shaped fun d hd => by
  obtain ⟨n, _, rfl⟩ := List.mem_map.mp hd
  exact ⟨rfl, Nat.le_of_ble_eq_true rfl⟩
theorem ne_bools {K : PySem.W.Frag} {H : Hp} {a b : Addr} {Q : VK} (bs : List Bool) (h1 : H a = some (.lst (bs.map V.bl))) (h2 : H b = some (.lst (bs.map V.bl))) (q : Q (.bl false) H) : rNeD K (.ref a) (.ref b) H Q :=
  ⟨_, _, .lst (SqL.of h1) (dpAll_bools bs), .lst (SqL.of h2) (dpAll_bools bs), shaped_bools bs, shaped_bools bs, by rw [eqv_same (shaped_bools bs)]; exact q⟩
end Kx

set_option Elab.async false
set_option linter.all false
set_option maxRecDepth 100000
set_option maxHeartbeats 4000000
set_option exponentiation.threshold 4000
/-! Caught errors that are kept behind their clause. -/
namespace Kx
open PySem PySem.Spec PyProof.Rows L2
/-- an exception object at a: its class, its dict -/
def ExK (cls : Value) (d : Option Addr) (a : Addr) : HO := .ext fun h => ∃ (oe : Obj) (vs : Array Value), h.get? a = some oe ∧ Zc cls d oe ∧ oe.data = .fields vs
theorem exK_ok {P : Program} {w : World} {H : Hp} {h : Heap} {a : Addr} {cls : Value} {d : Option Addr} {oe : Obj} {vs : Array Value} (e : h.get? a = some oe) (z : Zc cls d oe) (dd : oe.data = .fields vs) : ObjOk P w H h a (ExK cls d a) :=
  ⟨⟨oe, vs, e, z, dd⟩, ⟨oe, e⟩, fun _ _ ⟨o, v, q, r⟩ k => ⟨o, v, k o q, r⟩⟩
theorem exK_at {P : Program} {w : World} {H : Hp} {h : Heap} {a : Addr} {cls : Value} {d : Option Addr} (hok : HOk P w H h) (e : H a = some (ExK cls d a)) : ∃ (oe : Obj) (vs : Array Value), h.get? a = some oe ∧ Zc cls d oe ∧ oe.data = .fields vs := by
  have x : ObjOk P w H h a (.ext fun h => ∃ (oe : Obj) (vs : Array Value), h.get? a = some oe ∧ Zc cls d oe ∧ oe.data = .fields vs) := hok a _ e
  exact x.1
section
variable {X : Cx} {pins : List (Addr × Obj)} {σ : SV} {H : Hp} {s : Shared}
theorem inv_suite0 (I : Inv X pins σ H s) (a : Addr) : Inv (X.suite a (X.pn ++ pins)) [] σ H s :=
  ⟨I.ok.suite _ _, I.os, I.bare, I.base, I.loc, I.cell, I.free, I.freeC, fun p hp => I.pin p (by rw [List.append_nil] at hp; exact hp), I.hok, I.len⟩
theorem inv_unsuite0 {a : Addr} {pn' : List (Addr × Obj)} (I : Inv (X.suite a (X.pn ++ pins)) pn' σ H s) (ok : X.Ok) : Inv X pins σ H s :=
  ⟨ok, I.os, I.bare, I.base, I.loc, I.cell, I.free, I.freeC, fun p hp => I.pin p (List.mem_append_left _ hp), I.hok, I.len⟩
end
/-- what the clause 'except x as n' wishes where the exception stays tracked -/
def wKeep (K : PySem.W.Frag) (c : Value) (i : Nat) (ts : Addr → Value → Option Addr → TS) (Wout : WX) (D : Ends) : WX := fun cls d σ H =>
  ∃ b, PySem.W.exmOne K cls c = some b ∧ (b = true → ∀ a, H a = none → ts a cls d { nx := fun σ' H' => D.nx (σ'.set i none) H', rt := D.rt, bk := fun σ' H' => D.bk (σ'.set i none) H', ct := fun σ' H' => D.ct (σ'.set i none) H' } (σ.set i (some (.ref a))) (upd H a (ExK cls d a))) ∧
    (b = false → Wout cls d σ H)
section
variable {X : Cx} {x n : Str} {c : Value} {i : Nat} {body suite : List Stmt} {b₀ : Stmt} {np pos pos' : Pos} {tb : WX → TS} {ts : Addr → Value → Option Addr → TS} {Wout : WX}
theorem ps_try_keep (hs : X.stack = X.env :: X.outer) (hf : X.env.frame = some X.env.locals) (hN : X.N.Nodup) (hi : X.N[i]? = some n) (hln : X.env.kindOf n = some .local) (hc : Names X x c) (tk : Takes X Wout)
    (hb : ∀ (W : WX) (pn : List (Addr × Obj)) (xe : Value → Shared → Prop), Takes (X.tr pn xe) W → PassesOwn (model X.prog X.w) X.A X.env xe → PSs (X.tr pn xe) body (tb W))
    (hsu : ∀ (a : Addr) (cls : Value) (d : Option Addr) (pn : List (Addr × Obj)), PSs (X.suite a pn) (b₀ :: suite) (ts a cls d)) :
    PS X (.Try body [.ExceptHandler (some (.Name x np)) (some n) (b₀ :: suite) pos'] [] [] pos) (fun D σ H => tb (wKeep X.K c i ts Wout D) D σ H) := by
  refine ⟨fun pins s σ H D I h => ?_⟩
  have ok := I.ok
  have hfr : X.A.frames = some (X.env :: X.outer) := by rw [ok.frames, hs]
  have hloc : Loc X.env.scope n := .inl hln
  refine wpAny_Try_except ?_
  refine wpAny_mono ((hb (wKeep X.K c i ts Wout D) (X.pn ++ pins) (fun e s₁ => wpAny (model X.prog X.w) X.A (noteFrame e X.env) (fun _ s₂ => wpAny (model X.prog X.w) X.A (setFlight e none) (fun _ s₃ =>
    wpAny (model X.prog X.w) X.A (handleBy e X.env [.ExceptHandler (some (.Name x np)) (some n) (b₀ :: suite) pos']) (SP X pins D) X.xe s₃) X.xe s₂) X.xe s₁) (fun u s' xx => ?_) PassesOwn.looking).run [] s σ H D (I.toTry _) h) (fun f s1 hsp => ?_) (fun e s1 he => he)
  · -- the catch
    obtain ⟨a, B, sI, pins', σ', H', cls, d, rfl, J', nb, up, sky, na, os, ag, b, hb1, hyes, hno⟩ := xx
    have J : Inv X pins σ' H' sI := J'.ofTry ok
    have sky' : Sky B (X.env :: X.outer) a (Zc cls d) X.env.locals s'.heap := by rw [← hs]; exact sky
    show wpAny (model X.prog X.w) X.A (noteFrame (.ref a) X.env) _ _ _
    refine Sky.land Zc.steady hfr hf sky' fun h3 fl3 up3 => ?_
    have J3 : Inv X pins σ' H' { s' with heap := h3 } := J.landed nb fl3.1 (up.trans up3) os ag
    obtain ⟨oe3, vs3, he3, hz3, hd3⟩ := fl3.there
    have notFr : ∀ {h : Heap} {o : Obj} {vs : Array Value}, h.FunFrames B (X.env :: X.outer) → h.get? a = some o → o.data = .fields vs → a ∉ frs (X.env :: X.outer) := fun {h o vs} ff e dd hm => by
      obtain ⟨_, o', e', hnf⟩ := ff.mem hm
      rw [e] at e'; cases e'
      exact hnf _ dd
    have nfr := notFr fl3.2.2.1 he3 hd3
    have nL : a ≠ X.env.locals := fun z => nfr (List.mem_filterMap.mpr ⟨X.env, List.mem_cons_self, by rw [hf, z]⟩)
    have nF : a ∉ X.fs := fun hm => by
      obtain ⟨e, he, q⟩ := List.mem_filterMap.mp hm
      exact nfr (List.mem_filterMap.mpr ⟨e, List.mem_cons_of_mem _ he, q⟩)
    have S3 := J3.suite he3 hd3 na nL nF
    refine wpAny_handleBy_cons (codeAny_handlers_test ?_) (by intro q; cases q)
    have LT : PySem.W.Looks (model X.prog X.w) h3 (typeOf (.ref a)) cls := fun A Q E s k q => wpAny_typeOf_ref (k _ _ he3) (by rw [hz3.1]; exact q)
    have LM := PySem.W.exm_one (M := model X.prog X.w) (J3.kIn) LT hb1
    have test : ∀ {Q : Value → Shared → Prop} {E : Value → Shared → Prop}, Q c { s' with heap := h3 } → wpAny (model X.prog X.w) (X.A.mark (some (.ref a))) (eval (.Name x np) X.env) Q E { s' with heap := h3 } := fun {Q E} q => by
      obtain ⟨hg, hdbg, hm | ⟨hm, hv, hnn⟩⟩ := hc
      · exact ld_glob (X := X.suite a ((a, oe3) :: (X.pn ++ pins))) S3 hg hm q hdbg
      · exact ld_blt (X := X.suite a ((a, oe3) :: (X.pn ++ pins))) S3 hg hm hv q hnn hdbg
    refine test (LM.here ?_)
    cases b with
    | true =>
      refine codeAny_handlers_suite_as ?_
      refine HandSPX.lands_againZ fl3 fun h4 fl4 up4 => ?_
      obtain ⟨oe4, vs4, he4, hz4, hd4⟩ := fl4.there
      have nB : B.get? a = none := fl4.2.1
      have nI : sI.heap.get? a = none := by
        cases e : sI.heap.get? a with
        | none => rfl
        | some o =>
          have hnfr : a ∉ frs X.stack := by rw [hs]; exact nfr
          have z := nb a o e hnfr
          rw [nB] at z
          cases z
      obtain ⟨G, g1, g2⟩ := restrict h4 fun b => decide (b ≠ a)
      have gk : ∀ b, b ≠ a → G.get? b = h4.get? b := fun b hb => g1 b (decide_eq_true hb)
      have ga : G.get? a = none := g2 a (by simp)
      have gs : ∀ b o, G.get? b = some o → h4.get? b = some o := fun b o e => by
        by_cases hb : b = a
        · rw [hb, ga] at e
          cases e
        · rw [← gk b hb]
          exact e
      have stG : B.StaysIn G := fun b o e => by
        have hb : b ≠ a := fun z => by
          rw [z, nB] at e
          cases e
        rw [gk b hb]
        exact fl4.1 b o e
      have upG : sI.heap.UpToSlots G := fun b o e hnd => by
        have hb : b ≠ a := fun z => by
          rw [z, nI] at e
          cases e
        obtain ⟨sl, q⟩ := ((up.trans up3).trans up4) b o e hnd
        exact ⟨sl, by rw [gk b hb]; exact q⟩
      have JG : Inv X pins σ' H' { s' with heap := G } := J.landed (s' := { s' with heap := G }) nb stG upG os ag
      have J4 : Inv X pins σ' (upd H' a (ExK cls d a)) { s' with heap := h4 } := Inv.laidN (s := { s' with heap := G }) (t' := s'.toks) JG gs ga na (exK_ok he4 hz4 hd4)
      have S4 := inv_suite0 J4 a
      refine store_ok (X := X.suite a (X.pn ++ pins)) (v := .ref a) S4 hN hi hloc rfl (fun s5 S5 => ?_) (.inr hln)
      refine wpAny_mono ((hsu a cls d (X.pn ++ pins)).run [] s5 _ _ _ S5 (hyes rfl a na)) (fun f s6 hsp => ?_) (fun _ _ z => False.elim z)
      have end_ : ∀ {σ6 : SV} {H6 : Hp} {Q : Shared → Prop}, Inv (X.suite a (X.pn ++ pins)) [] σ6 H6 s6 → (∀ s7, Inv X pins (σ6.set i none) H6 s7 → Q s7) →
          wpAny (model X.prog X.w) X.A (do bindName X.env n .none; unbindBehindTheSuite X.env n pos') (fun _ s7 => Q s7) X.xe s6 := fun {σ6 H6 Q} S6 hq => gone_ok (inv_unsuite0 S6 ok) hN hi hln hq
      cases f with
      | next =>
        obtain ⟨σ6, H6, S6, q6⟩ := hsp
        exact end_ S6 fun s7 J7 => ⟨_, _, J7, q6⟩
      | brk =>
        obtain ⟨σ6, H6, S6, q6⟩ := hsp
        exact end_ S6 fun s7 J7 => ⟨_, _, J7, q6⟩
      | cont =>
        obtain ⟨σ6, H6, S6, q6⟩ := hsp
        exact end_ S6 fun s7 J7 => ⟨_, _, J7, q6⟩
      | ret u =>
        obtain ⟨v6, σ6, H6, S6, r6, q6⟩ := hsp
        exact end_ S6 fun s7 J7 => ⟨_, _, _, J7, r6, q6⟩
    | false =>
      show wpAny _ X.A (handleBy (.ref a) X.env []) _ _ _
      refine wpAny_handleBy_nil ?_
      obtain ⟨k1, k2, k3, oe, vs, T, oT, ts', he, hz, hd, h1, hr⟩ := id fl3
      unfold PySem.passOn
      refine wpAny_bind (wpAny_field he hd h1 ?_)
      rw [if_neg (show ¬ ((Value.ref T == Value.none) = true) from by simp)]
      have fin : wpAny (model X.prog X.w) X.A (setFlight (.ref a) X.env.frame) (fun _ s4 => wpAny (model X.prog X.w) X.A (throw (.ref a) : Sem Flow) (SP X pins D) X.xe s4) X.xe { s' with heap := h3 } := by
        rw [hf]
        refine HandSPX.setFlight_upZ fl3 fun h4 hh4 up4 => wpAny_throw (tk _ _ ?_)
        exact ⟨a, B, sI, pins, σ', H', cls, d, rfl, J, nb, (up.trans up3).trans up4, .inr (.inr (by rw [hs]; exact hh4)), na, os, ag, hno rfl⟩
      first
        | exact wpAny_bind (wpAny_pure (wpAny_bind fin))
        | exact wpAny_bind fin
  · cases f with
    | next =>
      obtain ⟨σ', H', J', q⟩ := hsp
      exact wpAny_execs_nil ⟨σ', H', J'.ofTry ok, q⟩
    | brk =>
      obtain ⟨σ', H', J', q⟩ := hsp
      exact ⟨σ', H', J'.ofTry ok, q⟩
    | cont =>
      obtain ⟨σ', H', J', q⟩ := hsp
      exact ⟨σ', H', J'.ofTry ok, q⟩
    | ret u =>
      obtain ⟨v, σ', H', J', r, q⟩ := hsp
      exact ⟨v, σ', H', J'.ofTry ok, r, q⟩
end
/-! ### what is asked of a kept exception -/
/-- isinstance(e, c) -/
def rIsK (K : PySem.W.Frag) : List V → Hp → VK → Prop := fun xs H Q => ∃ (a D : Addr) (dd : Addr) (fs : List (Str × V)) (c : V) (cv : Value) (b : Bool), xs = [.ref a, c] ∧ H a = some (ExK (.ref D) (some dd) a) ∧ H dd = some (.xd fs) ∧ L2.ExcC K D ∧ (∀ u, RelV c u → u = cv) ∧ PySem.W.kitOne K (.ref D) cv = some b ∧ Q (.bl b) H
theorem call_isK {X : Cx} : CallR X (.builtin "isinstance") (rIsK X.K) := by
  intro pins s σ H xs us Q I r h
  obtain ⟨a, D, dd, fs, c, cv, b, rfl, ha, hdd, C, hcv, e, q⟩ := h
  cases r with
  | cons rx rr =>
    cases rr with
    | cons rt rr =>
      cases rr
      cases rx
      have ec := hcv _ rt
      subst ec
      obtain ⟨oe, vs, hget, hz, hv⟩ := exK_at I.hok ha
      have hx : ObjOk X.prog X.w H s.heap dd (.xd fs) := I.hok dd _ hdd
      obtain ⟨mA, hns, hr⟩ := hx
      obtain ⟨od, ho, hl⟩ := lookIn_ns hns
      have J : PySem.W.InstAt s.heap a oe D (some od) := ⟨hget, hz.1, by unfold PySem.W.notCls; rw [hv] <;> rfl, by rw [hz.2]; exact ho⟩
      obtain ⟨cd, hcd, _⟩ := PySem.W.any_some C.hd
      exact PySem.W.kia_one (PySem.W.kitx_exc (by rw [hcd]; rfl) C.hg C.hk C.hs C.ha C.hn C.ht C.hm) I.kIn J e (fun z => nomatch z) fun tk => ⟨.bl b, H, I.kept (t' := tk) fun _ _ z => z, rfl, q⟩
/-- e.f -/
def tXk (K : PySem.W.Frag) (f : Str) (te : TE) : TE := fun σ H Q => te σ H fun x H1 => ∃ (a C dd : Addr) (fs : List (Str × V)) (v : V), x = .ref a ∧ H1 a = some (ExK (.ref C) (some dd) a) ∧ XfC K C ∧ PySem.W.findIn K (.ref C) f = some none ∧ H1 dd = some (.xd fs) ∧ fs.lookup f = some v ∧ Q v H1
theorem pe_xk {X : Cx} {e : Expr} {te : TE} {pos : Pos} {n : Str} (he : PE X e te) (hb : attributeBase e n X.env (eval e X.env) = eval e X.env := by rfl) : PE X (.Attribute e n pos) (tXk X.K n te) := by
  refine ⟨fun pins s σ H Q I h => ?_⟩
  refine attr_of hb (thn (he.run pins s σ H _ I h) fun u s1 hh => ?_)
  obtain ⟨x, H1, I1, rx, a, C, dd, fs, v, ex, ha, T, hno, ea, l, q⟩ := hh
  subst ex
  obtain rfl : u = Value.ref a := rx
  obtain ⟨oe, vs, hget, hz, hd⟩ := exK_at I1.hok ha
  have hx : ObjOk X.prog X.w H1 s1.heap dd (.xd fs) := I1.hok dd _ ea
  obtain ⟨mA, hns, hr⟩ := hx
  obtain ⟨od, ho, hl⟩ := lookIn_ns hns
  obtain ⟨u, hu, ru⟩ := RelO.some_of (v := v) (o := mA n) (by rw [← l]; exact hr n)
  have J : PySem.W.InstAt s1.heap a oe C (some od) := ⟨hget, hz.1, by unfold PySem.W.notCls; rw [hd] <;> rfl, by rw [hz.2]; exact ho⟩
  exact HandSPX.exc_get I1.kIn J T.ga T.gg T.exC (PySem.W.findObj_own T.hdC hno rfl (by rw [hl, hu])) (handed_of ru) ⟨v, H1, I1.tok _, ru, q⟩
end Kx
namespace Kx
open PySem PySem.Spec PyProof.Rows L2
def tMono (t : TA) : TA := fun σ H Q => ∃ Q0 : List V → Hp → Prop, t σ H Q0 ∧ ∀ vs H1, Q0 vs H1 → Q vs H1
theorem pa_mono {X : Cx} {es : List Expr} {t : TA} (h : PA X es t) : PA X es (tMono t) := ⟨fun pos pins s σ H Q I ⟨Q0, h0, m⟩ => thn (h.run pos pins s σ H Q0 I h0) fun us s1 ⟨vs, H1, I1, r, q⟩ => ⟨vs, H1, I1, r, m vs H1 q⟩⟩
/-- self.value = value -/
def spInit (C : Addr) : Sp := fun vs H Q _ => ∃ (a : Addr) (v : V), vs = [.ref a, v] ∧ H a = some (exo a C none) ∧ ∀ dx, H dx = none → dx ≠ a → Q .non (upd (upd H dx (exd dx [("value", v)])) a (exo a C (some dx)))
/-- a class of errors that bear one value -/
structure ErrC (P : Program) (w : World) (K : PySem.W.Frag) (mg : Str → Option Value) (base : Heap) (x : Str) (C : Addr) : Prop where
  ex : ∃ (fI : Addr) (fd : FuncData), PySem.W.findIn K (.ref C) "__init__" = some (some (.ref fI)) ∧ PySem.W.typeIn K (.ref fI) = some (.type "function") ∧ FnOk P w K mg base CX0 1 fI fd ["self", "value"] (spInit C) ∧ Binds K fd ["self", "value"] []
  T : OexC K C
  m : mg x = some (.ref C)
  xf : XfC K C
  ec : L2.ExcC K C
  nv : PySem.W.findIn K (.ref C) "value" = some none
def tErr (C : Addr) (ta : TA) : SV → Hp → XK → Prop := fun σ H Q => ta σ H fun vs H1 => ∃ v, vs = [v] ∧ ∀ d, H1 d = none → Q (.ref C) (some d) (upd H1 d (.xd [("value", v)]))
theorem pmk_err {X : Cx} {j : Nat} {x : Str} {C : Addr} {e : Expr} {ta : TA} {p pos : Pos} (E : ErrC X.prog X.w X.K X.mg X.base x C) (hr : Room j X.A) (ha : PA X [e] ta) (hj : 2 ≤ j := by decide) (hg : Gl X x := by rfl) (hdb : (x == ("__debug__" : Str)) = false := by decide)
    (he : starEach [e] X.env = (false, eval e X.env) :: starEach [] X.env := by rfl) (hpl : (backTo pos (starEach [] X.env)).any (·.1) = false := by rfl) : PMk X (.Call (.Name x p) [e] [] pos) (tErr C ta) := by
  intro pins s σ H Q I h
  obtain ⟨fI, fd, iC, tI, F1, hb⟩ := E.ex
  refine pmk_oex (dvs := []) (ds := []) E.T iC tI F1 (hr.mono hj) hb .nil pass0 hg E.m (pa_mono ha) hdb he hpl pins s σ H Q I ?_
  refine ⟨_, h, fun vs H1 z => ?_⟩
  obtain ⟨v, rfl, k⟩ := z
  refine ⟨show 1 ≤ 1000 by decide, fun a na => ⟨a, v, rfl, upd_same, fun dx ndx hne => ⟨rfl, dx, [("value", v)], upd_same, ?_, ?_, ?_⟩⟩⟩
  · rw [upd_ne hne]
    exact upd_same
  · rw [upd_ne hne] at ndx
    exact ndx
  · have hd : H1 dx = none := by
      rw [upd_ne hne] at ndx
      exact ndx
    have e1 : upd (L2.del (upd (upd (upd H1 a (exo a C none)) dx (exd dx [("value", v)])) a (exo a C (some dx))) a) dx (.xd [("value", v)]) = upd H1 dx (.xd [("value", v)]) := by
      funext b
      by_cases hb : b = dx
      · rw [hb, upd_same, upd_same]
      · rw [upd_ne hb, upd_ne hb]
        by_cases hba : b = a
        · rw [hba, L2.del_same]
          exact na.symm
        · rw [L2.del_ne hba, upd_ne hba, upd_ne hb, upd_ne hba]
    rw [e1]
    exact k dx hd
/-! ### defs that may raise -/
structure DefX (P : Program) (w : World) (K : PySem.W.Frag) (mg : Str → Option Value) (base : Heap) (k : Nat) (x : Str) (f : Addr) (fd : FuncData) (ps : List Str) (sp : Sp) : Prop where
  F : FnOk P w K mg base (L2.CX P w) k f fd ps sp
  m : mg x = some (.ref f)
  kp : PySem.W.keepIn K (.ref f) = true
  b : Binds K fd ps []
/-- .. by its address -/
def FnAt (P : Program) (w : World) (K : PySem.W.Frag) (mg : Str → Option Value) (base : Heap) (j : Nat) (f : Addr) (sp : Sp) : Prop :=
  ∃ (k : Nat) (fd : FuncData) (ps : List Str), k ≤ j ∧ FnOk P w K mg base (L2.CX P w) k f fd ps sp ∧ PySem.W.keepIn K (.ref f) = true ∧ Binds K fd ps []
section
variable {X : Cx} {W : WX} {k j : Nat} {f : Addr} {fd : FuncData} {ps : List Str} {sp : Sp} {x : Str} {p pos : Pos} {a b e : Expr} {es : List Expr} {t : TA} {tf : TE}
theorem DefX.at' {P : Program} {w : World} {K : PySem.W.Frag} {mg : Str → Option Value} {base : Heap} (D : DefX P w K mg base k x f fd ps sp) (h : k ≤ j := by decide) : FnAt P w K mg base j f sp := ⟨k, fd, ps, h, D.F, D.kp, D.b⟩
theorem pe_dS (D : DefX X.prog X.w X.K X.mg X.base k x f fd ps sp) (tk : Takes X W) (hr : Room j X.A) (ha : PA X (e :: es) t) (hkj : k ≤ j := by decide) (hg : Gl X x := by rfl) (hdb : (x == ("__debug__" : Str)) = false := by decide)
    (he : starEach (e :: es) X.env = (false, eval e X.env) :: starEach es X.env := by rfl) (hpl : (backTo pos (starEach es X.env)).any (·.1) = false := by rfl) : PE X (.Call (.Name x p) (e :: es) [] pos) (tCallS sp (WE W) t) :=
  pe_callS D.F (hr.mono hkj) hg D.m D.kp D.b (fun σ => passAt tk σ) ha hdb he hpl
/-- [f, g, ..][i](e, ..) -/
def tIxCall (P : Program) (w : World) (K : PySem.W.Frag) (mg : Str → Option Value) (base : Heap) (j : Nat) (E : SV → XK) (tf : TE) (t : TA) : TE := fun σ H Q => tf σ H fun x H1 => ∃ (f : Addr) (sp : Sp), x = .ref f ∧ FnAt P w K mg base j f sp ∧ t σ H1 fun vs H2 => sp vs H2 Q (E σ)
theorem pe_ixcall (hf : PE X (.Subscript a b p) tf) (tk : Takes X W) (hr : Room j X.A) (ha : PA X (e :: es) t) (he : starEach (e :: es) X.env = (false, eval e X.env) :: starEach es X.env := by rfl) (hpl : (backTo pos (starEach es X.env)).any (·.1) = false := by rfl) :
    PE X (.Call (.Subscript a b p) (e :: es) [] pos) (tIxCall X.prog X.w X.K X.mg X.base j (WE W) tf t) := by
  refine ⟨fun pins s σ H Q I h => ?_⟩
  have ev : eval (.Call (.Subscript a b p) (e :: es) [] pos) X.env = (do callWith pos (← eval (.Subscript a b p) X.env) [] (backTo pos (starEach (e :: es) X.env)) (backToKw pos (keywordEach [] X.env))) := rfl
  rw [ev]
  refine wpAny_bind (thn (hf.run pins s σ H _ I h) fun u s1 hh => ?_)
  obtain ⟨x, H1, I1, rx, f, sp, ex, ⟨k, fd, ps, hk, F, kp, hb⟩, q⟩ := hh
  subst ex
  obtain rfl : u = Value.ref f := rx
  refine PySem.W.callWith_K (h₀ := X.base) I1.ok.mod.kin kp (thn (ha.run pos pins s1 σ H1 _ I1 q) fun us s2 ⟨vs, H2, I2, r, q2⟩ => ⟨I2.kIn, ?_⟩) he hpl
  exact run_fnS F (hr.mono hk) hb (passAt tk σ) I2 r q2
end
/-- the body of a def that may raise takes what it wishes -/
theorem takes_def {P : Program} {w : World} {K : PySem.W.Frag} {mg : Str → Option Value} {base : Heap} {N : List Str} {qual : Str} {sc : Scope} {f : Addr} {cd : Value} {A : Around} {outer : List Env} {s : Shared} {H : Hp} {E : XK} :
    Takes (cxOf (L2.CX P w) P w K mg base N qual sc f cd A outer s H E) (fun cls d _ H' => E cls d H') := takes_of rfl rfl rfl rfl
end Kx

set_option Elab.async false
set_option linter.all false
set_option maxRecDepth 100000
set_option maxHeartbeats 4000000
set_option exponentiation.threshold 4000
namespace PySem
namespace NX
open PySem.W PySem.Calls PyProof.Rows PySem.HandSPX
section
variable {M : Model} {A : Around} {E : Value → Shared → Prop} {h : Heap} {g : Array GenState} {d : Drawn} {t : Nat} {os : OsState}
variable {nm q : Str} {C N : Addr} {bs bm bmB : List Value} {hdct : Bool} {sn : List Str} {sub : List Value} {ab : Bool} {col : Option Bool} {dd : Option Addr} {k0 k1 k2 k3 k5 : Option Value} {B newId initId : String}
theorem check_new_kw (F : ExcBaseFacts B newId initId bmB) (hT : ∀ X : String, bm.contains (.type X) = bmB.contains (.type X)) {kn : Str} {kv : Value} {Q : Unit → Shared → Prop}
    (hC : h.get? C = some (excClassObj nm q C N bs bm hdct sn sub ab col dd k0 k1 k2 k3 k5 newId)) (hq : Q () ⟨h, g, d, t, os⟩) : wpAny M A (checkBuiltinCall newId ⟨[.ref C], [(kn, kv)]⟩) Q E ⟨h, g, d, t, os⟩ := by
  have hcont : (Value.ref C :: bm).contains (.type B) = true := by rw [List.contains_cons, hT, F.hasB, Bool.or_true]
  have hstar := F.noStar
  simp only [checkBuiltinCall, F.newKind, F.newSplit, F.newRow]
  repeat (first | refine wpAny_loadPart_at hC ?_ | (refine wpAny_isSubtype_exc hC ?_; rw [hcont]) | refine wpAny_staticBase_exc hC ?_ | refine wpAny_madeBy_exc hC ?_ | simp only [bne_self_eq_false, Bool.false_eq_true, if_false] | wp_step)
  exact hq
end
section
variable {prog : Program} {w : World} {A : Around} {E : Value → Shared → Prop} {R : Result → Shared → Prop} {h : Heap} {g : Array GenState} {d : Drawn} {t : Nat} {os : OsState}
variable {nm q : Str} {C N : Addr} {bs bm bmB : List Value} {hdct : Bool} {sn : List Str} {sub : List Value} {ab : Bool} {col : Option Bool} {dd : Option Addr} {k0 k1 k2 k3 k5 : Option Value} {B newId initId : String}
theorem new_kw (F : ExcBaseFacts B newId initId bmB) (hT : ∀ X : String, bm.contains (.type X) = bmB.contains (.type X)) {kn : Str} {kv : Value}
    (hC : h.get? C = some (excClassObj nm q C N bs bm hdct sn sub ab col dd k0 k1 k2 k3 k5 newId))
    (hq : R (.ok (.ret (.ref (h.objs.size + 1)))) ⟨(h.push { cls := .type "tuple", data := .seq ([] : List Value).toArray }).push
      { cls := .ref C, data := .fields #[.ref h.objs.size, .none, .none, .none, .bool false, .none] }, g, d, t, os⟩) :
    codeAny (model prog w) A (.builtin newId ⟨[.ref C], [(kn, kv)]⟩) R ⟨h, g, d, t, os⟩ := by
  have hends := F.ends
  have hcB : (Value.ref C :: bm).contains (.type B) = true := by rw [List.contains_cons, hT, F.hasB, Bool.or_true]
  have hcA : (Value.ref C :: bm).contains (.type "AttributeError") = false := by rw [List.contains_cons, hT, F.noAttr]; rfl
  have hcN : (Value.ref C :: bm).contains (.type "NameError") = false := by rw [List.contains_cons, hT, F.noName]; rfl
  have hrest : ([] : List Value).length ≤ sizeLine := by decide
  refine codeAny_builtinAt F.entry ?_
  unfold Builtin.«BaseException.__new__»
  refine wpAt_bind ?_
  show wpAt _ _ _ (stack >>= _) _ _ _
  refine wpAt_bind (wpAt_stack fun p below => wpAt_of_wpAny ?_)
  wp_walk
  refine wpAt_of_wpAny ?_
  rw [F.owner]
  repeat (first | with_reducible refine wpAny_madeHere_exc F.canon hC ?_ | with_reducible refine wpAny_loadPart_at hC ?_ | (with_reducible refine wpAny_isSubtype_exc hC ?_; first | rw [hcB] | rw [hcA] | rw [hcN]) | wp_step)
  show R _ _
  rw [Heap.size_push]
  exact hq
theorem type_call_kw (F : ExcBaseFacts B newId initId bmB) (hT : ∀ X : String, bm.contains (.type X) = bmB.contains (.type X)) {kn : Str} {kv : Value} {fI : Addr} {Q : Fin → Shared → Prop}
    (hC : h.get? C = some (excClassObj nm q C N bs bm hdct sn sub ab col dd k0 k1 k2 k3 k5 newId))
    (hi : W.Looks (model prog w) h (typeLookup (.ref C) "__init__") (some (.ref fI))) (hb : ∀ self, W.Looks (model prog w) h (bindSpecial (.ref fI) self) (.ref fI, [self]))
    (hq : codeAny (model prog w) A (.call (.ref fI) ⟨[.ref (h.objs.size + 1)], [(kn, kv)]⟩)
      (fun r s' => match r with | .ok (.ret v) => v = .none ∧ Q (.done (.ret (.ref (h.objs.size + 1)))) s' | .ok _ => False | .error e => E e s')
      ⟨(h.push (W.kdv_tup [])).push (excO C h.objs.size), g, d, t, os⟩) :
    wpAny (model prog w) A (Builtin.«type.__call__» ⟨[.ref C], [(kn, kv)]⟩) Q E ⟨h, g, d, t, os⟩ := by
  repeat (first | with_reducible refine wpAny_loadPart_at hC ?_ | with_reducible refine wpAny_madeBy_exc hC ?_ | wp_step)
  refine codeAny_call_builtin_code (Code.quiet_builtin _ F.quiet) (check_new_kw F hT hC ?_)
  refine new_kw F hT hC ?_
  show wpAny _ _ _ _ _ _
  have k : ∀ b o, h.get? b = some o → ((h.push (W.kdv_tup [])).push (excO C h.objs.size)).get? b = some o := fun b o e => Heap.get?_push_of_some _ (Heap.get?_push_of_some _ e)
  have hC₁ := k _ _ hC
  have hget : ((h.push (W.kdv_tup [])).push (excO C h.objs.size)).get? (h.objs.size + 1) = some (excO C h.objs.size) := by heap_get
  have hcC : (Value.ref C :: bm).contains (.ref C) = true := by simp
  have i1 := hi.keeps k
  have b1 := (hb (.ref (h.objs.size + 1))).keeps k
  unfold isInstance
  repeat (first | with_reducible refine wpAny_loadPart_at hget ?_ | (with_reducible refine wpAny_isSubtype_exc hC₁ ?_; rw [hcC]) | wp_step)
  show wpAny _ _ (typeLookup (.ref C) _) _ _ _
  refine i1.at ?_
  refine wpAny_holding (wpAny_bind (b1.at ?_))
  refine wpAny_bind (wpAny_call (codeAny_mono hq fun r s' z => ?_))
  rcases r with e | (v | _ | _ | _) <;> first | exact z | exact z.elim | skip
  obtain ⟨rfl, z⟩ := z
  first
    | exact wpAny_pure (wpAny_pure z)
    | (wp_walk; exact z)
theorem call_kw (F : ExcBaseFacts B newId initId bmB) (hT : ∀ X : String, bm.contains (.type X) = bmB.contains (.type X)) {kn : Str} {kv : Value} {fI : Addr}
    (hC : h.get? C = some (excClassObj nm q C N bs bm hdct sn sub ab col dd k0 k1 k2 k3 k5 newId))
    (hi : W.Looks (model prog w) h (typeLookup (.ref C) "__init__") (some (.ref fI))) (hb : ∀ self, W.Looks (model prog w) h (bindSpecial (.ref fI) self) (.ref fI, [self]))
    (hq : codeAny (model prog w) (A.under (.builtin "type.__call__" ⟨[.ref C], [(kn, kv)]⟩)) (.call (.ref fI) ⟨[.ref (h.objs.size + 1)], [(kn, kv)]⟩) (W.InitBack (h.objs.size + 1) R)
      ⟨(h.push (W.kdv_tup [])).push (excO C h.objs.size), g, d, t, os⟩) :
    codeAny (model prog w) A (.call (.ref C) ⟨[], [(kn, kv)]⟩) R ⟨h, g, d, t, os⟩ := by
  have f1 := tc_lookup
  have f2 := tc_bind (.ref C)
  have hTy : (⟨h, g, d, t, os⟩ : Shared).TypeIs (.ref C) "type" := ⟨_, hC, rfl⟩
  refine codeAny_of_tree ?_
  show wpAny _ _ (callAny (.ref C) _) _ _ _
  repeat (any_goals (first | assumption | with_reducible refine wpAny_loadPart_at hC ?_ | wp_step))
  refine ⟨rfl, ?_⟩
  refine codeAny_call_builtin_at (Code.quiet_builtin _ (by decide +kernel)) entry_typeCall (wpAny_check_type_call_sub hC (type_call_kw F hT hC hi hb ?_))
  refine codeAny_mono hq fun r s' z => ?_
  rcases r with e | (v | _ | _ | _) <;> exact z
end
end NX
end PySem
namespace Kx
open PySem PySem.Spec PyProof.Rows L2
/-- an error made, not raised -/
structure Made (H1 H2 : Hp) (C a dx : Addr) (v : V) : Prop where
  na : H1 a = none
  nd : H1 dx = none
  ne : dx ≠ a
  ea : H2 a = some (exo a C (some dx))
  ed : H2 dx = some (exd dx [("value", v)])
  sm : Same H1 H2
/-- a class of errors with its own __init__ -/
structure ErrN (P : Program) (w : World) (K : PySem.W.Frag) (mg : Str → Option Value) (base : Heap) (x : Str) (C fI : Addr) (fd : FuncData) : Prop where
  iC : PySem.W.findIn K (.ref C) "__init__" = some (some (.ref fI))
  tI : PySem.W.typeIn K (.ref fI) = some (.type "function")
  F : FnOk P w K mg base CX0 1 fI fd ["self", "value"] (spInit C)
  b1 : Binds K fd ["self", "value"] []
  b0 : ∃ ds, Vals [V.non] ds ∧ Binds K fd ["self", "value"] ds
  bk : ∀ (s : Shared) (u v : Value), K.In s.heap → BindsTo s fd ⟨[u], [("value", v)]⟩ [("self", u), ("value", v)]
  T : OexC K C
  m : mg x = some (.ref C)
  xf : XfC K C
  ec : L2.ExcC K C
  nv : PySem.W.findIn K (.ref C) "value" = some none
section
variable {X : Cx} {pins : List (Addr × Obj)} {σ : SV} {H : Hp} {s : Shared} {x : Str} {C fI : Addr} {fd : FuncData} {j : Nat} {p pos : Pos} {e : Expr} {ta : TA} {te : TE} {Q : VK}
/-- the __init__'s own promise, met -/
theorem init_hq {v : V} {a : Addr} (na : H a = none) (k : ∀ a dx H2, Made H H2 C a dx v → Q (.ref a) H2) : spInit C [.ref a, v] (upd H a (exo a C none)) (fun r H2 => r = .non ∧ Q (.ref a) H2) (fun _ _ _ => False) := by
  refine ⟨a, v, rfl, upd_same, fun dx ndx hne => ⟨rfl, k a dx _ ⟨na, ?_, hne, upd_same, ?_, fun b u eb => ?_⟩⟩⟩
  · rw [upd_ne hne] at ndx
    exact ndx
  · rw [upd_ne hne]
    exact upd_same
  · have hba := ne_of_none eb na
    have hd : H dx = none := by
      rw [upd_ne hne] at ndx
      exact ndx
    rw [upd_ne hba, upd_ne (ne_of_none eb hd), upd_ne hba]
    exact eb
theorem run_new {us ds : List Value} {vs dvs : List V} {v : V} (E : ErrN X.prog X.w X.K X.mg X.base x C fI fd) (hr : Room j X.A) (hj : 2 ≤ j) (hb : Binds X.K fd ["self", "value"] ds) (hd : Vals dvs ds) (I : Inv X pins σ H s) (r : Vals vs us) (hv : vs ++ dvs = [v])
    (k : ∀ a dx H2, Made H H2 C a dx v → Q (.ref a) H2) : wpAny (model X.prog X.w) X.A (call (.ref C) us) (EP X pins σ Q) X.xe s := by
  obtain ⟨nm, q, N, bs, bm, sn, sub, ab, col, dd, k0, k1, k2, k3, k5, hC, hbm⟩ := E.T.cls
  obtain ⟨hp, g, dr, tk, os⟩ := s
  have hsz : hp.objs.size ≤ hp.objs.size + 1 := Nat.le_succ _
  have hn : H (hp.objs.size + 1) = none := I.hok.fresh hsz
  have hq := init_hq (Q := Q) (v := v) hn k
  have kk : ∀ b o, hp.get? b = some o → ((hp.push (PySem.W.kdv_tup us)).push (PySem.HandSPX.excO C hp.objs.size)).get? b = some o := fun b o e => Heap.get?_push_of_some _ (Heap.get?_push_of_some _ e)
  have hget : ((hp.push (PySem.W.kdv_tup us)).push (PySem.HandSPX.excO C hp.objs.size)).get? (hp.objs.size + 1) = some (PySem.HandSPX.excO C hp.objs.size) := by heap_get
  have I2 : Inv X pins σ (upd H (hp.objs.size + 1) (exo (hp.objs.size + 1) C none)) ⟨(hp.push (PySem.W.kdv_tup us)).push (PySem.HandSPX.excO C hp.objs.size), g, dr, tk, os⟩ :=
    I.laid (t' := tk) (a := hp.objs.size + 1) (o := exo (hp.objs.size + 1) C none) (h' := (hp.push (PySem.W.kdv_tup us)).push (PySem.HandSPX.excO C hp.objs.size)) kk hsz (exo_ok hget)
  have r2 : Vals (V.ref (hp.objs.size + 1) :: (vs ++ dvs)) (Value.ref (hp.objs.size + 1) :: (us ++ ds)) := .cons rfl (r.append hd)
  rw [hv] at r2
  have hl : (Value.ref (hp.objs.size + 1) :: us ++ ds).length = ["self", "value"].length := by
    have e := r2.length
    exact e.symm
  have hus : us.length ≤ sizeLine := by
    have e := r2.length
    simp only [List.length_cons, List.length_append, List.length_nil] at e
    rw [sizeLine_eq]
    omega
  refine wpAny_call (PySem.HandSPX.call_own F.excBase_ValueError (fun Y => PySem.HandSPX.refsVE_contains Y bm hbm) (I.kIn _ _ hC) (PySem.W.looks_findIn I.kIn E.iC) (fun self => PySem.W.bind_fn I.kIn self E.tI) hus
    (codeAny_mono (E.F.run _ X.stack _ _ ⟨Value.ref (hp.objs.size + 1) :: us, []⟩ (Value.ref (hp.objs.size + 1) :: (us ++ ds)) _ _ (fun _ _ _ => False) ((hr.mono hj).make C us []) (I2.env0.make C us []) (hb _ (Value.ref (hp.objs.size + 1) :: us) I2.kIn hl) r2 hq) fun r s' hq' => ?_))
  cases r with
  | error er => exact False.elim hq'
  | ok fl =>
    cases fl with
    | ret u =>
      obtain ⟨v', H', I3, rv, ev, q3⟩ := I2.after hq'
      subst ev
      exact ⟨rv, ⟨V.ref (hp.objs.size + 1), H', I3, rfl, q3⟩⟩
    | next => exact False.elim hq'
    | brk => exact False.elim hq'
    | cont => exact False.elim hq'
def tNew (C : Addr) (dvs : List V) (t : TA) : TE := fun σ H Q => t σ H fun vs H1 => ∃ v, vs ++ dvs = [v] ∧ ∀ a dx H2, Made H1 H2 C a dx v → Q (.ref a) H2
/-- C(e) -/
theorem pe_new1 (E : ErrN X.prog X.w X.K X.mg X.base x C fI fd) (hr : Room j X.A) (ha : PA X [e] ta) (hj : 2 ≤ j := by decide) (hg : Gl X x := by rfl) (hdb : (x == ("__debug__" : Str)) = false := by decide)
    (he : starEach [e] X.env = (false, eval e X.env) :: starEach [] X.env := by rfl) (hpl : (backTo pos (starEach [] X.env)).any (·.1) = false := by rfl) : PE X (.Call (.Name x p) [e] [] pos) (tNew C [] ta) := by
  refine ⟨fun pins s σ H Q I h => ?_⟩
  refine wpAny_Call_Name_kw (ld_glob I hg E.m ?_ hdb)
  refine PySem.W.callWith_K (h₀ := X.base) I.ok.mod.kin E.T.kC (thn (ha.run pos pins s σ H _ I h) fun us s1 ⟨vs, H1, I1, r1, v, ev, k⟩ => ⟨I1.kIn, ?_⟩) he hpl
  exact run_new E hr hj E.b1 .nil I1 r1 ev k
/-- C() -/
theorem pe_new0 (E : ErrN X.prog X.w X.K X.mg X.base x C fI fd) (hr : Room j X.A) (hj : 2 ≤ j := by decide) (hg : Gl X x := by rfl) (hdb : (x == ("__debug__" : Str)) = false := by decide) : PE X (.Call (.Name x p) [] [] pos) (tNew C [.non] tNil) := by
  refine ⟨fun pins s σ H Q I h => ?_⟩
  refine wpAny_Call_Name_kw (ld_glob I hg E.m ?_ hdb)
  obtain ⟨v, ev, k⟩ := h
  obtain ⟨ds, hd, hb⟩ := E.b0
  exact PySem.W.callWith_K0 I.kIn E.T.kC (run_new (us := []) E hr hj hb hd I .nil ev k)
def tNewK (C : Addr) (t : TA) : TE := fun σ H Q => t σ H fun zs H1 => ∃ v, zs = [v] ∧ ∀ a dx H2, Made H1 H2 C a dx v → Q (.ref a) H2
theorem run_newK {u : Value} {v : V} (E : ErrN X.prog X.w X.K X.mg X.base x C fI fd) (hr : Room j X.A) (hj : 2 ≤ j) (I : Inv X pins σ H s) (ru : RelV v u)
    (k : ∀ a dx H2, Made H H2 C a dx v → Q (.ref a) H2) : wpAny (model X.prog X.w) X.A (call (.ref C) [] [("value", u)]) (EP X pins σ Q) X.xe s := by
  obtain ⟨nm, q, N, bs, bm, sn, sub, ab, col, dd, k0, k1, k2, k3, k5, hC, hbm⟩ := E.T.cls
  obtain ⟨hp, g, dr, tk, os⟩ := s
  have hsz : hp.objs.size ≤ hp.objs.size + 1 := Nat.le_succ _
  have hn : H (hp.objs.size + 1) = none := I.hok.fresh hsz
  have hq := init_hq (Q := Q) (v := v) hn k
  have kk : ∀ b o, hp.get? b = some o → ((hp.push (PySem.W.kdv_tup [])).push (PySem.HandSPX.excO C hp.objs.size)).get? b = some o := fun b o e => Heap.get?_push_of_some _ (Heap.get?_push_of_some _ e)
  have hget : ((hp.push (PySem.W.kdv_tup [])).push (PySem.HandSPX.excO C hp.objs.size)).get? (hp.objs.size + 1) = some (PySem.HandSPX.excO C hp.objs.size) := by heap_get
  have I2 : Inv X pins σ (upd H (hp.objs.size + 1) (exo (hp.objs.size + 1) C none)) ⟨(hp.push (PySem.W.kdv_tup [])).push (PySem.HandSPX.excO C hp.objs.size), g, dr, tk, os⟩ :=
    I.laid (t' := tk) (a := hp.objs.size + 1) (o := exo (hp.objs.size + 1) C none) (h' := (hp.push (PySem.W.kdv_tup [])).push (PySem.HandSPX.excO C hp.objs.size)) kk hsz (exo_ok hget)
  have r2 : Vals [V.ref (hp.objs.size + 1), v] [Value.ref (hp.objs.size + 1), u] := .cons rfl (.cons ru .nil)
  refine wpAny_call (PySem.NX.call_kw F.excBase_ValueError (fun Y => PySem.HandSPX.refsVE_contains Y bm hbm) (I.kIn _ _ hC) (PySem.W.looks_findIn I.kIn E.iC) (fun self => PySem.W.bind_fn I.kIn self E.tI)
    (codeAny_mono (E.F.run _ X.stack _ _ ⟨[Value.ref (hp.objs.size + 1)], [("value", u)]⟩ [Value.ref (hp.objs.size + 1), u] _ _ (fun _ _ _ => False) ((hr.mono hj).make C [] [("value", u)]) (I2.env0.make C [] [("value", u)]) (E.bk _ _ _ I2.kIn) r2 hq) fun r s' hq' => ?_))
  cases r with
  | error er => exact False.elim hq'
  | ok fl =>
    cases fl with
    | ret u =>
      obtain ⟨v', H', I3, rv, ev, q3⟩ := I2.after hq'
      subst ev
      exact ⟨rv, ⟨V.ref (hp.objs.size + 1), H', I3, rfl, q3⟩⟩
    | next => exact False.elim hq'
    | brk => exact False.elim hq'
    | cont => exact False.elim hq'
/-- C(value = e) -/
theorem pe_newK {kws : List Keyword} {tk : TA} (E : ErrN X.prog X.w X.K X.mg X.base x C fI fd) (hr : Room j X.A) (hkw : PK X kws tk) (hj : 2 ≤ j := by decide) (hg : Gl X x := by rfl)
    (hall : (backToKw pos (keywordEach kws X.env)).all (·.1.isSome) = true := by rfl) (hks : (backToKw pos (keywordEach kws X.env)).filterMap (·.1) = (["value"] : List Str) := by rfl) (hdb : (x == ("__debug__" : Str)) = false := by decide)
    (hpl : ((backTo pos (starEach [] X.env)).any (·.1) || (backToKw pos (keywordEach kws X.env)).any (·.1.isNone)) = false := by rfl) : PE X (.Call (.Name x p) [] kws pos) (tNewK C tk) := by
  refine ⟨fun pins s σ H Q I h => ?_⟩
  refine wpAny_Call_Name_kw (ld_glob I hg E.m ?_ hdb)
  refine PySem.W.callWith_KW0 (h₀ := X.base) I.ok.mod.kin E.T.kC hall ?_ hpl
  refine thn (hkw.run pos pins s σ H _ I h) fun ws s2 ⟨zs, H2, I2, rz, v, ev, k⟩ => ⟨I2.kIn, ?_⟩
  rw [hks]
  subst ev
  cases rz with
  | cons ru rn =>
    cases rn
    exact run_newK E hr hj I2 ru k
/-- isinstance(e, c), e made -/
def rIsN (K : PySem.W.Frag) : List V → Hp → VK → Prop := fun xs H Q => ∃ (a D : Addr) (dd : Addr) (fs : List (Str × V)) (c : V) (cv : Value) (b : Bool), xs = [.ref a, c] ∧ H a = some (exo a D (some dd)) ∧ H dd = some (exd dd fs) ∧ L2.ExcC K D ∧ (∀ u, RelV c u → u = cv) ∧ PySem.W.kitOne K (.ref D) cv = some b ∧ Q (.bl b) H
theorem exo_inst {K : PySem.W.Frag} {P : Program} {w : World} {h : Heap} {a C dd : Addr} {fs : List (Str × V)} (hok : HOk P w H h) (ea : H a = some (exo a C (some dd))) (ed : H dd = some (exd dd fs)) :
    ∃ (oe od : Obj) (mA : Str → Option Value), PySem.W.InstAt h a oe C (some od) ∧ (∀ name, PySem.W.lookIn name od = some (mA name)) ∧ ∀ f, RelO (fs.lookup f) (mA f) := by
  obtain ⟨t1, hget⟩ := exo_at hok ea
  obtain ⟨mA, hns, hr⟩ := exd_at hok ed
  obtain ⟨od, ho, hl⟩ := lookIn_ns hns
  exact ⟨_, od, mA, ⟨hget, rfl, rfl, ho⟩, hl, hr⟩
theorem call_isN : CallR X (.builtin "isinstance") (rIsN X.K) := by
  intro pins s σ H xs us Q I r h
  obtain ⟨a, D, dd, fs, c, cv, b, rfl, ha, hdd, C, hcv, e, q⟩ := h
  cases r with
  | cons rx rr =>
    cases rr with
    | cons rt rr =>
      cases rr
      cases rx
      have ec := hcv _ rt
      subst ec
      obtain ⟨oe, od, mA, J, _, _⟩ := exo_inst (K := X.K) I.hok ha hdd
      obtain ⟨cd, hcd, _⟩ := PySem.W.any_some C.hd
      exact PySem.W.kia_one (PySem.W.kitx_exc (by rw [hcd]; rfl) C.hg C.hk C.hs C.ha C.hn C.ht C.hm) I.kIn J e (fun z => nomatch z) fun tk => ⟨.bl b, H, I.kept (t' := tk) fun _ _ z => z, rfl, q⟩
/-- e.f, e made -/
def tXn (K : PySem.W.Frag) (f : Str) (te : TE) : TE := fun σ H Q => te σ H fun x H1 => ∃ (a C dd : Addr) (fs : List (Str × V)) (v : V), x = .ref a ∧ H1 a = some (exo a C (some dd)) ∧ XfC K C ∧ PySem.W.findIn K (.ref C) f = some none ∧ H1 dd = some (exd dd fs) ∧ fs.lookup f = some v ∧ Q v H1
theorem pe_xn {n : Str} (he : PE X e te) (hb : attributeBase e n X.env (eval e X.env) = eval e X.env := by rfl) : PE X (.Attribute e n pos) (tXn X.K n te) := by
  refine ⟨fun pins s σ H Q I h => ?_⟩
  refine attr_of hb (thn (he.run pins s σ H _ I h) fun u s1 hh => ?_)
  obtain ⟨x, H1, I1, rx, a, C, dd, fs, v, ex, ha, T, hno, ea, l, q⟩ := hh
  subst ex
  obtain rfl : u = Value.ref a := rx
  obtain ⟨oe, od, mA, J, hl, hr⟩ := exo_inst (K := X.K) I1.hok ha ea
  obtain ⟨u, hu, ru⟩ := RelO.some_of (v := v) (o := mA n) (by rw [← l]; exact hr n)
  exact HandSPX.exc_get I1.kIn J T.ga T.gg T.exC (PySem.W.findObj_own T.hdC hno rfl (by rw [hl, hu])) (handed_of ru) ⟨v, H1, I1.tok _, ru, q⟩
end
end Kx
namespace Kx
open PySem PySem.Spec PyProof.Rows L2
/-- a class of errors without an __init__ of its own -/
structure ErrP (K : PySem.W.Frag) (mg : Str → Option Value) (x : Str) (C : Addr) (bmB : List Value) (B newId initId : String) : Prop where
  F : ExcBaseFacts B newId initId bmB
  q : PySem.W.excIn K C bmB newId = true
  m : mg x = some (.ref C)
  k : PySem.W.keepIn K (.ref C) = true
  ec : L2.ExcC K C
section
variable {X : Cx} {x : Str} {C : Addr} {p pos : Pos} {bmB : List Value} {B newId initId : String}
/-- C() -/
def tNewP (C : Addr) : TE := fun _ H Q => ∀ a, H a = none → Q (.ref a) (upd H a (ExO (.ref C) a))
theorem pe_exc0 (E : ErrP X.K X.mg x C bmB B newId initId) (hg : Gl X x := by rfl) (hdb : (x == ("__debug__" : Str)) = false := by decide) : PE X (.Call (.Name x p) [] [] pos) (tNewP C) := by
  refine ⟨fun pins s σ H Q I h => ?_⟩
  refine wpAny_Call_Name_kw (ld_glob I hg E.m ?_ hdb)
  refine PySem.W.callWith_K0 I.kIn E.k ?_
  show wpAny _ _ (call (.ref C) []) _ _ _
  obtain ⟨bm, N, nm, qn, bs, hdct, sn, sub, ab, col, dd, k0, k1, k2, k3, k5, mN, hC, hN, hni, T⟩ := exc_obj I.kIn E.q
  refine wpAny_call_exc_subT E.F T hC hN hni (fun h' a hm => ?_) (by show 0 ≤ sizeLine; exact Nat.zero_le _)
  have hn : H a = none := I.hok.gone hm.new
  obtain ⟨t, ht, _, _⟩ := hm.there
  exact ⟨.ref a, upd H a (ExO (.ref C) a), I.laidN hm.keeps hm.new hn (exO_ok ht ⟨rfl, rfl⟩ rfl rfl rfl (show 4 < 6 by decide)), rfl, h a hn⟩
/-- an error object of the class D at a -/
def ErrV (H : Hp) (a D : Addr) : Prop := (∃ dd fs, H a = some (exo a D (some dd)) ∧ H dd = some (exd dd fs)) ∨ H a = some (ExO (.ref D) a)
theorem ErrV.same {H H' : Hp} {a D : Addr} (h : ErrV H a D) (s : Same H H') : ErrV H' a D := by
  rcases h with ⟨dd, fs, e1, e2⟩ | e
  · exact .inl ⟨dd, fs, s _ _ e1, s _ _ e2⟩
  · exact .inr (s _ _ e)
def rIsA (K : PySem.W.Frag) : List V → Hp → VK → Prop := fun xs H Q => ∃ (a D : Addr) (c : V) (cv : Value) (b : Bool), xs = [.ref a, c] ∧ ErrV H a D ∧ L2.ExcC K D ∧ (∀ u, RelV c u → u = cv) ∧ PySem.W.kitOne K (.ref D) cv = some b ∧ Q (.bl b) H
theorem call_isA : CallR X (.builtin "isinstance") (rIsA X.K) := by
  intro pins s σ H xs us Q I r h
  obtain ⟨a, D, c, cv, b, rfl, hE, C, hcv, e, q⟩ := h
  cases r with
  | cons rx rr =>
    cases rr with
    | cons rt rr =>
      cases rr
      cases rx
      have ec := hcv _ rt
      subst ec
      have J : ∃ oe od, PySem.W.InstAt s.heap a oe D od := by
        rcases hE with ⟨dd, fs, e1, e2⟩ | e1
        · obtain ⟨oe, od, mA, J, _, _⟩ := exo_inst (K := X.K) I.hok e1 e2
          exact ⟨oe, some od, J⟩
        · obtain ⟨⟨oe, vs, ho, hz, hd, _⟩, _, _⟩ := I.hok a _ e1
          obtain ⟨oc, od, oda, osl⟩ := oe
          obtain ⟨h1, h2⟩ := hz
          dsimp only at h1 h2 hd
          subst h1 h2 hd
          exact ⟨_, none, ho, rfl, rfl, trivial⟩
      obtain ⟨oe, od, J⟩ := J
      obtain ⟨cd, hcd, _⟩ := PySem.W.any_some C.hd
      exact PySem.W.kia_one (PySem.W.kitx_exc (by rw [hcd]; rfl) C.hg C.hk C.hs C.ha C.hn C.ht C.hm) I.kIn J e (fun z => nomatch z) fun tk => ⟨.bl b, H, I.kept (t' := tk) fun _ _ z => z, rfl, q⟩
theorem kit_ref {K : PySem.W.Frag} {D C : Addr} {b : Bool} (h2 : PySem.W.isClsIn K C = true) (h3 : PySem.W.typeIn K (.ref C) = some (.type "type")) (hs : PySem.W.subIn K (.ref C) (.ref C) = some true) (h : PySem.W.subIn K (.ref D) (.ref C) = some b) : PySem.W.kitOne K (.ref D) (.ref C) = some b := by
  unfold PySem.W.kitOne
  by_cases e : D = C
  · subst e
    rw [h] at hs
    rw [if_pos (beq_self_eq_true _), hs]
  · rw [if_neg (by intro z; exact e (Value.ref.inj (beq_iff_eq.mp z)))]
    unfold PySem.W.kitCls
    have h2' : (PySem.W.clsIn K C).isSome = true := h2
    have e2 : ((PySem.W.clsIn K C).isSome && PySem.W.typeIn K (.ref C) == some (.type "type")) = true := by rw [h2', h3]; rfl
    show (if ((PySem.W.clsIn K C).isSome && PySem.W.typeIn K (.ref C) == some (.type "type")) = true then PySem.W.subIn K (.ref D) (.ref C) else none) = some b
    rw [if_pos e2, h]
theorem kit_ve {K : PySem.W.Frag} {D : Addr} (h : PySem.W.subIn K (.ref D) (.type "ValueError") = some true) : PySem.W.kitOne K (.ref D) (.type "ValueError") = some true := by
  unfold PySem.W.kitOne
  rw [if_neg (by intro z; cases (beq_iff_eq.mp z))]
  show (if PySem.W.kitMeta "ValueError" = true then PySem.W.subIn K (.ref D) (.type "ValueError") else none) = some true
  rw [if_pos (by decide +kernel), h]
end
end Kx

set_option Elab.async false
set_option linter.all false
set_option maxRecDepth 100000
set_option maxHeartbeats 4000000
set_option exponentiation.threshold 4000
namespace Kx
open PySem PySem.Spec PyProof.Rows L2
def strTimes (z : Str) (k : Int) : Str := if k < 1 then Str.empty else if (k == 1 || z.length == 0) = true then z else ⟨(List.replicate k.toNat z.cps).foldl (· ++ ·) #[]⟩
/-- a written text times a small count -/
def rMulS : R2 := fun x y H Q => ∃ (z : Str) (k : Int), x = .str z ∧ y = .int k ∧ 0 ≤ k ∧ k ≤ 100 ∧ z.length ≤ 100 ∧ (strTimes z k).length ≤ sizeLine ∧ Q (.str (strTimes z k)) H
theorem op_mulS {X : Cx} : OpR X (binaryOp .Mult) rMulS := by
  intro pins s σ H x y v u Q I rx ry h
  obtain ⟨z, k, rfl, rfl, h0, h1, h2, hl, q⟩ := h
  obtain ⟨t, rfl⟩ := rx
  obtain ⟨t2, rfl⟩ := ry
  have hmul : z.length * k.toNat ≤ 100 * 100 := Nat.mul_le_mul h2 (by omega)
  refine PySem.P.mul_str (by rw [decide_eq_false (by omega), decide_eq_false (by omega)]; rfl) (fun h3 _ => ?_) (fun _ _ => ?_) ?_
  · have : (2 ^ 63 - 1 : Int) / k ≥ (2 ^ 63 - 1) / 100 := by
      have e1 : (100 : Int) * ((2 ^ 63 - 1) / 100) ≤ 2 ^ 63 - 1 := by decide
      exact (Int.le_ediv_iff_mul_le (by omega)).mpr (Int.le_trans (Int.mul_le_mul_of_nonneg_left h1 (by decide)) (by decide))
    have e2 : ((2 ^ 63 - 1 : Int) / 100) = 92233720368547758 := by decide
    omega
  · show decide (_ > sizeLine) = false
    exact decide_eq_false (by rw [sizeLine_eq]; omega)
  · unfold strTimes at hl q
    split
    · rename_i hk
      rw [if_pos hk] at hl q
      exact ⟨hl, .str _, H, I.tok _, ⟨_, rfl⟩, q⟩
    · rename_i hk
      rw [if_neg hk] at hl q
      split
      · rename_i hk2
        rw [if_pos hk2] at hl q
        exact ⟨.str _, H, I, ⟨_, rfl⟩, q⟩
      · rename_i hk2
        rw [if_neg hk2] at hl q
        exact ⟨hl, .str _, H, I.tok _, ⟨_, rfl⟩, q⟩
end Kx
namespace Kx
open PySem PySem.Spec PyProof.Rows L2
/-- what the written part says of the classes, together -/
structure KitT (K : PySem.W.Frag) (Cs : List Addr) (S : Addr) : Prop where
  cc : ∀ (i j : Nat) (C D : Addr), Cs[i]? = some C → Cs[j]? = some D → PySem.W.kitOne K (.ref C) (.ref D) = some (decide (j = i))
  cs : ∀ C ∈ Cs, PySem.W.kitOne K (.ref C) (.ref S) = some true
  cv : ∀ C ∈ Cs, PySem.W.kitOne K (.ref C) (.type "ValueError") = some true
  sc : ∀ C ∈ Cs, PySem.W.kitOne K (.ref S) (.ref C) = some false
  sv : PySem.W.kitOne K (.ref S) (.type "ValueError") = some true
  ec : ∀ C ∈ Cs, L2.ExcC K C
  xf : ∀ C ∈ Cs, XfC K C
  nv : ∀ C ∈ Cs, PySem.W.findIn K (.ref C) "value" = some none
section
variable {K : PySem.W.Frag} {H : Hp}
theorem It.same {H' : Hp} {v : V} {d : PyData} (h : It K H v d) (s : Same H H') : It K H' v d := ⟨dp_same s _ _ h.dp, h.sh, h.nd, h.de, h.co, h.la, h.ok.same s⟩
theorem it_tup {p : Addr} {xs : List V} {ds : List PyData} (h : H p = some (.tup xs)) (hi : ItAll K H xs ds) (h1 : PyData.depthAll ds ≤ 9) (h2 : costAll ds ≤ 90000) : It K H (.ref p) (.tuple ds) := by
  obtain ⟨a1, a2, a3, a4, a5, a6, a7, a8⟩ := itAll_facts hi
  refine ⟨.tup (SqT.of h) a1, ?_, ?_, ?_, ?_, ?_, ⟨"tuple", tyS_tup h⟩⟩
  · simp only [PyData.showable]; exact a2
  · simp only [PyData.hasDict]; exact a3
  · simp only [PyData.depth]; omega
  · simp only [cost]; omega
  · simp only [PyData.canLay0]; exact a6
theorem it_lst {p : Addr} {xs : List V} {ds : List PyData} (h : H p = some (.lst xs)) (hi : ItAll K H xs ds) (h1 : PyData.depthAll ds ≤ 9) (h2 : costAll ds ≤ 90000) : It K H (.ref p) (.list ds) := by
  obtain ⟨a1, a2, a3, a4, a5, a6, a7, a8⟩ := itAll_facts hi
  refine ⟨.lst (SqL.of h) a1, ?_, ?_, ?_, ?_, ?_, ⟨"list", tyS_lst h⟩⟩
  · simp only [PyData.showable]; exact a2
  · simp only [PyData.hasDict]; exact a3
  · simp only [PyData.depth]; omega
  · simp only [cost]; omega
  · simp only [PyData.canLay0]; exact a6
theorem itAll_nats : ∀ ns : List Nat, (∀ n ∈ ns, n < 100) → ItAll K H (ns.map fun n : Nat => V.int (n : Int)) (ns.map fun n : Nat => PyData.int (n : Int)) ∧ PyData.depthAll (ns.map fun n : Nat => PyData.int (n : Int)) ≤ 1 ∧ costAll (ns.map fun n : Nat => PyData.int (n : Int)) ≤ 2000 * ns.length
  | [], _ => ⟨.nil, by simp only [List.map_nil, PyData.depthAll]; omega, by simp only [List.map_nil, costAll]; omega⟩
  | n :: ns, h => by
    obtain ⟨h1, h2, h3⟩ := itAll_nats ns fun m hm => h m (List.mem_cons_of_mem _ hm)
    have hn := h n (List.mem_cons_self ..)
    refine ⟨.cons (.int (n := 10) (by have : ((n : Int)).natAbs = n := Int.natAbs_natCast n
                                      omega) (by decide)) h1, ?_, ?_⟩
    · simp only [List.map_cons, PyData.depthAll, PyData.depth]; omega
    · simp only [List.map_cons, costAll, cost, List.length_cons]; omega
/-- two of one kind in a list, shown -/
theorem rp_two {L : Addr} {x y : V} {d e : PyData} (h : H L = some (.lst [x, y])) (hx : It K H x d) (hy : It K H y e) : Rp K H (.ref L) (.list [d, e]) := (val_lst h (.cons hx (.cons hy .nil)) (Nat.le_of_ble_eq_true rfl)).rp
theorem isAe {a D : Addr} {c : V} {cv : Value} {b : Bool} {Q : VK} (hE : ErrV H a D) (hX : L2.ExcC K D) (hc : ∀ u, RelV c u → u = cv) (hk : PySem.W.kitOne K (.ref D) cv = some b) (q : Q (.bl b) H) : rIsA K [.ref a, c] H Q := ⟨a, D, c, cv, b, rfl, hE, hX, hc, hk, q⟩
theorem xn_mk {a C dd : Addr} {v : V} (hx : XfC K C) (hn : PySem.W.findIn K (.ref C) "value" = some none) (ea : H a = some (exo a C (some dd))) (ed : H dd = some (exd dd [("value", v)])) {te : TE} {σ : SV} {Q : VK} (ht : te σ H (fun x H1 => x = .ref a ∧ H1 = H)) : True := trivial
end
theorem Made.err {H1 H2 : Hp} {C a dx : Addr} {v : V} (m : Made H1 H2 C a dx v) : ErrV H2 a C := .inl ⟨dx, _, m.ea, m.ed⟩
end Kx
namespace Kx
open PySem PySem.Spec PyProof.Rows L2
def LstAt (H : Hp) (p : Addr) (ns : List Nat) : Prop := H p = some (.lst (.int 1 :: .non :: ns.map fun n : Nat => V.int (n : Int))) ∧ ns.length ≤ 12 ∧ ∀ n ∈ ns, n < 100
/-- the value: what is no list stays, the list grows -/
def ValW (K : PySem.W.Frag) (H : Hp) (v : V) (i : Nat) : Prop := (∃ d t, It K H v d ∧ tyS H v = some t ∧ t ≠ "list" ∧ ∀ p, v = .ref p → ∃ xs, H p = some (.tup xs)) ∨ ∃ p ns, v = .ref p ∧ LstAt H p ns ∧ ns.length ≤ i
theorem valW_it {K : PySem.W.Frag} {H : Hp} {v : V} {i : Nat} (h : ValW K H v i) : ∃ d, It K H v d := by
  rcases h with ⟨d, t, hI, _⟩ | ⟨p, ns, rfl, ⟨e, hl, hb⟩, _⟩
  · exact ⟨d, hI⟩
  · obtain ⟨h1, h2, h3⟩ := itAll_nats (K := K) (H := H) ns hb
    refine ⟨_, it_lst e (.cons (.int (n := 10) (by decide) (by decide)) (.cons .non h1)) ?_ ?_⟩
    · simp only [PyData.depthAll, PyData.depth]; omega
    · simp only [costAll, cost]; omega
theorem kitB_list {K : PySem.W.Frag} {H : Hp} {v : V} {t : String} (h : tyS H v = some t) (hn : t ≠ "list") : kitB t "list" = some false := by
  have hm := (tyS_of (K := K) h).2.1
  simp only [List.mem_cons, List.not_mem_nil, or_false] at hm
  rcases hm with rfl | rfl | rfl | rfl | rfl | rfl | rfl
  · decide +kernel
  · decide +kernel
  · decide +kernel
  · decide +kernel
  · exact absurd rfl hn
  · decide +kernel
  · decide +kernel
end Kx
namespace Kx
open PySem PySem.Spec PyProof.Rows L2
theorem exo_lst {e C : Addr} {d : Option Addr} {xs : List V} : exo e C d ≠ .lst xs := fun z => by
  have z' : HO.ext _ = HO.lst xs := z
  cases z'
theorem exd_lst {e : Addr} {fs : List (Str × V)} {xs : List V} : exd e fs ≠ .lst xs := fun z => by
  have z' : HO.ext _ = HO.lst xs := z
  cases z'
theorem upd_lst {H : Hp} {p b : Addr} {xs : List V} {o o2 : HO} (h : H p = some (.lst xs)) (e : H b = some o2) (hne : o2 ≠ .lst xs) : L2.upd H p o b = some o2 := by
  rw [upd_ne (fun z => ?_)]
  · exact e
  · rw [z, h] at e
    exact hne (Option.some.inj e).symm
theorem ValW.same {K : PySem.W.Frag} {H H' : Hp} {v : V} {i : Nat} (h : ValW K H v i) (s : Same H H') : ValW K H' v i := by
  rcases h with ⟨d, t, hI, ht, hn, hx⟩ | ⟨p, ns, rfl, ⟨e, hl, hb⟩, hle⟩
  · exact .inl ⟨d, t, hI.same s, tyS_same s ht, hn, fun p e => by
      obtain ⟨xs, h⟩ := hx p e
      exact ⟨xs, s _ _ h⟩⟩
  · exact .inr ⟨p, ns, rfl, ⟨s _ _ e, hl, hb⟩, hle⟩
theorem look1 {v : V} : List.lookup ("value" : Str) [(("value" : Str), v)] = some v := by simp [List.lookup]
end Kx
namespace Kx
open PySem PySem.Spec PyProof.Rows L2
theorem bare_mk {K : PySem.W.Frag} {C : Addr} {σ : SV} {H : Hp} {Q : VK} (xf : XfC K C) (nv : PySem.W.findIn K (.ref C) "value" = some none) (k : ∀ H2, Same H H2 → Q .non H2) : tXn K "value" (tNew C [V.non] tNil) σ H Q :=
  ⟨.non, rfl, fun a dx H2 m => ⟨a, C, dx, _, .non, rfl, m.ea, xf, nv, m.ed, look1, k H2 m.sm⟩⟩
end Kx
namespace Kx
open PySem PySem.Spec PyProof.Rows L2
theorem eq_bools {K : PySem.W.Frag} {H : Hp} {a b : Addr} {Q : VK} (bs : List Bool) (h1 : H a = some (.lst (bs.map V.bl))) (h2 : H b = some (.lst (bs.map V.bl))) (q : Q (.bl true) H) : rEqD K (.ref a) (.ref b) H Q :=
  ⟨_, _, .lst (SqL.of h1) (dpAll_bools bs), .lst (SqL.of h2) (dpAll_bools bs), shaped_bools bs, shaped_bools bs, by rw [eqv_same (shaped_bools bs)]; exact q⟩
end Kx
namespace Kx
open PySem PySem.Spec PyProof.Rows L2
/-- the __init__ in a class's text -/
def initOf : Stmt → Stmt
  | .ClassDef (body := b) .. => b.getD 0 (.Pass ⟨0, 0, 0, 0⟩)
  | _ => .Pass ⟨0, 0, 0, 0⟩
/-- how the __init__ of an error binds -/
theorem init_binds {K : PySem.W.Frag} {qual : Str} {params : Arguments} {body : List Stmt} {scope : Scope} {f : Addr} {fd : FuncData} (F : FunD K "__init__" qual params body scope [V.non] [] f fd)
    (h1 : ∀ (T : Addr) (kV doc pm : Value) (an : Option Addr) (cdv ct u v d : Value), ∃ k, bindArgs (PySem.W.fnOf "__init__" qual params body scope (.ref T) kV doc pm an cdv ct) ⟨[u, v], []⟩ = seqItems? (.ref T) >>= k ∧ k (some [d].toArray) = pure ((["self", "value"] : List Str).zip [u, v]))
    (h0 : ∀ (T : Addr) (kV doc pm : Value) (an : Option Addr) (cdv ct u d : Value), ∃ k, bindArgs (PySem.W.fnOf "__init__" qual params body scope (.ref T) kV doc pm an cdv ct) ⟨[u], []⟩ = seqItems? (.ref T) >>= k ∧ k (some [d].toArray) = pure ((["self", "value"] : List Str).zip [u, d]))
    (hk : ∀ (T : Addr) (kV doc pm : Value) (an : Option Addr) (cdv ct u v d : Value), ∃ k, bindArgs (PySem.W.fnOf "__init__" qual params body scope (.ref T) kV doc pm an cdv ct) ⟨[u], [("value", v)]⟩ = seqItems? (.ref T) >>= k ∧ k (some [d].toArray) = pure ((["self", "value"] : List Str).zip [u, v])) :
    Binds K fd ["self", "value"] [] ∧ (∃ ds, Vals [V.non] ds ∧ Binds K fd ["self", "value"] ds) ∧ ∀ (s : Shared) (u v : Value), K.In s.heap → BindsTo s fd ⟨[u], [("value", v)]⟩ [("self", u), ("value", v)] := by
  refine ⟨?_, ?_, ?_⟩
  · obtain ⟨ds, hv, hb⟩ := F.binds1 (ps := ["self", "value"]) 2 1 (by simp) (by decide) (fun T kV doc pm an cdv ct us its l1 l2 => by
      match us, its, l1, l2 with
      | [u, v], [d], _, _ => exact h1 T kV doc pm an cdv ct u v d)
    cases hv
    exact hb
  · obtain ⟨ds, hv, hb⟩ := F.binds1 (ps := ["self", "value"]) 1 0 (by simp) (by decide) (fun T kV doc pm an cdv ct us its l1 l2 => by
      match us, its, l1, l2 with
      | [u], [d], _, _ => exact h0 T kV doc pm an cdv ct u d)
    exact ⟨ds, hv, hb⟩
  · obtain ⟨oc, od, dV, kV, doc, pm, an, cdv, ct, osl, rfl, lk, hcd, hD, hK⟩ := F.ex
    rcases hD with ⟨e, _⟩ | ⟨_, T, o, its, m, rfl, lT, oT, rT⟩
    · exact absurd e (by simp)
    · intro s u v X
      cases rT with
      | @cons _ d _ dr r1 r2 =>
        cases r2
        obtain ⟨k, e1, e2⟩ := hk T kV doc pm an cdv ct u v d
        refine BindsTo.of_looks fun M => ?_
        rw [e1]
        exact looks_items X lT oT (.of_pure e2)
/-- an error class's facts, by the written part's words -/
theorem errN_mk {P : Program} {w : World} {K : PySem.W.Frag} {mg : Str → Option Value} {base : Heap} {x : Str} {C fI : Addr} {fd : FuncData} (iC : PySem.W.findIn K (.ref C) "__init__" = some (some (.ref fI))) (tI : PySem.W.typeIn K (.ref fI) = some (.type "function"))
    (F : FnOk P w K mg base CX0 1 fI fd ["self", "value"] (spInit C)) (B : Binds K fd ["self", "value"] [] ∧ (∃ ds, Vals [V.non] ds ∧ Binds K fd ["self", "value"] ds) ∧ ∀ (s : Shared) (u v : Value), K.In s.heap → BindsTo s fd ⟨[u], [("value", v)]⟩ [("self", u), ("value", v)])
    (T : OexC K C) (m : mg x = some (.ref C)) (ga : PySem.W.findIn K (.ref C) "__getattribute__" = some (some (.builtin "BaseException.__getattribute__"))) (gg : PySem.W.findIn K (.ref C) "__getattr__" = some none)
    (hd : PySem.W.hasDictIn K C = true) (ec : L2.ExcC K C) (nv : PySem.W.findIn K (.ref C) "value" = some none) : ErrN P w K mg base x C fI fd :=
  ⟨iC, tI, F, B.1, B.2.1, B.2.2, T, m, ⟨ga, gg, T.exC, hd⟩, ec, nv⟩
end Kx

set_option Elab.async false
set_option linter.all false
set_option maxRecDepth 100000
set_option maxHeartbeats 4000000
set_option exponentiation.threshold 4000
namespace L65
open PySem PySem.Spec PyProof.Rows L2 Kx

def top (i : Nat) : Stmt := PySem.Challenge.pw_slitsheets_k65_errors_by_their_classes.main.body.getD i (.Pass ⟨0, 0, 0, 0⟩)

abbrev s_LawHash : Stmt := top 15

abbrev N_LawHash : List Str := ["_law_seed", "_law_index", "_law_mixed"]

theorem scLawHash : FnScope ["_law_seed", "_law_index", "_law_mixed"] ["_law_seed", "_law_index"] (defScope s_LawHash) := ⟨rfl, rfl, rfl, by decide +kernel, rfl, by decide +kernel, by decide +kernel⟩

abbrev s_LawRandom : Stmt := top 16

abbrev N_LawRandom : List Str := ["_law_generator_here", "_law_bound", "_law_drawn", "_law_turn"]

theorem scLawRandom : FnScope ["_law_generator_here", "_law_bound", "_law_drawn", "_law_turn"] ["_law_generator_here", "_law_bound"] (defScope s_LawRandom) := ⟨rfl, rfl, rfl, by decide +kernel, rfl, by decide +kernel, by decide +kernel⟩

abbrev s_LawCell : Stmt := top 17

abbrev N_LawCell : List Str := ["_law_script", "_law_index"]

theorem scLawCell : FnScope ["_law_script", "_law_index"] ["_law_script", "_law_index"] (defScope s_LawCell) := ⟨rfl, rfl, rfl, by decide +kernel, rfl, by decide +kernel, by decide +kernel⟩

abbrev s_LawGenerator : Stmt := top 18

abbrev N_LawGenerator : List Str := ["_law_script", "_law_index", "_law_seed"]

theorem scLawGenerator : FnScope ["_law_script", "_law_index", "_law_seed"] ["_law_script", "_law_index"] (defScope s_LawGenerator) := ⟨rfl, rfl, rfl, by decide +kernel, rfl, by decide +kernel, by decide +kernel⟩

abbrev s_LawFirst : Stmt := top 19

abbrev N_LawFirst : List Str := ["_law_which", "_law_value"]

theorem scLawFirst : FnScope ["_law_which", "_law_value"] ["_law_which", "_law_value"] (defScope s_LawFirst) := ⟨rfl, rfl, rfl, by decide +kernel, rfl, by decide +kernel, by decide +kernel⟩

abbrev s_LawSecond : Stmt := top 20

abbrev N_LawSecond : List Str := ["_law_which", "_law_value"]

theorem scLawSecond : FnScope ["_law_which", "_law_value"] ["_law_which", "_law_value"] (defScope s_LawSecond) := ⟨rfl, rfl, rfl, by decide +kernel, rfl, by decide +kernel, by decide +kernel⟩

abbrev s_LawMade : Stmt := top 21

abbrev N_LawMade : List Str := ["_law_which", "_law_value"]

theorem scLawMade : FnScope ["_law_which", "_law_value"] ["_law_which", "_law_value"] (defScope s_LawMade) := ⟨rfl, rfl, rfl, by decide +kernel, rfl, by decide +kernel, by decide +kernel⟩

abbrev s_LawFlags : Stmt := top 22

abbrev N_LawFlags : List Str := ["_law_error", "_law_found"]

theorem scLawFlags : FnScope ["_law_error", "_law_found"] ["_law_error"] (defScope s_LawFlags) := ⟨rfl, rfl, rfl, by decide +kernel, rfl, by decide +kernel, by decide +kernel⟩

abbrev s_Law : Stmt := top 23

abbrev N_Law : List Str := ["_law_script", "_law_generator_here", "_law_value", "_law_which", "_law_error", "_law_other", "_law_bare", "_law_place", "_law_field"]

theorem scLaw : FnScope ["_law_script", "_law_generator_here", "_law_value", "_law_which", "_law_error", "_law_other", "_law_bare", "_law_place", "_law_field"] ["_law_script"] (defScope s_Law) := ⟨rfl, rfl, rfl, by decide +kernel, rfl, by decide +kernel, by decide +kernel⟩

/-- what the top leaves of the names -/
structure Txt (K : PySem.W.Frag) (mg : Str → Option Value) : Prop where
  ValueError : mg "ValueError" = none
  int : mg "int" = none
  isinstance : mg "isinstance" = none
  len : mg "len" = none
  list : mg "list" = none
  max : mg "max" = none
  range : mg "range" = none
  repr : mg "repr" = none
  sum : mg "sum" = none

section
variable {P : Program} {w : World} {K : PySem.W.Frag} {mg : Str → Option Value} {base : Heap}

theorem okLawHash {f : Addr} {fd : FuncData} (F : Fun K "_law_hash" "_law_hash" s_LawHash f fd) (T : Txt K mg) : FnOk P w K mg base CX0 1 f fd ["_law_seed", "_law_index"] (spHash) := by
  refine F.ok scLawHash (fun vs H Q E h => ?_) (fun cdv A outer s H vs Q E hr h => ?_)
  · obtain ⟨a, i, rfl, _⟩ := h
    rfl
  · obtain ⟨a, i, rfl, h0, h1, h2, h3, k⟩ := h
    refine ⟨_, (pss_cons (ps_set (i := 2) scLawHash.nd rfl (Or.inl rfl) (pe_op op_mod (pe_callTy cr_int (by rfl) T.int (by decide +kernel) (pa_cons (pe_op op_add (pe_op op_add (pe_op op_add (pe_op op_mulU (pv 0) pe_int) (pe_op op_mulU (pe_op op_mulU pe_int (pv 1)) (pv 1))) (pe_op op_mulU pe_int (pv 1))) pe_int) pa_nil)) pe_int))
        (pss_cons (ps_set (i := 2) scLawHash.nd rfl (Or.inl rfl) (pe_op op_mod (pe_callTy cr_int (by rfl) T.int (by decide +kernel) (pa_cons (pe_op op_add (pe_op op_add (pe_op op_mulU (pv 2) (pv 2)) (pe_op op_mulU pe_int (pv 1))) pe_int) pa_nil)) pe_int))
        (pss_one (ps_ret (pe_op op_mod (pe_callTy cr_int (by rfl) T.int (by decide +kernel) (pa_cons (pe_op op_mulU (pv 2) pe_int) pa_nil)) pe_int))))), ?_⟩
    have e0 : start N_LawHash [.int a, .int i] = [some (.int a), some (.int i), none] := rfl
    rw [e0]
    simp only [cxK, wipe, tYes, List.map_cons, List.map_nil, rIxL, rSum, tSl, rSlL, tNoPart, tPart, exists_and_left, and_assoc, V.ref.injEq, HO.lst.injEq, HO.tup.injEq, tFor_eq, iRng1, iRng2, iList, iTup, tLc_eq, tLst, tTup, gSub, rSetL, gT, gL, gTup, gCons, gNil, atI_0, atI_1, atI_2, atI_3, List.length_cons, List.length_nil, Nat.zero_add, Nat.reduceAdd, Nat.reduceLeDiff, ixN_30, ixN_31, ixN_32, Int.reduceLT, Int.reduceLE, Int.reduceNeg, upd_same, reduceCtorEq, false_and, exists_false, or_false, false_or, tSeq, tNext, tIfS, tRet, tRetN, tDrop, tAsg, gName, tPar, tPar3, tAug, ipI, tVar, tC, tOp, tUn, tCB, tD, tDK, tCons, tNil, rI, rI0, rU, tB, tTest, tAnd, tOr, tNot, tAndV, tOrV, tNotV, tIf, rEq, rNe, scal_ii, scal_bb, scal_ss, rGcd_eq, tBits, List.set_cons_zero, List.set_cons_succ, List.getElem?_cons_zero, List.getElem?_cons_succ, Option.some.injEq, exists_eq_left', V.int.injEq, V.bl.injEq, V.str.injEq, true_and, and_true, decide_eq_true_eq, List.cons.injEq, exists_eq_left, Bool.false_eq_true, if_false, if_true, ite_true, ite_false, Bool.not_eq_true', decide_eq_false_iff_not, Bool.not_not]
    exact ⟨cmw (by omega) (by omega) (by omega) (by omega), cmw (by omega) (by omega) (by omega) (by omega), cmw (by omega) (by omega) (by omega) (by omega), cmw (by omega) (by omega) (by omega) (by omega), cmw (by omega) (by omega) (by omega) (by omega), cmw (by omega) (by omega) (by omega) (by omega), cmw (by omega) (by omega) (by omega) (by omega), k _ (by omega) (by omega)⟩

def InvRandom (g : Addr) (n : Int) (k : Nat) (H : Hp) : Nat → SV → Hp → Prop := fun i σ H2 => ∃ (d : Int) (t : Option V), σ = [some (.ref g), some (.int n), some (.int d), t] ∧ GenAt H2 g (k + i) ∧ Keep g H H2

theorem okLawRandom {f : Addr} {fd : FuncData} (F : Fun K "_law_random" "_law_random" s_LawRandom f fd) (T : Txt K mg) {fLawHash : Addr} {fdLawHash : FuncData} (D_LawHash : DefAt P w K mg base 1 "_law_hash" fLawHash fdLawHash ["_law_seed", "_law_index"] (spHash)) : FnOk P w K mg base CX0 2 f fd ["_law_generator_here", "_law_bound"] (spRandom) := by
  refine F.ok scLawRandom (fun vs H Q E h => ?_) (fun cdv A outer s H vs Q E hr h => ?_)
  · obtain ⟨g, n, k, rfl, _⟩ := h
    rfl
  · obtain ⟨g, n, k, rfl, hG, hk, hn1, hn2, kk⟩ := h
    obtain ⟨a, b, c, hg, ha0, ha1, hb0, hb1, hc0, hc1⟩ := id hG
    refine ⟨_, (pss_cons (ps_if (pt_cmpR op_gt (pe_ix ixL (pv 0) pe_int (fun _ _ => rfl)) pe_int (nomark _)) (pss_cons (ps_set (i := 2) scLawRandom.nd rfl (Or.inl rfl) (pe_op op_mod (pe_callTy cr_int (by rfl) T.int (by decide +kernel) (pa_cons (pe_ix ixL (pv 0) pe_int (fun _ _ => rfl)) pa_nil)) (pv 1)))
        (pss_cons (ps_asg (pe_op op_fdivX (pe_ix ixL (pv 0) pe_int (fun _ _ => rfl)) (pv 1)) (pg_sub (pv 0) pe_int set_list))
        (pss_one (ps_ret (pv 2))))) pss_nil)
        (pss_cons (ps_set (i := 2) scLawRandom.nd rfl (Or.inl rfl) pe_int)
        (pss_cons (ps_for PassesOwn.never rfl (pi_range1 rfl T.range (pa_cons (pe_op op_add pe_int (pe_op op_fdivX (pe_bits (pv 1)) pe_int)) pa_nil)) (pg_name (i := 3) scLawRandom.nd rfl (Or.inl rfl)) (pss_cons (ps_asg (pe_op op_add (pe_ix ixL (pv 0) pe_int (fun _ _ => rfl)) pe_int) (pg_sub (pv 0) pe_int set_list))
        (pss_one (ps_set (i := 2) scLawRandom.nd rfl (Or.inl rfl) (pe_op op_add (pe_op op_mulU (pv 2) pe_int) (pe_d D_LawHash hr (pa_cons (pe_ix ixL (pv 0) pe_int (fun _ _ => rfl)) (pa_cons (pe_ix ixL (pv 0) pe_int (fun _ _ => rfl)) pa_nil))))))))
        (pss_one (ps_ret (pe_op op_mod (pe_callTy cr_int (by rfl) T.int (by decide +kernel) (pa_cons (pv 2) pa_nil)) (pv 1))))))), ?_⟩
    have e0 : start N_LawRandom [.ref g, .int n] = [some (.ref g), some (.int n), none, none] := rfl
    rw [e0]
    simp only [cxK, wipe, tYes, List.map_cons, List.map_nil, rIxL, rSum, tSl, rSlL, tNoPart, tPart, exists_and_left, and_assoc, V.ref.injEq, HO.lst.injEq, HO.tup.injEq, tFor_eq, iRng1, iRng2, iList, iTup, tLc_eq, tLst, tTup, gSub, rSetL, gT, gL, gTup, gCons, gNil, atI_0, atI_1, atI_2, atI_3, List.length_cons, List.length_nil, Nat.zero_add, Nat.reduceAdd, Nat.reduceLeDiff, ixN_30, ixN_31, ixN_32, Int.reduceLT, Int.reduceLE, Int.reduceNeg, upd_same, reduceCtorEq, false_and, exists_false, or_false, false_or, tSeq, tNext, tIfS, tRet, tRetN, tDrop, tAsg, gName, tPar, tPar3, tAug, ipI, tVar, tC, tOp, tUn, tCB, tD, tDK, tCons, tNil, rI, rI0, rU, tB, tTest, tAnd, tOr, tNot, tAndV, tOrV, tNotV, tIf, rEq, rNe, scal_ii, scal_bb, scal_ss, rGcd_eq, tBits, List.set_cons_zero, List.set_cons_succ, List.getElem?_cons_zero, List.getElem?_cons_succ, Option.some.injEq, exists_eq_left', V.int.injEq, V.bl.injEq, V.str.injEq, true_and, and_true, decide_eq_true_eq, List.cons.injEq, exists_eq_left, Bool.false_eq_true, if_false, if_true, ite_true, ite_false, Bool.not_eq_true', decide_eq_false_iff_not, Bool.not_not, hg]
    refine ite2 (fun hp => ?_) (fun hp => ?_)
    · refine ⟨by omega, cdiv (by omega) (by omega) (by omega), ?_⟩
      refine kk _ _ (Int.emod_nonneg _ (by omega)) (Int.emod_lt_of_pos _ (by omega)) ⟨a.fdiv n, b, c, upd_same, ?_, ?_, hb0, hb1, hc0, by omega⟩ (fun x u hx e => by rw [upd_ne hx]; exact e)
      · exact Int.fdiv_nonneg ha0 (by omega)
      · have h1 : a.fdiv n ≤ a := by
          rw [Int.fdiv_eq_ediv_of_nonneg a (by omega)]
          exact Int.ediv_le_self n ha0
        omega
    · have hib : Builtin.Int.intBits n ≤ 300 := PyProof.Rows.intBits_le (by omega)
      have hq : (0 : Int) ≤ (((Builtin.Int.intBits n : Nat) : Int).fdiv 30) ∧ (((Builtin.Int.intBits n : Nat) : Int).fdiv 30) ≤ 10 := by
        rw [Int.fdiv_eq_ediv_of_nonneg _ (by omega)]
        omega
      generalize hqe : (((Builtin.Int.intBits n : Nat) : Int).fdiv 30) = q at hq
      refine ⟨cdiv (by omega) (by omega) (by omega), by omega, by omega, ?_⟩
      refine forW_range (InvRandom g n k H) ⟨0, none, rfl, hG, Keep.refl _ _⟩ ?_ ?_
      · rintro i σ' H' hi ⟨d, t, rfl, ⟨a2, b2, c2, hg2, p1, p2, p3, p4, p5, p6⟩, kp⟩
        simp only [cxK, wipe, tYes, List.map_cons, List.map_nil, rIxL, rSum, tSl, rSlL, tNoPart, tPart, exists_and_left, and_assoc, V.ref.injEq, HO.lst.injEq, HO.tup.injEq, tFor_eq, iRng1, iRng2, iList, iTup, tLc_eq, tLst, tTup, gSub, rSetL, gT, gL, gTup, gCons, gNil, atI_0, atI_1, atI_2, atI_3, List.length_cons, List.length_nil, Nat.zero_add, Nat.reduceAdd, Nat.reduceLeDiff, ixN_30, ixN_31, ixN_32, Int.reduceLT, Int.reduceLE, Int.reduceNeg, upd_same, reduceCtorEq, false_and, exists_false, or_false, false_or, tSeq, tNext, tIfS, tRet, tRetN, tDrop, tAsg, gName, tPar, tPar3, tAug, ipI, tVar, tC, tOp, tUn, tCB, tD, tDK, tCons, tNil, rI, rI0, rU, tB, tTest, tAnd, tOr, tNot, tAndV, tOrV, tNotV, tIf, rEq, rNe, scal_ii, scal_bb, scal_ss, rGcd_eq, tBits, List.set_cons_zero, List.set_cons_succ, List.getElem?_cons_zero, List.getElem?_cons_succ, Option.some.injEq, exists_eq_left', V.int.injEq, V.bl.injEq, V.str.injEq, true_and, and_true, decide_eq_true_eq, List.cons.injEq, exists_eq_left, Bool.false_eq_true, if_false, if_true, ite_true, ite_false, Bool.not_eq_true', decide_eq_false_iff_not, Bool.not_not, hg2]
        unfold spHash
        refine ⟨cmr (by decide) (by decide), b2, c2 + 1, rfl, p3, p4, by omega, by omega, fun hh q1 q2 => ?_⟩
        simp only [cxK, wipe, tYes, List.map_cons, List.map_nil, rIxL, rSum, tSl, rSlL, tNoPart, tPart, exists_and_left, and_assoc, V.ref.injEq, HO.lst.injEq, HO.tup.injEq, tFor_eq, iRng1, iRng2, iList, iTup, tLc_eq, tLst, tTup, gSub, rSetL, gT, gL, gTup, gCons, gNil, atI_0, atI_1, atI_2, atI_3, List.length_cons, List.length_nil, Nat.zero_add, Nat.reduceAdd, Nat.reduceLeDiff, ixN_30, ixN_31, ixN_32, Int.reduceLT, Int.reduceLE, Int.reduceNeg, upd_same, reduceCtorEq, false_and, exists_false, or_false, false_or, tSeq, tNext, tIfS, tRet, tRetN, tDrop, tAsg, gName, tPar, tPar3, tAug, ipI, tVar, tC, tOp, tUn, tCB, tD, tDK, tCons, tNil, rI, rI0, rU, tB, tTest, tAnd, tOr, tNot, tAndV, tOrV, tNotV, tIf, rEq, rNe, scal_ii, scal_bb, scal_ss, rGcd_eq, tBits, List.set_cons_zero, List.set_cons_succ, List.getElem?_cons_zero, List.getElem?_cons_succ, Option.some.injEq, exists_eq_left', V.int.injEq, V.bl.injEq, V.str.injEq, true_and, and_true, decide_eq_true_eq, List.cons.injEq, exists_eq_left, Bool.false_eq_true, if_false, if_true, ite_true, ite_false, Bool.not_eq_true', decide_eq_false_iff_not, Bool.not_not]
        refine ⟨_, some (.int (0 + (i : Int))), rfl, ⟨a2, b2, c2 + 1, upd_same, p1, p2, p3, p4, by omega, by omega⟩, fun x u hx e => ?_⟩
        rw [upd_ne hx]
        exact kp x u hx e
      · rintro σ' H' ⟨d, t, rfl, gA, kp⟩
        simp only [cxK, wipe, tYes, List.map_cons, List.map_nil, rIxL, rSum, tSl, rSlL, tNoPart, tPart, exists_and_left, and_assoc, V.ref.injEq, HO.lst.injEq, HO.tup.injEq, tFor_eq, iRng1, iRng2, iList, iTup, tLc_eq, tLst, tTup, gSub, rSetL, gT, gL, gTup, gCons, gNil, atI_0, atI_1, atI_2, atI_3, List.length_cons, List.length_nil, Nat.zero_add, Nat.reduceAdd, Nat.reduceLeDiff, ixN_30, ixN_31, ixN_32, Int.reduceLT, Int.reduceLE, Int.reduceNeg, upd_same, reduceCtorEq, false_and, exists_false, or_false, false_or, tSeq, tNext, tIfS, tRet, tRetN, tDrop, tAsg, gName, tPar, tPar3, tAug, ipI, tVar, tC, tOp, tUn, tCB, tD, tDK, tCons, tNil, rI, rI0, rU, tB, tTest, tAnd, tOr, tNot, tAndV, tOrV, tNotV, tIf, rEq, rNe, scal_ii, scal_bb, scal_ss, rGcd_eq, tBits, List.set_cons_zero, List.set_cons_succ, List.getElem?_cons_zero, List.getElem?_cons_succ, Option.some.injEq, exists_eq_left', V.int.injEq, V.bl.injEq, V.str.injEq, true_and, and_true, decide_eq_true_eq, List.cons.injEq, exists_eq_left, Bool.false_eq_true, if_false, if_true, ite_true, ite_false, Bool.not_eq_true', decide_eq_false_iff_not, Bool.not_not]
        exact ⟨by omega, kk _ _ (Int.emod_nonneg _ (by omega)) (Int.emod_lt_of_pos _ (by omega)) (gA.mono (by omega)) kp⟩

theorem okLawCell {f : Addr} {fd : FuncData} (F : Fun K "_law_cell" "_law_cell" s_LawCell f fd) (T : Txt K mg) : FnOk P w K mg base CX0 1 f fd ["_law_script", "_law_index"] (spCell K) := by
  refine F.ok scLawCell (fun vs H Q E h => ?_) (fun cdv A outer s H vs Q E hr h => ?_)
  · obtain ⟨a, ns, i, rfl, _⟩ := h
    rfl
  · obtain ⟨a, ns, i, rfl, hS, h0, h1, kk⟩ := h
    refine ⟨_, (pss_cons (ps_if (pt_cmpR op_lt (pv 1) (pe_callB call_len_seq (by rfl) T.len (by decide +kernel) (pa_cons (pv 0) pa_nil)) (nomark _)) (pss_one (ps_ret (pe_ix ix_list (pv 0) (pv 1) (fun _ _ => rfl)))) pss_nil)
        (pss_one (ps_ret (pe_op op_mod (pe_callB (cr_sum rfl) (by rfl) T.sum (by decide +kernel) (pa_cons (pe_slice sl_list (pv 0) po_none (po_some pe_int)) pa_nil)) pe_int)))), ?_⟩
    have e0 : start N_LawCell [.ref a, .int i] = [some (.ref a), some (.int i)] := rfl
    rw [e0]
    simp only [cxK, wipe, tYes, List.map_cons, List.map_nil, rIxL, rSum, tSl, rSlL, tNoPart, tPart, exists_and_left, and_assoc, V.ref.injEq, HO.lst.injEq, HO.tup.injEq, tFor_eq, iRng1, iRng2, iList, iTup, tLc_eq, tLst, tTup, gSub, rSetL, gT, gL, gTup, gCons, gNil, atI_0, atI_1, atI_2, atI_3, List.length_cons, List.length_nil, Nat.zero_add, Nat.reduceAdd, Nat.reduceLeDiff, ixN_30, ixN_31, ixN_32, Int.reduceLT, Int.reduceLE, Int.reduceNeg, upd_same, reduceCtorEq, false_and, exists_false, or_false, false_or, tSeq, tNext, tIfS, tRet, tRetN, tDrop, tAsg, gName, tPar, tPar3, tAug, ipI, tVar, tC, tOp, tUn, tCB, tD, tDK, tCons, tNil, rI, rI0, rU, tB, tTest, tAnd, tOr, tNot, tAndV, tOrV, tNotV, tIf, rEq, rNe, scal_ii, scal_bb, scal_ss, rGcd_eq, tBits, List.set_cons_zero, List.set_cons_succ, List.getElem?_cons_zero, List.getElem?_cons_succ, Option.some.injEq, exists_eq_left', V.int.injEq, V.bl.injEq, V.str.injEq, true_and, and_true, decide_eq_true_eq, List.cons.injEq, exists_eq_left, Bool.false_eq_true, if_false, if_true, ite_true, ite_false, Bool.not_eq_true', decide_eq_false_iff_not, Bool.not_not]
    refine ⟨ns.map V.int, .inl hS, ite2 (fun hp => ?_) (fun hp => ?_)⟩
    · have hi : i.toNat < ns.length := by rw [List.length_map] at hp; omega
      refine ⟨ns.map V.int, hS, .int (ns[i.toNat]), ?_, kk _ _ (Same.refl _)⟩
      exact at_of (j := i.toNat) (by omega) (by rw [List.getElem?_map, List.getElem?_eq_getElem hi]; rfl)
    · refine ⟨ns.map V.int, hS, fun p np => ⟨ns.take 1, .inl (.inl ?_), kk _ _ (Same.upd np)⟩⟩
      rw [upd_same, cut1, List.map_take]

theorem okLawGenerator {f : Addr} {fd : FuncData} (F : Fun K "_law_generator" "_law_generator" s_LawGenerator f fd) (T : Txt K mg) {fLawCell : Addr} {fdLawCell : FuncData} (D_LawCell : DefAt P w K mg base 1 "_law_cell" fLawCell fdLawCell ["_law_script", "_law_index"] (spCell K)) : FnOk P w K mg base CX0 2 f fd ["_law_script", "_law_index"] (spGen K) := by
  refine F.ok scLawGenerator (fun vs H Q E h => ?_) (fun cdv A outer s H vs Q E hr h => ?_)
  · obtain ⟨a, ns, i, rfl, _⟩ := h
    rfl
  · obtain ⟨a, ns, i, rfl, hS, h0, h1, kk⟩ := h
    refine ⟨_, (pss_cons (ps_set (i := 2) scLawGenerator.nd rfl (Or.inl rfl) (pe_d D_LawCell hr (pa_cons (pv 0) (pa_cons (pv 1) pa_nil))))
        (pss_one (ps_ret (pe_lst (pa_cons (pe_op op_mod (pe_callTy cr_int (by rfl) T.int (by decide +kernel) (pa_cons (pe_callB (call_max2 rfl) (by rfl) T.max (by decide +kernel) (pa_cons (pe_op op_sub (pv 2) (pe_op op_powX pe_int pe_int)) (pa_cons pe_int pa_nil))) pa_nil)) (pe_op op_powX (pe_op op_powX pe_int pe_int) pe_int)) (pa_cons (pe_op op_mod (pe_callTy cr_int (by rfl) T.int (by decide +kernel) (pa_cons (pv 2) pa_nil)) pe_int) (pa_cons (pe_op op_mulU pe_int (pv 1)) pa_nil))))))), ?_⟩
    have e0 : start N_LawGenerator [.ref a, .int i] = [some (.ref a), some (.int i), none] := rfl
    rw [e0]
    simp only [cxK, wipe, tYes, List.map_cons, List.map_nil, rIxL, rSum, tSl, rSlL, tNoPart, tPart, exists_and_left, and_assoc, V.ref.injEq, HO.lst.injEq, HO.tup.injEq, tFor_eq, iRng1, iRng2, iList, iTup, tLc_eq, tLst, tTup, gSub, rSetL, gT, gL, gTup, gCons, gNil, atI_0, atI_1, atI_2, atI_3, List.length_cons, List.length_nil, Nat.zero_add, Nat.reduceAdd, Nat.reduceLeDiff, ixN_30, ixN_31, ixN_32, Int.reduceLT, Int.reduceLE, Int.reduceNeg, upd_same, reduceCtorEq, false_and, exists_false, or_false, false_or, tSeq, tNext, tIfS, tRet, tRetN, tDrop, tAsg, gName, tPar, tPar3, tAug, ipI, tVar, tC, tOp, tUn, tCB, tD, tDK, tCons, tNil, rI, rI0, rU, tB, tTest, tAnd, tOr, tNot, tAndV, tOrV, tNotV, tIf, rEq, rNe, scal_ii, scal_bb, scal_ss, rGcd_eq, tBits, List.set_cons_zero, List.set_cons_succ, List.getElem?_cons_zero, List.getElem?_cons_succ, Option.some.injEq, exists_eq_left', V.int.injEq, V.bl.injEq, V.str.injEq, true_and, and_true, decide_eq_true_eq, List.cons.injEq, exists_eq_left, Bool.false_eq_true, if_false, if_true, ite_true, ite_false, Bool.not_eq_true', decide_eq_false_iff_not, Bool.not_not]
    have hm : (0 : Int) < (10 ^ Int.toNat 60) ^ Int.toNat 10 := by decide +kernel
    have hm2 : ((10 : Int) ^ Int.toNat 60) ^ Int.toNat 10 < 2 ^ 2000 := by decide +kernel
    have hm3 : -(2 ^ 2500) < (10 : Int) ^ Int.toNat 60 := by decide +kernel
    have hm4 : (10 : Int) ^ Int.toNat 60 < 2 ^ 2500 := by decide +kernel
    refine ⟨a, ns, i, rfl, hS, h0, h1, fun r H1 s1 => ⟨cpow (by decide) (by decide) (by decide) (by decide), r, rfl, cpow (by decide) (by decide) (by decide) (by decide), cpow (by decide) (by decide) hm3 hm4, hm, r, rfl, cml (by decide) (by decide), by decide, fun p np => ?_⟩⟩
    refine kk p _ (s1.free np) (s1.trans (Same.upd np)) ⟨_, _, _, upd_same, Int.emod_nonneg _ (by omega), Int.lt_trans (Int.emod_lt_of_pos _ hm) hm2, by omega, by omega, by omega, by omega⟩

/-- made by number -/
def spMade (Cs : List Addr) (lo hi : Nat) : Sp := fun vs H Q _ => ∃ (i : Nat) (v : V) (C : Addr), vs = [.int i, v] ∧ lo ≤ i ∧ i < hi ∧ Cs[i - lo]? = some C ∧ ∀ a dx H', Made H H' C a dx v → Q (.ref a) H'
def spFlags (K : PySem.W.Frag) (Cs : List Addr) : Sp := fun vs H Q _ => ∃ (a D : Addr) (bs : List Bool), vs = [.ref a] ∧ ErrV H a D ∧ L2.ExcC K D ∧ bs.length = 12 ∧ (∀ (i : Nat) (b : Bool) (C : Addr), bs[i]? = some b → Cs[i]? = some C → PySem.W.kitOne K (.ref D) (.ref C) = some b) ∧ ∀ L H', Same H H' → H' L = some (.lst (bs.map V.bl)) → Q (.ref L) H'
theorem isA {K : PySem.W.Frag} {H : Hp} {a D C : Addr} {b : Bool} {Q : VK} (hE : ErrV H a D) (hX : L2.ExcC K D) (hk : PySem.W.kitOne K (.ref D) (.ref C) = some b) (q : Q (.bl b) H) : rIsA K [.ref a, .ref C] H Q := ⟨a, D, .ref C, .ref C, b, rfl, hE, hX, fun _ h => h, hk, q⟩

abbrev s_iInvalidMeasure : Stmt := initOf (top 2)

theorem sciInvalidMeasure : FnScope ["self", "value"] ["self", "value"] (defScope s_iInvalidMeasure) := ⟨rfl, rfl, rfl, by decide +kernel, rfl, by decide +kernel, by decide +kernel⟩

theorem okiInvalidMeasure {f C : Addr} {fd : FuncData} (F : FunD K "__init__" "InvalidMeasure.__init__" (defArgs s_iInvalidMeasure) (defBody s_iInvalidMeasure) (defScope s_iInvalidMeasure) [V.non] [] f fd) (T : OexC K C) (nv : PySem.W.findIn K (.ref C) "value" = some none) : FnOk P w K mg base CX0 1 f fd ["self", "value"] (spInit C) := by
  refine F.ok (N := ["self", "value"]) sciInvalidMeasure (fun vs H Q E h => ?_) (fun cdv A outer s H vs Q E hr h => ?_)
  · obtain ⟨a, v, rfl, _⟩ := h
    rfl
  · obtain ⟨a, v, rfl, ha, k⟩ := h
    refine ⟨_, (pss_one (ps_ost (pv 0) (pv 1))), ?_⟩
    have e0 : start ["self", "value"] [.ref a, v] = [some (.ref a), some v] := rfl
    rw [e0]
    simp only [cxK, wipe, tYes, List.map_cons, List.map_nil, rIxL, rSum, tSl, rSlL, tNoPart, tPart, exists_and_left, and_assoc, V.ref.injEq, HO.lst.injEq, HO.tup.injEq, tFor_eq, iRng1, iRng2, iList, iTup, tLc_eq, tLst, tTup, gSub, rSetL, gT, gL, gTup, gCons, gNil, atI_0, atI_1, atI_2, atI_3, List.length_cons, List.length_nil, Nat.zero_add, Nat.reduceAdd, Nat.reduceLeDiff, ixN_30, ixN_31, ixN_32, Int.reduceLT, Int.reduceLE, Int.reduceNeg, upd_same, reduceCtorEq, false_and, exists_false, or_false, false_or, tSeq, tNext, tIfS, tRet, tRetN, tDrop, tAsg, gName, tPar, tPar3, tAug, ipI, tVar, tC, tOp, tUn, tCB, tD, tDK, tCons, tNil, rI, rI0, rU, tB, tTest, tAnd, tOr, tNot, tAndV, tOrV, tNotV, tIf, rEq, rNe, scal_ii, scal_bb, scal_ss, rGcd_eq, tBits, List.set_cons_zero, List.set_cons_succ, List.getElem?_cons_zero, List.getElem?_cons_succ, Option.some.injEq, exists_eq_left', V.int.injEq, V.bl.injEq, V.str.injEq, true_and, and_true, decide_eq_true_eq, List.cons.injEq, exists_eq_left, Bool.false_eq_true, if_false, if_true, ite_true, ite_false, Bool.not_eq_true', decide_eq_false_iff_not, Bool.not_not, tOst]
    exact ⟨C, T, nv, .inl ⟨ha, k⟩⟩
theorem bdiInvalidMeasure {f : Addr} {fd : FuncData} (F : FunD K "__init__" "InvalidMeasure.__init__" (defArgs s_iInvalidMeasure) (defBody s_iInvalidMeasure) (defScope s_iInvalidMeasure) [V.non] [] f fd) : Binds K fd ["self", "value"] [] ∧ (∃ ds, Vals [V.non] ds ∧ Binds K fd ["self", "value"] ds) ∧ ∀ (s : Shared) (u v : Value), K.In s.heap → BindsTo s fd ⟨[u], [("value", v)]⟩ [("self", u), ("value", v)] :=
  init_binds F (fun _ _ _ _ _ _ _ _ _ _ => ⟨_, rfl, rfl⟩) (fun _ _ _ _ _ _ _ _ _ => ⟨_, rfl, rfl⟩) (fun _ _ _ _ _ _ _ _ _ _ => ⟨_, rfl, rfl⟩)

abbrev s_iInvalidNumber : Stmt := initOf (top 3)

theorem sciInvalidNumber : FnScope ["self", "value"] ["self", "value"] (defScope s_iInvalidNumber) := ⟨rfl, rfl, rfl, by decide +kernel, rfl, by decide +kernel, by decide +kernel⟩

theorem okiInvalidNumber {f C : Addr} {fd : FuncData} (F : FunD K "__init__" "InvalidNumber.__init__" (defArgs s_iInvalidNumber) (defBody s_iInvalidNumber) (defScope s_iInvalidNumber) [V.non] [] f fd) (T : OexC K C) (nv : PySem.W.findIn K (.ref C) "value" = some none) : FnOk P w K mg base CX0 1 f fd ["self", "value"] (spInit C) := by
  refine F.ok (N := ["self", "value"]) sciInvalidNumber (fun vs H Q E h => ?_) (fun cdv A outer s H vs Q E hr h => ?_)
  · obtain ⟨a, v, rfl, _⟩ := h
    rfl
  · obtain ⟨a, v, rfl, ha, k⟩ := h
    refine ⟨_, (pss_one (ps_ost (pv 0) (pv 1))), ?_⟩
    have e0 : start ["self", "value"] [.ref a, v] = [some (.ref a), some v] := rfl
    rw [e0]
    simp only [cxK, wipe, tYes, List.map_cons, List.map_nil, rIxL, rSum, tSl, rSlL, tNoPart, tPart, exists_and_left, and_assoc, V.ref.injEq, HO.lst.injEq, HO.tup.injEq, tFor_eq, iRng1, iRng2, iList, iTup, tLc_eq, tLst, tTup, gSub, rSetL, gT, gL, gTup, gCons, gNil, atI_0, atI_1, atI_2, atI_3, List.length_cons, List.length_nil, Nat.zero_add, Nat.reduceAdd, Nat.reduceLeDiff, ixN_30, ixN_31, ixN_32, Int.reduceLT, Int.reduceLE, Int.reduceNeg, upd_same, reduceCtorEq, false_and, exists_false, or_false, false_or, tSeq, tNext, tIfS, tRet, tRetN, tDrop, tAsg, gName, tPar, tPar3, tAug, ipI, tVar, tC, tOp, tUn, tCB, tD, tDK, tCons, tNil, rI, rI0, rU, tB, tTest, tAnd, tOr, tNot, tAndV, tOrV, tNotV, tIf, rEq, rNe, scal_ii, scal_bb, scal_ss, rGcd_eq, tBits, List.set_cons_zero, List.set_cons_succ, List.getElem?_cons_zero, List.getElem?_cons_succ, Option.some.injEq, exists_eq_left', V.int.injEq, V.bl.injEq, V.str.injEq, true_and, and_true, decide_eq_true_eq, List.cons.injEq, exists_eq_left, Bool.false_eq_true, if_false, if_true, ite_true, ite_false, Bool.not_eq_true', decide_eq_false_iff_not, Bool.not_not, tOst]
    exact ⟨C, T, nv, .inl ⟨ha, k⟩⟩
theorem bdiInvalidNumber {f : Addr} {fd : FuncData} (F : FunD K "__init__" "InvalidNumber.__init__" (defArgs s_iInvalidNumber) (defBody s_iInvalidNumber) (defScope s_iInvalidNumber) [V.non] [] f fd) : Binds K fd ["self", "value"] [] ∧ (∃ ds, Vals [V.non] ds ∧ Binds K fd ["self", "value"] ds) ∧ ∀ (s : Shared) (u v : Value), K.In s.heap → BindsTo s fd ⟨[u], [("value", v)]⟩ [("self", u), ("value", v)] :=
  init_binds F (fun _ _ _ _ _ _ _ _ _ _ => ⟨_, rfl, rfl⟩) (fun _ _ _ _ _ _ _ _ _ => ⟨_, rfl, rfl⟩) (fun _ _ _ _ _ _ _ _ _ _ => ⟨_, rfl, rfl⟩)

abbrev s_iInvalidRoot : Stmt := initOf (top 4)

theorem sciInvalidRoot : FnScope ["self", "value"] ["self", "value"] (defScope s_iInvalidRoot) := ⟨rfl, rfl, rfl, by decide +kernel, rfl, by decide +kernel, by decide +kernel⟩

theorem okiInvalidRoot {f C : Addr} {fd : FuncData} (F : FunD K "__init__" "InvalidRoot.__init__" (defArgs s_iInvalidRoot) (defBody s_iInvalidRoot) (defScope s_iInvalidRoot) [V.non] [] f fd) (T : OexC K C) (nv : PySem.W.findIn K (.ref C) "value" = some none) : FnOk P w K mg base CX0 1 f fd ["self", "value"] (spInit C) := by
  refine F.ok (N := ["self", "value"]) sciInvalidRoot (fun vs H Q E h => ?_) (fun cdv A outer s H vs Q E hr h => ?_)
  · obtain ⟨a, v, rfl, _⟩ := h
    rfl
  · obtain ⟨a, v, rfl, ha, k⟩ := h
    refine ⟨_, (pss_one (ps_ost (pv 0) (pv 1))), ?_⟩
    have e0 : start ["self", "value"] [.ref a, v] = [some (.ref a), some v] := rfl
    rw [e0]
    simp only [cxK, wipe, tYes, List.map_cons, List.map_nil, rIxL, rSum, tSl, rSlL, tNoPart, tPart, exists_and_left, and_assoc, V.ref.injEq, HO.lst.injEq, HO.tup.injEq, tFor_eq, iRng1, iRng2, iList, iTup, tLc_eq, tLst, tTup, gSub, rSetL, gT, gL, gTup, gCons, gNil, atI_0, atI_1, atI_2, atI_3, List.length_cons, List.length_nil, Nat.zero_add, Nat.reduceAdd, Nat.reduceLeDiff, ixN_30, ixN_31, ixN_32, Int.reduceLT, Int.reduceLE, Int.reduceNeg, upd_same, reduceCtorEq, false_and, exists_false, or_false, false_or, tSeq, tNext, tIfS, tRet, tRetN, tDrop, tAsg, gName, tPar, tPar3, tAug, ipI, tVar, tC, tOp, tUn, tCB, tD, tDK, tCons, tNil, rI, rI0, rU, tB, tTest, tAnd, tOr, tNot, tAndV, tOrV, tNotV, tIf, rEq, rNe, scal_ii, scal_bb, scal_ss, rGcd_eq, tBits, List.set_cons_zero, List.set_cons_succ, List.getElem?_cons_zero, List.getElem?_cons_succ, Option.some.injEq, exists_eq_left', V.int.injEq, V.bl.injEq, V.str.injEq, true_and, and_true, decide_eq_true_eq, List.cons.injEq, exists_eq_left, Bool.false_eq_true, if_false, if_true, ite_true, ite_false, Bool.not_eq_true', decide_eq_false_iff_not, Bool.not_not, tOst]
    exact ⟨C, T, nv, .inl ⟨ha, k⟩⟩
theorem bdiInvalidRoot {f : Addr} {fd : FuncData} (F : FunD K "__init__" "InvalidRoot.__init__" (defArgs s_iInvalidRoot) (defBody s_iInvalidRoot) (defScope s_iInvalidRoot) [V.non] [] f fd) : Binds K fd ["self", "value"] [] ∧ (∃ ds, Vals [V.non] ds ∧ Binds K fd ["self", "value"] ds) ∧ ∀ (s : Shared) (u v : Value), K.In s.heap → BindsTo s fd ⟨[u], [("value", v)]⟩ [("self", u), ("value", v)] :=
  init_binds F (fun _ _ _ _ _ _ _ _ _ _ => ⟨_, rfl, rfl⟩) (fun _ _ _ _ _ _ _ _ _ => ⟨_, rfl, rfl⟩) (fun _ _ _ _ _ _ _ _ _ _ => ⟨_, rfl, rfl⟩)

abbrev s_iInvalidCutting : Stmt := initOf (top 5)

theorem sciInvalidCutting : FnScope ["self", "value"] ["self", "value"] (defScope s_iInvalidCutting) := ⟨rfl, rfl, rfl, by decide +kernel, rfl, by decide +kernel, by decide +kernel⟩

theorem okiInvalidCutting {f C : Addr} {fd : FuncData} (F : FunD K "__init__" "InvalidCutting.__init__" (defArgs s_iInvalidCutting) (defBody s_iInvalidCutting) (defScope s_iInvalidCutting) [V.non] [] f fd) (T : OexC K C) (nv : PySem.W.findIn K (.ref C) "value" = some none) : FnOk P w K mg base CX0 1 f fd ["self", "value"] (spInit C) := by
  refine F.ok (N := ["self", "value"]) sciInvalidCutting (fun vs H Q E h => ?_) (fun cdv A outer s H vs Q E hr h => ?_)
  · obtain ⟨a, v, rfl, _⟩ := h
    rfl
  · obtain ⟨a, v, rfl, ha, k⟩ := h
    refine ⟨_, (pss_one (ps_ost (pv 0) (pv 1))), ?_⟩
    have e0 : start ["self", "value"] [.ref a, v] = [some (.ref a), some v] := rfl
    rw [e0]
    simp only [cxK, wipe, tYes, List.map_cons, List.map_nil, rIxL, rSum, tSl, rSlL, tNoPart, tPart, exists_and_left, and_assoc, V.ref.injEq, HO.lst.injEq, HO.tup.injEq, tFor_eq, iRng1, iRng2, iList, iTup, tLc_eq, tLst, tTup, gSub, rSetL, gT, gL, gTup, gCons, gNil, atI_0, atI_1, atI_2, atI_3, List.length_cons, List.length_nil, Nat.zero_add, Nat.reduceAdd, Nat.reduceLeDiff, ixN_30, ixN_31, ixN_32, Int.reduceLT, Int.reduceLE, Int.reduceNeg, upd_same, reduceCtorEq, false_and, exists_false, or_false, false_or, tSeq, tNext, tIfS, tRet, tRetN, tDrop, tAsg, gName, tPar, tPar3, tAug, ipI, tVar, tC, tOp, tUn, tCB, tD, tDK, tCons, tNil, rI, rI0, rU, tB, tTest, tAnd, tOr, tNot, tAndV, tOrV, tNotV, tIf, rEq, rNe, scal_ii, scal_bb, scal_ss, rGcd_eq, tBits, List.set_cons_zero, List.set_cons_succ, List.getElem?_cons_zero, List.getElem?_cons_succ, Option.some.injEq, exists_eq_left', V.int.injEq, V.bl.injEq, V.str.injEq, true_and, and_true, decide_eq_true_eq, List.cons.injEq, exists_eq_left, Bool.false_eq_true, if_false, if_true, ite_true, ite_false, Bool.not_eq_true', decide_eq_false_iff_not, Bool.not_not, tOst]
    exact ⟨C, T, nv, .inl ⟨ha, k⟩⟩
theorem bdiInvalidCutting {f : Addr} {fd : FuncData} (F : FunD K "__init__" "InvalidCutting.__init__" (defArgs s_iInvalidCutting) (defBody s_iInvalidCutting) (defScope s_iInvalidCutting) [V.non] [] f fd) : Binds K fd ["self", "value"] [] ∧ (∃ ds, Vals [V.non] ds ∧ Binds K fd ["self", "value"] ds) ∧ ∀ (s : Shared) (u v : Value), K.In s.heap → BindsTo s fd ⟨[u], [("value", v)]⟩ [("self", u), ("value", v)] :=
  init_binds F (fun _ _ _ _ _ _ _ _ _ _ => ⟨_, rfl, rfl⟩) (fun _ _ _ _ _ _ _ _ _ => ⟨_, rfl, rfl⟩) (fun _ _ _ _ _ _ _ _ _ _ => ⟨_, rfl, rfl⟩)

abbrev s_iInvalidDeed : Stmt := initOf (top 6)

theorem sciInvalidDeed : FnScope ["self", "value"] ["self", "value"] (defScope s_iInvalidDeed) := ⟨rfl, rfl, rfl, by decide +kernel, rfl, by decide +kernel, by decide +kernel⟩

theorem okiInvalidDeed {f C : Addr} {fd : FuncData} (F : FunD K "__init__" "InvalidDeed.__init__" (defArgs s_iInvalidDeed) (defBody s_iInvalidDeed) (defScope s_iInvalidDeed) [V.non] [] f fd) (T : OexC K C) (nv : PySem.W.findIn K (.ref C) "value" = some none) : FnOk P w K mg base CX0 1 f fd ["self", "value"] (spInit C) := by
  refine F.ok (N := ["self", "value"]) sciInvalidDeed (fun vs H Q E h => ?_) (fun cdv A outer s H vs Q E hr h => ?_)
  · obtain ⟨a, v, rfl, _⟩ := h
    rfl
  · obtain ⟨a, v, rfl, ha, k⟩ := h
    refine ⟨_, (pss_one (ps_ost (pv 0) (pv 1))), ?_⟩
    have e0 : start ["self", "value"] [.ref a, v] = [some (.ref a), some v] := rfl
    rw [e0]
    simp only [cxK, wipe, tYes, List.map_cons, List.map_nil, rIxL, rSum, tSl, rSlL, tNoPart, tPart, exists_and_left, and_assoc, V.ref.injEq, HO.lst.injEq, HO.tup.injEq, tFor_eq, iRng1, iRng2, iList, iTup, tLc_eq, tLst, tTup, gSub, rSetL, gT, gL, gTup, gCons, gNil, atI_0, atI_1, atI_2, atI_3, List.length_cons, List.length_nil, Nat.zero_add, Nat.reduceAdd, Nat.reduceLeDiff, ixN_30, ixN_31, ixN_32, Int.reduceLT, Int.reduceLE, Int.reduceNeg, upd_same, reduceCtorEq, false_and, exists_false, or_false, false_or, tSeq, tNext, tIfS, tRet, tRetN, tDrop, tAsg, gName, tPar, tPar3, tAug, ipI, tVar, tC, tOp, tUn, tCB, tD, tDK, tCons, tNil, rI, rI0, rU, tB, tTest, tAnd, tOr, tNot, tAndV, tOrV, tNotV, tIf, rEq, rNe, scal_ii, scal_bb, scal_ss, rGcd_eq, tBits, List.set_cons_zero, List.set_cons_succ, List.getElem?_cons_zero, List.getElem?_cons_succ, Option.some.injEq, exists_eq_left', V.int.injEq, V.bl.injEq, V.str.injEq, true_and, and_true, decide_eq_true_eq, List.cons.injEq, exists_eq_left, Bool.false_eq_true, if_false, if_true, ite_true, ite_false, Bool.not_eq_true', decide_eq_false_iff_not, Bool.not_not, tOst]
    exact ⟨C, T, nv, .inl ⟨ha, k⟩⟩
theorem bdiInvalidDeed {f : Addr} {fd : FuncData} (F : FunD K "__init__" "InvalidDeed.__init__" (defArgs s_iInvalidDeed) (defBody s_iInvalidDeed) (defScope s_iInvalidDeed) [V.non] [] f fd) : Binds K fd ["self", "value"] [] ∧ (∃ ds, Vals [V.non] ds ∧ Binds K fd ["self", "value"] ds) ∧ ∀ (s : Shared) (u v : Value), K.In s.heap → BindsTo s fd ⟨[u], [("value", v)]⟩ [("self", u), ("value", v)] :=
  init_binds F (fun _ _ _ _ _ _ _ _ _ _ => ⟨_, rfl, rfl⟩) (fun _ _ _ _ _ _ _ _ _ => ⟨_, rfl, rfl⟩) (fun _ _ _ _ _ _ _ _ _ _ => ⟨_, rfl, rfl⟩)

abbrev s_iInvalidWord : Stmt := initOf (top 7)

theorem sciInvalidWord : FnScope ["self", "value"] ["self", "value"] (defScope s_iInvalidWord) := ⟨rfl, rfl, rfl, by decide +kernel, rfl, by decide +kernel, by decide +kernel⟩

theorem okiInvalidWord {f C : Addr} {fd : FuncData} (F : FunD K "__init__" "InvalidWord.__init__" (defArgs s_iInvalidWord) (defBody s_iInvalidWord) (defScope s_iInvalidWord) [V.non] [] f fd) (T : OexC K C) (nv : PySem.W.findIn K (.ref C) "value" = some none) : FnOk P w K mg base CX0 1 f fd ["self", "value"] (spInit C) := by
  refine F.ok (N := ["self", "value"]) sciInvalidWord (fun vs H Q E h => ?_) (fun cdv A outer s H vs Q E hr h => ?_)
  · obtain ⟨a, v, rfl, _⟩ := h
    rfl
  · obtain ⟨a, v, rfl, ha, k⟩ := h
    refine ⟨_, (pss_one (ps_ost (pv 0) (pv 1))), ?_⟩
    have e0 : start ["self", "value"] [.ref a, v] = [some (.ref a), some v] := rfl
    rw [e0]
    simp only [cxK, wipe, tYes, List.map_cons, List.map_nil, rIxL, rSum, tSl, rSlL, tNoPart, tPart, exists_and_left, and_assoc, V.ref.injEq, HO.lst.injEq, HO.tup.injEq, tFor_eq, iRng1, iRng2, iList, iTup, tLc_eq, tLst, tTup, gSub, rSetL, gT, gL, gTup, gCons, gNil, atI_0, atI_1, atI_2, atI_3, List.length_cons, List.length_nil, Nat.zero_add, Nat.reduceAdd, Nat.reduceLeDiff, ixN_30, ixN_31, ixN_32, Int.reduceLT, Int.reduceLE, Int.reduceNeg, upd_same, reduceCtorEq, false_and, exists_false, or_false, false_or, tSeq, tNext, tIfS, tRet, tRetN, tDrop, tAsg, gName, tPar, tPar3, tAug, ipI, tVar, tC, tOp, tUn, tCB, tD, tDK, tCons, tNil, rI, rI0, rU, tB, tTest, tAnd, tOr, tNot, tAndV, tOrV, tNotV, tIf, rEq, rNe, scal_ii, scal_bb, scal_ss, rGcd_eq, tBits, List.set_cons_zero, List.set_cons_succ, List.getElem?_cons_zero, List.getElem?_cons_succ, Option.some.injEq, exists_eq_left', V.int.injEq, V.bl.injEq, V.str.injEq, true_and, and_true, decide_eq_true_eq, List.cons.injEq, exists_eq_left, Bool.false_eq_true, if_false, if_true, ite_true, ite_false, Bool.not_eq_true', decide_eq_false_iff_not, Bool.not_not, tOst]
    exact ⟨C, T, nv, .inl ⟨ha, k⟩⟩
theorem bdiInvalidWord {f : Addr} {fd : FuncData} (F : FunD K "__init__" "InvalidWord.__init__" (defArgs s_iInvalidWord) (defBody s_iInvalidWord) (defScope s_iInvalidWord) [V.non] [] f fd) : Binds K fd ["self", "value"] [] ∧ (∃ ds, Vals [V.non] ds ∧ Binds K fd ["self", "value"] ds) ∧ ∀ (s : Shared) (u v : Value), K.In s.heap → BindsTo s fd ⟨[u], [("value", v)]⟩ [("self", u), ("value", v)] :=
  init_binds F (fun _ _ _ _ _ _ _ _ _ _ => ⟨_, rfl, rfl⟩) (fun _ _ _ _ _ _ _ _ _ => ⟨_, rfl, rfl⟩) (fun _ _ _ _ _ _ _ _ _ _ => ⟨_, rfl, rfl⟩)

abbrev s_iInvalidList : Stmt := initOf (top 8)

theorem sciInvalidList : FnScope ["self", "value"] ["self", "value"] (defScope s_iInvalidList) := ⟨rfl, rfl, rfl, by decide +kernel, rfl, by decide +kernel, by decide +kernel⟩

theorem okiInvalidList {f C : Addr} {fd : FuncData} (F : FunD K "__init__" "InvalidList.__init__" (defArgs s_iInvalidList) (defBody s_iInvalidList) (defScope s_iInvalidList) [V.non] [] f fd) (T : OexC K C) (nv : PySem.W.findIn K (.ref C) "value" = some none) : FnOk P w K mg base CX0 1 f fd ["self", "value"] (spInit C) := by
  refine F.ok (N := ["self", "value"]) sciInvalidList (fun vs H Q E h => ?_) (fun cdv A outer s H vs Q E hr h => ?_)
  · obtain ⟨a, v, rfl, _⟩ := h
    rfl
  · obtain ⟨a, v, rfl, ha, k⟩ := h
    refine ⟨_, (pss_one (ps_ost (pv 0) (pv 1))), ?_⟩
    have e0 : start ["self", "value"] [.ref a, v] = [some (.ref a), some v] := rfl
    rw [e0]
    simp only [cxK, wipe, tYes, List.map_cons, List.map_nil, rIxL, rSum, tSl, rSlL, tNoPart, tPart, exists_and_left, and_assoc, V.ref.injEq, HO.lst.injEq, HO.tup.injEq, tFor_eq, iRng1, iRng2, iList, iTup, tLc_eq, tLst, tTup, gSub, rSetL, gT, gL, gTup, gCons, gNil, atI_0, atI_1, atI_2, atI_3, List.length_cons, List.length_nil, Nat.zero_add, Nat.reduceAdd, Nat.reduceLeDiff, ixN_30, ixN_31, ixN_32, Int.reduceLT, Int.reduceLE, Int.reduceNeg, upd_same, reduceCtorEq, false_and, exists_false, or_false, false_or, tSeq, tNext, tIfS, tRet, tRetN, tDrop, tAsg, gName, tPar, tPar3, tAug, ipI, tVar, tC, tOp, tUn, tCB, tD, tDK, tCons, tNil, rI, rI0, rU, tB, tTest, tAnd, tOr, tNot, tAndV, tOrV, tNotV, tIf, rEq, rNe, scal_ii, scal_bb, scal_ss, rGcd_eq, tBits, List.set_cons_zero, List.set_cons_succ, List.getElem?_cons_zero, List.getElem?_cons_succ, Option.some.injEq, exists_eq_left', V.int.injEq, V.bl.injEq, V.str.injEq, true_and, and_true, decide_eq_true_eq, List.cons.injEq, exists_eq_left, Bool.false_eq_true, if_false, if_true, ite_true, ite_false, Bool.not_eq_true', decide_eq_false_iff_not, Bool.not_not, tOst]
    exact ⟨C, T, nv, .inl ⟨ha, k⟩⟩
theorem bdiInvalidList {f : Addr} {fd : FuncData} (F : FunD K "__init__" "InvalidList.__init__" (defArgs s_iInvalidList) (defBody s_iInvalidList) (defScope s_iInvalidList) [V.non] [] f fd) : Binds K fd ["self", "value"] [] ∧ (∃ ds, Vals [V.non] ds ∧ Binds K fd ["self", "value"] ds) ∧ ∀ (s : Shared) (u v : Value), K.In s.heap → BindsTo s fd ⟨[u], [("value", v)]⟩ [("self", u), ("value", v)] :=
  init_binds F (fun _ _ _ _ _ _ _ _ _ _ => ⟨_, rfl, rfl⟩) (fun _ _ _ _ _ _ _ _ _ => ⟨_, rfl, rfl⟩) (fun _ _ _ _ _ _ _ _ _ _ => ⟨_, rfl, rfl⟩)

abbrev s_iInvalidPoint : Stmt := initOf (top 9)

theorem sciInvalidPoint : FnScope ["self", "value"] ["self", "value"] (defScope s_iInvalidPoint) := ⟨rfl, rfl, rfl, by decide +kernel, rfl, by decide +kernel, by decide +kernel⟩

theorem okiInvalidPoint {f C : Addr} {fd : FuncData} (F : FunD K "__init__" "InvalidPoint.__init__" (defArgs s_iInvalidPoint) (defBody s_iInvalidPoint) (defScope s_iInvalidPoint) [V.non] [] f fd) (T : OexC K C) (nv : PySem.W.findIn K (.ref C) "value" = some none) : FnOk P w K mg base CX0 1 f fd ["self", "value"] (spInit C) := by
  refine F.ok (N := ["self", "value"]) sciInvalidPoint (fun vs H Q E h => ?_) (fun cdv A outer s H vs Q E hr h => ?_)
  · obtain ⟨a, v, rfl, _⟩ := h
    rfl
  · obtain ⟨a, v, rfl, ha, k⟩ := h
    refine ⟨_, (pss_one (ps_ost (pv 0) (pv 1))), ?_⟩
    have e0 : start ["self", "value"] [.ref a, v] = [some (.ref a), some v] := rfl
    rw [e0]
    simp only [cxK, wipe, tYes, List.map_cons, List.map_nil, rIxL, rSum, tSl, rSlL, tNoPart, tPart, exists_and_left, and_assoc, V.ref.injEq, HO.lst.injEq, HO.tup.injEq, tFor_eq, iRng1, iRng2, iList, iTup, tLc_eq, tLst, tTup, gSub, rSetL, gT, gL, gTup, gCons, gNil, atI_0, atI_1, atI_2, atI_3, List.length_cons, List.length_nil, Nat.zero_add, Nat.reduceAdd, Nat.reduceLeDiff, ixN_30, ixN_31, ixN_32, Int.reduceLT, Int.reduceLE, Int.reduceNeg, upd_same, reduceCtorEq, false_and, exists_false, or_false, false_or, tSeq, tNext, tIfS, tRet, tRetN, tDrop, tAsg, gName, tPar, tPar3, tAug, ipI, tVar, tC, tOp, tUn, tCB, tD, tDK, tCons, tNil, rI, rI0, rU, tB, tTest, tAnd, tOr, tNot, tAndV, tOrV, tNotV, tIf, rEq, rNe, scal_ii, scal_bb, scal_ss, rGcd_eq, tBits, List.set_cons_zero, List.set_cons_succ, List.getElem?_cons_zero, List.getElem?_cons_succ, Option.some.injEq, exists_eq_left', V.int.injEq, V.bl.injEq, V.str.injEq, true_and, and_true, decide_eq_true_eq, List.cons.injEq, exists_eq_left, Bool.false_eq_true, if_false, if_true, ite_true, ite_false, Bool.not_eq_true', decide_eq_false_iff_not, Bool.not_not, tOst]
    exact ⟨C, T, nv, .inl ⟨ha, k⟩⟩
theorem bdiInvalidPoint {f : Addr} {fd : FuncData} (F : FunD K "__init__" "InvalidPoint.__init__" (defArgs s_iInvalidPoint) (defBody s_iInvalidPoint) (defScope s_iInvalidPoint) [V.non] [] f fd) : Binds K fd ["self", "value"] [] ∧ (∃ ds, Vals [V.non] ds ∧ Binds K fd ["self", "value"] ds) ∧ ∀ (s : Shared) (u v : Value), K.In s.heap → BindsTo s fd ⟨[u], [("value", v)]⟩ [("self", u), ("value", v)] :=
  init_binds F (fun _ _ _ _ _ _ _ _ _ _ => ⟨_, rfl, rfl⟩) (fun _ _ _ _ _ _ _ _ _ => ⟨_, rfl, rfl⟩) (fun _ _ _ _ _ _ _ _ _ _ => ⟨_, rfl, rfl⟩)

abbrev s_iInvalidTable : Stmt := initOf (top 10)

theorem sciInvalidTable : FnScope ["self", "value"] ["self", "value"] (defScope s_iInvalidTable) := ⟨rfl, rfl, rfl, by decide +kernel, rfl, by decide +kernel, by decide +kernel⟩

theorem okiInvalidTable {f C : Addr} {fd : FuncData} (F : FunD K "__init__" "InvalidTable.__init__" (defArgs s_iInvalidTable) (defBody s_iInvalidTable) (defScope s_iInvalidTable) [V.non] [] f fd) (T : OexC K C) (nv : PySem.W.findIn K (.ref C) "value" = some none) : FnOk P w K mg base CX0 1 f fd ["self", "value"] (spInit C) := by
  refine F.ok (N := ["self", "value"]) sciInvalidTable (fun vs H Q E h => ?_) (fun cdv A outer s H vs Q E hr h => ?_)
  · obtain ⟨a, v, rfl, _⟩ := h
    rfl
  · obtain ⟨a, v, rfl, ha, k⟩ := h
    refine ⟨_, (pss_one (ps_ost (pv 0) (pv 1))), ?_⟩
    have e0 : start ["self", "value"] [.ref a, v] = [some (.ref a), some v] := rfl
    rw [e0]
    simp only [cxK, wipe, tYes, List.map_cons, List.map_nil, rIxL, rSum, tSl, rSlL, tNoPart, tPart, exists_and_left, and_assoc, V.ref.injEq, HO.lst.injEq, HO.tup.injEq, tFor_eq, iRng1, iRng2, iList, iTup, tLc_eq, tLst, tTup, gSub, rSetL, gT, gL, gTup, gCons, gNil, atI_0, atI_1, atI_2, atI_3, List.length_cons, List.length_nil, Nat.zero_add, Nat.reduceAdd, Nat.reduceLeDiff, ixN_30, ixN_31, ixN_32, Int.reduceLT, Int.reduceLE, Int.reduceNeg, upd_same, reduceCtorEq, false_and, exists_false, or_false, false_or, tSeq, tNext, tIfS, tRet, tRetN, tDrop, tAsg, gName, tPar, tPar3, tAug, ipI, tVar, tC, tOp, tUn, tCB, tD, tDK, tCons, tNil, rI, rI0, rU, tB, tTest, tAnd, tOr, tNot, tAndV, tOrV, tNotV, tIf, rEq, rNe, scal_ii, scal_bb, scal_ss, rGcd_eq, tBits, List.set_cons_zero, List.set_cons_succ, List.getElem?_cons_zero, List.getElem?_cons_succ, Option.some.injEq, exists_eq_left', V.int.injEq, V.bl.injEq, V.str.injEq, true_and, and_true, decide_eq_true_eq, List.cons.injEq, exists_eq_left, Bool.false_eq_true, if_false, if_true, ite_true, ite_false, Bool.not_eq_true', decide_eq_false_iff_not, Bool.not_not, tOst]
    exact ⟨C, T, nv, .inl ⟨ha, k⟩⟩
theorem bdiInvalidTable {f : Addr} {fd : FuncData} (F : FunD K "__init__" "InvalidTable.__init__" (defArgs s_iInvalidTable) (defBody s_iInvalidTable) (defScope s_iInvalidTable) [V.non] [] f fd) : Binds K fd ["self", "value"] [] ∧ (∃ ds, Vals [V.non] ds ∧ Binds K fd ["self", "value"] ds) ∧ ∀ (s : Shared) (u v : Value), K.In s.heap → BindsTo s fd ⟨[u], [("value", v)]⟩ [("self", u), ("value", v)] :=
  init_binds F (fun _ _ _ _ _ _ _ _ _ _ => ⟨_, rfl, rfl⟩) (fun _ _ _ _ _ _ _ _ _ => ⟨_, rfl, rfl⟩) (fun _ _ _ _ _ _ _ _ _ _ => ⟨_, rfl, rfl⟩)

abbrev s_iInvalidFloor : Stmt := initOf (top 11)

theorem sciInvalidFloor : FnScope ["self", "value"] ["self", "value"] (defScope s_iInvalidFloor) := ⟨rfl, rfl, rfl, by decide +kernel, rfl, by decide +kernel, by decide +kernel⟩

theorem okiInvalidFloor {f C : Addr} {fd : FuncData} (F : FunD K "__init__" "InvalidFloor.__init__" (defArgs s_iInvalidFloor) (defBody s_iInvalidFloor) (defScope s_iInvalidFloor) [V.non] [] f fd) (T : OexC K C) (nv : PySem.W.findIn K (.ref C) "value" = some none) : FnOk P w K mg base CX0 1 f fd ["self", "value"] (spInit C) := by
  refine F.ok (N := ["self", "value"]) sciInvalidFloor (fun vs H Q E h => ?_) (fun cdv A outer s H vs Q E hr h => ?_)
  · obtain ⟨a, v, rfl, _⟩ := h
    rfl
  · obtain ⟨a, v, rfl, ha, k⟩ := h
    refine ⟨_, (pss_one (ps_ost (pv 0) (pv 1))), ?_⟩
    have e0 : start ["self", "value"] [.ref a, v] = [some (.ref a), some v] := rfl
    rw [e0]
    simp only [cxK, wipe, tYes, List.map_cons, List.map_nil, rIxL, rSum, tSl, rSlL, tNoPart, tPart, exists_and_left, and_assoc, V.ref.injEq, HO.lst.injEq, HO.tup.injEq, tFor_eq, iRng1, iRng2, iList, iTup, tLc_eq, tLst, tTup, gSub, rSetL, gT, gL, gTup, gCons, gNil, atI_0, atI_1, atI_2, atI_3, List.length_cons, List.length_nil, Nat.zero_add, Nat.reduceAdd, Nat.reduceLeDiff, ixN_30, ixN_31, ixN_32, Int.reduceLT, Int.reduceLE, Int.reduceNeg, upd_same, reduceCtorEq, false_and, exists_false, or_false, false_or, tSeq, tNext, tIfS, tRet, tRetN, tDrop, tAsg, gName, tPar, tPar3, tAug, ipI, tVar, tC, tOp, tUn, tCB, tD, tDK, tCons, tNil, rI, rI0, rU, tB, tTest, tAnd, tOr, tNot, tAndV, tOrV, tNotV, tIf, rEq, rNe, scal_ii, scal_bb, scal_ss, rGcd_eq, tBits, List.set_cons_zero, List.set_cons_succ, List.getElem?_cons_zero, List.getElem?_cons_succ, Option.some.injEq, exists_eq_left', V.int.injEq, V.bl.injEq, V.str.injEq, true_and, and_true, decide_eq_true_eq, List.cons.injEq, exists_eq_left, Bool.false_eq_true, if_false, if_true, ite_true, ite_false, Bool.not_eq_true', decide_eq_false_iff_not, Bool.not_not, tOst]
    exact ⟨C, T, nv, .inl ⟨ha, k⟩⟩
theorem bdiInvalidFloor {f : Addr} {fd : FuncData} (F : FunD K "__init__" "InvalidFloor.__init__" (defArgs s_iInvalidFloor) (defBody s_iInvalidFloor) (defScope s_iInvalidFloor) [V.non] [] f fd) : Binds K fd ["self", "value"] [] ∧ (∃ ds, Vals [V.non] ds ∧ Binds K fd ["self", "value"] ds) ∧ ∀ (s : Shared) (u v : Value), K.In s.heap → BindsTo s fd ⟨[u], [("value", v)]⟩ [("self", u), ("value", v)] :=
  init_binds F (fun _ _ _ _ _ _ _ _ _ _ => ⟨_, rfl, rfl⟩) (fun _ _ _ _ _ _ _ _ _ => ⟨_, rfl, rfl⟩) (fun _ _ _ _ _ _ _ _ _ _ => ⟨_, rfl, rfl⟩)

abbrev s_iUnlike : Stmt := initOf (top 12)

theorem sciUnlike : FnScope ["self", "value"] ["self", "value"] (defScope s_iUnlike) := ⟨rfl, rfl, rfl, by decide +kernel, rfl, by decide +kernel, by decide +kernel⟩

theorem okiUnlike {f C : Addr} {fd : FuncData} (F : FunD K "__init__" "Unlike.__init__" (defArgs s_iUnlike) (defBody s_iUnlike) (defScope s_iUnlike) [V.non] [] f fd) (T : OexC K C) (nv : PySem.W.findIn K (.ref C) "value" = some none) : FnOk P w K mg base CX0 1 f fd ["self", "value"] (spInit C) := by
  refine F.ok (N := ["self", "value"]) sciUnlike (fun vs H Q E h => ?_) (fun cdv A outer s H vs Q E hr h => ?_)
  · obtain ⟨a, v, rfl, _⟩ := h
    rfl
  · obtain ⟨a, v, rfl, ha, k⟩ := h
    refine ⟨_, (pss_one (ps_ost (pv 0) (pv 1))), ?_⟩
    have e0 : start ["self", "value"] [.ref a, v] = [some (.ref a), some v] := rfl
    rw [e0]
    simp only [cxK, wipe, tYes, List.map_cons, List.map_nil, rIxL, rSum, tSl, rSlL, tNoPart, tPart, exists_and_left, and_assoc, V.ref.injEq, HO.lst.injEq, HO.tup.injEq, tFor_eq, iRng1, iRng2, iList, iTup, tLc_eq, tLst, tTup, gSub, rSetL, gT, gL, gTup, gCons, gNil, atI_0, atI_1, atI_2, atI_3, List.length_cons, List.length_nil, Nat.zero_add, Nat.reduceAdd, Nat.reduceLeDiff, ixN_30, ixN_31, ixN_32, Int.reduceLT, Int.reduceLE, Int.reduceNeg, upd_same, reduceCtorEq, false_and, exists_false, or_false, false_or, tSeq, tNext, tIfS, tRet, tRetN, tDrop, tAsg, gName, tPar, tPar3, tAug, ipI, tVar, tC, tOp, tUn, tCB, tD, tDK, tCons, tNil, rI, rI0, rU, tB, tTest, tAnd, tOr, tNot, tAndV, tOrV, tNotV, tIf, rEq, rNe, scal_ii, scal_bb, scal_ss, rGcd_eq, tBits, List.set_cons_zero, List.set_cons_succ, List.getElem?_cons_zero, List.getElem?_cons_succ, Option.some.injEq, exists_eq_left', V.int.injEq, V.bl.injEq, V.str.injEq, true_and, and_true, decide_eq_true_eq, List.cons.injEq, exists_eq_left, Bool.false_eq_true, if_false, if_true, ite_true, ite_false, Bool.not_eq_true', decide_eq_false_iff_not, Bool.not_not, tOst]
    exact ⟨C, T, nv, .inl ⟨ha, k⟩⟩
theorem bdiUnlike {f : Addr} {fd : FuncData} (F : FunD K "__init__" "Unlike.__init__" (defArgs s_iUnlike) (defBody s_iUnlike) (defScope s_iUnlike) [V.non] [] f fd) : Binds K fd ["self", "value"] [] ∧ (∃ ds, Vals [V.non] ds ∧ Binds K fd ["self", "value"] ds) ∧ ∀ (s : Shared) (u v : Value), K.In s.heap → BindsTo s fd ⟨[u], [("value", v)]⟩ [("self", u), ("value", v)] :=
  init_binds F (fun _ _ _ _ _ _ _ _ _ _ => ⟨_, rfl, rfl⟩) (fun _ _ _ _ _ _ _ _ _ => ⟨_, rfl, rfl⟩) (fun _ _ _ _ _ _ _ _ _ _ => ⟨_, rfl, rfl⟩)

abbrev s_iTooMany : Stmt := initOf (top 13)

theorem sciTooMany : FnScope ["self", "value"] ["self", "value"] (defScope s_iTooMany) := ⟨rfl, rfl, rfl, by decide +kernel, rfl, by decide +kernel, by decide +kernel⟩

theorem okiTooMany {f C : Addr} {fd : FuncData} (F : FunD K "__init__" "TooMany.__init__" (defArgs s_iTooMany) (defBody s_iTooMany) (defScope s_iTooMany) [V.non] [] f fd) (T : OexC K C) (nv : PySem.W.findIn K (.ref C) "value" = some none) : FnOk P w K mg base CX0 1 f fd ["self", "value"] (spInit C) := by
  refine F.ok (N := ["self", "value"]) sciTooMany (fun vs H Q E h => ?_) (fun cdv A outer s H vs Q E hr h => ?_)
  · obtain ⟨a, v, rfl, _⟩ := h
    rfl
  · obtain ⟨a, v, rfl, ha, k⟩ := h
    refine ⟨_, (pss_one (ps_ost (pv 0) (pv 1))), ?_⟩
    have e0 : start ["self", "value"] [.ref a, v] = [some (.ref a), some v] := rfl
    rw [e0]
    simp only [cxK, wipe, tYes, List.map_cons, List.map_nil, rIxL, rSum, tSl, rSlL, tNoPart, tPart, exists_and_left, and_assoc, V.ref.injEq, HO.lst.injEq, HO.tup.injEq, tFor_eq, iRng1, iRng2, iList, iTup, tLc_eq, tLst, tTup, gSub, rSetL, gT, gL, gTup, gCons, gNil, atI_0, atI_1, atI_2, atI_3, List.length_cons, List.length_nil, Nat.zero_add, Nat.reduceAdd, Nat.reduceLeDiff, ixN_30, ixN_31, ixN_32, Int.reduceLT, Int.reduceLE, Int.reduceNeg, upd_same, reduceCtorEq, false_and, exists_false, or_false, false_or, tSeq, tNext, tIfS, tRet, tRetN, tDrop, tAsg, gName, tPar, tPar3, tAug, ipI, tVar, tC, tOp, tUn, tCB, tD, tDK, tCons, tNil, rI, rI0, rU, tB, tTest, tAnd, tOr, tNot, tAndV, tOrV, tNotV, tIf, rEq, rNe, scal_ii, scal_bb, scal_ss, rGcd_eq, tBits, List.set_cons_zero, List.set_cons_succ, List.getElem?_cons_zero, List.getElem?_cons_succ, Option.some.injEq, exists_eq_left', V.int.injEq, V.bl.injEq, V.str.injEq, true_and, and_true, decide_eq_true_eq, List.cons.injEq, exists_eq_left, Bool.false_eq_true, if_false, if_true, ite_true, ite_false, Bool.not_eq_true', decide_eq_false_iff_not, Bool.not_not, tOst]
    exact ⟨C, T, nv, .inl ⟨ha, k⟩⟩
theorem bdiTooMany {f : Addr} {fd : FuncData} (F : FunD K "__init__" "TooMany.__init__" (defArgs s_iTooMany) (defBody s_iTooMany) (defScope s_iTooMany) [V.non] [] f fd) : Binds K fd ["self", "value"] [] ∧ (∃ ds, Vals [V.non] ds ∧ Binds K fd ["self", "value"] ds) ∧ ∀ (s : Shared) (u v : Value), K.In s.heap → BindsTo s fd ⟨[u], [("value", v)]⟩ [("self", u), ("value", v)] :=
  init_binds F (fun _ _ _ _ _ _ _ _ _ _ => ⟨_, rfl, rfl⟩) (fun _ _ _ _ _ _ _ _ _ => ⟨_, rfl, rfl⟩) (fun _ _ _ _ _ _ _ _ _ _ => ⟨_, rfl, rfl⟩)

theorem okLawFirst {f : Addr} {fd : FuncData} (F : Fun K "_law_first" "_law_first" s_LawFirst f fd) (T : Txt K mg) {C_InvalidMeasure f_InvalidMeasure : Addr} {fd_InvalidMeasure : FuncData} (E_InvalidMeasure : ErrN P w K mg base "InvalidMeasure" C_InvalidMeasure f_InvalidMeasure fd_InvalidMeasure) {C_InvalidNumber f_InvalidNumber : Addr} {fd_InvalidNumber : FuncData} (E_InvalidNumber : ErrN P w K mg base "InvalidNumber" C_InvalidNumber f_InvalidNumber fd_InvalidNumber) {C_InvalidRoot f_InvalidRoot : Addr} {fd_InvalidRoot : FuncData} (E_InvalidRoot : ErrN P w K mg base "InvalidRoot" C_InvalidRoot f_InvalidRoot fd_InvalidRoot) {C_InvalidCutting f_InvalidCutting : Addr} {fd_InvalidCutting : FuncData} (E_InvalidCutting : ErrN P w K mg base "InvalidCutting" C_InvalidCutting f_InvalidCutting fd_InvalidCutting) {C_InvalidDeed f_InvalidDeed : Addr} {fd_InvalidDeed : FuncData} (E_InvalidDeed : ErrN P w K mg base "InvalidDeed" C_InvalidDeed f_InvalidDeed fd_InvalidDeed) {C_InvalidWord f_InvalidWord : Addr} {fd_InvalidWord : FuncData} (E_InvalidWord : ErrN P w K mg base "InvalidWord" C_InvalidWord f_InvalidWord fd_InvalidWord) : FnOk P w K mg base CX0 3 f fd ["_law_which", "_law_value"] (spMade [C_InvalidMeasure, C_InvalidNumber, C_InvalidRoot, C_InvalidCutting, C_InvalidDeed, C_InvalidWord] 0 6) := by
  refine F.ok scLawFirst (fun vs H Q E h => ?_) (fun cdv A outer s H vs Q E hr h => ?_)
  · obtain ⟨i, v, C, rfl, _⟩ := h
    rfl
  · obtain ⟨i, v, C, rfl, h1, h2, hC, kk⟩ := h
    refine ⟨_, (pss_cons (ps_if (pt_cmpR op_eq (pv 0) pe_int (nomark _)) (pss_one (ps_ret (pe_new1 E_InvalidMeasure hr (pa_cons (pv 1) pa_nil)))) pss_nil)
        (pss_cons (ps_if (pt_cmpR op_eq (pv 0) pe_int (nomark _)) (pss_one (ps_ret (pe_new1 E_InvalidNumber hr (pa_cons (pv 1) pa_nil)))) pss_nil)
        (pss_cons (ps_if (pt_cmpR op_eq (pv 0) pe_int (nomark _)) (pss_one (ps_ret (pe_new1 E_InvalidRoot hr (pa_cons (pv 1) pa_nil)))) pss_nil)
        (pss_cons (ps_if (pt_cmpR op_eq (pv 0) pe_int (nomark _)) (pss_one (ps_ret (pe_new1 E_InvalidCutting hr (pa_cons (pv 1) pa_nil)))) pss_nil)
        (pss_cons (ps_if (pt_cmpR op_eq (pv 0) pe_int (nomark _)) (pss_one (ps_ret (pe_new1 E_InvalidDeed hr (pa_cons (pv 1) pa_nil)))) pss_nil)
        (pss_cons (ps_if (pt_cmpR op_eq (pv 0) pe_int (nomark _)) (pss_one (ps_ret (pe_new1 E_InvalidWord hr (pa_cons (pv 1) pa_nil)))) pss_nil)
        (pss_one (ps_ret pe_non)))))))), ?_⟩
    have e0 : start N_LawFirst [.int i, v] = [some (.int i), some v] := rfl
    rw [e0]
    simp only [cxK, wipe, tYes, List.map_cons, List.map_nil, rIxL, rSum, tSl, rSlL, tNoPart, tPart, exists_and_left, and_assoc, V.ref.injEq, HO.lst.injEq, HO.tup.injEq, tFor_eq, iRng1, iRng2, iList, iTup, tLc_eq, tLst, tTup, gSub, rSetL, gT, gL, gTup, gCons, gNil, atI_0, atI_1, atI_2, atI_3, List.length_cons, List.length_nil, Nat.zero_add, Nat.reduceAdd, Nat.reduceLeDiff, ixN_30, ixN_31, ixN_32, Int.reduceLT, Int.reduceLE, Int.reduceNeg, upd_same, reduceCtorEq, false_and, exists_false, or_false, false_or, tSeq, tNext, tIfS, tRet, tRetN, tDrop, tAsg, gName, tPar, tPar3, tAug, ipI, tVar, tC, tOp, tUn, tCB, tD, tDK, tCons, tNil, rI, rI0, rU, tB, tTest, tAnd, tOr, tNot, tAndV, tOrV, tNotV, tIf, rEq, rNe, scal_ii, scal_bb, scal_ss, rGcd_eq, tBits, List.set_cons_zero, List.set_cons_succ, List.getElem?_cons_zero, List.getElem?_cons_succ, Option.some.injEq, exists_eq_left', V.int.injEq, V.bl.injEq, V.str.injEq, true_and, and_true, decide_eq_true_eq, List.cons.injEq, exists_eq_left, Bool.false_eq_true, if_false, if_true, ite_true, ite_false, Bool.not_eq_true', decide_eq_false_iff_not, Bool.not_not, tNew]
    have hi : i = 0 ∨ i = 1 ∨ i = 2 ∨ i = 3 ∨ i = 4 ∨ i = 5 := by omega
    rcases hi with rfl | rfl | rfl | rfl | rfl | rfl
    all_goals
      cases hC
      exact ⟨v, rfl, kk⟩

theorem okLawSecond {f : Addr} {fd : FuncData} (F : Fun K "_law_second" "_law_second" s_LawSecond f fd) (T : Txt K mg) {C_InvalidList f_InvalidList : Addr} {fd_InvalidList : FuncData} (E_InvalidList : ErrN P w K mg base "InvalidList" C_InvalidList f_InvalidList fd_InvalidList) {C_InvalidPoint f_InvalidPoint : Addr} {fd_InvalidPoint : FuncData} (E_InvalidPoint : ErrN P w K mg base "InvalidPoint" C_InvalidPoint f_InvalidPoint fd_InvalidPoint) {C_InvalidTable f_InvalidTable : Addr} {fd_InvalidTable : FuncData} (E_InvalidTable : ErrN P w K mg base "InvalidTable" C_InvalidTable f_InvalidTable fd_InvalidTable) {C_InvalidFloor f_InvalidFloor : Addr} {fd_InvalidFloor : FuncData} (E_InvalidFloor : ErrN P w K mg base "InvalidFloor" C_InvalidFloor f_InvalidFloor fd_InvalidFloor) {C_Unlike f_Unlike : Addr} {fd_Unlike : FuncData} (E_Unlike : ErrN P w K mg base "Unlike" C_Unlike f_Unlike fd_Unlike) {C_TooMany f_TooMany : Addr} {fd_TooMany : FuncData} (E_TooMany : ErrN P w K mg base "TooMany" C_TooMany f_TooMany fd_TooMany) : FnOk P w K mg base CX0 3 f fd ["_law_which", "_law_value"] (spMade [C_InvalidList, C_InvalidPoint, C_InvalidTable, C_InvalidFloor, C_Unlike, C_TooMany] 6 12) := by
  refine F.ok scLawSecond (fun vs H Q E h => ?_) (fun cdv A outer s H vs Q E hr h => ?_)
  · obtain ⟨i, v, C, rfl, _⟩ := h
    rfl
  · obtain ⟨i, v, C, rfl, h1, h2, hC, kk⟩ := h
    refine ⟨_, (pss_cons (ps_if (pt_cmpR op_eq (pv 0) pe_int (nomark _)) (pss_one (ps_ret (pe_new1 E_InvalidList hr (pa_cons (pv 1) pa_nil)))) pss_nil)
        (pss_cons (ps_if (pt_cmpR op_eq (pv 0) pe_int (nomark _)) (pss_one (ps_ret (pe_new1 E_InvalidPoint hr (pa_cons (pv 1) pa_nil)))) pss_nil)
        (pss_cons (ps_if (pt_cmpR op_eq (pv 0) pe_int (nomark _)) (pss_one (ps_ret (pe_new1 E_InvalidTable hr (pa_cons (pv 1) pa_nil)))) pss_nil)
        (pss_cons (ps_if (pt_cmpR op_eq (pv 0) pe_int (nomark _)) (pss_one (ps_ret (pe_new1 E_InvalidFloor hr (pa_cons (pv 1) pa_nil)))) pss_nil)
        (pss_cons (ps_if (pt_cmpR op_eq (pv 0) pe_int (nomark _)) (pss_one (ps_ret (pe_new1 E_Unlike hr (pa_cons (pv 1) pa_nil)))) pss_nil)
        (pss_cons (ps_if (pt_cmpR op_eq (pv 0) pe_int (nomark _)) (pss_one (ps_ret (pe_new1 E_TooMany hr (pa_cons (pv 1) pa_nil)))) pss_nil)
        (pss_one (ps_ret pe_non)))))))), ?_⟩
    have e0 : start N_LawSecond [.int i, v] = [some (.int i), some v] := rfl
    rw [e0]
    simp only [cxK, wipe, tYes, List.map_cons, List.map_nil, rIxL, rSum, tSl, rSlL, tNoPart, tPart, exists_and_left, and_assoc, V.ref.injEq, HO.lst.injEq, HO.tup.injEq, tFor_eq, iRng1, iRng2, iList, iTup, tLc_eq, tLst, tTup, gSub, rSetL, gT, gL, gTup, gCons, gNil, atI_0, atI_1, atI_2, atI_3, List.length_cons, List.length_nil, Nat.zero_add, Nat.reduceAdd, Nat.reduceLeDiff, ixN_30, ixN_31, ixN_32, Int.reduceLT, Int.reduceLE, Int.reduceNeg, upd_same, reduceCtorEq, false_and, exists_false, or_false, false_or, tSeq, tNext, tIfS, tRet, tRetN, tDrop, tAsg, gName, tPar, tPar3, tAug, ipI, tVar, tC, tOp, tUn, tCB, tD, tDK, tCons, tNil, rI, rI0, rU, tB, tTest, tAnd, tOr, tNot, tAndV, tOrV, tNotV, tIf, rEq, rNe, scal_ii, scal_bb, scal_ss, rGcd_eq, tBits, List.set_cons_zero, List.set_cons_succ, List.getElem?_cons_zero, List.getElem?_cons_succ, Option.some.injEq, exists_eq_left', V.int.injEq, V.bl.injEq, V.str.injEq, true_and, and_true, decide_eq_true_eq, List.cons.injEq, exists_eq_left, Bool.false_eq_true, if_false, if_true, ite_true, ite_false, Bool.not_eq_true', decide_eq_false_iff_not, Bool.not_not, tNew]
    have hi : i = 6 ∨ i = 7 ∨ i = 8 ∨ i = 9 ∨ i = 10 ∨ i = 11 := by omega
    rcases hi with rfl | rfl | rfl | rfl | rfl | rfl
    all_goals
      cases hC
      exact ⟨v, rfl, kk⟩

theorem okLawMade {f : Addr} {fd : FuncData} (F : Fun K "_law_made" "_law_made" s_LawMade f fd) (T : Txt K mg) {C_InvalidMeasure f_InvalidMeasure : Addr} {fd_InvalidMeasure : FuncData} (E_InvalidMeasure : ErrN P w K mg base "InvalidMeasure" C_InvalidMeasure f_InvalidMeasure fd_InvalidMeasure) {C_InvalidNumber f_InvalidNumber : Addr} {fd_InvalidNumber : FuncData} (E_InvalidNumber : ErrN P w K mg base "InvalidNumber" C_InvalidNumber f_InvalidNumber fd_InvalidNumber) {C_InvalidRoot f_InvalidRoot : Addr} {fd_InvalidRoot : FuncData} (E_InvalidRoot : ErrN P w K mg base "InvalidRoot" C_InvalidRoot f_InvalidRoot fd_InvalidRoot) {C_InvalidCutting f_InvalidCutting : Addr} {fd_InvalidCutting : FuncData} (E_InvalidCutting : ErrN P w K mg base "InvalidCutting" C_InvalidCutting f_InvalidCutting fd_InvalidCutting) {C_InvalidDeed f_InvalidDeed : Addr} {fd_InvalidDeed : FuncData} (E_InvalidDeed : ErrN P w K mg base "InvalidDeed" C_InvalidDeed f_InvalidDeed fd_InvalidDeed) {C_InvalidWord f_InvalidWord : Addr} {fd_InvalidWord : FuncData} (E_InvalidWord : ErrN P w K mg base "InvalidWord" C_InvalidWord f_InvalidWord fd_InvalidWord) {C_InvalidList f_InvalidList : Addr} {fd_InvalidList : FuncData} (E_InvalidList : ErrN P w K mg base "InvalidList" C_InvalidList f_InvalidList fd_InvalidList) {C_InvalidPoint f_InvalidPoint : Addr} {fd_InvalidPoint : FuncData} (E_InvalidPoint : ErrN P w K mg base "InvalidPoint" C_InvalidPoint f_InvalidPoint fd_InvalidPoint) {C_InvalidTable f_InvalidTable : Addr} {fd_InvalidTable : FuncData} (E_InvalidTable : ErrN P w K mg base "InvalidTable" C_InvalidTable f_InvalidTable fd_InvalidTable) {C_InvalidFloor f_InvalidFloor : Addr} {fd_InvalidFloor : FuncData} (E_InvalidFloor : ErrN P w K mg base "InvalidFloor" C_InvalidFloor f_InvalidFloor fd_InvalidFloor) {C_Unlike f_Unlike : Addr} {fd_Unlike : FuncData} (E_Unlike : ErrN P w K mg base "Unlike" C_Unlike f_Unlike fd_Unlike) {C_TooMany f_TooMany : Addr} {fd_TooMany : FuncData} (E_TooMany : ErrN P w K mg base "TooMany" C_TooMany f_TooMany fd_TooMany) {fLawFirst : Addr} {fdLawFirst : FuncData} (D_LawFirst : DefAt P w K mg base 3 "_law_first" fLawFirst fdLawFirst ["_law_which", "_law_value"] (spMade [C_InvalidMeasure, C_InvalidNumber, C_InvalidRoot, C_InvalidCutting, C_InvalidDeed, C_InvalidWord] 0 6)) {fLawSecond : Addr} {fdLawSecond : FuncData} (D_LawSecond : DefAt P w K mg base 3 "_law_second" fLawSecond fdLawSecond ["_law_which", "_law_value"] (spMade [C_InvalidList, C_InvalidPoint, C_InvalidTable, C_InvalidFloor, C_Unlike, C_TooMany] 6 12)) : FnOk P w K mg base CX0 4 f fd ["_law_which", "_law_value"] (spMade [C_InvalidMeasure, C_InvalidNumber, C_InvalidRoot, C_InvalidCutting, C_InvalidDeed, C_InvalidWord, C_InvalidList, C_InvalidPoint, C_InvalidTable, C_InvalidFloor, C_Unlike, C_TooMany] 0 12) := by
  refine F.ok scLawMade (fun vs H Q E h => ?_) (fun cdv A outer s H vs Q E hr h => ?_)
  · obtain ⟨i, v, C, rfl, _⟩ := h
    rfl
  · obtain ⟨i, v, C, rfl, h1, h2, hC, kk⟩ := h
    refine ⟨_, (pss_one (ps_ret (pe_ifExp (pt_cmpR op_lt (pv 0) pe_int (nomark _)) (pe_d D_LawFirst hr (pa_cons (pv 0) (pa_cons (pv 1) pa_nil))) (pe_d D_LawSecond hr (pa_cons (pv 0) (pa_cons (pv 1) pa_nil)))))), ?_⟩
    have e0 : start N_LawMade [.int i, v] = [some (.int i), some v] := rfl
    rw [e0]
    simp only [cxK, wipe, tYes, List.map_cons, List.map_nil, rIxL, rSum, tSl, rSlL, tNoPart, tPart, exists_and_left, and_assoc, V.ref.injEq, HO.lst.injEq, HO.tup.injEq, tFor_eq, iRng1, iRng2, iList, iTup, tLc_eq, tLst, tTup, gSub, rSetL, gT, gL, gTup, gCons, gNil, atI_0, atI_1, atI_2, atI_3, List.length_cons, List.length_nil, Nat.zero_add, Nat.reduceAdd, Nat.reduceLeDiff, ixN_30, ixN_31, ixN_32, Int.reduceLT, Int.reduceLE, Int.reduceNeg, upd_same, reduceCtorEq, false_and, exists_false, or_false, false_or, tSeq, tNext, tIfS, tRet, tRetN, tDrop, tAsg, gName, tPar, tPar3, tAug, ipI, tVar, tC, tOp, tUn, tCB, tD, tDK, tCons, tNil, rI, rI0, rU, tB, tTest, tAnd, tOr, tNot, tAndV, tOrV, tNotV, tIf, rEq, rNe, scal_ii, scal_bb, scal_ss, rGcd_eq, tBits, List.set_cons_zero, List.set_cons_succ, List.getElem?_cons_zero, List.getElem?_cons_succ, Option.some.injEq, exists_eq_left', V.int.injEq, V.bl.injEq, V.str.injEq, true_and, and_true, decide_eq_true_eq, List.cons.injEq, exists_eq_left, Bool.false_eq_true, if_false, if_true, ite_true, ite_false, Bool.not_eq_true', decide_eq_false_iff_not, Bool.not_not]
    refine ite2 (fun hl => ?_) (fun hl => ?_)
    · refine ⟨i, v, C, rfl, h1, by omega, ?_, kk⟩
      rcases (show i = 0 ∨ i = 1 ∨ i = 2 ∨ i = 3 ∨ i = 4 ∨ i = 5 by omega) with rfl | rfl | rfl | rfl | rfl | rfl <;> exact hC
    · refine ⟨i, v, C, rfl, by omega, h2, ?_, kk⟩
      rcases (show i = 6 ∨ i = 7 ∨ i = 8 ∨ i = 9 ∨ i = 10 ∨ i = 11 by omega) with rfl | rfl | rfl | rfl | rfl | rfl <;> exact hC

theorem okLawFlags {f : Addr} {fd : FuncData} (F : Fun K "_law_flags" "_law_flags" s_LawFlags f fd) (T : Txt K mg) {C_InvalidMeasure f_InvalidMeasure : Addr} {fd_InvalidMeasure : FuncData} (E_InvalidMeasure : ErrN P w K mg base "InvalidMeasure" C_InvalidMeasure f_InvalidMeasure fd_InvalidMeasure) {C_InvalidNumber f_InvalidNumber : Addr} {fd_InvalidNumber : FuncData} (E_InvalidNumber : ErrN P w K mg base "InvalidNumber" C_InvalidNumber f_InvalidNumber fd_InvalidNumber) {C_InvalidRoot f_InvalidRoot : Addr} {fd_InvalidRoot : FuncData} (E_InvalidRoot : ErrN P w K mg base "InvalidRoot" C_InvalidRoot f_InvalidRoot fd_InvalidRoot) {C_InvalidCutting f_InvalidCutting : Addr} {fd_InvalidCutting : FuncData} (E_InvalidCutting : ErrN P w K mg base "InvalidCutting" C_InvalidCutting f_InvalidCutting fd_InvalidCutting) {C_InvalidDeed f_InvalidDeed : Addr} {fd_InvalidDeed : FuncData} (E_InvalidDeed : ErrN P w K mg base "InvalidDeed" C_InvalidDeed f_InvalidDeed fd_InvalidDeed) {C_InvalidWord f_InvalidWord : Addr} {fd_InvalidWord : FuncData} (E_InvalidWord : ErrN P w K mg base "InvalidWord" C_InvalidWord f_InvalidWord fd_InvalidWord) {C_InvalidList f_InvalidList : Addr} {fd_InvalidList : FuncData} (E_InvalidList : ErrN P w K mg base "InvalidList" C_InvalidList f_InvalidList fd_InvalidList) {C_InvalidPoint f_InvalidPoint : Addr} {fd_InvalidPoint : FuncData} (E_InvalidPoint : ErrN P w K mg base "InvalidPoint" C_InvalidPoint f_InvalidPoint fd_InvalidPoint) {C_InvalidTable f_InvalidTable : Addr} {fd_InvalidTable : FuncData} (E_InvalidTable : ErrN P w K mg base "InvalidTable" C_InvalidTable f_InvalidTable fd_InvalidTable) {C_InvalidFloor f_InvalidFloor : Addr} {fd_InvalidFloor : FuncData} (E_InvalidFloor : ErrN P w K mg base "InvalidFloor" C_InvalidFloor f_InvalidFloor fd_InvalidFloor) {C_Unlike f_Unlike : Addr} {fd_Unlike : FuncData} (E_Unlike : ErrN P w K mg base "Unlike" C_Unlike f_Unlike fd_Unlike) {C_TooMany f_TooMany : Addr} {fd_TooMany : FuncData} (E_TooMany : ErrN P w K mg base "TooMany" C_TooMany f_TooMany fd_TooMany) : FnOk P w K mg base CX0 1 f fd ["_law_error"] (spFlags K [C_InvalidMeasure, C_InvalidNumber, C_InvalidRoot, C_InvalidCutting, C_InvalidDeed, C_InvalidWord, C_InvalidList, C_InvalidPoint, C_InvalidTable, C_InvalidFloor, C_Unlike, C_TooMany]) := by
  refine F.ok scLawFlags (fun vs H Q E h => ?_) (fun cdv A outer s H vs Q E hr h => ?_)
  · obtain ⟨a, D, bs, rfl, _⟩ := h
    rfl
  · obtain ⟨a, D, bs, rfl, hE, hX, hl, hk, kk⟩ := h
    refine ⟨_, (pss_cons (ps_set (i := 1) scLawFlags.nd rfl (Or.inl rfl) (pe_lst (pa_cons (pe_callB call_isA (by rfl) T.isinstance (by decide +kernel) (pa_cons (pv 0) (pa_cons (pe_glob (v := .ref C_InvalidMeasure) rfl E_InvalidMeasure.m rfl) pa_nil))) (pa_cons (pe_callB call_isA (by rfl) T.isinstance (by decide +kernel) (pa_cons (pv 0) (pa_cons (pe_glob (v := .ref C_InvalidNumber) rfl E_InvalidNumber.m rfl) pa_nil))) (pa_cons (pe_callB call_isA (by rfl) T.isinstance (by decide +kernel) (pa_cons (pv 0) (pa_cons (pe_glob (v := .ref C_InvalidRoot) rfl E_InvalidRoot.m rfl) pa_nil))) (pa_cons (pe_callB call_isA (by rfl) T.isinstance (by decide +kernel) (pa_cons (pv 0) (pa_cons (pe_glob (v := .ref C_InvalidCutting) rfl E_InvalidCutting.m rfl) pa_nil))) pa_nil))))))
        (pss_cons (ps_set (i := 1) scLawFlags.nd rfl (Or.inl rfl) (pe_op op_cat (pv 1) (pe_lst (pa_cons (pe_callB call_isA (by rfl) T.isinstance (by decide +kernel) (pa_cons (pv 0) (pa_cons (pe_glob (v := .ref C_InvalidDeed) rfl E_InvalidDeed.m rfl) pa_nil))) (pa_cons (pe_callB call_isA (by rfl) T.isinstance (by decide +kernel) (pa_cons (pv 0) (pa_cons (pe_glob (v := .ref C_InvalidWord) rfl E_InvalidWord.m rfl) pa_nil))) (pa_cons (pe_callB call_isA (by rfl) T.isinstance (by decide +kernel) (pa_cons (pv 0) (pa_cons (pe_glob (v := .ref C_InvalidList) rfl E_InvalidList.m rfl) pa_nil))) (pa_cons (pe_callB call_isA (by rfl) T.isinstance (by decide +kernel) (pa_cons (pv 0) (pa_cons (pe_glob (v := .ref C_InvalidPoint) rfl E_InvalidPoint.m rfl) pa_nil))) pa_nil)))))))
        (pss_one (ps_ret (pe_op op_cat (pv 1) (pe_lst (pa_cons (pe_callB call_isA (by rfl) T.isinstance (by decide +kernel) (pa_cons (pv 0) (pa_cons (pe_glob (v := .ref C_InvalidTable) rfl E_InvalidTable.m rfl) pa_nil))) (pa_cons (pe_callB call_isA (by rfl) T.isinstance (by decide +kernel) (pa_cons (pv 0) (pa_cons (pe_glob (v := .ref C_InvalidFloor) rfl E_InvalidFloor.m rfl) pa_nil))) (pa_cons (pe_callB call_isA (by rfl) T.isinstance (by decide +kernel) (pa_cons (pv 0) (pa_cons (pe_glob (v := .ref C_Unlike) rfl E_Unlike.m rfl) pa_nil))) (pa_cons (pe_callB call_isA (by rfl) T.isinstance (by decide +kernel) (pa_cons (pv 0) (pa_cons (pe_glob (v := .ref C_TooMany) rfl E_TooMany.m rfl) pa_nil))) pa_nil)))))))))), ?_⟩
    have e0 : start N_LawFlags [.ref a] = [some (.ref a), none] := rfl
    rw [e0]
    simp only [cxK, wipe, tYes, List.map_cons, List.map_nil, rIxL, rSum, tSl, rSlL, tNoPart, tPart, exists_and_left, and_assoc, V.ref.injEq, HO.lst.injEq, HO.tup.injEq, tFor_eq, iRng1, iRng2, iList, iTup, tLc_eq, tLst, tTup, gSub, rSetL, gT, gL, gTup, gCons, gNil, atI_0, atI_1, atI_2, atI_3, List.length_cons, List.length_nil, Nat.zero_add, Nat.reduceAdd, Nat.reduceLeDiff, ixN_30, ixN_31, ixN_32, Int.reduceLT, Int.reduceLE, Int.reduceNeg, upd_same, reduceCtorEq, false_and, exists_false, or_false, false_or, tNext, tIfS, tRet, tRetN, tDrop, tAsg, gName, tPar, tPar3, tAug, ipI, tVar, tC, tOp, tUn, tCB, tD, tDK, tCons, tNil, rI, rI0, rU, tB, tTest, tAnd, tOr, tNot, tAndV, tOrV, tNotV, tIf, rEq, rNe, scal_ii, scal_bb, scal_ss, rGcd_eq, tBits, List.set_cons_zero, List.set_cons_succ, List.getElem?_cons_zero, List.getElem?_cons_succ, Option.some.injEq, exists_eq_left', V.int.injEq, V.bl.injEq, V.str.injEq, true_and, and_true, decide_eq_true_eq, List.cons.injEq, exists_eq_left, Bool.false_eq_true, if_false, if_true, ite_true, ite_false, Bool.not_eq_true', decide_eq_false_iff_not, Bool.not_not]
    match bs, hl with
    | [b0, b1, b2, b3, b4, b5, b6, b7, b8, b9, b10, b11], _ =>
    simp only [cxK, wipe, tYes, List.map_cons, List.map_nil, rIxL, rSum, tSl, rSlL, tNoPart, tPart, exists_and_left, and_assoc, V.ref.injEq, HO.lst.injEq, HO.tup.injEq, tFor_eq, iRng1, iRng2, iList, iTup, tLc_eq, tLst, tTup, gSub, rSetL, gT, gL, gTup, gCons, gNil, atI_0, atI_1, atI_2, atI_3, List.length_cons, List.length_nil, Nat.zero_add, Nat.reduceAdd, Nat.reduceLeDiff, ixN_30, ixN_31, ixN_32, Int.reduceLT, Int.reduceLE, Int.reduceNeg, upd_same, reduceCtorEq, false_and, exists_false, or_false, false_or, tSeq, tNext, tIfS, tRet, tRetN, tDrop, tAsg, gName, tPar, tPar3, tAug, ipI, tVar, tC, tOp, tUn, tCB, tD, tDK, tCons, tNil, rI, rI0, rU, tB, tTest, tAnd, tOr, tNot, tAndV, tOrV, tNotV, tIf, rEq, rNe, scal_ii, scal_bb, scal_ss, rGcd_eq, tBits, List.set_cons_zero, List.set_cons_succ, List.getElem?_cons_zero, List.getElem?_cons_succ, Option.some.injEq, exists_eq_left', V.int.injEq, V.bl.injEq, V.str.injEq, true_and, and_true, decide_eq_true_eq, List.cons.injEq, exists_eq_left, Bool.false_eq_true, if_false, if_true, ite_true, ite_false, Bool.not_eq_true', decide_eq_false_iff_not, Bool.not_not]
    refine isA hE hX (hk 0 _ _ rfl rfl) ?_
    refine isA hE hX (hk 1 _ _ rfl rfl) ?_
    refine isA hE hX (hk 2 _ _ rfl rfl) ?_
    refine isA hE hX (hk 3 _ _ rfl rfl) ?_
    refine ⟨by decide, fun L1 n1 => ?_⟩
    have s1 : Same H (upd H L1 (.lst [.bl b0, .bl b1, .bl b2, .bl b3])) := Same.upd n1
    have e1 : (upd H L1 (.lst [.bl b0, .bl b1, .bl b2, .bl b3])) L1 = some (.lst [.bl b0, .bl b1, .bl b2, .bl b3]) := upd_same
    generalize upd H L1 (.lst [.bl b0, .bl b1, .bl b2, .bl b3]) = w1 at *
    refine isA (hE.same s1) hX (hk 4 _ _ rfl rfl) ?_
    refine isA (hE.same s1) hX (hk 5 _ _ rfl rfl) ?_
    refine isA (hE.same s1) hX (hk 6 _ _ rfl rfl) ?_
    refine isA (hE.same s1) hX (hk 7 _ _ rfl rfl) ?_
    refine ⟨by decide, fun L2 n2 => ?_⟩
    have s2 : Same w1 (upd w1 L2 (.lst [.bl b4, .bl b5, .bl b6, .bl b7])) := Same.upd n2
    have e2 : (upd w1 L2 (.lst [.bl b4, .bl b5, .bl b6, .bl b7])) L2 = some (.lst [.bl b4, .bl b5, .bl b6, .bl b7]) := upd_same
    generalize upd w1 L2 (.lst [.bl b4, .bl b5, .bl b6, .bl b7]) = w2 at *
    refine ⟨L1, L2, _, _, rfl, rfl, s2 _ _ e1, e2, (show 8 ≤ sizeLine by decide), fun L3 n3 => ?_⟩
    rw [show ([.bl b0, .bl b1, .bl b2, .bl b3] : List V) ++ [.bl b4, .bl b5, .bl b6, .bl b7] = [.bl b0, .bl b1, .bl b2, .bl b3, .bl b4, .bl b5, .bl b6, .bl b7] from rfl]
    have s3 : Same w2 (upd w2 L3 (.lst [.bl b0, .bl b1, .bl b2, .bl b3, .bl b4, .bl b5, .bl b6, .bl b7])) := Same.upd n3
    have e3 : (upd w2 L3 (.lst [.bl b0, .bl b1, .bl b2, .bl b3, .bl b4, .bl b5, .bl b6, .bl b7])) L3 = some (.lst [.bl b0, .bl b1, .bl b2, .bl b3, .bl b4, .bl b5, .bl b6, .bl b7]) := upd_same
    generalize upd w2 L3 (.lst [.bl b0, .bl b1, .bl b2, .bl b3, .bl b4, .bl b5, .bl b6, .bl b7]) = w3 at *
    refine isA (hE.same ((s1.trans s2).trans s3)) hX (hk 8 _ _ rfl rfl) ?_
    refine isA (hE.same ((s1.trans s2).trans s3)) hX (hk 9 _ _ rfl rfl) ?_
    refine isA (hE.same ((s1.trans s2).trans s3)) hX (hk 10 _ _ rfl rfl) ?_
    refine isA (hE.same ((s1.trans s2).trans s3)) hX (hk 11 _ _ rfl rfl) ?_
    refine ⟨by decide, fun L4 n4 => ?_⟩
    refine ⟨L3, L4, _, _, rfl, rfl, (Same.upd n4) _ _ e3, upd_same, (show 12 ≤ sizeLine by decide), fun L5 n5 => ?_⟩
    exact kk L5 _ ((((s1.trans s2).trans s3).trans (Same.upd n4)).trans (Same.upd n5)) upd_same

def Inv65 (K : PySem.W.Frag) (a g : Addr) (v : V) : Nat → SV → Hp → Prop := fun i σ H2 => ∃ t3 t4 t5 t6 t7 t8 : Option V, σ = [some (.ref a), some (.ref g), some v, t3, t4, t5, t6, t7, t8] ∧ ValW K H2 v i
def InvE02 (h : Hp) (Dd : Addr) : Nat → Hp → Prop := fun _ H2 => Same h H2 ∧ H2 Dd = some (.lst [])
def InvP65 (i : Nat) (H : Hp) (Dd : Addr) : Nat → Hp → Prop := fun j H2 => Same H H2 ∧ H2 Dd = some (.lst (((List.range j).map (fun p => decide (p = i))).map V.bl))

theorem okLaw {f : Addr} {fd : FuncData} (F : Fun K "law" "law" s_Law f fd) (T : Txt K mg) {C_SheetError : Addr} (E_SheetError : ErrP K mg "SheetError" C_SheetError [.type "ValueError", .type "Exception", .type "BaseException", .type "object"] "ValueError" "ValueError.__new__" "ValueError.__init__") {C_InvalidMeasure f_InvalidMeasure : Addr} {fd_InvalidMeasure : FuncData} (E_InvalidMeasure : ErrN P w K mg base "InvalidMeasure" C_InvalidMeasure f_InvalidMeasure fd_InvalidMeasure) {C_InvalidNumber f_InvalidNumber : Addr} {fd_InvalidNumber : FuncData} (E_InvalidNumber : ErrN P w K mg base "InvalidNumber" C_InvalidNumber f_InvalidNumber fd_InvalidNumber) {C_InvalidRoot f_InvalidRoot : Addr} {fd_InvalidRoot : FuncData} (E_InvalidRoot : ErrN P w K mg base "InvalidRoot" C_InvalidRoot f_InvalidRoot fd_InvalidRoot) {C_InvalidCutting f_InvalidCutting : Addr} {fd_InvalidCutting : FuncData} (E_InvalidCutting : ErrN P w K mg base "InvalidCutting" C_InvalidCutting f_InvalidCutting fd_InvalidCutting) {C_InvalidDeed f_InvalidDeed : Addr} {fd_InvalidDeed : FuncData} (E_InvalidDeed : ErrN P w K mg base "InvalidDeed" C_InvalidDeed f_InvalidDeed fd_InvalidDeed) {C_InvalidWord f_InvalidWord : Addr} {fd_InvalidWord : FuncData} (E_InvalidWord : ErrN P w K mg base "InvalidWord" C_InvalidWord f_InvalidWord fd_InvalidWord) {C_InvalidList f_InvalidList : Addr} {fd_InvalidList : FuncData} (E_InvalidList : ErrN P w K mg base "InvalidList" C_InvalidList f_InvalidList fd_InvalidList) {C_InvalidPoint f_InvalidPoint : Addr} {fd_InvalidPoint : FuncData} (E_InvalidPoint : ErrN P w K mg base "InvalidPoint" C_InvalidPoint f_InvalidPoint fd_InvalidPoint) {C_InvalidTable f_InvalidTable : Addr} {fd_InvalidTable : FuncData} (E_InvalidTable : ErrN P w K mg base "InvalidTable" C_InvalidTable f_InvalidTable fd_InvalidTable) {C_InvalidFloor f_InvalidFloor : Addr} {fd_InvalidFloor : FuncData} (E_InvalidFloor : ErrN P w K mg base "InvalidFloor" C_InvalidFloor f_InvalidFloor fd_InvalidFloor) {C_Unlike f_Unlike : Addr} {fd_Unlike : FuncData} (E_Unlike : ErrN P w K mg base "Unlike" C_Unlike f_Unlike fd_Unlike) {C_TooMany f_TooMany : Addr} {fd_TooMany : FuncData} (E_TooMany : ErrN P w K mg base "TooMany" C_TooMany f_TooMany fd_TooMany) {fLawGenerator : Addr} {fdLawGenerator : FuncData} (D_LawGenerator : DefAt P w K mg base 2 "_law_generator" fLawGenerator fdLawGenerator ["_law_script", "_law_index"] (spGen K)) {fLawRandom : Addr} {fdLawRandom : FuncData} (D_LawRandom : DefAt P w K mg base 2 "_law_random" fLawRandom fdLawRandom ["_law_generator_here", "_law_bound"] (spRandom)) {fLawMade : Addr} {fdLawMade : FuncData} (D_LawMade : DefAt P w K mg base 4 "_law_made" fLawMade fdLawMade ["_law_which", "_law_value"] (spMade [C_InvalidMeasure, C_InvalidNumber, C_InvalidRoot, C_InvalidCutting, C_InvalidDeed, C_InvalidWord, C_InvalidList, C_InvalidPoint, C_InvalidTable, C_InvalidFloor, C_Unlike, C_TooMany] 0 12)) {fLawFlags : Addr} {fdLawFlags : FuncData} (D_LawFlags : DefAt P w K mg base 1 "_law_flags" fLawFlags fdLawFlags ["_law_error"] (spFlags K [C_InvalidMeasure, C_InvalidNumber, C_InvalidRoot, C_InvalidCutting, C_InvalidDeed, C_InvalidWord, C_InvalidList, C_InvalidPoint, C_InvalidTable, C_InvalidFloor, C_Unlike, C_TooMany])) (KT : KitT K [C_InvalidMeasure, C_InvalidNumber, C_InvalidRoot, C_InvalidCutting, C_InvalidDeed, C_InvalidWord, C_InvalidList, C_InvalidPoint, C_InvalidTable, C_InvalidFloor, C_Unlike, C_TooMany] C_SheetError) : FnG P w K mg base 5 f fd ["_law_script"] (spLaw K) := by
  refine fnG_mk F scLaw (fun vs H Q E h => ?_) (fun cdv A outer s H vs Q E gd hr h => ?_)
  · obtain ⟨a, ns, rfl, _⟩ := h
    rfl
  · obtain ⟨a, ns, rfl, hS, hl, kk⟩ := h
    refine ⟨_, (pss_cons (ps_set (i := 1) scLaw.nd rfl (Or.inl rfl) (pe_d D_LawGenerator hr (pa_cons (pv 0) (pa_cons pe_int pa_nil))))
        (pss_cons (ps_set (i := 2) scLaw.nd rfl (Or.inl rfl) (pe_ix ixL (pe_lst (pa_cons (pe_d D_LawRandom hr (pa_cons (pv 1) (pa_cons (pe_op op_powX pe_int pe_int) pa_nil))) (pa_cons (pe_op op_mulS pe_str (pe_d D_LawRandom hr (pa_cons (pv 1) (pa_cons pe_int pa_nil)))) (pa_cons (pe_lst (pa_cons pe_int (pa_cons pe_non pa_nil))) (pa_cons pe_non (pa_cons (pe_tup (pa_cons pe_int (pa_cons (pe_tup (pa_cons pe_int pa_nil)) pa_nil))) pa_nil)))))) (pe_d D_LawRandom hr (pa_cons (pv 1) (pa_cons pe_int pa_nil))) (fun _ _ => rfl)))
        (pss_cons (ps_for PassesOwn.never rfl (pi_range1 rfl T.range (pa_cons pe_int pa_nil)) (pg_name (i := 3) scLaw.nd rfl (Or.inr rfl)) (pss_cons (ps_par (i := 4) (j := 5) rfl scLaw.nd rfl rfl (by decide) rfl rfl (pa_cons (pe_d D_LawMade hr (pa_cons (pv 3) (pa_cons (pv 2) pa_nil))) (pa_cons (pe_d D_LawMade hr (pa_cons (pv 3) (pa_cons (pv 2) pa_nil))) pa_nil)) rfl)
        (pss_cons (ps_if (PW.pt (pw_or (pt_cmpR (op_neD hr.units) (pe_d D_LawFlags hr (pa_cons (pv 4) pa_nil)) (pe_lc (own := [("_law_place", 7)]) (g := gName 7) (tt := tYes) rfl scLaw.nd (pi_range1 rfl T.range (pa_cons pe_int pa_nil)) (blkOk_by (N := N_Law) (sc := defScope s_Law) (by decide +kernel)) (fun _ _ _ _ _ => pg_name (i := 7) scLaw.nd rfl (Or.inl rfl)) (fun _ _ _ _ _ => pts_nil) (fun _ _ _ _ _ => (pe_cmpR op_eq (pv 7) (pv 3) (nomark _)))) (nomark _)) (pw_or (pt_not (pt_val (pe_callB call_isA (by rfl) T.isinstance (by decide +kernel) (pa_cons (pv 4) (pa_cons (pe_glob (v := .ref C_SheetError) rfl E_SheetError.m rfl) pa_nil))))) (pw_or1 (pt_not (pt_val (pe_callB call_isA (by rfl) T.isinstance (by decide +kernel) (pa_cons (pv 4) (pa_cons (pe_bltn (v := .ty "ValueError") (u := .type "ValueError") (by rfl) T.ValueError (by decide +kernel) rfl) pa_nil))))))))) (pss_one (ps_ret pe_bl)) pss_nil)
        (pss_cons (ps_if (pt_val (pe_callB call_isi (by rfl) T.isinstance (by decide +kernel) (pa_cons (pv 2) (pa_cons (pe_bltn (v := .ty "list") (u := .type "list") (by rfl) T.list (by decide +kernel) rfl) pa_nil)))) (pss_one (ps_expr (pe_bm PySem.F.plainAttrs_list PySem.F.slot_list_append PySem.F.type_list_append mt_append (pv 2) (pa_cons (pv 3) pa_nil)))) pss_nil)
        (pss_one (ps_if (pt_cmpR op_ne (pe_callB (cr_reprR gd hr.units) (by rfl) T.repr (by decide +kernel) (pa_cons (pe_lst (pa_cons (pe_xn (pv 4)) (pa_cons (pe_xn (pv 5)) pa_nil))) pa_nil)) (pe_callB (cr_reprR gd hr.units) (by rfl) T.repr (by decide +kernel) (pa_cons (pe_lst (pa_cons (pv 2) (pa_cons (pv 2) pa_nil))) pa_nil)) (nomark _)) (pss_one (ps_ret pe_bl)) pss_nil))))))
        (pss_cons (ps_set (i := 6) scLaw.nd rfl (Or.inl rfl) (pe_lst (pa_cons (pe_xn (pe_new0 E_InvalidMeasure hr)) (pa_cons (pe_xn (pe_new0 E_InvalidNumber hr)) (pa_cons (pe_xn (pe_new0 E_InvalidRoot hr)) (pa_cons (pe_xn (pe_new0 E_InvalidCutting hr)) (pa_cons (pe_xn (pe_new0 E_InvalidDeed hr)) (pa_cons (pe_xn (pe_new0 E_InvalidWord hr)) pa_nil))))))))
        (pss_cons (ps_set (i := 6) scLaw.nd rfl (Or.inl rfl) (pe_op op_cat (pv 6) (pe_lst (pa_cons (pe_xn (pe_new0 E_InvalidList hr)) (pa_cons (pe_xn (pe_new0 E_InvalidPoint hr)) (pa_cons (pe_xn (pe_new0 E_InvalidTable hr)) (pa_cons (pe_xn (pe_new0 E_InvalidFloor hr)) (pa_cons (pe_xn (pe_new0 E_Unlike hr)) (pa_cons (pe_xn (pe_new0 E_TooMany hr)) pa_nil)))))))))
        (pss_cons (ps_if (PW.pt (pw_or (pt_cmpR (op_neD hr.units) (pe_lc (own := [("_law_field", 8)]) (g := gName 8) rfl scLaw.nd (pi_list (pv 6)) (blkOk_by (N := N_Law) (sc := defScope s_Law) (by decide +kernel)) (fun _ _ _ _ _ => pg_name (i := 8) scLaw.nd rfl (Or.inl rfl)) (fun _ _ _ _ _ => (pts_one (pt_cmpR op_notN (pv 8) pe_non (nomark _)))) (fun _ _ _ _ _ => (pv 8))) (pe_lst pa_nil) (nomark _)) (pw_or (pt_cmpR (op_neD hr.units) (pe_xn (pe_newK E_TooMany hr (pk_cons pe_int pk_nil))) pe_int (nomark _)) (pw_or1 (pt_cmpR (op_neD hr.units) (pe_xn (pe_newK E_InvalidFloor hr (pk_cons (pe_tup (pa_cons pe_int pa_nil)) pk_nil))) (pe_tup (pa_cons pe_int pa_nil)) (nomark _)))))) (pss_one (ps_ret pe_bl)) pss_nil)
        (pss_one (ps_ret (pe_and (pe_callB call_isA (by rfl) T.isinstance (by decide +kernel) (pa_cons (pe_exc0 E_SheetError) (pa_cons (pe_bltn (v := .ty "ValueError") (u := .type "ValueError") (by rfl) T.ValueError (by decide +kernel) rfl) pa_nil))) (pe_one (pe_cmpR (op_eqD hr.units) (pe_d D_LawFlags hr (pa_cons (pe_exc0 E_SheetError) pa_nil)) (pe_op op_rep (pe_lst (pa_cons pe_bl pa_nil)) pe_int) (nomark _)))))))))))), ?_⟩
    have e0 : start N_Law [.ref a] = [some (.ref a), none, none, none, none, none, none, none, none] := rfl
    rw [e0]
    simp only [cxK, wipe, tYes, List.map_cons, List.map_nil, rIxL, rSum, tSl, rSlL, tNoPart, tPart, exists_and_left, and_assoc, V.ref.injEq, HO.lst.injEq, HO.tup.injEq, tFor_eq, iRng1, iRng2, iList, iTup, tLc_eq, tLst, tTup, gSub, rSetL, gT, gL, gTup, gCons, gNil, atI_0, atI_1, atI_2, atI_3, List.length_cons, List.length_nil, Nat.zero_add, Nat.reduceAdd, Nat.reduceLeDiff, ixN_30, ixN_31, ixN_32, Int.reduceLT, Int.reduceLE, Int.reduceNeg, upd_same, reduceCtorEq, false_and, exists_false, or_false, false_or, tNext, tIfS, tRet, tRetN, tDrop, tAsg, gName, tPar, tPar3, tAug, ipI, tVar, tC, tOp, tUn, tCB, tD, tDK, tCons, tNil, rI, rI0, rU, tB, tTest, tAnd, tOr, tNot, tAndV, tOrV, tNotV, tIf, rEq, rNe, scal_ii, scal_bb, scal_ss, rGcd_eq, tBits, List.set_cons_zero, List.set_cons_succ, List.getElem?_cons_zero, List.getElem?_cons_succ, Option.some.injEq, exists_eq_left', V.int.injEq, V.bl.injEq, V.str.injEq, true_and, and_true, decide_eq_true_eq, List.cons.injEq, exists_eq_left, Bool.false_eq_true, if_false, if_true, ite_true, ite_false, Bool.not_eq_true', decide_eq_false_iff_not, Bool.not_not]
    refine seq_gen fun C1 hC1 => ?_
    simp only [cxK, wipe, tYes, List.map_cons, List.map_nil, rIxL, rSum, tSl, rSlL, tNoPart, tPart, exists_and_left, and_assoc, V.ref.injEq, HO.lst.injEq, HO.tup.injEq, tFor_eq, iRng1, iRng2, iList, iTup, tLc_eq, tLst, tTup, gSub, rSetL, gT, gL, gTup, gCons, gNil, atI_0, atI_1, atI_2, atI_3, List.length_cons, List.length_nil, Nat.zero_add, Nat.reduceAdd, Nat.reduceLeDiff, ixN_30, ixN_31, ixN_32, Int.reduceLT, Int.reduceLE, Int.reduceNeg, upd_same, reduceCtorEq, false_and, exists_false, or_false, false_or, tNext, tIfS, tRet, tRetN, tDrop, tAsg, gName, tPar, tPar3, tAug, ipI, tVar, tC, tOp, tUn, tCB, tD, tDK, tCons, tNil, rI, rI0, rU, tB, tTest, tAnd, tOr, tNot, tAndV, tOrV, tNotV, tIf, rEq, rNe, scal_ii, scal_bb, scal_ss, rGcd_eq, tBits, List.set_cons_zero, List.set_cons_succ, List.getElem?_cons_zero, List.getElem?_cons_succ, Option.some.injEq, exists_eq_left', V.int.injEq, V.bl.injEq, V.str.injEq, true_and, and_true, decide_eq_true_eq, List.cons.injEq, exists_eq_left, Bool.false_eq_true, if_false, if_true, ite_true, ite_false, Bool.not_eq_true', decide_eq_false_iff_not, Bool.not_not]
    refine ⟨a, ns, 0, rfl, hS, by decide, by decide, fun g H0 ng s0 G0 => ?_⟩
    refine Eq.mpr (hC1 _ _) ?_
    refine seq_gen fun C2 hC2 => ?_
    simp only [cxK, wipe, tYes, List.map_cons, List.map_nil, rIxL, rSum, tSl, rSlL, tNoPart, tPart, exists_and_left, and_assoc, V.ref.injEq, HO.lst.injEq, HO.tup.injEq, tFor_eq, iRng1, iRng2, iList, iTup, tLc_eq, tLst, tTup, gSub, rSetL, gT, gL, gTup, gCons, gNil, atI_0, atI_1, atI_2, atI_3, List.length_cons, List.length_nil, Nat.zero_add, Nat.reduceAdd, Nat.reduceLeDiff, ixN_30, ixN_31, ixN_32, Int.reduceLT, Int.reduceLE, Int.reduceNeg, upd_same, reduceCtorEq, false_and, exists_false, or_false, false_or, tNext, tIfS, tRet, tRetN, tDrop, tAsg, gName, tPar, tPar3, tAug, ipI, tVar, tC, tOp, tUn, tCB, tD, tDK, tCons, tNil, rI, rI0, rU, tB, tTest, tAnd, tOr, tNot, tAndV, tOrV, tNotV, tIf, rEq, rNe, scal_ii, scal_bb, scal_ss, rGcd_eq, tBits, List.set_cons_zero, List.set_cons_succ, List.getElem?_cons_zero, List.getElem?_cons_succ, Option.some.injEq, exists_eq_left', V.int.injEq, V.bl.injEq, V.str.injEq, true_and, and_true, decide_eq_true_eq, List.cons.injEq, exists_eq_left, Bool.false_eq_true, if_false, if_true, ite_true, ite_false, Bool.not_eq_true', decide_eq_false_iff_not, Bool.not_not]
    refine ⟨cpow (by decide) (by decide) (by decide) (by decide), g, _, 100000, rfl, G0, by decide, by decide +kernel, by decide +kernel, fun r H1 r0 r1 G1 K1 => ?_⟩
    refine ⟨g, 3, _, rfl, G1, by decide, by decide, by decide, fun m H2 m0 m1 G2 K2 => ?_⟩
    have hr : r.natAbs < 2 ^ 80 := by
      have : (10 : Int) ^ Int.toNat 20 = 100000000000000000000 := by decide +kernel
      omega
    obtain ⟨z, hz, hz2⟩ : ∃ z : Str, strTimes (Str.ofString "ab") m = z ∧ z.length ≤ sizeLine ∧ (PyData.str z).showable = true ∧ cost (.str z) ≤ 100000 ∧ (PyData.str z).canLay0 = true := by
      rcases (show m = 0 ∨ m = 1 ∨ m = 2 by omega) with rfl | rfl | rfl
      · exact ⟨_, rfl, by decide +kernel, by decide +kernel, by decide +kernel, by decide +kernel⟩
      · exact ⟨_, rfl, by decide +kernel, by decide +kernel, by decide +kernel, by decide +kernel⟩
      · exact ⟨_, rfl, by decide +kernel, by decide +kernel, by decide +kernel, by decide +kernel⟩
    refine ⟨_, m, rfl, rfl, m0, by omega, by decide +kernel, by rw [hz]; exact hz2.1, ?_⟩
    rw [hz]
    refine ⟨by decide, fun p1 n1 => ⟨by decide, fun p2 n2 => ⟨by decide, fun p3 n3 => ⟨by decide, fun p4 n4 => ?_⟩⟩⟩⟩
    have e4 : upd (upd (upd (upd H2 p1 (.lst [.int 1, .non])) p2 (.tup [.int 3])) p3 (.tup [.int 2, .ref p2])) p4 (.lst [.int r, .str z, .ref p1, .non, .ref p3]) p4 = some (.lst [.int r, .str z, .ref p1, .non, .ref p3]) := upd_same
    have e3 : upd (upd (upd (upd H2 p1 (.lst [.int 1, .non])) p2 (.tup [.int 3])) p3 (.tup [.int 2, .ref p2])) p4 (.lst [.int r, .str z, .ref p1, .non, .ref p3]) p3 = some (.tup [.int 2, .ref p2]) := (Same.upd n4) _ _ upd_same
    have e2 : upd (upd (upd (upd H2 p1 (.lst [.int 1, .non])) p2 (.tup [.int 3])) p3 (.tup [.int 2, .ref p2])) p4 (.lst [.int r, .str z, .ref p1, .non, .ref p3]) p2 = some (.tup [.int 3]) := (Same.upd n4) _ _ ((Same.upd n3) _ _ upd_same)
    have e1 : upd (upd (upd (upd H2 p1 (.lst [.int 1, .non])) p2 (.tup [.int 3])) p3 (.tup [.int 2, .ref p2])) p4 (.lst [.int r, .str z, .ref p1, .non, .ref p3]) p1 = some (.lst [.int 1, .non]) := (Same.upd n4) _ _ ((Same.upd n3) _ _ ((Same.upd n2) _ _ upd_same))
    have s4 : Same H2 (upd (upd (upd (upd H2 p1 (.lst [.int 1, .non])) p2 (.tup [.int 3])) p3 (.tup [.int 2, .ref p2])) p4 (.lst [.int r, .str z, .ref p1, .non, .ref p3])) := (((Same.upd n1).trans (Same.upd n2)).trans (Same.upd n3)).trans (Same.upd n4)
    have G4 := G2.same s4
    have hg1 := G2.nn n1
    generalize upd (upd (upd (upd H2 p1 (.lst [.int 1, .non])) p2 (.tup [.int 3])) p3 (.tup [.int 2, .ref p2])) p4 (.lst [.int r, .str z, .ref p1, .non, .ref p3]) = h4 at *
    refine ⟨g, 5, _, rfl, G4, by decide, by decide, by decide, fun i H5 i0 i1 G5 K5 => ?_⟩
    have hp4 : p4 ≠ g := fun w => by
      obtain ⟨_, _, _, e, _⟩ := G4
      rw [w, e] at e4
      cases e4
    have f3 := K5 _ _ (G4.ne e3) e3
    have f2 := K5 _ _ (G4.ne e2) e2
    have f1 := K5 _ _ hg1 e1
    obtain ⟨v, hv, hW⟩ : ∃ v : V, atI [V.int r, V.str z, V.ref p1, V.non, V.ref p3] i = some v ∧ ValW K H5 v 0 := by
      rcases (show i = 0 ∨ i = 1 ∨ i = 2 ∨ i = 3 ∨ i = 4 by omega) with rfl | rfl | rfl | rfl | rfl
      · exact ⟨_, atI_0, .inl ⟨_, "int", .int hr (by decide), rfl, by decide, fun p e => by cases e⟩⟩
      · exact ⟨_, atI_1, .inl ⟨_, "str", .str hz2.2.1 hz2.2.2.1 hz2.2.2.2, rfl, by decide, fun p e => by cases e⟩⟩
      · exact ⟨_, atI_2, .inr ⟨p1, [], rfl, ⟨f1, by decide, fun n hn => absurd hn List.not_mem_nil⟩, by decide⟩⟩
      · exact ⟨_, atI_3, .inl ⟨_, "NoneType", .non, rfl, by decide, fun p e => by cases e⟩⟩
      · refine ⟨_, atI_nat (j := 4) rfl, .inl ⟨_, "tuple", it_tup f3 (.cons (.int (n := 10) (by decide) (by decide)) (.cons (it_tup f2 (.cons (.int (n := 10) (by decide) (by decide)) .nil) (Nat.le_of_ble_eq_true rfl) (Nat.le_of_ble_eq_true rfl)) .nil)) (Nat.le_of_ble_eq_true rfl) (Nat.le_of_ble_eq_true rfl), tyS_tup f3, by decide, fun p e => ?_⟩⟩
        cases e
        exact ⟨_, f3⟩
    refine ⟨_, i, rfl, K5 _ _ hp4 e4, v, hv, ?_⟩
    refine Eq.mpr (hC2 _ _) ?_
    refine seq_gen fun C3 hC3 => ?_
    simp only [cxK, wipe, tYes, List.map_cons, List.map_nil, rIxL, rSum, tSl, rSlL, tNoPart, tPart, exists_and_left, and_assoc, V.ref.injEq, HO.lst.injEq, HO.tup.injEq, tFor_eq, iRng1, iRng2, iList, iTup, tLc_eq, tLst, tTup, gSub, rSetL, gT, gL, gTup, gCons, gNil, atI_0, atI_1, atI_2, atI_3, List.length_cons, List.length_nil, Nat.zero_add, Nat.reduceAdd, Nat.reduceLeDiff, ixN_30, ixN_31, ixN_32, Int.reduceLT, Int.reduceLE, Int.reduceNeg, upd_same, reduceCtorEq, false_and, exists_false, or_false, false_or, tNext, tIfS, tRet, tRetN, tDrop, tAsg, gName, tPar, tPar3, tAug, ipI, tVar, tC, tOp, tUn, tCB, tD, tDK, tCons, tNil, rI, rI0, rU, tB, tTest, tAnd, tOr, tNot, tAndV, tOrV, tNotV, tIf, rEq, rNe, scal_ii, scal_bb, scal_ss, rGcd_eq, tBits, List.set_cons_zero, List.set_cons_succ, List.getElem?_cons_zero, List.getElem?_cons_succ, Option.some.injEq, exists_eq_left', V.int.injEq, V.bl.injEq, V.str.injEq, true_and, and_true, decide_eq_true_eq, List.cons.injEq, exists_eq_left, Bool.false_eq_true, if_false, if_true, ite_true, ite_false, Bool.not_eq_true', decide_eq_false_iff_not, Bool.not_not]
    generalize hCs : [C_InvalidMeasure, C_InvalidNumber, C_InvalidRoot, C_InvalidCutting, C_InvalidDeed, C_InvalidWord, C_InvalidList, C_InvalidPoint, C_InvalidTable, C_InvalidFloor, C_Unlike, C_TooMany] = Cs at KT ⊢
    have hlen : Cs.length = 12 := by rw [← hCs]; rfl
    refine ⟨by decide, by decide, ?_⟩
    refine forW_range (Inv65 K a g v) ⟨none, none, none, none, none, none, rfl, hW⟩ ?_ (fun σ' H6 z => ?_)
    · rintro i σ' H6 hi ⟨t3, t4, t5, t6, t7, t8, rfl, hW⟩
      have hi12 : i < 12 := hi
      simp only [cxK, wipe, tYes, List.map_cons, List.map_nil, rIxL, rSum, tSl, rSlL, tNoPart, tPart, exists_and_left, and_assoc, V.ref.injEq, HO.lst.injEq, HO.tup.injEq, tFor_eq, iRng1, iRng2, iList, iTup, tLc_eq, tLst, tTup, gSub, rSetL, gT, gL, gTup, gCons, gNil, atI_0, atI_1, atI_2, atI_3, List.length_cons, List.length_nil, Nat.zero_add, Nat.reduceAdd, Nat.reduceLeDiff, ixN_30, ixN_31, ixN_32, Int.reduceLT, Int.reduceLE, Int.reduceNeg, upd_same, reduceCtorEq, false_and, exists_false, or_false, false_or, tNext, tIfS, tRet, tRetN, tDrop, tAsg, gName, tPar, tPar3, tAug, ipI, tVar, tC, tOp, tUn, tCB, tD, tDK, tCons, tNil, rI, rI0, rU, tB, tTest, tAnd, tOr, tNot, tAndV, tOrV, tNotV, tIf, rEq, rNe, scal_ii, scal_bb, scal_ss, rGcd_eq, tBits, List.set_cons_zero, List.set_cons_succ, List.getElem?_cons_zero, List.getElem?_cons_succ, Option.some.injEq, exists_eq_left', V.int.injEq, V.bl.injEq, V.str.injEq, true_and, and_true, decide_eq_true_eq, List.cons.injEq, exists_eq_left, Bool.false_eq_true, if_false, if_true, ite_true, ite_false, Bool.not_eq_true', decide_eq_false_iff_not, Bool.not_not]
      refine seq_gen fun C4 hC4 => ?_
      simp only [cxK, wipe, tYes, List.map_cons, List.map_nil, rIxL, rSum, tSl, rSlL, tNoPart, tPart, exists_and_left, and_assoc, V.ref.injEq, HO.lst.injEq, HO.tup.injEq, tFor_eq, iRng1, iRng2, iList, iTup, tLc_eq, tLst, tTup, gSub, rSetL, gT, gL, gTup, gCons, gNil, atI_0, atI_1, atI_2, atI_3, List.length_cons, List.length_nil, Nat.zero_add, Nat.reduceAdd, Nat.reduceLeDiff, ixN_30, ixN_31, ixN_32, Int.reduceLT, Int.reduceLE, Int.reduceNeg, upd_same, reduceCtorEq, false_and, exists_false, or_false, false_or, tNext, tIfS, tRet, tRetN, tDrop, tAsg, gName, tPar, tPar3, tAug, ipI, tVar, tC, tOp, tUn, tCB, tD, tDK, tCons, tNil, rI, rI0, rU, tB, tTest, tAnd, tOr, tNot, tAndV, tOrV, tNotV, tIf, rEq, rNe, scal_ii, scal_bb, scal_ss, rGcd_eq, tBits, List.set_cons_zero, List.set_cons_succ, List.getElem?_cons_zero, List.getElem?_cons_succ, Option.some.injEq, exists_eq_left', V.int.injEq, V.bl.injEq, V.str.injEq, true_and, and_true, decide_eq_true_eq, List.cons.injEq, exists_eq_left, Bool.false_eq_true, if_false, if_true, ite_true, ite_false, Bool.not_eq_true', decide_eq_false_iff_not, Bool.not_not]
      obtain ⟨C, hC⟩ : ∃ C, Cs[i]? = some C := ⟨_, List.getElem?_eq_getElem (by omega)⟩
      have hmem := List.mem_of_getElem? hC
      rw [Int.zero_add]
      refine ⟨i, v, C, rfl, Nat.zero_le _, hi12, hC, fun x1 d1 H7 m1 => ?_⟩
      refine ⟨i, v, C, rfl, Nat.zero_le _, hi12, hC, fun x2 d2 H8 m2 => ?_⟩
      refine Eq.mpr (hC4 _ _) ?_
      refine seq_gen fun C5 hC5 => ?_
      simp only [cxK, wipe, tYes, List.map_cons, List.map_nil, rIxL, rSum, tSl, rSlL, tNoPart, tPart, exists_and_left, and_assoc, V.ref.injEq, HO.lst.injEq, HO.tup.injEq, tFor_eq, iRng1, iRng2, iList, iTup, tLc_eq, tLst, tTup, gSub, rSetL, gT, gL, gTup, gCons, gNil, atI_0, atI_1, atI_2, atI_3, List.length_cons, List.length_nil, Nat.zero_add, Nat.reduceAdd, Nat.reduceLeDiff, ixN_30, ixN_31, ixN_32, Int.reduceLT, Int.reduceLE, Int.reduceNeg, upd_same, reduceCtorEq, false_and, exists_false, or_false, false_or, tNext, tIfS, tRet, tRetN, tDrop, tAsg, gName, tPar, tPar3, tAug, ipI, tVar, tC, tOp, tUn, tCB, tD, tDK, tCons, tNil, rI, rI0, rU, tB, tTest, tAnd, tOr, tNot, tAndV, tOrV, tNotV, tIf, rEq, rNe, scal_ii, scal_bb, scal_ss, rGcd_eq, tBits, List.set_cons_zero, List.set_cons_succ, List.getElem?_cons_zero, List.getElem?_cons_succ, Option.some.injEq, exists_eq_left', V.int.injEq, V.bl.injEq, V.str.injEq, true_and, and_true, decide_eq_true_eq, List.cons.injEq, exists_eq_left, Bool.false_eq_true, if_false, if_true, ite_true, ite_false, Bool.not_eq_true', decide_eq_false_iff_not, Bool.not_not]
      have E1 := m1.err.same m2.sm
      refine ⟨x1, C, (List.range 12).map (fun p => decide (p = i)), rfl, E1, KT.ec _ hmem, by simp, fun j b D hb hD => ?_, fun L H9 s9 eL => ?_⟩
      · have h1 := KT.cc i j C D hC hD
        rw [List.getElem?_map] at hb
        obtain ⟨p, hp, rfl⟩ := Option.map_eq_some_iff.mp hb
        have hp2 := List.getElem?_eq_some_iff.mp hp
        obtain ⟨_, hp3⟩ := hp2
        rw [List.getElem_range] at hp3
        rw [← hp3]
        exact h1
      · refine ⟨by decide, by decide, fun Dd nD => lcW_range (InvP65 i H9 Dd) ⟨Same.upd nD, upd_same⟩ (fun j HA hj z => ?_) (fun HA z => ?_)⟩
        · obtain ⟨sA, eA⟩ := z
          refine ⟨rfl, ?_⟩
          simp only [cxK, wipe, tYes, List.map_cons, List.map_nil, rIxL, rSum, tSl, rSlL, tNoPart, tPart, exists_and_left, and_assoc, V.ref.injEq, HO.lst.injEq, HO.tup.injEq, tFor_eq, iRng1, iRng2, iList, iTup, tLc_eq, tLst, tTup, gSub, rSetL, gT, gL, gTup, gCons, gNil, atI_0, atI_1, atI_2, atI_3, List.length_cons, List.length_nil, Nat.zero_add, Nat.reduceAdd, Nat.reduceLeDiff, ixN_30, ixN_31, ixN_32, Int.reduceLT, Int.reduceLE, Int.reduceNeg, upd_same, reduceCtorEq, false_and, exists_false, or_false, false_or, tSeq, tNext, tIfS, tRet, tRetN, tDrop, tAsg, gName, tPar, tPar3, tAug, ipI, tVar, tC, tOp, tUn, tCB, tD, tDK, tCons, tNil, rI, rI0, rU, tB, tTest, tAnd, tOr, tNot, tAndV, tOrV, tNotV, tIf, rEq, rNe, scal_ii, scal_bb, scal_ss, rGcd_eq, tBits, List.set_cons_zero, List.set_cons_succ, List.getElem?_cons_zero, List.getElem?_cons_succ, Option.some.injEq, exists_eq_left', V.int.injEq, V.bl.injEq, V.str.injEq, true_and, and_true, decide_eq_true_eq, List.cons.injEq, exists_eq_left, Bool.false_eq_true, if_false, if_true, ite_true, ite_false, Bool.not_eq_true', decide_eq_false_iff_not, Bool.not_not]
          refine ⟨_, eA, small1000 (by rw [List.length_map, List.length_map, List.length_range]; omega), Same.upd2 sA nD, ?_⟩
          rw [upd_same, List.range_succ, List.map_append, List.map_append, show decide ((0 : Int) + (j : Int) = (i : Int)) = decide (j = i) by rw [decide_eq_decide]; omega]
          rfl
        · obtain ⟨sA, eA⟩ := z
          refine ne_bools ((List.range 12).map (fun p => decide (p = i))) (sA _ _ eL) eA ⟨false, rfl, ?_⟩
          rw [if_neg (by decide)]
          have EA := (E1.same s9).same sA
          refine isAe EA (KT.ec _ hmem) (fun _ h => h) (KT.cs _ hmem) ⟨true, rfl, ?_⟩
          rw [if_neg (by decide)]
          refine isAe EA (KT.ec _ hmem) (fun _ h => h) (KT.cv _ hmem) ⟨true, rfl, ?_⟩
          rw [if_neg (by decide)]
          refine Eq.mpr (hC5 _ _) ?_
          refine seq_gen fun C6 hC6 => ?_
          simp only [cxK, wipe, tYes, List.map_cons, List.map_nil, rIxL, rSum, tSl, rSlL, tNoPart, tPart, exists_and_left, and_assoc, V.ref.injEq, HO.lst.injEq, HO.tup.injEq, tFor_eq, iRng1, iRng2, iList, iTup, tLc_eq, tLst, tTup, gSub, rSetL, gT, gL, gTup, gCons, gNil, atI_0, atI_1, atI_2, atI_3, List.length_cons, List.length_nil, Nat.zero_add, Nat.reduceAdd, Nat.reduceLeDiff, ixN_30, ixN_31, ixN_32, Int.reduceLT, Int.reduceLE, Int.reduceNeg, upd_same, reduceCtorEq, false_and, exists_false, or_false, false_or, tNext, tIfS, tRet, tRetN, tDrop, tAsg, gName, tPar, tPar3, tAug, ipI, tVar, tC, tOp, tUn, tCB, tD, tDK, tCons, tNil, rI, rI0, rU, tB, tTest, tAnd, tOr, tNot, tAndV, tOrV, tNotV, tIf, rEq, rNe, scal_ii, scal_bb, scal_ss, rGcd_eq, tBits, List.set_cons_zero, List.set_cons_succ, List.getElem?_cons_zero, List.getElem?_cons_succ, Option.some.injEq, exists_eq_left', V.int.injEq, V.bl.injEq, V.str.injEq, true_and, and_true, decide_eq_true_eq, List.cons.injEq, exists_eq_left, Bool.false_eq_true, if_false, if_true, ite_true, ite_false, Bool.not_eq_true', decide_eq_false_iff_not, Bool.not_not]
          have s6 : Same H6 HA := m1.sm.trans (m2.sm.trans (s9.trans sA))
          have sB : Same H8 HA := s9.trans sA
          suffices fin : ∀ HB : Hp, HB x1 = some (exo x1 C (some d1)) → HB d1 = some (exd d1 [("value", v)]) → HB x2 = some (exo x2 C (some d2)) → HB d2 = some (exd d2 [("value", v)]) → ValW K HB v (i + 1) → C6 [some (V.ref a), some (V.ref g), some v, some (V.int (i : Int)), some (V.ref x1), some (V.ref x2), t6, t7, t8] HB by
            have f1 := sB _ _ (m2.sm _ _ m1.ea)
            have f2 := sB _ _ (m2.sm _ _ m1.ed)
            have f3 := sB _ _ m2.ea
            have f4 := sB _ _ m2.ed
            rcases hW with ⟨d, t, hI, ht, hne, htup⟩ | ⟨p, ns, rfl, ⟨ep, hl, hb⟩, hle⟩
            · refine rIsi_ty (tyS_same s6 ht) (kitB_list (K := K) ht hne) ⟨false, rfl, ?_⟩
              rw [if_neg (by decide)]
              exact fin HA f1 f2 f3 f4 (.inl ⟨d, t, hI.same s6, tyS_same s6 ht, hne, fun p e => by
                obtain ⟨xs, h⟩ := htup p e
                exact ⟨xs, s6 _ _ h⟩⟩)
            · have epA := s6 _ _ ep
              refine rIsi_ty (b := true) (tyS_lst epA) (by decide +kernel) ⟨true, rfl, ?_⟩
              rw [if_pos rfl]
              simp only [cxK, wipe, tYes, List.map_cons, List.map_nil, rIxL, rSum, tSl, rSlL, tNoPart, tPart, exists_and_left, and_assoc, V.ref.injEq, HO.lst.injEq, HO.tup.injEq, tFor_eq, iRng1, iRng2, iList, iTup, tLc_eq, tLst, tTup, gSub, rSetL, gT, gL, gTup, gCons, gNil, atI_0, atI_1, atI_2, atI_3, List.length_cons, List.length_nil, Nat.zero_add, Nat.reduceAdd, Nat.reduceLeDiff, ixN_30, ixN_31, ixN_32, Int.reduceLT, Int.reduceLE, Int.reduceNeg, upd_same, reduceCtorEq, false_and, exists_false, or_false, false_or, tSeq, tNext, tIfS, tRet, tRetN, tDrop, tAsg, gName, tPar, tPar3, tAug, ipI, tVar, tC, tOp, tUn, tCB, tD, tDK, tCons, tNil, rI, rI0, rU, tB, tTest, tAnd, tOr, tNot, tAndV, tOrV, tNotV, tIf, rEq, rNe, scal_ii, scal_bb, scal_ss, rGcd_eq, tBits, List.set_cons_zero, List.set_cons_succ, List.getElem?_cons_zero, List.getElem?_cons_succ, Option.some.injEq, exists_eq_left', V.int.injEq, V.bl.injEq, V.str.injEq, true_and, and_true, decide_eq_true_eq, List.cons.injEq, exists_eq_left, Bool.false_eq_true, if_false, if_true, ite_true, ite_false, Bool.not_eq_true', decide_eq_false_iff_not, Bool.not_not, tBM]
              refine ⟨.inl ⟨rfl, _, SqL.of epA⟩, p, _, _, rfl, rfl, epA, small1000 (by simp only [List.length_cons, List.length_map]; omega), ?_⟩
              refine fin _ (upd_lst epA f1 exo_lst) (upd_lst epA f2 exd_lst) (upd_lst epA f3 exo_lst) (upd_lst epA f4 exd_lst) (.inr ⟨p, ns ++ [i], rfl, ⟨?_, by rw [List.length_append, List.length_singleton]; omega, fun n hn => ?_⟩, by rw [List.length_append, List.length_singleton]; omega⟩)
              · rw [upd_same, List.map_append]
                rfl
              · rw [List.mem_append, List.mem_singleton] at hn
                rcases hn with hn | rfl
                · exact hb n hn
                · omega
          intro HB f1 f2 f3 f4 hW2
          obtain ⟨dv, hI⟩ := valW_it hW2
          refine Eq.mpr (hC6 _ _) ?_
          simp only [cxK, wipe, tYes, List.map_cons, List.map_nil, rIxL, rSum, tSl, rSlL, tNoPart, tPart, exists_and_left, and_assoc, V.ref.injEq, HO.lst.injEq, HO.tup.injEq, tFor_eq, iRng1, iRng2, iList, iTup, tLc_eq, tLst, tTup, gSub, rSetL, gT, gL, gTup, gCons, gNil, atI_0, atI_1, atI_2, atI_3, List.length_cons, List.length_nil, Nat.zero_add, Nat.reduceAdd, Nat.reduceLeDiff, ixN_30, ixN_31, ixN_32, Int.reduceLT, Int.reduceLE, Int.reduceNeg, upd_same, reduceCtorEq, false_and, exists_false, or_false, false_or, tSeq, tNext, tIfS, tRet, tRetN, tDrop, tAsg, gName, tPar, tPar3, tAug, ipI, tVar, tC, tOp, tUn, tCB, tD, tDK, tCons, tNil, rI, rI0, rU, tB, tTest, tAnd, tOr, tNot, tAndV, tOrV, tNotV, tIf, rEq, rNe, scal_ii, scal_bb, scal_ss, rGcd_eq, tBits, List.set_cons_zero, List.set_cons_succ, List.getElem?_cons_zero, List.getElem?_cons_succ, Option.some.injEq, exists_eq_left', V.int.injEq, V.bl.injEq, V.str.injEq, true_and, and_true, decide_eq_true_eq, List.cons.injEq, exists_eq_left, Bool.false_eq_true, if_false, if_true, ite_true, ite_false, Bool.not_eq_true', decide_eq_false_iff_not, Bool.not_not, tXn]
          refine ⟨C, d1, f1, KT.xf _ hmem, KT.nv _ hmem, _, f2, v, look1, C, d2, f3, KT.xf _ hmem, KT.nv _ hmem, _, f4, v, look1, by decide, fun q1 w1 => ?_⟩
          refine ⟨_, rp_two upd_same (hI.same (Same.upd w1)) (hI.same (Same.upd w1)), by decide, fun q2 w2 => ?_⟩
          refine ⟨_, rp_two upd_same (hI.same ((Same.upd w1).trans (Same.upd w2))) (hI.same ((Same.upd w1).trans (Same.upd w2))), ?_⟩
          rw [if_neg (fun h => h rfl)]
          exact ⟨_, _, _, _, _, _, rfl, hW2.same ((Same.upd w1).trans (Same.upd w2))⟩
    · obtain ⟨t3, t4, t5, t6, t7, t8, rfl, hW⟩ := z
      refine Eq.mpr (hC3 _ _) ?_
      rw [← hCs] at KT
      refine seq_gen fun D1 hD1 => ?_
      simp only [cxK, wipe, tYes, List.map_cons, List.map_nil, rIxL, rSum, tSl, rSlL, tNoPart, tPart, exists_and_left, and_assoc, V.ref.injEq, HO.lst.injEq, HO.tup.injEq, tFor_eq, iRng1, iRng2, iList, iTup, tLc_eq, tLst, tTup, gSub, rSetL, gT, gL, gTup, gCons, gNil, atI_0, atI_1, atI_2, atI_3, List.length_cons, List.length_nil, Nat.zero_add, Nat.reduceAdd, Nat.reduceLeDiff, ixN_30, ixN_31, ixN_32, Int.reduceLT, Int.reduceLE, Int.reduceNeg, upd_same, reduceCtorEq, false_and, exists_false, or_false, false_or, tNext, tIfS, tRet, tRetN, tDrop, tAsg, gName, tPar, tPar3, tAug, ipI, tVar, tC, tOp, tUn, tCB, tD, tDK, tCons, tNil, rI, rI0, rU, tB, tTest, tAnd, tOr, tNot, tAndV, tOrV, tNotV, tIf, rEq, rNe, scal_ii, scal_bb, scal_ss, rGcd_eq, tBits, List.set_cons_zero, List.set_cons_succ, List.getElem?_cons_zero, List.getElem?_cons_succ, Option.some.injEq, exists_eq_left', V.int.injEq, V.bl.injEq, V.str.injEq, true_and, and_true, decide_eq_true_eq, List.cons.injEq, exists_eq_left, Bool.false_eq_true, if_false, if_true, ite_true, ite_false, Bool.not_eq_true', decide_eq_false_iff_not, Bool.not_not]
      refine bare_mk (KT.xf C_InvalidMeasure (by simp)) (KT.nv C_InvalidMeasure (by simp)) (fun J1 j1 => ?_)
      refine bare_mk (KT.xf C_InvalidNumber (by simp)) (KT.nv C_InvalidNumber (by simp)) (fun J2 j2 => ?_)
      refine bare_mk (KT.xf C_InvalidRoot (by simp)) (KT.nv C_InvalidRoot (by simp)) (fun J3 j3 => ?_)
      refine bare_mk (KT.xf C_InvalidCutting (by simp)) (KT.nv C_InvalidCutting (by simp)) (fun J4 j4 => ?_)
      refine bare_mk (KT.xf C_InvalidDeed (by simp)) (KT.nv C_InvalidDeed (by simp)) (fun J5 j5 => ?_)
      refine bare_mk (KT.xf C_InvalidWord (by simp)) (KT.nv C_InvalidWord (by simp)) (fun J6 j6 => ?_)
      refine ⟨by decide, fun L1 n1 => ?_⟩
      refine Eq.mpr (hD1 _ _) ?_
      refine seq_gen fun D2 hD2 => ?_
      simp only [cxK, wipe, tYes, List.map_cons, List.map_nil, rIxL, rSum, tSl, rSlL, tNoPart, tPart, exists_and_left, and_assoc, V.ref.injEq, HO.lst.injEq, HO.tup.injEq, tFor_eq, iRng1, iRng2, iList, iTup, tLc_eq, tLst, tTup, gSub, rSetL, gT, gL, gTup, gCons, gNil, atI_0, atI_1, atI_2, atI_3, List.length_cons, List.length_nil, Nat.zero_add, Nat.reduceAdd, Nat.reduceLeDiff, ixN_30, ixN_31, ixN_32, Int.reduceLT, Int.reduceLE, Int.reduceNeg, upd_same, reduceCtorEq, false_and, exists_false, or_false, false_or, tNext, tIfS, tRet, tRetN, tDrop, tAsg, gName, tPar, tPar3, tAug, ipI, tVar, tC, tOp, tUn, tCB, tD, tDK, tCons, tNil, rI, rI0, rU, tB, tTest, tAnd, tOr, tNot, tAndV, tOrV, tNotV, tIf, rEq, rNe, scal_ii, scal_bb, scal_ss, rGcd_eq, tBits, List.set_cons_zero, List.set_cons_succ, List.getElem?_cons_zero, List.getElem?_cons_succ, Option.some.injEq, exists_eq_left', V.int.injEq, V.bl.injEq, V.str.injEq, true_and, and_true, decide_eq_true_eq, List.cons.injEq, exists_eq_left, Bool.false_eq_true, if_false, if_true, ite_true, ite_false, Bool.not_eq_true', decide_eq_false_iff_not, Bool.not_not]
      refine bare_mk (KT.xf C_InvalidList (by simp)) (KT.nv C_InvalidList (by simp)) (fun J7 j7 => ?_)
      refine bare_mk (KT.xf C_InvalidPoint (by simp)) (KT.nv C_InvalidPoint (by simp)) (fun J8 j8 => ?_)
      refine bare_mk (KT.xf C_InvalidTable (by simp)) (KT.nv C_InvalidTable (by simp)) (fun J9 j9 => ?_)
      refine bare_mk (KT.xf C_InvalidFloor (by simp)) (KT.nv C_InvalidFloor (by simp)) (fun J10 j10 => ?_)
      refine bare_mk (KT.xf C_Unlike (by simp)) (KT.nv C_Unlike (by simp)) (fun J11 j11 => ?_)
      refine bare_mk (KT.xf C_TooMany (by simp)) (KT.nv C_TooMany (by simp)) (fun J12 j12 => ?_)
      refine ⟨by decide, fun L2 n2 => ?_⟩
      have eL1 : (upd J12 L2 (.lst [V.non, V.non, V.non, V.non, V.non, V.non])) L1 = some (.lst [V.non, V.non, V.non, V.non, V.non, V.non]) := (Same.upd n2) _ _ (j12 _ _ (j11 _ _ (j10 _ _ (j9 _ _ (j8 _ _ (j7 _ _ upd_same))))))
      refine ⟨L1, L2, _, _, rfl, rfl, eL1, upd_same, (show 12 ≤ sizeLine by decide), fun L3 n3 => ?_⟩
      have e3 : (upd (upd J12 L2 (.lst [V.non, V.non, V.non, V.non, V.non, V.non])) L3 (.lst ([V.non, V.non, V.non, V.non, V.non, V.non] ++ [V.non, V.non, V.non, V.non, V.non, V.non]))) L3 = some (.lst ([V.non, V.non, V.non, V.non, V.non, V.non] ++ [V.non, V.non, V.non, V.non, V.non, V.non])) := upd_same
      generalize upd (upd J12 L2 (.lst [V.non, V.non, V.non, V.non, V.non, V.non])) L3 (.lst ([V.non, V.non, V.non, V.non, V.non, V.non] ++ [V.non, V.non, V.non, V.non, V.non, V.non])) = h3 at *
      refine Eq.mpr (hD2 _ _) ?_
      refine seq_gen fun D3 hD3 => ?_
      simp only [cxK, wipe, tYes, List.map_cons, List.map_nil, rIxL, rSum, tSl, rSlL, tNoPart, tPart, exists_and_left, and_assoc, V.ref.injEq, HO.lst.injEq, HO.tup.injEq, tFor_eq, iRng1, iRng2, iList, iTup, tLc_eq, tLst, tTup, gSub, rSetL, gT, gL, gTup, gCons, gNil, atI_0, atI_1, atI_2, atI_3, List.length_cons, List.length_nil, Nat.zero_add, Nat.reduceAdd, Nat.reduceLeDiff, ixN_30, ixN_31, ixN_32, Int.reduceLT, Int.reduceLE, Int.reduceNeg, upd_same, reduceCtorEq, false_and, exists_false, or_false, false_or, tNext, tIfS, tRet, tRetN, tDrop, tAsg, gName, tPar, tPar3, tAug, ipI, tVar, tC, tOp, tUn, tCB, tD, tDK, tCons, tNil, rI, rI0, rU, tB, tTest, tAnd, tOr, tNot, tAndV, tOrV, tNotV, tIf, rEq, rNe, scal_ii, scal_bb, scal_ss, rGcd_eq, tBits, List.set_cons_zero, List.set_cons_succ, List.getElem?_cons_zero, List.getElem?_cons_succ, Option.some.injEq, exists_eq_left', V.int.injEq, V.bl.injEq, V.str.injEq, true_and, and_true, decide_eq_true_eq, List.cons.injEq, exists_eq_left, Bool.false_eq_true, if_false, if_true, ite_true, ite_false, Bool.not_eq_true', decide_eq_false_iff_not, Bool.not_not, tXn, tNewK]
      refine ⟨⟨_, SqL.of e3⟩, fun Dd nD => ?_⟩
      refine lcW_list (xs := [V.non, V.non, V.non, V.non, V.non, V.non] ++ [V.non, V.non, V.non, V.non, V.non, V.non]) (InvE02 h3 Dd) ⟨Same.upd nD, upd_same⟩ (fun j HA _ z => SqL.of (z.1 _ _ e3)) ?_ ?_
      · rintro j y HA hy ⟨sA, fA⟩
        have hm := List.mem_of_getElem? hy
        have hy2 : y = V.non := by
          simp only [List.mem_append, List.mem_cons, List.not_mem_nil, or_false, or_self] at hm
          exact hm
        subst hy2
        refine ⟨rfl, ?_⟩
        simp only [cxK, wipe, tYes, List.map_cons, List.map_nil, rIxL, rSum, tSl, rSlL, tNoPart, tPart, exists_and_left, and_assoc, V.ref.injEq, HO.lst.injEq, HO.tup.injEq, tFor_eq, iRng1, iRng2, iList, iTup, tLc_eq, tLst, tTup, gSub, rSetL, gT, gL, gTup, gCons, gNil, atI_0, atI_1, atI_2, atI_3, List.length_cons, List.length_nil, Nat.zero_add, Nat.reduceAdd, Nat.reduceLeDiff, ixN_30, ixN_31, ixN_32, Int.reduceLT, Int.reduceLE, Int.reduceNeg, upd_same, reduceCtorEq, false_and, exists_false, or_false, false_or, tSeq, tNext, tIfS, tRet, tRetN, tDrop, tAsg, gName, tPar, tPar3, tAug, ipI, tVar, tC, tOp, tUn, tCB, tD, tDK, tCons, tNil, rI, rI0, rU, tB, tTest, tAnd, tOr, tNot, tAndV, tOrV, tNotV, tIf, rEq, rNe, scal_ii, scal_bb, scal_ss, rGcd_eq, tBits, List.set_cons_zero, List.set_cons_succ, List.getElem?_cons_zero, List.getElem?_cons_succ, Option.some.injEq, exists_eq_left', V.int.injEq, V.bl.injEq, V.str.injEq, true_and, and_true, decide_eq_true_eq, List.cons.injEq, exists_eq_left, Bool.false_eq_true, if_false, if_true, ite_true, ite_false, Bool.not_eq_true', decide_eq_false_iff_not, Bool.not_not]
        exact ⟨sA, fA⟩
      · rintro HA ⟨sA, fA⟩
        refine ⟨by decide, fun E nE => ?_⟩
        refine ne_nil ((Same.upd nE) _ _ fA) upd_same ⟨false, rfl, ?_⟩
        rw [if_neg (by decide)]
        refine fun b1 d1 HB m1 => ⟨C_TooMany, d1, m1.ea, KT.xf C_TooMany (by simp), KT.nv C_TooMany (by simp), _, m1.ed, _, look1, ?_⟩
        refine ⟨.int 7, .int 7, .int _, .int _, rfl, rfl, false, rfl, ?_⟩
        rw [if_neg (by decide)]
        refine ⟨by decide, fun p5 n5 b2 d2 HC m2 => ⟨C_InvalidFloor, d2, m2.ea, KT.xf C_InvalidFloor (by simp), KT.nv C_InvalidFloor (by simp), _, m2.ed, _, look1, by decide, fun p6 n6 => ?_⟩⟩
        refine ⟨.tuple [.int 1], .tuple [.int 1], .tup (SqT.of ((Same.upd n6) _ _ (m2.sm _ _ upd_same))) (.cons (.int 1) .nil), .tup (SqT.of upd_same) (.cons (.int 1) .nil), rfl, rfl, false, rfl, ?_⟩
        rw [if_neg (by decide)]
        refine Eq.mpr (hD3 _ _) ?_
        simp only [cxK, wipe, tYes, List.map_cons, List.map_nil, rIxL, rSum, tSl, rSlL, tNoPart, tPart, exists_and_left, and_assoc, V.ref.injEq, HO.lst.injEq, HO.tup.injEq, tFor_eq, iRng1, iRng2, iList, iTup, tLc_eq, tLst, tTup, gSub, rSetL, gT, gL, gTup, gCons, gNil, atI_0, atI_1, atI_2, atI_3, List.length_cons, List.length_nil, Nat.zero_add, Nat.reduceAdd, Nat.reduceLeDiff, ixN_30, ixN_31, ixN_32, Int.reduceLT, Int.reduceLE, Int.reduceNeg, upd_same, reduceCtorEq, false_and, exists_false, or_false, false_or, tSeq, tNext, tIfS, tRet, tRetN, tDrop, tAsg, gName, tPar, tPar3, tAug, ipI, tVar, tC, tOp, tUn, tCB, tD, tDK, tCons, tNil, rI, rI0, rU, tB, tTest, tAnd, tOr, tNot, tAndV, tOrV, tNotV, tIf, rEq, rNe, scal_ii, scal_bb, scal_ss, rGcd_eq, tBits, List.set_cons_zero, List.set_cons_succ, List.getElem?_cons_zero, List.getElem?_cons_succ, Option.some.injEq, exists_eq_left', V.int.injEq, V.bl.injEq, V.str.injEq, true_and, and_true, decide_eq_true_eq, List.cons.injEq, exists_eq_left, Bool.false_eq_true, if_false, if_true, ite_true, ite_false, Bool.not_eq_true', decide_eq_false_iff_not, Bool.not_not, tNewP]
        refine fun s1 w1 => isAe (.inr upd_same) E_SheetError.ec (fun _ h => h) KT.sv ⟨true, rfl, ?_⟩
        rw [if_pos rfl]
        refine fun s2 w2 => ⟨s2, C_SheetError, List.replicate 12 false, rfl, .inr upd_same, E_SheetError.ec, by simp, fun j b D hb hD => ?_, fun L4 HD sD eL4 => ⟨by decide, fun p7 n7 => ?_⟩⟩
        · have hm := List.mem_of_getElem? hb
          rw [List.mem_replicate] at hm
          rw [hm.2]
          exact KT.sc D (List.mem_of_getElem? hD)
        · refine ⟨p7, 12, _, rfl, rfl, upd_same, by decide, by decide, (show 12 ≤ sizeLine by decide), fun p8 n8 => ?_⟩
          exact eq_bools (List.replicate 12 false) ((Same.upd n8) _ _ ((Same.upd n7) _ _ eL4)) upd_same (kk _)

end
theorem all_mk {l : PySem.W.OpenLaw} {w : World} {K : PySem.W.Frag} {h : Heap} {mg : Str → Option Value} {fa : Addr} (X : K.In h) (G : h.Ns mainGlobals mg) (hfa : mg "law" = some (.ref fa))
    {od0 an0 : Option Addr} {sl0 : Array (Option Value)} {oc0 kV0 dc0 pm0 cd0 ct0 : Value} {f0 : Addr} (a0 : PySem.W.nsIn K mainGlobals "_law_hash" = some (some (.ref f0))) (l0 : K.lookup f0 = some ⟨oc0, od0, .func (PySem.W.fnOf "_law_hash" "_law_hash" (defArgs s_LawHash) (defBody s_LawHash) (defScope s_LawHash) .none kV0 dc0 pm0 an0 cd0 ct0), sl0⟩) (c0 : PySem.W.codeIn K cd0 "_law_hash" = true) (k0 : PySem.W.keepIn K (.ref f0) = true)
    {od1 an1 : Option Addr} {sl1 : Array (Option Value)} {oc1 kV1 dc1 pm1 cd1 ct1 : Value} {f1 : Addr} (a1 : PySem.W.nsIn K mainGlobals "_law_cell" = some (some (.ref f1))) (l1 : K.lookup f1 = some ⟨oc1, od1, .func (PySem.W.fnOf "_law_cell" "_law_cell" (defArgs s_LawCell) (defBody s_LawCell) (defScope s_LawCell) .none kV1 dc1 pm1 an1 cd1 ct1), sl1⟩) (c1 : PySem.W.codeIn K cd1 "_law_cell" = true) (k1 : PySem.W.keepIn K (.ref f1) = true)
    {od2 an2 : Option Addr} {sl2 : Array (Option Value)} {oc2 kV2 dc2 pm2 cd2 ct2 : Value} {f2 : Addr} (a2 : PySem.W.nsIn K mainGlobals "_law_flags" = some (some (.ref f2))) (l2 : K.lookup f2 = some ⟨oc2, od2, .func (PySem.W.fnOf "_law_flags" "_law_flags" (defArgs s_LawFlags) (defBody s_LawFlags) (defScope s_LawFlags) .none kV2 dc2 pm2 an2 cd2 ct2), sl2⟩) (c2 : PySem.W.codeIn K cd2 "_law_flags" = true) (k2 : PySem.W.keepIn K (.ref f2) = true)
    {od3 an3 : Option Addr} {sl3 : Array (Option Value)} {oc3 kV3 dc3 pm3 cd3 ct3 : Value} {f3 : Addr} (a3 : PySem.W.nsIn K mainGlobals "_law_random" = some (some (.ref f3))) (l3 : K.lookup f3 = some ⟨oc3, od3, .func (PySem.W.fnOf "_law_random" "_law_random" (defArgs s_LawRandom) (defBody s_LawRandom) (defScope s_LawRandom) .none kV3 dc3 pm3 an3 cd3 ct3), sl3⟩) (c3 : PySem.W.codeIn K cd3 "_law_random" = true) (k3 : PySem.W.keepIn K (.ref f3) = true)
    {od4 an4 : Option Addr} {sl4 : Array (Option Value)} {oc4 kV4 dc4 pm4 cd4 ct4 : Value} {f4 : Addr} (a4 : PySem.W.nsIn K mainGlobals "_law_generator" = some (some (.ref f4))) (l4 : K.lookup f4 = some ⟨oc4, od4, .func (PySem.W.fnOf "_law_generator" "_law_generator" (defArgs s_LawGenerator) (defBody s_LawGenerator) (defScope s_LawGenerator) .none kV4 dc4 pm4 an4 cd4 ct4), sl4⟩) (c4 : PySem.W.codeIn K cd4 "_law_generator" = true) (k4 : PySem.W.keepIn K (.ref f4) = true)
    {od5 an5 : Option Addr} {sl5 : Array (Option Value)} {oc5 kV5 dc5 pm5 cd5 ct5 : Value} {f5 : Addr} (a5 : PySem.W.nsIn K mainGlobals "_law_first" = some (some (.ref f5))) (l5 : K.lookup f5 = some ⟨oc5, od5, .func (PySem.W.fnOf "_law_first" "_law_first" (defArgs s_LawFirst) (defBody s_LawFirst) (defScope s_LawFirst) .none kV5 dc5 pm5 an5 cd5 ct5), sl5⟩) (c5 : PySem.W.codeIn K cd5 "_law_first" = true) (k5 : PySem.W.keepIn K (.ref f5) = true)
    {od6 an6 : Option Addr} {sl6 : Array (Option Value)} {oc6 kV6 dc6 pm6 cd6 ct6 : Value} {f6 : Addr} (a6 : PySem.W.nsIn K mainGlobals "_law_second" = some (some (.ref f6))) (l6 : K.lookup f6 = some ⟨oc6, od6, .func (PySem.W.fnOf "_law_second" "_law_second" (defArgs s_LawSecond) (defBody s_LawSecond) (defScope s_LawSecond) .none kV6 dc6 pm6 an6 cd6 ct6), sl6⟩) (c6 : PySem.W.codeIn K cd6 "_law_second" = true) (k6 : PySem.W.keepIn K (.ref f6) = true)
    {od7 an7 : Option Addr} {sl7 : Array (Option Value)} {oc7 kV7 dc7 pm7 cd7 ct7 : Value} {f7 : Addr} (a7 : PySem.W.nsIn K mainGlobals "_law_made" = some (some (.ref f7))) (l7 : K.lookup f7 = some ⟨oc7, od7, .func (PySem.W.fnOf "_law_made" "_law_made" (defArgs s_LawMade) (defBody s_LawMade) (defScope s_LawMade) .none kV7 dc7 pm7 an7 cd7 ct7), sl7⟩) (c7 : PySem.W.codeIn K cd7 "_law_made" = true) (k7 : PySem.W.keepIn K (.ref f7) = true)
    {od8 an8 : Option Addr} {sl8 : Array (Option Value)} {oc8 kV8 dc8 pm8 cd8 ct8 : Value} {f8 : Addr} (a8 : PySem.W.nsIn K mainGlobals "law" = some (some (.ref f8))) (l8 : K.lookup f8 = some ⟨oc8, od8, .func (PySem.W.fnOf "law" "law" (defArgs s_Law) (defBody s_Law) (defScope s_Law) .none kV8 dc8 pm8 an8 cd8 ct8), sl8⟩) (c8 : PySem.W.codeIn K cd8 "law" = true) (k8 : PySem.W.keepIn K (.ref f8) = true) (z_ValueError : PySem.W.nsIn K mainGlobals "ValueError" = some none) (z_int : PySem.W.nsIn K mainGlobals "int" = some none) (z_isinstance : PySem.W.nsIn K mainGlobals "isinstance" = some none) (z_len : PySem.W.nsIn K mainGlobals "len" = some none) (z_list : PySem.W.nsIn K mainGlobals "list" = some none) (z_max : PySem.W.nsIn K mainGlobals "max" = some none) (z_range : PySem.W.nsIn K mainGlobals "range" = some none) (z_repr : PySem.W.nsIn K mainGlobals "repr" = some none) (z_sum : PySem.W.nsIn K mainGlobals "sum" = some none)
    {C_SheetError : Addr} (aC_SheetError : PySem.W.nsIn K mainGlobals "SheetError" = some (some (.ref C_SheetError))) (xS_SheetError : PySem.W.excIn K C_SheetError [.type "ValueError", .type "Exception", .type "BaseException", .type "object"] "ValueError.__new__" = true) (hn_g : PySem.W.specialIn K (.builtin "object.__class__") "__get__" = some (some (.builtin "getset_descriptor.__get__"))) (ht_g : PySem.W.takesIn K (.builtin "object.__class__") = some true) (ga_SheetError : PySem.W.findIn K (.ref C_SheetError) "__getattribute__" = some (some (.builtin "BaseException.__getattribute__"))) (gg_SheetError : PySem.W.findIn K (.ref C_SheetError) "__getattr__" = some none) (hc_SheetError : PySem.W.findIn K (.ref C_SheetError) "__class__" = some (some (.builtin "object.__class__"))) (kC_SheetError : PySem.W.keepIn K (.ref C_SheetError) = true) (eC_SheetError : PySem.W.subIn K (.ref C_SheetError) (.type "BaseException") = some true) (tC_SheetError : PySem.W.typeIn K (.ref C_SheetError) = some (.type "type")) (hD_SheetError : PySem.W.hasDictIn K C_SheetError = true) (iS_SheetError : PySem.W.isClsIn K C_SheetError = true) (mo_SheetError : PySem.W.mroIn K C_SheetError (.type "object") = some true) (sv_SheetError : PySem.W.subIn K (.ref C_SheetError) (.type "ValueError") = some true)
    {C_InvalidMeasure f_InvalidMeasure t_InvalidMeasure N_InvalidMeasure : Addr} {nm_InvalidMeasure q_InvalidMeasure : Str} {bs_InvalidMeasure sub_InvalidMeasure : List Value} {sn_InvalidMeasure : List Str} {ab_InvalidMeasure : Bool} {col_InvalidMeasure : Option Bool} {dd_InvalidMeasure od_InvalidMeasure an_InvalidMeasure tod_InvalidMeasure : Option Addr} {m0_InvalidMeasure m1_InvalidMeasure m2_InvalidMeasure m3_InvalidMeasure m5_InvalidMeasure : Option Value} {sl_InvalidMeasure tsl_InvalidMeasure : Array (Option Value)} {oc_InvalidMeasure kV_InvalidMeasure dc_InvalidMeasure pm_InvalidMeasure cd_InvalidMeasure ct_InvalidMeasure toc_InvalidMeasure : Value} {tn_InvalidMeasure : Nat} (aC_InvalidMeasure : PySem.W.nsIn K mainGlobals "InvalidMeasure" = some (some (.ref C_InvalidMeasure))) (xL_InvalidMeasure : K.lookup C_InvalidMeasure = some (PySem.excClassObj nm_InvalidMeasure q_InvalidMeasure C_InvalidMeasure N_InvalidMeasure bs_InvalidMeasure [.ref C_SheetError, .type "ValueError", .type "Exception", .type "BaseException", .type "object"] true sn_InvalidMeasure sub_InvalidMeasure ab_InvalidMeasure col_InvalidMeasure dd_InvalidMeasure m0_InvalidMeasure m1_InvalidMeasure m2_InvalidMeasure m3_InvalidMeasure m5_InvalidMeasure "ValueError.__new__")) (sa_InvalidMeasure : PySem.W.findIn K (.ref C_InvalidMeasure) "__setattr__" = some (some (.builtin "object.__setattr__"))) (nv_InvalidMeasure : PySem.W.findIn K (.ref C_InvalidMeasure) "value" = some none) (iC_InvalidMeasure : PySem.W.findIn K (.ref C_InvalidMeasure) "__init__" = some (some (.ref f_InvalidMeasure))) (tI_InvalidMeasure : PySem.W.typeIn K (.ref f_InvalidMeasure) = some (.type "function")) (l_InvalidMeasure : K.lookup f_InvalidMeasure = some ⟨oc_InvalidMeasure, od_InvalidMeasure, .func (PySem.W.fnOf "__init__" "InvalidMeasure.__init__" (defArgs s_iInvalidMeasure) (defBody s_iInvalidMeasure) (defScope s_iInvalidMeasure) (.ref t_InvalidMeasure) kV_InvalidMeasure dc_InvalidMeasure pm_InvalidMeasure an_InvalidMeasure cd_InvalidMeasure ct_InvalidMeasure), sl_InvalidMeasure⟩) (c_InvalidMeasure : PySem.W.codeIn K cd_InvalidMeasure "InvalidMeasure.__init__" = true) (kf_InvalidMeasure : PySem.W.keepIn K (.ref f_InvalidMeasure) = true) (lt_InvalidMeasure : K.lookup t_InvalidMeasure = some ⟨toc_InvalidMeasure, tod_InvalidMeasure, .seq (List.toArray [.none]) tn_InvalidMeasure, tsl_InvalidMeasure⟩) (ss_InvalidMeasure : PySem.W.subIn K (.ref C_InvalidMeasure) (.ref C_SheetError) = some true) (sf_InvalidMeasure : PySem.W.subIn K (.ref C_SheetError) (.ref C_InvalidMeasure) = some false) (ga_InvalidMeasure : PySem.W.findIn K (.ref C_InvalidMeasure) "__getattribute__" = some (some (.builtin "BaseException.__getattribute__"))) (gg_InvalidMeasure : PySem.W.findIn K (.ref C_InvalidMeasure) "__getattr__" = some none) (hc_InvalidMeasure : PySem.W.findIn K (.ref C_InvalidMeasure) "__class__" = some (some (.builtin "object.__class__"))) (kC_InvalidMeasure : PySem.W.keepIn K (.ref C_InvalidMeasure) = true) (eC_InvalidMeasure : PySem.W.subIn K (.ref C_InvalidMeasure) (.type "BaseException") = some true) (tC_InvalidMeasure : PySem.W.typeIn K (.ref C_InvalidMeasure) = some (.type "type")) (hD_InvalidMeasure : PySem.W.hasDictIn K C_InvalidMeasure = true) (iS_InvalidMeasure : PySem.W.isClsIn K C_InvalidMeasure = true) (mo_InvalidMeasure : PySem.W.mroIn K C_InvalidMeasure (.type "object") = some true) (sv_InvalidMeasure : PySem.W.subIn K (.ref C_InvalidMeasure) (.type "ValueError") = some true)
    {C_InvalidNumber f_InvalidNumber t_InvalidNumber N_InvalidNumber : Addr} {nm_InvalidNumber q_InvalidNumber : Str} {bs_InvalidNumber sub_InvalidNumber : List Value} {sn_InvalidNumber : List Str} {ab_InvalidNumber : Bool} {col_InvalidNumber : Option Bool} {dd_InvalidNumber od_InvalidNumber an_InvalidNumber tod_InvalidNumber : Option Addr} {m0_InvalidNumber m1_InvalidNumber m2_InvalidNumber m3_InvalidNumber m5_InvalidNumber : Option Value} {sl_InvalidNumber tsl_InvalidNumber : Array (Option Value)} {oc_InvalidNumber kV_InvalidNumber dc_InvalidNumber pm_InvalidNumber cd_InvalidNumber ct_InvalidNumber toc_InvalidNumber : Value} {tn_InvalidNumber : Nat} (aC_InvalidNumber : PySem.W.nsIn K mainGlobals "InvalidNumber" = some (some (.ref C_InvalidNumber))) (xL_InvalidNumber : K.lookup C_InvalidNumber = some (PySem.excClassObj nm_InvalidNumber q_InvalidNumber C_InvalidNumber N_InvalidNumber bs_InvalidNumber [.ref C_SheetError, .type "ValueError", .type "Exception", .type "BaseException", .type "object"] true sn_InvalidNumber sub_InvalidNumber ab_InvalidNumber col_InvalidNumber dd_InvalidNumber m0_InvalidNumber m1_InvalidNumber m2_InvalidNumber m3_InvalidNumber m5_InvalidNumber "ValueError.__new__")) (sa_InvalidNumber : PySem.W.findIn K (.ref C_InvalidNumber) "__setattr__" = some (some (.builtin "object.__setattr__"))) (nv_InvalidNumber : PySem.W.findIn K (.ref C_InvalidNumber) "value" = some none) (iC_InvalidNumber : PySem.W.findIn K (.ref C_InvalidNumber) "__init__" = some (some (.ref f_InvalidNumber))) (tI_InvalidNumber : PySem.W.typeIn K (.ref f_InvalidNumber) = some (.type "function")) (l_InvalidNumber : K.lookup f_InvalidNumber = some ⟨oc_InvalidNumber, od_InvalidNumber, .func (PySem.W.fnOf "__init__" "InvalidNumber.__init__" (defArgs s_iInvalidNumber) (defBody s_iInvalidNumber) (defScope s_iInvalidNumber) (.ref t_InvalidNumber) kV_InvalidNumber dc_InvalidNumber pm_InvalidNumber an_InvalidNumber cd_InvalidNumber ct_InvalidNumber), sl_InvalidNumber⟩) (c_InvalidNumber : PySem.W.codeIn K cd_InvalidNumber "InvalidNumber.__init__" = true) (kf_InvalidNumber : PySem.W.keepIn K (.ref f_InvalidNumber) = true) (lt_InvalidNumber : K.lookup t_InvalidNumber = some ⟨toc_InvalidNumber, tod_InvalidNumber, .seq (List.toArray [.none]) tn_InvalidNumber, tsl_InvalidNumber⟩) (ss_InvalidNumber : PySem.W.subIn K (.ref C_InvalidNumber) (.ref C_SheetError) = some true) (sf_InvalidNumber : PySem.W.subIn K (.ref C_SheetError) (.ref C_InvalidNumber) = some false) (ga_InvalidNumber : PySem.W.findIn K (.ref C_InvalidNumber) "__getattribute__" = some (some (.builtin "BaseException.__getattribute__"))) (gg_InvalidNumber : PySem.W.findIn K (.ref C_InvalidNumber) "__getattr__" = some none) (hc_InvalidNumber : PySem.W.findIn K (.ref C_InvalidNumber) "__class__" = some (some (.builtin "object.__class__"))) (kC_InvalidNumber : PySem.W.keepIn K (.ref C_InvalidNumber) = true) (eC_InvalidNumber : PySem.W.subIn K (.ref C_InvalidNumber) (.type "BaseException") = some true) (tC_InvalidNumber : PySem.W.typeIn K (.ref C_InvalidNumber) = some (.type "type")) (hD_InvalidNumber : PySem.W.hasDictIn K C_InvalidNumber = true) (iS_InvalidNumber : PySem.W.isClsIn K C_InvalidNumber = true) (mo_InvalidNumber : PySem.W.mroIn K C_InvalidNumber (.type "object") = some true) (sv_InvalidNumber : PySem.W.subIn K (.ref C_InvalidNumber) (.type "ValueError") = some true)
    {C_InvalidRoot f_InvalidRoot t_InvalidRoot N_InvalidRoot : Addr} {nm_InvalidRoot q_InvalidRoot : Str} {bs_InvalidRoot sub_InvalidRoot : List Value} {sn_InvalidRoot : List Str} {ab_InvalidRoot : Bool} {col_InvalidRoot : Option Bool} {dd_InvalidRoot od_InvalidRoot an_InvalidRoot tod_InvalidRoot : Option Addr} {m0_InvalidRoot m1_InvalidRoot m2_InvalidRoot m3_InvalidRoot m5_InvalidRoot : Option Value} {sl_InvalidRoot tsl_InvalidRoot : Array (Option Value)} {oc_InvalidRoot kV_InvalidRoot dc_InvalidRoot pm_InvalidRoot cd_InvalidRoot ct_InvalidRoot toc_InvalidRoot : Value} {tn_InvalidRoot : Nat} (aC_InvalidRoot : PySem.W.nsIn K mainGlobals "InvalidRoot" = some (some (.ref C_InvalidRoot))) (xL_InvalidRoot : K.lookup C_InvalidRoot = some (PySem.excClassObj nm_InvalidRoot q_InvalidRoot C_InvalidRoot N_InvalidRoot bs_InvalidRoot [.ref C_SheetError, .type "ValueError", .type "Exception", .type "BaseException", .type "object"] true sn_InvalidRoot sub_InvalidRoot ab_InvalidRoot col_InvalidRoot dd_InvalidRoot m0_InvalidRoot m1_InvalidRoot m2_InvalidRoot m3_InvalidRoot m5_InvalidRoot "ValueError.__new__")) (sa_InvalidRoot : PySem.W.findIn K (.ref C_InvalidRoot) "__setattr__" = some (some (.builtin "object.__setattr__"))) (nv_InvalidRoot : PySem.W.findIn K (.ref C_InvalidRoot) "value" = some none) (iC_InvalidRoot : PySem.W.findIn K (.ref C_InvalidRoot) "__init__" = some (some (.ref f_InvalidRoot))) (tI_InvalidRoot : PySem.W.typeIn K (.ref f_InvalidRoot) = some (.type "function")) (l_InvalidRoot : K.lookup f_InvalidRoot = some ⟨oc_InvalidRoot, od_InvalidRoot, .func (PySem.W.fnOf "__init__" "InvalidRoot.__init__" (defArgs s_iInvalidRoot) (defBody s_iInvalidRoot) (defScope s_iInvalidRoot) (.ref t_InvalidRoot) kV_InvalidRoot dc_InvalidRoot pm_InvalidRoot an_InvalidRoot cd_InvalidRoot ct_InvalidRoot), sl_InvalidRoot⟩) (c_InvalidRoot : PySem.W.codeIn K cd_InvalidRoot "InvalidRoot.__init__" = true) (kf_InvalidRoot : PySem.W.keepIn K (.ref f_InvalidRoot) = true) (lt_InvalidRoot : K.lookup t_InvalidRoot = some ⟨toc_InvalidRoot, tod_InvalidRoot, .seq (List.toArray [.none]) tn_InvalidRoot, tsl_InvalidRoot⟩) (ss_InvalidRoot : PySem.W.subIn K (.ref C_InvalidRoot) (.ref C_SheetError) = some true) (sf_InvalidRoot : PySem.W.subIn K (.ref C_SheetError) (.ref C_InvalidRoot) = some false) (ga_InvalidRoot : PySem.W.findIn K (.ref C_InvalidRoot) "__getattribute__" = some (some (.builtin "BaseException.__getattribute__"))) (gg_InvalidRoot : PySem.W.findIn K (.ref C_InvalidRoot) "__getattr__" = some none) (hc_InvalidRoot : PySem.W.findIn K (.ref C_InvalidRoot) "__class__" = some (some (.builtin "object.__class__"))) (kC_InvalidRoot : PySem.W.keepIn K (.ref C_InvalidRoot) = true) (eC_InvalidRoot : PySem.W.subIn K (.ref C_InvalidRoot) (.type "BaseException") = some true) (tC_InvalidRoot : PySem.W.typeIn K (.ref C_InvalidRoot) = some (.type "type")) (hD_InvalidRoot : PySem.W.hasDictIn K C_InvalidRoot = true) (iS_InvalidRoot : PySem.W.isClsIn K C_InvalidRoot = true) (mo_InvalidRoot : PySem.W.mroIn K C_InvalidRoot (.type "object") = some true) (sv_InvalidRoot : PySem.W.subIn K (.ref C_InvalidRoot) (.type "ValueError") = some true)
    {C_InvalidCutting f_InvalidCutting t_InvalidCutting N_InvalidCutting : Addr} {nm_InvalidCutting q_InvalidCutting : Str} {bs_InvalidCutting sub_InvalidCutting : List Value} {sn_InvalidCutting : List Str} {ab_InvalidCutting : Bool} {col_InvalidCutting : Option Bool} {dd_InvalidCutting od_InvalidCutting an_InvalidCutting tod_InvalidCutting : Option Addr} {m0_InvalidCutting m1_InvalidCutting m2_InvalidCutting m3_InvalidCutting m5_InvalidCutting : Option Value} {sl_InvalidCutting tsl_InvalidCutting : Array (Option Value)} {oc_InvalidCutting kV_InvalidCutting dc_InvalidCutting pm_InvalidCutting cd_InvalidCutting ct_InvalidCutting toc_InvalidCutting : Value} {tn_InvalidCutting : Nat} (aC_InvalidCutting : PySem.W.nsIn K mainGlobals "InvalidCutting" = some (some (.ref C_InvalidCutting))) (xL_InvalidCutting : K.lookup C_InvalidCutting = some (PySem.excClassObj nm_InvalidCutting q_InvalidCutting C_InvalidCutting N_InvalidCutting bs_InvalidCutting [.ref C_SheetError, .type "ValueError", .type "Exception", .type "BaseException", .type "object"] true sn_InvalidCutting sub_InvalidCutting ab_InvalidCutting col_InvalidCutting dd_InvalidCutting m0_InvalidCutting m1_InvalidCutting m2_InvalidCutting m3_InvalidCutting m5_InvalidCutting "ValueError.__new__")) (sa_InvalidCutting : PySem.W.findIn K (.ref C_InvalidCutting) "__setattr__" = some (some (.builtin "object.__setattr__"))) (nv_InvalidCutting : PySem.W.findIn K (.ref C_InvalidCutting) "value" = some none) (iC_InvalidCutting : PySem.W.findIn K (.ref C_InvalidCutting) "__init__" = some (some (.ref f_InvalidCutting))) (tI_InvalidCutting : PySem.W.typeIn K (.ref f_InvalidCutting) = some (.type "function")) (l_InvalidCutting : K.lookup f_InvalidCutting = some ⟨oc_InvalidCutting, od_InvalidCutting, .func (PySem.W.fnOf "__init__" "InvalidCutting.__init__" (defArgs s_iInvalidCutting) (defBody s_iInvalidCutting) (defScope s_iInvalidCutting) (.ref t_InvalidCutting) kV_InvalidCutting dc_InvalidCutting pm_InvalidCutting an_InvalidCutting cd_InvalidCutting ct_InvalidCutting), sl_InvalidCutting⟩) (c_InvalidCutting : PySem.W.codeIn K cd_InvalidCutting "InvalidCutting.__init__" = true) (kf_InvalidCutting : PySem.W.keepIn K (.ref f_InvalidCutting) = true) (lt_InvalidCutting : K.lookup t_InvalidCutting = some ⟨toc_InvalidCutting, tod_InvalidCutting, .seq (List.toArray [.none]) tn_InvalidCutting, tsl_InvalidCutting⟩) (ss_InvalidCutting : PySem.W.subIn K (.ref C_InvalidCutting) (.ref C_SheetError) = some true) (sf_InvalidCutting : PySem.W.subIn K (.ref C_SheetError) (.ref C_InvalidCutting) = some false) (ga_InvalidCutting : PySem.W.findIn K (.ref C_InvalidCutting) "__getattribute__" = some (some (.builtin "BaseException.__getattribute__"))) (gg_InvalidCutting : PySem.W.findIn K (.ref C_InvalidCutting) "__getattr__" = some none) (hc_InvalidCutting : PySem.W.findIn K (.ref C_InvalidCutting) "__class__" = some (some (.builtin "object.__class__"))) (kC_InvalidCutting : PySem.W.keepIn K (.ref C_InvalidCutting) = true) (eC_InvalidCutting : PySem.W.subIn K (.ref C_InvalidCutting) (.type "BaseException") = some true) (tC_InvalidCutting : PySem.W.typeIn K (.ref C_InvalidCutting) = some (.type "type")) (hD_InvalidCutting : PySem.W.hasDictIn K C_InvalidCutting = true) (iS_InvalidCutting : PySem.W.isClsIn K C_InvalidCutting = true) (mo_InvalidCutting : PySem.W.mroIn K C_InvalidCutting (.type "object") = some true) (sv_InvalidCutting : PySem.W.subIn K (.ref C_InvalidCutting) (.type "ValueError") = some true)
    {C_InvalidDeed f_InvalidDeed t_InvalidDeed N_InvalidDeed : Addr} {nm_InvalidDeed q_InvalidDeed : Str} {bs_InvalidDeed sub_InvalidDeed : List Value} {sn_InvalidDeed : List Str} {ab_InvalidDeed : Bool} {col_InvalidDeed : Option Bool} {dd_InvalidDeed od_InvalidDeed an_InvalidDeed tod_InvalidDeed : Option Addr} {m0_InvalidDeed m1_InvalidDeed m2_InvalidDeed m3_InvalidDeed m5_InvalidDeed : Option Value} {sl_InvalidDeed tsl_InvalidDeed : Array (Option Value)} {oc_InvalidDeed kV_InvalidDeed dc_InvalidDeed pm_InvalidDeed cd_InvalidDeed ct_InvalidDeed toc_InvalidDeed : Value} {tn_InvalidDeed : Nat} (aC_InvalidDeed : PySem.W.nsIn K mainGlobals "InvalidDeed" = some (some (.ref C_InvalidDeed))) (xL_InvalidDeed : K.lookup C_InvalidDeed = some (PySem.excClassObj nm_InvalidDeed q_InvalidDeed C_InvalidDeed N_InvalidDeed bs_InvalidDeed [.ref C_SheetError, .type "ValueError", .type "Exception", .type "BaseException", .type "object"] true sn_InvalidDeed sub_InvalidDeed ab_InvalidDeed col_InvalidDeed dd_InvalidDeed m0_InvalidDeed m1_InvalidDeed m2_InvalidDeed m3_InvalidDeed m5_InvalidDeed "ValueError.__new__")) (sa_InvalidDeed : PySem.W.findIn K (.ref C_InvalidDeed) "__setattr__" = some (some (.builtin "object.__setattr__"))) (nv_InvalidDeed : PySem.W.findIn K (.ref C_InvalidDeed) "value" = some none) (iC_InvalidDeed : PySem.W.findIn K (.ref C_InvalidDeed) "__init__" = some (some (.ref f_InvalidDeed))) (tI_InvalidDeed : PySem.W.typeIn K (.ref f_InvalidDeed) = some (.type "function")) (l_InvalidDeed : K.lookup f_InvalidDeed = some ⟨oc_InvalidDeed, od_InvalidDeed, .func (PySem.W.fnOf "__init__" "InvalidDeed.__init__" (defArgs s_iInvalidDeed) (defBody s_iInvalidDeed) (defScope s_iInvalidDeed) (.ref t_InvalidDeed) kV_InvalidDeed dc_InvalidDeed pm_InvalidDeed an_InvalidDeed cd_InvalidDeed ct_InvalidDeed), sl_InvalidDeed⟩) (c_InvalidDeed : PySem.W.codeIn K cd_InvalidDeed "InvalidDeed.__init__" = true) (kf_InvalidDeed : PySem.W.keepIn K (.ref f_InvalidDeed) = true) (lt_InvalidDeed : K.lookup t_InvalidDeed = some ⟨toc_InvalidDeed, tod_InvalidDeed, .seq (List.toArray [.none]) tn_InvalidDeed, tsl_InvalidDeed⟩) (ss_InvalidDeed : PySem.W.subIn K (.ref C_InvalidDeed) (.ref C_SheetError) = some true) (sf_InvalidDeed : PySem.W.subIn K (.ref C_SheetError) (.ref C_InvalidDeed) = some false) (ga_InvalidDeed : PySem.W.findIn K (.ref C_InvalidDeed) "__getattribute__" = some (some (.builtin "BaseException.__getattribute__"))) (gg_InvalidDeed : PySem.W.findIn K (.ref C_InvalidDeed) "__getattr__" = some none) (hc_InvalidDeed : PySem.W.findIn K (.ref C_InvalidDeed) "__class__" = some (some (.builtin "object.__class__"))) (kC_InvalidDeed : PySem.W.keepIn K (.ref C_InvalidDeed) = true) (eC_InvalidDeed : PySem.W.subIn K (.ref C_InvalidDeed) (.type "BaseException") = some true) (tC_InvalidDeed : PySem.W.typeIn K (.ref C_InvalidDeed) = some (.type "type")) (hD_InvalidDeed : PySem.W.hasDictIn K C_InvalidDeed = true) (iS_InvalidDeed : PySem.W.isClsIn K C_InvalidDeed = true) (mo_InvalidDeed : PySem.W.mroIn K C_InvalidDeed (.type "object") = some true) (sv_InvalidDeed : PySem.W.subIn K (.ref C_InvalidDeed) (.type "ValueError") = some true)
    {C_InvalidWord f_InvalidWord t_InvalidWord N_InvalidWord : Addr} {nm_InvalidWord q_InvalidWord : Str} {bs_InvalidWord sub_InvalidWord : List Value} {sn_InvalidWord : List Str} {ab_InvalidWord : Bool} {col_InvalidWord : Option Bool} {dd_InvalidWord od_InvalidWord an_InvalidWord tod_InvalidWord : Option Addr} {m0_InvalidWord m1_InvalidWord m2_InvalidWord m3_InvalidWord m5_InvalidWord : Option Value} {sl_InvalidWord tsl_InvalidWord : Array (Option Value)} {oc_InvalidWord kV_InvalidWord dc_InvalidWord pm_InvalidWord cd_InvalidWord ct_InvalidWord toc_InvalidWord : Value} {tn_InvalidWord : Nat} (aC_InvalidWord : PySem.W.nsIn K mainGlobals "InvalidWord" = some (some (.ref C_InvalidWord))) (xL_InvalidWord : K.lookup C_InvalidWord = some (PySem.excClassObj nm_InvalidWord q_InvalidWord C_InvalidWord N_InvalidWord bs_InvalidWord [.ref C_SheetError, .type "ValueError", .type "Exception", .type "BaseException", .type "object"] true sn_InvalidWord sub_InvalidWord ab_InvalidWord col_InvalidWord dd_InvalidWord m0_InvalidWord m1_InvalidWord m2_InvalidWord m3_InvalidWord m5_InvalidWord "ValueError.__new__")) (sa_InvalidWord : PySem.W.findIn K (.ref C_InvalidWord) "__setattr__" = some (some (.builtin "object.__setattr__"))) (nv_InvalidWord : PySem.W.findIn K (.ref C_InvalidWord) "value" = some none) (iC_InvalidWord : PySem.W.findIn K (.ref C_InvalidWord) "__init__" = some (some (.ref f_InvalidWord))) (tI_InvalidWord : PySem.W.typeIn K (.ref f_InvalidWord) = some (.type "function")) (l_InvalidWord : K.lookup f_InvalidWord = some ⟨oc_InvalidWord, od_InvalidWord, .func (PySem.W.fnOf "__init__" "InvalidWord.__init__" (defArgs s_iInvalidWord) (defBody s_iInvalidWord) (defScope s_iInvalidWord) (.ref t_InvalidWord) kV_InvalidWord dc_InvalidWord pm_InvalidWord an_InvalidWord cd_InvalidWord ct_InvalidWord), sl_InvalidWord⟩) (c_InvalidWord : PySem.W.codeIn K cd_InvalidWord "InvalidWord.__init__" = true) (kf_InvalidWord : PySem.W.keepIn K (.ref f_InvalidWord) = true) (lt_InvalidWord : K.lookup t_InvalidWord = some ⟨toc_InvalidWord, tod_InvalidWord, .seq (List.toArray [.none]) tn_InvalidWord, tsl_InvalidWord⟩) (ss_InvalidWord : PySem.W.subIn K (.ref C_InvalidWord) (.ref C_SheetError) = some true) (sf_InvalidWord : PySem.W.subIn K (.ref C_SheetError) (.ref C_InvalidWord) = some false) (ga_InvalidWord : PySem.W.findIn K (.ref C_InvalidWord) "__getattribute__" = some (some (.builtin "BaseException.__getattribute__"))) (gg_InvalidWord : PySem.W.findIn K (.ref C_InvalidWord) "__getattr__" = some none) (hc_InvalidWord : PySem.W.findIn K (.ref C_InvalidWord) "__class__" = some (some (.builtin "object.__class__"))) (kC_InvalidWord : PySem.W.keepIn K (.ref C_InvalidWord) = true) (eC_InvalidWord : PySem.W.subIn K (.ref C_InvalidWord) (.type "BaseException") = some true) (tC_InvalidWord : PySem.W.typeIn K (.ref C_InvalidWord) = some (.type "type")) (hD_InvalidWord : PySem.W.hasDictIn K C_InvalidWord = true) (iS_InvalidWord : PySem.W.isClsIn K C_InvalidWord = true) (mo_InvalidWord : PySem.W.mroIn K C_InvalidWord (.type "object") = some true) (sv_InvalidWord : PySem.W.subIn K (.ref C_InvalidWord) (.type "ValueError") = some true)
    {C_InvalidList f_InvalidList t_InvalidList N_InvalidList : Addr} {nm_InvalidList q_InvalidList : Str} {bs_InvalidList sub_InvalidList : List Value} {sn_InvalidList : List Str} {ab_InvalidList : Bool} {col_InvalidList : Option Bool} {dd_InvalidList od_InvalidList an_InvalidList tod_InvalidList : Option Addr} {m0_InvalidList m1_InvalidList m2_InvalidList m3_InvalidList m5_InvalidList : Option Value} {sl_InvalidList tsl_InvalidList : Array (Option Value)} {oc_InvalidList kV_InvalidList dc_InvalidList pm_InvalidList cd_InvalidList ct_InvalidList toc_InvalidList : Value} {tn_InvalidList : Nat} (aC_InvalidList : PySem.W.nsIn K mainGlobals "InvalidList" = some (some (.ref C_InvalidList))) (xL_InvalidList : K.lookup C_InvalidList = some (PySem.excClassObj nm_InvalidList q_InvalidList C_InvalidList N_InvalidList bs_InvalidList [.ref C_SheetError, .type "ValueError", .type "Exception", .type "BaseException", .type "object"] true sn_InvalidList sub_InvalidList ab_InvalidList col_InvalidList dd_InvalidList m0_InvalidList m1_InvalidList m2_InvalidList m3_InvalidList m5_InvalidList "ValueError.__new__")) (sa_InvalidList : PySem.W.findIn K (.ref C_InvalidList) "__setattr__" = some (some (.builtin "object.__setattr__"))) (nv_InvalidList : PySem.W.findIn K (.ref C_InvalidList) "value" = some none) (iC_InvalidList : PySem.W.findIn K (.ref C_InvalidList) "__init__" = some (some (.ref f_InvalidList))) (tI_InvalidList : PySem.W.typeIn K (.ref f_InvalidList) = some (.type "function")) (l_InvalidList : K.lookup f_InvalidList = some ⟨oc_InvalidList, od_InvalidList, .func (PySem.W.fnOf "__init__" "InvalidList.__init__" (defArgs s_iInvalidList) (defBody s_iInvalidList) (defScope s_iInvalidList) (.ref t_InvalidList) kV_InvalidList dc_InvalidList pm_InvalidList an_InvalidList cd_InvalidList ct_InvalidList), sl_InvalidList⟩) (c_InvalidList : PySem.W.codeIn K cd_InvalidList "InvalidList.__init__" = true) (kf_InvalidList : PySem.W.keepIn K (.ref f_InvalidList) = true) (lt_InvalidList : K.lookup t_InvalidList = some ⟨toc_InvalidList, tod_InvalidList, .seq (List.toArray [.none]) tn_InvalidList, tsl_InvalidList⟩) (ss_InvalidList : PySem.W.subIn K (.ref C_InvalidList) (.ref C_SheetError) = some true) (sf_InvalidList : PySem.W.subIn K (.ref C_SheetError) (.ref C_InvalidList) = some false) (ga_InvalidList : PySem.W.findIn K (.ref C_InvalidList) "__getattribute__" = some (some (.builtin "BaseException.__getattribute__"))) (gg_InvalidList : PySem.W.findIn K (.ref C_InvalidList) "__getattr__" = some none) (hc_InvalidList : PySem.W.findIn K (.ref C_InvalidList) "__class__" = some (some (.builtin "object.__class__"))) (kC_InvalidList : PySem.W.keepIn K (.ref C_InvalidList) = true) (eC_InvalidList : PySem.W.subIn K (.ref C_InvalidList) (.type "BaseException") = some true) (tC_InvalidList : PySem.W.typeIn K (.ref C_InvalidList) = some (.type "type")) (hD_InvalidList : PySem.W.hasDictIn K C_InvalidList = true) (iS_InvalidList : PySem.W.isClsIn K C_InvalidList = true) (mo_InvalidList : PySem.W.mroIn K C_InvalidList (.type "object") = some true) (sv_InvalidList : PySem.W.subIn K (.ref C_InvalidList) (.type "ValueError") = some true)
    {C_InvalidPoint f_InvalidPoint t_InvalidPoint N_InvalidPoint : Addr} {nm_InvalidPoint q_InvalidPoint : Str} {bs_InvalidPoint sub_InvalidPoint : List Value} {sn_InvalidPoint : List Str} {ab_InvalidPoint : Bool} {col_InvalidPoint : Option Bool} {dd_InvalidPoint od_InvalidPoint an_InvalidPoint tod_InvalidPoint : Option Addr} {m0_InvalidPoint m1_InvalidPoint m2_InvalidPoint m3_InvalidPoint m5_InvalidPoint : Option Value} {sl_InvalidPoint tsl_InvalidPoint : Array (Option Value)} {oc_InvalidPoint kV_InvalidPoint dc_InvalidPoint pm_InvalidPoint cd_InvalidPoint ct_InvalidPoint toc_InvalidPoint : Value} {tn_InvalidPoint : Nat} (aC_InvalidPoint : PySem.W.nsIn K mainGlobals "InvalidPoint" = some (some (.ref C_InvalidPoint))) (xL_InvalidPoint : K.lookup C_InvalidPoint = some (PySem.excClassObj nm_InvalidPoint q_InvalidPoint C_InvalidPoint N_InvalidPoint bs_InvalidPoint [.ref C_SheetError, .type "ValueError", .type "Exception", .type "BaseException", .type "object"] true sn_InvalidPoint sub_InvalidPoint ab_InvalidPoint col_InvalidPoint dd_InvalidPoint m0_InvalidPoint m1_InvalidPoint m2_InvalidPoint m3_InvalidPoint m5_InvalidPoint "ValueError.__new__")) (sa_InvalidPoint : PySem.W.findIn K (.ref C_InvalidPoint) "__setattr__" = some (some (.builtin "object.__setattr__"))) (nv_InvalidPoint : PySem.W.findIn K (.ref C_InvalidPoint) "value" = some none) (iC_InvalidPoint : PySem.W.findIn K (.ref C_InvalidPoint) "__init__" = some (some (.ref f_InvalidPoint))) (tI_InvalidPoint : PySem.W.typeIn K (.ref f_InvalidPoint) = some (.type "function")) (l_InvalidPoint : K.lookup f_InvalidPoint = some ⟨oc_InvalidPoint, od_InvalidPoint, .func (PySem.W.fnOf "__init__" "InvalidPoint.__init__" (defArgs s_iInvalidPoint) (defBody s_iInvalidPoint) (defScope s_iInvalidPoint) (.ref t_InvalidPoint) kV_InvalidPoint dc_InvalidPoint pm_InvalidPoint an_InvalidPoint cd_InvalidPoint ct_InvalidPoint), sl_InvalidPoint⟩) (c_InvalidPoint : PySem.W.codeIn K cd_InvalidPoint "InvalidPoint.__init__" = true) (kf_InvalidPoint : PySem.W.keepIn K (.ref f_InvalidPoint) = true) (lt_InvalidPoint : K.lookup t_InvalidPoint = some ⟨toc_InvalidPoint, tod_InvalidPoint, .seq (List.toArray [.none]) tn_InvalidPoint, tsl_InvalidPoint⟩) (ss_InvalidPoint : PySem.W.subIn K (.ref C_InvalidPoint) (.ref C_SheetError) = some true) (sf_InvalidPoint : PySem.W.subIn K (.ref C_SheetError) (.ref C_InvalidPoint) = some false) (ga_InvalidPoint : PySem.W.findIn K (.ref C_InvalidPoint) "__getattribute__" = some (some (.builtin "BaseException.__getattribute__"))) (gg_InvalidPoint : PySem.W.findIn K (.ref C_InvalidPoint) "__getattr__" = some none) (hc_InvalidPoint : PySem.W.findIn K (.ref C_InvalidPoint) "__class__" = some (some (.builtin "object.__class__"))) (kC_InvalidPoint : PySem.W.keepIn K (.ref C_InvalidPoint) = true) (eC_InvalidPoint : PySem.W.subIn K (.ref C_InvalidPoint) (.type "BaseException") = some true) (tC_InvalidPoint : PySem.W.typeIn K (.ref C_InvalidPoint) = some (.type "type")) (hD_InvalidPoint : PySem.W.hasDictIn K C_InvalidPoint = true) (iS_InvalidPoint : PySem.W.isClsIn K C_InvalidPoint = true) (mo_InvalidPoint : PySem.W.mroIn K C_InvalidPoint (.type "object") = some true) (sv_InvalidPoint : PySem.W.subIn K (.ref C_InvalidPoint) (.type "ValueError") = some true)
    {C_InvalidTable f_InvalidTable t_InvalidTable N_InvalidTable : Addr} {nm_InvalidTable q_InvalidTable : Str} {bs_InvalidTable sub_InvalidTable : List Value} {sn_InvalidTable : List Str} {ab_InvalidTable : Bool} {col_InvalidTable : Option Bool} {dd_InvalidTable od_InvalidTable an_InvalidTable tod_InvalidTable : Option Addr} {m0_InvalidTable m1_InvalidTable m2_InvalidTable m3_InvalidTable m5_InvalidTable : Option Value} {sl_InvalidTable tsl_InvalidTable : Array (Option Value)} {oc_InvalidTable kV_InvalidTable dc_InvalidTable pm_InvalidTable cd_InvalidTable ct_InvalidTable toc_InvalidTable : Value} {tn_InvalidTable : Nat} (aC_InvalidTable : PySem.W.nsIn K mainGlobals "InvalidTable" = some (some (.ref C_InvalidTable))) (xL_InvalidTable : K.lookup C_InvalidTable = some (PySem.excClassObj nm_InvalidTable q_InvalidTable C_InvalidTable N_InvalidTable bs_InvalidTable [.ref C_SheetError, .type "ValueError", .type "Exception", .type "BaseException", .type "object"] true sn_InvalidTable sub_InvalidTable ab_InvalidTable col_InvalidTable dd_InvalidTable m0_InvalidTable m1_InvalidTable m2_InvalidTable m3_InvalidTable m5_InvalidTable "ValueError.__new__")) (sa_InvalidTable : PySem.W.findIn K (.ref C_InvalidTable) "__setattr__" = some (some (.builtin "object.__setattr__"))) (nv_InvalidTable : PySem.W.findIn K (.ref C_InvalidTable) "value" = some none) (iC_InvalidTable : PySem.W.findIn K (.ref C_InvalidTable) "__init__" = some (some (.ref f_InvalidTable))) (tI_InvalidTable : PySem.W.typeIn K (.ref f_InvalidTable) = some (.type "function")) (l_InvalidTable : K.lookup f_InvalidTable = some ⟨oc_InvalidTable, od_InvalidTable, .func (PySem.W.fnOf "__init__" "InvalidTable.__init__" (defArgs s_iInvalidTable) (defBody s_iInvalidTable) (defScope s_iInvalidTable) (.ref t_InvalidTable) kV_InvalidTable dc_InvalidTable pm_InvalidTable an_InvalidTable cd_InvalidTable ct_InvalidTable), sl_InvalidTable⟩) (c_InvalidTable : PySem.W.codeIn K cd_InvalidTable "InvalidTable.__init__" = true) (kf_InvalidTable : PySem.W.keepIn K (.ref f_InvalidTable) = true) (lt_InvalidTable : K.lookup t_InvalidTable = some ⟨toc_InvalidTable, tod_InvalidTable, .seq (List.toArray [.none]) tn_InvalidTable, tsl_InvalidTable⟩) (ss_InvalidTable : PySem.W.subIn K (.ref C_InvalidTable) (.ref C_SheetError) = some true) (sf_InvalidTable : PySem.W.subIn K (.ref C_SheetError) (.ref C_InvalidTable) = some false) (ga_InvalidTable : PySem.W.findIn K (.ref C_InvalidTable) "__getattribute__" = some (some (.builtin "BaseException.__getattribute__"))) (gg_InvalidTable : PySem.W.findIn K (.ref C_InvalidTable) "__getattr__" = some none) (hc_InvalidTable : PySem.W.findIn K (.ref C_InvalidTable) "__class__" = some (some (.builtin "object.__class__"))) (kC_InvalidTable : PySem.W.keepIn K (.ref C_InvalidTable) = true) (eC_InvalidTable : PySem.W.subIn K (.ref C_InvalidTable) (.type "BaseException") = some true) (tC_InvalidTable : PySem.W.typeIn K (.ref C_InvalidTable) = some (.type "type")) (hD_InvalidTable : PySem.W.hasDictIn K C_InvalidTable = true) (iS_InvalidTable : PySem.W.isClsIn K C_InvalidTable = true) (mo_InvalidTable : PySem.W.mroIn K C_InvalidTable (.type "object") = some true) (sv_InvalidTable : PySem.W.subIn K (.ref C_InvalidTable) (.type "ValueError") = some true)
    {C_InvalidFloor f_InvalidFloor t_InvalidFloor N_InvalidFloor : Addr} {nm_InvalidFloor q_InvalidFloor : Str} {bs_InvalidFloor sub_InvalidFloor : List Value} {sn_InvalidFloor : List Str} {ab_InvalidFloor : Bool} {col_InvalidFloor : Option Bool} {dd_InvalidFloor od_InvalidFloor an_InvalidFloor tod_InvalidFloor : Option Addr} {m0_InvalidFloor m1_InvalidFloor m2_InvalidFloor m3_InvalidFloor m5_InvalidFloor : Option Value} {sl_InvalidFloor tsl_InvalidFloor : Array (Option Value)} {oc_InvalidFloor kV_InvalidFloor dc_InvalidFloor pm_InvalidFloor cd_InvalidFloor ct_InvalidFloor toc_InvalidFloor : Value} {tn_InvalidFloor : Nat} (aC_InvalidFloor : PySem.W.nsIn K mainGlobals "InvalidFloor" = some (some (.ref C_InvalidFloor))) (xL_InvalidFloor : K.lookup C_InvalidFloor = some (PySem.excClassObj nm_InvalidFloor q_InvalidFloor C_InvalidFloor N_InvalidFloor bs_InvalidFloor [.ref C_SheetError, .type "ValueError", .type "Exception", .type "BaseException", .type "object"] true sn_InvalidFloor sub_InvalidFloor ab_InvalidFloor col_InvalidFloor dd_InvalidFloor m0_InvalidFloor m1_InvalidFloor m2_InvalidFloor m3_InvalidFloor m5_InvalidFloor "ValueError.__new__")) (sa_InvalidFloor : PySem.W.findIn K (.ref C_InvalidFloor) "__setattr__" = some (some (.builtin "object.__setattr__"))) (nv_InvalidFloor : PySem.W.findIn K (.ref C_InvalidFloor) "value" = some none) (iC_InvalidFloor : PySem.W.findIn K (.ref C_InvalidFloor) "__init__" = some (some (.ref f_InvalidFloor))) (tI_InvalidFloor : PySem.W.typeIn K (.ref f_InvalidFloor) = some (.type "function")) (l_InvalidFloor : K.lookup f_InvalidFloor = some ⟨oc_InvalidFloor, od_InvalidFloor, .func (PySem.W.fnOf "__init__" "InvalidFloor.__init__" (defArgs s_iInvalidFloor) (defBody s_iInvalidFloor) (defScope s_iInvalidFloor) (.ref t_InvalidFloor) kV_InvalidFloor dc_InvalidFloor pm_InvalidFloor an_InvalidFloor cd_InvalidFloor ct_InvalidFloor), sl_InvalidFloor⟩) (c_InvalidFloor : PySem.W.codeIn K cd_InvalidFloor "InvalidFloor.__init__" = true) (kf_InvalidFloor : PySem.W.keepIn K (.ref f_InvalidFloor) = true) (lt_InvalidFloor : K.lookup t_InvalidFloor = some ⟨toc_InvalidFloor, tod_InvalidFloor, .seq (List.toArray [.none]) tn_InvalidFloor, tsl_InvalidFloor⟩) (ss_InvalidFloor : PySem.W.subIn K (.ref C_InvalidFloor) (.ref C_SheetError) = some true) (sf_InvalidFloor : PySem.W.subIn K (.ref C_SheetError) (.ref C_InvalidFloor) = some false) (ga_InvalidFloor : PySem.W.findIn K (.ref C_InvalidFloor) "__getattribute__" = some (some (.builtin "BaseException.__getattribute__"))) (gg_InvalidFloor : PySem.W.findIn K (.ref C_InvalidFloor) "__getattr__" = some none) (hc_InvalidFloor : PySem.W.findIn K (.ref C_InvalidFloor) "__class__" = some (some (.builtin "object.__class__"))) (kC_InvalidFloor : PySem.W.keepIn K (.ref C_InvalidFloor) = true) (eC_InvalidFloor : PySem.W.subIn K (.ref C_InvalidFloor) (.type "BaseException") = some true) (tC_InvalidFloor : PySem.W.typeIn K (.ref C_InvalidFloor) = some (.type "type")) (hD_InvalidFloor : PySem.W.hasDictIn K C_InvalidFloor = true) (iS_InvalidFloor : PySem.W.isClsIn K C_InvalidFloor = true) (mo_InvalidFloor : PySem.W.mroIn K C_InvalidFloor (.type "object") = some true) (sv_InvalidFloor : PySem.W.subIn K (.ref C_InvalidFloor) (.type "ValueError") = some true)
    {C_Unlike f_Unlike t_Unlike N_Unlike : Addr} {nm_Unlike q_Unlike : Str} {bs_Unlike sub_Unlike : List Value} {sn_Unlike : List Str} {ab_Unlike : Bool} {col_Unlike : Option Bool} {dd_Unlike od_Unlike an_Unlike tod_Unlike : Option Addr} {m0_Unlike m1_Unlike m2_Unlike m3_Unlike m5_Unlike : Option Value} {sl_Unlike tsl_Unlike : Array (Option Value)} {oc_Unlike kV_Unlike dc_Unlike pm_Unlike cd_Unlike ct_Unlike toc_Unlike : Value} {tn_Unlike : Nat} (aC_Unlike : PySem.W.nsIn K mainGlobals "Unlike" = some (some (.ref C_Unlike))) (xL_Unlike : K.lookup C_Unlike = some (PySem.excClassObj nm_Unlike q_Unlike C_Unlike N_Unlike bs_Unlike [.ref C_SheetError, .type "ValueError", .type "Exception", .type "BaseException", .type "object"] true sn_Unlike sub_Unlike ab_Unlike col_Unlike dd_Unlike m0_Unlike m1_Unlike m2_Unlike m3_Unlike m5_Unlike "ValueError.__new__")) (sa_Unlike : PySem.W.findIn K (.ref C_Unlike) "__setattr__" = some (some (.builtin "object.__setattr__"))) (nv_Unlike : PySem.W.findIn K (.ref C_Unlike) "value" = some none) (iC_Unlike : PySem.W.findIn K (.ref C_Unlike) "__init__" = some (some (.ref f_Unlike))) (tI_Unlike : PySem.W.typeIn K (.ref f_Unlike) = some (.type "function")) (l_Unlike : K.lookup f_Unlike = some ⟨oc_Unlike, od_Unlike, .func (PySem.W.fnOf "__init__" "Unlike.__init__" (defArgs s_iUnlike) (defBody s_iUnlike) (defScope s_iUnlike) (.ref t_Unlike) kV_Unlike dc_Unlike pm_Unlike an_Unlike cd_Unlike ct_Unlike), sl_Unlike⟩) (c_Unlike : PySem.W.codeIn K cd_Unlike "Unlike.__init__" = true) (kf_Unlike : PySem.W.keepIn K (.ref f_Unlike) = true) (lt_Unlike : K.lookup t_Unlike = some ⟨toc_Unlike, tod_Unlike, .seq (List.toArray [.none]) tn_Unlike, tsl_Unlike⟩) (ss_Unlike : PySem.W.subIn K (.ref C_Unlike) (.ref C_SheetError) = some true) (sf_Unlike : PySem.W.subIn K (.ref C_SheetError) (.ref C_Unlike) = some false) (ga_Unlike : PySem.W.findIn K (.ref C_Unlike) "__getattribute__" = some (some (.builtin "BaseException.__getattribute__"))) (gg_Unlike : PySem.W.findIn K (.ref C_Unlike) "__getattr__" = some none) (hc_Unlike : PySem.W.findIn K (.ref C_Unlike) "__class__" = some (some (.builtin "object.__class__"))) (kC_Unlike : PySem.W.keepIn K (.ref C_Unlike) = true) (eC_Unlike : PySem.W.subIn K (.ref C_Unlike) (.type "BaseException") = some true) (tC_Unlike : PySem.W.typeIn K (.ref C_Unlike) = some (.type "type")) (hD_Unlike : PySem.W.hasDictIn K C_Unlike = true) (iS_Unlike : PySem.W.isClsIn K C_Unlike = true) (mo_Unlike : PySem.W.mroIn K C_Unlike (.type "object") = some true) (sv_Unlike : PySem.W.subIn K (.ref C_Unlike) (.type "ValueError") = some true)
    {C_TooMany f_TooMany t_TooMany N_TooMany : Addr} {nm_TooMany q_TooMany : Str} {bs_TooMany sub_TooMany : List Value} {sn_TooMany : List Str} {ab_TooMany : Bool} {col_TooMany : Option Bool} {dd_TooMany od_TooMany an_TooMany tod_TooMany : Option Addr} {m0_TooMany m1_TooMany m2_TooMany m3_TooMany m5_TooMany : Option Value} {sl_TooMany tsl_TooMany : Array (Option Value)} {oc_TooMany kV_TooMany dc_TooMany pm_TooMany cd_TooMany ct_TooMany toc_TooMany : Value} {tn_TooMany : Nat} (aC_TooMany : PySem.W.nsIn K mainGlobals "TooMany" = some (some (.ref C_TooMany))) (xL_TooMany : K.lookup C_TooMany = some (PySem.excClassObj nm_TooMany q_TooMany C_TooMany N_TooMany bs_TooMany [.ref C_SheetError, .type "ValueError", .type "Exception", .type "BaseException", .type "object"] true sn_TooMany sub_TooMany ab_TooMany col_TooMany dd_TooMany m0_TooMany m1_TooMany m2_TooMany m3_TooMany m5_TooMany "ValueError.__new__")) (sa_TooMany : PySem.W.findIn K (.ref C_TooMany) "__setattr__" = some (some (.builtin "object.__setattr__"))) (nv_TooMany : PySem.W.findIn K (.ref C_TooMany) "value" = some none) (iC_TooMany : PySem.W.findIn K (.ref C_TooMany) "__init__" = some (some (.ref f_TooMany))) (tI_TooMany : PySem.W.typeIn K (.ref f_TooMany) = some (.type "function")) (l_TooMany : K.lookup f_TooMany = some ⟨oc_TooMany, od_TooMany, .func (PySem.W.fnOf "__init__" "TooMany.__init__" (defArgs s_iTooMany) (defBody s_iTooMany) (defScope s_iTooMany) (.ref t_TooMany) kV_TooMany dc_TooMany pm_TooMany an_TooMany cd_TooMany ct_TooMany), sl_TooMany⟩) (c_TooMany : PySem.W.codeIn K cd_TooMany "TooMany.__init__" = true) (kf_TooMany : PySem.W.keepIn K (.ref f_TooMany) = true) (lt_TooMany : K.lookup t_TooMany = some ⟨toc_TooMany, tod_TooMany, .seq (List.toArray [.none]) tn_TooMany, tsl_TooMany⟩) (ss_TooMany : PySem.W.subIn K (.ref C_TooMany) (.ref C_SheetError) = some true) (sf_TooMany : PySem.W.subIn K (.ref C_SheetError) (.ref C_TooMany) = some false) (ga_TooMany : PySem.W.findIn K (.ref C_TooMany) "__getattribute__" = some (some (.builtin "BaseException.__getattribute__"))) (gg_TooMany : PySem.W.findIn K (.ref C_TooMany) "__getattr__" = some none) (hc_TooMany : PySem.W.findIn K (.ref C_TooMany) "__class__" = some (some (.builtin "object.__class__"))) (kC_TooMany : PySem.W.keepIn K (.ref C_TooMany) = true) (eC_TooMany : PySem.W.subIn K (.ref C_TooMany) (.type "BaseException") = some true) (tC_TooMany : PySem.W.typeIn K (.ref C_TooMany) = some (.type "type")) (hD_TooMany : PySem.W.hasDictIn K C_TooMany = true) (iS_TooMany : PySem.W.isClsIn K C_TooMany = true) (mo_TooMany : PySem.W.mroIn K C_TooMany (.type "object") = some true) (sv_TooMany : PySem.W.subIn K (.ref C_TooMany) (.type "ValueError") = some true) (p_SheetError_SheetError : PySem.W.subIn K (.ref C_SheetError) (.ref C_SheetError) = some true) (p_InvalidMeasure_InvalidMeasure : PySem.W.subIn K (.ref C_InvalidMeasure) (.ref C_InvalidMeasure) = some true) (p_InvalidMeasure_InvalidNumber : PySem.W.subIn K (.ref C_InvalidMeasure) (.ref C_InvalidNumber) = some false) (p_InvalidMeasure_InvalidRoot : PySem.W.subIn K (.ref C_InvalidMeasure) (.ref C_InvalidRoot) = some false) (p_InvalidMeasure_InvalidCutting : PySem.W.subIn K (.ref C_InvalidMeasure) (.ref C_InvalidCutting) = some false) (p_InvalidMeasure_InvalidDeed : PySem.W.subIn K (.ref C_InvalidMeasure) (.ref C_InvalidDeed) = some false) (p_InvalidMeasure_InvalidWord : PySem.W.subIn K (.ref C_InvalidMeasure) (.ref C_InvalidWord) = some false) (p_InvalidMeasure_InvalidList : PySem.W.subIn K (.ref C_InvalidMeasure) (.ref C_InvalidList) = some false) (p_InvalidMeasure_InvalidPoint : PySem.W.subIn K (.ref C_InvalidMeasure) (.ref C_InvalidPoint) = some false) (p_InvalidMeasure_InvalidTable : PySem.W.subIn K (.ref C_InvalidMeasure) (.ref C_InvalidTable) = some false) (p_InvalidMeasure_InvalidFloor : PySem.W.subIn K (.ref C_InvalidMeasure) (.ref C_InvalidFloor) = some false) (p_InvalidMeasure_Unlike : PySem.W.subIn K (.ref C_InvalidMeasure) (.ref C_Unlike) = some false) (p_InvalidMeasure_TooMany : PySem.W.subIn K (.ref C_InvalidMeasure) (.ref C_TooMany) = some false) (p_InvalidNumber_InvalidMeasure : PySem.W.subIn K (.ref C_InvalidNumber) (.ref C_InvalidMeasure) = some false) (p_InvalidNumber_InvalidNumber : PySem.W.subIn K (.ref C_InvalidNumber) (.ref C_InvalidNumber) = some true) (p_InvalidNumber_InvalidRoot : PySem.W.subIn K (.ref C_InvalidNumber) (.ref C_InvalidRoot) = some false) (p_InvalidNumber_InvalidCutting : PySem.W.subIn K (.ref C_InvalidNumber) (.ref C_InvalidCutting) = some false) (p_InvalidNumber_InvalidDeed : PySem.W.subIn K (.ref C_InvalidNumber) (.ref C_InvalidDeed) = some false) (p_InvalidNumber_InvalidWord : PySem.W.subIn K (.ref C_InvalidNumber) (.ref C_InvalidWord) = some false) (p_InvalidNumber_InvalidList : PySem.W.subIn K (.ref C_InvalidNumber) (.ref C_InvalidList) = some false) (p_InvalidNumber_InvalidPoint : PySem.W.subIn K (.ref C_InvalidNumber) (.ref C_InvalidPoint) = some false) (p_InvalidNumber_InvalidTable : PySem.W.subIn K (.ref C_InvalidNumber) (.ref C_InvalidTable) = some false) (p_InvalidNumber_InvalidFloor : PySem.W.subIn K (.ref C_InvalidNumber) (.ref C_InvalidFloor) = some false) (p_InvalidNumber_Unlike : PySem.W.subIn K (.ref C_InvalidNumber) (.ref C_Unlike) = some false) (p_InvalidNumber_TooMany : PySem.W.subIn K (.ref C_InvalidNumber) (.ref C_TooMany) = some false) (p_InvalidRoot_InvalidMeasure : PySem.W.subIn K (.ref C_InvalidRoot) (.ref C_InvalidMeasure) = some false) (p_InvalidRoot_InvalidNumber : PySem.W.subIn K (.ref C_InvalidRoot) (.ref C_InvalidNumber) = some false) (p_InvalidRoot_InvalidRoot : PySem.W.subIn K (.ref C_InvalidRoot) (.ref C_InvalidRoot) = some true) (p_InvalidRoot_InvalidCutting : PySem.W.subIn K (.ref C_InvalidRoot) (.ref C_InvalidCutting) = some false) (p_InvalidRoot_InvalidDeed : PySem.W.subIn K (.ref C_InvalidRoot) (.ref C_InvalidDeed) = some false) (p_InvalidRoot_InvalidWord : PySem.W.subIn K (.ref C_InvalidRoot) (.ref C_InvalidWord) = some false) (p_InvalidRoot_InvalidList : PySem.W.subIn K (.ref C_InvalidRoot) (.ref C_InvalidList) = some false) (p_InvalidRoot_InvalidPoint : PySem.W.subIn K (.ref C_InvalidRoot) (.ref C_InvalidPoint) = some false) (p_InvalidRoot_InvalidTable : PySem.W.subIn K (.ref C_InvalidRoot) (.ref C_InvalidTable) = some false) (p_InvalidRoot_InvalidFloor : PySem.W.subIn K (.ref C_InvalidRoot) (.ref C_InvalidFloor) = some false) (p_InvalidRoot_Unlike : PySem.W.subIn K (.ref C_InvalidRoot) (.ref C_Unlike) = some false) (p_InvalidRoot_TooMany : PySem.W.subIn K (.ref C_InvalidRoot) (.ref C_TooMany) = some false) (p_InvalidCutting_InvalidMeasure : PySem.W.subIn K (.ref C_InvalidCutting) (.ref C_InvalidMeasure) = some false) (p_InvalidCutting_InvalidNumber : PySem.W.subIn K (.ref C_InvalidCutting) (.ref C_InvalidNumber) = some false) (p_InvalidCutting_InvalidRoot : PySem.W.subIn K (.ref C_InvalidCutting) (.ref C_InvalidRoot) = some false) (p_InvalidCutting_InvalidCutting : PySem.W.subIn K (.ref C_InvalidCutting) (.ref C_InvalidCutting) = some true) (p_InvalidCutting_InvalidDeed : PySem.W.subIn K (.ref C_InvalidCutting) (.ref C_InvalidDeed) = some false) (p_InvalidCutting_InvalidWord : PySem.W.subIn K (.ref C_InvalidCutting) (.ref C_InvalidWord) = some false) (p_InvalidCutting_InvalidList : PySem.W.subIn K (.ref C_InvalidCutting) (.ref C_InvalidList) = some false) (p_InvalidCutting_InvalidPoint : PySem.W.subIn K (.ref C_InvalidCutting) (.ref C_InvalidPoint) = some false) (p_InvalidCutting_InvalidTable : PySem.W.subIn K (.ref C_InvalidCutting) (.ref C_InvalidTable) = some false) (p_InvalidCutting_InvalidFloor : PySem.W.subIn K (.ref C_InvalidCutting) (.ref C_InvalidFloor) = some false) (p_InvalidCutting_Unlike : PySem.W.subIn K (.ref C_InvalidCutting) (.ref C_Unlike) = some false) (p_InvalidCutting_TooMany : PySem.W.subIn K (.ref C_InvalidCutting) (.ref C_TooMany) = some false) (p_InvalidDeed_InvalidMeasure : PySem.W.subIn K (.ref C_InvalidDeed) (.ref C_InvalidMeasure) = some false) (p_InvalidDeed_InvalidNumber : PySem.W.subIn K (.ref C_InvalidDeed) (.ref C_InvalidNumber) = some false) (p_InvalidDeed_InvalidRoot : PySem.W.subIn K (.ref C_InvalidDeed) (.ref C_InvalidRoot) = some false) (p_InvalidDeed_InvalidCutting : PySem.W.subIn K (.ref C_InvalidDeed) (.ref C_InvalidCutting) = some false) (p_InvalidDeed_InvalidDeed : PySem.W.subIn K (.ref C_InvalidDeed) (.ref C_InvalidDeed) = some true) (p_InvalidDeed_InvalidWord : PySem.W.subIn K (.ref C_InvalidDeed) (.ref C_InvalidWord) = some false) (p_InvalidDeed_InvalidList : PySem.W.subIn K (.ref C_InvalidDeed) (.ref C_InvalidList) = some false) (p_InvalidDeed_InvalidPoint : PySem.W.subIn K (.ref C_InvalidDeed) (.ref C_InvalidPoint) = some false) (p_InvalidDeed_InvalidTable : PySem.W.subIn K (.ref C_InvalidDeed) (.ref C_InvalidTable) = some false) (p_InvalidDeed_InvalidFloor : PySem.W.subIn K (.ref C_InvalidDeed) (.ref C_InvalidFloor) = some false) (p_InvalidDeed_Unlike : PySem.W.subIn K (.ref C_InvalidDeed) (.ref C_Unlike) = some false) (p_InvalidDeed_TooMany : PySem.W.subIn K (.ref C_InvalidDeed) (.ref C_TooMany) = some false) (p_InvalidWord_InvalidMeasure : PySem.W.subIn K (.ref C_InvalidWord) (.ref C_InvalidMeasure) = some false) (p_InvalidWord_InvalidNumber : PySem.W.subIn K (.ref C_InvalidWord) (.ref C_InvalidNumber) = some false) (p_InvalidWord_InvalidRoot : PySem.W.subIn K (.ref C_InvalidWord) (.ref C_InvalidRoot) = some false) (p_InvalidWord_InvalidCutting : PySem.W.subIn K (.ref C_InvalidWord) (.ref C_InvalidCutting) = some false) (p_InvalidWord_InvalidDeed : PySem.W.subIn K (.ref C_InvalidWord) (.ref C_InvalidDeed) = some false) (p_InvalidWord_InvalidWord : PySem.W.subIn K (.ref C_InvalidWord) (.ref C_InvalidWord) = some true) (p_InvalidWord_InvalidList : PySem.W.subIn K (.ref C_InvalidWord) (.ref C_InvalidList) = some false) (p_InvalidWord_InvalidPoint : PySem.W.subIn K (.ref C_InvalidWord) (.ref C_InvalidPoint) = some false) (p_InvalidWord_InvalidTable : PySem.W.subIn K (.ref C_InvalidWord) (.ref C_InvalidTable) = some false) (p_InvalidWord_InvalidFloor : PySem.W.subIn K (.ref C_InvalidWord) (.ref C_InvalidFloor) = some false) (p_InvalidWord_Unlike : PySem.W.subIn K (.ref C_InvalidWord) (.ref C_Unlike) = some false) (p_InvalidWord_TooMany : PySem.W.subIn K (.ref C_InvalidWord) (.ref C_TooMany) = some false) (p_InvalidList_InvalidMeasure : PySem.W.subIn K (.ref C_InvalidList) (.ref C_InvalidMeasure) = some false) (p_InvalidList_InvalidNumber : PySem.W.subIn K (.ref C_InvalidList) (.ref C_InvalidNumber) = some false) (p_InvalidList_InvalidRoot : PySem.W.subIn K (.ref C_InvalidList) (.ref C_InvalidRoot) = some false) (p_InvalidList_InvalidCutting : PySem.W.subIn K (.ref C_InvalidList) (.ref C_InvalidCutting) = some false) (p_InvalidList_InvalidDeed : PySem.W.subIn K (.ref C_InvalidList) (.ref C_InvalidDeed) = some false) (p_InvalidList_InvalidWord : PySem.W.subIn K (.ref C_InvalidList) (.ref C_InvalidWord) = some false) (p_InvalidList_InvalidList : PySem.W.subIn K (.ref C_InvalidList) (.ref C_InvalidList) = some true) (p_InvalidList_InvalidPoint : PySem.W.subIn K (.ref C_InvalidList) (.ref C_InvalidPoint) = some false) (p_InvalidList_InvalidTable : PySem.W.subIn K (.ref C_InvalidList) (.ref C_InvalidTable) = some false) (p_InvalidList_InvalidFloor : PySem.W.subIn K (.ref C_InvalidList) (.ref C_InvalidFloor) = some false) (p_InvalidList_Unlike : PySem.W.subIn K (.ref C_InvalidList) (.ref C_Unlike) = some false) (p_InvalidList_TooMany : PySem.W.subIn K (.ref C_InvalidList) (.ref C_TooMany) = some false) (p_InvalidPoint_InvalidMeasure : PySem.W.subIn K (.ref C_InvalidPoint) (.ref C_InvalidMeasure) = some false) (p_InvalidPoint_InvalidNumber : PySem.W.subIn K (.ref C_InvalidPoint) (.ref C_InvalidNumber) = some false) (p_InvalidPoint_InvalidRoot : PySem.W.subIn K (.ref C_InvalidPoint) (.ref C_InvalidRoot) = some false) (p_InvalidPoint_InvalidCutting : PySem.W.subIn K (.ref C_InvalidPoint) (.ref C_InvalidCutting) = some false) (p_InvalidPoint_InvalidDeed : PySem.W.subIn K (.ref C_InvalidPoint) (.ref C_InvalidDeed) = some false) (p_InvalidPoint_InvalidWord : PySem.W.subIn K (.ref C_InvalidPoint) (.ref C_InvalidWord) = some false) (p_InvalidPoint_InvalidList : PySem.W.subIn K (.ref C_InvalidPoint) (.ref C_InvalidList) = some false) (p_InvalidPoint_InvalidPoint : PySem.W.subIn K (.ref C_InvalidPoint) (.ref C_InvalidPoint) = some true) (p_InvalidPoint_InvalidTable : PySem.W.subIn K (.ref C_InvalidPoint) (.ref C_InvalidTable) = some false) (p_InvalidPoint_InvalidFloor : PySem.W.subIn K (.ref C_InvalidPoint) (.ref C_InvalidFloor) = some false) (p_InvalidPoint_Unlike : PySem.W.subIn K (.ref C_InvalidPoint) (.ref C_Unlike) = some false) (p_InvalidPoint_TooMany : PySem.W.subIn K (.ref C_InvalidPoint) (.ref C_TooMany) = some false) (p_InvalidTable_InvalidMeasure : PySem.W.subIn K (.ref C_InvalidTable) (.ref C_InvalidMeasure) = some false) (p_InvalidTable_InvalidNumber : PySem.W.subIn K (.ref C_InvalidTable) (.ref C_InvalidNumber) = some false) (p_InvalidTable_InvalidRoot : PySem.W.subIn K (.ref C_InvalidTable) (.ref C_InvalidRoot) = some false) (p_InvalidTable_InvalidCutting : PySem.W.subIn K (.ref C_InvalidTable) (.ref C_InvalidCutting) = some false) (p_InvalidTable_InvalidDeed : PySem.W.subIn K (.ref C_InvalidTable) (.ref C_InvalidDeed) = some false) (p_InvalidTable_InvalidWord : PySem.W.subIn K (.ref C_InvalidTable) (.ref C_InvalidWord) = some false) (p_InvalidTable_InvalidList : PySem.W.subIn K (.ref C_InvalidTable) (.ref C_InvalidList) = some false) (p_InvalidTable_InvalidPoint : PySem.W.subIn K (.ref C_InvalidTable) (.ref C_InvalidPoint) = some false) (p_InvalidTable_InvalidTable : PySem.W.subIn K (.ref C_InvalidTable) (.ref C_InvalidTable) = some true) (p_InvalidTable_InvalidFloor : PySem.W.subIn K (.ref C_InvalidTable) (.ref C_InvalidFloor) = some false) (p_InvalidTable_Unlike : PySem.W.subIn K (.ref C_InvalidTable) (.ref C_Unlike) = some false) (p_InvalidTable_TooMany : PySem.W.subIn K (.ref C_InvalidTable) (.ref C_TooMany) = some false) (p_InvalidFloor_InvalidMeasure : PySem.W.subIn K (.ref C_InvalidFloor) (.ref C_InvalidMeasure) = some false) (p_InvalidFloor_InvalidNumber : PySem.W.subIn K (.ref C_InvalidFloor) (.ref C_InvalidNumber) = some false) (p_InvalidFloor_InvalidRoot : PySem.W.subIn K (.ref C_InvalidFloor) (.ref C_InvalidRoot) = some false) (p_InvalidFloor_InvalidCutting : PySem.W.subIn K (.ref C_InvalidFloor) (.ref C_InvalidCutting) = some false) (p_InvalidFloor_InvalidDeed : PySem.W.subIn K (.ref C_InvalidFloor) (.ref C_InvalidDeed) = some false) (p_InvalidFloor_InvalidWord : PySem.W.subIn K (.ref C_InvalidFloor) (.ref C_InvalidWord) = some false) (p_InvalidFloor_InvalidList : PySem.W.subIn K (.ref C_InvalidFloor) (.ref C_InvalidList) = some false) (p_InvalidFloor_InvalidPoint : PySem.W.subIn K (.ref C_InvalidFloor) (.ref C_InvalidPoint) = some false) (p_InvalidFloor_InvalidTable : PySem.W.subIn K (.ref C_InvalidFloor) (.ref C_InvalidTable) = some false) (p_InvalidFloor_InvalidFloor : PySem.W.subIn K (.ref C_InvalidFloor) (.ref C_InvalidFloor) = some true) (p_InvalidFloor_Unlike : PySem.W.subIn K (.ref C_InvalidFloor) (.ref C_Unlike) = some false) (p_InvalidFloor_TooMany : PySem.W.subIn K (.ref C_InvalidFloor) (.ref C_TooMany) = some false) (p_Unlike_InvalidMeasure : PySem.W.subIn K (.ref C_Unlike) (.ref C_InvalidMeasure) = some false) (p_Unlike_InvalidNumber : PySem.W.subIn K (.ref C_Unlike) (.ref C_InvalidNumber) = some false) (p_Unlike_InvalidRoot : PySem.W.subIn K (.ref C_Unlike) (.ref C_InvalidRoot) = some false) (p_Unlike_InvalidCutting : PySem.W.subIn K (.ref C_Unlike) (.ref C_InvalidCutting) = some false) (p_Unlike_InvalidDeed : PySem.W.subIn K (.ref C_Unlike) (.ref C_InvalidDeed) = some false) (p_Unlike_InvalidWord : PySem.W.subIn K (.ref C_Unlike) (.ref C_InvalidWord) = some false) (p_Unlike_InvalidList : PySem.W.subIn K (.ref C_Unlike) (.ref C_InvalidList) = some false) (p_Unlike_InvalidPoint : PySem.W.subIn K (.ref C_Unlike) (.ref C_InvalidPoint) = some false) (p_Unlike_InvalidTable : PySem.W.subIn K (.ref C_Unlike) (.ref C_InvalidTable) = some false) (p_Unlike_InvalidFloor : PySem.W.subIn K (.ref C_Unlike) (.ref C_InvalidFloor) = some false) (p_Unlike_Unlike : PySem.W.subIn K (.ref C_Unlike) (.ref C_Unlike) = some true) (p_Unlike_TooMany : PySem.W.subIn K (.ref C_Unlike) (.ref C_TooMany) = some false) (p_TooMany_InvalidMeasure : PySem.W.subIn K (.ref C_TooMany) (.ref C_InvalidMeasure) = some false) (p_TooMany_InvalidNumber : PySem.W.subIn K (.ref C_TooMany) (.ref C_InvalidNumber) = some false) (p_TooMany_InvalidRoot : PySem.W.subIn K (.ref C_TooMany) (.ref C_InvalidRoot) = some false) (p_TooMany_InvalidCutting : PySem.W.subIn K (.ref C_TooMany) (.ref C_InvalidCutting) = some false) (p_TooMany_InvalidDeed : PySem.W.subIn K (.ref C_TooMany) (.ref C_InvalidDeed) = some false) (p_TooMany_InvalidWord : PySem.W.subIn K (.ref C_TooMany) (.ref C_InvalidWord) = some false) (p_TooMany_InvalidList : PySem.W.subIn K (.ref C_TooMany) (.ref C_InvalidList) = some false) (p_TooMany_InvalidPoint : PySem.W.subIn K (.ref C_TooMany) (.ref C_InvalidPoint) = some false) (p_TooMany_InvalidTable : PySem.W.subIn K (.ref C_TooMany) (.ref C_InvalidTable) = some false) (p_TooMany_InvalidFloor : PySem.W.subIn K (.ref C_TooMany) (.ref C_InvalidFloor) = some false) (p_TooMany_Unlike : PySem.W.subIn K (.ref C_TooMany) (.ref C_Unlike) = some false) (p_TooMany_TooMany : PySem.W.subIn K (.ref C_TooMany) (.ref C_TooMany) = some true) :
    ∃ fd : FuncData, (∀ (s : Shared) (v : Value), BindsTo s fd ⟨[v], []⟩ [("_law_script", v)]) ∧ ∀ base : Heap, K.In base → base.Ns mainGlobals mg → FnG l.prog w K mg base 5 fa fd ["_law_script"] (Kx.spLaw K) := by
  have e := hfa.symm.trans (PySem.W.mg_of X G a8)
  cases e
  have T : Txt K mg := ⟨PySem.W.mg_none_of X G z_ValueError, PySem.W.mg_none_of X G z_int, PySem.W.mg_none_of X G z_isinstance, PySem.W.mg_none_of X G z_len, PySem.W.mg_none_of X G z_list, PySem.W.mg_none_of X G z_max, PySem.W.mg_none_of X G z_range, PySem.W.mg_none_of X G z_repr, PySem.W.mg_none_of X G z_sum⟩
  have F0 := fun_mk (st := s_LawHash) l0 c0 k0
  have b0 := F0.binds (ps := ["_law_seed", "_law_index"]) fun _ _ _ _ _ _ us hl => match us, hl with | [_, _], _ => rfl
  have F1 := fun_mk (st := s_LawCell) l1 c1 k1
  have b1 := F1.binds (ps := ["_law_script", "_law_index"]) fun _ _ _ _ _ _ us hl => match us, hl with | [_, _], _ => rfl
  have F2 := fun_mk (st := s_LawFlags) l2 c2 k2
  have b2 := F2.binds (ps := ["_law_error"]) fun _ _ _ _ _ _ us hl => match us, hl with | [_], _ => rfl
  have F3 := fun_mk (st := s_LawRandom) l3 c3 k3
  have b3 := F3.binds (ps := ["_law_generator_here", "_law_bound"]) fun _ _ _ _ _ _ us hl => match us, hl with | [_, _], _ => rfl
  have F4 := fun_mk (st := s_LawGenerator) l4 c4 k4
  have b4 := F4.binds (ps := ["_law_script", "_law_index"]) fun _ _ _ _ _ _ us hl => match us, hl with | [_, _], _ => rfl
  have F5 := fun_mk (st := s_LawFirst) l5 c5 k5
  have b5 := F5.binds (ps := ["_law_which", "_law_value"]) fun _ _ _ _ _ _ us hl => match us, hl with | [_, _], _ => rfl
  have F6 := fun_mk (st := s_LawSecond) l6 c6 k6
  have b6 := F6.binds (ps := ["_law_which", "_law_value"]) fun _ _ _ _ _ _ us hl => match us, hl with | [_, _], _ => rfl
  have F7 := fun_mk (st := s_LawMade) l7 c7 k7
  have b7 := F7.binds (ps := ["_law_which", "_law_value"]) fun _ _ _ _ _ _ us hl => match us, hl with | [_, _], _ => rfl
  have F8 := fun_mk (st := s_Law) l8 c8 k8
  have b8 := F8.binds (ps := ["_law_script"]) fun _ _ _ _ _ _ us hl => match us, hl with | [_], _ => rfl
  refine ⟨PySem.W.fnOf "law" "law" (defArgs s_Law) (defBody s_Law) (defScope s_Law) .none kV8 dc8 pm8 an8 cd8 ct8, fun s v => .of_eq rfl, fun base _ _ => ?_⟩
  have EC_SheetError : L2.ExcC K C_SheetError := ⟨ga_SheetError, gg_SheetError, eC_SheetError, hD_SheetError, hc_SheetError, hn_g, ht_g, mo_SheetError⟩
  have EC_InvalidMeasure : L2.ExcC K C_InvalidMeasure := ⟨ga_InvalidMeasure, gg_InvalidMeasure, eC_InvalidMeasure, hD_InvalidMeasure, hc_InvalidMeasure, hn_g, ht_g, mo_InvalidMeasure⟩
  have EC_InvalidNumber : L2.ExcC K C_InvalidNumber := ⟨ga_InvalidNumber, gg_InvalidNumber, eC_InvalidNumber, hD_InvalidNumber, hc_InvalidNumber, hn_g, ht_g, mo_InvalidNumber⟩
  have EC_InvalidRoot : L2.ExcC K C_InvalidRoot := ⟨ga_InvalidRoot, gg_InvalidRoot, eC_InvalidRoot, hD_InvalidRoot, hc_InvalidRoot, hn_g, ht_g, mo_InvalidRoot⟩
  have EC_InvalidCutting : L2.ExcC K C_InvalidCutting := ⟨ga_InvalidCutting, gg_InvalidCutting, eC_InvalidCutting, hD_InvalidCutting, hc_InvalidCutting, hn_g, ht_g, mo_InvalidCutting⟩
  have EC_InvalidDeed : L2.ExcC K C_InvalidDeed := ⟨ga_InvalidDeed, gg_InvalidDeed, eC_InvalidDeed, hD_InvalidDeed, hc_InvalidDeed, hn_g, ht_g, mo_InvalidDeed⟩
  have EC_InvalidWord : L2.ExcC K C_InvalidWord := ⟨ga_InvalidWord, gg_InvalidWord, eC_InvalidWord, hD_InvalidWord, hc_InvalidWord, hn_g, ht_g, mo_InvalidWord⟩
  have EC_InvalidList : L2.ExcC K C_InvalidList := ⟨ga_InvalidList, gg_InvalidList, eC_InvalidList, hD_InvalidList, hc_InvalidList, hn_g, ht_g, mo_InvalidList⟩
  have EC_InvalidPoint : L2.ExcC K C_InvalidPoint := ⟨ga_InvalidPoint, gg_InvalidPoint, eC_InvalidPoint, hD_InvalidPoint, hc_InvalidPoint, hn_g, ht_g, mo_InvalidPoint⟩
  have EC_InvalidTable : L2.ExcC K C_InvalidTable := ⟨ga_InvalidTable, gg_InvalidTable, eC_InvalidTable, hD_InvalidTable, hc_InvalidTable, hn_g, ht_g, mo_InvalidTable⟩
  have EC_InvalidFloor : L2.ExcC K C_InvalidFloor := ⟨ga_InvalidFloor, gg_InvalidFloor, eC_InvalidFloor, hD_InvalidFloor, hc_InvalidFloor, hn_g, ht_g, mo_InvalidFloor⟩
  have EC_Unlike : L2.ExcC K C_Unlike := ⟨ga_Unlike, gg_Unlike, eC_Unlike, hD_Unlike, hc_Unlike, hn_g, ht_g, mo_Unlike⟩
  have EC_TooMany : L2.ExcC K C_TooMany := ⟨ga_TooMany, gg_TooMany, eC_TooMany, hD_TooMany, hc_TooMany, hn_g, ht_g, mo_TooMany⟩
  have E_SheetError : ErrP K mg "SheetError" C_SheetError [.type "ValueError", .type "Exception", .type "BaseException", .type "object"] "ValueError" "ValueError.__new__" "ValueError.__init__" := ⟨F.excBase_ValueError, xS_SheetError, PySem.W.mg_of X G aC_SheetError, kC_SheetError, EC_SheetError⟩
  have T_InvalidMeasure : OexC K C_InvalidMeasure := ⟨⟨_, _, _, _, _, _, _, _, _, _, _, _, _, _, _, xL_InvalidMeasure, rfl⟩, sa_InvalidMeasure, eC_InvalidMeasure, tC_InvalidMeasure, kC_InvalidMeasure⟩
  have FI_InvalidMeasure : FunD K "__init__" "InvalidMeasure.__init__" (defArgs s_iInvalidMeasure) (defBody s_iInvalidMeasure) (defScope s_iInvalidMeasure) [V.non] [] f_InvalidMeasure (PySem.W.fnOf "__init__" "InvalidMeasure.__init__" (defArgs s_iInvalidMeasure) (defBody s_iInvalidMeasure) (defScope s_iInvalidMeasure) (.ref t_InvalidMeasure) kV_InvalidMeasure dc_InvalidMeasure pm_InvalidMeasure an_InvalidMeasure cd_InvalidMeasure ct_InvalidMeasure) := ⟨⟨oc_InvalidMeasure, od_InvalidMeasure, .ref t_InvalidMeasure, kV_InvalidMeasure, dc_InvalidMeasure, pm_InvalidMeasure, an_InvalidMeasure, cd_InvalidMeasure, ct_InvalidMeasure, sl_InvalidMeasure, rfl, l_InvalidMeasure, c_InvalidMeasure, .inr ⟨by simp, t_InvalidMeasure, _, [.none], tn_InvalidMeasure, rfl, lt_InvalidMeasure, rfl, .cons rfl .nil⟩, .inl rfl⟩, kf_InvalidMeasure⟩
  have E_InvalidMeasure : ErrN l.prog w K mg base "InvalidMeasure" C_InvalidMeasure f_InvalidMeasure _ := errN_mk iC_InvalidMeasure tI_InvalidMeasure (okiInvalidMeasure FI_InvalidMeasure T_InvalidMeasure nv_InvalidMeasure) (bdiInvalidMeasure FI_InvalidMeasure) T_InvalidMeasure (PySem.W.mg_of X G aC_InvalidMeasure) ga_InvalidMeasure gg_InvalidMeasure hD_InvalidMeasure EC_InvalidMeasure nv_InvalidMeasure
  have T_InvalidNumber : OexC K C_InvalidNumber := ⟨⟨_, _, _, _, _, _, _, _, _, _, _, _, _, _, _, xL_InvalidNumber, rfl⟩, sa_InvalidNumber, eC_InvalidNumber, tC_InvalidNumber, kC_InvalidNumber⟩
  have FI_InvalidNumber : FunD K "__init__" "InvalidNumber.__init__" (defArgs s_iInvalidNumber) (defBody s_iInvalidNumber) (defScope s_iInvalidNumber) [V.non] [] f_InvalidNumber (PySem.W.fnOf "__init__" "InvalidNumber.__init__" (defArgs s_iInvalidNumber) (defBody s_iInvalidNumber) (defScope s_iInvalidNumber) (.ref t_InvalidNumber) kV_InvalidNumber dc_InvalidNumber pm_InvalidNumber an_InvalidNumber cd_InvalidNumber ct_InvalidNumber) := ⟨⟨oc_InvalidNumber, od_InvalidNumber, .ref t_InvalidNumber, kV_InvalidNumber, dc_InvalidNumber, pm_InvalidNumber, an_InvalidNumber, cd_InvalidNumber, ct_InvalidNumber, sl_InvalidNumber, rfl, l_InvalidNumber, c_InvalidNumber, .inr ⟨by simp, t_InvalidNumber, _, [.none], tn_InvalidNumber, rfl, lt_InvalidNumber, rfl, .cons rfl .nil⟩, .inl rfl⟩, kf_InvalidNumber⟩
  have E_InvalidNumber : ErrN l.prog w K mg base "InvalidNumber" C_InvalidNumber f_InvalidNumber _ := errN_mk iC_InvalidNumber tI_InvalidNumber (okiInvalidNumber FI_InvalidNumber T_InvalidNumber nv_InvalidNumber) (bdiInvalidNumber FI_InvalidNumber) T_InvalidNumber (PySem.W.mg_of X G aC_InvalidNumber) ga_InvalidNumber gg_InvalidNumber hD_InvalidNumber EC_InvalidNumber nv_InvalidNumber
  have T_InvalidRoot : OexC K C_InvalidRoot := ⟨⟨_, _, _, _, _, _, _, _, _, _, _, _, _, _, _, xL_InvalidRoot, rfl⟩, sa_InvalidRoot, eC_InvalidRoot, tC_InvalidRoot, kC_InvalidRoot⟩
  have FI_InvalidRoot : FunD K "__init__" "InvalidRoot.__init__" (defArgs s_iInvalidRoot) (defBody s_iInvalidRoot) (defScope s_iInvalidRoot) [V.non] [] f_InvalidRoot (PySem.W.fnOf "__init__" "InvalidRoot.__init__" (defArgs s_iInvalidRoot) (defBody s_iInvalidRoot) (defScope s_iInvalidRoot) (.ref t_InvalidRoot) kV_InvalidRoot dc_InvalidRoot pm_InvalidRoot an_InvalidRoot cd_InvalidRoot ct_InvalidRoot) := ⟨⟨oc_InvalidRoot, od_InvalidRoot, .ref t_InvalidRoot, kV_InvalidRoot, dc_InvalidRoot, pm_InvalidRoot, an_InvalidRoot, cd_InvalidRoot, ct_InvalidRoot, sl_InvalidRoot, rfl, l_InvalidRoot, c_InvalidRoot, .inr ⟨by simp, t_InvalidRoot, _, [.none], tn_InvalidRoot, rfl, lt_InvalidRoot, rfl, .cons rfl .nil⟩, .inl rfl⟩, kf_InvalidRoot⟩
  have E_InvalidRoot : ErrN l.prog w K mg base "InvalidRoot" C_InvalidRoot f_InvalidRoot _ := errN_mk iC_InvalidRoot tI_InvalidRoot (okiInvalidRoot FI_InvalidRoot T_InvalidRoot nv_InvalidRoot) (bdiInvalidRoot FI_InvalidRoot) T_InvalidRoot (PySem.W.mg_of X G aC_InvalidRoot) ga_InvalidRoot gg_InvalidRoot hD_InvalidRoot EC_InvalidRoot nv_InvalidRoot
  have T_InvalidCutting : OexC K C_InvalidCutting := ⟨⟨_, _, _, _, _, _, _, _, _, _, _, _, _, _, _, xL_InvalidCutting, rfl⟩, sa_InvalidCutting, eC_InvalidCutting, tC_InvalidCutting, kC_InvalidCutting⟩
  have FI_InvalidCutting : FunD K "__init__" "InvalidCutting.__init__" (defArgs s_iInvalidCutting) (defBody s_iInvalidCutting) (defScope s_iInvalidCutting) [V.non] [] f_InvalidCutting (PySem.W.fnOf "__init__" "InvalidCutting.__init__" (defArgs s_iInvalidCutting) (defBody s_iInvalidCutting) (defScope s_iInvalidCutting) (.ref t_InvalidCutting) kV_InvalidCutting dc_InvalidCutting pm_InvalidCutting an_InvalidCutting cd_InvalidCutting ct_InvalidCutting) := ⟨⟨oc_InvalidCutting, od_InvalidCutting, .ref t_InvalidCutting, kV_InvalidCutting, dc_InvalidCutting, pm_InvalidCutting, an_InvalidCutting, cd_InvalidCutting, ct_InvalidCutting, sl_InvalidCutting, rfl, l_InvalidCutting, c_InvalidCutting, .inr ⟨by simp, t_InvalidCutting, _, [.none], tn_InvalidCutting, rfl, lt_InvalidCutting, rfl, .cons rfl .nil⟩, .inl rfl⟩, kf_InvalidCutting⟩
  have E_InvalidCutting : ErrN l.prog w K mg base "InvalidCutting" C_InvalidCutting f_InvalidCutting _ := errN_mk iC_InvalidCutting tI_InvalidCutting (okiInvalidCutting FI_InvalidCutting T_InvalidCutting nv_InvalidCutting) (bdiInvalidCutting FI_InvalidCutting) T_InvalidCutting (PySem.W.mg_of X G aC_InvalidCutting) ga_InvalidCutting gg_InvalidCutting hD_InvalidCutting EC_InvalidCutting nv_InvalidCutting
  have T_InvalidDeed : OexC K C_InvalidDeed := ⟨⟨_, _, _, _, _, _, _, _, _, _, _, _, _, _, _, xL_InvalidDeed, rfl⟩, sa_InvalidDeed, eC_InvalidDeed, tC_InvalidDeed, kC_InvalidDeed⟩
  have FI_InvalidDeed : FunD K "__init__" "InvalidDeed.__init__" (defArgs s_iInvalidDeed) (defBody s_iInvalidDeed) (defScope s_iInvalidDeed) [V.non] [] f_InvalidDeed (PySem.W.fnOf "__init__" "InvalidDeed.__init__" (defArgs s_iInvalidDeed) (defBody s_iInvalidDeed) (defScope s_iInvalidDeed) (.ref t_InvalidDeed) kV_InvalidDeed dc_InvalidDeed pm_InvalidDeed an_InvalidDeed cd_InvalidDeed ct_InvalidDeed) := ⟨⟨oc_InvalidDeed, od_InvalidDeed, .ref t_InvalidDeed, kV_InvalidDeed, dc_InvalidDeed, pm_InvalidDeed, an_InvalidDeed, cd_InvalidDeed, ct_InvalidDeed, sl_InvalidDeed, rfl, l_InvalidDeed, c_InvalidDeed, .inr ⟨by simp, t_InvalidDeed, _, [.none], tn_InvalidDeed, rfl, lt_InvalidDeed, rfl, .cons rfl .nil⟩, .inl rfl⟩, kf_InvalidDeed⟩
  have E_InvalidDeed : ErrN l.prog w K mg base "InvalidDeed" C_InvalidDeed f_InvalidDeed _ := errN_mk iC_InvalidDeed tI_InvalidDeed (okiInvalidDeed FI_InvalidDeed T_InvalidDeed nv_InvalidDeed) (bdiInvalidDeed FI_InvalidDeed) T_InvalidDeed (PySem.W.mg_of X G aC_InvalidDeed) ga_InvalidDeed gg_InvalidDeed hD_InvalidDeed EC_InvalidDeed nv_InvalidDeed
  have T_InvalidWord : OexC K C_InvalidWord := ⟨⟨_, _, _, _, _, _, _, _, _, _, _, _, _, _, _, xL_InvalidWord, rfl⟩, sa_InvalidWord, eC_InvalidWord, tC_InvalidWord, kC_InvalidWord⟩
  have FI_InvalidWord : FunD K "__init__" "InvalidWord.__init__" (defArgs s_iInvalidWord) (defBody s_iInvalidWord) (defScope s_iInvalidWord) [V.non] [] f_InvalidWord (PySem.W.fnOf "__init__" "InvalidWord.__init__" (defArgs s_iInvalidWord) (defBody s_iInvalidWord) (defScope s_iInvalidWord) (.ref t_InvalidWord) kV_InvalidWord dc_InvalidWord pm_InvalidWord an_InvalidWord cd_InvalidWord ct_InvalidWord) := ⟨⟨oc_InvalidWord, od_InvalidWord, .ref t_InvalidWord, kV_InvalidWord, dc_InvalidWord, pm_InvalidWord, an_InvalidWord, cd_InvalidWord, ct_InvalidWord, sl_InvalidWord, rfl, l_InvalidWord, c_InvalidWord, .inr ⟨by simp, t_InvalidWord, _, [.none], tn_InvalidWord, rfl, lt_InvalidWord, rfl, .cons rfl .nil⟩, .inl rfl⟩, kf_InvalidWord⟩
  have E_InvalidWord : ErrN l.prog w K mg base "InvalidWord" C_InvalidWord f_InvalidWord _ := errN_mk iC_InvalidWord tI_InvalidWord (okiInvalidWord FI_InvalidWord T_InvalidWord nv_InvalidWord) (bdiInvalidWord FI_InvalidWord) T_InvalidWord (PySem.W.mg_of X G aC_InvalidWord) ga_InvalidWord gg_InvalidWord hD_InvalidWord EC_InvalidWord nv_InvalidWord
  have T_InvalidList : OexC K C_InvalidList := ⟨⟨_, _, _, _, _, _, _, _, _, _, _, _, _, _, _, xL_InvalidList, rfl⟩, sa_InvalidList, eC_InvalidList, tC_InvalidList, kC_InvalidList⟩
  have FI_InvalidList : FunD K "__init__" "InvalidList.__init__" (defArgs s_iInvalidList) (defBody s_iInvalidList) (defScope s_iInvalidList) [V.non] [] f_InvalidList (PySem.W.fnOf "__init__" "InvalidList.__init__" (defArgs s_iInvalidList) (defBody s_iInvalidList) (defScope s_iInvalidList) (.ref t_InvalidList) kV_InvalidList dc_InvalidList pm_InvalidList an_InvalidList cd_InvalidList ct_InvalidList) := ⟨⟨oc_InvalidList, od_InvalidList, .ref t_InvalidList, kV_InvalidList, dc_InvalidList, pm_InvalidList, an_InvalidList, cd_InvalidList, ct_InvalidList, sl_InvalidList, rfl, l_InvalidList, c_InvalidList, .inr ⟨by simp, t_InvalidList, _, [.none], tn_InvalidList, rfl, lt_InvalidList, rfl, .cons rfl .nil⟩, .inl rfl⟩, kf_InvalidList⟩
  have E_InvalidList : ErrN l.prog w K mg base "InvalidList" C_InvalidList f_InvalidList _ := errN_mk iC_InvalidList tI_InvalidList (okiInvalidList FI_InvalidList T_InvalidList nv_InvalidList) (bdiInvalidList FI_InvalidList) T_InvalidList (PySem.W.mg_of X G aC_InvalidList) ga_InvalidList gg_InvalidList hD_InvalidList EC_InvalidList nv_InvalidList
  have T_InvalidPoint : OexC K C_InvalidPoint := ⟨⟨_, _, _, _, _, _, _, _, _, _, _, _, _, _, _, xL_InvalidPoint, rfl⟩, sa_InvalidPoint, eC_InvalidPoint, tC_InvalidPoint, kC_InvalidPoint⟩
  have FI_InvalidPoint : FunD K "__init__" "InvalidPoint.__init__" (defArgs s_iInvalidPoint) (defBody s_iInvalidPoint) (defScope s_iInvalidPoint) [V.non] [] f_InvalidPoint (PySem.W.fnOf "__init__" "InvalidPoint.__init__" (defArgs s_iInvalidPoint) (defBody s_iInvalidPoint) (defScope s_iInvalidPoint) (.ref t_InvalidPoint) kV_InvalidPoint dc_InvalidPoint pm_InvalidPoint an_InvalidPoint cd_InvalidPoint ct_InvalidPoint) := ⟨⟨oc_InvalidPoint, od_InvalidPoint, .ref t_InvalidPoint, kV_InvalidPoint, dc_InvalidPoint, pm_InvalidPoint, an_InvalidPoint, cd_InvalidPoint, ct_InvalidPoint, sl_InvalidPoint, rfl, l_InvalidPoint, c_InvalidPoint, .inr ⟨by simp, t_InvalidPoint, _, [.none], tn_InvalidPoint, rfl, lt_InvalidPoint, rfl, .cons rfl .nil⟩, .inl rfl⟩, kf_InvalidPoint⟩
  have E_InvalidPoint : ErrN l.prog w K mg base "InvalidPoint" C_InvalidPoint f_InvalidPoint _ := errN_mk iC_InvalidPoint tI_InvalidPoint (okiInvalidPoint FI_InvalidPoint T_InvalidPoint nv_InvalidPoint) (bdiInvalidPoint FI_InvalidPoint) T_InvalidPoint (PySem.W.mg_of X G aC_InvalidPoint) ga_InvalidPoint gg_InvalidPoint hD_InvalidPoint EC_InvalidPoint nv_InvalidPoint
  have T_InvalidTable : OexC K C_InvalidTable := ⟨⟨_, _, _, _, _, _, _, _, _, _, _, _, _, _, _, xL_InvalidTable, rfl⟩, sa_InvalidTable, eC_InvalidTable, tC_InvalidTable, kC_InvalidTable⟩
  have FI_InvalidTable : FunD K "__init__" "InvalidTable.__init__" (defArgs s_iInvalidTable) (defBody s_iInvalidTable) (defScope s_iInvalidTable) [V.non] [] f_InvalidTable (PySem.W.fnOf "__init__" "InvalidTable.__init__" (defArgs s_iInvalidTable) (defBody s_iInvalidTable) (defScope s_iInvalidTable) (.ref t_InvalidTable) kV_InvalidTable dc_InvalidTable pm_InvalidTable an_InvalidTable cd_InvalidTable ct_InvalidTable) := ⟨⟨oc_InvalidTable, od_InvalidTable, .ref t_InvalidTable, kV_InvalidTable, dc_InvalidTable, pm_InvalidTable, an_InvalidTable, cd_InvalidTable, ct_InvalidTable, sl_InvalidTable, rfl, l_InvalidTable, c_InvalidTable, .inr ⟨by simp, t_InvalidTable, _, [.none], tn_InvalidTable, rfl, lt_InvalidTable, rfl, .cons rfl .nil⟩, .inl rfl⟩, kf_InvalidTable⟩
  have E_InvalidTable : ErrN l.prog w K mg base "InvalidTable" C_InvalidTable f_InvalidTable _ := errN_mk iC_InvalidTable tI_InvalidTable (okiInvalidTable FI_InvalidTable T_InvalidTable nv_InvalidTable) (bdiInvalidTable FI_InvalidTable) T_InvalidTable (PySem.W.mg_of X G aC_InvalidTable) ga_InvalidTable gg_InvalidTable hD_InvalidTable EC_InvalidTable nv_InvalidTable
  have T_InvalidFloor : OexC K C_InvalidFloor := ⟨⟨_, _, _, _, _, _, _, _, _, _, _, _, _, _, _, xL_InvalidFloor, rfl⟩, sa_InvalidFloor, eC_InvalidFloor, tC_InvalidFloor, kC_InvalidFloor⟩
  have FI_InvalidFloor : FunD K "__init__" "InvalidFloor.__init__" (defArgs s_iInvalidFloor) (defBody s_iInvalidFloor) (defScope s_iInvalidFloor) [V.non] [] f_InvalidFloor (PySem.W.fnOf "__init__" "InvalidFloor.__init__" (defArgs s_iInvalidFloor) (defBody s_iInvalidFloor) (defScope s_iInvalidFloor) (.ref t_InvalidFloor) kV_InvalidFloor dc_InvalidFloor pm_InvalidFloor an_InvalidFloor cd_InvalidFloor ct_InvalidFloor) := ⟨⟨oc_InvalidFloor, od_InvalidFloor, .ref t_InvalidFloor, kV_InvalidFloor, dc_InvalidFloor, pm_InvalidFloor, an_InvalidFloor, cd_InvalidFloor, ct_InvalidFloor, sl_InvalidFloor, rfl, l_InvalidFloor, c_InvalidFloor, .inr ⟨by simp, t_InvalidFloor, _, [.none], tn_InvalidFloor, rfl, lt_InvalidFloor, rfl, .cons rfl .nil⟩, .inl rfl⟩, kf_InvalidFloor⟩
  have E_InvalidFloor : ErrN l.prog w K mg base "InvalidFloor" C_InvalidFloor f_InvalidFloor _ := errN_mk iC_InvalidFloor tI_InvalidFloor (okiInvalidFloor FI_InvalidFloor T_InvalidFloor nv_InvalidFloor) (bdiInvalidFloor FI_InvalidFloor) T_InvalidFloor (PySem.W.mg_of X G aC_InvalidFloor) ga_InvalidFloor gg_InvalidFloor hD_InvalidFloor EC_InvalidFloor nv_InvalidFloor
  have T_Unlike : OexC K C_Unlike := ⟨⟨_, _, _, _, _, _, _, _, _, _, _, _, _, _, _, xL_Unlike, rfl⟩, sa_Unlike, eC_Unlike, tC_Unlike, kC_Unlike⟩
  have FI_Unlike : FunD K "__init__" "Unlike.__init__" (defArgs s_iUnlike) (defBody s_iUnlike) (defScope s_iUnlike) [V.non] [] f_Unlike (PySem.W.fnOf "__init__" "Unlike.__init__" (defArgs s_iUnlike) (defBody s_iUnlike) (defScope s_iUnlike) (.ref t_Unlike) kV_Unlike dc_Unlike pm_Unlike an_Unlike cd_Unlike ct_Unlike) := ⟨⟨oc_Unlike, od_Unlike, .ref t_Unlike, kV_Unlike, dc_Unlike, pm_Unlike, an_Unlike, cd_Unlike, ct_Unlike, sl_Unlike, rfl, l_Unlike, c_Unlike, .inr ⟨by simp, t_Unlike, _, [.none], tn_Unlike, rfl, lt_Unlike, rfl, .cons rfl .nil⟩, .inl rfl⟩, kf_Unlike⟩
  have E_Unlike : ErrN l.prog w K mg base "Unlike" C_Unlike f_Unlike _ := errN_mk iC_Unlike tI_Unlike (okiUnlike FI_Unlike T_Unlike nv_Unlike) (bdiUnlike FI_Unlike) T_Unlike (PySem.W.mg_of X G aC_Unlike) ga_Unlike gg_Unlike hD_Unlike EC_Unlike nv_Unlike
  have T_TooMany : OexC K C_TooMany := ⟨⟨_, _, _, _, _, _, _, _, _, _, _, _, _, _, _, xL_TooMany, rfl⟩, sa_TooMany, eC_TooMany, tC_TooMany, kC_TooMany⟩
  have FI_TooMany : FunD K "__init__" "TooMany.__init__" (defArgs s_iTooMany) (defBody s_iTooMany) (defScope s_iTooMany) [V.non] [] f_TooMany (PySem.W.fnOf "__init__" "TooMany.__init__" (defArgs s_iTooMany) (defBody s_iTooMany) (defScope s_iTooMany) (.ref t_TooMany) kV_TooMany dc_TooMany pm_TooMany an_TooMany cd_TooMany ct_TooMany) := ⟨⟨oc_TooMany, od_TooMany, .ref t_TooMany, kV_TooMany, dc_TooMany, pm_TooMany, an_TooMany, cd_TooMany, ct_TooMany, sl_TooMany, rfl, l_TooMany, c_TooMany, .inr ⟨by simp, t_TooMany, _, [.none], tn_TooMany, rfl, lt_TooMany, rfl, .cons rfl .nil⟩, .inl rfl⟩, kf_TooMany⟩
  have E_TooMany : ErrN l.prog w K mg base "TooMany" C_TooMany f_TooMany _ := errN_mk iC_TooMany tI_TooMany (okiTooMany FI_TooMany T_TooMany nv_TooMany) (bdiTooMany FI_TooMany) T_TooMany (PySem.W.mg_of X G aC_TooMany) ga_TooMany gg_TooMany hD_TooMany EC_TooMany nv_TooMany
  have KT : KitT K [C_InvalidMeasure, C_InvalidNumber, C_InvalidRoot, C_InvalidCutting, C_InvalidDeed, C_InvalidWord, C_InvalidList, C_InvalidPoint, C_InvalidTable, C_InvalidFloor, C_Unlike, C_TooMany] C_SheetError := by
    refine ⟨fun i j C D hC hD => ?_, fun C hC => ?_, fun C hC => ?_, fun C hC => ?_, kit_ve sv_SheetError, fun C hC => ?_, fun C hC => ?_, fun C hC => ?_⟩
    · have hi : i < 12 := (List.getElem?_eq_some_iff.mp hC).1
      have hj : j < 12 := (List.getElem?_eq_some_iff.mp hD).1
      rcases (show i = 0 ∨ i = 1 ∨ i = 2 ∨ i = 3 ∨ i = 4 ∨ i = 5 ∨ i = 6 ∨ i = 7 ∨ i = 8 ∨ i = 9 ∨ i = 10 ∨ i = 11 by omega) with rfl | rfl | rfl | rfl | rfl | rfl | rfl | rfl | rfl | rfl | rfl | rfl
      · cases hC
        rcases (show j = 0 ∨ j = 1 ∨ j = 2 ∨ j = 3 ∨ j = 4 ∨ j = 5 ∨ j = 6 ∨ j = 7 ∨ j = 8 ∨ j = 9 ∨ j = 10 ∨ j = 11 by omega) with rfl | rfl | rfl | rfl | rfl | rfl | rfl | rfl | rfl | rfl | rfl | rfl
        · cases hD; exact kit_ref iS_InvalidMeasure tC_InvalidMeasure p_InvalidMeasure_InvalidMeasure p_InvalidMeasure_InvalidMeasure
        · cases hD; exact kit_ref iS_InvalidNumber tC_InvalidNumber p_InvalidNumber_InvalidNumber p_InvalidMeasure_InvalidNumber
        · cases hD; exact kit_ref iS_InvalidRoot tC_InvalidRoot p_InvalidRoot_InvalidRoot p_InvalidMeasure_InvalidRoot
        · cases hD; exact kit_ref iS_InvalidCutting tC_InvalidCutting p_InvalidCutting_InvalidCutting p_InvalidMeasure_InvalidCutting
        · cases hD; exact kit_ref iS_InvalidDeed tC_InvalidDeed p_InvalidDeed_InvalidDeed p_InvalidMeasure_InvalidDeed
        · cases hD; exact kit_ref iS_InvalidWord tC_InvalidWord p_InvalidWord_InvalidWord p_InvalidMeasure_InvalidWord
        · cases hD; exact kit_ref iS_InvalidList tC_InvalidList p_InvalidList_InvalidList p_InvalidMeasure_InvalidList
        · cases hD; exact kit_ref iS_InvalidPoint tC_InvalidPoint p_InvalidPoint_InvalidPoint p_InvalidMeasure_InvalidPoint
        · cases hD; exact kit_ref iS_InvalidTable tC_InvalidTable p_InvalidTable_InvalidTable p_InvalidMeasure_InvalidTable
        · cases hD; exact kit_ref iS_InvalidFloor tC_InvalidFloor p_InvalidFloor_InvalidFloor p_InvalidMeasure_InvalidFloor
        · cases hD; exact kit_ref iS_Unlike tC_Unlike p_Unlike_Unlike p_InvalidMeasure_Unlike
        · cases hD; exact kit_ref iS_TooMany tC_TooMany p_TooMany_TooMany p_InvalidMeasure_TooMany
      · cases hC
        rcases (show j = 0 ∨ j = 1 ∨ j = 2 ∨ j = 3 ∨ j = 4 ∨ j = 5 ∨ j = 6 ∨ j = 7 ∨ j = 8 ∨ j = 9 ∨ j = 10 ∨ j = 11 by omega) with rfl | rfl | rfl | rfl | rfl | rfl | rfl | rfl | rfl | rfl | rfl | rfl
        · cases hD; exact kit_ref iS_InvalidMeasure tC_InvalidMeasure p_InvalidMeasure_InvalidMeasure p_InvalidNumber_InvalidMeasure
        · cases hD; exact kit_ref iS_InvalidNumber tC_InvalidNumber p_InvalidNumber_InvalidNumber p_InvalidNumber_InvalidNumber
        · cases hD; exact kit_ref iS_InvalidRoot tC_InvalidRoot p_InvalidRoot_InvalidRoot p_InvalidNumber_InvalidRoot
        · cases hD; exact kit_ref iS_InvalidCutting tC_InvalidCutting p_InvalidCutting_InvalidCutting p_InvalidNumber_InvalidCutting
        · cases hD; exact kit_ref iS_InvalidDeed tC_InvalidDeed p_InvalidDeed_InvalidDeed p_InvalidNumber_InvalidDeed
        · cases hD; exact kit_ref iS_InvalidWord tC_InvalidWord p_InvalidWord_InvalidWord p_InvalidNumber_InvalidWord
        · cases hD; exact kit_ref iS_InvalidList tC_InvalidList p_InvalidList_InvalidList p_InvalidNumber_InvalidList
        · cases hD; exact kit_ref iS_InvalidPoint tC_InvalidPoint p_InvalidPoint_InvalidPoint p_InvalidNumber_InvalidPoint
        · cases hD; exact kit_ref iS_InvalidTable tC_InvalidTable p_InvalidTable_InvalidTable p_InvalidNumber_InvalidTable
        · cases hD; exact kit_ref iS_InvalidFloor tC_InvalidFloor p_InvalidFloor_InvalidFloor p_InvalidNumber_InvalidFloor
        · cases hD; exact kit_ref iS_Unlike tC_Unlike p_Unlike_Unlike p_InvalidNumber_Unlike
        · cases hD; exact kit_ref iS_TooMany tC_TooMany p_TooMany_TooMany p_InvalidNumber_TooMany
      · cases hC
        rcases (show j = 0 ∨ j = 1 ∨ j = 2 ∨ j = 3 ∨ j = 4 ∨ j = 5 ∨ j = 6 ∨ j = 7 ∨ j = 8 ∨ j = 9 ∨ j = 10 ∨ j = 11 by omega) with rfl | rfl | rfl | rfl | rfl | rfl | rfl | rfl | rfl | rfl | rfl | rfl
        · cases hD; exact kit_ref iS_InvalidMeasure tC_InvalidMeasure p_InvalidMeasure_InvalidMeasure p_InvalidRoot_InvalidMeasure
        · cases hD; exact kit_ref iS_InvalidNumber tC_InvalidNumber p_InvalidNumber_InvalidNumber p_InvalidRoot_InvalidNumber
        · cases hD; exact kit_ref iS_InvalidRoot tC_InvalidRoot p_InvalidRoot_InvalidRoot p_InvalidRoot_InvalidRoot
        · cases hD; exact kit_ref iS_InvalidCutting tC_InvalidCutting p_InvalidCutting_InvalidCutting p_InvalidRoot_InvalidCutting
        · cases hD; exact kit_ref iS_InvalidDeed tC_InvalidDeed p_InvalidDeed_InvalidDeed p_InvalidRoot_InvalidDeed
        · cases hD; exact kit_ref iS_InvalidWord tC_InvalidWord p_InvalidWord_InvalidWord p_InvalidRoot_InvalidWord
        · cases hD; exact kit_ref iS_InvalidList tC_InvalidList p_InvalidList_InvalidList p_InvalidRoot_InvalidList
        · cases hD; exact kit_ref iS_InvalidPoint tC_InvalidPoint p_InvalidPoint_InvalidPoint p_InvalidRoot_InvalidPoint
        · cases hD; exact kit_ref iS_InvalidTable tC_InvalidTable p_InvalidTable_InvalidTable p_InvalidRoot_InvalidTable
        · cases hD; exact kit_ref iS_InvalidFloor tC_InvalidFloor p_InvalidFloor_InvalidFloor p_InvalidRoot_InvalidFloor
        · cases hD; exact kit_ref iS_Unlike tC_Unlike p_Unlike_Unlike p_InvalidRoot_Unlike
        · cases hD; exact kit_ref iS_TooMany tC_TooMany p_TooMany_TooMany p_InvalidRoot_TooMany
      · cases hC
        rcases (show j = 0 ∨ j = 1 ∨ j = 2 ∨ j = 3 ∨ j = 4 ∨ j = 5 ∨ j = 6 ∨ j = 7 ∨ j = 8 ∨ j = 9 ∨ j = 10 ∨ j = 11 by omega) with rfl | rfl | rfl | rfl | rfl | rfl | rfl | rfl | rfl | rfl | rfl | rfl
        · cases hD; exact kit_ref iS_InvalidMeasure tC_InvalidMeasure p_InvalidMeasure_InvalidMeasure p_InvalidCutting_InvalidMeasure
        · cases hD; exact kit_ref iS_InvalidNumber tC_InvalidNumber p_InvalidNumber_InvalidNumber p_InvalidCutting_InvalidNumber
        · cases hD; exact kit_ref iS_InvalidRoot tC_InvalidRoot p_InvalidRoot_InvalidRoot p_InvalidCutting_InvalidRoot
        · cases hD; exact kit_ref iS_InvalidCutting tC_InvalidCutting p_InvalidCutting_InvalidCutting p_InvalidCutting_InvalidCutting
        · cases hD; exact kit_ref iS_InvalidDeed tC_InvalidDeed p_InvalidDeed_InvalidDeed p_InvalidCutting_InvalidDeed
        · cases hD; exact kit_ref iS_InvalidWord tC_InvalidWord p_InvalidWord_InvalidWord p_InvalidCutting_InvalidWord
        · cases hD; exact kit_ref iS_InvalidList tC_InvalidList p_InvalidList_InvalidList p_InvalidCutting_InvalidList
        · cases hD; exact kit_ref iS_InvalidPoint tC_InvalidPoint p_InvalidPoint_InvalidPoint p_InvalidCutting_InvalidPoint
        · cases hD; exact kit_ref iS_InvalidTable tC_InvalidTable p_InvalidTable_InvalidTable p_InvalidCutting_InvalidTable
        · cases hD; exact kit_ref iS_InvalidFloor tC_InvalidFloor p_InvalidFloor_InvalidFloor p_InvalidCutting_InvalidFloor
        · cases hD; exact kit_ref iS_Unlike tC_Unlike p_Unlike_Unlike p_InvalidCutting_Unlike
        · cases hD; exact kit_ref iS_TooMany tC_TooMany p_TooMany_TooMany p_InvalidCutting_TooMany
      · cases hC
        rcases (show j = 0 ∨ j = 1 ∨ j = 2 ∨ j = 3 ∨ j = 4 ∨ j = 5 ∨ j = 6 ∨ j = 7 ∨ j = 8 ∨ j = 9 ∨ j = 10 ∨ j = 11 by omega) with rfl | rfl | rfl | rfl | rfl | rfl | rfl | rfl | rfl | rfl | rfl | rfl
        · cases hD; exact kit_ref iS_InvalidMeasure tC_InvalidMeasure p_InvalidMeasure_InvalidMeasure p_InvalidDeed_InvalidMeasure
        · cases hD; exact kit_ref iS_InvalidNumber tC_InvalidNumber p_InvalidNumber_InvalidNumber p_InvalidDeed_InvalidNumber
        · cases hD; exact kit_ref iS_InvalidRoot tC_InvalidRoot p_InvalidRoot_InvalidRoot p_InvalidDeed_InvalidRoot
        · cases hD; exact kit_ref iS_InvalidCutting tC_InvalidCutting p_InvalidCutting_InvalidCutting p_InvalidDeed_InvalidCutting
        · cases hD; exact kit_ref iS_InvalidDeed tC_InvalidDeed p_InvalidDeed_InvalidDeed p_InvalidDeed_InvalidDeed
        · cases hD; exact kit_ref iS_InvalidWord tC_InvalidWord p_InvalidWord_InvalidWord p_InvalidDeed_InvalidWord
        · cases hD; exact kit_ref iS_InvalidList tC_InvalidList p_InvalidList_InvalidList p_InvalidDeed_InvalidList
        · cases hD; exact kit_ref iS_InvalidPoint tC_InvalidPoint p_InvalidPoint_InvalidPoint p_InvalidDeed_InvalidPoint
        · cases hD; exact kit_ref iS_InvalidTable tC_InvalidTable p_InvalidTable_InvalidTable p_InvalidDeed_InvalidTable
        · cases hD; exact kit_ref iS_InvalidFloor tC_InvalidFloor p_InvalidFloor_InvalidFloor p_InvalidDeed_InvalidFloor
        · cases hD; exact kit_ref iS_Unlike tC_Unlike p_Unlike_Unlike p_InvalidDeed_Unlike
        · cases hD; exact kit_ref iS_TooMany tC_TooMany p_TooMany_TooMany p_InvalidDeed_TooMany
      · cases hC
        rcases (show j = 0 ∨ j = 1 ∨ j = 2 ∨ j = 3 ∨ j = 4 ∨ j = 5 ∨ j = 6 ∨ j = 7 ∨ j = 8 ∨ j = 9 ∨ j = 10 ∨ j = 11 by omega) with rfl | rfl | rfl | rfl | rfl | rfl | rfl | rfl | rfl | rfl | rfl | rfl
        · cases hD; exact kit_ref iS_InvalidMeasure tC_InvalidMeasure p_InvalidMeasure_InvalidMeasure p_InvalidWord_InvalidMeasure
        · cases hD; exact kit_ref iS_InvalidNumber tC_InvalidNumber p_InvalidNumber_InvalidNumber p_InvalidWord_InvalidNumber
        · cases hD; exact kit_ref iS_InvalidRoot tC_InvalidRoot p_InvalidRoot_InvalidRoot p_InvalidWord_InvalidRoot
        · cases hD; exact kit_ref iS_InvalidCutting tC_InvalidCutting p_InvalidCutting_InvalidCutting p_InvalidWord_InvalidCutting
        · cases hD; exact kit_ref iS_InvalidDeed tC_InvalidDeed p_InvalidDeed_InvalidDeed p_InvalidWord_InvalidDeed
        · cases hD; exact kit_ref iS_InvalidWord tC_InvalidWord p_InvalidWord_InvalidWord p_InvalidWord_InvalidWord
        · cases hD; exact kit_ref iS_InvalidList tC_InvalidList p_InvalidList_InvalidList p_InvalidWord_InvalidList
        · cases hD; exact kit_ref iS_InvalidPoint tC_InvalidPoint p_InvalidPoint_InvalidPoint p_InvalidWord_InvalidPoint
        · cases hD; exact kit_ref iS_InvalidTable tC_InvalidTable p_InvalidTable_InvalidTable p_InvalidWord_InvalidTable
        · cases hD; exact kit_ref iS_InvalidFloor tC_InvalidFloor p_InvalidFloor_InvalidFloor p_InvalidWord_InvalidFloor
        · cases hD; exact kit_ref iS_Unlike tC_Unlike p_Unlike_Unlike p_InvalidWord_Unlike
        · cases hD; exact kit_ref iS_TooMany tC_TooMany p_TooMany_TooMany p_InvalidWord_TooMany
      · cases hC
        rcases (show j = 0 ∨ j = 1 ∨ j = 2 ∨ j = 3 ∨ j = 4 ∨ j = 5 ∨ j = 6 ∨ j = 7 ∨ j = 8 ∨ j = 9 ∨ j = 10 ∨ j = 11 by omega) with rfl | rfl | rfl | rfl | rfl | rfl | rfl | rfl | rfl | rfl | rfl | rfl
        · cases hD; exact kit_ref iS_InvalidMeasure tC_InvalidMeasure p_InvalidMeasure_InvalidMeasure p_InvalidList_InvalidMeasure
        · cases hD; exact kit_ref iS_InvalidNumber tC_InvalidNumber p_InvalidNumber_InvalidNumber p_InvalidList_InvalidNumber
        · cases hD; exact kit_ref iS_InvalidRoot tC_InvalidRoot p_InvalidRoot_InvalidRoot p_InvalidList_InvalidRoot
        · cases hD; exact kit_ref iS_InvalidCutting tC_InvalidCutting p_InvalidCutting_InvalidCutting p_InvalidList_InvalidCutting
        · cases hD; exact kit_ref iS_InvalidDeed tC_InvalidDeed p_InvalidDeed_InvalidDeed p_InvalidList_InvalidDeed
        · cases hD; exact kit_ref iS_InvalidWord tC_InvalidWord p_InvalidWord_InvalidWord p_InvalidList_InvalidWord
        · cases hD; exact kit_ref iS_InvalidList tC_InvalidList p_InvalidList_InvalidList p_InvalidList_InvalidList
        · cases hD; exact kit_ref iS_InvalidPoint tC_InvalidPoint p_InvalidPoint_InvalidPoint p_InvalidList_InvalidPoint
        · cases hD; exact kit_ref iS_InvalidTable tC_InvalidTable p_InvalidTable_InvalidTable p_InvalidList_InvalidTable
        · cases hD; exact kit_ref iS_InvalidFloor tC_InvalidFloor p_InvalidFloor_InvalidFloor p_InvalidList_InvalidFloor
        · cases hD; exact kit_ref iS_Unlike tC_Unlike p_Unlike_Unlike p_InvalidList_Unlike
        · cases hD; exact kit_ref iS_TooMany tC_TooMany p_TooMany_TooMany p_InvalidList_TooMany
      · cases hC
        rcases (show j = 0 ∨ j = 1 ∨ j = 2 ∨ j = 3 ∨ j = 4 ∨ j = 5 ∨ j = 6 ∨ j = 7 ∨ j = 8 ∨ j = 9 ∨ j = 10 ∨ j = 11 by omega) with rfl | rfl | rfl | rfl | rfl | rfl | rfl | rfl | rfl | rfl | rfl | rfl
        · cases hD; exact kit_ref iS_InvalidMeasure tC_InvalidMeasure p_InvalidMeasure_InvalidMeasure p_InvalidPoint_InvalidMeasure
        · cases hD; exact kit_ref iS_InvalidNumber tC_InvalidNumber p_InvalidNumber_InvalidNumber p_InvalidPoint_InvalidNumber
        · cases hD; exact kit_ref iS_InvalidRoot tC_InvalidRoot p_InvalidRoot_InvalidRoot p_InvalidPoint_InvalidRoot
        · cases hD; exact kit_ref iS_InvalidCutting tC_InvalidCutting p_InvalidCutting_InvalidCutting p_InvalidPoint_InvalidCutting
        · cases hD; exact kit_ref iS_InvalidDeed tC_InvalidDeed p_InvalidDeed_InvalidDeed p_InvalidPoint_InvalidDeed
        · cases hD; exact kit_ref iS_InvalidWord tC_InvalidWord p_InvalidWord_InvalidWord p_InvalidPoint_InvalidWord
        · cases hD; exact kit_ref iS_InvalidList tC_InvalidList p_InvalidList_InvalidList p_InvalidPoint_InvalidList
        · cases hD; exact kit_ref iS_InvalidPoint tC_InvalidPoint p_InvalidPoint_InvalidPoint p_InvalidPoint_InvalidPoint
        · cases hD; exact kit_ref iS_InvalidTable tC_InvalidTable p_InvalidTable_InvalidTable p_InvalidPoint_InvalidTable
        · cases hD; exact kit_ref iS_InvalidFloor tC_InvalidFloor p_InvalidFloor_InvalidFloor p_InvalidPoint_InvalidFloor
        · cases hD; exact kit_ref iS_Unlike tC_Unlike p_Unlike_Unlike p_InvalidPoint_Unlike
        · cases hD; exact kit_ref iS_TooMany tC_TooMany p_TooMany_TooMany p_InvalidPoint_TooMany
      · cases hC
        rcases (show j = 0 ∨ j = 1 ∨ j = 2 ∨ j = 3 ∨ j = 4 ∨ j = 5 ∨ j = 6 ∨ j = 7 ∨ j = 8 ∨ j = 9 ∨ j = 10 ∨ j = 11 by omega) with rfl | rfl | rfl | rfl | rfl | rfl | rfl | rfl | rfl | rfl | rfl | rfl
        · cases hD; exact kit_ref iS_InvalidMeasure tC_InvalidMeasure p_InvalidMeasure_InvalidMeasure p_InvalidTable_InvalidMeasure
        · cases hD; exact kit_ref iS_InvalidNumber tC_InvalidNumber p_InvalidNumber_InvalidNumber p_InvalidTable_InvalidNumber
        · cases hD; exact kit_ref iS_InvalidRoot tC_InvalidRoot p_InvalidRoot_InvalidRoot p_InvalidTable_InvalidRoot
        · cases hD; exact kit_ref iS_InvalidCutting tC_InvalidCutting p_InvalidCutting_InvalidCutting p_InvalidTable_InvalidCutting
        · cases hD; exact kit_ref iS_InvalidDeed tC_InvalidDeed p_InvalidDeed_InvalidDeed p_InvalidTable_InvalidDeed
        · cases hD; exact kit_ref iS_InvalidWord tC_InvalidWord p_InvalidWord_InvalidWord p_InvalidTable_InvalidWord
        · cases hD; exact kit_ref iS_InvalidList tC_InvalidList p_InvalidList_InvalidList p_InvalidTable_InvalidList
        · cases hD; exact kit_ref iS_InvalidPoint tC_InvalidPoint p_InvalidPoint_InvalidPoint p_InvalidTable_InvalidPoint
        · cases hD; exact kit_ref iS_InvalidTable tC_InvalidTable p_InvalidTable_InvalidTable p_InvalidTable_InvalidTable
        · cases hD; exact kit_ref iS_InvalidFloor tC_InvalidFloor p_InvalidFloor_InvalidFloor p_InvalidTable_InvalidFloor
        · cases hD; exact kit_ref iS_Unlike tC_Unlike p_Unlike_Unlike p_InvalidTable_Unlike
        · cases hD; exact kit_ref iS_TooMany tC_TooMany p_TooMany_TooMany p_InvalidTable_TooMany
      · cases hC
        rcases (show j = 0 ∨ j = 1 ∨ j = 2 ∨ j = 3 ∨ j = 4 ∨ j = 5 ∨ j = 6 ∨ j = 7 ∨ j = 8 ∨ j = 9 ∨ j = 10 ∨ j = 11 by omega) with rfl | rfl | rfl | rfl | rfl | rfl | rfl | rfl | rfl | rfl | rfl | rfl
        · cases hD; exact kit_ref iS_InvalidMeasure tC_InvalidMeasure p_InvalidMeasure_InvalidMeasure p_InvalidFloor_InvalidMeasure
        · cases hD; exact kit_ref iS_InvalidNumber tC_InvalidNumber p_InvalidNumber_InvalidNumber p_InvalidFloor_InvalidNumber
        · cases hD; exact kit_ref iS_InvalidRoot tC_InvalidRoot p_InvalidRoot_InvalidRoot p_InvalidFloor_InvalidRoot
        · cases hD; exact kit_ref iS_InvalidCutting tC_InvalidCutting p_InvalidCutting_InvalidCutting p_InvalidFloor_InvalidCutting
        · cases hD; exact kit_ref iS_InvalidDeed tC_InvalidDeed p_InvalidDeed_InvalidDeed p_InvalidFloor_InvalidDeed
        · cases hD; exact kit_ref iS_InvalidWord tC_InvalidWord p_InvalidWord_InvalidWord p_InvalidFloor_InvalidWord
        · cases hD; exact kit_ref iS_InvalidList tC_InvalidList p_InvalidList_InvalidList p_InvalidFloor_InvalidList
        · cases hD; exact kit_ref iS_InvalidPoint tC_InvalidPoint p_InvalidPoint_InvalidPoint p_InvalidFloor_InvalidPoint
        · cases hD; exact kit_ref iS_InvalidTable tC_InvalidTable p_InvalidTable_InvalidTable p_InvalidFloor_InvalidTable
        · cases hD; exact kit_ref iS_InvalidFloor tC_InvalidFloor p_InvalidFloor_InvalidFloor p_InvalidFloor_InvalidFloor
        · cases hD; exact kit_ref iS_Unlike tC_Unlike p_Unlike_Unlike p_InvalidFloor_Unlike
        · cases hD; exact kit_ref iS_TooMany tC_TooMany p_TooMany_TooMany p_InvalidFloor_TooMany
      · cases hC
        rcases (show j = 0 ∨ j = 1 ∨ j = 2 ∨ j = 3 ∨ j = 4 ∨ j = 5 ∨ j = 6 ∨ j = 7 ∨ j = 8 ∨ j = 9 ∨ j = 10 ∨ j = 11 by omega) with rfl | rfl | rfl | rfl | rfl | rfl | rfl | rfl | rfl | rfl | rfl | rfl
        · cases hD; exact kit_ref iS_InvalidMeasure tC_InvalidMeasure p_InvalidMeasure_InvalidMeasure p_Unlike_InvalidMeasure
        · cases hD; exact kit_ref iS_InvalidNumber tC_InvalidNumber p_InvalidNumber_InvalidNumber p_Unlike_InvalidNumber
        · cases hD; exact kit_ref iS_InvalidRoot tC_InvalidRoot p_InvalidRoot_InvalidRoot p_Unlike_InvalidRoot
        · cases hD; exact kit_ref iS_InvalidCutting tC_InvalidCutting p_InvalidCutting_InvalidCutting p_Unlike_InvalidCutting
        · cases hD; exact kit_ref iS_InvalidDeed tC_InvalidDeed p_InvalidDeed_InvalidDeed p_Unlike_InvalidDeed
        · cases hD; exact kit_ref iS_InvalidWord tC_InvalidWord p_InvalidWord_InvalidWord p_Unlike_InvalidWord
        · cases hD; exact kit_ref iS_InvalidList tC_InvalidList p_InvalidList_InvalidList p_Unlike_InvalidList
        · cases hD; exact kit_ref iS_InvalidPoint tC_InvalidPoint p_InvalidPoint_InvalidPoint p_Unlike_InvalidPoint
        · cases hD; exact kit_ref iS_InvalidTable tC_InvalidTable p_InvalidTable_InvalidTable p_Unlike_InvalidTable
        · cases hD; exact kit_ref iS_InvalidFloor tC_InvalidFloor p_InvalidFloor_InvalidFloor p_Unlike_InvalidFloor
        · cases hD; exact kit_ref iS_Unlike tC_Unlike p_Unlike_Unlike p_Unlike_Unlike
        · cases hD; exact kit_ref iS_TooMany tC_TooMany p_TooMany_TooMany p_Unlike_TooMany
      · cases hC
        rcases (show j = 0 ∨ j = 1 ∨ j = 2 ∨ j = 3 ∨ j = 4 ∨ j = 5 ∨ j = 6 ∨ j = 7 ∨ j = 8 ∨ j = 9 ∨ j = 10 ∨ j = 11 by omega) with rfl | rfl | rfl | rfl | rfl | rfl | rfl | rfl | rfl | rfl | rfl | rfl
        · cases hD; exact kit_ref iS_InvalidMeasure tC_InvalidMeasure p_InvalidMeasure_InvalidMeasure p_TooMany_InvalidMeasure
        · cases hD; exact kit_ref iS_InvalidNumber tC_InvalidNumber p_InvalidNumber_InvalidNumber p_TooMany_InvalidNumber
        · cases hD; exact kit_ref iS_InvalidRoot tC_InvalidRoot p_InvalidRoot_InvalidRoot p_TooMany_InvalidRoot
        · cases hD; exact kit_ref iS_InvalidCutting tC_InvalidCutting p_InvalidCutting_InvalidCutting p_TooMany_InvalidCutting
        · cases hD; exact kit_ref iS_InvalidDeed tC_InvalidDeed p_InvalidDeed_InvalidDeed p_TooMany_InvalidDeed
        · cases hD; exact kit_ref iS_InvalidWord tC_InvalidWord p_InvalidWord_InvalidWord p_TooMany_InvalidWord
        · cases hD; exact kit_ref iS_InvalidList tC_InvalidList p_InvalidList_InvalidList p_TooMany_InvalidList
        · cases hD; exact kit_ref iS_InvalidPoint tC_InvalidPoint p_InvalidPoint_InvalidPoint p_TooMany_InvalidPoint
        · cases hD; exact kit_ref iS_InvalidTable tC_InvalidTable p_InvalidTable_InvalidTable p_TooMany_InvalidTable
        · cases hD; exact kit_ref iS_InvalidFloor tC_InvalidFloor p_InvalidFloor_InvalidFloor p_TooMany_InvalidFloor
        · cases hD; exact kit_ref iS_Unlike tC_Unlike p_Unlike_Unlike p_TooMany_Unlike
        · cases hD; exact kit_ref iS_TooMany tC_TooMany p_TooMany_TooMany p_TooMany_TooMany
    · simp only [List.mem_cons, List.not_mem_nil, or_false] at hC
      rcases hC with rfl | rfl | rfl | rfl | rfl | rfl | rfl | rfl | rfl | rfl | rfl | rfl
      · exact kit_ref iS_SheetError tC_SheetError p_SheetError_SheetError ss_InvalidMeasure
      · exact kit_ref iS_SheetError tC_SheetError p_SheetError_SheetError ss_InvalidNumber
      · exact kit_ref iS_SheetError tC_SheetError p_SheetError_SheetError ss_InvalidRoot
      · exact kit_ref iS_SheetError tC_SheetError p_SheetError_SheetError ss_InvalidCutting
      · exact kit_ref iS_SheetError tC_SheetError p_SheetError_SheetError ss_InvalidDeed
      · exact kit_ref iS_SheetError tC_SheetError p_SheetError_SheetError ss_InvalidWord
      · exact kit_ref iS_SheetError tC_SheetError p_SheetError_SheetError ss_InvalidList
      · exact kit_ref iS_SheetError tC_SheetError p_SheetError_SheetError ss_InvalidPoint
      · exact kit_ref iS_SheetError tC_SheetError p_SheetError_SheetError ss_InvalidTable
      · exact kit_ref iS_SheetError tC_SheetError p_SheetError_SheetError ss_InvalidFloor
      · exact kit_ref iS_SheetError tC_SheetError p_SheetError_SheetError ss_Unlike
      · exact kit_ref iS_SheetError tC_SheetError p_SheetError_SheetError ss_TooMany
    · simp only [List.mem_cons, List.not_mem_nil, or_false] at hC
      rcases hC with rfl | rfl | rfl | rfl | rfl | rfl | rfl | rfl | rfl | rfl | rfl | rfl
      · exact kit_ve sv_InvalidMeasure
      · exact kit_ve sv_InvalidNumber
      · exact kit_ve sv_InvalidRoot
      · exact kit_ve sv_InvalidCutting
      · exact kit_ve sv_InvalidDeed
      · exact kit_ve sv_InvalidWord
      · exact kit_ve sv_InvalidList
      · exact kit_ve sv_InvalidPoint
      · exact kit_ve sv_InvalidTable
      · exact kit_ve sv_InvalidFloor
      · exact kit_ve sv_Unlike
      · exact kit_ve sv_TooMany
    · simp only [List.mem_cons, List.not_mem_nil, or_false] at hC
      rcases hC with rfl | rfl | rfl | rfl | rfl | rfl | rfl | rfl | rfl | rfl | rfl | rfl
      · exact kit_ref iS_InvalidMeasure tC_InvalidMeasure p_InvalidMeasure_InvalidMeasure sf_InvalidMeasure
      · exact kit_ref iS_InvalidNumber tC_InvalidNumber p_InvalidNumber_InvalidNumber sf_InvalidNumber
      · exact kit_ref iS_InvalidRoot tC_InvalidRoot p_InvalidRoot_InvalidRoot sf_InvalidRoot
      · exact kit_ref iS_InvalidCutting tC_InvalidCutting p_InvalidCutting_InvalidCutting sf_InvalidCutting
      · exact kit_ref iS_InvalidDeed tC_InvalidDeed p_InvalidDeed_InvalidDeed sf_InvalidDeed
      · exact kit_ref iS_InvalidWord tC_InvalidWord p_InvalidWord_InvalidWord sf_InvalidWord
      · exact kit_ref iS_InvalidList tC_InvalidList p_InvalidList_InvalidList sf_InvalidList
      · exact kit_ref iS_InvalidPoint tC_InvalidPoint p_InvalidPoint_InvalidPoint sf_InvalidPoint
      · exact kit_ref iS_InvalidTable tC_InvalidTable p_InvalidTable_InvalidTable sf_InvalidTable
      · exact kit_ref iS_InvalidFloor tC_InvalidFloor p_InvalidFloor_InvalidFloor sf_InvalidFloor
      · exact kit_ref iS_Unlike tC_Unlike p_Unlike_Unlike sf_Unlike
      · exact kit_ref iS_TooMany tC_TooMany p_TooMany_TooMany sf_TooMany
    · simp only [List.mem_cons, List.not_mem_nil, or_false] at hC
      rcases hC with rfl | rfl | rfl | rfl | rfl | rfl | rfl | rfl | rfl | rfl | rfl | rfl
      · exact EC_InvalidMeasure
      · exact EC_InvalidNumber
      · exact EC_InvalidRoot
      · exact EC_InvalidCutting
      · exact EC_InvalidDeed
      · exact EC_InvalidWord
      · exact EC_InvalidList
      · exact EC_InvalidPoint
      · exact EC_InvalidTable
      · exact EC_InvalidFloor
      · exact EC_Unlike
      · exact EC_TooMany
    · simp only [List.mem_cons, List.not_mem_nil, or_false] at hC
      rcases hC with rfl | rfl | rfl | rfl | rfl | rfl | rfl | rfl | rfl | rfl | rfl | rfl
      · exact E_InvalidMeasure.xf
      · exact E_InvalidNumber.xf
      · exact E_InvalidRoot.xf
      · exact E_InvalidCutting.xf
      · exact E_InvalidDeed.xf
      · exact E_InvalidWord.xf
      · exact E_InvalidList.xf
      · exact E_InvalidPoint.xf
      · exact E_InvalidTable.xf
      · exact E_InvalidFloor.xf
      · exact E_Unlike.xf
      · exact E_TooMany.xf
    · simp only [List.mem_cons, List.not_mem_nil, or_false] at hC
      rcases hC with rfl | rfl | rfl | rfl | rfl | rfl | rfl | rfl | rfl | rfl | rfl | rfl
      · exact nv_InvalidMeasure
      · exact nv_InvalidNumber
      · exact nv_InvalidRoot
      · exact nv_InvalidCutting
      · exact nv_InvalidDeed
      · exact nv_InvalidWord
      · exact nv_InvalidList
      · exact nv_InvalidPoint
      · exact nv_InvalidTable
      · exact nv_InvalidFloor
      · exact nv_Unlike
      · exact nv_TooMany
  have D_LawHash : DefAt l.prog w K mg base 1 "_law_hash" f0 _ ["_law_seed", "_law_index"] (spHash) := ⟨(okLawHash (P := l.prog) (w := w) (mg := mg) (base := base) F0 T    ), PySem.W.mg_of X G a0, k0, b0⟩
  have D_LawCell : DefAt l.prog w K mg base 1 "_law_cell" f1 _ ["_law_script", "_law_index"] (spCell K) := ⟨(okLawCell (P := l.prog) (w := w) (mg := mg) (base := base) F1 T    ), PySem.W.mg_of X G a1, k1, b1⟩
  have D_LawFlags : DefAt l.prog w K mg base 1 "_law_flags" f2 _ ["_law_error"] (spFlags K [C_InvalidMeasure, C_InvalidNumber, C_InvalidRoot, C_InvalidCutting, C_InvalidDeed, C_InvalidWord, C_InvalidList, C_InvalidPoint, C_InvalidTable, C_InvalidFloor, C_Unlike, C_TooMany]) := ⟨(okLawFlags (P := l.prog) (w := w) (mg := mg) (base := base) F2 T E_InvalidMeasure E_InvalidNumber E_InvalidRoot E_InvalidCutting E_InvalidDeed E_InvalidWord E_InvalidList E_InvalidPoint E_InvalidTable E_InvalidFloor E_Unlike E_TooMany   ), PySem.W.mg_of X G a2, k2, b2⟩
  have D_LawRandom : DefAt l.prog w K mg base 2 "_law_random" f3 _ ["_law_generator_here", "_law_bound"] (spRandom) := ⟨(okLawRandom (P := l.prog) (w := w) (mg := mg) (base := base) F3 T  D_LawHash  ), PySem.W.mg_of X G a3, k3, b3⟩
  have D_LawGenerator : DefAt l.prog w K mg base 2 "_law_generator" f4 _ ["_law_script", "_law_index"] (spGen K) := ⟨(okLawGenerator (P := l.prog) (w := w) (mg := mg) (base := base) F4 T  D_LawCell  ), PySem.W.mg_of X G a4, k4, b4⟩
  have D_LawFirst : DefAt l.prog w K mg base 3 "_law_first" f5 _ ["_law_which", "_law_value"] (spMade [C_InvalidMeasure, C_InvalidNumber, C_InvalidRoot, C_InvalidCutting, C_InvalidDeed, C_InvalidWord] 0 6) := ⟨(okLawFirst (P := l.prog) (w := w) (mg := mg) (base := base) F5 T E_InvalidMeasure E_InvalidNumber E_InvalidRoot E_InvalidCutting E_InvalidDeed E_InvalidWord   ), PySem.W.mg_of X G a5, k5, b5⟩
  have D_LawSecond : DefAt l.prog w K mg base 3 "_law_second" f6 _ ["_law_which", "_law_value"] (spMade [C_InvalidList, C_InvalidPoint, C_InvalidTable, C_InvalidFloor, C_Unlike, C_TooMany] 6 12) := ⟨(okLawSecond (P := l.prog) (w := w) (mg := mg) (base := base) F6 T E_InvalidList E_InvalidPoint E_InvalidTable E_InvalidFloor E_Unlike E_TooMany   ), PySem.W.mg_of X G a6, k6, b6⟩
  have D_LawMade : DefAt l.prog w K mg base 4 "_law_made" f7 _ ["_law_which", "_law_value"] (spMade [C_InvalidMeasure, C_InvalidNumber, C_InvalidRoot, C_InvalidCutting, C_InvalidDeed, C_InvalidWord, C_InvalidList, C_InvalidPoint, C_InvalidTable, C_InvalidFloor, C_Unlike, C_TooMany] 0 12) := ⟨(okLawMade (P := l.prog) (w := w) (mg := mg) (base := base) F7 T E_InvalidMeasure E_InvalidNumber E_InvalidRoot E_InvalidCutting E_InvalidDeed E_InvalidWord E_InvalidList E_InvalidPoint E_InvalidTable E_InvalidFloor E_Unlike E_TooMany D_LawFirst D_LawSecond  ), PySem.W.mg_of X G a7, k7, b7⟩
  exact (okLaw (P := l.prog) (w := w) (mg := mg) (base := base) F8 T E_SheetError E_InvalidMeasure E_InvalidNumber E_InvalidRoot E_InvalidCutting E_InvalidDeed E_InvalidWord E_InvalidList E_InvalidPoint E_InvalidTable E_InvalidFloor E_Unlike E_TooMany D_LawGenerator D_LawRandom D_LawMade D_LawFlags KT )
theorem walk {l : PySem.W.OpenLaw} {q : Program} {loose : List Str} {XP : (Str → Option Value) → Heap → Prop} {YP : World → Heap → Prop} {d : DefRec} {K : Params → PySem.W.Frag} (hn : l.most = some 63) (hdf : d.params.defaults = [])
    (hY : ∀ (w : World) (h : Heap), YP w h → (K w.params).In h)
    (F : ∀ (w : World) (mg : Str → Option Value) (fa : Addr) (h : Heap), (K w.params).In h → h.Ns mainGlobals mg → mg d.name = some (.ref fa) →
      ∃ fd : FuncData, (∀ (s : Shared) (u : Value), BindsTo s fd ⟨[u], []⟩ [("_law_script", u)]) ∧ ∀ base : Heap, (K w.params).In base → base.Ns mainGlobals mg → FnG l.prog w (K w.params) mg base 5 fa fd ["_law_script"] (Kx.spLaw (K w.params))) :
    PySem.W.WalkO q loose XP YP l.row.toRowW d [] (fun f vs => PySem.call f vs) :=
  Kx.walkG (n := 63) (k := 5) (x := "_law_script") (sp := fun w => Kx.spLaw (K w.params)) hn (by decide) hdf ⟨rfl, by decide, by decide⟩ hY F (fun _ _ a ns hl _ hS => ⟨a, ns, rfl, hS, hl, fun _ => rfl⟩)
end L65

open PySem PySem.W PyProof.Rows
set_option maxRecDepth 100000 in
set_option maxHeartbeats 0 in
theorem PySem.Challenge.cw_slitsheets_k65_errors_by_their_classes_holds : PySem.Challenge.rw_slitsheets_k65_errors_by_their_classes.Holds := by
  w_on; o_law; k_head; (case hw => w_witness2)
  k_fill
  refine L65.walk (l := PySem.Challenge.rw_slitsheets_k65_errors_by_their_classes) rfl rfl (fun w h Y => PySem.W.kIn_of Y) ?F
  case F =>
    intro w mg fa h KX G hmg
    refine' L65.all_mk KX G hmg ?a0 ?l0 ?c0 ?k0 ?a1 ?l1 ?c1 ?k1 ?a2 ?l2 ?c2 ?k2 ?a3 ?l3 ?c3 ?k3 ?a4 ?l4 ?c4 ?k4 ?a5 ?l5 ?c5 ?k5 ?a6 ?l6 ?c6 ?k6 ?a7 ?l7 ?c7 ?k7 ?a8 ?l8 ?c8 ?k8 ?z_ValueError ?z_int ?z_isinstance ?z_len ?z_list ?z_max ?z_range ?z_repr ?z_sum ?aC_SheetError ?xS_SheetError ?hn_g ?ht_g ?ga_SheetError ?gg_SheetError ?hc_SheetError ?kC_SheetError ?eC_SheetError ?tC_SheetError ?hD_SheetError ?iS_SheetError ?mo_SheetError ?sv_SheetError ?aC_InvalidMeasure ?xL_InvalidMeasure ?sa_InvalidMeasure ?nv_InvalidMeasure ?iC_InvalidMeasure ?tI_InvalidMeasure ?l_InvalidMeasure ?c_InvalidMeasure ?kf_InvalidMeasure ?lt_InvalidMeasure ?ss_InvalidMeasure ?sf_InvalidMeasure ?ga_InvalidMeasure ?gg_InvalidMeasure ?hc_InvalidMeasure ?kC_InvalidMeasure ?eC_InvalidMeasure ?tC_InvalidMeasure ?hD_InvalidMeasure ?iS_InvalidMeasure ?mo_InvalidMeasure ?sv_InvalidMeasure ?aC_InvalidNumber ?xL_InvalidNumber ?sa_InvalidNumber ?nv_InvalidNumber ?iC_InvalidNumber ?tI_InvalidNumber ?l_InvalidNumber ?c_InvalidNumber ?kf_InvalidNumber ?lt_InvalidNumber ?ss_InvalidNumber ?sf_InvalidNumber ?ga_InvalidNumber ?gg_InvalidNumber ?hc_InvalidNumber ?kC_InvalidNumber ?eC_InvalidNumber ?tC_InvalidNumber ?hD_InvalidNumber ?iS_InvalidNumber ?mo_InvalidNumber ?sv_InvalidNumber ?aC_InvalidRoot ?xL_InvalidRoot ?sa_InvalidRoot ?nv_InvalidRoot ?iC_InvalidRoot ?tI_InvalidRoot ?l_InvalidRoot ?c_InvalidRoot ?kf_InvalidRoot ?lt_InvalidRoot ?ss_InvalidRoot ?sf_InvalidRoot ?ga_InvalidRoot ?gg_InvalidRoot ?hc_InvalidRoot ?kC_InvalidRoot ?eC_InvalidRoot ?tC_InvalidRoot ?hD_InvalidRoot ?iS_InvalidRoot ?mo_InvalidRoot ?sv_InvalidRoot ?aC_InvalidCutting ?xL_InvalidCutting ?sa_InvalidCutting ?nv_InvalidCutting ?iC_InvalidCutting ?tI_InvalidCutting ?l_InvalidCutting ?c_InvalidCutting ?kf_InvalidCutting ?lt_InvalidCutting ?ss_InvalidCutting ?sf_InvalidCutting ?ga_InvalidCutting ?gg_InvalidCutting ?hc_InvalidCutting ?kC_InvalidCutting ?eC_InvalidCutting ?tC_InvalidCutting ?hD_InvalidCutting ?iS_InvalidCutting ?mo_InvalidCutting ?sv_InvalidCutting ?aC_InvalidDeed ?xL_InvalidDeed ?sa_InvalidDeed ?nv_InvalidDeed ?iC_InvalidDeed ?tI_InvalidDeed ?l_InvalidDeed ?c_InvalidDeed ?kf_InvalidDeed ?lt_InvalidDeed ?ss_InvalidDeed ?sf_InvalidDeed ?ga_InvalidDeed ?gg_InvalidDeed ?hc_InvalidDeed ?kC_InvalidDeed ?eC_InvalidDeed ?tC_InvalidDeed ?hD_InvalidDeed ?iS_InvalidDeed ?mo_InvalidDeed ?sv_InvalidDeed ?aC_InvalidWord ?xL_InvalidWord ?sa_InvalidWord ?nv_InvalidWord ?iC_InvalidWord ?tI_InvalidWord ?l_InvalidWord ?c_InvalidWord ?kf_InvalidWord ?lt_InvalidWord ?ss_InvalidWord ?sf_InvalidWord ?ga_InvalidWord ?gg_InvalidWord ?hc_InvalidWord ?kC_InvalidWord ?eC_InvalidWord ?tC_InvalidWord ?hD_InvalidWord ?iS_InvalidWord ?mo_InvalidWord ?sv_InvalidWord ?aC_InvalidList ?xL_InvalidList ?sa_InvalidList ?nv_InvalidList ?iC_InvalidList ?tI_InvalidList ?l_InvalidList ?c_InvalidList ?kf_InvalidList ?lt_InvalidList ?ss_InvalidList ?sf_InvalidList ?ga_InvalidList ?gg_InvalidList ?hc_InvalidList ?kC_InvalidList ?eC_InvalidList ?tC_InvalidList ?hD_InvalidList ?iS_InvalidList ?mo_InvalidList ?sv_InvalidList ?aC_InvalidPoint ?xL_InvalidPoint ?sa_InvalidPoint ?nv_InvalidPoint ?iC_InvalidPoint ?tI_InvalidPoint ?l_InvalidPoint ?c_InvalidPoint ?kf_InvalidPoint ?lt_InvalidPoint ?ss_InvalidPoint ?sf_InvalidPoint ?ga_InvalidPoint ?gg_InvalidPoint ?hc_InvalidPoint ?kC_InvalidPoint ?eC_InvalidPoint ?tC_InvalidPoint ?hD_InvalidPoint ?iS_InvalidPoint ?mo_InvalidPoint ?sv_InvalidPoint ?aC_InvalidTable ?xL_InvalidTable ?sa_InvalidTable ?nv_InvalidTable ?iC_InvalidTable ?tI_InvalidTable ?l_InvalidTable ?c_InvalidTable ?kf_InvalidTable ?lt_InvalidTable ?ss_InvalidTable ?sf_InvalidTable ?ga_InvalidTable ?gg_InvalidTable ?hc_InvalidTable ?kC_InvalidTable ?eC_InvalidTable ?tC_InvalidTable ?hD_InvalidTable ?iS_InvalidTable ?mo_InvalidTable ?sv_InvalidTable ?aC_InvalidFloor ?xL_InvalidFloor ?sa_InvalidFloor ?nv_InvalidFloor ?iC_InvalidFloor ?tI_InvalidFloor ?l_InvalidFloor ?c_InvalidFloor ?kf_InvalidFloor ?lt_InvalidFloor ?ss_InvalidFloor ?sf_InvalidFloor ?ga_InvalidFloor ?gg_InvalidFloor ?hc_InvalidFloor ?kC_InvalidFloor ?eC_InvalidFloor ?tC_InvalidFloor ?hD_InvalidFloor ?iS_InvalidFloor ?mo_InvalidFloor ?sv_InvalidFloor ?aC_Unlike ?xL_Unlike ?sa_Unlike ?nv_Unlike ?iC_Unlike ?tI_Unlike ?l_Unlike ?c_Unlike ?kf_Unlike ?lt_Unlike ?ss_Unlike ?sf_Unlike ?ga_Unlike ?gg_Unlike ?hc_Unlike ?kC_Unlike ?eC_Unlike ?tC_Unlike ?hD_Unlike ?iS_Unlike ?mo_Unlike ?sv_Unlike ?aC_TooMany ?xL_TooMany ?sa_TooMany ?nv_TooMany ?iC_TooMany ?tI_TooMany ?l_TooMany ?c_TooMany ?kf_TooMany ?lt_TooMany ?ss_TooMany ?sf_TooMany ?ga_TooMany ?gg_TooMany ?hc_TooMany ?kC_TooMany ?eC_TooMany ?tC_TooMany ?hD_TooMany ?iS_TooMany ?mo_TooMany ?sv_TooMany ?p_SheetError_SheetError ?p_InvalidMeasure_InvalidMeasure ?p_InvalidMeasure_InvalidNumber ?p_InvalidMeasure_InvalidRoot ?p_InvalidMeasure_InvalidCutting ?p_InvalidMeasure_InvalidDeed ?p_InvalidMeasure_InvalidWord ?p_InvalidMeasure_InvalidList ?p_InvalidMeasure_InvalidPoint ?p_InvalidMeasure_InvalidTable ?p_InvalidMeasure_InvalidFloor ?p_InvalidMeasure_Unlike ?p_InvalidMeasure_TooMany ?p_InvalidNumber_InvalidMeasure ?p_InvalidNumber_InvalidNumber ?p_InvalidNumber_InvalidRoot ?p_InvalidNumber_InvalidCutting ?p_InvalidNumber_InvalidDeed ?p_InvalidNumber_InvalidWord ?p_InvalidNumber_InvalidList ?p_InvalidNumber_InvalidPoint ?p_InvalidNumber_InvalidTable ?p_InvalidNumber_InvalidFloor ?p_InvalidNumber_Unlike ?p_InvalidNumber_TooMany ?p_InvalidRoot_InvalidMeasure ?p_InvalidRoot_InvalidNumber ?p_InvalidRoot_InvalidRoot ?p_InvalidRoot_InvalidCutting ?p_InvalidRoot_InvalidDeed ?p_InvalidRoot_InvalidWord ?p_InvalidRoot_InvalidList ?p_InvalidRoot_InvalidPoint ?p_InvalidRoot_InvalidTable ?p_InvalidRoot_InvalidFloor ?p_InvalidRoot_Unlike ?p_InvalidRoot_TooMany ?p_InvalidCutting_InvalidMeasure ?p_InvalidCutting_InvalidNumber ?p_InvalidCutting_InvalidRoot ?p_InvalidCutting_InvalidCutting ?p_InvalidCutting_InvalidDeed ?p_InvalidCutting_InvalidWord ?p_InvalidCutting_InvalidList ?p_InvalidCutting_InvalidPoint ?p_InvalidCutting_InvalidTable ?p_InvalidCutting_InvalidFloor ?p_InvalidCutting_Unlike ?p_InvalidCutting_TooMany ?p_InvalidDeed_InvalidMeasure ?p_InvalidDeed_InvalidNumber ?p_InvalidDeed_InvalidRoot ?p_InvalidDeed_InvalidCutting ?p_InvalidDeed_InvalidDeed ?p_InvalidDeed_InvalidWord ?p_InvalidDeed_InvalidList ?p_InvalidDeed_InvalidPoint ?p_InvalidDeed_InvalidTable ?p_InvalidDeed_InvalidFloor ?p_InvalidDeed_Unlike ?p_InvalidDeed_TooMany ?p_InvalidWord_InvalidMeasure ?p_InvalidWord_InvalidNumber ?p_InvalidWord_InvalidRoot ?p_InvalidWord_InvalidCutting ?p_InvalidWord_InvalidDeed ?p_InvalidWord_InvalidWord ?p_InvalidWord_InvalidList ?p_InvalidWord_InvalidPoint ?p_InvalidWord_InvalidTable ?p_InvalidWord_InvalidFloor ?p_InvalidWord_Unlike ?p_InvalidWord_TooMany ?p_InvalidList_InvalidMeasure ?p_InvalidList_InvalidNumber ?p_InvalidList_InvalidRoot ?p_InvalidList_InvalidCutting ?p_InvalidList_InvalidDeed ?p_InvalidList_InvalidWord ?p_InvalidList_InvalidList ?p_InvalidList_InvalidPoint ?p_InvalidList_InvalidTable ?p_InvalidList_InvalidFloor ?p_InvalidList_Unlike ?p_InvalidList_TooMany ?p_InvalidPoint_InvalidMeasure ?p_InvalidPoint_InvalidNumber ?p_InvalidPoint_InvalidRoot ?p_InvalidPoint_InvalidCutting ?p_InvalidPoint_InvalidDeed ?p_InvalidPoint_InvalidWord ?p_InvalidPoint_InvalidList ?p_InvalidPoint_InvalidPoint ?p_InvalidPoint_InvalidTable ?p_InvalidPoint_InvalidFloor ?p_InvalidPoint_Unlike ?p_InvalidPoint_TooMany ?p_InvalidTable_InvalidMeasure ?p_InvalidTable_InvalidNumber ?p_InvalidTable_InvalidRoot ?p_InvalidTable_InvalidCutting ?p_InvalidTable_InvalidDeed ?p_InvalidTable_InvalidWord ?p_InvalidTable_InvalidList ?p_InvalidTable_InvalidPoint ?p_InvalidTable_InvalidTable ?p_InvalidTable_InvalidFloor ?p_InvalidTable_Unlike ?p_InvalidTable_TooMany ?p_InvalidFloor_InvalidMeasure ?p_InvalidFloor_InvalidNumber ?p_InvalidFloor_InvalidRoot ?p_InvalidFloor_InvalidCutting ?p_InvalidFloor_InvalidDeed ?p_InvalidFloor_InvalidWord ?p_InvalidFloor_InvalidList ?p_InvalidFloor_InvalidPoint ?p_InvalidFloor_InvalidTable ?p_InvalidFloor_InvalidFloor ?p_InvalidFloor_Unlike ?p_InvalidFloor_TooMany ?p_Unlike_InvalidMeasure ?p_Unlike_InvalidNumber ?p_Unlike_InvalidRoot ?p_Unlike_InvalidCutting ?p_Unlike_InvalidDeed ?p_Unlike_InvalidWord ?p_Unlike_InvalidList ?p_Unlike_InvalidPoint ?p_Unlike_InvalidTable ?p_Unlike_InvalidFloor ?p_Unlike_Unlike ?p_Unlike_TooMany ?p_TooMany_InvalidMeasure ?p_TooMany_InvalidNumber ?p_TooMany_InvalidRoot ?p_TooMany_InvalidCutting ?p_TooMany_InvalidDeed ?p_TooMany_InvalidWord ?p_TooMany_InvalidList ?p_TooMany_InvalidPoint ?p_TooMany_InvalidTable ?p_TooMany_InvalidFloor ?p_TooMany_Unlike ?p_TooMany_TooMany
    (case a0 => first | k_is | rfl)
    (case l0 => first | k_is | rfl)
    (case c0 => first | k_is | rfl)
    (case k0 => first | k_is | rfl)
    (case a1 => first | k_is | rfl)
    (case l1 => first | k_is | rfl)
    (case c1 => first | k_is | rfl)
    (case k1 => first | k_is | rfl)
    (case a2 => first | k_is | rfl)
    (case l2 => first | k_is | rfl)
    (case c2 => first | k_is | rfl)
    (case k2 => first | k_is | rfl)
    (case a3 => first | k_is | rfl)
    (case l3 => first | k_is | rfl)
    (case c3 => first | k_is | rfl)
    (case k3 => first | k_is | rfl)
    (case a4 => first | k_is | rfl)
    (case l4 => first | k_is | rfl)
    (case c4 => first | k_is | rfl)
    (case k4 => first | k_is | rfl)
    (case a5 => first | k_is | rfl)
    (case l5 => first | k_is | rfl)
    (case c5 => first | k_is | rfl)
    (case k5 => first | k_is | rfl)
    (case a6 => first | k_is | rfl)
    (case l6 => first | k_is | rfl)
    (case c6 => first | k_is | rfl)
    (case k6 => first | k_is | rfl)
    (case a7 => first | k_is | rfl)
    (case l7 => first | k_is | rfl)
    (case c7 => first | k_is | rfl)
    (case k7 => first | k_is | rfl)
    (case a8 => first | k_is | rfl)
    (case l8 => first | k_is | rfl)
    (case c8 => first | k_is | rfl)
    (case k8 => first | k_is | rfl)
    (case z_ValueError => first | k_is | rfl)
    (case z_int => first | k_is | rfl)
    (case z_isinstance => first | k_is | rfl)
    (case z_len => first | k_is | rfl)
    (case z_list => first | k_is | rfl)
    (case z_max => first | k_is | rfl)
    (case z_range => first | k_is | rfl)
    (case z_repr => first | k_is | rfl)
    (case z_sum => first | k_is | rfl)
    (case aC_SheetError => first | k_is | rfl)
    (case xS_SheetError => k_exc)
    (case hn_g => first | k_is | rfl)
    (case ht_g => first | k_is | rfl)
    (case ga_SheetError => first | k_is | rfl)
    (case gg_SheetError => first | k_is | rfl)
    (case hc_SheetError => first | k_is | rfl)
    (case kC_SheetError => first | k_is | rfl)
    (case eC_SheetError => first | k_is | rfl)
    (case tC_SheetError => first | k_is | rfl)
    (case hD_SheetError => first | k_is | rfl)
    (case iS_SheetError => first | k_is | rfl)
    (case mo_SheetError => first | k_is | rfl)
    (case sv_SheetError => first | k_is | rfl)
    (case aC_InvalidMeasure => first | k_is | rfl)
    (case xL_InvalidMeasure => first | k_is | rfl)
    (case sa_InvalidMeasure => first | k_is | rfl)
    (case nv_InvalidMeasure => first | k_is | rfl)
    (case iC_InvalidMeasure => first | k_is | rfl)
    (case tI_InvalidMeasure => first | k_is | rfl)
    (case l_InvalidMeasure => first | k_is | rfl)
    (case c_InvalidMeasure => first | k_is | rfl)
    (case kf_InvalidMeasure => first | k_is | rfl)
    (case lt_InvalidMeasure => first | k_is | rfl)
    (case ss_InvalidMeasure => first | k_is | rfl)
    (case sf_InvalidMeasure => first | k_is | rfl)
    (case ga_InvalidMeasure => first | k_is | rfl)
    (case gg_InvalidMeasure => first | k_is | rfl)
    (case hc_InvalidMeasure => first | k_is | rfl)
    (case kC_InvalidMeasure => first | k_is | rfl)
    (case eC_InvalidMeasure => first | k_is | rfl)
    (case tC_InvalidMeasure => first | k_is | rfl)
    (case hD_InvalidMeasure => first | k_is | rfl)
    (case iS_InvalidMeasure => first | k_is | rfl)
    (case mo_InvalidMeasure => first | k_is | rfl)
    (case sv_InvalidMeasure => first | k_is | rfl)
    (case aC_InvalidNumber => first | k_is | rfl)
    (case xL_InvalidNumber => first | k_is | rfl)
    (case sa_InvalidNumber => first | k_is | rfl)
    (case nv_InvalidNumber => first | k_is | rfl)
    (case iC_InvalidNumber => first | k_is | rfl)
    (case tI_InvalidNumber => first | k_is | rfl)
    (case l_InvalidNumber => first | k_is | rfl)
    (case c_InvalidNumber => first | k_is | rfl)
    (case kf_InvalidNumber => first | k_is | rfl)
    (case lt_InvalidNumber => first | k_is | rfl)
    (case ss_InvalidNumber => first | k_is | rfl)
    (case sf_InvalidNumber => first | k_is | rfl)
    (case ga_InvalidNumber => first | k_is | rfl)
    (case gg_InvalidNumber => first | k_is | rfl)
    (case hc_InvalidNumber => first | k_is | rfl)
    (case kC_InvalidNumber => first | k_is | rfl)
    (case eC_InvalidNumber => first | k_is | rfl)
    (case tC_InvalidNumber => first | k_is | rfl)
    (case hD_InvalidNumber => first | k_is | rfl)
    (case iS_InvalidNumber => first | k_is | rfl)
    (case mo_InvalidNumber => first | k_is | rfl)
    (case sv_InvalidNumber => first | k_is | rfl)
    (case aC_InvalidRoot => first | k_is | rfl)
    (case xL_InvalidRoot => first | k_is | rfl)
    (case sa_InvalidRoot => first | k_is | rfl)
    (case nv_InvalidRoot => first | k_is | rfl)
    (case iC_InvalidRoot => first | k_is | rfl)
    (case tI_InvalidRoot => first | k_is | rfl)
    (case l_InvalidRoot => first | k_is | rfl)
    (case c_InvalidRoot => first | k_is | rfl)
    (case kf_InvalidRoot => first | k_is | rfl)
    (case lt_InvalidRoot => first | k_is | rfl)
    (case ss_InvalidRoot => first | k_is | rfl)
    (case sf_InvalidRoot => first | k_is | rfl)
    (case ga_InvalidRoot => first | k_is | rfl)
    (case gg_InvalidRoot => first | k_is | rfl)
    (case hc_InvalidRoot => first | k_is | rfl)
    (case kC_InvalidRoot => first | k_is | rfl)
    (case eC_InvalidRoot => first | k_is | rfl)
    (case tC_InvalidRoot => first | k_is | rfl)
    (case hD_InvalidRoot => first | k_is | rfl)
    (case iS_InvalidRoot => first | k_is | rfl)
    (case mo_InvalidRoot => first | k_is | rfl)
    (case sv_InvalidRoot => first | k_is | rfl)
    (case aC_InvalidCutting => first | k_is | rfl)
    (case xL_InvalidCutting => first | k_is | rfl)
    (case sa_InvalidCutting => first | k_is | rfl)
    (case nv_InvalidCutting => first | k_is | rfl)
    (case iC_InvalidCutting => first | k_is | rfl)
    (case tI_InvalidCutting => first | k_is | rfl)
    (case l_InvalidCutting => first | k_is | rfl)
    (case c_InvalidCutting => first | k_is | rfl)
    (case kf_InvalidCutting => first | k_is | rfl)
    (case lt_InvalidCutting => first | k_is | rfl)
    (case ss_InvalidCutting => first | k_is | rfl)
    (case sf_InvalidCutting => first | k_is | rfl)
    (case ga_InvalidCutting => first | k_is | rfl)
    (case gg_InvalidCutting => first | k_is | rfl)
    (case hc_InvalidCutting => first | k_is | rfl)
    (case kC_InvalidCutting => first | k_is | rfl)
    (case eC_InvalidCutting => first | k_is | rfl)
    (case tC_InvalidCutting => first | k_is | rfl)
    (case hD_InvalidCutting => first | k_is | rfl)
    (case iS_InvalidCutting => first | k_is | rfl)
    (case mo_InvalidCutting => first | k_is | rfl)
    (case sv_InvalidCutting => first | k_is | rfl)
    (case aC_InvalidDeed => first | k_is | rfl)
    (case xL_InvalidDeed => first | k_is | rfl)
    (case sa_InvalidDeed => first | k_is | rfl)
    (case nv_InvalidDeed => first | k_is | rfl)
    (case iC_InvalidDeed => first | k_is | rfl)
    (case tI_InvalidDeed => first | k_is | rfl)
    (case l_InvalidDeed => first | k_is | rfl)
    (case c_InvalidDeed => first | k_is | rfl)
    (case kf_InvalidDeed => first | k_is | rfl)
    (case lt_InvalidDeed => first | k_is | rfl)
    (case ss_InvalidDeed => first | k_is | rfl)
    (case sf_InvalidDeed => first | k_is | rfl)
    (case ga_InvalidDeed => first | k_is | rfl)
    (case gg_InvalidDeed => first | k_is | rfl)
    (case hc_InvalidDeed => first | k_is | rfl)
    (case kC_InvalidDeed => first | k_is | rfl)
    (case eC_InvalidDeed => first | k_is | rfl)
    (case tC_InvalidDeed => first | k_is | rfl)
    (case hD_InvalidDeed => first | k_is | rfl)
    (case iS_InvalidDeed => first | k_is | rfl)
    (case mo_InvalidDeed => first | k_is | rfl)
    (case sv_InvalidDeed => first | k_is | rfl)
    (case aC_InvalidWord => first | k_is | rfl)
    (case xL_InvalidWord => first | k_is | rfl)
    (case sa_InvalidWord => first | k_is | rfl)
    (case nv_InvalidWord => first | k_is | rfl)
    (case iC_InvalidWord => first | k_is | rfl)
    (case tI_InvalidWord => first | k_is | rfl)
    (case l_InvalidWord => first | k_is | rfl)
    (case c_InvalidWord => first | k_is | rfl)
    (case kf_InvalidWord => first | k_is | rfl)
    (case lt_InvalidWord => first | k_is | rfl)
    (case ss_InvalidWord => first | k_is | rfl)
    (case sf_InvalidWord => first | k_is | rfl)
    (case ga_InvalidWord => first | k_is | rfl)
    (case gg_InvalidWord => first | k_is | rfl)
    (case hc_InvalidWord => first | k_is | rfl)
    (case kC_InvalidWord => first | k_is | rfl)
    (case eC_InvalidWord => first | k_is | rfl)
    (case tC_InvalidWord => first | k_is | rfl)
    (case hD_InvalidWord => first | k_is | rfl)
    (case iS_InvalidWord => first | k_is | rfl)
    (case mo_InvalidWord => first | k_is | rfl)
    (case sv_InvalidWord => first | k_is | rfl)
    (case aC_InvalidList => first | k_is | rfl)
    (case xL_InvalidList => first | k_is | rfl)
    (case sa_InvalidList => first | k_is | rfl)
    (case nv_InvalidList => first | k_is | rfl)
    (case iC_InvalidList => first | k_is | rfl)
    (case tI_InvalidList => first | k_is | rfl)
    (case l_InvalidList => first | k_is | rfl)
    (case c_InvalidList => first | k_is | rfl)
    (case kf_InvalidList => first | k_is | rfl)
    (case lt_InvalidList => first | k_is | rfl)
    (case ss_InvalidList => first | k_is | rfl)
    (case sf_InvalidList => first | k_is | rfl)
    (case ga_InvalidList => first | k_is | rfl)
    (case gg_InvalidList => first | k_is | rfl)
    (case hc_InvalidList => first | k_is | rfl)
    (case kC_InvalidList => first | k_is | rfl)
    (case eC_InvalidList => first | k_is | rfl)
    (case tC_InvalidList => first | k_is | rfl)
    (case hD_InvalidList => first | k_is | rfl)
    (case iS_InvalidList => first | k_is | rfl)
    (case mo_InvalidList => first | k_is | rfl)
    (case sv_InvalidList => first | k_is | rfl)
    (case aC_InvalidPoint => first | k_is | rfl)
    (case xL_InvalidPoint => first | k_is | rfl)
    (case sa_InvalidPoint => first | k_is | rfl)
    (case nv_InvalidPoint => first | k_is | rfl)
    (case iC_InvalidPoint => first | k_is | rfl)
    (case tI_InvalidPoint => first | k_is | rfl)
    (case l_InvalidPoint => first | k_is | rfl)
    (case c_InvalidPoint => first | k_is | rfl)
    (case kf_InvalidPoint => first | k_is | rfl)
    (case lt_InvalidPoint => first | k_is | rfl)
    (case ss_InvalidPoint => first | k_is | rfl)
    (case sf_InvalidPoint => first | k_is | rfl)
    (case ga_InvalidPoint => first | k_is | rfl)
    (case gg_InvalidPoint => first | k_is | rfl)
    (case hc_InvalidPoint => first | k_is | rfl)
    (case kC_InvalidPoint => first | k_is | rfl)
    (case eC_InvalidPoint => first | k_is | rfl)
    (case tC_InvalidPoint => first | k_is | rfl)
    (case hD_InvalidPoint => first | k_is | rfl)
    (case iS_InvalidPoint => first | k_is | rfl)
    (case mo_InvalidPoint => first | k_is | rfl)
    (case sv_InvalidPoint => first | k_is | rfl)
    (case aC_InvalidTable => first | k_is | rfl)
    (case xL_InvalidTable => first | k_is | rfl)
    (case sa_InvalidTable => first | k_is | rfl)
    (case nv_InvalidTable => first | k_is | rfl)
    (case iC_InvalidTable => first | k_is | rfl)
    (case tI_InvalidTable => first | k_is | rfl)
    (case l_InvalidTable => first | k_is | rfl)
    (case c_InvalidTable => first | k_is | rfl)
    (case kf_InvalidTable => first | k_is | rfl)
    (case lt_InvalidTable => first | k_is | rfl)
    (case ss_InvalidTable => first | k_is | rfl)
    (case sf_InvalidTable => first | k_is | rfl)
    (case ga_InvalidTable => first | k_is | rfl)
    (case gg_InvalidTable => first | k_is | rfl)
    (case hc_InvalidTable => first | k_is | rfl)
    (case kC_InvalidTable => first | k_is | rfl)
    (case eC_InvalidTable => first | k_is | rfl)
    (case tC_InvalidTable => first | k_is | rfl)
    (case hD_InvalidTable => first | k_is | rfl)
    (case iS_InvalidTable => first | k_is | rfl)
    (case mo_InvalidTable => first | k_is | rfl)
    (case sv_InvalidTable => first | k_is | rfl)
    (case aC_InvalidFloor => first | k_is | rfl)
    (case xL_InvalidFloor => first | k_is | rfl)
    (case sa_InvalidFloor => first | k_is | rfl)
    (case nv_InvalidFloor => first | k_is | rfl)
    (case iC_InvalidFloor => first | k_is | rfl)
    (case tI_InvalidFloor => first | k_is | rfl)
    (case l_InvalidFloor => first | k_is | rfl)
    (case c_InvalidFloor => first | k_is | rfl)
    (case kf_InvalidFloor => first | k_is | rfl)
    (case lt_InvalidFloor => first | k_is | rfl)
    (case ss_InvalidFloor => first | k_is | rfl)
    (case sf_InvalidFloor => first | k_is | rfl)
    (case ga_InvalidFloor => first | k_is | rfl)
    (case gg_InvalidFloor => first | k_is | rfl)
    (case hc_InvalidFloor => first | k_is | rfl)
    (case kC_InvalidFloor => first | k_is | rfl)
    (case eC_InvalidFloor => first | k_is | rfl)
    (case tC_InvalidFloor => first | k_is | rfl)
    (case hD_InvalidFloor => first | k_is | rfl)
    (case iS_InvalidFloor => first | k_is | rfl)
    (case mo_InvalidFloor => first | k_is | rfl)
    (case sv_InvalidFloor => first | k_is | rfl)
    (case aC_Unlike => first | k_is | rfl)
    (case xL_Unlike => first | k_is | rfl)
    (case sa_Unlike => first | k_is | rfl)
    (case nv_Unlike => first | k_is | rfl)
    (case iC_Unlike => first | k_is | rfl)
    (case tI_Unlike => first | k_is | rfl)
    (case l_Unlike => first | k_is | rfl)
    (case c_Unlike => first | k_is | rfl)
    (case kf_Unlike => first | k_is | rfl)
    (case lt_Unlike => first | k_is | rfl)
    (case ss_Unlike => first | k_is | rfl)
    (case sf_Unlike => first | k_is | rfl)
    (case ga_Unlike => first | k_is | rfl)
    (case gg_Unlike => first | k_is | rfl)
    (case hc_Unlike => first | k_is | rfl)
    (case kC_Unlike => first | k_is | rfl)
    (case eC_Unlike => first | k_is | rfl)
    (case tC_Unlike => first | k_is | rfl)
    (case hD_Unlike => first | k_is | rfl)
    (case iS_Unlike => first | k_is | rfl)
    (case mo_Unlike => first | k_is | rfl)
    (case sv_Unlike => first | k_is | rfl)
    (case aC_TooMany => first | k_is | rfl)
    (case xL_TooMany => first | k_is | rfl)
    (case sa_TooMany => first | k_is | rfl)
    (case nv_TooMany => first | k_is | rfl)
    (case iC_TooMany => first | k_is | rfl)
    (case tI_TooMany => first | k_is | rfl)
    (case l_TooMany => first | k_is | rfl)
    (case c_TooMany => first | k_is | rfl)
    (case kf_TooMany => first | k_is | rfl)
    (case lt_TooMany => first | k_is | rfl)
    (case ss_TooMany => first | k_is | rfl)
    (case sf_TooMany => first | k_is | rfl)
    (case ga_TooMany => first | k_is | rfl)
    (case gg_TooMany => first | k_is | rfl)
    (case hc_TooMany => first | k_is | rfl)
    (case kC_TooMany => first | k_is | rfl)
    (case eC_TooMany => first | k_is | rfl)
    (case tC_TooMany => first | k_is | rfl)
    (case hD_TooMany => first | k_is | rfl)
    (case iS_TooMany => first | k_is | rfl)
    (case mo_TooMany => first | k_is | rfl)
    (case sv_TooMany => first | k_is | rfl)
    (case p_SheetError_SheetError => first | k_is | rfl)
    (case p_InvalidMeasure_InvalidMeasure => first | k_is | rfl)
    (case p_InvalidMeasure_InvalidNumber => first | k_is | rfl)
    (case p_InvalidMeasure_InvalidRoot => first | k_is | rfl)
    (case p_InvalidMeasure_InvalidCutting => first | k_is | rfl)
    (case p_InvalidMeasure_InvalidDeed => first | k_is | rfl)
    (case p_InvalidMeasure_InvalidWord => first | k_is | rfl)
    (case p_InvalidMeasure_InvalidList => first | k_is | rfl)
    (case p_InvalidMeasure_InvalidPoint => first | k_is | rfl)
    (case p_InvalidMeasure_InvalidTable => first | k_is | rfl)
    (case p_InvalidMeasure_InvalidFloor => first | k_is | rfl)
    (case p_InvalidMeasure_Unlike => first | k_is | rfl)
    (case p_InvalidMeasure_TooMany => first | k_is | rfl)
    (case p_InvalidNumber_InvalidMeasure => first | k_is | rfl)
    (case p_InvalidNumber_InvalidNumber => first | k_is | rfl)
    (case p_InvalidNumber_InvalidRoot => first | k_is | rfl)
    (case p_InvalidNumber_InvalidCutting => first | k_is | rfl)
    (case p_InvalidNumber_InvalidDeed => first | k_is | rfl)
    (case p_InvalidNumber_InvalidWord => first | k_is | rfl)
    (case p_InvalidNumber_InvalidList => first | k_is | rfl)
    (case p_InvalidNumber_InvalidPoint => first | k_is | rfl)
    (case p_InvalidNumber_InvalidTable => first | k_is | rfl)
    (case p_InvalidNumber_InvalidFloor => first | k_is | rfl)
    (case p_InvalidNumber_Unlike => first | k_is | rfl)
    (case p_InvalidNumber_TooMany => first | k_is | rfl)
    (case p_InvalidRoot_InvalidMeasure => first | k_is | rfl)
    (case p_InvalidRoot_InvalidNumber => first | k_is | rfl)
    (case p_InvalidRoot_InvalidRoot => first | k_is | rfl)
    (case p_InvalidRoot_InvalidCutting => first | k_is | rfl)
    (case p_InvalidRoot_InvalidDeed => first | k_is | rfl)
    (case p_InvalidRoot_InvalidWord => first | k_is | rfl)
    (case p_InvalidRoot_InvalidList => first | k_is | rfl)
    (case p_InvalidRoot_InvalidPoint => first | k_is | rfl)
    (case p_InvalidRoot_InvalidTable => first | k_is | rfl)
    (case p_InvalidRoot_InvalidFloor => first | k_is | rfl)
    (case p_InvalidRoot_Unlike => first | k_is | rfl)
    (case p_InvalidRoot_TooMany => first | k_is | rfl)
    (case p_InvalidCutting_InvalidMeasure => first | k_is | rfl)
    (case p_InvalidCutting_InvalidNumber => first | k_is | rfl)
    (case p_InvalidCutting_InvalidRoot => first | k_is | rfl)
    (case p_InvalidCutting_InvalidCutting => first | k_is | rfl)
    (case p_InvalidCutting_InvalidDeed => first | k_is | rfl)
    (case p_InvalidCutting_InvalidWord => first | k_is | rfl)
    (case p_InvalidCutting_InvalidList => first | k_is | rfl)
    (case p_InvalidCutting_InvalidPoint => first | k_is | rfl)
    (case p_InvalidCutting_InvalidTable => first | k_is | rfl)
    (case p_InvalidCutting_InvalidFloor => first | k_is | rfl)
    (case p_InvalidCutting_Unlike => first | k_is | rfl)
    (case p_InvalidCutting_TooMany => first | k_is | rfl)
    (case p_InvalidDeed_InvalidMeasure => first | k_is | rfl)
    (case p_InvalidDeed_InvalidNumber => first | k_is | rfl)
    (case p_InvalidDeed_InvalidRoot => first | k_is | rfl)
    (case p_InvalidDeed_InvalidCutting => first | k_is | rfl)
    (case p_InvalidDeed_InvalidDeed => first | k_is | rfl)
    (case p_InvalidDeed_InvalidWord => first | k_is | rfl)
    (case p_InvalidDeed_InvalidList => first | k_is | rfl)
    (case p_InvalidDeed_InvalidPoint => first | k_is | rfl)
    (case p_InvalidDeed_InvalidTable => first | k_is | rfl)
    (case p_InvalidDeed_InvalidFloor => first | k_is | rfl)
    (case p_InvalidDeed_Unlike => first | k_is | rfl)
    (case p_InvalidDeed_TooMany => first | k_is | rfl)
    (case p_InvalidWord_InvalidMeasure => first | k_is | rfl)
    (case p_InvalidWord_InvalidNumber => first | k_is | rfl)
    (case p_InvalidWord_InvalidRoot => first | k_is | rfl)
    (case p_InvalidWord_InvalidCutting => first | k_is | rfl)
    (case p_InvalidWord_InvalidDeed => first | k_is | rfl)
    (case p_InvalidWord_InvalidWord => first | k_is | rfl)
    (case p_InvalidWord_InvalidList => first | k_is | rfl)
    (case p_InvalidWord_InvalidPoint => first | k_is | rfl)
    (case p_InvalidWord_InvalidTable => first | k_is | rfl)
    (case p_InvalidWord_InvalidFloor => first | k_is | rfl)
    (case p_InvalidWord_Unlike => first | k_is | rfl)
    (case p_InvalidWord_TooMany => first | k_is | rfl)
    (case p_InvalidList_InvalidMeasure => first | k_is | rfl)
    (case p_InvalidList_InvalidNumber => first | k_is | rfl)
    (case p_InvalidList_InvalidRoot => first | k_is | rfl)
    (case p_InvalidList_InvalidCutting => first | k_is | rfl)
    (case p_InvalidList_InvalidDeed => first | k_is | rfl)
    (case p_InvalidList_InvalidWord => first | k_is | rfl)
    (case p_InvalidList_InvalidList => first | k_is | rfl)
    (case p_InvalidList_InvalidPoint => first | k_is | rfl)
    (case p_InvalidList_InvalidTable => first | k_is | rfl)
    (case p_InvalidList_InvalidFloor => first | k_is | rfl)
    (case p_InvalidList_Unlike => first | k_is | rfl)
    (case p_InvalidList_TooMany => first | k_is | rfl)
    (case p_InvalidPoint_InvalidMeasure => first | k_is | rfl)
    (case p_InvalidPoint_InvalidNumber => first | k_is | rfl)
    (case p_InvalidPoint_InvalidRoot => first | k_is | rfl)
    (case p_InvalidPoint_InvalidCutting => first | k_is | rfl)
    (case p_InvalidPoint_InvalidDeed => first | k_is | rfl)
    (case p_InvalidPoint_InvalidWord => first | k_is | rfl)
    (case p_InvalidPoint_InvalidList => first | k_is | rfl)
    (case p_InvalidPoint_InvalidPoint => first | k_is | rfl)
    (case p_InvalidPoint_InvalidTable => first | k_is | rfl)
    (case p_InvalidPoint_InvalidFloor => first | k_is | rfl)
    (case p_InvalidPoint_Unlike => first | k_is | rfl)
    (case p_InvalidPoint_TooMany => first | k_is | rfl)
    (case p_InvalidTable_InvalidMeasure => first | k_is | rfl)
    (case p_InvalidTable_InvalidNumber => first | k_is | rfl)
    (case p_InvalidTable_InvalidRoot => first | k_is | rfl)
    (case p_InvalidTable_InvalidCutting => first | k_is | rfl)
    (case p_InvalidTable_InvalidDeed => first | k_is | rfl)
    (case p_InvalidTable_InvalidWord => first | k_is | rfl)
    (case p_InvalidTable_InvalidList => first | k_is | rfl)
    (case p_InvalidTable_InvalidPoint => first | k_is | rfl)
    (case p_InvalidTable_InvalidTable => first | k_is | rfl)
    (case p_InvalidTable_InvalidFloor => first | k_is | rfl)
    (case p_InvalidTable_Unlike => first | k_is | rfl)
    (case p_InvalidTable_TooMany => first | k_is | rfl)
    (case p_InvalidFloor_InvalidMeasure => first | k_is | rfl)
    (case p_InvalidFloor_InvalidNumber => first | k_is | rfl)
    (case p_InvalidFloor_InvalidRoot => first | k_is | rfl)
    (case p_InvalidFloor_InvalidCutting => first | k_is | rfl)
    (case p_InvalidFloor_InvalidDeed => first | k_is | rfl)
    (case p_InvalidFloor_InvalidWord => first | k_is | rfl)
    (case p_InvalidFloor_InvalidList => first | k_is | rfl)
    (case p_InvalidFloor_InvalidPoint => first | k_is | rfl)
    (case p_InvalidFloor_InvalidTable => first | k_is | rfl)
    (case p_InvalidFloor_InvalidFloor => first | k_is | rfl)
    (case p_InvalidFloor_Unlike => first | k_is | rfl)
    (case p_InvalidFloor_TooMany => first | k_is | rfl)
    (case p_Unlike_InvalidMeasure => first | k_is | rfl)
    (case p_Unlike_InvalidNumber => first | k_is | rfl)
    (case p_Unlike_InvalidRoot => first | k_is | rfl)
    (case p_Unlike_InvalidCutting => first | k_is | rfl)
    (case p_Unlike_InvalidDeed => first | k_is | rfl)
    (case p_Unlike_InvalidWord => first | k_is | rfl)
    (case p_Unlike_InvalidList => first | k_is | rfl)
    (case p_Unlike_InvalidPoint => first | k_is | rfl)
    (case p_Unlike_InvalidTable => first | k_is | rfl)
    (case p_Unlike_InvalidFloor => first | k_is | rfl)
    (case p_Unlike_Unlike => first | k_is | rfl)
    (case p_Unlike_TooMany => first | k_is | rfl)
    (case p_TooMany_InvalidMeasure => first | k_is | rfl)
    (case p_TooMany_InvalidNumber => first | k_is | rfl)
    (case p_TooMany_InvalidRoot => first | k_is | rfl)
    (case p_TooMany_InvalidCutting => first | k_is | rfl)
    (case p_TooMany_InvalidDeed => first | k_is | rfl)
    (case p_TooMany_InvalidWord => first | k_is | rfl)
    (case p_TooMany_InvalidList => first | k_is | rfl)
    (case p_TooMany_InvalidPoint => first | k_is | rfl)
    (case p_TooMany_InvalidTable => first | k_is | rfl)
    (case p_TooMany_InvalidFloor => first | k_is | rfl)
    (case p_TooMany_Unlike => first | k_is | rfl)
    (case p_TooMany_TooMany => first | k_is | rfl)
