import PyProof.Rows.All
import Wide.All
import OpenK.AllK
import Wide.FinOn
import PyProof.EqAt
import PyProof.EqKinds
import PyProof.TupleCall
import HandS.ForMost
import HandS.IsInst
import HandS.Conv
import HandS.Gcd
import HandS.Wide
import HandS.WideBits
import HandS.Style
import HandS.ForExc
import Flt.RightSqrt
import HandS.OwnEq
import HandS.TupAny
import HandS.Exc
import HandS.ExcInit
import HandS.ExcField
import HandS.ExcValue
import HandS.WordsExc
import HandS.ExcIs
import KE.KExcIs
import HandS.Defaults
import HandS.Iter
import HandS.Deep
import HandS.Sort
import HandS.SortOrd
import HandS.SortRule
import HandS.Comp
import HandS.Dict
import HandS.TupLe
import HandS.SortKw
import PySem.Challenge.RW_slitsheets_k11_cuttings_refused
set_option Elab.async false
set_option linter.all false
set_option maxRecDepth 100000
set_option maxHeartbeats 4000000
set_option exponentiation.threshold 4000
/-! Rules and words that all laws share. -/
namespace Kx
open PySem PySem.Spec PyProof.Rows L2

abbrev SV := L2.St
/-! ### a def of the text under its name -/
structure DefAt (P : Program) (w : World) (K : PySem.W.Frag) (mg : Str → Option Value) (base : Heap) (k : Nat) (x : Str) (f : Addr) (fd : FuncData) (ps : List Str) (sp : Sp) : Prop where
  F : FnOk P w K mg base CX0 k f fd ps sp
  m : mg x = some (.ref f)
  kp : PySem.W.keepIn K (.ref f) = true
  b : Binds K fd ps []
def tD (sp : Sp) (t : TA) : TE := fun σ H Q => t σ H fun vs H1 => sp vs H1 Q E0
def tDK (sp : Sp) (gV : List V → List V) (t : TA) : TE := fun σ H Q => t σ H fun zs H1 => sp (gV zs) H1 Q E0
section
variable {X : Cx} {k j : Nat} {f : Addr} {fd : FuncData} {ps ks : List Str} {sp : Sp} {x : Str} {p pos : Pos} {e : Expr} {es : List Expr} {t tk : TA} {kws : List Keyword}
theorem pe_d (D : DefAt X.prog X.w X.K X.mg X.base k x f fd ps sp) (hr : Room j X.A) (ha : PA X (e :: es) t) (hkj : k ≤ j := by decide) (hg : Gl X x := by rfl) (hdb : (x == ("__debug__" : Str)) = false := by decide)
    (he : starEach (e :: es) X.env = (false, eval e X.env) :: starEach es X.env := by rfl) (hpl : (backTo pos (starEach es X.env)).any (·.1) = false := by rfl) : PE X (.Call (.Name x p) (e :: es) [] pos) (tD sp t) := by
  refine ⟨fun pins s σ H Q I h => ?_⟩
  refine (pe_call (dvs := []) D.F (hr.mono hkj) hg D.m D.kp D.b .nil pass0 ha hdb he hpl).run pins s σ H Q I ?_
  have e : (tCall sp [] E0 t) = tD sp t := by funext a b c; unfold tCall tD; simp only [List.append_nil]
  rw [e]
  exact h
/-- how a call by keywords alone binds -/
structure KB0 (K : PySem.W.Frag) (fd : FuncData) (ps ks : List Str) (g : List Value → List Value) (gV : List V → List V) : Prop where
  to : ∀ (s : Shared) (ws : List Value), ws.length = ks.length → BindsTo s fd ⟨[], ks.zip ws⟩ (ps.zip (g ws))
  rel : ∀ {zs : List V} {ws : List Value}, zs.length = ks.length → Vals zs ws → Vals (gV zs) (g ws)
  ln : ∀ zs : List V, (gV zs).length = ps.length → zs.length = ks.length
/-- f(k = v, ..): keywords alone -/
theorem pe_dk {g : List Value → List Value} {gV : List V → List V} (D : DefAt X.prog X.w X.K X.mg X.base k x f fd ps sp) (hr : Room j X.A) (hb : KB0 X.K fd ps ks g gV) (hkw : PK X kws tk) (hkj : k ≤ j := by decide) (hg : Gl X x := by rfl)
    (hall : (backToKw pos (keywordEach kws X.env)).all (·.1.isSome) = true := by rfl) (hks : (backToKw pos (keywordEach kws X.env)).filterMap (·.1) = ks := by rfl) (hdb : (x == ("__debug__" : Str)) = false := by decide)
    (hpl : ((backTo pos (starEach [] X.env)).any (·.1) || (backToKw pos (keywordEach kws X.env)).any (·.1.isNone)) = false := by rfl) :
    PE X (.Call (.Name x p) [] kws pos) (tDK sp gV tk) := by
  refine ⟨fun pins s σ H Q I h => ?_⟩
  refine wpAny_Call_Name_kw (ld_glob I hg D.m ?_ hdb)
  refine PySem.W.callWith_KW0 (h₀ := X.base) I.ok.mod.kin D.kp hall ?_ hpl
  refine thn (hkw.run pos pins s σ H _ I h) fun ws s2 ⟨zs, H2, I2, rz, q2⟩ => ⟨I2.kIn, ?_⟩
  rw [hks]
  have lz := hb.ln zs (D.F.len _ _ _ _ q2)
  have b := hb.to s2 ws (rz.length.symm.trans lz)
  refine wpAny_call (codeAny_mono (D.F.run X.A X.stack s2 H2 ⟨[], ks.zip ws⟩ (g ws) (gV zs) Q E0 (hr.mono hkj) I2.env0 b (hb.rel lz rz) q2) fun r s' hq => ?_)
  cases r with
  | error e => exact (hq : False).elim
  | ok fl =>
    cases fl with
    | ret u => exact I2.after hq
    | next => exact False.elim hq
    | brk => exact False.elim hq
    | cont => exact False.elim hq
theorem kb_mk {K : PySem.W.Frag} {x qual : Str} {st : Stmt} {f : Addr} {fd : FuncData} {ps ks : List Str} {g : List Value → List Value} {gV : List V → List V} (F : Fun K x qual st f fd)
    (h : ∀ (kV doc pm : Value) (an : Option Addr) (cdv ct : Value) (ws : List Value), ws.length = ks.length → bindArgs (PySem.W.fnOf x qual (defArgs st) (defBody st) (defScope st) .none kV doc pm an cdv ct) ⟨[], ks.zip ws⟩ = pure (ps.zip (g ws)))
    (hr : ∀ {zs : List V} {ws : List Value}, zs.length = ks.length → Vals zs ws → Vals (gV zs) (g ws)) (hl : ∀ zs : List V, (gV zs).length = ps.length → zs.length = ks.length) : KB0 K fd ps ks g gV := by
  obtain ⟨oc, od, kV, doc, pm, an, cdv, ct, osl, rfl, lk, hcd⟩ := F.ex
  exact ⟨fun s ws hw => .of_eq (h kV doc pm an cdv ct ws hw), hr, hl⟩
end

/-! ### numbers -/
/-- a divisor but 0 of at most 9000 bits -/
def DivOk (j : Int) : Prop := j ≠ 0 ∧ j.natAbs.log2 < 9000
def PowOk (i j : Int) : Prop := 0 ≤ j ∧ (Builtin.Int.intBits i : Int) * j ≤ 2 ^ 27
section
variable {X : Cx}
theorem op_fdivX : OpR X (binaryOp .FloorDiv) (rI (fun _ j => DivOk j) fun i j => .int (i.fdiv j)) := opI fun i j _ _ _ _ _ hc q =>
  floordiv_int hc.1 q (.inl (PyProof.noPylong_of_log2 hc.2))
theorem op_mulU : OpR X (binaryOp .Mult) (rI IntMulOk fun i j => .int (i * j)) := opI fun _ _ _ _ _ _ _ hc q => mul_int q hc
/-- ** of numbers whose power has at most 2 ^ 27 bits -/
theorem op_powX : OpR X (binaryOp .Pow) (rI PowOk fun i j => .int (i ^ j.toNat)) := opI fun _ _ _ _ _ _ _ hc q => pow_int hc.1 hc.2 q
/-- math.isqrt -/
def rt (n : Int) : Int := ((Float64.isqrt n.toNat : Nat) : Int)
theorem cr_isqrt : CallR X (.builtin "math.isqrt") (fun vs H Q => ∃ a : Int, vs = [.int a] ∧ 0 ≤ a ∧ a.toNat.log2 < 13000 ∧ Q (.int (rt a)) H) := by
  intro pins s σ H vs us Q I r h
  obtain ⟨a, rfl, h0, h1, q⟩ := h
  obtain ⟨u, rfl, t, rfl⟩ := vals1 r
  exact call_function_meets PySem.W.MGF.kind_isqrt PySem.W.MGF.plain_isqrt PySem.W.MGF.entry_isqrt (PySem.W.MGF.args_isqrt _) (PySem.W.mg_run_isqrt a t (by omega) (by omega) (by omega)).meets ⟨.int _, H, I.tok _, ⟨_, rfl⟩, q⟩
theorem cr_int : CallR X (.type "int") (fun xs H Q => ∃ i, xs = [.int i] ∧ Q (.int i) H) := fun pins s σ H xs us Q I r h => call_int1 pins s σ H xs us Q I r (.inl h)
/-- repr of a number, of True, False, None -/
def flatText : V → Option Str
  | .int i => if i.natAbs.log2 < 1920 then some (toString i) else none
  | .bl b => some (if b then "True" else "False")
  | .non => some "None"
  | _ => none
theorem cr_repr : CallR X (.builtin "repr") (fun vs H Q => ∃ (x : V) (z : Str), vs = [x] ∧ flatText x = some z ∧ Q (.str z) H) := by
  intro pins s σ H vs us Q I r h
  obtain ⟨x, z, rfl, hz, q⟩ := h
  obtain ⟨u, rfl, rx⟩ := vals1 r
  cases x with
  | int i =>
    obtain ⟨t, rfl⟩ := rx
    have hz2 : (if i.natAbs.log2 < 1920 then some (toString i : Str) else Option.none) = some z := hz
    by_cases hl : i.natAbs.log2 < 1920
    · rw [if_pos hl] at hz2
      have hz3 := Option.some.inj hz2
      subst hz3
      exact PySem.P.repr_of_int hl ⟨.str _, H, I.tok _, ⟨_, rfl⟩, q⟩
    · rw [if_neg hl] at hz2
      cases hz2
  | bl b =>
    cases rx
    cases hz
    exact PySem.P.repr_of_bool ⟨.str _, H, I.tok _, ⟨_, rfl⟩, q⟩
  | non =>
    cases rx
    cases hz
    exact PySem.P.repr_of_none ⟨.str _, H, I.tok _, ⟨_, rfl⟩, q⟩
  | str _ => cases hz
  | byt _ => cases hz
  | flt _ => cases hz
  | ref _ => cases hz
  | ty _ => cases hz
end

/-! ### loops, opened by hand -/
section
variable {wi : TI} {g : TG} {tb : TS} {D : Ends} {σ : SV} {H : Hp} {c : TT} {tt : TT} {te : TE} {vs : List Nat}
def ForW (J : It) (g : TG) (tb : TS) (D : Ends) (σ : SV) (H1 : Hp) : Prop := ∃ W : Nat → Nat → SV → Hp → Prop, (∃ m, W 0 m σ H1) ∧ ∀ i m σ H, W i m σ H →
  (J.stop i H ∧ D.nx σ H) ∨ (J.go i H ∧ ∃ N : SV → Hp → Prop, (∀ σ' H', N σ' H' → ∃ m', m' < m ∧ W (i + 1) m' σ' H') ∧ ∀ x H', J.yld i H x H' → g x σ H' fun σ2 H2 => tb { D with nx := N, ct := N, bk := D.nx } σ2 H2)
theorem tFor_eq : tFor wi g tb = fun D σ H => wi σ H fun J H1 => ForW J g tb D σ H1 := rfl
theorem forW_range {n : Nat} {lo : Int} (Pv : Nat → SV → Hp → Prop) (h0 : Pv 0 σ H) (hs : ∀ i σ' H', i < n → Pv i σ' H' → g (.int (lo + i)) σ' H' fun σ2 H2 => tb { D with nx := Pv (i + 1), ct := Pv (i + 1), bk := D.nx } σ2 H2)
    (hd : ∀ σ' H', Pv n σ' H' → D.nx σ' H') : ForW (Itr lo n) g tb D σ H := for_range Pv h0 hs hd
theorem forW_list {K : PySem.W.Frag} {a : Addr} {xs : List V} (Pv : Nat → SV → Hp → Prop) (h0 : Pv 0 σ H) (hl : ∀ i σ H, i ≤ xs.length → Pv i σ H → SqL K H a xs)
    (hs : ∀ i x σ' H', xs[i]? = some x → Pv i σ' H' → g x σ' H' fun σ2 H2 => tb { D with nx := Pv (i + 1), ct := Pv (i + 1), bk := D.nx } σ2 H2) (hd : ∀ σ' H', Pv xs.length σ' H' → D.nx σ' H') : ForW (Itl K a) g tb D σ H := for_list Pv h0 hl hs hd
theorem forW_tup {K : PySem.W.Frag} {a : Addr} {xs : List V} (Pv : Nat → SV → Hp → Prop) (h0 : Pv 0 σ H) (hl : ∀ i σ H, i ≤ xs.length → Pv i σ H → SqT K H a xs)
    (hs : ∀ i x σ' H', xs[i]? = some x → Pv i σ' H' → g x σ' H' fun σ2 H2 => tb { D with nx := Pv (i + 1), ct := Pv (i + 1), bk := D.nx } σ2 H2) (hd : ∀ σ' H', Pv xs.length σ' H' → D.nx σ' H') : ForW (Itt K a) g tb D σ H := for_tup Pv h0 hl hs hd
def WStep (W : Nat → SV → Hp → Prop) (m : Nat) (tb : TS) (D : Ends) (σ : SV) (H1 : Hp) : Prop := ∃ N : SV → Hp → Prop, (∀ σ' H', N σ' H' → ∃ m', m' < m ∧ W m' σ' H') ∧ tb { D with nx := N, ct := N, bk := D.nx } σ H1
theorem whileI (Pv : SV → Hp → Prop) (μ : SV → Hp → Nat) (h0 : Pv σ H) (hs : ∀ σ' H', Pv σ' H' → c σ' H' fun b H1 => if b = true then WStep (fun m σ H => m = μ σ H ∧ Pv σ H) (μ σ' H') tb D σ' H1 else D.nx σ' H1) : tWhile c tb D σ H :=
  ⟨fun m σ H => m = μ σ H ∧ Pv σ H, ⟨_, rfl, h0⟩, by
    rintro m σ1 H1 ⟨rfl, p⟩
    exact hs σ1 H1 p⟩
theorem wstep {Pv : SV → Hp → Prop} {μ : SV → Hp → Nat} {m : Nat} {H1 : Hp} (h : tb { D with nx := fun σ' H' => Pv σ' H' ∧ μ σ' H' < m, ct := fun σ' H' => Pv σ' H' ∧ μ σ' H' < m, bk := D.nx } σ H1) : WStep (fun m σ H => m = μ σ H ∧ Pv σ H) m tb D σ H1 :=
  ⟨_, fun σ' H' z => ⟨_, z.2, rfl, z.1⟩, h⟩
def LcW (J : It) (g : TG) (tt : TT) (te : TE) (vs : List Nat) (D : Addr) (σ : SV) (H1 : Hp) (Q : VK) : Prop := ∃ W : Nat → Nat → Hp → Prop, (∃ m, W 0 m (upd H1 D (.lst []))) ∧ ∀ i m H, W i m H →
  (J.stop i H ∧ Q (.ref D) H) ∨ (J.go i H ∧ ∃ Ny : Hp → Prop, (∀ H', Ny H' → ∃ m', m' < m ∧ W (i + 1) m' H') ∧ ∀ x H', J.yld i H x H' → g x (wipe σ vs) H' fun σ2 H2 => wipe σ2 vs = wipe σ vs ∧ tt σ2 H2 fun b H3 =>
    if b = true then te σ2 H3 fun y H4 => ∃ acc, H4 D = some (.lst acc) ∧ acc.length < sizeLine ∧ Ny (upd H4 D (.lst (acc ++ [y]))) else Ny H3)
theorem tLc_eq : tLc wi g tt te vs = fun σ H Q => wi σ H fun J H1 => ∀ D, H1 D = none → LcW J g tt te vs D σ H1 Q := rfl
section
variable {Dd : Addr} {Q : VK}
theorem lcW_range {n : Nat} {lo : Int} (Pv : Nat → Hp → Prop) (h0 : Pv 0 (upd H Dd (.lst [])))
    (hs : ∀ i H, i < n → Pv i H → g (.int (lo + i)) (wipe σ vs) H fun σ2 H2 => wipe σ2 vs = wipe σ vs ∧ tt σ2 H2 fun b H3 =>
      if b = true then te σ2 H3 fun y H4 => ∃ acc, H4 Dd = some (.lst acc) ∧ acc.length < sizeLine ∧ Pv (i + 1) (upd H4 Dd (.lst (acc ++ [y]))) else Pv (i + 1) H3) (hd : ∀ H, Pv n H → Q (.ref Dd) H) : LcW (Itr lo n) g tt te vs Dd σ H Q := lc_range Pv h0 hs hd
theorem lcW_list {K : PySem.W.Frag} {a : Addr} {xs : List V} (Pv : Nat → Hp → Prop) (h0 : Pv 0 (upd H Dd (.lst []))) (hl : ∀ i H, i ≤ xs.length → Pv i H → SqL K H a xs)
    (hs : ∀ i x H, xs[i]? = some x → Pv i H → g x (wipe σ vs) H fun σ2 H2 => wipe σ2 vs = wipe σ vs ∧ tt σ2 H2 fun b H3 =>
      if b = true then te σ2 H3 fun y H4 => ∃ acc, H4 Dd = some (.lst acc) ∧ acc.length < sizeLine ∧ Pv (i + 1) (upd H4 Dd (.lst (acc ++ [y]))) else Pv (i + 1) H3) (hd : ∀ H, Pv xs.length H → Q (.ref Dd) H) : LcW (Itl K a) g tt te vs Dd σ H Q := lc_list Pv h0 hl hs hd
theorem lcW_tup {K : PySem.W.Frag} {a : Addr} {xs : List V} (Pv : Nat → Hp → Prop) (h0 : Pv 0 (upd H Dd (.lst []))) (hl : ∀ i H, i ≤ xs.length → Pv i H → SqT K H a xs)
    (hs : ∀ i x H, xs[i]? = some x → Pv i H → g x (wipe σ vs) H fun σ2 H2 => wipe σ2 vs = wipe σ vs ∧ tt σ2 H2 fun b H3 =>
      if b = true then te σ2 H3 fun y H4 => ∃ acc, H4 Dd = some (.lst acc) ∧ acc.length < sizeLine ∧ Pv (i + 1) (upd H4 Dd (.lst (acc ++ [y]))) else Pv (i + 1) H3) (hd : ∀ H, Pv xs.length H → Q (.ref Dd) H) : LcW (Itt K a) g tt te vs Dd σ H Q := lc_tup Pv h0 hl hs hd
end
end

/-! ### items of what is tracked -/
section
variable {X : Cx}
theorem ixL : IxR X (fun x y H Q => ∃ p xs i v, x = .ref p ∧ y = .int i ∧ H p = some (.lst xs) ∧ atI xs i = some v ∧ Q v H) := by
  intro value slice pins s σ H x y v u Q I rx ry h hs
  obtain ⟨p, xs, i, z, e1, e2, h1, h2, q⟩ := h
  exact ix_list value slice pins s σ H x y v u Q I rx ry ⟨p, xs, i, z, e1, e2, SqL.of h1, h2, q⟩ hs
theorem ixT : IxR X (fun x y H Q => ∃ p xs i v, x = .ref p ∧ y = .int i ∧ H p = some (.tup xs) ∧ atI xs i = some v ∧ Q v H) := by
  intro value slice pins s σ H x y v u Q I rx ry h hs
  obtain ⟨p, xs, i, z, e1, e2, h1, h2, q⟩ := h
  exact ix_tup value slice pins s σ H x y v u Q I rx ry ⟨p, xs, i, z, e1, e2, SqT.of h1, h2, q⟩ hs
end
/-- a, b, .. = a tracked tuple of n items -/
def gT (n : Nat) (t : TGs) : TG := fun v σ H Q => ∃ a xs, v = .ref a ∧ H a = some (.tup xs) ∧ xs.length = n ∧ t xs σ H Q
theorem pg_tupT {X : Cx} {es : List Expr} {k : Nat} {t : TGs} {pos : Pos} (n : Nat) (hc : X.calm = true) (h : PGs X es t) (hn : (assignEach es X.env).length = n := by rfl) (hst : (assignEach es X.env).findIdx? (·.1) = none := by rfl) : PG X (.Tuple es k pos) (gT n t) := by
  refine ⟨fun pins s σ H v u Q I r hw => ?_⟩
  obtain ⟨a, xs, e1, hq, hl, hw⟩ := hw
  exact (pg_tup hc h hn hst).run pins s σ H v u Q I r ⟨a, xs, e1, SqT.of hq, hl, hw⟩
/-- a, b, .. = a tracked list of n items -/
def gL (n : Nat) (t : TGs) : TG := fun v σ H Q => ∃ a xs, v = .ref a ∧ H a = some (.lst xs) ∧ xs.length = n ∧ t xs σ H Q
theorem pg_lstT {X : Cx} {es : List Expr} {k : Nat} {t : TGs} {pos : Pos} (n : Nat) (hc : X.calm = true) (h : PGs X es t) (hn : (assignEach es X.env).length = n := by rfl) (hst : (assignEach es X.env).findIdx? (·.1) = none := by rfl) : PG X (.Tuple es k pos) (gL n t) := by
  refine ⟨fun pins s σ H v u Q I r hw => ?_⟩
  obtain ⟨a, xs, e1, hq, hl, hw⟩ := hw
  exact (pg_lst hc h hn hst).run pins s σ H v u Q I r ⟨a, xs, e1, SqL.of hq, hl, hw⟩
theorem lenL {X : Cx} : CallR X (.builtin "len") (fun xs H Q => ∃ p ys, xs = [.ref p] ∧ H p = some (.lst ys) ∧ Q (.int ys.length) H) := by
  intro pins s σ H xs us Q I r h
  obtain ⟨p, ys, e, h1, q⟩ := h
  exact call_len_seq pins s σ H xs us Q I r ⟨p, ys, e, .inl (SqL.of h1), q⟩
theorem lenT {X : Cx} : CallR X (.builtin "len") (fun xs H Q => ∃ p ys, xs = [.ref p] ∧ H p = some (.tup ys) ∧ Q (.int ys.length) H) := by
  intro pins s σ H xs us Q I r h
  obtain ⟨p, ys, e, h1, q⟩ := h
  exact call_len_seq pins s σ H xs us Q I r ⟨p, ys, e, .inr (SqT.of h1), q⟩
theorem cxK {CX : CXT} {P : Program} {w : World} {K : PySem.W.Frag} {mg : Str → Option Value} {base : Heap} {N : List Str} {qual : Str} {sc : Scope} {f : Addr} {cd : Value} {A : Around} {outer : List Env} {s : Shared} {H : Hp} {E : XK} : (cxOf CX P w K mg base N qual sc f cd A outer s H E).K = K := rfl
theorem atI_0 {α : Type} {x : α} {l : List α} : atI (x :: l) 0 = some x := atI_nat (j := 0) rfl
theorem atI_1 {α : Type} {x y : α} {l : List α} : atI (x :: y :: l) 1 = some y := atI_nat (j := 1) rfl
theorem atI_2 {α : Type} {x y z : α} {l : List α} : atI (x :: y :: z :: l) 2 = some z := atI_nat (j := 2) rfl
theorem atI_3 {α : Type} {x y z u : α} {l : List α} : atI (x :: y :: z :: u :: l) 3 = some u := atI_nat (j := 3) rfl
theorem ixN_30 : ixN 3 0 = some 0 := by decide
theorem ixN_31 : ixN 3 1 = some 1 := by decide
theorem ixN_32 : ixN 3 2 = some 2 := by decide

/-! ### sizes -/
theorem cmw {i j : Int} (h1 : -(2 ^ 2500) < i) (h2 : i < 2 ^ 2500) (h3 : -(2 ^ 2500) < j) (h4 : j < 2 ^ 2500) : IntMulOk i j :=
  CMulW.ok (wide_mul (a := 2500) (b := 2500) (by omega) (by omega) (by decide) (by decide) (by decide))
theorem cmr {i j : Int} (h1 : -(2 ^ 64) < j) (h2 : j < 2 ^ 64) : IntMulOk i j := CMul.ok (.inr ⟨h1, h2⟩)
theorem cml {i j : Int} (h1 : -(2 ^ 64) < i) (h2 : i < 2 ^ 64) : IntMulOk i j := CMul.ok (.inl ⟨h1, h2⟩)
theorem cpow {i : Int} {j : Int} (h0 : 0 ≤ j) (h1 : j ≤ 1000) (h2 : -(2 ^ 2500) < i) (h3 : i < 2 ^ 2500) : PowOk i j := by
  have h := PyProof.Rows.intBits_le (show i.natAbs < 2 ^ 2500 by omega)
  refine ⟨h0, ?_⟩
  have h4 : (Builtin.Int.intBits i : Int) ≤ 2500 := by omega
  have h5 := Int.mul_le_mul h4 h1 h0 (by decide)
  exact Int.le_trans h5 (by decide)
theorem cdiv {j : Int} (h0 : j ≠ 0) (h1 : -(2 ^ 2500) < j) (h2 : j < 2 ^ 2500) : DivOk j :=
  ⟨h0, Nat.lt_of_lt_of_le (PySem.Flt.log2_lt_of (by decide) (show j.natAbs < 2 ^ 2500 by omega)) (by decide)⟩

theorem cut1 (xs : List V) : cutV xs none (some 1) = xs.take 1 := by
  unfold cutV
  cases xs with
  | nil => rfl
  | cons x l =>
    have e : HT.sIx (x :: l).length (x :: l).length (some 1) = 1 := by simp [HT.sIx]
    have e2 : HT.sIx (x :: l).length 0 (Option.none) = 0 := rfl
    rw [e, e2]
    rfl
/-! ### the draws -/
def Keep (g : Addr) (H H' : Hp) : Prop := ∀ b o, b ≠ g → H b = some o → H' b = some o
theorem Keep.refl (g : Addr) (H : Hp) : Keep g H H := fun _ _ _ h => h
theorem Keep.trans {g : Addr} {H H1 H2 : Hp} (a : Keep g H H1) (b : Keep g H1 H2) : Keep g H H2 := fun c o n h => b c o n (a c o n h)
theorem Keep.of {g : Addr} {H H' : Hp} (a : Same H H') : Keep g H H' := fun c o _ h => a c o h
theorem Same.upd {H : Hp} {a : Addr} {o : HO} (h : H a = none) : Same H (upd H a o) := fun b u e => by
  rw [upd_ne (ne_of_none e h)]
  exact e
theorem Same.upd2 {H H1 : Hp} {a : Addr} {o : HO} (s : Same H H1) (h : H a = none) : Same H (L2.upd H1 a o) := fun b u e => by
  rw [upd_ne (ne_of_none e h)]
  exact s b u e
def GenAt (H : Hp) (g : Addr) (k : Nat) : Prop := ∃ a b c : Int, H g = some (.lst [.int a, .int b, .int c]) ∧ 0 ≤ a ∧ a < 2 ^ 2000 ∧ 0 ≤ b ∧ b < 2 ^ 32 ∧ 0 ≤ c ∧ c ≤ k
theorem GenAt.mono {H : Hp} {g : Addr} {j k : Nat} (h : GenAt H g j) (l : j ≤ k) : GenAt H g k := by
  obtain ⟨a, b, c, e, h1, h2, h3, h4, h5, h6⟩ := h
  exact ⟨a, b, c, e, h1, h2, h3, h4, h5, by omega⟩
theorem GenAt.same {H H' : Hp} {g : Addr} {k : Nat} (h : GenAt H g k) (s : Same H H') : GenAt H' g k := by
  obtain ⟨a, b, c, e, r⟩ := h
  exact ⟨a, b, c, s _ _ e, r⟩
def spHash : Sp := fun vs H Q _ => ∃ a i : Int, vs = [.int a, .int i] ∧ 0 ≤ a ∧ a < 2 ^ 32 ∧ 0 ≤ i ∧ i < 2 ^ 60 ∧ ∀ h : Int, 0 ≤ h → h < 2147483647 → Q (.int h) H
def spRandom : Sp := fun vs H Q _ => ∃ (g : Addr) (n : Int) (k : Nat), vs = [.ref g, .int n] ∧ GenAt H g k ∧ k ≤ 2 ^ 40 ∧ 1 ≤ n ∧ n < 2 ^ 300 ∧ ∀ (r : Int) (H' : Hp), 0 ≤ r → r < n → GenAt H' g (k + 20) → Keep g H H' → Q (.int r) H'
def spCell (K : PySem.W.Frag) : Sp := fun vs H Q _ => ∃ (a : Addr) (ns : List Int) (i : Int), vs = [.ref a, .int i] ∧ SqL K H a (ns.map V.int) ∧ 0 ≤ i ∧ i < 100 ∧ ∀ (r : Int) (H' : Hp), Same H H' → Q (.int r) H'
def spGen (K : PySem.W.Frag) : Sp := fun vs H Q _ => ∃ (a : Addr) (ns : List Int) (i : Int), vs = [.ref a, .int i] ∧ SqL K H a (ns.map V.int) ∧ 0 ≤ i ∧ i < 100 ∧ ∀ (g : Addr) (H' : Hp), H g = none → Same H H' → GenAt H' g 100000 → Q (.ref g) H'
/-- a def of two ints that hands back an int reckoned by F -/
def gcdI (a b : Int) : Int := ((Nat.gcd a.natAbs b.natAbs : Nat) : Int)
def spCommon : Sp := fun vs H Q _ => ∃ a b : Int, vs = [.int a, .int b] ∧ Q (.int (gcdI a b)) H
def spRoot : Sp := fun vs H Q _ => ∃ n : Int, vs = [.int n] ∧ 0 ≤ n ∧ n < 2 ^ 2000 ∧ ∀ H', Same H H' → Q (.int (rt n)) H'

/-- the number in a slot, for a measure -/
def slotN (σ : SV) (i : Nat) : Nat := match σ[i]? with
  | some (some (.int v)) => v.toNat
  | _ => 0
theorem gcdI_step {x y : Int} (hx : 0 ≤ x) (hy : 0 < y) : gcdI y (x % y) = gcdI x y := by
  unfold gcdI
  have e : (x % y).natAbs = x.natAbs % y.natAbs := by
    have h1 := Int.emod_nonneg x (show y ≠ 0 by omega)
    have h2 : ((x.natAbs % y.natAbs : Nat) : Int) = x % y := by
      rw [Int.natCast_emod, Int.natAbs_of_nonneg hx, Int.natAbs_of_nonneg (by omega)]
    omega
  rw [e, Nat.gcd_comm, ← Nat.gcd_rec, Nat.gcd_comm]
theorem gcdI_zero {x : Int} (hx : 0 ≤ x) : gcdI x 0 = x := by
  unfold gcdI
  rw [show (0 : Int).natAbs = 0 from rfl, Nat.gcd_zero_right]
  omega
theorem gcdI_abs (a b : Int) : gcdI (if a < 0 then -a else a) (if b < 0 then -b else b) = gcdI a b := by
  unfold gcdI
  have h : ∀ z : Int, (if z < 0 then -z else z).natAbs = z.natAbs := fun z => by split <;> omega
  rw [h, h]
theorem rt_spec {n : Int} (h : 0 ≤ n) : 0 ≤ rt n ∧ rt n * rt n ≤ n ∧ n < (rt n + 1) * (rt n + 1) := by
  obtain ⟨m, rfl⟩ := Int.eq_ofNat_of_zero_le h
  have q := PySem.Float64.isqrt_spec m
  unfold rt
  rw [Int.toNat_natCast]
  refine ⟨Int.natCast_nonneg _, ?_, ?_⟩
  · exact_mod_cast q.1
  · exact_mod_cast q.2
theorem sq_mono {x y : Int} (h : 0 ≤ x) (h2 : x ≤ y) : x * x ≤ y * y := Int.mul_le_mul h2 h2 h (by omega)
theorem rt_unique {n r : Int} (h : 0 ≤ n) (h0 : 0 ≤ r) (h1 : r * r ≤ n) (h2 : n < (r + 1) * (r + 1)) : r = rt n := by
  obtain ⟨s0, s1, s2⟩ := rt_spec h
  have a : ¬ r + 1 ≤ rt n := fun z => by
    have q := sq_mono (by omega) z
    omega
  have b : ¬ rt n + 1 ≤ r := fun z => by
    have q := sq_mono (by omega) z
    omega
  omega
theorem lg {n : Int} (h : n < 2 ^ 3900) : n.toNat.log2 < 13000 := by
  by_cases h0 : n.toNat = 0
  · rw [h0]; decide
  · have h2 : n.toNat < 2 ^ 3900 := by omega
    have := (Nat.log2_lt h0).mpr h2
    omega
theorem rGcd_eq : rGcd = fun vs H Q => ∃ a b : Int, vs = [.int a, .int b] ∧ Q (.int (gcdI a b)) H := rfl
theorem scal_ii {a b : Int} : scal (.int a) (.int b) = true := rfl
theorem scal_bb {a b : Bool} : scal (.bl a) (.bl b) = true := rfl
theorem scal_ss {a b : Str} : scal (.str a) (.str b) = true := rfl
end Kx

set_option Elab.async false
set_option linter.all false
set_option maxRecDepth 100000
set_option maxHeartbeats 4000000
set_option exponentiation.threshold 4000
/-! Root numbers as plain functions. -/
namespace Kx
open PySem

def Sq (D : Int) : Prop := rt D * rt D = D
instance (D : Int) : Decidable (Sq D) := by unfold Sq; infer_instance
def sgn (x : Int) : Int := if x = 0 then 0 else if 0 < x then 1 else -1
def sideF (D x y : Int) : Int :=
  if x = 0 ∧ y = 0 then 0 else if 0 ≤ x ∧ 0 ≤ y then 1 else if x ≤ 0 ∧ y ≤ 0 then -1 else
  if x * x - D * y * y = 0 then 0 else if (decide (0 < x * x - D * y * y) = decide (0 < x)) then 1 else -1
def sideP (D x y : Int) : Int := if D * y * y < x * x then sgn x else sgn y
theorem sq_of {D x y : Int} (hD : 0 ≤ D) (hy : y ≠ 0) (h : x * x = D * y * y) : Sq D := by
  have hyn : 0 < y.natAbs := Int.natAbs_pos.mpr hy
  obtain ⟨m, rfl⟩ := Int.eq_ofNat_of_zero_le hD
  have hn : x.natAbs * x.natAbs = m * (y.natAbs * y.natAbs) := by
    have e := congrArg Int.natAbs h
    rw [Int.natAbs_mul, Int.natAbs_mul, Int.natAbs_mul, Int.natAbs_natCast, Nat.mul_assoc] at e
    exact e
  have hd : y.natAbs ∣ x.natAbs := by
    have h1 : y.natAbs ^ 2 ∣ x.natAbs ^ 2 := ⟨m, by rw [Nat.pow_two, Nat.pow_two, hn]; exact Nat.mul_comm _ _⟩
    exact (Nat.pow_dvd_pow_iff (by decide)).mp h1
  obtain ⟨k, hk⟩ := hd
  have hm : k * k = m := by
    rw [hk] at hn
    have e : y.natAbs * y.natAbs * (k * k) = y.natAbs * y.natAbs * m := by
      rw [Nat.mul_comm (y.natAbs * y.natAbs) m, ← hn]
      simp only [Nat.mul_assoc, Nat.mul_left_comm]
    exact Nat.eq_of_mul_eq_mul_left (Nat.mul_pos hyn hyn) e
  have e : ((k : Nat) : Int) = rt (m : Int) := by
    refine rt_unique (Int.natCast_nonneg _) (Int.natCast_nonneg _) ?_ ?_
    · rw [← hm]
      exact Int.le_of_eq (Int.natCast_mul k k).symm
    · rw [← hm]
      have : (((k * k : Nat)) : Int) = (k : Int) * (k : Int) := Int.natCast_mul k k
      rw [this]
      have h2 : ((k : Int) + 1) * ((k : Int) + 1) = (k : Int) * k + 2 * k + 1 := by grind
      omega
  unfold Sq
  rw [← e, ← hm]
  exact (Int.natCast_mul k k).symm
theorem dyy_nn {D y : Int} (hD : 0 ≤ D) : 0 ≤ D * y * y := by
  rw [Int.mul_assoc]
  exact Int.mul_nonneg hD (by
    rcases Int.le_total 0 y with h | h
    · exact Int.mul_nonneg h h
    · exact Int.mul_nonneg_of_nonpos_of_nonpos h h)
theorem dyy_pos {D y : Int} (hD : 0 < D) (hy : y ≠ 0) : 0 < D * y * y := by
  have h1 : 0 < y * y := by
    rcases Int.lt_or_gt_of_ne hy with h | h
    · exact Int.mul_pos_of_neg_of_neg h h
    · exact Int.mul_pos h h
  rw [Int.mul_assoc]
  exact Int.mul_pos hD h1
theorem xx_pos {x : Int} (hx : x ≠ 0) : 0 < x * x := by
  rcases Int.lt_or_gt_of_ne hx with h | h
  · exact Int.mul_pos_of_neg_of_neg h h
  · exact Int.mul_pos h h
theorem side_eq {D x y : Int} (hD : 0 < D) (h : y = 0 ∨ ¬ Sq D) : sideP D x y = sideF D x y := by
  have hne : y ≠ 0 → x * x ≠ D * y * y := fun hy e => by
    rcases h with h | h
    · exact hy h
    · exact h (sq_of (by omega) hy e)
  have f1 : x = 0 → x * x = 0 := fun e => by rw [e]; rfl
  have f2 : x ≠ 0 → 0 < x * x := xx_pos
  have f3 : y = 0 → D * y * y = 0 := fun e => by rw [e, Int.mul_zero]
  have f4 : y ≠ 0 → 0 < D * y * y := dyy_pos hD
  unfold sideP sideF sgn
  simp only [decide_eq_decide]
  generalize x * x = u at *
  generalize D * y * y = v at *
  repeat' split
  all_goals omega
/-- the floor of y times the root -/
def flM (D y : Int) : Int := if 0 ≤ y then rt (D * y * y) else -rt (D * y * y - 1) - 1
theorem floor_low {D y z : Int} (hD : 0 < D) (h : -flM D y ≤ z) : 0 ≤ sideF D z y := by
  unfold flM at h
  unfold sideF
  by_cases hy : 0 ≤ y
  · rw [if_pos hy] at h
    obtain ⟨s0, s1, s2⟩ := rt_spec (dyy_nn (y := y) (Int.le_of_lt hD))
    by_cases hz : 0 ≤ z
    · by_cases h0 : z = 0 ∧ y = 0
      · rw [if_pos h0]; decide
      · rw [if_neg h0, if_pos ⟨hz, hy⟩]; decide
    · have h1 : z * z ≤ D * y * y := by
        have := sq_mono (x := -z) (y := rt (D * y * y)) (by omega) (by omega)
        have e : -z * -z = z * z := by grind
        omega
      have hy0 : y ≠ 0 := fun e => by
        subst e
        have h2 : 0 < z * z := xx_pos (by omega)
        rw [Int.mul_zero] at h1
        omega
      rw [if_neg (by omega), if_neg (by omega), if_neg (by omega)]
      by_cases h4 : z * z - D * y * y = 0
      · rw [if_pos h4]; decide
      · rw [if_neg h4, if_pos (by rw [decide_eq_false (by omega), decide_eq_false (by omega)])]; decide
  · rw [if_neg hy] at h
    have hp := dyy_pos hD (show y ≠ 0 by omega)
    obtain ⟨s0, s1, s2⟩ := rt_spec (show 0 ≤ D * y * y - 1 by omega)
    have hz : 0 < z := by omega
    have h1 : D * y * y ≤ z * z := by
      have := sq_mono (x := rt (D * y * y - 1) + 1) (y := z) (by omega) (by omega)
      omega
    rw [if_neg (by omega), if_neg (by omega), if_neg (by omega)]
    by_cases h4 : z * z - D * y * y = 0
    · rw [if_pos h4]; decide
    · rw [if_neg h4, if_pos (by rw [decide_eq_true (by omega), decide_eq_true hz])]; decide
theorem floor_high {D y z : Int} (hD : 0 < D) (h : z ≤ -1 - flM D y) : sideF D z y < 0 := by
  unfold flM at h
  unfold sideF
  by_cases hy : 0 ≤ y
  · rw [if_pos hy] at h
    obtain ⟨s0, s1, s2⟩ := rt_spec (dyy_nn (y := y) (Int.le_of_lt hD))
    by_cases hy0 : y = 0
    · rw [if_neg (by omega), if_neg (by omega), if_pos (by omega)]; decide
    · have h1 : D * y * y < z * z := by
        have := sq_mono (x := rt (D * y * y) + 1) (y := -z) (by omega) (by omega)
        have e : -z * -z = z * z := by grind
        omega
      rw [if_neg (by omega), if_neg (by omega), if_neg (by omega), if_neg (by omega), if_neg (by rw [decide_eq_true (show 0 < z * z - D * y * y by omega), decide_eq_false (by omega)]; decide)]
      decide
  · rw [if_neg hy] at h
    have hp := dyy_pos hD (show y ≠ 0 by omega)
    obtain ⟨s0, s1, s2⟩ := rt_spec (show 0 ≤ D * y * y - 1 by omega)
    by_cases hz : z ≤ 0
    · rw [if_neg (by omega), if_neg (by omega), if_pos (by omega)]; decide
    · have h1 : z * z < D * y * y := by
        have := sq_mono (x := z) (y := rt (D * y * y - 1)) (by omega) (by omega)
        omega
      rw [if_neg (by omega), if_neg (by omega), if_neg (by omega), if_neg (by omega), if_neg (by rw [decide_eq_false (show ¬ 0 < z * z - D * y * y by omega), decide_eq_true (by omega)]; decide)]
      decide
/-! ### least terms -/
def lsg (x y b : Int) : Int := if b < 0 then 0 - gcdI (gcdI x y) b else gcdI (gcdI x y) b
def red (x y b : Int) : Int × Int × Int := (x.fdiv (lsg x y b), y.fdiv (lsg x y b), b.fdiv (lsg x y b))
def least (D x y b : Int) : Int × Int × Int := if rt D * rt D = D then red (x + y * rt D) 0 b else red x y b
theorem gcdI_nn (a b : Int) : 0 ≤ gcdI a b := Int.natCast_nonneg _
theorem gcdI_dvdl (a b : Int) : gcdI a b ∣ a := Int.gcd_dvd_left a b
theorem gcdI_dvdr (a b : Int) : gcdI a b ∣ b := Int.gcd_dvd_right a b
theorem gcdI_pos {a b : Int} (h : b ≠ 0) : 0 < gcdI a b := by
  unfold gcdI
  have := Nat.gcd_pos_of_pos_right a.natAbs (Int.natAbs_pos.mpr h)
  omega
theorem gcdI_le {a b : Int} (h : b ≠ 0) : gcdI a b ≤ b.natAbs := by
  unfold gcdI
  have := Nat.gcd_le_right a.natAbs (Int.natAbs_pos.mpr h)
  omega
theorem gcdI_mul (k a b : Int) : gcdI (k * a) (k * b) = k.natAbs * gcdI a b := by
  have h := Int.gcd_mul_left k a b
  unfold gcdI
  have h2 : ((k * a).natAbs.gcd (k * b).natAbs) = k.natAbs * (a.natAbs.gcd b.natAbs) := h
  rw [h2, Int.natCast_mul]
theorem lsg_ne {x y b : Int} (h : b ≠ 0) : lsg x y b ≠ 0 := by
  have := gcdI_pos (a := gcdI x y) h
  unfold lsg
  split <;> omega
theorem lsg_size {x y b : Int} (h : b ≠ 0) : (lsg x y b).natAbs ≤ b.natAbs := by
  have h1 := gcdI_le (a := gcdI x y) h
  have h2 := gcdI_nn (gcdI x y) b
  unfold lsg
  split <;> omega
theorem lsg_abs {x y b : Int} : ((lsg x y b).natAbs : Int) = gcdI (gcdI x y) b := by
  have h2 := gcdI_nn (gcdI x y) b
  unfold lsg
  split <;> omega
/-- the three numbers as multiples -/
theorem red_mul {x y b : Int} (h : b ≠ 0) : x = lsg x y b * (red x y b).1 ∧ y = lsg x y b * (red x y b).2.1 ∧ b = lsg x y b * (red x y b).2.2 := by
  have hs := lsg_ne (x := x) (y := y) h
  have hd : ∀ z : Int, gcdI (gcdI x y) b ∣ z → z = lsg x y b * (z.fdiv (lsg x y b)) := fun z hz => by
    have h1 : lsg x y b ∣ z := by
      unfold lsg
      split
      · rw [Int.zero_sub]; exact Int.neg_dvd.mpr hz
      · exact hz
    obtain ⟨q, e⟩ := h1
    have e2 : z.fdiv (lsg x y b) = q := by
      have := Int.mul_fdiv_cancel_left (a := lsg x y b) q hs
      rw [← e] at this
      exact this
    rw [e2]; exact e
  exact ⟨hd x (Int.dvd_trans (gcdI_dvdl _ _) (gcdI_dvdl _ _)), hd y (Int.dvd_trans (gcdI_dvdl _ _) (gcdI_dvdr _ _)), hd b (gcdI_dvdr _ _)⟩
theorem gcd3_mul (k a b c : Int) : gcdI (gcdI (k * a) (k * b)) (k * c) = k.natAbs * gcdI (gcdI a b) c := by
  rw [gcdI_mul]
  have : gcdI ((k.natAbs : Int) * gcdI a b) (k * c) = gcdI (k * gcdI a b) (k * c) := by
    unfold gcdI
    rw [Int.natAbs_mul, Int.natAbs_mul k, Int.natAbs_natCast, Int.natAbs_mul k]
  rw [this, gcdI_mul]
theorem red_gcd {x y b : Int} (h : b ≠ 0) : gcdI (gcdI (red x y b).1 (red x y b).2.1) (red x y b).2.2 = 1 := by
  obtain ⟨e1, e2, e3⟩ := red_mul (x := x) (y := y) h
  have hp := gcdI_pos (a := gcdI x y) h
  have hg : gcdI (gcdI x y) b = (lsg x y b).natAbs * gcdI (gcdI (red x y b).1 (red x y b).2.1) (red x y b).2.2 := by
    rw [← gcd3_mul, ← e1, ← e2, ← e3]
  rw [lsg_abs] at hg
  have h2 : gcdI (gcdI x y) b * 1 = gcdI (gcdI x y) b * gcdI (gcdI (red x y b).1 (red x y b).2.1) (red x y b).2.2 := by
    rw [Int.mul_one]; exact hg
  exact (Int.eq_of_mul_eq_mul_left (by omega) h2).symm
theorem red_below {x y b : Int} (h : b ≠ 0) : 1 ≤ (red x y b).2.2 := by
  obtain ⟨_, _, e3⟩ := red_mul (x := x) (y := y) h
  have hs := lsg_ne (x := x) (y := y) h
  have hp := gcdI_pos (a := gcdI x y) h
  generalize (red x y b).2.2 = q at *
  by_cases hb : b < 0
  · have hl : lsg x y b < 0 := by unfold lsg; rw [if_pos hb]; omega
    by_cases hq : 1 ≤ q
    · exact hq
    · have := Int.mul_nonneg_of_nonpos_of_nonpos (Int.le_of_lt hl) (show q ≤ 0 by omega)
      omega
  · have hl : 0 < lsg x y b := by unfold lsg; rw [if_neg hb]; omega
    by_cases hq : 1 ≤ q
    · exact hq
    · have := Int.mul_nonpos_of_nonneg_of_nonpos (Int.le_of_lt hl) (show q ≤ 0 by omega)
      omega
theorem fdiv_size {z s q : Int} (hs : s ≠ 0) (e : z = s * q) : q.natAbs ≤ z.natAbs := by
  rw [e, Int.natAbs_mul]
  exact Nat.le_mul_of_pos_left _ (Int.natAbs_pos.mpr hs)
theorem red_size {x y b : Int} (h : b ≠ 0) : (red x y b).1.natAbs ≤ x.natAbs ∧ (red x y b).2.1.natAbs ≤ y.natAbs ∧ (red x y b).2.2.natAbs ≤ b.natAbs := by
  obtain ⟨e1, e2, e3⟩ := red_mul (x := x) (y := y) h
  have hs := lsg_ne (x := x) (y := y) h
  exact ⟨fdiv_size hs e1, fdiv_size hs e2, fdiv_size hs e3⟩
/-- what a triple needs to be the one: unique -/
theorem red_unique {x y b X Y B s : Int} (hs : s ≠ 0) (hB : 1 ≤ B) (hg : gcdI (gcdI X Y) B = 1) (e1 : x = s * X) (e2 : y = s * Y) (e3 : b = s * B) : red x y b = (X, Y, B) := by
  have hl : lsg x y b = s := by
    have hgc : gcdI (gcdI x y) b = s.natAbs := by rw [e1, e2, e3, gcd3_mul, hg, Int.mul_one]
    unfold lsg
    rw [hgc]
    by_cases h : s < 0
    · have : b < 0 := by rw [e3]; exact Int.mul_neg_of_neg_of_pos h (by omega)
      rw [if_pos this]; omega
    · have : ¬ b < 0 := by
        have := Int.mul_nonneg (show 0 ≤ s by omega) (show 0 ≤ B by omega)
        rw [e3]; omega
      rw [if_neg this]; omega
  unfold red
  rw [hl, e1, e2, e3, Int.mul_fdiv_cancel_left _ hs, Int.mul_fdiv_cancel_left _ hs, Int.mul_fdiv_cancel_left _ hs]
theorem red_scale {x y b k : Int} (hk : k ≠ 0) (hb : b ≠ 0) : red (k * x) (k * y) (k * b) = red x y b := by
  obtain ⟨e1, e2, e3⟩ := red_mul (x := x) (y := y) hb
  refine red_unique (s := k * lsg x y b) (Int.mul_ne_zero hk (lsg_ne hb)) (red_below hb) (red_gcd hb) ?_ ?_ ?_
  · rw [Int.mul_assoc]; exact congrArg (k * ·) e1
  · rw [Int.mul_assoc]; exact congrArg (k * ·) e2
  · rw [Int.mul_assoc]; exact congrArg (k * ·) e3
theorem least_scale {D x y b k : Int} (hk : k ≠ 0) (hb : b ≠ 0) : least D (k * x) (k * y) (k * b) = least D x y b := by
  unfold least
  split
  · rw [show k * x + k * y * rt D = k * (x + y * rt D) by grind]
    have := red_scale (x := x + y * rt D) (y := 0) hk hb
    rwa [Int.mul_zero] at this
  · exact red_scale hk hb
/-- a triple in least terms -/
def Good (D : Int) (t : Int × Int × Int) : Prop := 1 ≤ t.2.2 ∧ gcdI (gcdI t.1 t.2.1) t.2.2 = 1 ∧ (t.2.1 = 0 ∨ ¬ Sq D)
theorem least_good {D x y b : Int} (hb : b ≠ 0) : Good D (least D x y b) := by
  unfold least
  by_cases h : rt D * rt D = D
  · rw [if_pos h]
    refine ⟨red_below hb, red_gcd hb, .inl ?_⟩
    unfold red
    exact Int.zero_fdiv (lsg (x + y * rt D) 0 b)
  · rw [if_neg h]
    exact ⟨red_below hb, red_gcd hb, .inr h⟩
theorem red_self {X Y B : Int} (hB : 1 ≤ B) (hg : gcdI (gcdI X Y) B = 1) : red X Y B = (X, Y, B) :=
  red_unique (s := 1) (by decide) hB hg (Int.one_mul _).symm (Int.one_mul _).symm (Int.one_mul _).symm
theorem least_self {D : Int} {t : Int × Int × Int} (h : Good D t) : least D t.1 t.2.1 t.2.2 = t := by
  obtain ⟨h1, h2, h3⟩ := h
  unfold least
  split
  · rename_i hs
    rcases h3 with h3 | h3
    · rw [h3] at h2 ⊢
      rw [Int.zero_mul, Int.add_zero, red_self h1 h2]
      exact Prod.ext rfl (Prod.ext h3.symm rfl)
    · exact absurd hs h3
  · rw [red_self h1 h2]
end Kx
namespace Kx
open PySem PySem.Spec PyProof.Rows L2
/-! ### kinds of values -/
def tyS (H : Hp) : V → Option String
  | .non => some "NoneType"
  | .bl _ => some "bool"
  | .int _ => some "int"
  | .str _ => some "str"
  | .ref a => match H a with
    | some (.lst _) => some "list"
    | some (.tup _) => some "tuple"
    | some (.dK _) => some "dict"
    | _ => none
  | _ => none
def isIntV : V → Bool
  | .int _ => true
  | _ => false
theorem tyS_of {K : PySem.W.Frag} {H : Hp} {x : V} {t : String} (h : tyS H x = some t) : TyX K H x (.type t) ∧ t ∈ ["NoneType", "bool", "int", "str", "list", "tuple", "dict"] ∧ (isIntV x = (t == "int")) := by
  cases x with
  | non => cases h; exact ⟨.base .non, by decide, (show false = ("NoneType" == "int") by decide)⟩
  | bl b => cases h; exact ⟨.base (.bl b), by decide, (show false = ("bool" == "int") by decide)⟩
  | int i => cases h; exact ⟨.base (.int i), by decide, (show true = ("int" == "int") by decide)⟩
  | str z => cases h; exact ⟨.base (.str z), by decide, (show false = ("str" == "int") by decide)⟩
  | byt _ => cases h
  | flt _ => cases h
  | ty _ => cases h
  | ref a =>
    have h2 : (match H a with | some (.lst _) => some "list" | some (.tup _) => some "tuple" | some (.dK _) => some "dict" | _ => none) = some t := h
    cases e : H a with
    | none => rw [e] at h2; cases h2
    | some o =>
      rw [e] at h2
      cases o with
      | lst xs => cases h2; exact ⟨.base (.lst e), by decide, (show false = ("list" == "int") by decide)⟩
      | tup xs => cases h2; exact ⟨.base (.tup e), by decide, (show false = ("tuple" == "int") by decide)⟩
      | dK kvs => cases h2; exact ⟨.base (.dK e), by decide, (show false = ("dict" == "int") by decide)⟩
      | _ => cases h2
theorem tyS_same {H H' : Hp} {x : V} {t : String} (s : Same H H') (h : tyS H x = some t) : tyS H' x = some t := by
  cases x with
  | ref a =>
    have h2 : (match H a with | some (.lst _) => some "list" | some (.tup _) => some "tuple" | some (.dK _) => some "dict" | _ => none) = some t := h
    show (match H' a with | some (.lst _) => some "list" | some (.tup _) => some "tuple" | some (.dK _) => some "dict" | _ => none) = some t
    cases e : H a with
    | none => rw [e] at h2; cases h2
    | some o => rw [s a o e]; rw [e] at h2; exact h2
  | _ => exact h
def OkItem (H : Hp) (x : V) : Prop := ∃ t, tyS H x = some t
theorem OkItem.same {H H' : Hp} {x : V} (h : OkItem H x) (s : Same H H') : OkItem H' x := let ⟨t, e⟩ := h; ⟨t, tyS_same s e⟩
/-- a value that the judging defs may be asked for -/
def OkV (H : Hp) (x : V) : Prop := OkItem H x ∧ ∀ a xs, x = .ref a → H a = some (.tup xs) → ∀ y ∈ xs, OkItem H y
def wholesB (H : Hp) (m : Int) : V → Bool
  | .ref a => match H a with
    | some (.tup xs) => decide ((xs.length : Int) = m) && xs.all isIntV
    | _ => false
  | _ => false
def spWhole : Sp := fun vs H Q _ => ∃ x, vs = [x] ∧ OkItem H x ∧ Q (.bl (isIntV x)) H
def spWholes : Sp := fun vs H Q _ => ∃ (x : V) (m : Int), vs = [x, .int m] ∧ m ≤ 1000 ∧ OkV H x ∧ ∀ H', Same H H' → Q (.bl (wholesB H m x)) H'
def measB : V → Bool
  | .int i => decide (5 ≤ i) && decide (i % 4 < 2)
  | _ => false
def spIsMeasure : Sp := fun vs H Q _ => ∃ x, vs = [x] ∧ OkItem H x ∧ Q (.bl (measB x)) H
def Meas (D : Int) : Prop := 5 ≤ D ∧ D % 4 < 2
/-- where the measure is one -/
def spCheckMeasure0 : Sp := fun vs H Q _ => ∃ D : Int, vs = [.int D] ∧ Meas D ∧ Q .non H
def spHasRoot : Sp := fun vs H Q _ => ∃ D : Int, vs = [.int D] ∧ 0 ≤ D ∧ D < 2 ^ 2000 ∧ Q (.bl (decide (Sq D))) H
def rootB (D : Int) (H : Hp) (x : V) : Bool := wholesB H 3 x && (match x with
  | .ref a => match H a with
    | some (.tup [.int x, .int y, .int b]) => decide (1 ≤ b) && (decide (gcdI (gcdI x y) b ≤ 1) && (decide (y = 0) || !decide (Sq D)))
    | _ => false
  | _ => false)
def spIsRootOf : Sp := fun vs H Q _ => ∃ (D : Int) (x : V), vs = [.int D, x] ∧ 0 ≤ D ∧ D < 2 ^ 2000 ∧ OkV H x ∧ ∀ H', Same H H' → Q (.bl (rootB D H x)) H'
def rootV (t : Int × Int × Int) : List V := [.int t.1, .int t.2.1, .int t.2.2]
/-- a root number stands at a -/
def RootAt (D : Int) (H : Hp) (a : Addr) (t : Int × Int × Int) : Prop := H a = some (.tup (rootV t)) ∧ Good D t
theorem RootAt.same {D : Int} {H H' : Hp} {a : Addr} {t : Int × Int × Int} (h : RootAt D H a t) (s : Same H H') : RootAt D H' a t := ⟨s _ _ h.1, h.2⟩
theorem RootAt.okV {D : Int} {H : Hp} {a : Addr} {t : Int × Int × Int} (h : RootAt D H a t) : OkV H (.ref a) := by
  refine ⟨⟨"tuple", ?_⟩, fun b xs e1 e2 y hy => ?_⟩
  · show (match H a with | some (.lst _) => some "list" | some (.tup _) => some "tuple" | some (.dK _) => some "dict" | _ => none) = some "tuple"
    rw [h.1]
  · cases e1
    rw [h.1] at e2
    cases e2
    simp only [rootV, List.mem_cons, List.not_mem_nil, or_false] at hy
    rcases hy with rfl | rfl | rfl <;> exact ⟨"int", rfl⟩
theorem RootAt.isRoot {D : Int} {H : Hp} {a : Addr} {t : Int × Int × Int} (h : RootAt D H a t) : rootB D H (.ref a) = true := by
  obtain ⟨h1, h2, h3, h4⟩ := h
  unfold rootB wholesB
  simp only [h1, rootV, List.length_cons, List.length_nil, List.all_cons, List.all_nil, isIntV]
  rw [decide_eq_true h2, decide_eq_true (show gcdI (gcdI t.1 t.2.1) t.2.2 ≤ 1 by omega)]
  rcases h4 with h4 | h4
  · rw [decide_eq_true h4]; rfl
  · rw [decide_eq_false h4]; simp
/-- where every item is a root number -/
def spCheck0 : Sp := fun vs H Q _ => ∃ (D : Int) (a : Addr) (rs : List Addr), vs = [.int D, .ref a] ∧ Meas D ∧ D < 2 ^ 2000 ∧ H a = some (.tup (rs.map V.ref)) ∧ (∀ r ∈ rs, ∃ t, RootAt D H r t) ∧ ∀ H', Same H H' → Q .non H'
def spSgn : Sp := fun vs H Q _ => ∃ x : Int, vs = [.int x] ∧ Q (.int (sgn x)) H
def spFlM : Sp := fun vs H Q _ => ∃ D y : Int, vs = [.int D, .int y] ∧ 0 < D ∧ D < 2 ^ 1000 ∧ -(2 ^ 1000) < y ∧ y < 2 ^ 1000 ∧ Q (.int (flM D y)) H
/-- no part is too large -/
def Small (t : Int × Int × Int) : Prop := t.1.natAbs < 2 ^ 900 ∧ t.2.1.natAbs < 2 ^ 900 ∧ t.2.2.natAbs < 2 ^ 900
def spRootSide : Sp := fun vs H Q _ => ∃ (D : Int) (a : Addr) (t : Int × Int × Int), vs = [.int D, .ref a] ∧ Meas D ∧ D < 2 ^ 500 ∧ RootAt D H a t ∧ Small t ∧ ∀ H', Same H H' → Q (.int (sideP D t.1 t.2.1)) H'
def spRootFloor : Sp := fun vs H Q _ => ∃ (D : Int) (a : Addr) (t : Int × Int × Int), vs = [.int D, .ref a] ∧ Meas D ∧ D < 2 ^ 500 ∧ RootAt D H a t ∧ Small t ∧ ∀ H', Same H H' → Q (.int ((t.1 + flM D t.2.1).fdiv t.2.2)) H'
/-! ### the law's own -/
def spMeasure : Sp := fun vs H Q _ => ∃ (g : Addr) (n : Int) (k : Nat), vs = [.ref g, .int n] ∧ GenAt H g k ∧ k ≤ 2 ^ 39 ∧ 1 ≤ n ∧ n ≤ 40 ∧ ∀ (D : Int) (H' : Hp), Meas D → D < 2 ^ 200 → GenAt H' g (k + 100) → Keep g H H' → Q (.int D) H'
def spLeast : Sp := fun vs H Q _ => ∃ D x y b : Int, vs = [.int D, .int x, .int y, .int b] ∧ 0 ≤ D ∧ D < 2 ^ 1000 ∧ x.natAbs < 2 ^ 2000 ∧ y.natAbs < 2 ^ 2000 ∧ b.natAbs < 2 ^ 2000 ∧ b ≠ 0 ∧ ∀ (p : Addr) (H' : Hp), H p = none → Same H H' → H' p = some (.tup (rootV (least D x y b))) → Q (.ref p) H'
def spSideF : Sp := fun vs H Q _ => ∃ D x y : Int, vs = [.int D, .int x, .int y] ∧ 0 ≤ D ∧ D < 2 ^ 1000 ∧ x.natAbs < 2 ^ 2450 ∧ y.natAbs < 2 ^ 1000 ∧ Q (.int (sideF D x y)) H
def spDrawn : Sp := fun vs H Q _ => ∃ (g : Addr) (D n : Int) (k : Nat), vs = [.ref g, .int D, .int n] ∧ GenAt H g k ∧ k ≤ 2 ^ 39 ∧ 0 ≤ D ∧ D < 2 ^ 500 ∧ 1 ≤ n ∧ n ≤ 40 ∧
  ∀ (x y b : Int) (p : Addr) (H' : Hp), x.natAbs < 2 ^ 150 → y.natAbs < 2 ^ 150 → 1 ≤ b → b < 2 ^ 150 → H p = none → H' p = some (.tup (rootV (least D x y b))) → GenAt H' g (k + 100) → Keep g H H' → Q (.ref p) H'
def spFloorRight : Sp := fun vs H Q _ => ∃ (D : Int) (a : Addr) (t : Int × Int × Int), vs = [.int D, .ref a] ∧ Meas D ∧ D < 2 ^ 500 ∧ RootAt D H a t ∧ Small t ∧ ∀ H', Same H H' → Q (.bl true) H'
theorem Keep.free {g p : Addr} {H H' : Hp} (k : Keep g H H') (hp : p ≠ g) (h : H' p = none) : H p = none := by
  cases e : H p with
  | none => rfl
  | some o =>
    rw [k p o hp e] at h
    cases h
theorem wholes_get {H : Hp} {m : Int} {x : V} (h : wholesB H m x = true) : ∃ a xs, x = .ref a ∧ H a = some (.tup xs) ∧ (xs.length : Int) = m ∧ xs.all isIntV = true := by
  cases x with
  | ref a =>
    have h2 : (match H a with | some (.tup xs) => decide ((xs.length : Int) = m) && xs.all isIntV | _ => false) = true := h
    cases e : H a with
    | none => rw [e] at h2; cases h2
    | some o =>
      rw [e] at h2
      cases o with
      | tup xs =>
        obtain ⟨p, q⟩ := Bool.and_eq_true_iff.mp h2
        exact ⟨a, xs, rfl, e, of_decide_eq_true p, q⟩
      | _ => cases h2
  | _ => cases h
theorem isInt_get {x : V} (h : isIntV x = true) : ∃ i, x = .int i := by
  cases x with
  | int i => exact ⟨i, rfl⟩
  | _ => cases h
theorem wholes3 {H : Hp} {x : V} (h : wholesB H 3 x = true) : ∃ a i j k, x = .ref a ∧ H a = some (.tup [.int i, .int j, .int k]) := by
  obtain ⟨a, xs, e, ha, hl, hall⟩ := wholes_get h
  have hl3 : xs.length = 3 := by omega
  match xs, hl3 with
  | [u, v, w'], _ =>
    simp only [List.all_cons, List.all_nil, Bool.and_true, Bool.and_eq_true] at hall
    obtain ⟨h1, h2, h3⟩ := hall
    obtain ⟨i, rfl⟩ := isInt_get h1
    obtain ⟨j, rfl⟩ := isInt_get h2
    obtain ⟨l, rfl⟩ := isInt_get h3
    exact ⟨a, i, j, l, e, ha⟩
theorem rootB3 {D : Int} {H : Hp} {a : Addr} {i j k : Int} (h : H a = some (.tup [.int i, .int j, .int k])) : rootB D H (.ref a) = (decide (1 ≤ k) && (decide (gcdI (gcdI i j) k ≤ 1) && (decide (j = 0) || !decide (Sq D)))) := by
  unfold rootB wholesB
  simp only [h, List.length_cons, List.length_nil, List.all_cons, List.all_nil, isIntV, Bool.and_self, Bool.and_true]
  rfl
theorem rootB_not {D : Int} {H : Hp} {x : V} (h : wholesB H 3 x = false) : rootB D H x = false := by
  unfold rootB
  rw [h, Bool.false_and]
theorem measB_int {i : Int} : measB (.int i) = (decide (5 ≤ i) && decide (i % 4 < 2)) := rfl
theorem rIsi_ty {K : PySem.W.Frag} {H : Hp} {x : V} {t c : String} {b : Bool} {Q : VK} (ht : tyS H x = some t) (hb : kitB t c = some b) (q : Q (.bl b) H) : rIsi K [x, .ty c] H Q :=
  ⟨x, .ty c, .type t, .type c, b, rfl, .ty c, (tyS_of ht).1, kit_ty hb, q⟩
theorem tyS_tuple {H : Hp} {x : V} (h : tyS H x = some "tuple") : ∃ a xs, x = .ref a ∧ H a = some (.tup xs) := by
  cases x with
  | ref a =>
    have h2 : (match H a with | some (.lst _) => some "list" | some (.tup _) => some "tuple" | some (.dK _) => some "dict" | _ => none) = some "tuple" := h
    cases e : H a with
    | none => rw [e] at h2; cases h2
    | some o =>
      rw [e] at h2
      cases o with
      | tup xs => exact ⟨a, xs, rfl, e⟩
      | lst xs => exact absurd (Option.some.inj h2) (by decide)
      | dK xs => exact absurd (Option.some.inj h2) (by decide)
      | _ => cases h2
  | non => exact absurd (Option.some.inj h) (by decide)
  | bl _ => exact absurd (Option.some.inj h) (by decide)
  | int _ => exact absurd (Option.some.inj h) (by decide)
  | str _ => exact absurd (Option.some.inj h) (by decide)
  | _ => cases h
theorem tyS_tup {H : Hp} {a : Addr} {xs : List V} (h : H a = some (.tup xs)) : tyS H (.ref a) = some "tuple" := by
  show (match H a with | some (.lst _) => some "list" | some (.tup _) => some "tuple" | some (.dK _) => some "dict" | _ => none) = some "tuple"
  rw [h]
theorem wholes_not {H : Hp} {m : Int} {x : V} {t : String} (h : tyS H x = some t) (ht : t ≠ "tuple") : wholesB H m x = false := by
  cases hw : wholesB H m x with
  | false => rfl
  | true =>
    obtain ⟨a, xs, rfl, ha, _⟩ := wholes_get hw
    rw [tyS_tup ha] at h
    exact absurd (Option.some.inj h).symm ht
theorem wholes_tup {H : Hp} {m : Int} {a : Addr} {xs : List V} (h : H a = some (.tup xs)) : wholesB H m (.ref a) = (decide ((xs.length : Int) = m) && xs.all isIntV) := by
  unfold wholesB
  simp only [h]
theorem any_tuple (K : PySem.W.Frag) {H : Hp} {x : V} (h : OkItem H x) : (∃ t, tyS H x = some t ∧ kitB t "tuple" = some false ∧ t ≠ "tuple") ∨ (∃ a xs, x = .ref a ∧ H a = some (.tup xs)) := by
  obtain ⟨t, ht⟩ := h
  have hm := (tyS_of (K := K) ht).2.1
  simp only [List.mem_cons, List.not_mem_nil, or_false] at hm
  rcases hm with rfl | rfl | rfl | rfl | rfl | rfl | rfl
  · exact .inl ⟨_, ht, by decide +kernel, by decide⟩
  · exact .inl ⟨_, ht, by decide +kernel, by decide⟩
  · exact .inl ⟨_, ht, by decide +kernel, by decide⟩
  · exact .inl ⟨_, ht, by decide +kernel, by decide⟩
  · exact .inl ⟨_, ht, by decide +kernel, by decide⟩
  · exact .inr (tyS_tuple ht)
  · exact .inl ⟨_, ht, by decide +kernel, by decide⟩
theorem rt_le {n : Int} (h : 0 ≤ n) : 0 ≤ rt n ∧ rt n ≤ n := by
  obtain ⟨s0, s1, s2⟩ := rt_spec h
  refine ⟨s0, ?_⟩
  by_cases h : rt n ≤ 0
  · omega
  · have := Int.mul_le_mul_of_nonneg_right (show 1 ≤ rt n by omega) s0
    omega
theorem ediv_size {x b : Int} (h : 1 ≤ b) : (x / b).natAbs ≤ x.natAbs + 1 := by
  have h1 := Int.emod_nonneg x (show b ≠ 0 by omega)
  have h2 := Int.emod_lt_of_pos x (show 0 < b by omega)
  have h3 := Int.mul_ediv_add_emod x b
  by_cases hx : 0 ≤ x
  · have h4 := Int.ediv_nonneg hx (show 0 ≤ b by omega)
    have h5 := Int.ediv_le_self b hx
    omega
  · have hq : x / b ≤ -1 := by
      by_cases h : x / b ≤ -1
      · exact h
      · have := Int.mul_nonneg (show 0 ≤ b by omega) (show 0 ≤ x / b by omega)
        omega
    have h6 := Int.mul_le_mul_of_nonpos_right h (show x / b + 1 ≤ 0 by omega)
    rw [Int.mul_add, Int.mul_one] at h6
    omega
theorem flat_int {i : Int} (h : i.natAbs < 2 ^ 1900) : flatText (.int i) = some (toString i : Str) := by
  have h2 : i.natAbs.log2 < 1920 := Nat.lt_of_lt_of_le (PySem.Flt.log2_lt_of (by decide) h) (by decide)
  show (if i.natAbs.log2 < 1920 then some (toString i : Str) else none) = _
  rw [if_pos h2]
theorem sideF_small (D x y : Int) : (sideF D x y).natAbs ≤ 1 := by
  unfold sideF
  repeat' split
  all_goals decide
theorem least_small {D x y b : Int} (h0 : 0 ≤ D) (h1 : D < 2 ^ 200) (hx : x.natAbs < 2 ^ 600) (hy : y.natAbs < 2 ^ 600) (hb : b.natAbs < 2 ^ 600) (hb0 : b ≠ 0) : Small (least D x y b) := by
  obtain ⟨r0, r1⟩ := rt_le h0
  unfold least Small
  split
  · have w1 : (y * rt D).natAbs < 2 ^ (600 + 200) := wide_lt hy (by omega)
    simp only [Nat.reduceAdd] at w1
    obtain ⟨p, q, r⟩ := red_size (x := x + y * rt D) (y := 0) hb0
    exact ⟨by omega, by omega, by omega⟩
  · obtain ⟨p, q, r⟩ := red_size (x := x) (y := y) hb0
    exact ⟨by omega, by omega, by omega⟩
theorem RootAt.least {D x y b : Int} {H : Hp} {a : Addr} (h : H a = some (.tup (rootV (least D x y b)))) (hb0 : b ≠ 0) : RootAt D H a (least D x y b) := ⟨h, least_good hb0⟩
/-- behind all draws: what stood stands, a generator apart -/
def spRight (K : PySem.W.Frag) : Sp := fun vs H Q _ => ∃ g : Addr, vs = [.ref g] ∧ GenAt H g 100000 ∧ ∀ H', Keep g H H' → Q (.bl true) H'
def spLaw (K : PySem.W.Frag) : Sp := fun vs H Q _ => ∃ (a : Addr) (ns : List Int), vs = [.ref a] ∧ SqL K H a (ns.map V.int) ∧ ns.length ≤ 63 ∧ ∀ H', Q (.bl true) H'

theorem dpAll_ints {K : PySem.W.Frag} {H : Hp} : ∀ ns : List Int, DpAll K H (ns.map V.int) (ns.map PyData.int)
  | [] => .nil
  | n :: ns => .cons (.int n) (dpAll_ints ns)
theorem dp_ints {K : PySem.W.Frag} {H : Hp} {a : Addr} {ns : List Int} (h : H a = some (.lst (ns.map V.int))) : Dp K H (.ref a) (.list (ns.map PyData.int)) := .lst (SqL.of h) (dpAll_ints ns)
theorem eqv_same {d : PyData} (h : SeqAt.shaped d = true) : PyData.eqv d d = true := SeqAt.eqv_refl d (SeqAt.canLay_of_shaped h)
/-- two lists of the same ints -/
theorem ne_ints {K : PySem.W.Frag} {H : Hp} {a b : Addr} {Q : VK} (ns : List Int) (h1 : H a = some (.lst (ns.map V.int))) (h2 : H b = some (.lst (ns.map V.int))) (hs : SeqAt.shaped (.list (ns.map PyData.int)) = true) (q : Q (.bl false) H) : rNeD K (.ref a) (.ref b) H Q :=
  ⟨_, _, dp_ints h1, dp_ints h2, hs, hs, by rw [eqv_same hs]; exact q⟩
theorem eq_ints {K : PySem.W.Frag} {H : Hp} {a b : Addr} {Q : VK} (ns : List Int) (h1 : H a = some (.lst (ns.map V.int))) (h2 : H b = some (.lst (ns.map V.int))) (hs : SeqAt.shaped (.list (ns.map PyData.int)) = true) (q : Q (.bl true) H) : rEqD K (.ref a) (.ref b) H Q :=
  ⟨_, _, dp_ints h1, dp_ints h2, hs, hs, by rw [eqv_same hs]; exact q⟩
theorem ne_new {H : Hp} {p q : Addr} {o : HO} (h : upd H p o q = none) : p ≠ q := fun z => by
  rw [← z, upd_same] at h
  cases h
end Kx

set_option Elab.async false
set_option linter.all false
set_option maxRecDepth 100000
set_option maxHeartbeats 4000000
set_option exponentiation.threshold 4000
/-! Defs that ask for the repr of data: no repr is under way around them. -/
namespace Kx
open PySem PySem.Spec PyProof.Rows L2

structure FnG (P : Program) (w : World) (K : PySem.W.Frag) (mg : Str → Option Value) (base : Heap) (k : Nat) (f : Addr) (fd : FuncData) (ps : List Str) (sp : Sp) : Prop where
  len : ∀ vs H Q E, sp vs H Q E → vs.length = ps.length
  run : ∀ (A : Around) (outer : List Env) (s : Shared) (H : Hp) (args : Args) (us : List Value) (vs : List V) (Q : VK) (E : XK), A.guards = some [] → Room k A → Env0 P w K mg base A outer s H → BindsTo s fd args (ps.zip us) → Vals vs us → sp vs H Q E →
    codeAny (model P w) A (.call (.ref f) args) (CR CX0 outer P w H s Q E) s
theorem FnG.of {P : Program} {w : World} {K : PySem.W.Frag} {mg : Str → Option Value} {base : Heap} {k : Nat} {f : Addr} {fd : FuncData} {ps : List Str} {sp : Sp} (F : FnOk P w K mg base CX0 k f fd ps sp) : FnG P w K mg base k f fd ps sp :=
  ⟨F.len, fun A outer s H args us vs Q E _ => F.run A outer s H args us vs Q E⟩
section
variable {P : Program} {w : World} {K : PySem.W.Frag} {mg : Str → Option Value} {base : Heap}
/-- a def by its body, which may lean on the guards -/
theorem fnG_mk {x qual : Str} {st : Stmt} {f : Addr} {fd : FuncData} {N ps : List Str} {k : Nat} {sp : Sp} (F : Fun K x qual st f fd) (S : FnScope N ps (defScope st)) (hlen : ∀ vs H Q E, sp vs H Q E → vs.length = ps.length)
    (body : ∀ (cdv : Value) (A : Around) (outer : List Env) (s : Shared) (H : Hp) (vs : List V) (Q : VK) (E : XK), (A.deeper (envOfC qual (defScope st) s.heap.objs.size f cdv)).guards = some [] → Room k (A.deeper (envOfC qual (defScope st) s.heap.objs.size f cdv)) → sp vs H Q E →
      ∃ t, PSs (cxOf CX0 P w K mg base N qual (defScope st) f cdv A outer s H E).nox (defBody st) t ∧ t { nx := fun _ H' => Q .non H', rt := Q } (L2.start N vs) H) : FnG P w K mg base (k + 1) f fd ps sp := by
  obtain ⟨cls0, dct0, kwd0, doc0, mod0, ann0, cdv, typ0, slots0, rfl, look, code⟩ := F.ex
  constructor
  · exact hlen
  · intro A outer s H args us vs Q E gd room e0 binds rel hsp
    have ln := hlen _ _ _ _ hsp
    have kept : ∀ b o, base.get? b = some o → s.heap.get? b = some o := fun b o z => (e0.bs b o z).1
    have kin := e0.mod.kin.keeps kept
    have kinds : ∀ y ∈ ps.zip us, (defScope st).names.lookup y.1 = some .local ∨ ((defScope st).names.lookup y.1 = some .cell ∧ ((cellsFrom (s.heap.objs.size + 1) (defScope st).names []).lookup y.1).isSome = true) := by
      rintro ⟨nm, vl⟩ hy
      rcases S.par nm (List.of_mem_zip hy).1 with h | h
      · left; exact h
      · right; exact ⟨h, PySem.W.cellsFrom_some _ _ _ (.inl h)⟩
    apply codeAny_call_function room.depth (kin _ _ look) rfl S.co S.gen rfl (PySem.W.codeRec_of kin code)
    apply binds
    refine wpAny_newFunctionEnv_cells S.kind kinds fun env henv s1 ic => ?_
    subst henv
    refine ⟨(e0.mod.nolimit.keeps kept).keeps ic.toInCall.keep, codeAny_func ?_⟩
    obtain ⟨t, der, rd⟩ := body cdv A outer s H vs Q E gd (room.deeper _) hsp
    have inv0 : Inv (cxOf CX0 P w K mg base N qual (defScope st) f cdv A outer s H E) [] (L2.start N vs) H s1 := inv_start S room.hd e0 ln rel ic
    have back : ∀ {σ1 : SV} {H1 : Hp} {s2 : Shared} {v : V} {u : Value}, Inv (cxOf CX0 P w K mg base N qual (defScope st) f cdv A outer s H E) [] σ1 H1 s2 → RelV v u → Q v H1 → CE outer P w H s Q u s2 := by
      intro σ1 H1 s2 v u J rv q
      exact ⟨v, H1, J.os, J.bare, J.base, J.hok, rv, q⟩
    refine wpAny_mono (der.nox.run [] s1 (L2.start N vs) H _ inv0 rd) (fun fl s2 hs => ?_) fun e s2 hs => hs
    cases fl with
    | ret u => exact let ⟨v, σ1, H1, J, rv, q⟩ := hs; back J rv q
    | next => exact let ⟨σ1, H1, J, q⟩ := hs; back (v := V.non) (u := Value.none) J rfl q
    | brk => exact let ⟨_, _, _, q⟩ := hs; q.elim
    | cont => exact let ⟨_, _, _, q⟩ := hs; q.elim
end
structure DefG (P : Program) (w : World) (K : PySem.W.Frag) (mg : Str → Option Value) (base : Heap) (k : Nat) (x : Str) (f : Addr) (fd : FuncData) (ps : List Str) (sp : Sp) : Prop where
  F : FnG P w K mg base k f fd ps sp
  m : mg x = some (.ref f)
  kp : PySem.W.keepIn K (.ref f) = true
  b : Binds K fd ps []
section
variable {X : Cx} {k j : Nat} {f : Addr} {fd : FuncData} {ps ks : List Str} {sp : Sp} {x : Str} {p pos : Pos} {e : Expr} {es : List Expr} {t tk : TA} {kws : List Keyword}
theorem pe_g (D : DefG X.prog X.w X.K X.mg X.base k x f fd ps sp) (gd : X.A.guards = some []) (hr : Room j X.A) (ha : PA X (e :: es) t) (hkj : k ≤ j := by decide) (hg : Gl X x := by rfl) (hdb : (x == ("__debug__" : Str)) = false := by decide)
    (he : starEach (e :: es) X.env = (false, eval e X.env) :: starEach es X.env := by rfl) (hpl : (backTo pos (starEach es X.env)).any (·.1) = false := by rfl) : PE X (.Call (.Name x p) (e :: es) [] pos) (tD sp t) := by
  refine ⟨fun pins s σ H Q I h => wpAny_Call_Name_kw (ld_glob I hg D.m ?_ hdb)⟩
  refine PySem.W.callWith_K (h₀ := X.base) I.ok.mod.kin D.kp (thn (ha.run pos pins s σ H _ I h) fun us s1 ⟨vs, H1, I1, r, q⟩ => ⟨I1.kIn, ?_⟩) he hpl
  have hl : us.length = ps.length := r.length.symm.trans (D.F.len _ _ _ _ q)
  have hb := D.b s1 us I1.kIn (by rw [List.append_nil]; exact hl)
  rw [List.append_nil] at hb
  refine wpAny_call (codeAny_mono (D.F.run X.A X.stack s1 H1 ⟨us, []⟩ us vs Q E0 gd (hr.mono hkj) I1.env0 hb r q) fun rr s2 hq => ?_)
  cases rr with
  | error er => exact (hq : False).elim
  | ok fl =>
    cases fl with
    | ret u => exact I1.after hq
    | next => exact False.elim hq
    | brk => exact False.elim hq
    | cont => exact False.elim hq
end
/-- repr of data -/
theorem cr_reprD {X : Cx} (gd : X.A.guards = some []) (hu : X.A.units + 64 < cLine) : CallR X (.builtin "repr") (fun vs H Q => ∃ (x : V) (d : PyData), vs = [x] ∧ Dp X.K H x d ∧ d.showable = true ∧ d.hasDict = false ∧ d.depth ≤ 60 ∧ d.shown.length ≤ sizeLine ∧ Q (.str d.shown) H) := by
  intro pins s σ H vs us Q I r h
  obtain ⟨x, d, rfl, hd, h1, h2, h3, h4, q⟩ := h
  obtain ⟨u, rfl, rx⟩ := vals1 r
  cases x with
  | ref a =>
    cases rx
    obtain ⟨as, rd⟩ := Dp.reads I d (.ref a) (.ref a) hd rfl
    exact repr_of_reads' rd h1 (PyData.noDict_hsm h2) gd (by omega) (fun _ _ z => z) (fun h' t tk hk => ⟨.str d.shown, H, I.kept hk, ⟨_, rfl⟩, q⟩) h4
  | int i =>
    cases hd
    obtain ⟨t, rfl⟩ := rx
    exact PySem.P.repr_of_int (by simpa [PyData.showable] using h1) ⟨.str _, H, I.tok _, ⟨_, rfl⟩, by simpa only [PyData.shown] using q⟩
  | bl b =>
    cases hd
    cases rx
    exact PySem.P.repr_of_bool ⟨.str _, H, I.tok _, ⟨_, rfl⟩, by simpa only [PyData.shown] using q⟩
  | non =>
    cases hd
    cases rx
    exact PySem.P.repr_of_none ⟨.str _, H, I.tok _, ⟨_, rfl⟩, by simpa only [PyData.shown] using q⟩
  | str z =>
    cases hd
    obtain ⟨t, rfl⟩ := rx
    exact PySem.P.repr_of_str ⟨.str _, H, I.tok _, ⟨_, rfl⟩, by simpa only [PyData.shown] using q⟩ (by simpa only [PyData.shown] using h4)
  | _ => cases hd
end Kx
namespace Kx
open PySem PySem.Spec PyProof.Rows L2
section
variable {P : Program} {w : World} {K : PySem.W.Frag} {mg mb : Str → Option Value} {k : Nat} {fa a : Addr} {fd : FuncData} {x : Str} {sp : Sp} {s₁ : Shared} {vs : List Value} {ns : List Int}
/-- the law's def at a heap in which nothing but the script is tracked -/
theorem lawG_at (kin : K.In s₁.heap) (gl : s₁.heap.Ns mainGlobals mg) (bl : s₁.heap.Ns builtinsNs mb) (bb : ∀ x : Str, x ≠ "__name__" → mb x = bootBuiltins x) (lim : s₁.heap.NoLimit) (gens : s₁.gens = #[])
    (sc : s₁.heap.get? a = some { cls := .type "list", data := .seq vs.toArray }) (hr : Room k callerA)
    (F : ∀ base : Heap, K.In base → base.Ns mainGlobals mg → FnG P w K mg base k fa fd [x] sp) (bind : ∀ (s : Shared) (u : Value), BindsTo s fd ⟨[u], []⟩ [(x, u)])
    (H : Hp) (only : Only H) (ok : HOk P w H s₁.heap) (lone : ∀ b, H b ≠ none → b = a) (notK : H a ≠ none → K.lookup a = none) (want : sp [.ref a] H (fun v _ => v = .bl true) E0) :
    codeAny (model P w) callerA (.call (.ref fa) ⟨[.ref a], []⟩) (fun r s' => r = .ok (.ret (.bool true)) ∧ OldK s₁.heap s'.heap ∧ s'.os = s₁.os ∧ AllBare s'.gens) s₁ := by
  have free : ∀ {b : Addr}, b ≠ a → H b = none := fun {b} hb => by
    cases q : H b with
    | none => rfl
    | some u => exact (hb (lone b (by rw [q]; exact Option.some_ne_none u))).elim
  have dictFree : ∀ {b : Addr} {o : Obj} {es : Array DictEntry} {ep : Nat}, s₁.heap.get? b = some o → o.data = .dict es ep → H b = none := fun {b o es ep} e d => by
    by_cases hb : b = a
    · subst hb
      rw [sc] at e
      cases e
      exact absurd d (fun z => by cases z)
    · exact free hb
  have kNs : ∀ {b : Addr} {m : Str → Option Value}, s₁.heap.Ns b m → (hidT s₁.heap H).Ns b m := by
    rintro b m ⟨o, es, ep, e, d, r⟩
    exact ⟨o, es, ep, hidT_get e (dictFree e d), d, r⟩
  have kFree : ∀ b o, K.lookup b = some o → H b = none := fun b o e => by
    by_cases hb : b = a
    · subst hb
      cases q : H b with
      | none => rfl
      | some u =>
        rw [notK (by rw [q]; exact Option.some_ne_none u)] at e
        cases e
    · exact free hb
  have kinB : K.In (hidT s₁.heap H) := fun b o e => hidT_get (kin b o e) (kFree b o e)
  have modB : Mod K mg (hidT s₁.heap H) := ⟨kinB, kNs gl, ⟨mb, kNs bl, bb⟩, by
    obtain ⟨mc, l1, l2⟩ := lim
    exact ⟨mc, kNs l1, l2⟩⟩
  have entry : Env0 P w K mg (hidT s₁.heap H) callerA [] s₁ H :=
    { frames := rfl, mod := modB, bs := fun b o e => of_hidT e, bsz := Nat.le_of_eq (hidT_size _ _), funs := trivial, frf := fun b hb => (by cases hb), hok := ok, bare := .of_eq gens }
  have go := (F _ kinB (kNs gl)).run callerA [] s₁ H ⟨[.ref a], []⟩ [.ref a] [.ref a] (fun v _ => v = .bl true) E0 rfl hr entry (bind s₁ (.ref a)) (.cons rfl .nil) want
  refine codeAny_mono go fun r s' h => ?_
  match r, h with
  | .error _, h => exact (h : False).elim
  | .ok .next, h => exact (h : False).elim
  | .ok .brk, h => exact (h : False).elim
  | .ok .cont, h => exact (h : False).elim
  | .ok (.ret u), h =>
    obtain ⟨v, H1, os, bare, un, ok1, rel, q⟩ := h
    have q1 : v = .bl true := q
    rw [q1] at rel
    have ru : u = Value.bool true := rel
    rw [ru]
    refine ⟨rfl, OldK.of_keep fun b o e => ?_, os, bare⟩
    cases hb : H b with
    | none => exact un.keep b o e hb (fun z => by cases z) (fun z => by cases z)
    | some t =>
      rcases only b with z | ⟨ob, xs, z⟩
      · rw [hb] at z; cases z
      · have e1 := (ok b _ z).1
        rw [e] at e1
        cases e1
        exact (ok1 b _ (un.frzs b _ _ z)).1
theorem lawG (kin : K.In s₁.heap) (gl : s₁.heap.Ns mainGlobals mg) (bl : s₁.heap.Ns builtinsNs mb) (bb : ∀ x : Str, x ≠ "__name__" → mb x = bootBuiltins x) (lim : s₁.heap.NoLimit) (gens : s₁.gens = #[])
    (sc : s₁.heap.get? a = some { cls := .type "list", data := .seq vs.toArray }) (hints : IntsAre vs ns) (hl : ns.length ≤ sizeLine) (hr : Room k callerA)
    (F : ∀ base : Heap, K.In base → base.Ns mainGlobals mg → FnG P w K mg base k fa fd [x] sp) (bind : ∀ (s : Shared) (u : Value), BindsTo s fd ⟨[u], []⟩ [(x, u)])
    (want : ∀ H : Hp, Only H → SqL K H a (ns.map V.int) → sp [.ref a] H (fun v _ => v = .bl true) E0) :
    codeAny (model P w) callerA (.call (.ref fa) ⟨[.ref a], []⟩) (fun r s' => r = .ok (.ret (.bool true)) ∧ OldK s₁.heap s'.heap ∧ s'.os = s₁.os ∧ AllBare s'.gens) s₁ := by
  have rv := vals_ints hints
  have lenV := hints.length
  cases hk : K.lookup a with
  | some o =>
    have e := kin a o hk
    rw [sc] at e
    cases e
    have on : Only (fun _ => none) := fun _ => .inl rfl
    refine lawG_at kin gl bl bb lim gens sc hr F bind (fun _ => none) on (fun b u z => by cases z) (fun b z => (z rfl).elim) (fun z => (z rfl).elim) (want _ on ?_)
    exact .inr ⟨_, vs.toArray, _, hk, rfl, rfl, rfl, by rw [List.size_toArray, lenV]; exact hl, by simpa using rv⟩
  | none =>
    have on : Only (fun b => if b = a then some (.frz { cls := .type "list", data := .seq vs.toArray } (.lst (ns.map V.int))) else none) := fun b => by
      by_cases hb : b = a
      · exact .inr ⟨_, _, if_pos hb⟩
      · exact .inl (if_neg hb)
    refine lawG_at kin gl bl bb lim gens sc hr F bind _ on (fun b u z => ?_) (fun b z => ?_) (fun _ => hk) (want _ on (.inl (.inr ⟨_, if_pos rfl⟩)))
    · by_cases hb : b = a
      · have z1 := (if_pos hb).symm.trans z
        cases z1
        rw [hb]
        exact ⟨sc, by rw [List.length_map]; exact hl, vs, _, rv, sc⟩
      · have z1 := (if_neg hb).symm.trans z
        cases z1
    · by_cases hb : b = a
      · exact hb
      · exact (z (if_neg hb)).elim
end
theorem walkG {l : PySem.W.OpenLaw} {n k : Nat} {q : Program} {loose : List Str} {XP : (Str → Option Value) → Heap → Prop} {YP : World → Heap → Prop} {d : DefRec} {K : Params → PySem.W.Frag} {sp : World → Sp} {x : Str}
    (hn : l.most = some n) (hn2 : n ≤ sizeLine) (hdf : d.params.defaults = []) (hr : Room k callerA) (hY : ∀ (w : World) (h : Heap), YP w h → (K w.params).In h)
    (F : ∀ (w : World) (mg : Str → Option Value) (fa : Addr) (h : Heap), (K w.params).In h → h.Ns mainGlobals mg → mg d.name = some (.ref fa) →
      ∃ fd : FuncData, (∀ (s : Shared) (u : Value), BindsTo s fd ⟨[u], []⟩ [(x, u)]) ∧ ∀ base : Heap, (K w.params).In base → base.Ns mainGlobals mg → FnG l.prog w (K w.params) mg base k fa fd [x] (sp w))
    (want : ∀ (w : World) (H : Hp) (a : Addr) (ns : List Int), ns.length ≤ n → Only H → SqL (K w.params) H a (ns.map V.int) → sp w [.ref a] H (fun v _ => v = .bl true) E0) :
    PySem.W.WalkO q loose XP YP l.row.toRowW d [] (fun f vs => PySem.call f vs) := by
  apply Att.attach_call hn hdf
  intro w s₀ s₁ mg mb fa o pm cd doc a vs ns G Y ho hd hcd hmg hobj hints hlen hg
  obtain ⟨fd, hb, hF⟩ := F w mg fa _ (hY w _ Y) G.T.g hmg
  exact lawG (hY w _ Y) G.T.g G.T.b G.T.builtins G.T.nolimit hg hobj hints (Nat.le_trans hlen hn2) hr hF hb (fun H hO hS => want w H a ns hlen hO hS)
end Kx

set_option Elab.async false
set_option linter.all false
set_option maxRecDepth 100000
set_option maxHeartbeats 4000000
set_option exponentiation.threshold 4000
/-! The reckoning of root numbers. -/
namespace Kx
open PySem
theorem least_red {D x y b : Int} (h : Sq D → y = 0) : least D x y b = red x y b := by
  unfold least
  split
  · rename_i hs
    rw [h hs, Int.zero_mul, Int.add_zero]
  · rfl
def plusT (D s : Int) (t u : Int × Int × Int) : Int × Int × Int := least D (t.1 * u.2.2 + s * u.1 * t.2.2) (t.2.1 * u.2.2 + s * u.2.1 * t.2.2) (t.2.2 * u.2.2)
def timesT (D : Int) (t u : Int × Int × Int) : Int × Int × Int := least D (t.1 * u.1 + D * t.2.1 * u.2.1) (t.1 * u.2.1 + t.2.1 * u.1) (t.2.2 * u.2.2)
def normT (D : Int) (u : Int × Int × Int) : Int := u.1 * u.1 - D * u.2.1 * u.2.1
def invT (D : Int) (u : Int × Int × Int) : Int × Int × Int := least D (u.2.2 * u.1) (-u.2.2 * u.2.1) (normT D u)
theorem Good.flat {D : Int} {t : Int × Int × Int} (h : Good D t) (s : Sq D) : t.2.1 = 0 := by
  rcases h.2.2 with h | h
  · exact h
  · exact absurd s h
theorem mul_ne {a b : Int} (h : a ≠ 0) (h2 : b ≠ 0) : a * b ≠ 0 := Int.mul_ne_zero h h2
theorem below_ne {D : Int} {t : Int × Int × Int} (h : Good D t) : t.2.2 ≠ 0 := by have := h.1; omega
theorem plus_good {D s : Int} {t u : Int × Int × Int} (ht : Good D t) (hu : Good D u) : Good D (plusT D s t u) := least_good (mul_ne (below_ne ht) (below_ne hu))
theorem times_good {D : Int} {t u : Int × Int × Int} (ht : Good D t) (hu : Good D u) : Good D (timesT D t u) := least_good (mul_ne (below_ne ht) (below_ne hu))
theorem norm_ne {D : Int} {u : Int × Int × Int} (h0 : 0 ≤ D) (hu : Good D u) (hz : ¬ (u.1 = 0 ∧ u.2.1 = 0)) : normT D u ≠ 0 := fun e => by
  unfold normT at e
  by_cases hy : u.2.1 = 0
  · rw [hy] at e
    have h1 : u.1 ≠ 0 := fun z => hz ⟨z, hy⟩
    have h2 := xx_pos h1
    rw [Int.mul_zero] at e
    omega
  · rcases hu.2.2 with h | h
    · exact hy h
    · exact h (sq_of (x := u.1) h0 hy (by omega))
theorem plus_red {D s : Int} {t u : Int × Int × Int} (ht : Good D t) (hu : Good D u) : plusT D s t u = red (t.1 * u.2.2 + s * u.1 * t.2.2) (t.2.1 * u.2.2 + s * u.2.1 * t.2.2) (t.2.2 * u.2.2) :=
  least_red fun h => by rw [ht.flat h, hu.flat h, Int.zero_mul, Int.mul_zero, Int.zero_mul]; rfl
theorem times_red {D : Int} {t u : Int × Int × Int} (ht : Good D t) (hu : Good D u) : timesT D t u = red (t.1 * u.1 + D * t.2.1 * u.2.1) (t.1 * u.2.1 + t.2.1 * u.1) (t.2.2 * u.2.2) :=
  least_red fun h => by rw [ht.flat h, hu.flat h, Int.zero_mul, Int.mul_zero]; rfl
theorem inv_red {D : Int} {u : Int × Int × Int} (hu : Good D u) : invT D u = red (u.2.2 * u.1) (-u.2.2 * u.2.1) (normT D u) :=
  least_red fun h => by rw [hu.flat h, Int.mul_zero]
theorem inv_good {D : Int} {u : Int × Int × Int} (h0 : 0 ≤ D) (hu : Good D u) (hz : ¬ (u.1 = 0 ∧ u.2.1 = 0)) : Good D (invT D u) := least_good (norm_ne h0 hu hz)
theorem ringA (a3 p a1 P1 D a2 P2 : Int) : a3 * p * (a1 * P1 + D * a2 * P2) = a3 * (a1 * (p * P1) + D * a2 * (p * P2)) := by grind
theorem ringB (u v U1 V3 V1 U3 : Int) : u * v * (U1 * V3 + 1 * V1 * U3) = (u * U1) * (v * V3) + 1 * (v * V1) * (u * U3) := by grind
theorem ringC (a1 a2 a3 b1 b2 b3 c1 c2 c3 D : Int) : a3 * (a1 * (b1 * c3 + 1 * c1 * b3) + D * a2 * (b2 * c3 + 1 * c2 * b3)) = (a1 * b1 + D * a2 * b2) * (a3 * c3) + 1 * (a1 * c1 + D * a2 * c2) * (a3 * b3) := by grind
theorem ringD (a3 p a1 P1 a2 P2 : Int) : a3 * p * (a1 * P2 + a2 * P1) = a3 * (a1 * (p * P2) + a2 * (p * P1)) := by grind
theorem ringE (a1 a2 a3 b1 b2 b3 c1 c2 c3 : Int) : a3 * (a1 * (b2 * c3 + 1 * c2 * b3) + a2 * (b1 * c3 + 1 * c1 * b3)) = (a1 * b2 + a2 * b1) * (a3 * c3) + 1 * (a1 * c2 + a2 * c1) * (a3 * b3) := by grind
theorem ringF (a3 p P3 : Int) : a3 * p * (a3 * P3) = a3 * (a3 * (p * P3)) := by grind
theorem ringG (u v U3 V3 : Int) : u * v * (U3 * V3) = (u * U3) * (v * V3) := by grind
theorem ringH (a3 b3 c3 : Int) : a3 * (a3 * (b3 * c3)) = (a3 * b3) * (a3 * c3) := by grind
theorem ringI (q i T1 b1 D T2 b2 : Int) : q * i * (T1 * b1 + D * T2 * b2) = i * (b1 * (q * T1) + D * b2 * (q * T2)) := by grind
theorem ringJ (i a1 I1 D a2 I2 b1 b2 : Int) : i * (b1 * (a1 * I1 + D * a2 * I2) + D * b2 * (a1 * I2 + a2 * I1)) = b1 * (a1 * (i * I1) + D * a2 * (i * I2)) + D * b2 * (a1 * (i * I2) + a2 * (i * I1)) := by grind
theorem ringK (a1 a2 b1 b2 b3 D : Int) : b1 * (a1 * (b3 * b1) + D * a2 * (-b3 * b2)) + D * b2 * (a1 * (-b3 * b2) + a2 * (b3 * b1)) = b3 * (b1 * b1 - D * b2 * b2) * a1 := by grind
theorem ringL (q i T1 b1 T2 b2 : Int) : q * i * (T1 * b2 + T2 * b1) = i * (b2 * (q * T1) + b1 * (q * T2)) := by grind
theorem ringM (i a1 I1 D a2 I2 b1 b2 : Int) : i * (b2 * (a1 * I1 + D * a2 * I2) + b1 * (a1 * I2 + a2 * I1)) = b2 * (a1 * (i * I1) + D * a2 * (i * I2)) + b1 * (a1 * (i * I2) + a2 * (i * I1)) := by grind
theorem ringN (a1 a2 b1 b2 b3 D : Int) : b2 * (a1 * (b3 * b1) + D * a2 * (-b3 * b2)) + b1 * (a1 * (-b3 * b2) + a2 * (b3 * b1)) = b3 * (b1 * b1 - D * b2 * b2) * a2 := by grind
theorem ringO (q i T3 b3 : Int) : q * i * (T3 * b3) = i * b3 * (q * T3) := by grind
theorem ringP (i a3 I3 b3 : Int) : i * b3 * (a3 * I3) = b3 * (i * I3) * a3 := by grind
theorem ringQ (q i U1 I1 D U2 I2 : Int) : q * i * (U1 * I1 + D * U2 * I2) = (q * U1) * (i * I1) + D * (q * U2) * (i * I2) := by grind
theorem ringR (a1 a2 b1 b2 b3 D : Int) : (a1 * b1 + D * a2 * b2) * (b3 * b1) + D * (a1 * b2 + a2 * b1) * (-b3 * b2) = b3 * (b1 * b1 - D * b2 * b2) * a1 := by grind
theorem ringS (q i U1 I1 U2 I2 : Int) : q * i * (U1 * I2 + U2 * I1) = (q * U1) * (i * I2) + (q * U2) * (i * I1) := by grind
theorem ringT (a1 a2 b1 b2 b3 D : Int) : (a1 * b1 + D * a2 * b2) * (-b3 * b2) + (a1 * b2 + a2 * b1) * (b3 * b1) = b3 * (b1 * b1 - D * b2 * b2) * a2 := by grind
theorem ringU (a3 b3 n : Int) : (a3 * b3) * n = b3 * n * a3 := by grind
/-- the sum's product is the products' sum -/
theorem distrib {D : Int} {a b c : Int × Int × Int} (ha : Good D a) (hb : Good D b) (hc : Good D c) : timesT D a (plusT D 1 b c) = plusT D 1 (timesT D a b) (timesT D a c) := by
  have na := below_ne ha
  have nb := below_ne hb
  have nc := below_ne hc
  have gP : Good D (plusT D 1 b c) := plus_good hb hc
  have gU : Good D (timesT D a b) := times_good ha hb
  have gV : Good D (timesT D a c) := times_good ha hc
  rw [times_red ha gP, plus_red gU gV]
  obtain ⟨p1, p2, p3⟩ := red_mul (x := b.1 * c.2.2 + 1 * c.1 * b.2.2) (y := b.2.1 * c.2.2 + 1 * c.2.1 * b.2.2) (mul_ne nb nc)
  obtain ⟨u1, u2, u3⟩ := red_mul (x := a.1 * b.1 + D * a.2.1 * b.2.1) (y := a.1 * b.2.1 + a.2.1 * b.1) (mul_ne na nb)
  obtain ⟨v1, v2, v3⟩ := red_mul (x := a.1 * c.1 + D * a.2.1 * c.2.1) (y := a.1 * c.2.1 + a.2.1 * c.1) (mul_ne na nc)
  rw [← plus_red hb hc] at p1 p2 p3
  rw [← times_red ha hb] at u1 u2 u3
  rw [← times_red ha hc] at v1 v2 v3
  have sp := lsg_ne (x := b.1 * c.2.2 + 1 * c.1 * b.2.2) (y := b.2.1 * c.2.2 + 1 * c.2.1 * b.2.2) (mul_ne nb nc)
  have su := lsg_ne (x := a.1 * b.1 + D * a.2.1 * b.2.1) (y := a.1 * b.2.1 + a.2.1 * b.1) (mul_ne na nb)
  have sv := lsg_ne (x := a.1 * c.1 + D * a.2.1 * c.2.1) (y := a.1 * c.2.1 + a.2.1 * c.1) (mul_ne na nc)
  have nP := below_ne gP
  have nU := below_ne gU
  have nV := below_ne gV
  generalize lsg (b.1 * c.2.2 + 1 * c.1 * b.2.2) (b.2.1 * c.2.2 + 1 * c.2.1 * b.2.2) (b.2.2 * c.2.2) = p at *
  generalize lsg (a.1 * b.1 + D * a.2.1 * b.2.1) (a.1 * b.2.1 + a.2.1 * b.1) (a.2.2 * b.2.2) = u at *
  generalize lsg (a.1 * c.1 + D * a.2.1 * c.2.1) (a.1 * c.2.1 + a.2.1 * c.1) (a.2.2 * c.2.2) = v at *
  generalize plusT D 1 b c = P at *
  generalize timesT D a b = U at *
  generalize timesT D a c = V at *
  rw [← red_scale (k := a.2.2 * p) (mul_ne na sp) (mul_ne na nP), ← red_scale (k := u * v) (mul_ne su sv) (mul_ne nU nV)]
  have e1 : a.2.2 * p * (a.1 * P.1 + D * a.2.1 * P.2.1) = u * v * (U.1 * V.2.2 + 1 * V.1 * U.2.2) := by rw [ringA, ← p1, ← p2, ringB u v, ← u1, ← v3, ← v1, ← u3, ringC]
  have e2 : a.2.2 * p * (a.1 * P.2.1 + a.2.1 * P.1) = u * v * (U.2.1 * V.2.2 + 1 * V.2.1 * U.2.2) := by rw [ringD, ← p1, ← p2, ringB u v, ← u2, ← v3, ← v2, ← u3, ringE]
  have e3 : a.2.2 * p * (a.2.2 * P.2.2) = u * v * (U.2.2 * V.2.2) := by rw [ringF, ← p3, ringG, ← u3, ← v3, ringH]
  rw [e1, e2, e3]
/-- what is divided by comes back -/
theorem over_times {D : Int} {a b : Int × Int × Int} (h0 : 0 ≤ D) (ha : Good D a) (hb : Good D b) (hz : ¬ (b.1 = 0 ∧ b.2.1 = 0)) : timesT D (timesT D a (invT D b)) b = a := by
  have na := below_ne ha
  have nb := below_ne hb
  have nn := norm_ne h0 hb hz
  have gI := inv_good h0 hb hz
  have gQ : Good D (timesT D a (invT D b)) := times_good ha gI
  rw [times_red gQ hb]
  obtain ⟨i1, i2, i3⟩ := red_mul (x := b.2.2 * b.1) (y := -b.2.2 * b.2.1) nn
  have si := lsg_ne (x := b.2.2 * b.1) (y := -b.2.2 * b.2.1) nn
  rw [← inv_red hb] at i1 i2 i3
  have nI := below_ne gI
  obtain ⟨q1, q2, q3⟩ := red_mul (x := a.1 * (invT D b).1 + D * a.2.1 * (invT D b).2.1) (y := a.1 * (invT D b).2.1 + a.2.1 * (invT D b).1) (mul_ne na nI)
  have sq := lsg_ne (x := a.1 * (invT D b).1 + D * a.2.1 * (invT D b).2.1) (y := a.1 * (invT D b).2.1 + a.2.1 * (invT D b).1) (mul_ne na nI)
  rw [← times_red ha gI] at q1 q2 q3
  have nQ := below_ne gQ
  generalize lsg (a.1 * (invT D b).1 + D * a.2.1 * (invT D b).2.1) (a.1 * (invT D b).2.1 + a.2.1 * (invT D b).1) (a.2.2 * (invT D b).2.2) = q at *
  generalize timesT D a (invT D b) = T at *
  generalize lsg (b.2.2 * b.1) (-b.2.2 * b.2.1) (normT D b) = i at *
  generalize invT D b = I at *
  have hn : normT D b = b.1 * b.1 - D * b.2.1 * b.2.1 := rfl
  generalize normT D b = n at *
  rw [← red_scale (k := q * i) (mul_ne sq si) (mul_ne nQ nb)]
  have e1 : q * i * (T.1 * b.1 + D * T.2.1 * b.2.1) = b.2.2 * n * a.1 := by rw [ringI, ← q1, ← q2, ringJ, ← i1, ← i2, ringK, ← hn]
  have e2 : q * i * (T.1 * b.2.1 + T.2.1 * b.1) = b.2.2 * n * a.2.1 := by rw [ringL, ← q1, ← q2, ringM, ← i1, ← i2, ringN, ← hn]
  have e3 : q * i * (T.2.2 * b.2.2) = b.2.2 * n * a.2.2 := by rw [ringO, ← q3, ringP, ← i3]
  rw [e1, e2, e3, red_scale (mul_ne nb nn) na]
  exact red_self ha.1 ha.2.1
theorem times_over {D : Int} {a b : Int × Int × Int} (h0 : 0 ≤ D) (ha : Good D a) (hb : Good D b) (hz : ¬ (b.1 = 0 ∧ b.2.1 = 0)) : timesT D (timesT D a b) (invT D b) = a := by
  have na := below_ne ha
  have nb := below_ne hb
  have nn := norm_ne h0 hb hz
  have gI := inv_good h0 hb hz
  have gU : Good D (timesT D a b) := times_good ha hb
  rw [times_red gU gI]
  obtain ⟨i1, i2, i3⟩ := red_mul (x := b.2.2 * b.1) (y := -b.2.2 * b.2.1) nn
  have si := lsg_ne (x := b.2.2 * b.1) (y := -b.2.2 * b.2.1) nn
  rw [← inv_red hb] at i1 i2 i3
  have nI := below_ne gI
  obtain ⟨q1, q2, q3⟩ := red_mul (x := a.1 * b.1 + D * a.2.1 * b.2.1) (y := a.1 * b.2.1 + a.2.1 * b.1) (mul_ne na nb)
  have sq := lsg_ne (x := a.1 * b.1 + D * a.2.1 * b.2.1) (y := a.1 * b.2.1 + a.2.1 * b.1) (mul_ne na nb)
  rw [← times_red ha hb] at q1 q2 q3
  have nU := below_ne gU
  generalize lsg (a.1 * b.1 + D * a.2.1 * b.2.1) (a.1 * b.2.1 + a.2.1 * b.1) (a.2.2 * b.2.2) = q at *
  generalize timesT D a b = U at *
  generalize lsg (b.2.2 * b.1) (-b.2.2 * b.2.1) (normT D b) = i at *
  generalize invT D b = I at *
  have hn : normT D b = b.1 * b.1 - D * b.2.1 * b.2.1 := rfl
  generalize normT D b = n at *
  rw [← red_scale (k := q * i) (mul_ne sq si) (mul_ne nU nI)]
  have e1 : q * i * (U.1 * I.1 + D * U.2.1 * I.2.1) = b.2.2 * n * a.1 := by rw [ringQ, ← q1, ← q2, ← i1, ← i2, ringR, ← hn]
  have e2 : q * i * (U.1 * I.2.1 + U.2.1 * I.1) = b.2.2 * n * a.2.1 := by rw [ringS, ← q1, ← q2, ← i1, ← i2, ringT, ← hn]
  have e3 : q * i * (U.2.2 * I.2.2) = b.2.2 * n * a.2.2 := by rw [ringG, ← q3, ← i3, ringU]
  rw [e1, e2, e3, red_scale (mul_ne nb nn) na]
  exact red_self ha.1 ha.2.1
end Kx
namespace Kx
open PySem PySem.Spec PyProof.Rows L2
/-! ### sizes -/
def Sz (n : Nat) (t : Int × Int × Int) : Prop := t.1.natAbs < 2 ^ n ∧ t.2.1.natAbs < 2 ^ n ∧ t.2.2.natAbs < 2 ^ n
theorem up {x n m : Nat} (h : x < 2 ^ n) (l : n ≤ m) : x < 2 ^ m := Nat.lt_of_lt_of_le h (Nat.pow_le_pow_right (by decide) l)
theorem Sz.up {n m : Nat} {t : Int × Int × Int} (h : Sz n t) (l : n ≤ m) : Sz m t := ⟨Kx.up h.1 l, Kx.up h.2.1 l, Kx.up h.2.2 l⟩
theorem sz_add {x y : Int} {k : Nat} (hx : x.natAbs < 2 ^ k) (hy : y.natAbs < 2 ^ k) : (x + y).natAbs < 2 ^ (k + 1) := by
  rw [Nat.pow_succ]
  omega
theorem sz_sub {x y : Int} {k : Nat} (hx : x.natAbs < 2 ^ k) (hy : y.natAbs < 2 ^ k) : (x - y).natAbs < 2 ^ (k + 1) := by
  rw [Nat.pow_succ]
  omega
theorem bnd {x : Int} {n : Nat} (h : x.natAbs < 2 ^ n) (l : n ≤ 2000) : x.natAbs < 2 ^ 2000 := up h l
theorem okm {i j : Int} {n m : Nat} (hi : i.natAbs < 2 ^ n) (hj : j.natAbs < 2 ^ m) (ln : n ≤ 2000) (lm : m ≤ 2000) : IntMulOk i j := by
  have h1 := bnd hi ln
  have h2 := bnd hj lm
  exact cmw (by omega) (by omega) (by omega) (by omega)
theorem red_sz {x y b : Int} {n : Nat} (hb : b ≠ 0) (h1 : x.natAbs < 2 ^ n) (h2 : y.natAbs < 2 ^ n) (h3 : b.natAbs < 2 ^ n) : Sz n (red x y b) := by
  obtain ⟨p, q, r⟩ := red_size (x := x) (y := y) hb
  exact ⟨Nat.lt_of_le_of_lt p h1, Nat.lt_of_le_of_lt q h2, Nat.lt_of_le_of_lt r h3⟩
section
variable {D s : Int} {t u : Int × Int × Int} {n m : Nat}
theorem one_mul_sz {s z : Int} {k : Nat} (hs : s = 1 ∨ s = -1) (hz : z.natAbs < 2 ^ k) : (s * z).natAbs < 2 ^ k := by
  rcases hs with rfl | rfl
  · rw [Int.one_mul]; exact hz
  · rw [Int.neg_mul, Int.one_mul, Int.natAbs_neg]; exact hz
theorem plus_sz (hs : s = 1 ∨ s = -1) (ht : Good D t) (hu : Good D u) (zt : Sz n t) (zu : Sz m u) : Sz (n + m + 1) (plusT D s t u) := by
  rw [plus_red ht hu]
  refine red_sz (mul_ne (below_ne ht) (below_ne hu)) (sz_add (wide_lt zt.1 zu.2.2) ?_) (sz_add (wide_lt zt.2.1 zu.2.2) ?_) (Kx.up (wide_lt zt.2.2 zu.2.2) (by omega))
  · rw [Nat.add_comm n m]; exact wide_lt (one_mul_sz hs zu.1) zt.2.2
  · rw [Nat.add_comm n m]; exact wide_lt (one_mul_sz hs zu.2.1) zt.2.2
theorem dmul_sz {k : Nat} (h0 : D.natAbs < 2 ^ 200) {x y : Int} (hx : x.natAbs < 2 ^ n) (hy : y.natAbs < 2 ^ m) (l : 200 + n + m ≤ k) : (D * x * y).natAbs < 2 ^ k := Kx.up (wide_lt (wide_lt h0 hx) hy) l
theorem times_sz (h0 : D.natAbs < 2 ^ 200) (ht : Good D t) (hu : Good D u) (zt : Sz n t) (zu : Sz m u) : Sz (n + m + 201) (timesT D t u) := by
  rw [times_red ht hu]
  refine red_sz (mul_ne (below_ne ht) (below_ne hu)) (sz_add (Kx.up (wide_lt zt.1 zu.1) (by omega)) (dmul_sz h0 zt.2.1 zu.2.1 (by omega))) (Kx.up (sz_add (wide_lt zt.1 zu.2.1) (wide_lt zt.2.1 zu.1)) (by omega)) (Kx.up (wide_lt zt.2.2 zu.2.2) (by omega))
theorem norm_sz (h0 : D.natAbs < 2 ^ 200) (zu : Sz m u) : (normT D u).natAbs < 2 ^ (2 * m + 201) := by
  unfold normT
  exact sz_sub (Kx.up (wide_lt zu.1 zu.1) (by omega)) (dmul_sz h0 zu.2.1 zu.2.1 (by omega))
theorem inv_sz (h0 : 0 ≤ D) (h1 : D.natAbs < 2 ^ 200) (hu : Good D u) (hz : ¬ (u.1 = 0 ∧ u.2.1 = 0)) (zu : Sz m u) : Sz (2 * m + 201) (invT D u) := by
  rw [inv_red hu]
  have hn : (-u.2.2).natAbs < 2 ^ m := by rw [Int.natAbs_neg]; exact zu.2.2
  exact red_sz (norm_ne h0 hu hz) (Kx.up (wide_lt zu.2.2 zu.1) (by omega)) (Kx.up (wide_lt hn zu.2.1) (by omega)) (norm_sz h1 zu)
end
/-! ### promises -/
def spReduced : Sp := fun vs H Q _ => ∃ D x y b : Int, vs = [.int D, .int x, .int y, .int b] ∧ 0 ≤ D ∧ D < 2 ^ 1000 ∧ x.natAbs < 2 ^ 2000 ∧ y.natAbs < 2 ^ 2000 ∧ b.natAbs < 2 ^ 2000 ∧ b ≠ 0 ∧ ∀ (p : Addr) (H' : Hp), H p = none → Same H H' → H' p = some (.tup (rootV (least D x y b))) → Q (.ref p) H'
/-- two root numbers at hand -/
structure Two (D : Int) (H : Hp) (a b : Addr) (t u : Int × Int × Int) (n m : Nat) : Prop where
  M : Meas D
  lt : D < 2 ^ 200
  ra : RootAt D H a t
  rb : RootAt D H b u
  za : Sz n t
  zb : Sz m u
theorem Two.same {D : Int} {H H' : Hp} {a b : Addr} {t u : Int × Int × Int} {n m : Nat} (h : Two D H a b t u n m) (s : Same H H') : Two D H' a b t u n m := ⟨h.M, h.lt, h.ra.same s, h.rb.same s, h.za, h.zb⟩
theorem Two.dn {D : Int} {H : Hp} {a b : Addr} {t u : Int × Int × Int} {n m : Nat} (h : Two D H a b t u n m) : 0 ≤ D ∧ D.natAbs < 2 ^ 200 := by
  have h1 := h.M.1
  have h2 := h.lt
  constructor <;> omega
def spTotal : Sp := fun vs H Q _ => ∃ (D s : Int) (a b : Addr) (t u : Int × Int × Int) (n m : Nat), vs = [.int D, .ref a, .ref b, .int s] ∧ (s = 1 ∨ s = -1) ∧ Two D H a b t u n m ∧ n + m ≤ 1700 ∧ ∀ (p : Addr) (H' : Hp), H p = none → Same H H' → RootAt D H' p (plusT D s t u) → Q (.ref p) H'
def spPlus (s : Int) : Sp := fun vs H Q _ => ∃ (D : Int) (a b : Addr) (t u : Int × Int × Int) (n m : Nat), vs = [.int D, .ref a, .ref b] ∧ Two D H a b t u n m ∧ n + m ≤ 1700 ∧ ∀ (p : Addr) (H' : Hp), H p = none → Same H H' → RootAt D H' p (plusT D s t u) → Q (.ref p) H'
def spTimes : Sp := fun vs H Q _ => ∃ (D : Int) (a b : Addr) (t u : Int × Int × Int) (n m : Nat), vs = [.int D, .ref a, .ref b] ∧ Two D H a b t u n m ∧ n + m ≤ 1700 ∧ ∀ (p : Addr) (H' : Hp), H p = none → Same H H' → RootAt D H' p (timesT D t u) → Q (.ref p) H'
def spOver : Sp := fun vs H Q _ => ∃ (D : Int) (a b : Addr) (t u : Int × Int × Int) (n m : Nat), vs = [.int D, .ref a, .ref b] ∧ Two D H a b t u n m ∧ n + 2 * m ≤ 1450 ∧ ¬ (u.1 = 0 ∧ u.2.1 = 0) ∧ ∀ (p : Addr) (H' : Hp), H p = none → Same H H' → RootAt D H' p (timesT D t (invT D u)) → Q (.ref p) H'
/-- the law's own sums: with the sign as the last argument -/
def spLawPlus : Sp := spTotal
/-! ### repr -/
mutual
def cost : PyData → Nat
  | .none => 4
  | .bool _ => 5
  | .int _ => 1925
  | .str x => (reprText x).length
  | .list xs => costAll xs + 3
  | .tuple xs => costAll xs + 3
  | .dict _ => 0
def costAll : List PyData → Nat
  | [] => 0
  | x :: xs => cost x + 2 + costAll xs
end
theorem listText_le : ∀ ts : List Str, (listText ts).length ≤ piled ts + 3
  | [] => by decide
  | t :: ts => by
    unfold listText
    show (textFrom 1 (("[" : Str) ++ t) ts ++ ("]" : Str)).length ≤ _
    have h := textFrom_length_pos ts 1 (("[" : Str) ++ t) (by decide)
    have e1 : ∀ a b : Str, (a ++ b).length = a.length + b.length := fun a b => Str.length_append a b
    rw [e1, h, e1, piled_cons]
    have e2 : ("[" : Str).length = 1 := by decide
    have e3 : ("]" : Str).length = 1 := by decide
    omega
theorem tupleText_le (ts : List Str) : (tupleText ts).length ≤ piled ts + 3 := by
  unfold tupleText
  have e1 : ∀ a b : Str, (a ++ b).length = a.length + b.length := fun a b => Str.length_append a b
  rw [e1, e1]
  have e2 : ("(" : Str).length = 1 := by decide
  have hj : (Str.join ", " ts).length ≤ piled ts := by
    cases ts with
    | nil => decide
    | cons t r =>
      have := join_length_add (t :: r) (by simp)
      omega
  have e3 : ∀ c : Bool, ((if c then ",)" else ")" : String) : Str).length ≤ 2 := fun c => by cases c <;> decide
  have := e3 (ts.length == 1)
  omega
mutual
theorem cost_ok : ∀ d : PyData, d.showable = true → d.hasDict = false → d.shown.length ≤ cost d
  | .none, _, _ => by simp only [PyData.shown, cost]; decide
  | .bool b, _, _ => by cases b <;> simp only [PyData.shown, cost] <;> decide
  | .int i, h, _ => by
    simp only [PyData.shown, cost]
    have h2 : i.natAbs.log2 < 1920 := by simpa [PyData.showable] using h
    exact Nat.le_trans (int_text_len_1921 h2) (by decide)
  | .str x, _, _ => by simp only [PyData.shown, cost]; exact Nat.le_refl _
  | .list xs, h, hd => by
    simp only [PyData.shown, cost]
    have := costAll_ok xs (by simpa [PyData.showable] using h) (by simpa [PyData.hasDict] using hd)
    have := listText_le (PyData.shownAll xs)
    omega
  | .tuple xs, h, hd => by
    simp only [PyData.shown, cost]
    have := costAll_ok xs (by simpa [PyData.showable] using h) (by simpa [PyData.hasDict] using hd)
    have := tupleText_le (PyData.shownAll xs)
    omega
  | .dict _, _, h => by simp [PyData.hasDict] at h
theorem costAll_ok : ∀ ds : List PyData, PyData.showableAll ds = true → PyData.hasDictAll ds = false → piled (PyData.shownAll ds) ≤ costAll ds
  | [], _, _ => by simp only [PyData.shownAll, costAll]; decide
  | d :: ds, h, hd => by
    have h1 : d.showable = true ∧ PyData.showableAll ds = true := by simpa [PyData.showableAll] using h
    have h2 : d.hasDict = false ∧ PyData.hasDictAll ds = false := by simpa [PyData.hasDictAll] using hd
    simp only [PyData.shownAll, costAll, piled_cons]
    have := cost_ok d h1.1 h2.1
    have := costAll_ok ds h1.2 h2.2
    omega
end
/-- data whose repr may be asked for -/
structure Rp (K : PySem.W.Frag) (H : Hp) (x : V) (d : PyData) : Prop where
  dp : Dp K H x d
  sh : d.showable = true
  nd : d.hasDict = false
  de : d.depth ≤ 60
  co : cost d ≤ 16000000
theorem cr_reprR {X : Cx} (gd : X.A.guards = some []) (hu : X.A.units + 64 < cLine) : CallR X (.builtin "repr") (fun vs H Q => ∃ (x : V) (d : PyData), vs = [x] ∧ Rp X.K H x d ∧ Q (.str d.shown) H) := by
  intro pins s σ H vs us Q I r h
  obtain ⟨x, d, e, R, q⟩ := h
  exact cr_reprD gd hu pins s σ H vs us Q I r ⟨x, d, e, R.dp, R.sh, R.nd, R.de, Nat.le_trans (cost_ok d R.sh R.nd) (Nat.le_trans R.co (by decide)), q⟩
def rootD (t : Int × Int × Int) : PyData := .tuple [.int t.1, .int t.2.1, .int t.2.2]
theorem dp_root {K : PySem.W.Frag} {H : Hp} {a : Addr} {t : Int × Int × Int} (h : H a = some (.tup (rootV t))) : Dp K H (.ref a) (rootD t) := .tup (SqT.of h) (.cons (.int _) (.cons (.int _) (.cons (.int _) .nil)))
theorem log_sz {x : Int} {n : Nat} (h : x.natAbs < 2 ^ n) (l : n ≤ 1900) : x.natAbs.log2 < 1920 := Nat.lt_of_lt_of_le (PySem.Flt.log2_lt_of (by decide) (up h l)) (by decide)
theorem root_show {t : Int × Int × Int} {n : Nat} (z : Sz n t) (l : n ≤ 1900) : (rootD t).showable = true := by
  simp only [rootD, PyData.showable, PyData.showableAll, log_sz z.1 l, log_sz z.2.1 l, log_sz z.2.2 l, decide_true, Bool.and_self]
theorem shaped_root (t : Int × Int × Int) : SeqAt.shaped (rootD t) = true := rfl
theorem ne_roots {K : PySem.W.Frag} {H : Hp} {a b : Addr} {t u : Int × Int × Int} {Q : VK} (h1 : H a = some (.tup (rootV t))) (h2 : H b = some (.tup (rootV u))) (e : t = u) (q : Q (.bl false) H) : rNeD K (.ref a) (.ref b) H Q := by
  subst e
  exact ⟨_, _, dp_root h1, dp_root h2, rfl, rfl, by rw [eqv_same rfl]; exact q⟩
theorem eq_roots {K : PySem.W.Frag} {H : Hp} {a b : Addr} {t u : Int × Int × Int} {Q : VK} (h1 : H a = some (.tup (rootV t))) (h2 : H b = some (.tup (rootV u))) (e : t = u) (q : Q (.bl true) H) : rEqD K (.ref a) (.ref b) H Q := by
  subst e
  exact ⟨_, _, dp_root h1, dp_root h2, rfl, rfl, by rw [eqv_same rfl]; exact q⟩
theorem rp_roots3 {K : PySem.W.Frag} {H : Hp} {L a b c : Addr} {t u v : Int × Int × Int} {n m l : Nat} (hL : H L = some (.lst [.ref a, .ref b, .ref c])) (h1 : H a = some (.tup (rootV t))) (h2 : H b = some (.tup (rootV u))) (h3 : H c = some (.tup (rootV v)))
    (z1 : Sz n t) (z2 : Sz m u) (z3 : Sz l v) (l1 : n ≤ 1900) (l2 : m ≤ 1900) (l3 : l ≤ 1900) : Rp K H (.ref L) (.list [rootD t, rootD u, rootD v]) where
  dp := .lst (SqL.of hL) (.cons (dp_root h1) (.cons (dp_root h2) (.cons (dp_root h3) .nil)))
  sh := by
    show (PyData.showableAll [rootD t, rootD u, rootD v]) = true
    simp only [PyData.showableAll, root_show z1 l1, root_show z2 l2, root_show z3 l3, Bool.and_self]
  nd := rfl
  de := Nat.le_of_ble_eq_true rfl
  co := Nat.le_of_ble_eq_true rfl
theorem GenAt.ne {H : Hp} {g a : Addr} {k : Nat} (G : GenAt H g k) {xs : List V} (h : H a = some (.tup xs)) : a ≠ g := fun z => by
  obtain ⟨_, _, _, e, _⟩ := G
  rw [z, e] at h
  cases h
theorem GenAt.nn {H : Hp} {g a : Addr} {k : Nat} (G : GenAt H g k) (h : H a = none) : a ≠ g := fun z => by
  obtain ⟨_, _, _, e, _⟩ := G
  rw [z, e] at h
  cases h
theorem GenAt.upd {H : Hp} {g d : Addr} {k : Nat} {o : HO} (G : GenAt H g k) (h : d ≠ g) : GenAt (L2.upd H d o) g k := by
  obtain ⟨a, b, c, e, r⟩ := G
  exact ⟨a, b, c, by rw [upd_ne (Ne.symm h)]; exact e, r⟩
theorem Keep.root {D : Int} {H H' : Hp} {g a : Addr} {k : Nat} {t : Int × Int × Int} (s : Keep g H H') (G : GenAt H g k) (r : RootAt D H a t) : RootAt D H' a t := ⟨s _ _ (G.ne r.1) r.1, r.2⟩
theorem RootAt.upd {D : Int} {H : Hp} {d a : Addr} {t : Int × Int × Int} {xs : List V} {o : HO} (r : RootAt D H a t) (h : H d = some (.lst xs)) : RootAt D (L2.upd H d o) a t := by
  refine ⟨?_, r.2⟩
  rw [upd_ne (fun z => ?_)]
  · exact r.1
  · have := r.1
    rw [z, h] at this
    cases this
theorem Keep.upd {H H' : Hp} {g d : Addr} {o : HO} (s : Keep g H H') (h : H d = none) : Keep g H (L2.upd H' d o) := fun b u hb e => by
  rw [upd_ne (ne_of_none e h)]
  exact s b u hb e
theorem rt_half {D : Int} (h0 : 0 ≤ D) (h1 : D < 2 ^ 200) : rt D < 2 ^ 100 := by
  obtain ⟨s0, s1, s2⟩ := rt_spec h0
  by_cases h : rt D < 2 ^ 100
  · exact h
  · have := sq_mono (x := 2 ^ 100) (y := rt D) (by decide) (by omega)
    omega
theorem least_sz {D x y b : Int} (h0 : 0 ≤ D) (h1 : D < 2 ^ 200) (hx : x.natAbs < 2 ^ 150) (hy : y.natAbs < 2 ^ 150) (hb : b.natAbs < 2 ^ 150) (hb0 : b ≠ 0) : Sz 251 (least D x y b) := by
  obtain ⟨r0, r1⟩ := rt_le h0
  have r2 := rt_half h0 h1
  have w1 : (y * rt D).natAbs < 2 ^ (150 + 100) := wide_lt hy (by omega)
  simp only [Nat.reduceAdd] at w1
  unfold least
  split
  · exact red_sz hb0 (sz_add (up hx (by decide)) w1) (by decide) (up hb (by decide))
  · exact red_sz hb0 (up hx (by decide)) (up hy (by decide)) (up hb (by decide))
theorem Good.le {D : Int} {t : Int × Int × Int} (h : Good D t) : t = least D t.1 t.2.1 t.2.2 := (least_self h).symm
theorem two_new {D : Int} {H : Hp} {p q : Addr} {t u : Int × Int × Int} (M : Meas D) (l : D < 2 ^ 200) (n1 : H p = none) (n2 : L2.upd H p (.tup (rootV t)) q = none) (gt : Good D t) (gu : Good D u) (zt : Sz 10 t) (zu : Sz 10 u) :
    Two D (L2.upd (L2.upd H p (.tup (rootV t))) q (.tup (rootV u))) p q t u 10 10 :=
  ⟨M, l, ⟨by rw [upd_ne (ne_new n2)]; exact upd_same, gt⟩, ⟨upd_same, gu⟩, zt, zu⟩
end Kx

set_option Elab.async false
set_option linter.all false
set_option maxRecDepth 100000
set_option maxHeartbeats 4000000
set_option exponentiation.threshold 4000
/-! Odd values: what they are, and that they stay. -/
namespace Kx
open PySem PySem.Spec PyProof.Rows L2
mutual
theorem dp_same {K : PySem.W.Frag} {H H' : Hp} (s : Same H H') : ∀ (d : PyData) (v : V), Dp K H v d → Dp K H' v d
  | .none, _, h => by cases h; exact .non
  | .bool _, _, h => by cases h; exact .bl _
  | .int _, _, h => by cases h; exact .int _
  | .str _, _, h => by cases h; exact .str _
  | .list ds, _, h => by
    cases h with
    | lst q r => exact .lst (SqL.ext q s) (dpAll_same s ds _ r)
  | .tuple ds, _, h => by
    cases h with
    | tup q r => exact .tup (SqT.ext q s) (dpAll_same s ds _ r)
  | .dict _, _, h => by cases h
theorem dpAll_same {K : PySem.W.Frag} {H H' : Hp} (s : Same H H') : ∀ (ds : List PyData) (vs : List V), DpAll K H vs ds → DpAll K H' vs ds
  | [], _, h => by cases h; exact .nil
  | d :: ds, _, h => by
    cases h with
    | cons q r => exact .cons (dp_same s d _ q) (dpAll_same s ds _ r)
end
theorem Rp.same {K : PySem.W.Frag} {H H' : Hp} {x : V} {d : PyData} (h : Rp K H x d) (s : Same H H') : Rp K H' x d := ⟨dp_same s _ _ h.dp, h.sh, h.nd, h.de, h.co⟩
theorem OkItem.at {H : Hp} {a : Addr} (h : OkItem H (.ref a)) : ∃ o, H a = some o := by
  obtain ⟨t, ht⟩ := h
  have h2 : (match H a with | some (.lst _) => some "list" | some (.tup _) => some "tuple" | some (.dK _) => some "dict" | _ => none) = some t := ht
  cases e : H a with
  | none => rw [e] at h2; cases h2
  | some o => exact ⟨o, rfl⟩
theorem OkV.same {H H' : Hp} {x : V} (h : OkV H x) (s : Same H H') : OkV H' x := by
  refine ⟨h.1.same s, fun a xs e1 e2 y hy => ?_⟩
  subst e1
  obtain ⟨o, ho⟩ := h.1.at
  have := s _ _ ho
  rw [e2] at this
  cases this
  exact (h.2 a xs rfl ho y hy).same s
def Flat (d : PyData) : Prop := d.canLay0 = true ∧ d.depth ≤ 20
theorem flat_lay : ∀ {ds : List PyData}, (∀ d ∈ ds, Flat d) → PyData.canLayAll0 ds = true ∧ PyData.depthAll ds ≤ 20
  | [], _ => ⟨rfl, by simp only [PyData.depthAll]; omega⟩
  | d :: ds, h => by
    obtain ⟨h1, h2⟩ := h d (List.mem_cons_self ..)
    obtain ⟨h3, h4⟩ := flat_lay (ds := ds) fun e he => h e (List.mem_cons_of_mem _ he)
    refine ⟨?_, ?_⟩
    · simp only [PyData.canLayAll0, h1, h3, Bool.and_self]
    · simp only [PyData.depthAll]
      omega
theorem flat_shaped {ds : List PyData} (h : ∀ d ∈ ds, Flat d) : SeqAt.shaped (.list ds) = true := by
  obtain ⟨h1, h2⟩ := flat_lay h
  have e1 : PyData.canLay0 (.list ds) = true := by simp only [PyData.canLay0]; exact h1
  have e2 : PyData.depth (.list ds) ≤ 64 := by simp only [PyData.depth]; omega
  unfold SeqAt.shaped
  rw [e1, decide_eq_true e2]
  rfl
theorem dp_filter {K : PySem.W.Frag} {H : Hp} {f : V → Bool} : ∀ {xs : List V} {ds : List PyData}, DpAll K H xs ds → (∀ d ∈ ds, Flat d) → ∃ es, DpAll K H (xs.filter f) es ∧ ∀ d ∈ es, Flat d
  | [], _, _, _ => ⟨[], .nil, fun d hd => absurd hd List.not_mem_nil⟩
  | x :: xs, _, h, hf => by
    cases h with
    | @cons _ _ d ds q r =>
      obtain ⟨es, h1, h2⟩ := dp_filter (f := f) r fun e he => hf e (List.mem_cons_of_mem _ he)
      cases hx : f x with
      | true =>
        rw [List.filter_cons_of_pos hx]
        refine ⟨d :: es, .cons q h1, fun e he => ?_⟩
        rcases List.mem_cons.mp he with rfl | he
        · exact hf e (List.mem_cons_self ..)
        · exact h2 e he
      | false =>
        rw [List.filter_cons_of_neg (by rw [hx]; decide)]
        exact ⟨es, h1, h2⟩
theorem dpAll_nil {K : PySem.W.Frag} {H : Hp} {xs : List V} {ds : List PyData} (h : DpAll K H xs ds) : xs.isEmpty = ds.isEmpty := by
  cases h <;> rfl
/-- a value that is asked for, with its data -/
structure Val (K : PySem.W.Frag) (H : Hp) (x : V) (d : PyData) : Prop where
  rp : Rp K H x d
  ok : OkV H x
  it : ∀ a xs, x = .ref a → H a = some (.tup xs) → ∃ ds, DpAll K H xs ds ∧ ∀ d ∈ ds, Flat d
theorem Val.same {K : PySem.W.Frag} {H H' : Hp} {x : V} {d : PyData} (h : Val K H x d) (s : Same H H') : Val K H' x d := by
  refine ⟨h.rp.same s, h.ok.same s, fun a xs e1 e2 => ?_⟩
  subst e1
  obtain ⟨o, ho⟩ := h.ok.1.at
  have := s _ _ ho
  rw [e2] at this
  cases this
  obtain ⟨ds, h1, h2⟩ := h.it a xs rfl ho
  exact ⟨ds, dpAll_same s _ _ h1, h2⟩
theorem all_filter (f : V → Bool) : ∀ xs : List V, (xs.filter fun x => !f x).isEmpty = xs.all f
  | [] => rfl
  | x :: xs => by
    cases h : f x with
    | true => rw [List.filter_cons_of_neg (by rw [h]; decide), List.all_cons, h, Bool.true_and, all_filter f xs]
    | false => rw [List.filter_cons_of_pos (by rw [h]; rfl), List.all_cons, h]; rfl
theorem eqv_nil (es : List PyData) : PyData.eqv (.list es) (.list []) = es.isEmpty := by cases es <;> rfl
/-- a list that holds what is not let is empty exactly if all is let -/
theorem ne_empty {K : PySem.W.Frag} {H : Hp} {L E : Addr} {xs : List V} {ds : List PyData} {f : V → Bool} {Q : VK} (hL : H L = some (.lst (xs.filter fun x => !f x))) (hE : H E = some (.lst [])) (hd : DpAll K H xs ds) (hf : ∀ d ∈ ds, Flat d) (q : Q (.bl (!xs.all f)) H) : rNeD K (.ref L) (.ref E) H Q := by
  obtain ⟨es, h1, h2⟩ := dp_filter (f := fun x => !f x) hd hf
  refine ⟨.list es, .list [], .lst (SqL.of hL) h1, .lst (SqL.of hE) .nil, flat_shaped h2, rfl, ?_⟩
  rw [eqv_nil, ← dpAll_nil h1, all_filter]
  exact q
def spLawIsRoot (K : PySem.W.Frag) : Sp := fun vs H Q _ => ∃ (D : Int) (x : V) (d : PyData), vs = [.int D, x] ∧ 0 ≤ D ∧ D < 2 ^ 2000 ∧ Val K H x d ∧ ∀ H', Same H H' → Q (.bl (rootB D H x)) H'
def spIsRoot : Sp := fun vs H Q _ => ∃ (D : Int) (x : V), vs = [.int D, x] ∧ Meas D ∧ D < 2 ^ 2000 ∧ OkV H x ∧ ∀ H', Same H H' → Q (.bl (rootB D H x)) H'
/-- where all three are numbers, the last one not 0 -/
def spRootNumber0 : Sp := fun vs H Q _ => ∃ D x y b : Int, vs = [.int D, .int x, .int y, .int b] ∧ Meas D ∧ D < 2 ^ 1000 ∧ x.natAbs < 2 ^ 2000 ∧ y.natAbs < 2 ^ 2000 ∧ b.natAbs < 2 ^ 2000 ∧ b ≠ 0 ∧ ∀ (p : Addr) (H' : Hp), H p = none → Same H H' → H' p = some (.tup (rootV (least D x y b))) → Q (.ref p) H'
/-! ### values made of plain items -/
structure It (K : PySem.W.Frag) (H : Hp) (v : V) (d : PyData) : Prop where
  dp : Dp K H v d
  sh : d.showable = true
  nd : d.hasDict = false
  de : d.depth ≤ 10
  co : cost d ≤ 100000
  la : d.canLay0 = true
  ok : OkItem H v
inductive ItAll (K : PySem.W.Frag) (H : Hp) : List V → List PyData → Prop
  | nil : ItAll K H [] []
  | cons {v : V} {d : PyData} {vs : List V} {ds : List PyData} : It K H v d → ItAll K H vs ds → ItAll K H (v :: vs) (d :: ds)
section
variable {K : PySem.W.Frag} {H : Hp}
theorem It.int {i : Int} {n : Nat} (h : i.natAbs < 2 ^ n) (l : n ≤ 1900) : It K H (.int i) (.int i) :=
  ⟨.int i, by simp only [PyData.showable, log_sz h l, decide_true], rfl, Nat.le_of_ble_eq_true rfl, Nat.le_of_ble_eq_true rfl, rfl, ⟨"int", rfl⟩⟩
theorem It.bl {b : Bool} : It K H (.bl b) (.bool b) := ⟨.bl b, rfl, rfl, Nat.le_of_ble_eq_true rfl, Nat.le_of_ble_eq_true rfl, rfl, ⟨"bool", rfl⟩⟩
theorem It.non : It K H .non .none := ⟨.non, rfl, rfl, Nat.le_of_ble_eq_true rfl, Nat.le_of_ble_eq_true rfl, rfl, ⟨"NoneType", rfl⟩⟩
theorem It.str {x : Str} (h1 : (PyData.str x).showable = true) (h2 : cost (.str x) ≤ 100000) (h3 : (PyData.str x).canLay0 = true) : It K H (.str x) (.str x) := ⟨.str x, h1, rfl, Nat.le_of_ble_eq_true rfl, h2, h3, ⟨"str", rfl⟩⟩
theorem itAll_facts : ∀ {vs : List V} {ds : List PyData}, ItAll K H vs ds → DpAll K H vs ds ∧ PyData.showableAll ds = true ∧ PyData.hasDictAll ds = false ∧ PyData.depthAll ds ≤ 10 ∧ costAll ds ≤ 100002 * vs.length ∧ PyData.canLayAll0 ds = true ∧ (∀ v ∈ vs, OkItem H v) ∧ ∀ d ∈ ds, Flat d
  | [], _, h => by
    cases h
    exact ⟨.nil, rfl, rfl, by simp only [PyData.depthAll]; omega, by simp only [costAll]; omega, rfl, fun v hv => absurd hv List.not_mem_nil, fun v hv => absurd hv List.not_mem_nil⟩
  | v :: vs, _, h => by
    cases h with
    | cons q r =>
      obtain ⟨h1, h2, h3, h4, h5, h6, h7, h8⟩ := itAll_facts r
      have a1 := q.de
      have a2 := q.co
      refine ⟨.cons q.dp h1, ?_, ?_, ?_, ?_, ?_, ?_, ?_⟩
      · simp only [PyData.showableAll, q.sh, h2, Bool.and_self]
      · simp only [PyData.hasDictAll, q.nd, h3, Bool.or_self]
      · simp only [PyData.depthAll]; omega
      · simp only [costAll, List.length_cons]; omega
      · simp only [PyData.canLayAll0, q.la, h6, Bool.and_self]
      · intro x hx
        rcases List.mem_cons.mp hx with rfl | hx
        · exact q.ok
        · exact h7 x hx
      · intro x hx
        rcases List.mem_cons.mp hx with rfl | hx
        · exact ⟨q.la, by omega⟩
        · exact h8 x hx
theorem val_tup {p : Addr} {xs : List V} {ds : List PyData} (h : H p = some (.tup xs)) (hi : ItAll K H xs ds) (hl : xs.length ≤ 100) : Val K H (.ref p) (.tuple ds) := by
  obtain ⟨h1, h2, h3, h4, h5, h6, h7, h8⟩ := itAll_facts hi
  refine ⟨⟨.tup (SqT.of h) h1, ?_, ?_, ?_, ?_⟩, ⟨⟨"tuple", tyS_tup h⟩, fun a ys e1 e2 y hy => ?_⟩, fun a ys e1 e2 => ?_⟩
  · simp only [PyData.showable]; exact h2
  · simp only [PyData.hasDict]; exact h3
  · simp only [PyData.depth]; omega
  · simp only [cost]; omega
  · cases e1
    rw [h] at e2
    cases e2
    exact h7 y hy
  · cases e1
    rw [h] at e2
    cases e2
    exact ⟨ds, h1, h8⟩
theorem tyS_lst {a : Addr} {xs : List V} (h : H a = some (.lst xs)) : tyS H (.ref a) = some "list" := by
  show (match H a with | some (.lst _) => some "list" | some (.tup _) => some "tuple" | some (.dK _) => some "dict" | _ => none) = some "list"
  rw [h]
theorem val_lst {p : Addr} {xs : List V} {ds : List PyData} (h : H p = some (.lst xs)) (hi : ItAll K H xs ds) (hl : xs.length ≤ 100) : Val K H (.ref p) (.list ds) := by
  obtain ⟨h1, h2, h3, h4, h5, h6, h7, h8⟩ := itAll_facts hi
  refine ⟨⟨.lst (SqL.of h) h1, ?_, ?_, ?_, ?_⟩, ⟨⟨"list", tyS_lst h⟩, fun a ys e1 e2 y hy => ?_⟩, fun a ys e1 e2 => ?_⟩
  · simp only [PyData.showable]; exact h2
  · simp only [PyData.hasDict]; exact h3
  · simp only [PyData.depth]; omega
  · simp only [cost]; omega
  · cases e1
    rw [h] at e2
    cases e2
  · cases e1
    rw [h] at e2
    cases e2
/-- a list of one int as an item -/
theorem It.lst1 {p : Addr} {i : Int} {n : Nat} (h : H p = some (.lst [.int i])) (hi : i.natAbs < 2 ^ n) (l : n ≤ 1900) : It K H (.ref p) (.list [.int i]) :=
  ⟨.lst (SqL.of h) (.cons (.int _) .nil), by simp only [PyData.showable, PyData.showableAll, log_sz hi l, decide_true, Bool.and_self], rfl, Nat.le_of_ble_eq_true rfl, Nat.le_of_ble_eq_true rfl, rfl, ⟨"list", tyS_lst h⟩⟩
theorem val_root {D : Int} {p : Addr} {t : Int × Int × Int} {n : Nat} (h : RootAt D H p t) (z : Sz n t) (l : n ≤ 1900) : Val K H (.ref p) (rootD t) := val_tup h.1 (.cons (.int z.1 l) (.cons (.int z.2.1 l) (.cons (.int z.2.2 l) .nil))) (Nat.le_of_ble_eq_true rfl)
end
theorem wholesB_same {H H' : Hp} {m : Int} {x : V} (s : Same H H') (h : OkItem H x) : wholesB H' m x = wholesB H m x := by
  cases x with
  | ref a =>
    obtain ⟨o, ho⟩ := h.at
    unfold wholesB
    simp only [ho, s _ _ ho]
  | _ => rfl
theorem rootB_same {D : Int} {H H' : Hp} {x : V} (s : Same H H') (h : OkItem H x) : rootB D H' x = rootB D H x := by
  unfold rootB
  rw [wholesB_same s h]
  cases x with
  | ref a =>
    obtain ⟨o, ho⟩ := h.at
    simp only [ho, s _ _ ho]
  | _ => rfl
theorem rp_bl {K : PySem.W.Frag} {H : Hp} {b : Bool} : Rp K H (.bl b) (.bool b) := ⟨.bl b, rfl, rfl, Nat.le_of_ble_eq_true rfl, Nat.le_of_ble_eq_true rfl⟩
theorem rp_root {K : PySem.W.Frag} {D : Int} {H : Hp} {a : Addr} {t : Int × Int × Int} {n : Nat} (h : RootAt D H a t) (z : Sz n t) (l : n ≤ 1900) : Rp K H (.ref a) (rootD t) := (val_root h z l).rp
theorem okV_of {H : Hp} {x : V} {t : String} (h : tyS H x = some t) (hn : t ≠ "tuple") : OkV H x := ⟨⟨t, h⟩, fun a xs e1 e2 => by
  subst e1
  rw [tyS_tup e2] at h
  exact absurd (Option.some.inj h).symm hn⟩
theorem okV_tup0 {H : Hp} {a : Addr} (h : H a = some (.tup [])) : OkV H (.ref a) := ⟨⟨"tuple", tyS_tup h⟩, fun b xs e1 e2 y hy => by
  cases e1
  rw [h] at e2
  cases e2
  exact absurd hy List.not_mem_nil⟩
theorem tyS_dK {H : Hp} {a : Addr} {kvs : List (Key × V)} (h : H a = some (.dK kvs)) : tyS H (.ref a) = some "dict" := by
  show (match H a with | some (.lst _) => some "list" | some (.tup _) => some "tuple" | some (.dK _) => some "dict" | _ => none) = some "dict"
  rw [h]
theorem rootB_of {D : Int} {H : Hp} {x : V} {t : String} (h : tyS H x = some t) (hn : t ≠ "tuple") : rootB D H x = false := rootB_not (wholes_not h hn)
theorem rootB_tup0 {D : Int} {H : Hp} {a : Addr} (h : H a = some (.tup [])) : rootB D H (.ref a) = false := rootB_not (by rw [wholes_tup h]; rfl)
/-- the empty list beside the empty list -/
theorem ne_nil {K : PySem.W.Frag} {H : Hp} {a b : Addr} {Q : VK} (h1 : H a = some (.lst [])) (h2 : H b = some (.lst [])) (q : Q (.bl false) H) : rNeD K (.ref a) (.ref b) H Q :=
  ⟨.list [], .list [], .lst (SqL.of h1) .nil, .lst (SqL.of h2) .nil, rfl, rfl, q⟩
/-! rules that name the frame themselves, for comprehensions -/
section
variable {X : Cx} {K : PySem.W.Frag}
theorem call_isiK (h : X.K = K) : CallR X (.builtin "isinstance") (rIsi K) := h ▸ call_isi
theorem op_neDK (h : X.K = K) (hu : X.A.units + 64 < cLine) : OpR X (compareOp .NotEq) (rNeD K) := h ▸ op_neD hu
theorem op_eqDK (h : X.K = K) (hu : X.A.units + 64 < cLine) : OpR X (compareOp .Eq) (rEqD K) := h ▸ op_eqD hu
theorem sl_tupK (h : X.K = K) : SlR X (rSlT K) := h ▸ sl_tup
theorem sl_listK (h : X.K = K) : SlR X (rSlL K) := h ▸ sl_list
theorem op_catTK (h : X.K = K) : OpR X (binaryOp .Add) (rCatT K) := h ▸ op_catT
theorem call_list_ofK (h : X.K = K) : CallR X (.type "list") (fun xs H Q => ∃ p ys, xs = [.ref p] ∧ (SqL K H p ys ∨ SqT K H p ys) ∧ ∀ l, H l = none → Q (.ref l) (upd H l (.lst ys))) := h ▸ call_list_of
end
/-- one statement at a time -/
theorem seq_gen {A B : TS} {D : Ends} {σ : SV} {H : Hp} (h : ∀ C : SV → Hp → Prop, (∀ σ H, C σ H = B D σ H) → A { D with nx := C } σ H) : tSeq A B D σ H := h _ fun _ _ => rfl
/-- f() -/
theorem pe_d0 {X : Cx} {k j : Nat} {f : Addr} {fd : FuncData} {ps : List Str} {sp : Sp} {x : Str} {p pos : Pos} (D : DefAt X.prog X.w X.K X.mg X.base k x f fd ps sp) (hr : Room j X.A) (hkj : k ≤ j := by decide) (hg : Gl X x := by rfl) (hdb : (x == ("__debug__" : Str)) = false := by decide) :
    PE X (.Call (.Name x p) [] [] pos) (tD sp tNil) := by
  refine ⟨fun pins s σ H Q I h => ?_⟩
  refine (pe_call0 (dvs := []) D.F (hr.mono hkj) hg D.m D.kp D.b .nil pass0 hdb).run pins s σ H Q I ?_
  have e : (tCall sp [] E0 tNil) = tD sp tNil := by funext a b c; unfold tCall tD; simp only [List.append_nil]
  rw [e]
  exact h
end Kx

set_option Elab.async false
set_option linter.all false
set_option maxRecDepth 100000
set_option maxHeartbeats 4000000
set_option exponentiation.threshold 4000
/-! Cuttings. -/
namespace Kx
open PySem PySem.Spec PyProof.Rows L2
def CutOk (a b c e : Int) : Bool := decide (1 ≤ b) && (decide (1 ≤ c) && (decide (c + e < b) && (decide (0 ≤ a) && (decide (a < gcdI b c) && decide (gcdI (gcdI a (gcdI b c)) e = 1)))))
theorem gcd4 (a b c e : Int) : gcdI (gcdI a b) (gcdI c e) = gcdI (gcdI a (gcdI b c)) e := by
  simp only [gcdI, Int.natAbs_natCast, Nat.gcd_assoc]
def cutB (H : Hp) (x : V) : Bool := wholesB H 4 x && (match x with
  | .ref p => match H p with
    | some (.tup [.int a, .int b, .int c, .int e]) => CutOk a b c e
    | _ => false
  | _ => false)
theorem wholes4 {H : Hp} {x : V} (h : wholesB H 4 x = true) : ∃ p a b c e, x = .ref p ∧ H p = some (.tup [.int a, .int b, .int c, .int e]) := by
  obtain ⟨p, xs, e, ha, hl, hall⟩ := wholes_get h
  have hl4 : xs.length = 4 := by omega
  match xs, hl4 with
  | [u, v, w', y], _ =>
    simp only [List.all_cons, List.all_nil, Bool.and_true, Bool.and_eq_true] at hall
    obtain ⟨h1, h2, h3, h4⟩ := hall
    obtain ⟨i, rfl⟩ := isInt_get h1
    obtain ⟨j, rfl⟩ := isInt_get h2
    obtain ⟨l, rfl⟩ := isInt_get h3
    obtain ⟨m, rfl⟩ := isInt_get h4
    exact ⟨p, i, j, l, m, e, ha⟩
theorem cutB4 {H : Hp} {p : Addr} {a b c e : Int} (h : H p = some (.tup [.int a, .int b, .int c, .int e])) : cutB H (.ref p) = CutOk a b c e := by
  unfold cutB wholesB
  simp only [h, List.length_cons, List.length_nil, List.all_cons, List.all_nil, isIntV, Bool.and_self, Bool.and_true]
  rfl
theorem cutB_not {H : Hp} {x : V} (h : wholesB H 4 x = false) : cutB H x = false := by
  unfold cutB
  rw [h, Bool.false_and]
theorem cutB_same {H H' : Hp} {x : V} (s : Same H H') (h : OkItem H x) : cutB H' x = cutB H x := by
  unfold cutB
  rw [wholesB_same s h]
  cases x with
  | ref a =>
    obtain ⟨o, ho⟩ := h.at
    simp only [ho, s _ _ ho]
  | _ => rfl
abbrev Q4 := Int × Int × Int × Int
def cutV4 (q : Q4) : List V := [.int q.1, .int q.2.1, .int q.2.2.1, .int q.2.2.2]
def okQ (q : Q4) : Bool := CutOk q.1 q.2.1 q.2.2.1 q.2.2.2
def measC (q : Q4) : Int := q.2.2.2 * q.2.2.2 + 4 * q.2.1 * q.2.2.1
structure CutAt (H : Hp) (p : Addr) (q : Q4) : Prop where
  at' : H p = some (.tup (cutV4 q))
  ok : okQ q = true
theorem CutAt.same {H H' : Hp} {p : Addr} {q : Q4} (h : CutAt H p q) (s : Same H H') : CutAt H' p q := ⟨s _ _ h.at', h.ok⟩
theorem okQ_get {q : Q4} (h : okQ q = true) : 1 ≤ q.2.1 ∧ 1 ≤ q.2.2.1 ∧ q.2.2.1 + q.2.2.2 < q.2.1 ∧ 0 ≤ q.1 ∧ q.1 < gcdI q.2.1 q.2.2.1 ∧ gcdI (gcdI q.1 (gcdI q.2.1 q.2.2.1)) q.2.2.2 = 1 := by
  unfold okQ CutOk at h
  simp only [Bool.and_eq_true, decide_eq_true_eq] at h
  exact h
theorem sq_mod4 (e : Int) : (e * e) % 4 = 0 ∨ (e * e) % 4 = 1 := by
  have h : e % 2 = 0 ∨ e % 2 = 1 := by omega
  rcases h with h | h
  · left
    have e1 : e = 2 * (e / 2) := by omega
    rw [e1, show 2 * (e / 2) * (2 * (e / 2)) = 4 * ((e / 2) * (e / 2)) by grind]
    omega
  · right
    have e1 : e = 2 * (e / 2) + 1 := by omega
    rw [e1, show (2 * (e / 2) + 1) * (2 * (e / 2) + 1) = 4 * ((e / 2) * (e / 2) + e / 2) + 1 by grind]
    omega
theorem meas_cut {q : Q4} (h : okQ q = true) : Meas (measC q) := by
  obtain ⟨h1, h2, h3, _⟩ := okQ_get h
  unfold Meas measC
  generalize q.2.1 = b at *
  generalize q.2.2.1 = c at *
  generalize q.2.2.2 = e at *
  have hm := sq_mod4 e
  have hbc : b ≤ b * c := by
    have := Int.mul_le_mul_of_nonneg_left h2 (show 0 ≤ b by omega)
    omega
  have hcb : c ≤ b * c := by
    have := Int.mul_le_mul_of_nonneg_right h1 (show 0 ≤ c by omega)
    omega
  have e1 : 4 * b * c = 4 * (b * c) := Int.mul_assoc 4 b c
  have hee : 0 ≤ e * e := by
    by_cases h : e = 0
    · rw [h]; decide
    · have := xx_pos h; omega
  have he0 : e ≠ 0 → 0 < e * e := xx_pos
  rw [e1]
  refine ⟨?_, by omega⟩
  by_cases he : e = 0
  · subst he
    omega
  · have := he0 he
    omega
def spIsCutting : Sp := fun vs H Q _ => ∃ x, vs = [x] ∧ OkV H x ∧ ∀ H', Same H H' → Q (.bl (cutB H x)) H'
/-- where it is one -/
def spCheckCut0 : Sp := fun vs H Q _ => ∃ (p : Addr) (q : Q4), vs = [.ref p] ∧ CutAt H p q ∧ ∀ H', Same H H' → Q .non H'
def Sz4 (n : Nat) (q : Q4) : Prop := q.1.natAbs < 2 ^ n ∧ q.2.1.natAbs < 2 ^ n ∧ q.2.2.1.natAbs < 2 ^ n ∧ q.2.2.2.natAbs < 2 ^ n
def spMeasureOf0 : Sp := fun vs H Q _ => ∃ (p : Addr) (q : Q4), vs = [.ref p] ∧ CutAt H p q ∧ Sz4 1000 q ∧ ∀ H', Same H H' → Q (.int (measC q)) H'
def spApart : Sp := fun vs H Q _ => ∃ a b c : Int, vs = [.int a, .int b, .int c] ∧ Q (.bl (decide (gcdI (gcdI a b) c = 1))) H
def spWholeRoot0 : Sp := fun vs H Q _ => ∃ D : Int, vs = [.int D] ∧ Meas D ∧ D < 2 ^ 2000 ∧ Q (.int (rt D)) H
def spLawIsCutting : Sp := fun vs H Q _ => ∃ a b c e : Int, vs = [.int a, .int b, .int c, .int e] ∧ Q (.bl (CutOk a b c e)) H
/-- four numbers at an address -/
def spLawMeasure4 : Sp := fun vs H Q _ => ∃ (p : Addr) (q : Q4), vs = [.ref p] ∧ H p = some (.tup (cutV4 q)) ∧ Sz4 1000 q ∧ Q (.int (measC q)) H
theorem cutAt_okV {H : Hp} {p : Addr} {q : Q4} (h : H p = some (.tup (cutV4 q))) : OkV H (.ref p) := by
  refine ⟨⟨"tuple", tyS_tup h⟩, fun b xs e1 e2 y hy => ?_⟩
  cases e1
  rw [h] at e2
  cases e2
  simp only [cutV4, List.mem_cons, List.not_mem_nil, or_false] at hy
  rcases hy with rfl | rfl | rfl | rfl <;> exact ⟨"int", rfl⟩
theorem cutB_q {H : Hp} {p : Addr} {q : Q4} (h : H p = some (.tup (cutV4 q))) : cutB H (.ref p) = okQ q := cutB4 h
theorem meas_sz {q : Q4} {n : Nat} (h : Sz4 n q) : (measC q).natAbs < 2 ^ (2 * n + 4) := by
  obtain ⟨_, h2, h3, h4⟩ := h
  unfold measC
  have w1 : (q.2.2.2 * q.2.2.2).natAbs < 2 ^ (2 * n + 3) := up (wide_lt h4 h4) (by omega)
  have w2 : (4 * q.2.1 * q.2.2.1).natAbs < 2 ^ (2 * n + 3) := up (wide_lt (wide_lt (show (4 : Int).natAbs < 2 ^ 3 by decide) h2) h3) (by omega)
  exact sz_add w1 w2
end Kx
namespace Kx
open PySem PySem.Spec PyProof.Rows L2
def spDrawnCut : Sp := fun vs H Q _ => ∃ (g : Addr) (n : Int) (k : Nat), vs = [.ref g, .int n] ∧ GenAt H g k ∧ k ≤ 2 ^ 39 ∧ 1 ≤ n ∧ n ≤ 10 ^ 15 ∧
  ∀ (q : Q4) (p : Addr) (H' : Hp), Sz4 70 q → H p = none → H' p = some (.tup (cutV4 q)) → GenAt H' g (k + 200) → Keep g H H' → Q (.ref p) H'
def spRootRight : Sp := fun vs H Q _ => ∃ D : Int, vs = [.int D] ∧ Meas D ∧ D < 2 ^ 1000 ∧ Q (.bl true) H
def spGreat : Sp := fun vs H Q _ => vs = [] ∧ ∀ H', Same H H' → Q (.bl true) H'
def spFour (n : Nat) : Sp := fun vs H Q _ => ∃ (p : Addr) (q : Q4), vs = [.ref p] ∧ H p = some (.tup (cutV4 q)) ∧ Sz4 n q ∧ ∀ H', Same H H' → Q (.bl true) H'
end Kx
namespace Kx
open PySem PySem.Spec PyProof.Rows L2
def setQ (q : Q4) (i : Nat) (v : V) : List V := (cutV4 q).set i v
theorem bend {K : PySem.W.Frag} {H : Hp} {p : Addr} {q : Q4} {i : Nat} {v : V} {Qf : VK} (hp : H p = some (.tup (cutV4 q))) (hi : i < 4) (k : ∀ r H', Same H H' → H' r = some (.tup (setQ q i v)) → Qf (.ref r) H') :
    rSlA K (.ref p) none (some (0 + (i : Int))) H fun x H1 => 1 ≤ sizeLine ∧ ∀ p1, H1 p1 = none → rCatA K x (.ref p1) (upd H1 p1 (.tup [v])) fun y H2 => rSlA K (.ref p) (some (0 + (i : Int) + 1)) none H2 fun z H3 => rCatA K y z H3 Qf := by
  rcases (show i = 0 ∨ i = 1 ∨ i = 2 ∨ i = 3 by omega) with rfl | rfl | rfl | rfl
  · refine ⟨p, cutV4 q, rfl, SqT.of hp, fun h => absurd h (show ¬ (HT.sIx 4 0 none = 0 ∧ HT.sIx 4 4 (some (0 + ((0 : Nat) : Int))) = 4) by decide), fun _ a na => ⟨by decide, fun b nb => ?_⟩⟩
    rw [show cutV (cutV4 q) none (some (0 + ((0 : Nat) : Int))) = [] from rfl] at nb ⊢
    have ea : (upd (upd H a (.tup [])) b (.tup [v])) a = some (.tup []) := (Same.upd nb) _ _ upd_same
    have eb : (upd (upd H a (.tup [])) b (.tup [v])) b = some (.tup [v]) := upd_same
    have s1 : Same H (upd (upd H a (.tup [])) b (.tup [v])) := (Same.upd na).trans (Same.upd nb)
    generalize upd (upd H a (.tup [])) b (.tup [v]) = h1 at *
    have rest : ∀ (r : Addr) (h2 : Hp), Same H h2 → h2 r = some (.tup [v]) → rSlA K (.ref p) (some (0 + ((0 : Nat) : Int) + 1)) none h2 fun z H3 => rCatA K (.ref r) z H3 Qf := by
      intro r h2 s2 er
      refine ⟨p, cutV4 q, rfl, SqT.of (s2 _ _ hp), fun h => absurd h (show ¬ (HT.sIx 4 0 (some (0 + ((0 : Nat) : Int) + 1)) = 0 ∧ HT.sIx 4 4 none = 4) by decide), fun _ c nc => ?_⟩
      rw [show cutV (cutV4 q) (some (0 + ((0 : Nat) : Int) + 1)) none = [V.int q.2.1, V.int q.2.2.1, V.int q.2.2.2] from rfl]
      refine ⟨r, c, [v], [V.int q.2.1, V.int q.2.2.1, V.int q.2.2.2], rfl, rfl, SqT.of ((Same.upd nc) _ _ er), SqT.of upd_same, (show 4 ≤ sizeLine by decide), fun h => absurd h (by simp), ?_, ?_⟩
      · exact fun _ h => absurd h (by simp)
      · exact fun _ _ d nd => k d _ ((s2.trans (Same.upd nc)).trans (Same.upd nd)) upd_same
    exact ⟨a, b, [], [v], rfl, rfl, SqT.of ea, SqT.of eb, (show 1 ≤ sizeLine by decide), fun _ => rest b _ s1 eb, fun h => absurd rfl h, fun h => absurd rfl h⟩
  · refine ⟨p, cutV4 q, rfl, SqT.of hp, fun h => absurd h (show ¬ (HT.sIx 4 0 none = 0 ∧ HT.sIx 4 4 (some (0 + ((1 : Nat) : Int))) = 4) by decide), fun _ a na => ⟨by decide, fun b nb => ?_⟩⟩
    rw [show cutV (cutV4 q) none (some (0 + ((1 : Nat) : Int))) = [V.int q.1] from rfl] at nb ⊢
    have ea : (upd (upd H a (.tup [V.int q.1])) b (.tup [v])) a = some (.tup [V.int q.1]) := (Same.upd nb) _ _ upd_same
    have eb : (upd (upd H a (.tup [V.int q.1])) b (.tup [v])) b = some (.tup [v]) := upd_same
    have s1 : Same H (upd (upd H a (.tup [V.int q.1])) b (.tup [v])) := (Same.upd na).trans (Same.upd nb)
    generalize upd (upd H a (.tup [V.int q.1])) b (.tup [v]) = h1 at *
    have rest : ∀ (r : Addr) (h2 : Hp), Same H h2 → h2 r = some (.tup [V.int q.1, v]) → rSlA K (.ref p) (some (0 + ((1 : Nat) : Int) + 1)) none h2 fun z H3 => rCatA K (.ref r) z H3 Qf := by
      intro r h2 s2 er
      refine ⟨p, cutV4 q, rfl, SqT.of (s2 _ _ hp), fun h => absurd h (show ¬ (HT.sIx 4 0 (some (0 + ((1 : Nat) : Int) + 1)) = 0 ∧ HT.sIx 4 4 none = 4) by decide), fun _ c nc => ?_⟩
      rw [show cutV (cutV4 q) (some (0 + ((1 : Nat) : Int) + 1)) none = [V.int q.2.2.1, V.int q.2.2.2] from rfl]
      refine ⟨r, c, [V.int q.1, v], [V.int q.2.2.1, V.int q.2.2.2], rfl, rfl, SqT.of ((Same.upd nc) _ _ er), SqT.of upd_same, (show 4 ≤ sizeLine by decide), fun h => absurd h (by simp), ?_, ?_⟩
      · exact fun _ h => absurd h (by simp)
      · exact fun _ _ d nd => k d _ ((s2.trans (Same.upd nc)).trans (Same.upd nd)) upd_same
    exact ⟨a, b, [V.int q.1], [v], rfl, rfl, SqT.of ea, SqT.of eb, (show 2 ≤ sizeLine by decide), fun h => absurd h (by simp), fun _ h => absurd h (by simp), fun _ _ r nr => rest r _ (s1.trans (Same.upd nr)) upd_same⟩
  · refine ⟨p, cutV4 q, rfl, SqT.of hp, fun h => absurd h (show ¬ (HT.sIx 4 0 none = 0 ∧ HT.sIx 4 4 (some (0 + ((2 : Nat) : Int))) = 4) by decide), fun _ a na => ⟨by decide, fun b nb => ?_⟩⟩
    rw [show cutV (cutV4 q) none (some (0 + ((2 : Nat) : Int))) = [V.int q.1, V.int q.2.1] from rfl] at nb ⊢
    have ea : (upd (upd H a (.tup [V.int q.1, V.int q.2.1])) b (.tup [v])) a = some (.tup [V.int q.1, V.int q.2.1]) := (Same.upd nb) _ _ upd_same
    have eb : (upd (upd H a (.tup [V.int q.1, V.int q.2.1])) b (.tup [v])) b = some (.tup [v]) := upd_same
    have s1 : Same H (upd (upd H a (.tup [V.int q.1, V.int q.2.1])) b (.tup [v])) := (Same.upd na).trans (Same.upd nb)
    generalize upd (upd H a (.tup [V.int q.1, V.int q.2.1])) b (.tup [v]) = h1 at *
    have rest : ∀ (r : Addr) (h2 : Hp), Same H h2 → h2 r = some (.tup [V.int q.1, V.int q.2.1, v]) → rSlA K (.ref p) (some (0 + ((2 : Nat) : Int) + 1)) none h2 fun z H3 => rCatA K (.ref r) z H3 Qf := by
      intro r h2 s2 er
      refine ⟨p, cutV4 q, rfl, SqT.of (s2 _ _ hp), fun h => absurd h (show ¬ (HT.sIx 4 0 (some (0 + ((2 : Nat) : Int) + 1)) = 0 ∧ HT.sIx 4 4 none = 4) by decide), fun _ c nc => ?_⟩
      rw [show cutV (cutV4 q) (some (0 + ((2 : Nat) : Int) + 1)) none = [V.int q.2.2.2] from rfl]
      refine ⟨r, c, [V.int q.1, V.int q.2.1, v], [V.int q.2.2.2], rfl, rfl, SqT.of ((Same.upd nc) _ _ er), SqT.of upd_same, (show 4 ≤ sizeLine by decide), fun h => absurd h (by simp), ?_, ?_⟩
      · exact fun _ h => absurd h (by simp)
      · exact fun _ _ d nd => k d _ ((s2.trans (Same.upd nc)).trans (Same.upd nd)) upd_same
    exact ⟨a, b, [V.int q.1, V.int q.2.1], [v], rfl, rfl, SqT.of ea, SqT.of eb, (show 3 ≤ sizeLine by decide), fun h => absurd h (by simp), fun _ h => absurd h (by simp), fun _ _ r nr => rest r _ (s1.trans (Same.upd nr)) upd_same⟩
  · refine ⟨p, cutV4 q, rfl, SqT.of hp, fun h => absurd h (show ¬ (HT.sIx 4 0 none = 0 ∧ HT.sIx 4 4 (some (0 + ((3 : Nat) : Int))) = 4) by decide), fun _ a na => ⟨by decide, fun b nb => ?_⟩⟩
    rw [show cutV (cutV4 q) none (some (0 + ((3 : Nat) : Int))) = [V.int q.1, V.int q.2.1, V.int q.2.2.1] from rfl] at nb ⊢
    have ea : (upd (upd H a (.tup [V.int q.1, V.int q.2.1, V.int q.2.2.1])) b (.tup [v])) a = some (.tup [V.int q.1, V.int q.2.1, V.int q.2.2.1]) := (Same.upd nb) _ _ upd_same
    have eb : (upd (upd H a (.tup [V.int q.1, V.int q.2.1, V.int q.2.2.1])) b (.tup [v])) b = some (.tup [v]) := upd_same
    have s1 : Same H (upd (upd H a (.tup [V.int q.1, V.int q.2.1, V.int q.2.2.1])) b (.tup [v])) := (Same.upd na).trans (Same.upd nb)
    generalize upd (upd H a (.tup [V.int q.1, V.int q.2.1, V.int q.2.2.1])) b (.tup [v]) = h1 at *
    have rest : ∀ (r : Addr) (h2 : Hp), Same H h2 → h2 r = some (.tup [V.int q.1, V.int q.2.1, V.int q.2.2.1, v]) → rSlA K (.ref p) (some (0 + ((3 : Nat) : Int) + 1)) none h2 fun z H3 => rCatA K (.ref r) z H3 Qf := by
      intro r h2 s2 er
      refine ⟨p, cutV4 q, rfl, SqT.of (s2 _ _ hp), fun h => absurd h (show ¬ (HT.sIx 4 0 (some (0 + ((3 : Nat) : Int) + 1)) = 0 ∧ HT.sIx 4 4 none = 4) by decide), fun _ c nc => ?_⟩
      rw [show cutV (cutV4 q) (some (0 + ((3 : Nat) : Int) + 1)) none = [] from rfl]
      refine ⟨r, c, [V.int q.1, V.int q.2.1, V.int q.2.2.1, v], [], rfl, rfl, SqT.of ((Same.upd nc) _ _ er), SqT.of upd_same, (show 4 ≤ sizeLine by decide), fun h => absurd h (by simp), ?_, ?_⟩
      · exact fun _ _ => k r _ (s2.trans (Same.upd nc)) ((Same.upd nc) _ _ er)
      · exact fun _ h => absurd rfl h
    exact ⟨a, b, [V.int q.1, V.int q.2.1, V.int q.2.2.1], [v], rfl, rfl, SqT.of ea, SqT.of eb, (show 4 ≤ sizeLine by decide), fun h => absurd h (by simp), fun _ h => absurd h (by simp), fun _ _ r nr => rest r _ (s1.trans (Same.upd nr)) upd_same⟩
def setZ (q : Q4) : Nat → Int → Q4
  | 0, n => (n, q.2.1, q.2.2.1, q.2.2.2)
  | 1, n => (q.1, n, q.2.2.1, q.2.2.2)
  | 2, n => (q.1, q.2.1, n, q.2.2.2)
  | _, n => (q.1, q.2.1, q.2.2.1, n)
theorem setQ_int {q : Q4} {i : Nat} {n : Int} (hi : i < 4) : setQ q i (.int n) = cutV4 (setZ q i n) := by
  rcases (show i = 0 ∨ i = 1 ∨ i = 2 ∨ i = 3 by omega) with rfl | rfl | rfl | rfl <;> rfl
theorem setZ_sz {q : Q4} {i : Nat} {n : Int} {m : Nat} (z : Sz4 m q) (hn : n.natAbs < 2 ^ m) : Sz4 m (setZ q i n) := by
  obtain ⟨z1, z2, z3, z4⟩ := z
  unfold setZ
  split
  · exact ⟨hn, z2, z3, z4⟩
  · exact ⟨z1, hn, z3, z4⟩
  · exact ⟨z1, z2, hn, z4⟩
  · exact ⟨z1, z2, z3, hn⟩
theorem Sz4.up {n m : Nat} {q : Q4} (h : Sz4 n q) (l : n ≤ m) : Sz4 m q := ⟨Kx.up h.1 l, Kx.up h.2.1 l, Kx.up h.2.2.1 l, Kx.up h.2.2.2 l⟩
/-- a tuple with an odd item is none -/
theorem setQ_odd {H : Hp} {r : Addr} {q : Q4} {i : Nat} {v : V} (hi : i < 4) (h : H r = some (.tup (setQ q i v))) (hv : isIntV v = false) : cutB H (.ref r) = false := by
  refine cutB_not ?_
  rw [wholes_tup h]
  have : (setQ q i v).all isIntV = false := by
    rcases (show i = 0 ∨ i = 1 ∨ i = 2 ∨ i = 3 by omega) with rfl | rfl | rfl | rfl <;> (simp [setQ, cutV4, isIntV]; exact hv)
  rw [this, Bool.and_false]
theorem setQ_ok {H : Hp} {r : Addr} {q : Q4} {i : Nat} {v : V} (hi : i < 4) (h : H r = some (.tup (setQ q i v))) (hv : OkItem H v) : OkV H (.ref r) := by
  refine ⟨⟨"tuple", tyS_tup h⟩, fun b xs e1 e2 y hy => ?_⟩
  cases e1
  rw [h] at e2
  cases e2
  have hm : y = v ∨ y ∈ cutV4 q := by
    rcases List.mem_or_eq_of_mem_set hy with h | h
    · exact .inr h
    · exact .inl h
  rcases hm with rfl | hm
  · exact hv
  · simp only [cutV4, List.mem_cons, List.not_mem_nil, or_false] at hm
    rcases hm with rfl | rfl | rfl | rfl <;> exact ⟨"int", rfl⟩
end Kx
namespace Kx
open PySem PySem.Spec PyProof.Rows L2
theorem cutB_of {H : Hp} {x : V} {t : String} (h : tyS H x = some t) (hn : t ≠ "tuple") : cutB H x = false := cutB_not (wholes_not h hn)
theorem cutB_len {H : Hp} {a : Addr} {xs : List V} (h : H a = some (.tup xs)) (hl : xs.length ≠ 4) : cutB H (.ref a) = false := cutB_not (by
  rw [wholes_tup h, decide_eq_false (by omega), Bool.false_and])
theorem okV_tup {H : Hp} {a : Addr} {xs : List V} (h : H a = some (.tup xs)) (hi : ∀ y ∈ xs, OkItem H y) : OkV H (.ref a) := ⟨⟨"tuple", tyS_tup h⟩, fun b ys e1 e2 y hy => by
  cases e1
  rw [h] at e2
  cases e2
  exact hi y hy⟩
theorem shaped_ints (ns : List Int) : SeqAt.shaped (.list (ns.map PyData.int)) = true := flat_shaped fun d hd => by
  obtain ⟨n, _, rfl⟩ := List.mem_map.mp hd
  exact ⟨rfl, Nat.le_of_ble_eq_true rfl⟩
end Kx
namespace Kx
open PySem PySem.Spec PyProof.Rows L2
theorem eq_nil {K : PySem.W.Frag} {H : Hp} {a b : Addr} {Q : VK} (h1 : H a = some (.lst [])) (h2 : H b = some (.lst [])) (q : Q (.bl true) H) : rEqD K (.ref a) (.ref b) H Q :=
  ⟨.list [], .list [], .lst (SqL.of h1) .nil, .lst (SqL.of h2) .nil, rfl, rfl, q⟩
end Kx
namespace Kx
open PySem PySem.Spec PyProof.Rows L2
theorem dpAll_bools {K : PySem.W.Frag} {H : Hp} : ∀ bs : List Bool, DpAll K H (bs.map V.bl) (bs.map PyData.bool)
  | [] => .nil
  | b :: bs => .cons (.bl b) (dpAll_bools bs)
theorem shaped_bools (bs : List Bool) : SeqAt.shaped (.list (bs.map PyData.bool)) = true := flat_shaped fun d hd => by
  obtain ⟨n, _, rfl⟩ := List.mem_map.mp hd
  exact ⟨rfl, Nat.le_of_ble_eq_true rfl⟩
theorem ne_bools {K : PySem.W.Frag} {H : Hp} {a b : Addr} {Q : VK} (bs : List Bool) (h1 : H a = some (.lst (bs.map V.bl))) (h2 : H b = some (.lst (bs.map V.bl))) (q : Q (.bl false) H) : rNeD K (.ref a) (.ref b) H Q :=
  ⟨_, _, .lst (SqL.of h1) (dpAll_bools bs), .lst (SqL.of h2) (dpAll_bools bs), shaped_bools bs, shaped_bools bs, by rw [eqv_same (shaped_bools bs)]; exact q⟩
end Kx

set_option Elab.async false
set_option linter.all false
set_option maxRecDepth 100000
set_option maxHeartbeats 4000000
set_option exponentiation.threshold 4000
/-! Caught errors that are kept behind their clause. -/
namespace Kx
open PySem PySem.Spec PyProof.Rows L2
/-- an exception object at a: its class, its dict -/
def ExK (cls : Value) (d : Option Addr) (a : Addr) : HO := .ext fun h => ∃ (oe : Obj) (vs : Array Value), h.get? a = some oe ∧ Zc cls d oe ∧ oe.data = .fields vs
theorem exK_ok {P : Program} {w : World} {H : Hp} {h : Heap} {a : Addr} {cls : Value} {d : Option Addr} {oe : Obj} {vs : Array Value} (e : h.get? a = some oe) (z : Zc cls d oe) (dd : oe.data = .fields vs) : ObjOk P w H h a (ExK cls d a) :=
  ⟨⟨oe, vs, e, z, dd⟩, ⟨oe, e⟩, fun _ _ ⟨o, v, q, r⟩ k => ⟨o, v, k o q, r⟩⟩
theorem exK_at {P : Program} {w : World} {H : Hp} {h : Heap} {a : Addr} {cls : Value} {d : Option Addr} (hok : HOk P w H h) (e : H a = some (ExK cls d a)) : ∃ (oe : Obj) (vs : Array Value), h.get? a = some oe ∧ Zc cls d oe ∧ oe.data = .fields vs := by
  have x : ObjOk P w H h a (.ext fun h => ∃ (oe : Obj) (vs : Array Value), h.get? a = some oe ∧ Zc cls d oe ∧ oe.data = .fields vs) := hok a _ e
  exact x.1
section
variable {X : Cx} {pins : List (Addr × Obj)} {σ : SV} {H : Hp} {s : Shared}
theorem inv_suite0 (I : Inv X pins σ H s) (a : Addr) : Inv (X.suite a (X.pn ++ pins)) [] σ H s :=
  ⟨I.ok.suite _ _, I.os, I.bare, I.base, I.loc, I.cell, I.free, I.freeC, fun p hp => I.pin p (by rw [List.append_nil] at hp; exact hp), I.hok, I.len⟩
theorem inv_unsuite0 {a : Addr} {pn' : List (Addr × Obj)} (I : Inv (X.suite a (X.pn ++ pins)) pn' σ H s) (ok : X.Ok) : Inv X pins σ H s :=
  ⟨ok, I.os, I.bare, I.base, I.loc, I.cell, I.free, I.freeC, fun p hp => I.pin p (List.mem_append_left _ hp), I.hok, I.len⟩
end
/-- what the clause 'except x as n' wishes where the exception stays tracked -/
def wKeep (K : PySem.W.Frag) (c : Value) (i : Nat) (ts : Addr → Value → Option Addr → TS) (Wout : WX) (D : Ends) : WX := fun cls d σ H =>
  ∃ b, PySem.W.exmOne K cls c = some b ∧ (b = true → ∀ a, H a = none → ts a cls d { nx := fun σ' H' => D.nx (σ'.set i none) H', rt := D.rt, bk := fun σ' H' => D.bk (σ'.set i none) H', ct := fun σ' H' => D.ct (σ'.set i none) H' } (σ.set i (some (.ref a))) (upd H a (ExK cls d a))) ∧
    (b = false → Wout cls d σ H)
section
variable {X : Cx} {x n : Str} {c : Value} {i : Nat} {body suite : List Stmt} {b₀ : Stmt} {np pos pos' : Pos} {tb : WX → TS} {ts : Addr → Value → Option Addr → TS} {Wout : WX}
theorem ps_try_keep (hs : X.stack = X.env :: X.outer) (hf : X.env.frame = some X.env.locals) (hN : X.N.Nodup) (hi : X.N[i]? = some n) (hln : X.env.kindOf n = some .local) (hc : Names X x c) (tk : Takes X Wout)
    (hb : ∀ (W : WX) (pn : List (Addr × Obj)) (xe : Value → Shared → Prop), Takes (X.tr pn xe) W → PassesOwn (model X.prog X.w) X.A X.env xe → PSs (X.tr pn xe) body (tb W))
    (hsu : ∀ (a : Addr) (cls : Value) (d : Option Addr) (pn : List (Addr × Obj)), PSs (X.suite a pn) (b₀ :: suite) (ts a cls d)) :
    PS X (.Try body [.ExceptHandler (some (.Name x np)) (some n) (b₀ :: suite) pos'] [] [] pos) (fun D σ H => tb (wKeep X.K c i ts Wout D) D σ H) := by
  refine ⟨fun pins s σ H D I h => ?_⟩
  have ok := I.ok
  have hfr : X.A.frames = some (X.env :: X.outer) := by rw [ok.frames, hs]
  have hloc : Loc X.env.scope n := .inl hln
  refine wpAny_Try_except ?_
  refine wpAny_mono ((hb (wKeep X.K c i ts Wout D) (X.pn ++ pins) (fun e s₁ => wpAny (model X.prog X.w) X.A (noteFrame e X.env) (fun _ s₂ => wpAny (model X.prog X.w) X.A (setFlight e none) (fun _ s₃ =>
    wpAny (model X.prog X.w) X.A (handleBy e X.env [.ExceptHandler (some (.Name x np)) (some n) (b₀ :: suite) pos']) (SP X pins D) X.xe s₃) X.xe s₂) X.xe s₁) (fun u s' xx => ?_) PassesOwn.looking).run [] s σ H D (I.toTry _) h) (fun f s1 hsp => ?_) (fun e s1 he => he)
  · -- the catch
    obtain ⟨a, B, sI, pins', σ', H', cls, d, rfl, J', nb, up, sky, na, os, ag, b, hb1, hyes, hno⟩ := xx
    have J : Inv X pins σ' H' sI := J'.ofTry ok
    have sky' : Sky B (X.env :: X.outer) a (Zc cls d) X.env.locals s'.heap := by rw [← hs]; exact sky
    show wpAny (model X.prog X.w) X.A (noteFrame (.ref a) X.env) _ _ _
    refine Sky.land Zc.steady hfr hf sky' fun h3 fl3 up3 => ?_
    have J3 : Inv X pins σ' H' { s' with heap := h3 } := J.landed nb fl3.1 (up.trans up3) os ag
    obtain ⟨oe3, vs3, he3, hz3, hd3⟩ := fl3.there
    have notFr : ∀ {h : Heap} {o : Obj} {vs : Array Value}, h.FunFrames B (X.env :: X.outer) → h.get? a = some o → o.data = .fields vs → a ∉ frs (X.env :: X.outer) := fun {h o vs} ff e dd hm => by
      obtain ⟨_, o', e', hnf⟩ := ff.mem hm
      rw [e] at e'; cases e'
      exact hnf _ dd
    have nfr := notFr fl3.2.2.1 he3 hd3
    have nL : a ≠ X.env.locals := fun z => nfr (List.mem_filterMap.mpr ⟨X.env, List.mem_cons_self, by rw [hf, z]⟩)
    have nF : a ∉ X.fs := fun hm => by
      obtain ⟨e, he, q⟩ := List.mem_filterMap.mp hm
      exact nfr (List.mem_filterMap.mpr ⟨e, List.mem_cons_of_mem _ he, q⟩)
    have S3 := J3.suite he3 hd3 na nL nF
    refine wpAny_handleBy_cons (codeAny_handlers_test ?_) (by intro q; cases q)
    have LT : PySem.W.Looks (model X.prog X.w) h3 (typeOf (.ref a)) cls := fun A Q E s k q => wpAny_typeOf_ref (k _ _ he3) (by rw [hz3.1]; exact q)
    have LM := PySem.W.exm_one (M := model X.prog X.w) (J3.kIn) LT hb1
    have test : ∀ {Q : Value → Shared → Prop} {E : Value → Shared → Prop}, Q c { s' with heap := h3 } → wpAny (model X.prog X.w) (X.A.mark (some (.ref a))) (eval (.Name x np) X.env) Q E { s' with heap := h3 } := fun {Q E} q => by
      obtain ⟨hg, hdbg, hm | ⟨hm, hv, hnn⟩⟩ := hc
      · exact ld_glob (X := X.suite a ((a, oe3) :: (X.pn ++ pins))) S3 hg hm q hdbg
      · exact ld_blt (X := X.suite a ((a, oe3) :: (X.pn ++ pins))) S3 hg hm hv q hnn hdbg
    refine test (LM.here ?_)
    cases b with
    | true =>
      refine codeAny_handlers_suite_as ?_
      refine HandSPX.lands_againZ fl3 fun h4 fl4 up4 => ?_
      obtain ⟨oe4, vs4, he4, hz4, hd4⟩ := fl4.there
      have nB : B.get? a = none := fl4.2.1
      have nI : sI.heap.get? a = none := by
        cases e : sI.heap.get? a with
        | none => rfl
        | some o =>
          have hnfr : a ∉ frs X.stack := by rw [hs]; exact nfr
          have z := nb a o e hnfr
          rw [nB] at z
          cases z
      obtain ⟨G, g1, g2⟩ := restrict h4 fun b => decide (b ≠ a)
      have gk : ∀ b, b ≠ a → G.get? b = h4.get? b := fun b hb => g1 b (decide_eq_true hb)
      have ga : G.get? a = none := g2 a (by simp)
      have gs : ∀ b o, G.get? b = some o → h4.get? b = some o := fun b o e => by
        by_cases hb : b = a
        · rw [hb, ga] at e
          cases e
        · rw [← gk b hb]
          exact e
      have stG : B.StaysIn G := fun b o e => by
        have hb : b ≠ a := fun z => by
          rw [z, nB] at e
          cases e
        rw [gk b hb]
        exact fl4.1 b o e
      have upG : sI.heap.UpToSlots G := fun b o e hnd => by
        have hb : b ≠ a := fun z => by
          rw [z, nI] at e
          cases e
        obtain ⟨sl, q⟩ := ((up.trans up3).trans up4) b o e hnd
        exact ⟨sl, by rw [gk b hb]; exact q⟩
      have JG : Inv X pins σ' H' { s' with heap := G } := J.landed (s' := { s' with heap := G }) nb stG upG os ag
      have J4 : Inv X pins σ' (upd H' a (ExK cls d a)) { s' with heap := h4 } := Inv.laidN (s := { s' with heap := G }) (t' := s'.toks) JG gs ga na (exK_ok he4 hz4 hd4)
      have S4 := inv_suite0 J4 a
      refine store_ok (X := X.suite a (X.pn ++ pins)) (v := .ref a) S4 hN hi hloc rfl (fun s5 S5 => ?_) (.inr hln)
      refine wpAny_mono ((hsu a cls d (X.pn ++ pins)).run [] s5 _ _ _ S5 (hyes rfl a na)) (fun f s6 hsp => ?_) (fun _ _ z => False.elim z)
      have end_ : ∀ {σ6 : SV} {H6 : Hp} {Q : Shared → Prop}, Inv (X.suite a (X.pn ++ pins)) [] σ6 H6 s6 → (∀ s7, Inv X pins (σ6.set i none) H6 s7 → Q s7) →
          wpAny (model X.prog X.w) X.A (do bindName X.env n .none; unbindBehindTheSuite X.env n pos') (fun _ s7 => Q s7) X.xe s6 := fun {σ6 H6 Q} S6 hq => gone_ok (inv_unsuite0 S6 ok) hN hi hln hq
      cases f with
      | next =>
        obtain ⟨σ6, H6, S6, q6⟩ := hsp
        exact end_ S6 fun s7 J7 => ⟨_, _, J7, q6⟩
      | brk =>
        obtain ⟨σ6, H6, S6, q6⟩ := hsp
        exact end_ S6 fun s7 J7 => ⟨_, _, J7, q6⟩
      | cont =>
        obtain ⟨σ6, H6, S6, q6⟩ := hsp
        exact end_ S6 fun s7 J7 => ⟨_, _, J7, q6⟩
      | ret u =>
        obtain ⟨v6, σ6, H6, S6, r6, q6⟩ := hsp
        exact end_ S6 fun s7 J7 => ⟨_, _, _, J7, r6, q6⟩
    | false =>
      show wpAny _ X.A (handleBy (.ref a) X.env []) _ _ _
      refine wpAny_handleBy_nil ?_
      obtain ⟨k1, k2, k3, oe, vs, T, oT, ts', he, hz, hd, h1, hr⟩ := id fl3
      unfold PySem.passOn
      refine wpAny_bind (wpAny_field he hd h1 ?_)
      rw [if_neg (show ¬ ((Value.ref T == Value.none) = true) from by simp)]
      have fin : wpAny (model X.prog X.w) X.A (setFlight (.ref a) X.env.frame) (fun _ s4 => wpAny (model X.prog X.w) X.A (throw (.ref a) : Sem Flow) (SP X pins D) X.xe s4) X.xe { s' with heap := h3 } := by
        rw [hf]
        refine HandSPX.setFlight_upZ fl3 fun h4 hh4 up4 => wpAny_throw (tk _ _ ?_)
        exact ⟨a, B, sI, pins, σ', H', cls, d, rfl, J, nb, (up.trans up3).trans up4, .inr (.inr (by rw [hs]; exact hh4)), na, os, ag, hno rfl⟩
      first
        | exact wpAny_bind (wpAny_pure (wpAny_bind fin))
        | exact wpAny_bind fin
  · cases f with
    | next =>
      obtain ⟨σ', H', J', q⟩ := hsp
      exact wpAny_execs_nil ⟨σ', H', J'.ofTry ok, q⟩
    | brk =>
      obtain ⟨σ', H', J', q⟩ := hsp
      exact ⟨σ', H', J'.ofTry ok, q⟩
    | cont =>
      obtain ⟨σ', H', J', q⟩ := hsp
      exact ⟨σ', H', J'.ofTry ok, q⟩
    | ret u =>
      obtain ⟨v, σ', H', J', r, q⟩ := hsp
      exact ⟨v, σ', H', J'.ofTry ok, r, q⟩
end
/-! ### what is asked of a kept exception -/
/-- isinstance(e, c) -/
def rIsK (K : PySem.W.Frag) : List V → Hp → VK → Prop := fun xs H Q => ∃ (a D : Addr) (dd : Addr) (fs : List (Str × V)) (c : V) (cv : Value) (b : Bool), xs = [.ref a, c] ∧ H a = some (ExK (.ref D) (some dd) a) ∧ H dd = some (.xd fs) ∧ L2.ExcC K D ∧ (∀ u, RelV c u → u = cv) ∧ PySem.W.kitOne K (.ref D) cv = some b ∧ Q (.bl b) H
theorem call_isK {X : Cx} : CallR X (.builtin "isinstance") (rIsK X.K) := by
  intro pins s σ H xs us Q I r h
  obtain ⟨a, D, dd, fs, c, cv, b, rfl, ha, hdd, C, hcv, e, q⟩ := h
  cases r with
  | cons rx rr =>
    cases rr with
    | cons rt rr =>
      cases rr
      cases rx
      have ec := hcv _ rt
      subst ec
      obtain ⟨oe, vs, hget, hz, hv⟩ := exK_at I.hok ha
      have hx : ObjOk X.prog X.w H s.heap dd (.xd fs) := I.hok dd _ hdd
      obtain ⟨mA, hns, hr⟩ := hx
      obtain ⟨od, ho, hl⟩ := lookIn_ns hns
      have J : PySem.W.InstAt s.heap a oe D (some od) := ⟨hget, hz.1, by unfold PySem.W.notCls; rw [hv] <;> rfl, by rw [hz.2]; exact ho⟩
      obtain ⟨cd, hcd, _⟩ := PySem.W.any_some C.hd
      exact PySem.W.kia_one (PySem.W.kitx_exc (by rw [hcd]; rfl) C.hg C.hk C.hs C.ha C.hn C.ht C.hm) I.kIn J e (fun z => nomatch z) fun tk => ⟨.bl b, H, I.kept (t' := tk) fun _ _ z => z, rfl, q⟩
/-- e.f -/
def tXk (K : PySem.W.Frag) (f : Str) (te : TE) : TE := fun σ H Q => te σ H fun x H1 => ∃ (a C dd : Addr) (fs : List (Str × V)) (v : V), x = .ref a ∧ H1 a = some (ExK (.ref C) (some dd) a) ∧ XfC K C ∧ PySem.W.findIn K (.ref C) f = some none ∧ H1 dd = some (.xd fs) ∧ fs.lookup f = some v ∧ Q v H1
theorem pe_xk {X : Cx} {e : Expr} {te : TE} {pos : Pos} {n : Str} (he : PE X e te) (hb : attributeBase e n X.env (eval e X.env) = eval e X.env := by rfl) : PE X (.Attribute e n pos) (tXk X.K n te) := by
  refine ⟨fun pins s σ H Q I h => ?_⟩
  refine attr_of hb (thn (he.run pins s σ H _ I h) fun u s1 hh => ?_)
  obtain ⟨x, H1, I1, rx, a, C, dd, fs, v, ex, ha, T, hno, ea, l, q⟩ := hh
  subst ex
  obtain rfl : u = Value.ref a := rx
  obtain ⟨oe, vs, hget, hz, hd⟩ := exK_at I1.hok ha
  have hx : ObjOk X.prog X.w H1 s1.heap dd (.xd fs) := I1.hok dd _ ea
  obtain ⟨mA, hns, hr⟩ := hx
  obtain ⟨od, ho, hl⟩ := lookIn_ns hns
  obtain ⟨u, hu, ru⟩ := RelO.some_of (v := v) (o := mA n) (by rw [← l]; exact hr n)
  have J : PySem.W.InstAt s1.heap a oe C (some od) := ⟨hget, hz.1, by unfold PySem.W.notCls; rw [hd] <;> rfl, by rw [hz.2]; exact ho⟩
  exact HandSPX.exc_get I1.kIn J T.ga T.gg T.exC (PySem.W.findObj_own T.hdC hno rfl (by rw [hl, hu])) (handed_of ru) ⟨v, H1, I1.tok _, ru, q⟩
end Kx
namespace Kx
open PySem PySem.Spec PyProof.Rows L2
def tMono (t : TA) : TA := fun σ H Q => ∃ Q0 : List V → Hp → Prop, t σ H Q0 ∧ ∀ vs H1, Q0 vs H1 → Q vs H1
theorem pa_mono {X : Cx} {es : List Expr} {t : TA} (h : PA X es t) : PA X es (tMono t) := ⟨fun pos pins s σ H Q I ⟨Q0, h0, m⟩ => thn (h.run pos pins s σ H Q0 I h0) fun us s1 ⟨vs, H1, I1, r, q⟩ => ⟨vs, H1, I1, r, m vs H1 q⟩⟩
/-- self.value = value -/
def spInit (C : Addr) : Sp := fun vs H Q _ => ∃ (a : Addr) (v : V), vs = [.ref a, v] ∧ H a = some (exo a C none) ∧ ∀ dx, H dx = none → dx ≠ a → Q .non (upd (upd H dx (exd dx [("value", v)])) a (exo a C (some dx)))
/-- a class of errors that bear one value -/
structure ErrC (P : Program) (w : World) (K : PySem.W.Frag) (mg : Str → Option Value) (base : Heap) (x : Str) (C : Addr) : Prop where
  ex : ∃ (fI : Addr) (fd : FuncData), PySem.W.findIn K (.ref C) "__init__" = some (some (.ref fI)) ∧ PySem.W.typeIn K (.ref fI) = some (.type "function") ∧ FnOk P w K mg base CX0 1 fI fd ["self", "value"] (spInit C) ∧ Binds K fd ["self", "value"] []
  T : OexC K C
  m : mg x = some (.ref C)
  xf : XfC K C
  ec : L2.ExcC K C
  nv : PySem.W.findIn K (.ref C) "value" = some none
def tErr (C : Addr) (ta : TA) : SV → Hp → XK → Prop := fun σ H Q => ta σ H fun vs H1 => ∃ v, vs = [v] ∧ ∀ d, H1 d = none → Q (.ref C) (some d) (upd H1 d (.xd [("value", v)]))
theorem pmk_err {X : Cx} {j : Nat} {x : Str} {C : Addr} {e : Expr} {ta : TA} {p pos : Pos} (E : ErrC X.prog X.w X.K X.mg X.base x C) (hr : Room j X.A) (ha : PA X [e] ta) (hj : 2 ≤ j := by decide) (hg : Gl X x := by rfl) (hdb : (x == ("__debug__" : Str)) = false := by decide)
    (he : starEach [e] X.env = (false, eval e X.env) :: starEach [] X.env := by rfl) (hpl : (backTo pos (starEach [] X.env)).any (·.1) = false := by rfl) : PMk X (.Call (.Name x p) [e] [] pos) (tErr C ta) := by
  intro pins s σ H Q I h
  obtain ⟨fI, fd, iC, tI, F1, hb⟩ := E.ex
  refine pmk_oex (dvs := []) (ds := []) E.T iC tI F1 (hr.mono hj) hb .nil pass0 hg E.m (pa_mono ha) hdb he hpl pins s σ H Q I ?_
  refine ⟨_, h, fun vs H1 z => ?_⟩
  obtain ⟨v, rfl, k⟩ := z
  refine ⟨show 1 ≤ 1000 by decide, fun a na => ⟨a, v, rfl, upd_same, fun dx ndx hne => ⟨rfl, dx, [("value", v)], upd_same, ?_, ?_, ?_⟩⟩⟩
  · rw [upd_ne hne]
    exact upd_same
  · rw [upd_ne hne] at ndx
    exact ndx
  · have hd : H1 dx = none := by
      rw [upd_ne hne] at ndx
      exact ndx
    have e1 : upd (L2.del (upd (upd (upd H1 a (exo a C none)) dx (exd dx [("value", v)])) a (exo a C (some dx))) a) dx (.xd [("value", v)]) = upd H1 dx (.xd [("value", v)]) := by
      funext b
      by_cases hb : b = dx
      · rw [hb, upd_same, upd_same]
      · rw [upd_ne hb, upd_ne hb]
        by_cases hba : b = a
        · rw [hba, L2.del_same]
          exact na.symm
        · rw [L2.del_ne hba, upd_ne hba, upd_ne hb, upd_ne hba]
    rw [e1]
    exact k dx hd
/-! ### defs that may raise -/
structure DefX (P : Program) (w : World) (K : PySem.W.Frag) (mg : Str → Option Value) (base : Heap) (k : Nat) (x : Str) (f : Addr) (fd : FuncData) (ps : List Str) (sp : Sp) : Prop where
  F : FnOk P w K mg base (L2.CX P w) k f fd ps sp
  m : mg x = some (.ref f)
  kp : PySem.W.keepIn K (.ref f) = true
  b : Binds K fd ps []
/-- .. by its address -/
def FnAt (P : Program) (w : World) (K : PySem.W.Frag) (mg : Str → Option Value) (base : Heap) (j : Nat) (f : Addr) (sp : Sp) : Prop :=
  ∃ (k : Nat) (fd : FuncData) (ps : List Str), k ≤ j ∧ FnOk P w K mg base (L2.CX P w) k f fd ps sp ∧ PySem.W.keepIn K (.ref f) = true ∧ Binds K fd ps []
section
variable {X : Cx} {W : WX} {k j : Nat} {f : Addr} {fd : FuncData} {ps : List Str} {sp : Sp} {x : Str} {p pos : Pos} {a b e : Expr} {es : List Expr} {t : TA} {tf : TE}
theorem DefX.at' {P : Program} {w : World} {K : PySem.W.Frag} {mg : Str → Option Value} {base : Heap} (D : DefX P w K mg base k x f fd ps sp) (h : k ≤ j := by decide) : FnAt P w K mg base j f sp := ⟨k, fd, ps, h, D.F, D.kp, D.b⟩
theorem pe_dS (D : DefX X.prog X.w X.K X.mg X.base k x f fd ps sp) (tk : Takes X W) (hr : Room j X.A) (ha : PA X (e :: es) t) (hkj : k ≤ j := by decide) (hg : Gl X x := by rfl) (hdb : (x == ("__debug__" : Str)) = false := by decide)
    (he : starEach (e :: es) X.env = (false, eval e X.env) :: starEach es X.env := by rfl) (hpl : (backTo pos (starEach es X.env)).any (·.1) = false := by rfl) : PE X (.Call (.Name x p) (e :: es) [] pos) (tCallS sp (WE W) t) :=
  pe_callS D.F (hr.mono hkj) hg D.m D.kp D.b (fun σ => passAt tk σ) ha hdb he hpl
/-- [f, g, ..][i](e, ..) -/
def tIxCall (P : Program) (w : World) (K : PySem.W.Frag) (mg : Str → Option Value) (base : Heap) (j : Nat) (E : SV → XK) (tf : TE) (t : TA) : TE := fun σ H Q => tf σ H fun x H1 => ∃ (f : Addr) (sp : Sp), x = .ref f ∧ FnAt P w K mg base j f sp ∧ t σ H1 fun vs H2 => sp vs H2 Q (E σ)
theorem pe_ixcall (hf : PE X (.Subscript a b p) tf) (tk : Takes X W) (hr : Room j X.A) (ha : PA X (e :: es) t) (he : starEach (e :: es) X.env = (false, eval e X.env) :: starEach es X.env := by rfl) (hpl : (backTo pos (starEach es X.env)).any (·.1) = false := by rfl) :
    PE X (.Call (.Subscript a b p) (e :: es) [] pos) (tIxCall X.prog X.w X.K X.mg X.base j (WE W) tf t) := by
  refine ⟨fun pins s σ H Q I h => ?_⟩
  have ev : eval (.Call (.Subscript a b p) (e :: es) [] pos) X.env = (do callWith pos (← eval (.Subscript a b p) X.env) [] (backTo pos (starEach (e :: es) X.env)) (backToKw pos (keywordEach [] X.env))) := rfl
  rw [ev]
  refine wpAny_bind (thn (hf.run pins s σ H _ I h) fun u s1 hh => ?_)
  obtain ⟨x, H1, I1, rx, f, sp, ex, ⟨k, fd, ps, hk, F, kp, hb⟩, q⟩ := hh
  subst ex
  obtain rfl : u = Value.ref f := rx
  refine PySem.W.callWith_K (h₀ := X.base) I1.ok.mod.kin kp (thn (ha.run pos pins s1 σ H1 _ I1 q) fun us s2 ⟨vs, H2, I2, r, q2⟩ => ⟨I2.kIn, ?_⟩) he hpl
  exact run_fnS F (hr.mono hk) hb (passAt tk σ) I2 r q2
end
/-- the body of a def that may raise takes what it wishes -/
theorem takes_def {P : Program} {w : World} {K : PySem.W.Frag} {mg : Str → Option Value} {base : Heap} {N : List Str} {qual : Str} {sc : Scope} {f : Addr} {cd : Value} {A : Around} {outer : List Env} {s : Shared} {H : Hp} {E : XK} :
    Takes (cxOf (L2.CX P w) P w K mg base N qual sc f cd A outer s H E) (fun cls d _ H' => E cls d H') := takes_of rfl rfl rfl rfl
end Kx

set_option Elab.async false
set_option linter.all false
set_option maxRecDepth 100000
set_option maxHeartbeats 4000000
set_option exponentiation.threshold 4000
namespace PySem
namespace NX
open PySem.W PySem.Calls PyProof.Rows PySem.HandSPX
section
variable {M : Model} {A : Around} {E : Value → Shared → Prop} {h : Heap} {g : Array GenState} {d : Drawn} {t : Nat} {os : OsState}
variable {nm q : Str} {C N : Addr} {bs bm bmB : List Value} {hdct : Bool} {sn : List Str} {sub : List Value} {ab : Bool} {col : Option Bool} {dd : Option Addr} {k0 k1 k2 k3 k5 : Option Value} {B newId initId : String}
theorem check_new_kw (F : ExcBaseFacts B newId initId bmB) (hT : ∀ X : String, bm.contains (.type X) = bmB.contains (.type X)) {kn : Str} {kv : Value} {Q : Unit → Shared → Prop}
    (hC : h.get? C = some (excClassObj nm q C N bs bm hdct sn sub ab col dd k0 k1 k2 k3 k5 newId)) (hq : Q () ⟨h, g, d, t, os⟩) : wpAny M A (checkBuiltinCall newId ⟨[.ref C], [(kn, kv)]⟩) Q E ⟨h, g, d, t, os⟩ := by
  have hcont : (Value.ref C :: bm).contains (.type B) = true := by rw [List.contains_cons, hT, F.hasB, Bool.or_true]
  have hstar := F.noStar
  simp only [checkBuiltinCall, F.newKind, F.newSplit, F.newRow]
  repeat (first | refine wpAny_loadPart_at hC ?_ | (refine wpAny_isSubtype_exc hC ?_; rw [hcont]) | refine wpAny_staticBase_exc hC ?_ | refine wpAny_madeBy_exc hC ?_ | simp only [bne_self_eq_false, Bool.false_eq_true, if_false] | wp_step)
  exact hq
end
section
variable {prog : Program} {w : World} {A : Around} {E : Value → Shared → Prop} {R : Result → Shared → Prop} {h : Heap} {g : Array GenState} {d : Drawn} {t : Nat} {os : OsState}
variable {nm q : Str} {C N : Addr} {bs bm bmB : List Value} {hdct : Bool} {sn : List Str} {sub : List Value} {ab : Bool} {col : Option Bool} {dd : Option Addr} {k0 k1 k2 k3 k5 : Option Value} {B newId initId : String}
theorem new_kw (F : ExcBaseFacts B newId initId bmB) (hT : ∀ X : String, bm.contains (.type X) = bmB.contains (.type X)) {kn : Str} {kv : Value}
    (hC : h.get? C = some (excClassObj nm q C N bs bm hdct sn sub ab col dd k0 k1 k2 k3 k5 newId))
    (hq : R (.ok (.ret (.ref (h.objs.size + 1)))) ⟨(h.push { cls := .type "tuple", data := .seq ([] : List Value).toArray }).push
      { cls := .ref C, data := .fields #[.ref h.objs.size, .none, .none, .none, .bool false, .none] }, g, d, t, os⟩) :
    codeAny (model prog w) A (.builtin newId ⟨[.ref C], [(kn, kv)]⟩) R ⟨h, g, d, t, os⟩ := by
  have hends := F.ends
  have hcB : (Value.ref C :: bm).contains (.type B) = true := by rw [List.contains_cons, hT, F.hasB, Bool.or_true]
  have hcA : (Value.ref C :: bm).contains (.type "AttributeError") = false := by rw [List.contains_cons, hT, F.noAttr]; rfl
  have hcN : (Value.ref C :: bm).contains (.type "NameError") = false := by rw [List.contains_cons, hT, F.noName]; rfl
  have hrest : ([] : List Value).length ≤ sizeLine := by decide
  refine codeAny_builtinAt F.entry ?_
  unfold Builtin.«BaseException.__new__»
  refine wpAt_bind ?_
  show wpAt _ _ _ (stack >>= _) _ _ _
  refine wpAt_bind (wpAt_stack fun p below => wpAt_of_wpAny ?_)
  wp_walk
  refine wpAt_of_wpAny ?_
  rw [F.owner]
  repeat (first | with_reducible refine wpAny_madeHere_exc F.canon hC ?_ | with_reducible refine wpAny_loadPart_at hC ?_ | (with_reducible refine wpAny_isSubtype_exc hC ?_; first | rw [hcB] | rw [hcA] | rw [hcN]) | wp_step)
  show R _ _
  rw [Heap.size_push]
  exact hq
theorem type_call_kw (F : ExcBaseFacts B newId initId bmB) (hT : ∀ X : String, bm.contains (.type X) = bmB.contains (.type X)) {kn : Str} {kv : Value} {fI : Addr} {Q : Fin → Shared → Prop}
    (hC : h.get? C = some (excClassObj nm q C N bs bm hdct sn sub ab col dd k0 k1 k2 k3 k5 newId))
    (hi : W.Looks (model prog w) h (typeLookup (.ref C) "__init__") (some (.ref fI))) (hb : ∀ self, W.Looks (model prog w) h (bindSpecial (.ref fI) self) (.ref fI, [self]))
    (hq : codeAny (model prog w) A (.call (.ref fI) ⟨[.ref (h.objs.size + 1)], [(kn, kv)]⟩)
      (fun r s' => match r with | .ok (.ret v) => v = .none ∧ Q (.done (.ret (.ref (h.objs.size + 1)))) s' | .ok _ => False | .error e => E e s')
      ⟨(h.push (W.kdv_tup [])).push (excO C h.objs.size), g, d, t, os⟩) :
    wpAny (model prog w) A (Builtin.«type.__call__» ⟨[.ref C], [(kn, kv)]⟩) Q E ⟨h, g, d, t, os⟩ := by
  repeat (first | with_reducible refine wpAny_loadPart_at hC ?_ | with_reducible refine wpAny_madeBy_exc hC ?_ | wp_step)
  refine codeAny_call_builtin_code (Code.quiet_builtin _ F.quiet) (check_new_kw F hT hC ?_)
  refine new_kw F hT hC ?_
  show wpAny _ _ _ _ _ _
  have k : ∀ b o, h.get? b = some o → ((h.push (W.kdv_tup [])).push (excO C h.objs.size)).get? b = some o := fun b o e => Heap.get?_push_of_some _ (Heap.get?_push_of_some _ e)
  have hC₁ := k _ _ hC
  have hget : ((h.push (W.kdv_tup [])).push (excO C h.objs.size)).get? (h.objs.size + 1) = some (excO C h.objs.size) := by heap_get
  have hcC : (Value.ref C :: bm).contains (.ref C) = true := by simp
  have i1 := hi.keeps k
  have b1 := (hb (.ref (h.objs.size + 1))).keeps k
  unfold isInstance
  repeat (first | with_reducible refine wpAny_loadPart_at hget ?_ | (with_reducible refine wpAny_isSubtype_exc hC₁ ?_; rw [hcC]) | wp_step)
  show wpAny _ _ (typeLookup (.ref C) _) _ _ _
  refine i1.at ?_
  refine wpAny_holding (wpAny_bind (b1.at ?_))
  refine wpAny_bind (wpAny_call (codeAny_mono hq fun r s' z => ?_))
  rcases r with e | (v | _ | _ | _) <;> first | exact z | exact z.elim | skip
  obtain ⟨rfl, z⟩ := z
  first
    | exact wpAny_pure (wpAny_pure z)
    | (wp_walk; exact z)
theorem call_kw (F : ExcBaseFacts B newId initId bmB) (hT : ∀ X : String, bm.contains (.type X) = bmB.contains (.type X)) {kn : Str} {kv : Value} {fI : Addr}
    (hC : h.get? C = some (excClassObj nm q C N bs bm hdct sn sub ab col dd k0 k1 k2 k3 k5 newId))
    (hi : W.Looks (model prog w) h (typeLookup (.ref C) "__init__") (some (.ref fI))) (hb : ∀ self, W.Looks (model prog w) h (bindSpecial (.ref fI) self) (.ref fI, [self]))
    (hq : codeAny (model prog w) (A.under (.builtin "type.__call__" ⟨[.ref C], [(kn, kv)]⟩)) (.call (.ref fI) ⟨[.ref (h.objs.size + 1)], [(kn, kv)]⟩) (W.InitBack (h.objs.size + 1) R)
      ⟨(h.push (W.kdv_tup [])).push (excO C h.objs.size), g, d, t, os⟩) :
    codeAny (model prog w) A (.call (.ref C) ⟨[], [(kn, kv)]⟩) R ⟨h, g, d, t, os⟩ := by
  have f1 := tc_lookup
  have f2 := tc_bind (.ref C)
  have hTy : (⟨h, g, d, t, os⟩ : Shared).TypeIs (.ref C) "type" := ⟨_, hC, rfl⟩
  refine codeAny_of_tree ?_
  show wpAny _ _ (callAny (.ref C) _) _ _ _
  repeat (any_goals (first | assumption | with_reducible refine wpAny_loadPart_at hC ?_ | wp_step))
  refine ⟨rfl, ?_⟩
  refine codeAny_call_builtin_at (Code.quiet_builtin _ (by decide +kernel)) entry_typeCall (wpAny_check_type_call_sub hC (type_call_kw F hT hC hi hb ?_))
  refine codeAny_mono hq fun r s' z => ?_
  rcases r with e | (v | _ | _ | _) <;> exact z
end
end NX
end PySem
namespace Kx
open PySem PySem.Spec PyProof.Rows L2
/-- an error made, not raised -/
structure Made (H1 H2 : Hp) (C a dx : Addr) (v : V) : Prop where
  na : H1 a = none
  nd : H1 dx = none
  ne : dx ≠ a
  ea : H2 a = some (exo a C (some dx))
  ed : H2 dx = some (exd dx [("value", v)])
  sm : Same H1 H2
/-- a class of errors with its own __init__ -/
structure ErrN (P : Program) (w : World) (K : PySem.W.Frag) (mg : Str → Option Value) (base : Heap) (x : Str) (C fI : Addr) (fd : FuncData) : Prop where
  iC : PySem.W.findIn K (.ref C) "__init__" = some (some (.ref fI))
  tI : PySem.W.typeIn K (.ref fI) = some (.type "function")
  F : FnOk P w K mg base CX0 1 fI fd ["self", "value"] (spInit C)
  b1 : Binds K fd ["self", "value"] []
  b0 : ∃ ds, Vals [V.non] ds ∧ Binds K fd ["self", "value"] ds
  bk : ∀ (s : Shared) (u v : Value), K.In s.heap → BindsTo s fd ⟨[u], [("value", v)]⟩ [("self", u), ("value", v)]
  T : OexC K C
  m : mg x = some (.ref C)
  xf : XfC K C
  ec : L2.ExcC K C
  nv : PySem.W.findIn K (.ref C) "value" = some none
section
variable {X : Cx} {pins : List (Addr × Obj)} {σ : SV} {H : Hp} {s : Shared} {x : Str} {C fI : Addr} {fd : FuncData} {j : Nat} {p pos : Pos} {e : Expr} {ta : TA} {te : TE} {Q : VK}
/-- the __init__'s own promise, met -/
theorem init_hq {v : V} {a : Addr} (na : H a = none) (k : ∀ a dx H2, Made H H2 C a dx v → Q (.ref a) H2) : spInit C [.ref a, v] (upd H a (exo a C none)) (fun r H2 => r = .non ∧ Q (.ref a) H2) (fun _ _ _ => False) := by
  refine ⟨a, v, rfl, upd_same, fun dx ndx hne => ⟨rfl, k a dx _ ⟨na, ?_, hne, upd_same, ?_, fun b u eb => ?_⟩⟩⟩
  · rw [upd_ne hne] at ndx
    exact ndx
  · rw [upd_ne hne]
    exact upd_same
  · have hba := ne_of_none eb na
    have hd : H dx = none := by
      rw [upd_ne hne] at ndx
      exact ndx
    rw [upd_ne hba, upd_ne (ne_of_none eb hd), upd_ne hba]
    exact eb
theorem run_new {us ds : List Value} {vs dvs : List V} {v : V} (E : ErrN X.prog X.w X.K X.mg X.base x C fI fd) (hr : Room j X.A) (hj : 2 ≤ j) (hb : Binds X.K fd ["self", "value"] ds) (hd : Vals dvs ds) (I : Inv X pins σ H s) (r : Vals vs us) (hv : vs ++ dvs = [v])
    (k : ∀ a dx H2, Made H H2 C a dx v → Q (.ref a) H2) : wpAny (model X.prog X.w) X.A (call (.ref C) us) (EP X pins σ Q) X.xe s := by
  obtain ⟨nm, q, N, bs, bm, sn, sub, ab, col, dd, k0, k1, k2, k3, k5, hC, hbm⟩ := E.T.cls
  obtain ⟨hp, g, dr, tk, os⟩ := s
  have hsz : hp.objs.size ≤ hp.objs.size + 1 := Nat.le_succ _
  have hn : H (hp.objs.size + 1) = none := I.hok.fresh hsz
  have hq := init_hq (Q := Q) (v := v) hn k
  have kk : ∀ b o, hp.get? b = some o → ((hp.push (PySem.W.kdv_tup us)).push (PySem.HandSPX.excO C hp.objs.size)).get? b = some o := fun b o e => Heap.get?_push_of_some _ (Heap.get?_push_of_some _ e)
  have hget : ((hp.push (PySem.W.kdv_tup us)).push (PySem.HandSPX.excO C hp.objs.size)).get? (hp.objs.size + 1) = some (PySem.HandSPX.excO C hp.objs.size) := by heap_get
  have I2 : Inv X pins σ (upd H (hp.objs.size + 1) (exo (hp.objs.size + 1) C none)) ⟨(hp.push (PySem.W.kdv_tup us)).push (PySem.HandSPX.excO C hp.objs.size), g, dr, tk, os⟩ :=
    I.laid (t' := tk) (a := hp.objs.size + 1) (o := exo (hp.objs.size + 1) C none) (h' := (hp.push (PySem.W.kdv_tup us)).push (PySem.HandSPX.excO C hp.objs.size)) kk hsz (exo_ok hget)
  have r2 : Vals (V.ref (hp.objs.size + 1) :: (vs ++ dvs)) (Value.ref (hp.objs.size + 1) :: (us ++ ds)) := .cons rfl (r.append hd)
  rw [hv] at r2
  have hl : (Value.ref (hp.objs.size + 1) :: us ++ ds).length = ["self", "value"].length := by
    have e := r2.length
    exact e.symm
  have hus : us.length ≤ sizeLine := by
    have e := r2.length
    simp only [List.length_cons, List.length_append, List.length_nil] at e
    rw [sizeLine_eq]
    omega
  refine wpAny_call (PySem.HandSPX.call_own F.excBase_ValueError (fun Y => PySem.HandSPX.refsVE_contains Y bm hbm) (I.kIn _ _ hC) (PySem.W.looks_findIn I.kIn E.iC) (fun self => PySem.W.bind_fn I.kIn self E.tI) hus
    (codeAny_mono (E.F.run _ X.stack _ _ ⟨Value.ref (hp.objs.size + 1) :: us, []⟩ (Value.ref (hp.objs.size + 1) :: (us ++ ds)) _ _ (fun _ _ _ => False) ((hr.mono hj).make C us []) (I2.env0.make C us []) (hb _ (Value.ref (hp.objs.size + 1) :: us) I2.kIn hl) r2 hq) fun r s' hq' => ?_))
  cases r with
  | error er => exact False.elim hq'
  | ok fl =>
    cases fl with
    | ret u =>
      obtain ⟨v', H', I3, rv, ev, q3⟩ := I2.after hq'
      subst ev
      exact ⟨rv, ⟨V.ref (hp.objs.size + 1), H', I3, rfl, q3⟩⟩
    | next => exact False.elim hq'
    | brk => exact False.elim hq'
    | cont => exact False.elim hq'
def tNew (C : Addr) (dvs : List V) (t : TA) : TE := fun σ H Q => t σ H fun vs H1 => ∃ v, vs ++ dvs = [v] ∧ ∀ a dx H2, Made H1 H2 C a dx v → Q (.ref a) H2
/-- C(e) -/
theorem pe_new1 (E : ErrN X.prog X.w X.K X.mg X.base x C fI fd) (hr : Room j X.A) (ha : PA X [e] ta) (hj : 2 ≤ j := by decide) (hg : Gl X x := by rfl) (hdb : (x == ("__debug__" : Str)) = false := by decide)
    (he : starEach [e] X.env = (false, eval e X.env) :: starEach [] X.env := by rfl) (hpl : (backTo pos (starEach [] X.env)).any (·.1) = false := by rfl) : PE X (.Call (.Name x p) [e] [] pos) (tNew C [] ta) := by
  refine ⟨fun pins s σ H Q I h => ?_⟩
  refine wpAny_Call_Name_kw (ld_glob I hg E.m ?_ hdb)
  refine PySem.W.callWith_K (h₀ := X.base) I.ok.mod.kin E.T.kC (thn (ha.run pos pins s σ H _ I h) fun us s1 ⟨vs, H1, I1, r1, v, ev, k⟩ => ⟨I1.kIn, ?_⟩) he hpl
  exact run_new E hr hj E.b1 .nil I1 r1 ev k
/-- C() -/
theorem pe_new0 (E : ErrN X.prog X.w X.K X.mg X.base x C fI fd) (hr : Room j X.A) (hj : 2 ≤ j := by decide) (hg : Gl X x := by rfl) (hdb : (x == ("__debug__" : Str)) = false := by decide) : PE X (.Call (.Name x p) [] [] pos) (tNew C [.non] tNil) := by
  refine ⟨fun pins s σ H Q I h => ?_⟩
  refine wpAny_Call_Name_kw (ld_glob I hg E.m ?_ hdb)
  obtain ⟨v, ev, k⟩ := h
  obtain ⟨ds, hd, hb⟩ := E.b0
  exact PySem.W.callWith_K0 I.kIn E.T.kC (run_new (us := []) E hr hj hb hd I .nil ev k)
def tNewK (C : Addr) (t : TA) : TE := fun σ H Q => t σ H fun zs H1 => ∃ v, zs = [v] ∧ ∀ a dx H2, Made H1 H2 C a dx v → Q (.ref a) H2
theorem run_newK {u : Value} {v : V} (E : ErrN X.prog X.w X.K X.mg X.base x C fI fd) (hr : Room j X.A) (hj : 2 ≤ j) (I : Inv X pins σ H s) (ru : RelV v u)
    (k : ∀ a dx H2, Made H H2 C a dx v → Q (.ref a) H2) : wpAny (model X.prog X.w) X.A (call (.ref C) [] [("value", u)]) (EP X pins σ Q) X.xe s := by
  obtain ⟨nm, q, N, bs, bm, sn, sub, ab, col, dd, k0, k1, k2, k3, k5, hC, hbm⟩ := E.T.cls
  obtain ⟨hp, g, dr, tk, os⟩ := s
  have hsz : hp.objs.size ≤ hp.objs.size + 1 := Nat.le_succ _
  have hn : H (hp.objs.size + 1) = none := I.hok.fresh hsz
  have hq := init_hq (Q := Q) (v := v) hn k
  have kk : ∀ b o, hp.get? b = some o → ((hp.push (PySem.W.kdv_tup [])).push (PySem.HandSPX.excO C hp.objs.size)).get? b = some o := fun b o e => Heap.get?_push_of_some _ (Heap.get?_push_of_some _ e)
  have hget : ((hp.push (PySem.W.kdv_tup [])).push (PySem.HandSPX.excO C hp.objs.size)).get? (hp.objs.size + 1) = some (PySem.HandSPX.excO C hp.objs.size) := by heap_get
  have I2 : Inv X pins σ (upd H (hp.objs.size + 1) (exo (hp.objs.size + 1) C none)) ⟨(hp.push (PySem.W.kdv_tup [])).push (PySem.HandSPX.excO C hp.objs.size), g, dr, tk, os⟩ :=
    I.laid (t' := tk) (a := hp.objs.size + 1) (o := exo (hp.objs.size + 1) C none) (h' := (hp.push (PySem.W.kdv_tup [])).push (PySem.HandSPX.excO C hp.objs.size)) kk hsz (exo_ok hget)
  have r2 : Vals [V.ref (hp.objs.size + 1), v] [Value.ref (hp.objs.size + 1), u] := .cons rfl (.cons ru .nil)
  refine wpAny_call (PySem.NX.call_kw F.excBase_ValueError (fun Y => PySem.HandSPX.refsVE_contains Y bm hbm) (I.kIn _ _ hC) (PySem.W.looks_findIn I.kIn E.iC) (fun self => PySem.W.bind_fn I.kIn self E.tI)
    (codeAny_mono (E.F.run _ X.stack _ _ ⟨[Value.ref (hp.objs.size + 1)], [("value", u)]⟩ [Value.ref (hp.objs.size + 1), u] _ _ (fun _ _ _ => False) ((hr.mono hj).make C [] [("value", u)]) (I2.env0.make C [] [("value", u)]) (E.bk _ _ _ I2.kIn) r2 hq) fun r s' hq' => ?_))
  cases r with
  | error er => exact False.elim hq'
  | ok fl =>
    cases fl with
    | ret u =>
      obtain ⟨v', H', I3, rv, ev, q3⟩ := I2.after hq'
      subst ev
      exact ⟨rv, ⟨V.ref (hp.objs.size + 1), H', I3, rfl, q3⟩⟩
    | next => exact False.elim hq'
    | brk => exact False.elim hq'
    | cont => exact False.elim hq'
/-- C(value = e) -/
theorem pe_newK {kws : List Keyword} {tk : TA} (E : ErrN X.prog X.w X.K X.mg X.base x C fI fd) (hr : Room j X.A) (hkw : PK X kws tk) (hj : 2 ≤ j := by decide) (hg : Gl X x := by rfl)
    (hall : (backToKw pos (keywordEach kws X.env)).all (·.1.isSome) = true := by rfl) (hks : (backToKw pos (keywordEach kws X.env)).filterMap (·.1) = (["value"] : List Str) := by rfl) (hdb : (x == ("__debug__" : Str)) = false := by decide)
    (hpl : ((backTo pos (starEach [] X.env)).any (·.1) || (backToKw pos (keywordEach kws X.env)).any (·.1.isNone)) = false := by rfl) : PE X (.Call (.Name x p) [] kws pos) (tNewK C tk) := by
  refine ⟨fun pins s σ H Q I h => ?_⟩
  refine wpAny_Call_Name_kw (ld_glob I hg E.m ?_ hdb)
  refine PySem.W.callWith_KW0 (h₀ := X.base) I.ok.mod.kin E.T.kC hall ?_ hpl
  refine thn (hkw.run pos pins s σ H _ I h) fun ws s2 ⟨zs, H2, I2, rz, v, ev, k⟩ => ⟨I2.kIn, ?_⟩
  rw [hks]
  subst ev
  cases rz with
  | cons ru rn =>
    cases rn
    exact run_newK E hr hj I2 ru k
/-- isinstance(e, c), e made -/
def rIsN (K : PySem.W.Frag) : List V → Hp → VK → Prop := fun xs H Q => ∃ (a D : Addr) (dd : Addr) (fs : List (Str × V)) (c : V) (cv : Value) (b : Bool), xs = [.ref a, c] ∧ H a = some (exo a D (some dd)) ∧ H dd = some (exd dd fs) ∧ L2.ExcC K D ∧ (∀ u, RelV c u → u = cv) ∧ PySem.W.kitOne K (.ref D) cv = some b ∧ Q (.bl b) H
theorem exo_inst {K : PySem.W.Frag} {P : Program} {w : World} {h : Heap} {a C dd : Addr} {fs : List (Str × V)} (hok : HOk P w H h) (ea : H a = some (exo a C (some dd))) (ed : H dd = some (exd dd fs)) :
    ∃ (oe od : Obj) (mA : Str → Option Value), PySem.W.InstAt h a oe C (some od) ∧ (∀ name, PySem.W.lookIn name od = some (mA name)) ∧ ∀ f, RelO (fs.lookup f) (mA f) := by
  obtain ⟨t1, hget⟩ := exo_at hok ea
  obtain ⟨mA, hns, hr⟩ := exd_at hok ed
  obtain ⟨od, ho, hl⟩ := lookIn_ns hns
  exact ⟨_, od, mA, ⟨hget, rfl, rfl, ho⟩, hl, hr⟩
theorem call_isN : CallR X (.builtin "isinstance") (rIsN X.K) := by
  intro pins s σ H xs us Q I r h
  obtain ⟨a, D, dd, fs, c, cv, b, rfl, ha, hdd, C, hcv, e, q⟩ := h
  cases r with
  | cons rx rr =>
    cases rr with
    | cons rt rr =>
      cases rr
      cases rx
      have ec := hcv _ rt
      subst ec
      obtain ⟨oe, od, mA, J, _, _⟩ := exo_inst (K := X.K) I.hok ha hdd
      obtain ⟨cd, hcd, _⟩ := PySem.W.any_some C.hd
      exact PySem.W.kia_one (PySem.W.kitx_exc (by rw [hcd]; rfl) C.hg C.hk C.hs C.ha C.hn C.ht C.hm) I.kIn J e (fun z => nomatch z) fun tk => ⟨.bl b, H, I.kept (t' := tk) fun _ _ z => z, rfl, q⟩
/-- e.f, e made -/
def tXn (K : PySem.W.Frag) (f : Str) (te : TE) : TE := fun σ H Q => te σ H fun x H1 => ∃ (a C dd : Addr) (fs : List (Str × V)) (v : V), x = .ref a ∧ H1 a = some (exo a C (some dd)) ∧ XfC K C ∧ PySem.W.findIn K (.ref C) f = some none ∧ H1 dd = some (exd dd fs) ∧ fs.lookup f = some v ∧ Q v H1
theorem pe_xn {n : Str} (he : PE X e te) (hb : attributeBase e n X.env (eval e X.env) = eval e X.env := by rfl) : PE X (.Attribute e n pos) (tXn X.K n te) := by
  refine ⟨fun pins s σ H Q I h => ?_⟩
  refine attr_of hb (thn (he.run pins s σ H _ I h) fun u s1 hh => ?_)
  obtain ⟨x, H1, I1, rx, a, C, dd, fs, v, ex, ha, T, hno, ea, l, q⟩ := hh
  subst ex
  obtain rfl : u = Value.ref a := rx
  obtain ⟨oe, od, mA, J, hl, hr⟩ := exo_inst (K := X.K) I1.hok ha ea
  obtain ⟨u, hu, ru⟩ := RelO.some_of (v := v) (o := mA n) (by rw [← l]; exact hr n)
  exact HandSPX.exc_get I1.kIn J T.ga T.gg T.exC (PySem.W.findObj_own T.hdC hno rfl (by rw [hl, hu])) (handed_of ru) ⟨v, H1, I1.tok _, ru, q⟩
end
end Kx
namespace Kx
open PySem PySem.Spec PyProof.Rows L2
/-- a class of errors without an __init__ of its own -/
structure ErrP (K : PySem.W.Frag) (mg : Str → Option Value) (x : Str) (C : Addr) (bmB : List Value) (B newId initId : String) : Prop where
  F : ExcBaseFacts B newId initId bmB
  q : PySem.W.excIn K C bmB newId = true
  m : mg x = some (.ref C)
  k : PySem.W.keepIn K (.ref C) = true
  ec : L2.ExcC K C
section
variable {X : Cx} {x : Str} {C : Addr} {p pos : Pos} {bmB : List Value} {B newId initId : String}
/-- C() -/
def tNewP (C : Addr) : TE := fun _ H Q => ∀ a, H a = none → Q (.ref a) (upd H a (ExO (.ref C) a))
theorem pe_exc0 (E : ErrP X.K X.mg x C bmB B newId initId) (hg : Gl X x := by rfl) (hdb : (x == ("__debug__" : Str)) = false := by decide) : PE X (.Call (.Name x p) [] [] pos) (tNewP C) := by
  refine ⟨fun pins s σ H Q I h => ?_⟩
  refine wpAny_Call_Name_kw (ld_glob I hg E.m ?_ hdb)
  refine PySem.W.callWith_K0 I.kIn E.k ?_
  show wpAny _ _ (call (.ref C) []) _ _ _
  obtain ⟨bm, N, nm, qn, bs, hdct, sn, sub, ab, col, dd, k0, k1, k2, k3, k5, mN, hC, hN, hni, T⟩ := exc_obj I.kIn E.q
  refine wpAny_call_exc_subT E.F T hC hN hni (fun h' a hm => ?_) (by show 0 ≤ sizeLine; exact Nat.zero_le _)
  have hn : H a = none := I.hok.gone hm.new
  obtain ⟨t, ht, _, _⟩ := hm.there
  exact ⟨.ref a, upd H a (ExO (.ref C) a), I.laidN hm.keeps hm.new hn (exO_ok ht ⟨rfl, rfl⟩ rfl rfl rfl (show 4 < 6 by decide)), rfl, h a hn⟩
/-- an error object of the class D at a -/
def ErrV (H : Hp) (a D : Addr) : Prop := (∃ dd fs, H a = some (exo a D (some dd)) ∧ H dd = some (exd dd fs)) ∨ H a = some (ExO (.ref D) a)
theorem ErrV.same {H H' : Hp} {a D : Addr} (h : ErrV H a D) (s : Same H H') : ErrV H' a D := by
  rcases h with ⟨dd, fs, e1, e2⟩ | e
  · exact .inl ⟨dd, fs, s _ _ e1, s _ _ e2⟩
  · exact .inr (s _ _ e)
def rIsA (K : PySem.W.Frag) : List V → Hp → VK → Prop := fun xs H Q => ∃ (a D : Addr) (c : V) (cv : Value) (b : Bool), xs = [.ref a, c] ∧ ErrV H a D ∧ L2.ExcC K D ∧ (∀ u, RelV c u → u = cv) ∧ PySem.W.kitOne K (.ref D) cv = some b ∧ Q (.bl b) H
theorem call_isA : CallR X (.builtin "isinstance") (rIsA X.K) := by
  intro pins s σ H xs us Q I r h
  obtain ⟨a, D, c, cv, b, rfl, hE, C, hcv, e, q⟩ := h
  cases r with
  | cons rx rr =>
    cases rr with
    | cons rt rr =>
      cases rr
      cases rx
      have ec := hcv _ rt
      subst ec
      have J : ∃ oe od, PySem.W.InstAt s.heap a oe D od := by
        rcases hE with ⟨dd, fs, e1, e2⟩ | e1
        · obtain ⟨oe, od, mA, J, _, _⟩ := exo_inst (K := X.K) I.hok e1 e2
          exact ⟨oe, some od, J⟩
        · obtain ⟨⟨oe, vs, ho, hz, hd, _⟩, _, _⟩ := I.hok a _ e1
          obtain ⟨oc, od, oda, osl⟩ := oe
          obtain ⟨h1, h2⟩ := hz
          dsimp only at h1 h2 hd
          subst h1 h2 hd
          exact ⟨_, none, ho, rfl, rfl, trivial⟩
      obtain ⟨oe, od, J⟩ := J
      obtain ⟨cd, hcd, _⟩ := PySem.W.any_some C.hd
      exact PySem.W.kia_one (PySem.W.kitx_exc (by rw [hcd]; rfl) C.hg C.hk C.hs C.ha C.hn C.ht C.hm) I.kIn J e (fun z => nomatch z) fun tk => ⟨.bl b, H, I.kept (t' := tk) fun _ _ z => z, rfl, q⟩
theorem kit_ref {K : PySem.W.Frag} {D C : Addr} {b : Bool} (h2 : PySem.W.isClsIn K C = true) (h3 : PySem.W.typeIn K (.ref C) = some (.type "type")) (hs : PySem.W.subIn K (.ref C) (.ref C) = some true) (h : PySem.W.subIn K (.ref D) (.ref C) = some b) : PySem.W.kitOne K (.ref D) (.ref C) = some b := by
  unfold PySem.W.kitOne
  by_cases e : D = C
  · subst e
    rw [h] at hs
    rw [if_pos (beq_self_eq_true _), hs]
  · rw [if_neg (by intro z; exact e (Value.ref.inj (beq_iff_eq.mp z)))]
    unfold PySem.W.kitCls
    have h2' : (PySem.W.clsIn K C).isSome = true := h2
    have e2 : ((PySem.W.clsIn K C).isSome && PySem.W.typeIn K (.ref C) == some (.type "type")) = true := by rw [h2', h3]; rfl
    show (if ((PySem.W.clsIn K C).isSome && PySem.W.typeIn K (.ref C) == some (.type "type")) = true then PySem.W.subIn K (.ref D) (.ref C) else none) = some b
    rw [if_pos e2, h]
theorem kit_ve {K : PySem.W.Frag} {D : Addr} (h : PySem.W.subIn K (.ref D) (.type "ValueError") = some true) : PySem.W.kitOne K (.ref D) (.type "ValueError") = some true := by
  unfold PySem.W.kitOne
  rw [if_neg (by intro z; cases (beq_iff_eq.mp z))]
  show (if PySem.W.kitMeta "ValueError" = true then PySem.W.subIn K (.ref D) (.type "ValueError") else none) = some true
  rw [if_pos (by decide +kernel), h]
end
end Kx

set_option Elab.async false
set_option linter.all false
set_option maxRecDepth 100000
set_option maxHeartbeats 4000000
set_option exponentiation.threshold 4000
namespace Kx
open PySem PySem.Spec PyProof.Rows L2
def strTimes (z : Str) (k : Int) : Str := if k < 1 then Str.empty else if (k == 1 || z.length == 0) = true then z else ⟨(List.replicate k.toNat z.cps).foldl (· ++ ·) #[]⟩
/-- a written text times a small count -/
def rMulS : R2 := fun x y H Q => ∃ (z : Str) (k : Int), x = .str z ∧ y = .int k ∧ 0 ≤ k ∧ k ≤ 100 ∧ z.length ≤ 100 ∧ (strTimes z k).length ≤ sizeLine ∧ Q (.str (strTimes z k)) H
theorem op_mulS {X : Cx} : OpR X (binaryOp .Mult) rMulS := by
  intro pins s σ H x y v u Q I rx ry h
  obtain ⟨z, k, rfl, rfl, h0, h1, h2, hl, q⟩ := h
  obtain ⟨t, rfl⟩ := rx
  obtain ⟨t2, rfl⟩ := ry
  have hmul : z.length * k.toNat ≤ 100 * 100 := Nat.mul_le_mul h2 (by omega)
  refine PySem.P.mul_str (by rw [decide_eq_false (by omega), decide_eq_false (by omega)]; rfl) (fun h3 _ => ?_) (fun _ _ => ?_) ?_
  · have : (2 ^ 63 - 1 : Int) / k ≥ (2 ^ 63 - 1) / 100 := by
      have e1 : (100 : Int) * ((2 ^ 63 - 1) / 100) ≤ 2 ^ 63 - 1 := by decide
      exact (Int.le_ediv_iff_mul_le (by omega)).mpr (Int.le_trans (Int.mul_le_mul_of_nonneg_left h1 (by decide)) (by decide))
    have e2 : ((2 ^ 63 - 1 : Int) / 100) = 92233720368547758 := by decide
    omega
  · show decide (_ > sizeLine) = false
    exact decide_eq_false (by rw [sizeLine_eq]; omega)
  · unfold strTimes at hl q
    split
    · rename_i hk
      rw [if_pos hk] at hl q
      exact ⟨hl, .str _, H, I.tok _, ⟨_, rfl⟩, q⟩
    · rename_i hk
      rw [if_neg hk] at hl q
      split
      · rename_i hk2
        rw [if_pos hk2] at hl q
        exact ⟨.str _, H, I, ⟨_, rfl⟩, q⟩
      · rename_i hk2
        rw [if_neg hk2] at hl q
        exact ⟨hl, .str _, H, I.tok _, ⟨_, rfl⟩, q⟩
end Kx
namespace Kx
open PySem PySem.Spec PyProof.Rows L2
/-- what the written part says of the classes, together -/
structure KitT (K : PySem.W.Frag) (Cs : List Addr) (S : Addr) : Prop where
  cc : ∀ (i j : Nat) (C D : Addr), Cs[i]? = some C → Cs[j]? = some D → PySem.W.kitOne K (.ref C) (.ref D) = some (decide (j = i))
  cs : ∀ C ∈ Cs, PySem.W.kitOne K (.ref C) (.ref S) = some true
  cv : ∀ C ∈ Cs, PySem.W.kitOne K (.ref C) (.type "ValueError") = some true
  sc : ∀ C ∈ Cs, PySem.W.kitOne K (.ref S) (.ref C) = some false
  sv : PySem.W.kitOne K (.ref S) (.type "ValueError") = some true
  ec : ∀ C ∈ Cs, L2.ExcC K C
  xf : ∀ C ∈ Cs, XfC K C
  nv : ∀ C ∈ Cs, PySem.W.findIn K (.ref C) "value" = some none
section
variable {K : PySem.W.Frag} {H : Hp}
theorem It.same {H' : Hp} {v : V} {d : PyData} (h : It K H v d) (s : Same H H') : It K H' v d := ⟨dp_same s _ _ h.dp, h.sh, h.nd, h.de, h.co, h.la, h.ok.same s⟩
theorem it_tup {p : Addr} {xs : List V} {ds : List PyData} (h : H p = some (.tup xs)) (hi : ItAll K H xs ds) (h1 : PyData.depthAll ds ≤ 9) (h2 : costAll ds ≤ 90000) : It K H (.ref p) (.tuple ds) := by
  obtain ⟨a1, a2, a3, a4, a5, a6, a7, a8⟩ := itAll_facts hi
  refine ⟨.tup (SqT.of h) a1, ?_, ?_, ?_, ?_, ?_, ⟨"tuple", tyS_tup h⟩⟩
  · simp only [PyData.showable]; exact a2
  · simp only [PyData.hasDict]; exact a3
  · simp only [PyData.depth]; omega
  · simp only [cost]; omega
  · simp only [PyData.canLay0]; exact a6
theorem it_lst {p : Addr} {xs : List V} {ds : List PyData} (h : H p = some (.lst xs)) (hi : ItAll K H xs ds) (h1 : PyData.depthAll ds ≤ 9) (h2 : costAll ds ≤ 90000) : It K H (.ref p) (.list ds) := by
  obtain ⟨a1, a2, a3, a4, a5, a6, a7, a8⟩ := itAll_facts hi
  refine ⟨.lst (SqL.of h) a1, ?_, ?_, ?_, ?_, ?_, ⟨"list", tyS_lst h⟩⟩
  · simp only [PyData.showable]; exact a2
  · simp only [PyData.hasDict]; exact a3
  · simp only [PyData.depth]; omega
  · simp only [cost]; omega
  · simp only [PyData.canLay0]; exact a6
theorem itAll_nats : ∀ ns : List Nat, (∀ n ∈ ns, n < 100) → ItAll K H (ns.map fun n : Nat => V.int (n : Int)) (ns.map fun n : Nat => PyData.int (n : Int)) ∧ PyData.depthAll (ns.map fun n : Nat => PyData.int (n : Int)) ≤ 1 ∧ costAll (ns.map fun n : Nat => PyData.int (n : Int)) ≤ 2000 * ns.length
  | [], _ => ⟨.nil, by simp only [List.map_nil, PyData.depthAll]; omega, by simp only [List.map_nil, costAll]; omega⟩
  | n :: ns, h => by
    obtain ⟨h1, h2, h3⟩ := itAll_nats ns fun m hm => h m (List.mem_cons_of_mem _ hm)
    have hn := h n (List.mem_cons_self ..)
    refine ⟨.cons (.int (n := 10) (by have : ((n : Int)).natAbs = n := Int.natAbs_natCast n
                                      omega) (by decide)) h1, ?_, ?_⟩
    · simp only [List.map_cons, PyData.depthAll, PyData.depth]; omega
    · simp only [List.map_cons, costAll, cost, List.length_cons]; omega
/-- two of one kind in a list, shown -/
theorem rp_two {L : Addr} {x y : V} {d e : PyData} (h : H L = some (.lst [x, y])) (hx : It K H x d) (hy : It K H y e) : Rp K H (.ref L) (.list [d, e]) := (val_lst h (.cons hx (.cons hy .nil)) (Nat.le_of_ble_eq_true rfl)).rp
theorem isAe {a D : Addr} {c : V} {cv : Value} {b : Bool} {Q : VK} (hE : ErrV H a D) (hX : L2.ExcC K D) (hc : ∀ u, RelV c u → u = cv) (hk : PySem.W.kitOne K (.ref D) cv = some b) (q : Q (.bl b) H) : rIsA K [.ref a, c] H Q := ⟨a, D, c, cv, b, rfl, hE, hX, hc, hk, q⟩
theorem xn_mk {a C dd : Addr} {v : V} (hx : XfC K C) (hn : PySem.W.findIn K (.ref C) "value" = some none) (ea : H a = some (exo a C (some dd))) (ed : H dd = some (exd dd [("value", v)])) {te : TE} {σ : SV} {Q : VK} (ht : te σ H (fun x H1 => x = .ref a ∧ H1 = H)) : True := trivial
end
theorem Made.err {H1 H2 : Hp} {C a dx : Addr} {v : V} (m : Made H1 H2 C a dx v) : ErrV H2 a C := .inl ⟨dx, _, m.ea, m.ed⟩
end Kx
namespace Kx
open PySem PySem.Spec PyProof.Rows L2
def LstAt (H : Hp) (p : Addr) (ns : List Nat) : Prop := H p = some (.lst (.int 1 :: .non :: ns.map fun n : Nat => V.int (n : Int))) ∧ ns.length ≤ 12 ∧ ∀ n ∈ ns, n < 100
/-- the value: what is no list stays, the list grows -/
def ValW (K : PySem.W.Frag) (H : Hp) (v : V) (i : Nat) : Prop := (∃ d t, It K H v d ∧ tyS H v = some t ∧ t ≠ "list" ∧ ∀ p, v = .ref p → ∃ xs, H p = some (.tup xs)) ∨ ∃ p ns, v = .ref p ∧ LstAt H p ns ∧ ns.length ≤ i
theorem valW_it {K : PySem.W.Frag} {H : Hp} {v : V} {i : Nat} (h : ValW K H v i) : ∃ d, It K H v d := by
  rcases h with ⟨d, t, hI, _⟩ | ⟨p, ns, rfl, ⟨e, hl, hb⟩, _⟩
  · exact ⟨d, hI⟩
  · obtain ⟨h1, h2, h3⟩ := itAll_nats (K := K) (H := H) ns hb
    refine ⟨_, it_lst e (.cons (.int (n := 10) (by decide) (by decide)) (.cons .non h1)) ?_ ?_⟩
    · simp only [PyData.depthAll, PyData.depth]; omega
    · simp only [costAll, cost]; omega
theorem kitB_list {K : PySem.W.Frag} {H : Hp} {v : V} {t : String} (h : tyS H v = some t) (hn : t ≠ "list") : kitB t "list" = some false := by
  have hm := (tyS_of (K := K) h).2.1
  simp only [List.mem_cons, List.not_mem_nil, or_false] at hm
  rcases hm with rfl | rfl | rfl | rfl | rfl | rfl | rfl
  · decide +kernel
  · decide +kernel
  · decide +kernel
  · decide +kernel
  · exact absurd rfl hn
  · decide +kernel
  · decide +kernel
end Kx
namespace Kx
open PySem PySem.Spec PyProof.Rows L2
theorem exo_lst {e C : Addr} {d : Option Addr} {xs : List V} : exo e C d ≠ .lst xs := fun z => by
  have z' : HO.ext _ = HO.lst xs := z
  cases z'
theorem exd_lst {e : Addr} {fs : List (Str × V)} {xs : List V} : exd e fs ≠ .lst xs := fun z => by
  have z' : HO.ext _ = HO.lst xs := z
  cases z'
theorem upd_lst {H : Hp} {p b : Addr} {xs : List V} {o o2 : HO} (h : H p = some (.lst xs)) (e : H b = some o2) (hne : o2 ≠ .lst xs) : L2.upd H p o b = some o2 := by
  rw [upd_ne (fun z => ?_)]
  · exact e
  · rw [z, h] at e
    exact hne (Option.some.inj e).symm
theorem ValW.same {K : PySem.W.Frag} {H H' : Hp} {v : V} {i : Nat} (h : ValW K H v i) (s : Same H H') : ValW K H' v i := by
  rcases h with ⟨d, t, hI, ht, hn, hx⟩ | ⟨p, ns, rfl, ⟨e, hl, hb⟩, hle⟩
  · exact .inl ⟨d, t, hI.same s, tyS_same s ht, hn, fun p e => by
      obtain ⟨xs, h⟩ := hx p e
      exact ⟨xs, s _ _ h⟩⟩
  · exact .inr ⟨p, ns, rfl, ⟨s _ _ e, hl, hb⟩, hle⟩
theorem look1 {v : V} : List.lookup ("value" : Str) [(("value" : Str), v)] = some v := by simp [List.lookup]
end Kx
namespace Kx
open PySem PySem.Spec PyProof.Rows L2
theorem bare_mk {K : PySem.W.Frag} {C : Addr} {σ : SV} {H : Hp} {Q : VK} (xf : XfC K C) (nv : PySem.W.findIn K (.ref C) "value" = some none) (k : ∀ H2, Same H H2 → Q .non H2) : tXn K "value" (tNew C [V.non] tNil) σ H Q :=
  ⟨.non, rfl, fun a dx H2 m => ⟨a, C, dx, _, .non, rfl, m.ea, xf, nv, m.ed, look1, k H2 m.sm⟩⟩
end Kx
namespace Kx
open PySem PySem.Spec PyProof.Rows L2
theorem eq_bools {K : PySem.W.Frag} {H : Hp} {a b : Addr} {Q : VK} (bs : List Bool) (h1 : H a = some (.lst (bs.map V.bl))) (h2 : H b = some (.lst (bs.map V.bl))) (q : Q (.bl true) H) : rEqD K (.ref a) (.ref b) H Q :=
  ⟨_, _, .lst (SqL.of h1) (dpAll_bools bs), .lst (SqL.of h2) (dpAll_bools bs), shaped_bools bs, shaped_bools bs, by rw [eqv_same (shaped_bools bs)]; exact q⟩
end Kx
namespace Kx
open PySem PySem.Spec PyProof.Rows L2
/-- the __init__ in a class's text -/
def initOf : Stmt → Stmt
  | .ClassDef (body := b) .. => b.getD 0 (.Pass ⟨0, 0, 0, 0⟩)
  | _ => .Pass ⟨0, 0, 0, 0⟩
/-- how the __init__ of an error binds -/
theorem init_binds {K : PySem.W.Frag} {qual : Str} {params : Arguments} {body : List Stmt} {scope : Scope} {f : Addr} {fd : FuncData} (F : FunD K "__init__" qual params body scope [V.non] [] f fd)
    (h1 : ∀ (T : Addr) (kV doc pm : Value) (an : Option Addr) (cdv ct u v d : Value), ∃ k, bindArgs (PySem.W.fnOf "__init__" qual params body scope (.ref T) kV doc pm an cdv ct) ⟨[u, v], []⟩ = seqItems? (.ref T) >>= k ∧ k (some [d].toArray) = pure ((["self", "value"] : List Str).zip [u, v]))
    (h0 : ∀ (T : Addr) (kV doc pm : Value) (an : Option Addr) (cdv ct u d : Value), ∃ k, bindArgs (PySem.W.fnOf "__init__" qual params body scope (.ref T) kV doc pm an cdv ct) ⟨[u], []⟩ = seqItems? (.ref T) >>= k ∧ k (some [d].toArray) = pure ((["self", "value"] : List Str).zip [u, d]))
    (hk : ∀ (T : Addr) (kV doc pm : Value) (an : Option Addr) (cdv ct u v d : Value), ∃ k, bindArgs (PySem.W.fnOf "__init__" qual params body scope (.ref T) kV doc pm an cdv ct) ⟨[u], [("value", v)]⟩ = seqItems? (.ref T) >>= k ∧ k (some [d].toArray) = pure ((["self", "value"] : List Str).zip [u, v])) :
    Binds K fd ["self", "value"] [] ∧ (∃ ds, Vals [V.non] ds ∧ Binds K fd ["self", "value"] ds) ∧ ∀ (s : Shared) (u v : Value), K.In s.heap → BindsTo s fd ⟨[u], [("value", v)]⟩ [("self", u), ("value", v)] := by
  refine ⟨?_, ?_, ?_⟩
  · obtain ⟨ds, hv, hb⟩ := F.binds1 (ps := ["self", "value"]) 2 1 (by simp) (by decide) (fun T kV doc pm an cdv ct us its l1 l2 => by
      match us, its, l1, l2 with
      | [u, v], [d], _, _ => exact h1 T kV doc pm an cdv ct u v d)
    cases hv
    exact hb
  · obtain ⟨ds, hv, hb⟩ := F.binds1 (ps := ["self", "value"]) 1 0 (by simp) (by decide) (fun T kV doc pm an cdv ct us its l1 l2 => by
      match us, its, l1, l2 with
      | [u], [d], _, _ => exact h0 T kV doc pm an cdv ct u d)
    exact ⟨ds, hv, hb⟩
  · obtain ⟨oc, od, dV, kV, doc, pm, an, cdv, ct, osl, rfl, lk, hcd, hD, hK⟩ := F.ex
    rcases hD with ⟨e, _⟩ | ⟨_, T, o, its, m, rfl, lT, oT, rT⟩
    · exact absurd e (by simp)
    · intro s u v X
      cases rT with
      | @cons _ d _ dr r1 r2 =>
        cases r2
        obtain ⟨k, e1, e2⟩ := hk T kV doc pm an cdv ct u v d
        refine BindsTo.of_looks fun M => ?_
        rw [e1]
        exact looks_items X lT oT (.of_pure e2)
/-- an error class's facts, by the written part's words -/
theorem errN_mk {P : Program} {w : World} {K : PySem.W.Frag} {mg : Str → Option Value} {base : Heap} {x : Str} {C fI : Addr} {fd : FuncData} (iC : PySem.W.findIn K (.ref C) "__init__" = some (some (.ref fI))) (tI : PySem.W.typeIn K (.ref fI) = some (.type "function"))
    (F : FnOk P w K mg base CX0 1 fI fd ["self", "value"] (spInit C)) (B : Binds K fd ["self", "value"] [] ∧ (∃ ds, Vals [V.non] ds ∧ Binds K fd ["self", "value"] ds) ∧ ∀ (s : Shared) (u v : Value), K.In s.heap → BindsTo s fd ⟨[u], [("value", v)]⟩ [("self", u), ("value", v)])
    (T : OexC K C) (m : mg x = some (.ref C)) (ga : PySem.W.findIn K (.ref C) "__getattribute__" = some (some (.builtin "BaseException.__getattribute__"))) (gg : PySem.W.findIn K (.ref C) "__getattr__" = some none)
    (hd : PySem.W.hasDictIn K C = true) (ec : L2.ExcC K C) (nv : PySem.W.findIn K (.ref C) "value" = some none) : ErrN P w K mg base x C fI fd :=
  ⟨iC, tI, F, B.1, B.2.1, B.2.2, T, m, ⟨ga, gg, T.exC, hd⟩, ec, nv⟩
end Kx

set_option Elab.async false
set_option linter.all false
set_option maxRecDepth 100000
set_option maxHeartbeats 4000000
set_option exponentiation.threshold 4000
/-! Defs that refuse. -/
namespace Kx
open PySem PySem.Spec PyProof.Rows L2
/-- an error of the class C with the value v may come -/
def Err (H : Hp) (E : XK) (C : Addr) (v : V) : Prop := ∀ d H', Same H H' → H' d = some (.xd [("value", v)]) → E (.ref C) (some d) H'
theorem Err.same {H H' : Hp} {E : XK} {C : Addr} {v : V} (h : Err H E C v) (s : Same H H') : Err H' E C v := fun d H2 s2 e => h d H2 (s.trans s2) e
theorem Err.now {H H1 : Hp} {E : XK} {C : Addr} {v : V} (h : Err H E C v) (s : Same H H1) : ∀ d, H1 d = none → E (.ref C) (some d) (L2.upd H1 d (.xd [("value", v)])) := fun d nd => h d _ (s.trans (Same.upd nd)) upd_same
/-- what comes of a call: it is let, or refused -/
inductive Oc where
  | ok
  | err (C : Addr) (v : V)
def Meets (H : Hp) (Q : VK) (E : XK) : Oc → Prop
  | .ok => ∀ r H', Same H H' → Q r H'
  | .err C v => Err H E C v
theorem Meets.same {H H' : Hp} {Q : VK} {E : XK} {o : Oc} (h : Meets H Q E o) (s : Same H H') : Meets H' Q E o := by
  cases o with
  | ok => exact fun r H2 s2 => h r H2 (s.trans s2)
  | err C v => exact Err.same h s
def ocM (CM : Addr) (x : V) (k : Int → Oc) : Oc := if measB x then (match x with | .int D => k D | _ => .ok) else .err CM x
def ocRoots (CR : Addr) (D : Int) (H : Hp) : List V → Oc → Oc
  | [], o => o
  | r :: rs, o => if rootB D H r then ocRoots CR D H rs o else .err CR r
/-- check_measure -/
def spCheckMeasureX (CM : Addr) : Sp := fun vs H Q E => ∃ x, vs = [x] ∧ OkItem H x ∧ (measB x = true → Q .non H) ∧ (measB x = false → Err H E CM x)
/-- _check: the measure, then the root numbers in their order -/
def spCheckX (CM CR : Addr) : Sp := fun vs H Q E => ∃ (x : V) (a : Addr) (rs : List V), vs = [x, .ref a] ∧ OkItem H x ∧ (∀ D, x = .int D → D < 2 ^ 1000) ∧ H a = some (.tup rs) ∧ (∀ r ∈ rs, OkV H r) ∧ Meets H Q E (ocM CM x fun D => ocRoots CR D H rs .ok)
theorem measB_get {x : V} (h : measB x = true) : ∃ D, x = .int D ∧ Meas D := by
  cases x with
  | int D =>
    rw [measB_int, Bool.and_eq_true, decide_eq_true_eq, decide_eq_true_eq] at h
    exact ⟨D, rfl, h⟩
  | _ => cases h
theorem rootB_get {D : Int} {H : Hp} {x : V} (h : rootB D H x = true) : ∃ a t, x = .ref a ∧ RootAt D H a t := by
  have hw : wholesB H 3 x = true := by
    unfold rootB at h
    exact (Bool.and_eq_true_iff.mp h).1
  obtain ⟨a, i, j, l, rfl, ha⟩ := wholes3 hw
  rw [rootB3 ha] at h
  simp only [Bool.and_eq_true, decide_eq_true_eq, Bool.or_eq_true, Bool.not_eq_true', decide_eq_false_iff_not] at h
  obtain ⟨h1, h2, h3⟩ := h
  have hp := gcdI_pos (a := gcdI i j) (show l ≠ 0 by omega)
  exact ⟨a, (i, j, l), rfl, ha, h1, show gcdI (gcdI i j) l = 1 by omega, h3⟩
theorem ocRoots_same {CR : Addr} {D : Int} {H H' : Hp} (s : Same H H') {o : Oc} : ∀ {rs : List V}, (∀ r ∈ rs, OkV H r) → ocRoots CR D H' rs o = ocRoots CR D H rs o
  | [], _ => rfl
  | r :: rs, h => by
    unfold ocRoots
    rw [rootB_same s (h r (List.mem_cons_self ..)).1, ocRoots_same s fun q hq => h q (List.mem_cons_of_mem _ hq)]
theorem ErrN.c {P : Program} {w : World} {K : PySem.W.Frag} {mg : Str → Option Value} {base : Heap} {x : Str} {C fI : Addr} {fd : FuncData} (E : ErrN P w K mg base x C fI fd) : ErrC P w K mg base x C := ⟨⟨fI, fd, E.iC, E.tI, E.F, E.b1⟩, E.T, E.m, E.xf, E.ec, E.nv⟩
end Kx
namespace Kx
open PySem PySem.Spec PyProof.Rows L2
theorem meets_roots0 {CR : Addr} {D : Int} {H H1 : Hp} {Q Q1 : VK} {E : XK} {o : Oc} (s : Same H H1) : ∀ {rs : List V}, (∀ r ∈ rs, OkV H r) → Meets H Q E (ocRoots CR D H rs o) → ((∀ r ∈ rs, rootB D H r = true) → Meets H Q E o → ∀ r H2, Same H1 H2 → Q1 r H2) → Meets H1 Q1 E (ocRoots CR D H1 rs .ok)
  | [], _, kk, k => fun r H2 s2 => k (fun r hr => absurd hr List.not_mem_nil) kk r H2 s2
  | r :: rs, hok, kk, k => by
    unfold ocRoots at kk ⊢
    rw [rootB_same s (hok r (List.mem_cons_self ..)).1]
    cases hb : rootB D H r with
    | true =>
      rw [if_pos hb] at kk
      rw [if_pos rfl]
      exact meets_roots0 s (fun q hq => hok q (List.mem_cons_of_mem _ hq)) kk fun h => k fun q hq => by
        rcases List.mem_cons.mp hq with rfl | hq
        · exact hb
        · exact h q hq
    | false =>
      rw [if_neg (by rw [hb]; decide)] at kk
      rw [if_neg (by decide)]
      exact Err.same kk s
theorem meets_roots {CM CR : Addr} {x : V} {H H1 : Hp} {Q Q1 : VK} {E : XK} {o : Int → Oc} {rs : List V} (s : Same H H1) (hok : ∀ r ∈ rs, OkV H r) (kk : Meets H Q E (ocM CM x fun D => ocRoots CR D H rs (o D)))
    (k : ∀ D, x = .int D → Meas D → (∀ r ∈ rs, rootB D H r = true) → Meets H Q E (o D) → ∀ r H2, Same H1 H2 → Q1 r H2) : Meets H1 Q1 E (ocM CM x fun D => ocRoots CR D H1 rs .ok) := by
  unfold ocM at kk ⊢
  cases hm : measB x with
  | true =>
    obtain ⟨D, rfl, hM⟩ := measB_get hm
    rw [if_pos hm] at kk
    rw [if_pos rfl]
    exact meets_roots0 s hok kk fun h => k D rfl hM h
  | false =>
    rw [if_neg (by rw [hm]; decide)] at kk
    rw [if_neg (by decide)]
    exact Err.same kk s
def zeroB (H : Hp) : V → Bool
  | .ref a => match H a with
    | some (.tup [.int x, .int y, .int _]) => decide (x = 0) && decide (y = 0)
    | _ => false
  | _ => false
theorem zeroB_at {H : Hp} {a : Addr} {D : Int} {t : Int × Int × Int} (h : RootAt D H a t) : zeroB H (.ref a) = (decide (t.1 = 0) && decide (t.2.1 = 0)) := by
  unfold zeroB
  simp only [h.1, rootV]
/-- what stands there is small -/
def SzV (H : Hp) (n : Nat) (o : V) : Prop := ∀ (a : Addr) (D : Int) (t : Int × Int × Int), o = .ref a → RootAt D H a t → Sz n t
structure Ask2 (H : Hp) (x o1 o2 : V) : Prop where
  ox : OkItem H x
  d : ∀ D : Int, x = .int D → D < 2 ^ 200
  v1 : OkV H o1
  v2 : OkV H o2
  z1 : SzV H 300 o1
  z2 : SzV H 300 o2
theorem Ask2.two {H : Hp} {x o1 o2 : V} (A : Ask2 H x o1 o2) {D : Int} (e : x = .int D) (hM : Meas D) (h : ∀ r ∈ [o1, o2], rootB D H r = true) : ∃ a b t u, o1 = .ref a ∧ o2 = .ref b ∧ Two D H a b t u 300 300 := by
  obtain ⟨a, t, rfl, ra⟩ := rootB_get (h o1 (by simp))
  obtain ⟨b, u, rfl, rb⟩ := rootB_get (h o2 (by simp))
  exact ⟨a, b, t, u, rfl, rfl, hM, A.d D e, ra, rb, A.z1 a D t rfl ra, A.z2 b D u rfl rb⟩
theorem Ask2.all {H : Hp} {x o1 o2 : V} (A : Ask2 H x o1 o2) : ∀ r ∈ [o1, o2], OkV H r := fun r hr => by
  simp only [List.mem_cons, List.not_mem_nil, or_false] at hr
  rcases hr with rfl | rfl
  · exact A.v1
  · exact A.v2
/-- root_plus, root_less, root_times -/
def spRoot2X (CM CR : Addr) : Sp := fun vs H Q E => ∃ x o1 o2 : V, vs = [x, o1, o2] ∧ Ask2 H x o1 o2 ∧ Meets H Q E (ocM CM x fun D => ocRoots CR D H [o1, o2] .ok)
def spRootOverX (CM CR : Addr) : Sp := fun vs H Q E => ∃ x o1 o2 : V, vs = [x, o1, o2] ∧ Ask2 H x o1 o2 ∧ Meets H Q E (ocM CM x fun D => ocRoots CR D H [o1, o2] (if zeroB H o2 then .err CR o2 else .ok))
/-- root_side, root_floor -/
def spRoot1X (CM CR : Addr) : Sp := fun vs H Q E => ∃ x o : V, vs = [x, o] ∧ OkItem H x ∧ (∀ D, x = .int D → D < 2 ^ 200) ∧ OkV H o ∧ SzV H 300 o ∧ Meets H Q E (ocM CM x fun D => ocRoots CR D H [o] .ok)
/-- is_root: the value may be anything -/
def spIsRootX (CM : Addr) : Sp := fun vs H Q E => ∃ x o : V, vs = [x, o] ∧ OkItem H x ∧ (∀ D, x = .int D → D < 2 ^ 200) ∧ OkV H o ∧ Meets H Q E (ocM CM x fun _ => .ok)
def ocNums (CN : Addr) : List V → Oc → Oc
  | [], o => o
  | r :: rs, o => if isIntV r then ocNums CN rs o else .err CN r
def isZero : V → Bool
  | .int i => decide (i = 0)
  | _ => false
def spRootNumberX (CM CN : Addr) : Sp := fun vs H Q E => ∃ x a b c : V, vs = [x, a, b, c] ∧ OkItem H x ∧ (∀ D, x = .int D → D < 2 ^ 200) ∧ (∀ r ∈ [a, b, c], OkItem H r ∧ ∀ i, r = .int i → i.natAbs < 2 ^ 300) ∧ Meets H Q E (ocM CM x fun _ => ocNums CN [a, b, c] (if isZero c then .err CN c else .ok))
end Kx
namespace Kx
open PySem PySem.Spec PyProof.Rows L2
/-- the doors of k05: the four sums, side, floor, is_root, root_number -/
def ocAsked (CM CR CN : Addr) (H : Hp) (k : Nat) (g : List V) : Oc :=
  let g0 := g.getD 0 .non; let g1 := g.getD 1 .non; let g2 := g.getD 2 .non; let g3 := g.getD 3 .non
  if k < 3 then ocM CM g0 fun D => ocRoots CR D H [g1, g2] .ok
  else if k = 3 then ocM CM g0 fun D => ocRoots CR D H [g1, g2] (if zeroB H g2 then .err CR g2 else .ok)
  else if k < 6 then ocM CM g0 fun D => ocRoots CR D H [g1] .ok
  else if k = 6 then ocM CM g0 fun _ => .ok
  else ocM CM g0 fun _ => ocNums CN [g1, g2, g3] (if isZero g3 then .err CN g3 else .ok)
/-- what may be handed in there -/
structure Hand (H : Hp) (k : Nat) (g : List V) : Prop where
  ln : (if k < 4 then 3 else if k < 7 then 2 else 4) ≤ g.length
  d : ∀ D : Int, g.getD 0 .non = .int D → D < 2 ^ 200
  v : ∀ x ∈ g, OkV H x ∧ SzV H 300 x ∧ ∀ i : Int, x = .int i → i.natAbs < 2 ^ 300
def spAskedX (CM CR CN : Addr) : Sp := fun vs H Q E => ∃ (k : Nat) (q : Addr) (g : List V), vs = [.int k, .ref q] ∧ k < 8 ∧ H q = some (.lst g) ∧ Hand H k g ∧ Meets H Q E (ocAsked CM CR CN H k g)
theorem zeroB_same {H H' : Hp} {x : V} (s : Same H H') (h : OkItem H x) : zeroB H' x = zeroB H x := by
  cases x with
  | ref a =>
    obtain ⟨o, ho⟩ := h.at
    unfold zeroB
    simp only [ho, s _ _ ho]
  | _ => rfl
theorem SzV.same {H H' : Hp} {n : Nat} {x : V} (h : SzV H n x) (hO : OkItem H x) (s : Same H H') : SzV H' n x := fun a D t e r => by
  subst e
  obtain ⟨o, ho⟩ := hO.at
  have := s _ _ ho
  rw [r.1] at this
  cases this
  exact h a D t rfl ⟨ho, r.2⟩
theorem Ask2.same {H H' : Hp} {x o1 o2 : V} (A : Ask2 H x o1 o2) (s : Same H H') : Ask2 H' x o1 o2 := ⟨A.ox.same s, A.d, A.v1.same s, A.v2.same s, A.z1.same A.v1.1 s, A.z2.same A.v2.1 s⟩
theorem meets_move {CM CR : Addr} {x : V} {H H1 : Hp} {Q : VK} {E : XK} {o o1 : Oc} {rs : List V} (s : Same H H1) (hok : ∀ r ∈ rs, OkV H r) (e : o1 = o) (kk : Meets H Q E (ocM CM x fun D => ocRoots CR D H rs o)) : Meets H1 Q E (ocM CM x fun D => ocRoots CR D H1 rs o1) := by
  subst e
  have ef : (fun D => ocRoots CR D H1 rs o1) = fun D => ocRoots CR D H rs o1 := funext fun D => ocRoots_same s hok
  rw [ef]
  exact kk.same s
end Kx
namespace Kx
open PySem PySem.Spec PyProof.Rows L2
theorem countU {y : V} {uy : Value} (ry : RelV y uy) : ∀ {ys : List V} {us : List Value}, Vals ys us → ys.all flatV = true → us.countP (eqU y) = ys.countP (fun z => eqV z y)
  | [], _, h, _ => by
    cases h
    rfl
  | z :: ys, _, h, f => by
    cases h with
    | cons r rs =>
      rw [List.all_cons, Bool.and_eq_true] at f
      rw [List.countP_cons, List.countP_cons, countU ry rs f.2, eqU_of r f.1]
/-- l.count(x), flat items -/
def rCountF (K : PySem.W.Frag) : V → List V → Hp → VK → Prop := fun x xs H Q => ∃ (a : Addr) (ys : List V) (y : V), x = .ref a ∧ xs = [y] ∧ SqL K H a ys ∧ flatV y = true ∧ ys.all flatV = true ∧ Q (.int (ys.countP (fun z => eqV z y) : Nat)) H
theorem mt_countF {X : Cx} : MtR X "list.count" (rCountF X.K) := by
  intro pins s σ H x xs v us Q I rx rxs h
  obtain ⟨a, ys, y, rfl, rfl, hs, fy, fys, q⟩ := h
  cases rx
  cases rxs with
  | cons ry rt =>
    rename_i uy ut
    cases rt
    obtain ⟨its, rv, ⟨⟨cls, dd, data, sl⟩, n, ho, hc, hdn, hd⟩, hlen⟩ := I.list hs
    simp only at hc hd
    subst hc hd
    refine call_meets PySem.F.slot_list_count ⟨_, ho, rfl⟩ PySem.F.entry_list_count (PySem.F.args_list_count_2 _ _)
      (SeqAt.list_countAt a its.toArray n dd sl uy (eqU y)) ⟨ho, fun u' hu' => mem_eqAt ry fy rv fys u' (by simpa using hu'), ?_⟩
    refine ⟨.int (ys.countP (fun z => eqV z y) : Nat), H, I.tok _, ⟨s.toks, ?_⟩, q⟩
    show Value.int ((its.toArray.toList.countP (eqU y) : Nat) : Int) s.toks = _
    rw [show its.toArray.toList = its from rfl, countU ry rv fys]
end Kx
namespace Kx
open PySem PySem.Spec PyProof.Rows L2
/-- what the law tells of a call: let, or the error's kind and value -/
def toldL (CM CR : Addr) : Oc → List V
  | .ok => [.str "let"]
  | .err C v => [.str (if C = CM then "measure" else if C = CR then "root" else "number"), v]
def spTold5 (CM CR CN : Addr) : Sp := fun vs H Q _ => ∃ (k : Nat) (q : Addr) (g : List V), vs = [.int k, .ref q] ∧ k < 8 ∧ H q = some (.lst g) ∧ Hand H k g ∧ ∀ L H', L ≠ sysModules → Same H H' → H' L = some (.lst (toldL CM CR (ocAsked CM CR CN H k g))) → Q (.ref L) H'
end Kx
namespace Kx
open PySem PySem.Spec PyProof.Rows L2
/-- what the written part says of three classes of errors under one -/
structure Kit3 (K : PySem.W.Frag) (C0 C1 C2 S : Addr) : Prop where
  ex : ∀ C ∈ [C0, C1, C2], PySem.W.exmOne K (.ref C) (.ref S) = some true
  kit : ∀ (i j : Nat) (C D : Addr), [C0, C1, C2][i]? = some C → [C0, C1, C2][j]? = some D → PySem.W.kitOne K (.ref C) (.ref D) = some (decide (j = i))
  kv : ∀ C ∈ [C0, C1, C2], PySem.W.kitOne K (.ref C) (.type "ValueError") = some true
  ec : ∀ C ∈ [C0, C1, C2], L2.ExcC K C
  xf : ∀ C ∈ [C0, C1, C2], XfC K C
  nv : ∀ C ∈ [C0, C1, C2], PySem.W.findIn K (.ref C) "value" = some none
def Oc.in3 (CM CR CN : Addr) : Oc → Prop
  | .ok => True
  | .err C _ => C ∈ [CM, CR, CN]
theorem ocM_in {CM CR CN : Addr} {x : V} {k : Int → Oc} (h : ∀ D, (k D).in3 CM CR CN) : (ocM CM x k).in3 CM CR CN := by
  unfold ocM
  split
  · split
    · exact h _
    · trivial
  · show CM ∈ [CM, CR, CN]
    simp
theorem ocRoots_in {CM CR CN : Addr} {D : Int} {H : Hp} {o : Oc} (ho : o.in3 CM CR CN) : ∀ rs : List V, (ocRoots CR D H rs o).in3 CM CR CN
  | [] => ho
  | r :: rs => by
    unfold ocRoots
    split
    · exact ocRoots_in ho rs
    · show CR ∈ [CM, CR, CN]
      simp
theorem ocNums_in {CM CR CN : Addr} {o : Oc} (ho : o.in3 CM CR CN) : ∀ rs : List V, (ocNums CN rs o).in3 CM CR CN
  | [] => ho
  | r :: rs => by
    unfold ocNums
    split
    · exact ocNums_in ho rs
    · show CN ∈ [CM, CR, CN]
      simp
theorem ocAsked_in {CM CR CN : Addr} {H : Hp} {k : Nat} {g : List V} : (ocAsked CM CR CN H k g).in3 CM CR CN := by
  unfold ocAsked
  dsimp only
  split
  · exact ocM_in fun D => ocRoots_in (o := .ok) True.intro _
  · split
    · refine ocM_in fun D => ocRoots_in ?_ _
      split
      · show CR ∈ [CM, CR, CN]
        simp
      · trivial
    · split
      · exact ocM_in fun D => ocRoots_in (o := .ok) True.intro _
      · split
        · exact ocM_in fun D => trivial
        · refine ocM_in fun D => ocNums_in ?_ _
          split
          · show CN ∈ [CM, CR, CN]
            simp
          · trivial
theorem isKe {K : PySem.W.Frag} {H : Hp} {a D dd : Addr} {fs : List (Str × V)} {c : V} {cv : Value} {b : Bool} {Q : VK} (e1 : H a = some (ExK (.ref D) (some dd) a)) (e2 : H dd = some (.xd fs)) (hX : L2.ExcC K D) (hc : ∀ u, RelV c u → u = cv) (hk : PySem.W.kitOne K (.ref D) cv = some b) (q : Q (.bl b) H) : rIsK K [.ref a, c] H Q := ⟨a, D, dd, fs, c, cv, b, rfl, e1, e2, hX, hc, hk, q⟩
end Kx

set_option Elab.async false
set_option linter.all false
set_option maxRecDepth 100000
set_option maxHeartbeats 4000000
set_option exponentiation.threshold 4000
/-! Odd values that are shown, a dict among them. -/
namespace Kx
open PySem PySem.Spec PyProof.Rows L2
/-- a new list stands behind all that the start brings -/
def tLstB (t : TA) : TE := fun σ H Q => t σ H fun xs H1 => xs.length ≤ sizeLine ∧ ∀ p, H1 p = none → p ≠ sysModules → Q (.ref p) (upd H1 p (.lst xs))
theorem pe_lstB {X : Cx} {es : List Expr} {t : TA} {pos : Pos} (h : PA X es t) : PE X (.List es pos) (tLstB t) := by
  refine ⟨fun pins s σ H Q I hq => ?_⟩
  refine wpAny_List_spliced (thn (h.run pos pins s σ H _ I hq) fun us s1 ⟨xs, H1, I1, r, z, q⟩ => ⟨by rw [← r.length]; exact z, ?_⟩)
  have hf : H1 s1.heap.objs.size = none := I1.hok.fresh (Nat.le_refl _)
  refine ⟨.ref s1.heap.objs.size, upd H1 s1.heap.objs.size (.lst xs), I1.laid (t' := s1.toks) (fun b u e => Heap.get?_push_of_some _ e) (Nat.le_refl _) ?_, rfl, q _ hf (Nat.ne_of_gt I1.big)⟩
  exact ⟨z, us, 0, r, Heap.get?_push_size _ rfl⟩
theorem dict0_reads {X : Cx} {pins : List (Addr × Obj)} {σ : SV} {H : Hp} {s : Shared} {a : Addr} (I : Inv X pins σ H s) (e : H a = some (.dK [])) : a ≠ sysModules ∧ Reads s.heap (.ref a) (.dict []) [a] := by
  obtain ⟨z, hd, vs, rel, o, es, ep, ho, hx, hdat, hk, hp, hn⟩ := dk_of I.hok e
  have hvs : vs = [] := by cases rel; rfl
  subst hvs
  have hes : es.toList = [] := by
    generalize es.toList = l at hp
    cases hp
    rfl
  refine ⟨by simpa using hd, ?_⟩
  exact Reads.dict (kvs := []) (as := []) (bs := []) ho hx.1 hdat (by rw [hes]; exact .nil) (by rw [hes]; exact .nil)
/-- what may be shown: plain data, the empty dict, a list of a text and it -/
inductive Dq (K : PySem.W.Frag) (H : Hp) : V → PyData → Prop
  | rp {x : V} {d : PyData} : Rp K H x d → Dq K H x d
  | dc {a : Addr} : H a = some (.dK []) → Dq K H (.ref a) (.dict [])
  | lc {L a : Addr} {z : Str} : L ≠ sysModules → H L = some (.lst [.str z, .ref a]) → H a = some (.dK []) → (reprText z).length ≤ 1000 → Dq K H (.ref L) (.list [.str z, .dict []])
  | lb {L a : Addr} {b : Bool} : L ≠ sysModules → H L = some (.lst [.bl b, .ref a]) → H a = some (.dK []) → Dq K H (.ref L) (.list [.bool b, .dict []])
theorem shown_lc {z : Str} (h : (reprText z).length ≤ 1000) : (PyData.list [.str z, .dict []]).shown.length ≤ sizeLine := by
  have e : (PyData.list [.str z, .dict []]).shown = listText [reprText z, (PyData.dict []).shown] := by simp only [PyData.shown, PyData.shownAll]
  rw [e]
  have h1 := listText_le [reprText z, (PyData.dict []).shown]
  rw [piled_cons, piled_cons] at h1
  have h2 : (PyData.dict []).shown.length = 2 := by decide +kernel
  have h3 : piled [] = 0 := rfl
  rw [sizeLine_eq]
  omega
theorem cr_reprQ {X : Cx} (gd : X.A.guards = some []) (hu : X.A.units + 64 < cLine) : CallR X (.builtin "repr") (fun vs H Q => ∃ (x : V) (d : PyData), vs = [x] ∧ Dq X.K H x d ∧ Q (.str d.shown) H) := by
  intro pins s σ H vs us Q I r h
  obtain ⟨x, d, rfl, hd, q⟩ := h
  cases hd with
  | rp R => exact cr_reprR gd hu pins s σ H _ us Q I r ⟨x, d, rfl, R, q⟩
  | @dc a e =>
    obtain ⟨u, rfl, rx⟩ := vals1 r
    cases rx
    obtain ⟨ne, rd⟩ := dict0_reads I e
    exact repr_of_reads' rd rfl (fun _ => by simpa using Ne.symm ne) gd (by simp only [PyData.depth, PyData.depthKv]; omega) (fun _ _ z => z) (fun h' t tk hk => ⟨.str _, H, I.kept hk, ⟨_, rfl⟩, q⟩) (by decide +kernel)
  | @lc L a z nL eL e hz =>
    obtain ⟨u, rfl, rx⟩ := vals1 r
    cases rx
    obtain ⟨ne, rd⟩ := dict0_reads I e
    obtain ⟨its, rv, ⟨o, n, ho, hc, _, hdt⟩, _⟩ := I.list (SqL.of eL)
    cases rv with
    | cons r1 r2 =>
      cases r2 with
      | cons r2 r3 =>
        cases r3
        obtain ⟨t, rfl⟩ := r1
        cases r2
        have rl : Reads s.heap (.ref L) (.list [.str z, .dict []]) (L :: ([] ++ ([a] ++ []))) := Reads.list ho hc hdt (.cons (.str z t) (.cons rd .nil))
        exact repr_of_reads' rl rfl (fun _ => by simp [Ne.symm ne, Ne.symm nL]) gd (by simp only [PyData.depth, PyData.depthKv, PyData.depthAll]; omega) (fun _ _ z => z) (fun h' t tk hk => ⟨.str _, H, I.kept hk, ⟨_, rfl⟩, q⟩) (shown_lc hz)
  | @lb L a b nL eL e =>
    obtain ⟨u, rfl, rx⟩ := vals1 r
    cases rx
    obtain ⟨ne, rd⟩ := dict0_reads I e
    obtain ⟨its, rv, ⟨o, n, ho, hc, _, hdt⟩, _⟩ := I.list (SqL.of eL)
    cases rv with
    | cons r1 r2 =>
      cases r2 with
      | cons r2 r3 =>
        cases r3
        cases r1
        cases r2
        have rl : Reads s.heap (.ref L) (.list [.bool b, .dict []]) (L :: ([] ++ ([a] ++ []))) := Reads.list ho hc hdt (.cons (.bool b) (.cons rd .nil))
        exact repr_of_reads' rl rfl (fun _ => by simp [Ne.symm ne, Ne.symm nL]) gd (by simp only [PyData.depth, PyData.depthKv, PyData.depthAll]; omega) (fun _ _ z => z) (fun h' t tk hk => ⟨.str _, H, I.kept hk, ⟨_, rfl⟩, q⟩) (by cases b <;> decide +kernel)
/-- an odd value's data -/
inductive Oq (K : PySem.W.Frag) (H : Hp) : V → PyData → Prop
  | it {x : V} {d : PyData} : It K H x d → Oq K H x d
  | dc {a : Addr} : H a = some (.dK []) → Oq K H (.ref a) (.dict [])
def DueT (z : Str) : Prop := (PyData.str z).showable = true ∧ (reprText z).length ≤ 1000 ∧ (PyData.str z).canLay0 = true
section
variable {K : PySem.W.Frag} {H H' : Hp} {x : V} {d : PyData}
theorem Oq.same (h : Oq K H x d) (s : Same H H') : Oq K H' x d := by
  cases h with
  | it i => exact .it (i.same s)
  | dc e => exact .dc (s _ _ e)
theorem Oq.dq (h : Oq K H x d) : Dq K H x d := by
  cases h with
  | it i => exact .rp ⟨i.dp, i.sh, i.nd, Nat.le_trans i.de (by decide), Nat.le_trans i.co (by decide)⟩
  | dc e => exact .dc e
theorem Oq.two {L : Addr} {z : Str} (h : Oq K H x d) (hz : DueT z) (nL : L ≠ sysModules) (e : H L = some (.lst [.str z, x])) : Dq K H (.ref L) (.list [.str z, d]) := by
  cases h with
  | it i => exact .rp (rp_two e (.str hz.1 (by simp only [cost]; exact Nat.le_trans hz.2.1 (by decide)) hz.2.2) i)
  | dc e2 => exact .lc nL e e2 hz.2.1
end
theorem Oq.twoB {K : PySem.W.Frag} {H : Hp} {x : V} {d : PyData} {L : Addr} {b : Bool} (h : Oq K H x d) (nL : L ≠ sysModules) (e : H L = some (.lst [.bl b, x])) : Dq K H (.ref L) (.list [.bool b, d]) := by
  cases h with
  | it i => exact .rp (rp_two e .bl i)
  | dc e2 => exact .lb nL e e2
/-- a value that is handed in where it may be refused -/
structure OddV (K : PySem.W.Frag) (H : Hp) (x : V) (d : PyData) : Prop where
  q : Oq K H x d
  ok : OkV H x
  z : SzV H 300 x
  i : ∀ i : Int, x = .int i → i.natAbs < 2 ^ 150
theorem OddV.same {K : PySem.W.Frag} {H H' : Hp} {x : V} {d : PyData} (h : OddV K H x d) (s : Same H H') : OddV K H' x d := ⟨h.q.same s, h.ok.same s, h.z.same h.ok.1 s, h.i⟩
end Kx
namespace Kx
open PySem PySem.Spec PyProof.Rows L2
theorem sml {n : Nat} (h : n ≤ 1000) : n ≤ sizeLine := Nat.le_of_lt (small1000 h)
/-- what stands behind the odd value -/
def BehOk (H : Hp) (b : V) : Prop := OkV H b ∧ SzV H 300 b ∧ ∀ i : Int, b = .int i → i.natAbs < 2 ^ 150
theorem BehOk.same {H H' : Hp} {b : V} (h : BehOk H b) (s : Same H H') : BehOk H' b := ⟨h.1.same s, h.2.1.same h.1.1 s, h.2.2⟩
/-- all doors refuse the odd value, whatever stands behind it -/
def spAllRefused (K : PySem.W.Frag) (CM CR CN : Addr) : Sp := fun vs H Q _ => ∃ (dr gv : Addr) (due : Str) (odd : V) (ks : List Nat) (g : List V) (d : PyData), vs = [.ref dr, .ref gv, .str due, odd] ∧ H dr = some (.lst (ks.map fun k : Nat => V.int (k : Int))) ∧ H gv = some (.lst g) ∧ g.length ≤ 4 ∧ (∀ k ∈ ks, k < 8) ∧ ks.length ≤ 8 ∧ DueT due ∧ OddV K H odd d ∧
  (∀ H' b, Same H H' → BehOk H' b → ∀ k ∈ ks, Hand H' k (g ++ [odd] ++ [b, b, b]) ∧ toldL CM CR (ocAsked CM CR CN H' k (g ++ [odd] ++ [b, b, b])) = [.str due, odd]) ∧ ∀ H', Same H H' → Q (.bl true) H'
theorem behOk_int {H : Hp} {i : Int} (h : i.natAbs < 2 ^ 150) : BehOk H (.int i) := ⟨okV_of (t := "int") rfl (by decide), fun a D t e => (by cases e), fun j e => (by cases e; exact h)⟩
theorem behOk_non {H : Hp} : BehOk H .non := ⟨okV_of (t := "NoneType") rfl (by decide), fun a D t e => (by cases e), fun j e => (by cases e)⟩
theorem behOk_tup3 {H : Hp} {p : Addr} {x y z : Int} (h : H p = some (.tup [.int x, .int y, .int z])) (hx : x.natAbs < 2 ^ 300) (hy : y.natAbs < 2 ^ 300) (hz : z.natAbs < 2 ^ 300) : BehOk H (.ref p) := by
  refine ⟨⟨⟨"tuple", tyS_tup h⟩, fun a xs e1 e2 y hy => ?_⟩, fun a D t e r => ?_, fun j e => by cases e⟩
  · cases e1
    rw [h] at e2
    cases e2
    simp only [List.mem_cons, List.not_mem_nil, or_false] at hy
    rcases hy with rfl | rfl | rfl <;> exact ⟨"int", rfl⟩
  · cases e
    have := r.1
    rw [h] at this
    obtain ⟨a1, a2, a3⟩ := t
    simp only [rootV, Option.some.injEq, HO.tup.injEq, List.cons.injEq, V.int.injEq, and_true] at this
    obtain ⟨rfl, rfl, rfl⟩ := this
    exact ⟨hx, hy, hz⟩
theorem OddV.beh {K : PySem.W.Frag} {H : Hp} {x : V} {d : PyData} (h : OddV K H x d) : BehOk H x := ⟨h.ok, h.z, h.i⟩
end Kx
namespace Kx
open PySem PySem.Spec PyProof.Rows L2
/-- an odd value that is no root number -/
def BadRoot (K : PySem.W.Frag) (D : Int) (H : Hp) (x : V) : Prop := ∃ d, OddV K H x d ∧ rootB D H x = false
theorem BadRoot.same {K : PySem.W.Frag} {D : Int} {H H' : Hp} {x : V} (h : BadRoot K D H x) (s : Same H H') : BadRoot K D H' x := by
  obtain ⟨d, h1, h2⟩ := h
  exact ⟨d, h1.same s, by rw [rootB_same s h1.ok.1]; exact h2⟩
section
variable {K : PySem.W.Frag} {D : Int} {H : Hp} {p : Addr} {xs : List V} {ds : List PyData}
theorem bad_non : BadRoot K D H .non := ⟨_, ⟨.it .non, okV_of (t := "NoneType") rfl (by decide), fun a D t e => (by cases e), fun j e => (by cases e)⟩, rootB_of (t := "NoneType") rfl (by decide)⟩
theorem bad_bl {b : Bool} : BadRoot K D H (.bl b) := ⟨_, ⟨.it .bl, okV_of (t := "bool") rfl (by decide), fun a D t e => (by cases e), fun j e => (by cases e)⟩, rootB_of (t := "bool") rfl (by decide)⟩
theorem bad_int {i : Int} (h : i.natAbs < 2 ^ 150) : BadRoot K D H (.int i) := ⟨_, ⟨.it (.int h (by decide)), okV_of (t := "int") rfl (by decide), fun a D t e => (by cases e), fun j e => (by cases e; exact h)⟩, rootB_of (t := "int") rfl (by decide)⟩
theorem bad_str {z : Str} (h : DueT z) : BadRoot K D H (.str z) := ⟨_, ⟨.it (.str h.1 (by simp only [cost]; exact Nat.le_trans h.2.1 (by decide)) h.2.2), okV_of (t := "str") rfl (by decide), fun a D t e => (by cases e), fun j e => (by cases e)⟩, rootB_of (t := "str") rfl (by decide)⟩
theorem bad_dict (h : H p = some (.dK [])) : BadRoot K D H (.ref p) := ⟨_, ⟨.dc h, okV_of (tyS_dK h) (by decide), fun a D t e r => (by cases e; exact absurd (h.symm.trans r.1) (by simp)), fun j e => (by cases e)⟩, rootB_of (tyS_dK h) (by decide)⟩
theorem bad_lst (h : H p = some (.lst xs)) (hi : ItAll K H xs ds) (h1 : PyData.depthAll ds ≤ 9) (h2 : costAll ds ≤ 90000) : BadRoot K D H (.ref p) := ⟨_, ⟨.it (it_lst h hi h1 h2), okV_of (tyS_lst h) (by decide), fun a D t e r => (by cases e; exact absurd (h.symm.trans r.1) (by simp)), fun j e => (by cases e)⟩, rootB_of (tyS_lst h) (by decide)⟩
theorem itAll_ok {vs : List V} (h : ItAll K H vs ds) : ∀ v ∈ vs, OkItem H v := (itAll_facts h).2.2.2.2.2.2.1
theorem szV_tup (h : H p = some (.tup xs)) (hz : ∀ i : Int, V.int i ∈ xs → i.natAbs < 2 ^ 300) : SzV H 300 (.ref p) := fun a D t e r => by
  cases e
  have := r.1
  rw [h] at this
  cases this
  exact ⟨hz _ (by simp [rootV]), hz _ (by simp [rootV]), hz _ (by simp [rootV])⟩
theorem odd_tup (h : H p = some (.tup xs)) (hi : ItAll K H xs ds) (h1 : PyData.depthAll ds ≤ 9) (h2 : costAll ds ≤ 90000) (hz : ∀ i : Int, V.int i ∈ xs → i.natAbs < 2 ^ 300) : OddV K H (.ref p) (.tuple ds) :=
  ⟨.it (it_tup h hi h1 h2), okV_tup h (itAll_ok hi), szV_tup h hz, fun j e => (by cases e)⟩
/-- a tuple of plain items but of another length or with a item that is no number -/
theorem bad_tup (h : H p = some (.tup xs)) (hi : ItAll K H xs ds) (h1 : PyData.depthAll ds ≤ 9) (h2 : costAll ds ≤ 90000) (hz : ∀ i : Int, V.int i ∈ xs → i.natAbs < 2 ^ 300) (hb : (decide ((xs.length : Int) = 3) && xs.all isIntV) = false) : BadRoot K D H (.ref p) :=
  ⟨_, odd_tup h hi h1 h2 hz, rootB_not (by rw [wholes_tup h]; exact hb)⟩
theorem bad_tri {x y z : Int} (h : H p = some (.tup [.int x, .int y, .int z])) (hx : x.natAbs < 2 ^ 300) (hy : y.natAbs < 2 ^ 300) (hz : z.natAbs < 2 ^ 300) (hb : (decide (1 ≤ z) && (decide (gcdI (gcdI x y) z ≤ 1) && (decide (y = 0) || !decide (Sq D)))) = false) : BadRoot K D H (.ref p) :=
  ⟨_, odd_tup h (.cons (.int hx (by decide)) (.cons (.int hy (by decide)) (.cons (.int hz (by decide)) .nil))) (Nat.le_of_ble_eq_true rfl) (Nat.le_of_ble_eq_true rfl) (fun i hi => by
    simp only [List.mem_cons, V.int.injEq, List.not_mem_nil, or_false] at hi
    rcases hi with rfl | rfl | rfl
    · exact hx
    · exact hy
    · exact hz), by rw [rootB3 h]; exact hb⟩
end
def spWrongRoots (K : PySem.W.Frag) : Sp := fun vs H Q _ => ∃ (D : Int) (r : Addr) (t : Int × Int × Int), vs = [.int D, .ref r] ∧ Meas D ∧ D < 2 ^ 200 ∧ RootAt D H r t ∧ Sz 251 t ∧ ∀ (L : Addr) (H' : Hp) (xs : List V), Same H H' → H' L = some (.lst xs) → (∀ x ∈ xs, BadRoot K D H' x) → Q (.ref L) H'
theorem bad_all {K : PySem.W.Frag} {D : Int} {H H' : Hp} {xs : List V} (h : ∀ x ∈ xs, BadRoot K D H x) (s : Same H H') : ∀ x ∈ xs, BadRoot K D H' x := fun x hx => (h x hx).same s
end Kx
namespace Kx
open PySem PySem.Spec PyProof.Rows L2
/-- what may stand among the arguments -/
def GOk (H : Hp) (x : V) : Prop := OkV H x ∧ SzV H 300 x ∧ ∀ i : Int, x = .int i → i.natAbs < 2 ^ 200
theorem GOk.same {H H' : Hp} {x : V} (h : GOk H x) (s : Same H H') : GOk H' x := ⟨h.1.same s, h.2.1.same h.1.1 s, h.2.2⟩
theorem BehOk.g {H : Hp} {x : V} (h : BehOk H x) : GOk H x := ⟨h.1, h.2.1, fun i e => up (h.2.2 i e) (by decide)⟩
theorem gOk_int {H : Hp} {i : Int} (h : i.natAbs < 2 ^ 200) : GOk H (.int i) := ⟨okV_of (t := "int") rfl (by decide), fun a D t e => (by cases e), fun j e => (by cases e; exact h)⟩
theorem gOk_root {H : Hp} {D : Int} {a : Addr} {t : Int × Int × Int} (h : RootAt D H a t) (z : Sz 300 t) : GOk H (.ref a) := ⟨h.okV, szV_tup h.1 (fun i hi => by
    simp only [rootV, List.mem_cons, V.int.injEq, List.not_mem_nil, or_false] at hi
    rcases hi with rfl | rfl | rfl
    · exact z.1
    · exact z.2.1
    · exact z.2.2), fun j e => (by cases e)⟩
theorem hand_of {H : Hp} {k : Nat} {l : List V} (hl : (if k < 4 then 3 else if k < 7 then 2 else 4) ≤ l.length) (h : ∀ x ∈ l, GOk H x) : Hand H k l := by
  refine ⟨hl, fun D e => ?_, fun x hx => ⟨(h x hx).1, (h x hx).2.1, fun i e => up ((h x hx).2.2 i e) (by decide)⟩⟩
  cases l with
  | nil => cases e
  | cons y r =>
    have := (h y (List.mem_cons_self ..)).2.2 D e
    omega
theorem hand4 {H : Hp} {k : Nat} {l : List V} (hl : 4 ≤ l.length) (h : ∀ x ∈ l, GOk H x) : Hand H k l := hand_of (by split <;> (try split) <;> omega) h
section
variable {K : PySem.W.Frag} {CM CR CN : Addr} {H : Hp}
theorem asked_m {x : V} {r : List V} (hx : measB x = false) (k : Nat) : ocAsked CM CR CN H k (x :: r) = .err CM x := by
  have h : ∀ f, ocM CM x f = .err CM x := fun f => by unfold ocM; rw [hx]; rfl
  unfold ocAsked
  simp only [List.getD_cons_zero, h]
  repeat' split
  all_goals rfl
theorem ocM_ok {D : Int} {f : Int → Oc} (hD : Meas D) : ocM CM (.int D) f = f D := by
  unfold ocM
  rw [measB_int, decide_eq_true hD.1, decide_eq_true hD.2]
  rfl
theorem ocRoots_bad {D : Int} {x : V} {r : List V} {o : Oc} (hx : rootB D H x = false) : ocRoots CR D H (x :: r) o = .err CR x := by
  unfold ocRoots
  rw [hx]
  rfl
theorem ocRoots_good {D : Int} {x : V} {r : List V} {o : Oc} (hx : rootB D H x = true) : ocRoots CR D H (x :: r) o = ocRoots CR D H r o := by
  rw [ocRoots, if_pos hx]
theorem ocNums_bad {x : V} {r : List V} {o : Oc} (hx : isIntV x = false) : ocNums CN (x :: r) o = .err CN x := by
  unfold ocNums
  rw [hx]
  rfl
theorem ocNums_good {i : Int} {r : List V} {o : Oc} : ocNums CN (.int i :: r) o = ocNums CN r o := by
  rw [ocNums, if_pos (show isIntV (.int i) = true from rfl)]
theorem asked_r1 {D : Int} {x : V} {r : List V} (hD : Meas D) (hx : rootB D H x = false) {k : Nat} (hk : k < 6) : ocAsked CM CR CN H k (.int D :: x :: r) = .err CR x := by
  unfold ocAsked
  simp only [List.getD_cons_zero, List.getD_cons_succ, ocM_ok hD, ocRoots_bad hx]
  repeat' split
  all_goals first | rfl | (exfalso; omega)
theorem asked_r2 {D : Int} {y x : V} {r : List V} (hD : Meas D) (hy : rootB D H y = true) (hx : rootB D H x = false) {k : Nat} (hk : k < 4) : ocAsked CM CR CN H k (.int D :: y :: x :: r) = .err CR x := by
  unfold ocAsked
  simp only [List.getD_cons_zero, List.getD_cons_succ, ocM_ok hD, ocRoots_good hy, ocRoots_bad hx]
  repeat' split
  all_goals first | rfl | (exfalso; omega)
theorem asked_n1 {D : Int} {x b c : V} {r : List V} (hD : Meas D) (hx : isIntV x = false) : ocAsked CM CR CN H 7 (.int D :: x :: b :: c :: r) = .err CN x := by
  unfold ocAsked
  simp only [List.getD_cons_zero, List.getD_cons_succ, ocM_ok hD, ocNums_bad hx]
  rfl
theorem asked_n2 {D i : Int} {x c : V} {r : List V} (hD : Meas D) (hx : isIntV x = false) : ocAsked CM CR CN H 7 (.int D :: .int i :: x :: c :: r) = .err CN x := by
  unfold ocAsked
  simp only [List.getD_cons_zero, List.getD_cons_succ, ocM_ok hD, ocNums_good, ocNums_bad hx]
  rfl
theorem asked_n3 {D i j : Int} {x : V} {r : List V} (hD : Meas D) (hx : isIntV x = false) : ocAsked CM CR CN H 7 (.int D :: .int i :: .int j :: x :: r) = .err CN x := by
  unfold ocAsked
  simp only [List.getD_cons_zero, List.getD_cons_succ, ocM_ok hD, ocNums_good, ocNums_bad hx]
  rfl
theorem Kit3.ne {S : Addr} (KT : Kit3 K CM CR CN S) : CR ≠ CM ∧ CN ≠ CM ∧ CN ≠ CR := by
  refine ⟨fun h => ?_, fun h => ?_, fun h => ?_⟩
  · have h1 := KT.kit 1 0 _ _ rfl rfl
    have h2 := KT.kit 0 0 _ _ rfl rfl
    rw [h, h2] at h1
    exact absurd h1 (by decide)
  · have h1 := KT.kit 2 0 _ _ rfl rfl
    have h2 := KT.kit 0 0 _ _ rfl rfl
    rw [h, h2] at h1
    exact absurd h1 (by decide)
  · have h1 := KT.kit 2 1 _ _ rfl rfl
    have h2 := KT.kit 1 1 _ _ rfl rfl
    rw [h, h2] at h1
    exact absurd h1 (by decide)
theorem told_m {x : V} : toldL CM CR (.err CM x) = [.str "measure", x] := by simp [toldL]
theorem told_r {x : V} (h : CR ≠ CM) : toldL CM CR (.err CR x) = [.str "root", x] := by simp [toldL, h]
theorem told_n {x : V} (h : CN ≠ CM) (h2 : CN ≠ CR) : toldL CM CR (.err CN x) = [.str "number", x] := by simp [toldL, h, h2]
/-- what _law_all_refused wants, from the outcome -/
theorem refused_mk {g : List V} {odd : V} {d : PyData} {ks : List Nat} {C : Addr} {due : Str} (hg : ∀ x ∈ g, GOk H x) (hO : OddV K H odd d) (oc : ∀ H' b, Same H H' → ∀ k ∈ ks, ocAsked CM CR CN H' k (g ++ [odd] ++ [b, b, b]) = .err C odd) (ht : toldL CM CR (.err C odd) = [.str due, odd]) :
    ∀ H' b, Same H H' → BehOk H' b → ∀ k ∈ ks, Hand H' k (g ++ [odd] ++ [b, b, b]) ∧ toldL CM CR (ocAsked CM CR CN H' k (g ++ [odd] ++ [b, b, b])) = [.str due, odd] := fun H' b s hb k hk => by
  refine ⟨hand4 (by simp only [List.length_append, List.length_cons, List.length_nil]; omega) (fun x hx => ?_), by rw [oc H' b s k hk, ht]⟩
  simp only [List.mem_append, List.mem_cons, List.not_mem_nil, or_false, or_self] at hx
  rcases hx with (hx | rfl) | rfl
  · exact (hg x hx).same s
  · exact (hO.same s).beh.g
  · exact hb.g
end
theorem due_m : DueT "measure" := ⟨by decide +kernel, by decide +kernel, by decide +kernel⟩
theorem due_r : DueT "root" := ⟨by decide +kernel, by decide +kernel, by decide +kernel⟩
theorem due_n : DueT "number" := ⟨by decide +kernel, by decide +kernel, by decide +kernel⟩
/-- an odd value that is no measure -/
def BadMeas (K : PySem.W.Frag) (H : Hp) (x : V) : Prop := ∃ d, OddV K H x d ∧ measB x = false
theorem BadMeas.same {K : PySem.W.Frag} {H H' : Hp} {x : V} (h : BadMeas K H x) (s : Same H H') : BadMeas K H' x := let ⟨d, h1, h2⟩ := h; ⟨d, h1.same s, h2⟩
/-- an odd value that is no number -/
def BadNum (K : PySem.W.Frag) (H : Hp) (x : V) : Prop := ∃ d, OddV K H x d ∧ isIntV x = false
theorem BadNum.same {K : PySem.W.Frag} {H H' : Hp} {x : V} (h : BadNum K H x) (s : Same H H') : BadNum K H' x := let ⟨d, h1, h2⟩ := h; ⟨d, h1.same s, h2⟩
theorem BadRoot.odd {K : PySem.W.Frag} {D : Int} {H : Hp} {x : V} (h : BadRoot K D H x) (hn : isIntV x = false) : BadNum K H x := let ⟨d, h1, _⟩ := h; ⟨d, h1, hn⟩
theorem BadRoot.meas {K : PySem.W.Frag} {D : Int} {H : Hp} {x : V} (h : BadRoot K D H x) (hn : measB x = false) : BadMeas K H x := let ⟨d, h1, _⟩ := h; ⟨d, h1, hn⟩
/-- two pairs beside each other -/
theorem ne_pair {K : PySem.W.Frag} {H : Hp} {a b : Addr} {x y u v : Int} {Q : VK} (h1 : H a = some (.tup [.int x, .int y])) (h2 : H b = some (.tup [.int u, .int v])) (q : Q (.bl (!(decide (x = u) && decide (y = v)))) H) : rNeD K (.ref a) (.ref b) H Q := by
  refine ⟨.tuple [.int x, .int y], .tuple [.int u, .int v], .tup (SqT.of h1) (.cons (.int _) (.cons (.int _) .nil)), .tup (SqT.of h2) (.cons (.int _) (.cons (.int _) .nil)), rfl, rfl, ?_⟩
  have e : PyData.eqv (.tuple [.int x, .int y]) (.tuple [.int u, .int v]) = (decide (x = u) && decide (y = v)) := by
    have hb : ∀ i j : Int, (i == j) = decide (i = j) := fun i j => by
      by_cases h : i = j
      · rw [decide_eq_true h, h]; simp
      · rw [decide_eq_false h]; simpa using h
    simp only [PyData.eqv, PyData.eqvAll, hb, Bool.and_true]
  rw [e]
  exact q
/-- the same data on both sides -/
theorem ne_data {K : PySem.W.Frag} {H : Hp} {a b : Addr} {d : PyData} {Q : VK} (h1 : Dp K H (.ref a) d) (h2 : Dp K H (.ref b) d) (hs : SeqAt.shaped d = true) (q : Q (.bl false) H) : rNeD K (.ref a) (.ref b) H Q := ⟨d, d, h1, h2, hs, hs, by rw [eqv_same hs]; exact q⟩
theorem eq_data {K : PySem.W.Frag} {H : Hp} {a b : Addr} {d : PyData} {Q : VK} (h1 : Dp K H (.ref a) d) (h2 : Dp K H (.ref b) d) (hs : SeqAt.shaped d = true) (q : Q (.bl true) H) : rEqD K (.ref a) (.ref b) H Q := ⟨d, d, h1, h2, hs, hs, by rw [eqv_same hs]; exact q⟩
end Kx
namespace Kx
open PySem PySem.Spec PyProof.Rows L2
theorem rg0 (n : Nat) : rgV 0 (n : Int) = (List.range n).map fun k : Nat => V.int (k : Int) := by
  unfold rgV
  rw [show ((n : Int) - 0).toNat = n by omega]
  refine List.map_congr_left fun k _ => ?_
  rw [Int.zero_add]
def InvL5 (a g : Addr) (D : Int) (po pt : Addr) (h : Hp) : Nat → SV → Hp → Prop := fun _ σ H2 => ∃ t5 t6 : Option V, σ = [some (.ref a), some (.ref g), some (.int D), some (.ref po), some (.ref pt), t5, t6, none, none, none, none, none, none] ∧ Same h H2
def InvL5i (a g : Addr) (D : Int) (po pt : Addr) (odd : V) (h : Hp) : Nat → SV → Hp → Prop := fun _ σ H2 => ∃ t6 : Option V, σ = [some (.ref a), some (.ref g), some (.int D), some (.ref po), some (.ref pt), some odd, t6, none, none, none, none, none, none] ∧ Same h H2
theorem mem_range_lt {n k : Nat} (h : k ∈ List.range n) : k < n := List.mem_range.mp h
theorem gOk_nil {H : Hp} : ∀ x ∈ ([] : List V), GOk H x := fun x hx => absurd hx List.not_mem_nil
theorem gOk_cons {H : Hp} {y : V} {l : List V} (h : GOk H y) (r : ∀ x ∈ l, GOk H x) : ∀ x ∈ y :: l, GOk H x := fun x hx => by
  rcases List.mem_cons.mp hx with rfl | hx
  · exact h
  · exact r x hx
end Kx
namespace Kx
open PySem PySem.Spec PyProof.Rows L2
section
variable {K : PySem.W.Frag} {CM CR CN : Addr} {H : Hp}
theorem asked_z {D : Int} (hD : Meas D) : ocAsked CM CR CN H 7 [.int D, .int 1, .int 1, .int 0] = .err CN (.int 0) := by
  unfold ocAsked
  simp only [List.getD_cons_zero, List.getD_cons_succ, ocM_ok hD, ocNums_good]
  rfl
theorem asked_nz {D : Int} (hD : Meas D) : ocAsked CM CR CN H 7 [.int D, .int 0, .int 0, .int (-1)] = .ok := by
  unfold ocAsked
  simp only [List.getD_cons_zero, List.getD_cons_succ, ocM_ok hD, ocNums_good]
  rfl
theorem asked_6 {D : Int} {x : V} (hD : Meas D) : ocAsked CM CR CN H 6 [.int D, x] = .ok := by
  unfold ocAsked
  simp only [List.getD_cons_zero, List.getD_cons_succ, ocM_ok hD]
  rfl
theorem asked_over0 {D : Int} {y x : V} (hD : Meas D) (hy : rootB D H y = true) (hx : rootB D H x = true) (hz : zeroB H x = true) : ocAsked CM CR CN H 3 [.int D, y, x] = .err CR x := by
  unfold ocAsked
  simp only [List.getD_cons_zero, List.getD_cons_succ, ocM_ok hD, ocRoots_good hy, ocRoots_good hx]
  simp [ocRoots, hz]
theorem asked_ok2 {D : Int} {y x : V} (hD : Meas D) (hy : rootB D H y = true) (hx : rootB D H x = true) (hz : zeroB H x = false) {k : Nat} (hk : k < 4) : ocAsked CM CR CN H k [.int D, y, x] = .ok := by
  unfold ocAsked
  simp only [List.getD_cons_zero, List.getD_cons_succ, ocM_ok hD, ocRoots_good hy, ocRoots_good hx]
  simp only [ocRoots, hz]
  repeat' split
  all_goals first | rfl | (exfalso; omega) | (exfalso; simp at *)
theorem asked_ok1 {D : Int} {y : V} (hD : Meas D) (hy : rootB D H y = true) {k : Nat} (hk : 4 ≤ k) (hk2 : k < 7) : ocAsked CM CR CN H k [.int D, y] = .ok := by
  unfold ocAsked
  simp only [List.getD_cons_zero, List.getD_cons_succ, ocM_ok hD, ocRoots_good hy]
  repeat' split
  all_goals first | rfl | (exfalso; omega)
theorem dpAll_rep {x : V} {d : PyData} (h : Dp K H x d) : ∀ n : Nat, DpAll K H (List.replicate n x) (List.replicate n d)
  | 0 => .nil
  | n + 1 => .cons h (dpAll_rep h n)
theorem dpAll_refs {d : PyData} : ∀ {ls : List Addr}, (∀ l ∈ ls, Dp K H (.ref l) d) → DpAll K H (ls.map V.ref) (List.replicate ls.length d)
  | [], _ => .nil
  | l :: ls, h => .cons (h l (List.mem_cons_self ..)) (dpAll_refs fun m hm => h m (List.mem_cons_of_mem _ hm))
end
theorem good_001 {D : Int} : Good D (0, 0, 1) := ⟨by decide, by decide, .inl rfl⟩
theorem good_101 {D : Int} : Good D (1, 0, 1) := ⟨by decide, by decide, .inl rfl⟩
theorem flat_rep {x : V} (n : Nat) : (List.replicate n [x]).flatten = List.replicate n x := by
  induction n with
  | zero => rfl
  | succ n ih => rw [List.replicate_succ, List.flatten_cons, ih]; rfl
/-- a list that grows, of addresses of equal lists -/
def InvRefs (h : Hp) (Dd : Addr) (ys : List V) : Nat → Hp → Prop := fun i H2 => Same h H2 ∧ ∃ ls : List Addr, H2 Dd = some (.lst (ls.map V.ref)) ∧ ls.length = i ∧ ∀ l ∈ ls, H2 l = some (.lst ys)
theorem refs_ne {ys : List V} {z : Str} {r : List V} (e : ys = .str z :: r) (ls : List Addr) : HO.lst ys ≠ HO.lst (ls.map V.ref) := fun h => by
  subst e
  have h2 := HO.lst.inj h
  cases ls with
  | nil => cases h2
  | cons l ls => cases h2
theorem InvRefs.push {h H2 H3 : Hp} {Dd L : Addr} {ys : List V} {z : Str} {r : List V} {i : Nat} (e : ys = .str z :: r) (hi : InvRefs h Dd ys i H2) (hD : h Dd = none) (s : Same H2 H3) (eL : H3 L = some (.lst ys)) (hle : i ≤ 900) : ∃ acc, H3 Dd = some (.lst acc) ∧ acc.length < sizeLine ∧ InvRefs h Dd ys (i + 1) (L2.upd H3 Dd (.lst (acc ++ [.ref L]))) := by
  obtain ⟨s2, ls, eD, el, hls⟩ := hi
  have eD3 := s _ _ eD
  refine ⟨_, eD3, small1000 (by rw [List.length_map]; omega), Same.upd2 (s2.trans s) hD, ls ++ [L], by rw [upd_same, List.map_append]; rfl, by rw [List.length_append, el]; rfl, fun l hl => ?_⟩
  rcases List.mem_append.mp hl with hl | hl
  · exact upd_lst eD3 (s _ _ (hls l hl)) (refs_ne e ls)
  · rw [List.mem_singleton] at hl
    subst hl
    exact upd_lst eD3 eL (refs_ne e ls)
end Kx
namespace Kx
open PySem PySem.Spec PyProof.Rows L2
/-- a list that grows by one and the same value -/
def InvRep (h : Hp) (Dd : Addr) (x : V) : Nat → Hp → Prop := fun i H2 => Same h H2 ∧ H2 Dd = some (.lst (List.replicate i x))
end Kx
namespace Kx
open PySem PySem.Spec PyProof.Rows L2
/-- what the written part says of some classes of errors under one -/
structure KitE (K : PySem.W.Frag) (Cs : List Addr) (S : Addr) : Prop where
  ex : ∀ C ∈ Cs, PySem.W.exmOne K (.ref C) (.ref S) = some true
  kit : ∀ (i j : Nat) (C D : Addr), Cs[i]? = some C → Cs[j]? = some D → PySem.W.kitOne K (.ref C) (.ref D) = some (decide (j = i))
  kv : ∀ C ∈ Cs, PySem.W.kitOne K (.ref C) (.type "ValueError") = some true
  ec : ∀ C ∈ Cs, L2.ExcC K C
  xf : ∀ C ∈ Cs, XfC K C
  nv : ∀ C ∈ Cs, PySem.W.findIn K (.ref C) "value" = some none
end Kx
namespace Kx
open PySem PySem.Spec PyProof.Rows L2
/-- [f, g, ..][i](e, ..), the frame named (within a try) -/
theorem pe_ixcallK {X : Cx} {W : WX} {j : Nat} {p pos : Pos} {a b e : Expr} {es : List Expr} {t : TA} {tf : TE} {P : Program} {w : World} {K : PySem.W.Frag} {mg : Str → Option Value} {base : Heap} (hP : X.prog = P) (hw : X.w = w) (hK : X.K = K) (hmg : X.mg = mg) (hb : X.base = base) (hf : PE X (.Subscript a b p) tf) (tk : Takes X W) (hr : Room j X.A) (ha : PA X (e :: es) t) (he : starEach (e :: es) X.env = (false, eval e X.env) :: starEach es X.env := by rfl) (hpl : (backTo pos (starEach es X.env)).any (·.1) = false := by rfl) :
    PE X (.Call (.Subscript a b p) (e :: es) [] pos) (tIxCall P w K mg base j (WE W) tf t) := by
  subst hP hw hK hmg hb
  exact pe_ixcall hf tk hr ha he hpl
end Kx
namespace Kx
open PySem PySem.Spec PyProof.Rows L2
theorem refsB_ne {ys : List V} {b : Bool} {r : List V} (e : ys = .bl b :: r) (ls : List Addr) : HO.lst ys ≠ HO.lst (ls.map V.ref) := fun h => by
  subst e
  have h2 := HO.lst.inj h
  cases ls with
  | nil => cases h2
  | cons l ls => cases h2
theorem InvRefs.pushB {h H2 H3 : Hp} {Dd L : Addr} {b : Bool} {r : List V} {i : Nat} (hi : InvRefs h Dd (.bl b :: r) i H2) (hD : h Dd = none) (s : Same H2 H3) (eL : H3 L = some (.lst (.bl b :: r))) (hle : i ≤ 900) : ∃ acc, H3 Dd = some (.lst acc) ∧ acc.length < sizeLine ∧ InvRefs h Dd (.bl b :: r) (i + 1) (L2.upd H3 Dd (.lst (acc ++ [.ref L]))) := by
  obtain ⟨s2, ls, eD, el, hls⟩ := hi
  have eD3 := s _ _ eD
  refine ⟨_, eD3, small1000 (by rw [List.length_map]; omega), Same.upd2 (s2.trans s) hD, ls ++ [L], by rw [upd_same, List.map_append]; rfl, by rw [List.length_append, el]; rfl, fun l hl => ?_⟩
  rcases List.mem_append.mp hl with hl | hl
  · exact upd_lst eD3 (s _ _ (hls l hl)) (refsB_ne rfl ls)
  · rw [List.mem_singleton] at hl
    subst hl
    exact upd_lst eD3 eL (refsB_ne rfl ls)
end Kx

set_option Elab.async false
set_option linter.all false
set_option maxRecDepth 100000
set_option maxHeartbeats 4000000
set_option exponentiation.threshold 4000
/-! Hearts. -/
namespace Kx
open PySem PySem.Spec PyProof.Rows L2
/-- how many cuttings the heart has -/
def hsz (D : Int) : Int := rt (D - 1) - (D - rt (D - 1)) % 2
theorem hsz_spec {D : Int} (h : 5 ≤ D) : 1 ≤ hsz D ∧ hsz D % 2 = D % 2 ∧ hsz D * hsz D < D ∧ D ≤ (hsz D + 2) * (hsz D + 2) ∧ hsz D ≤ rt (D - 1) := by
  obtain ⟨s0, s1, s2⟩ := rt_spec (n := D - 1) (by omega)
  unfold hsz
  generalize rt (D - 1) = r at *
  have hr : 2 ≤ r := by
    by_cases h2 : 2 ≤ r
    · exact h2
    · have := sq_mono (x := r + 1) (y := 2) (by omega) (by omega)
      omega
  have hm : (D - r) % 2 = 0 ∨ (D - r) % 2 = 1 := by omega
  have h1 := sq_mono (x := r - (D - r) % 2) (y := r) (by omega) (by omega)
  have h2 := sq_mono (x := r + 1) (y := r - (D - r) % 2 + 2) (by omega) (by omega)
  refine ⟨by omega, by omega, by omega, by omega, by omega⟩
theorem sq_below {D e : Int} (h : 5 ≤ D) (hp : e % 2 = D % 2) : e * e < D ↔ -hsz D ≤ e ∧ e ≤ hsz D := by
  obtain ⟨s1, s2, s3, s4, _⟩ := hsz_spec h
  generalize hsz D = s at *
  constructor
  · intro he
    constructor
    · by_cases h1 : -s ≤ e
      · exact h1
      · have := sq_mono (x := s + 2) (y := -e) (by omega) (by omega)
        have e2 : -e * -e = e * e := by grind
        omega
    · by_cases h1 : e ≤ s
      · exact h1
      · have := sq_mono (x := s + 2) (y := e) (by omega) (by omega)
        omega
  · rintro ⟨h1, h2⟩
    by_cases h0 : 0 ≤ e
    · have := sq_mono h0 h2
      omega
    · have := sq_mono (x := -e) (y := s) (by omega) (by omega)
      have e2 : -e * -e = e * e := by grind
      omega
/-- the law's fitting numbers -/
def fitB (D e : Int) : Bool := decide ((e - D) % 2 = 0) && (decide (e * e < D) && decide ((e + 2) * (e + 2) < D))
theorem fit_iff {D e : Int} (h : 5 ≤ D) : fitB D e = true ↔ e % 2 = D % 2 ∧ -hsz D ≤ e ∧ e ≤ hsz D - 2 := by
  unfold fitB
  simp only [Bool.and_eq_true, decide_eq_true_eq]
  constructor
  · rintro ⟨h1, h2, h3⟩
    have h4 := (sq_below (e := e) h (by omega)).mp h2
    have h5 := (sq_below (e := e + 2) h (by omega)).mp h3
    omega
  · rintro ⟨h1, h2, h3⟩
    obtain ⟨s1, _⟩ := hsz_spec h
    exact ⟨by omega, (sq_below (e := e) h (by omega)).mpr (by omega), (sq_below (e := e + 2) h (by omega)).mpr (by omega)⟩
/-- the cutting of the heart with a last item -/
def hq (D e : Int) : Q4 := (0, (D - e * e) / 4, 1, e)
theorem par_sq {D e : Int} (hM : D % 4 < 2) (hp : e % 2 = D % 2) : (D - e * e) % 4 = 0 := by
  have h := sq_mod4 e
  have h2 : (e * e) % 2 = e % 2 := by
    have : e % 2 = 0 ∨ e % 2 = 1 := by omega
    rw [Int.mul_emod]
    rcases this with h | h <;> rw [h] <;> decide
  omega
theorem gcd_one (b : Int) : gcdI b 1 = 1 := by unfold gcdI; simp
theorem hq_meas {D e : Int} (hM : Meas D) (hp : e % 2 = D % 2) : measC (hq D e) = D := by
  have := par_sq hM.2 hp
  unfold measC hq
  simp only
  omega
theorem hq_ok {D e : Int} (hM : Meas D) (hp : e % 2 = D % 2) (h1 : -hsz D ≤ e) (h2 : e ≤ hsz D - 2) : okQ (hq D e) = true := by
  have h4 := par_sq hM.2 hp
  have h5 := (fit_iff hM.1).mpr ⟨hp, h1, h2⟩
  unfold fitB at h5
  simp only [Bool.and_eq_true, decide_eq_true_eq] at h5
  obtain ⟨_, q1, q2⟩ := h5
  have e2 : (e + 2) * (e + 2) = e * e + 4 * e + 4 := by grind
  unfold okQ CutOk hq
  simp only [gcd_one]
  have hb : 1 + e < (D - e * e) / 4 := by omega
  have hb1 : 1 ≤ (D - e * e) / 4 := by omega
  rw [decide_eq_true hb1, decide_eq_true hb]
  have hg : gcdI 1 e = 1 := by unfold gcdI; simp
  rw [hg]
  rfl
theorem hq_not {D : Int} (hM : Meas D) : okQ (hq D (hsz D)) = false := by
  obtain ⟨s1, s2, s3, s4, _⟩ := hsz_spec hM.1
  have h4 := par_sq hM.2 s2
  have e2 : (hsz D + 2) * (hsz D + 2) = hsz D * hsz D + 4 * hsz D + 4 := by grind
  unfold okQ CutOk hq
  simp only
  have hb : ¬ 1 + hsz D < (D - hsz D * hsz D) / 4 := by omega
  rw [decide_eq_false hb, Bool.false_and, Bool.and_false, Bool.and_false]
def heartB (H : Hp) (x : V) : Bool := cutB H x && (match x with
  | .ref p => match H p with
    | some (.tup [_, _, .int c, _]) => decide (c = 1)
    | _ => false
  | _ => false)
theorem heartB_not {H : Hp} {x : V} (h : cutB H x = false) : heartB H x = false := by
  unfold heartB
  rw [h, Bool.false_and]
theorem heartB_q {H : Hp} {p : Addr} {q : Q4} (h : H p = some (.tup (cutV4 q))) : heartB H (.ref p) = (okQ q && decide (q.2.2.1 = 1)) := by
  unfold heartB
  rw [cutB_q h]
  simp only [h, cutV4]
theorem hsz_le {D : Int} (h : 5 ≤ D) (h2 : D < 2 ^ 200) : hsz D < 2 ^ 100 := by
  obtain ⟨_, _, _, _, h3⟩ := hsz_spec h
  have := rt_half (D := D - 1) (by omega) (by omega)
  omega
theorem hq_sz {D e : Int} (h0 : 5 ≤ D) (h1 : D < 2 ^ 200) (h2 : e.natAbs < 2 ^ 300) : Sz4 700 (hq D e) := by
  have h3 := wide_lt h2 h2
  simp only [Nat.reduceAdd] at h3
  refine ⟨show (0 : Int).natAbs < 2 ^ 700 by decide, ?_, show (1 : Int).natAbs < 2 ^ 700 by decide, up h2 (by decide)⟩
  show ((D - e * e) / 4).natAbs < 2 ^ 700
  omega
/-- e.f, the frame named -/
theorem pe_xkK {X : Cx} {K : PySem.W.Frag} {e : Expr} {te : TE} {pos : Pos} {n : Str} (hK : X.K = K) (he : PE X e te) (hb : attributeBase e n X.env (eval e X.env) = eval e X.env := by rfl) : PE X (.Attribute e n pos) (tXk K n te) := by
  subst hK
  exact pe_xk he hb
/-! ### promises -/
def spSize : Sp := fun vs H Q _ => ∃ D : Int, vs = [.int D] ∧ Meas D ∧ D < 2 ^ 200 ∧ Q (.int (hsz D)) H
def spWithLast : Sp := fun vs H Q _ => ∃ D e : Int, vs = [.int D, .int e] ∧ Meas D ∧ D < 2 ^ 200 ∧ e.natAbs < 2 ^ 300 ∧ ∀ p, H p = none → Q (.ref p) (L2.upd H p (.tup (cutV4 (hq D e))))
def spHeartNumbered : Sp := fun vs H Q _ => ∃ D n : Int, vs = [.int D, .int n] ∧ Meas D ∧ D < 2 ^ 200 ∧ 0 ≤ n ∧ n < hsz D ∧ ∀ p, H p = none → Q (.ref p) (L2.upd H p (.tup (cutV4 (hq D (2 * n - hsz D)))))
def spHeartBeyond (CN : Addr) : Sp := fun vs H Q E => ∃ D n : Int, vs = [.int D, .int n] ∧ Meas D ∧ D < 2 ^ 200 ∧ hsz D ≤ n ∧ Err H E CN (.int n)
def spIsHeart : Sp := fun vs H Q _ => ∃ x, vs = [x] ∧ OkV H x ∧ ∀ H', Same H H' → Q (.bl (heartB H x)) H'
def spCheckHeart0 : Sp := fun vs H Q _ => ∃ p, vs = [.ref p] ∧ OkV H (.ref p) ∧ heartB H (.ref p) = true ∧ ∀ H', Same H H' → Q .non H'
def spHeartNumber : Sp := fun vs H Q _ => ∃ (p : Addr) (D e : Int), vs = [.ref p] ∧ H p = some (.tup (cutV4 (hq D e))) ∧ Meas D ∧ D < 2 ^ 200 ∧ e % 2 = D % 2 ∧ -hsz D ≤ e ∧ e ≤ hsz D - 2 ∧ ∀ H', Same H H' → Q (.int ((e + hsz D) / 2)) H'
/-- the law's list of the fitting numbers -/
def hlist (D : Int) (n : Nat) : List Int := (List.range n).map fun i : Nat => 2 * (i : Int) - hsz D
def spLawHeart : Sp := fun vs H Q _ => ∃ D : Int, vs = [.int D] ∧ Meas D ∧ D < 100000 ∧ ∀ p H', Same H H' → H' p = some (.lst ((hlist D (hsz D).toNat).map V.int)) → Q (.ref p) H'
def spLawMade : Sp := spWithLast
def spLawFits : Sp := fun vs H Q _ => ∃ D e : Int, vs = [.int D, .int e] ∧ D < 2 ^ 200 ∧ e.natAbs < 2 ^ 300 ∧ Q (.bl (fitB D e)) H
def spBeyondRight : Sp := fun vs H Q _ => ∃ D n : Int, vs = [.int D, .int n] ∧ Meas D ∧ D < 2 ^ 200 ∧ hsz D ≤ n ∧ n < 2 ^ 300 ∧ ∀ H', Same H H' → Q (.bl true) H'
def spLawIsCut1 : Sp := fun vs H Q _ => ∃ (p : Addr) (q : Q4), vs = [.ref p] ∧ H p = some (.tup (cutV4 q)) ∧ Sz4 700 q ∧ okQ q = true ∧ Q (.bl true) H
end Kx
namespace Kx
open PySem PySem.Spec PyProof.Rows L2
theorem hlist_succ (D : Int) (k : Nat) : hlist D (k + 1) = hlist D k ++ [2 * (k : Int) - hsz D] := by
  unfold hlist
  rw [List.range_succ, List.map_append]
  rfl
theorem hlist_len (D : Int) (k : Nat) : (hlist D k).length = k := by unfold hlist; rw [List.length_map, List.length_range]
def InvHL (D R : Int) (H : Hp) (Dd : Addr) : Nat → Hp → Prop := fun i H2 => Same H H2 ∧ ∃ k : Nat, H2 Dd = some (.lst ((hlist D k).map V.int)) ∧ (k : Int) ≤ hsz D ∧ (i - R < -hsz D → (k : Int) = 0) ∧ (hsz D ≤ i - R → (k : Int) = hsz D) ∧ (-hsz D ≤ i - R → i - R ≤ hsz D → (k : Int) = (i - R + hsz D + 1) / 2)
end Kx
namespace Kx
open PySem PySem.Spec PyProof.Rows L2
def spSmall27 : Sp := fun vs H Q _ => ∃ D : Int, vs = [.int D] ∧ Meas D ∧ D < 100000 ∧ ∀ H', Same H H' → Q (.bl true) H'
def spGreat27 : Sp := fun vs H Q _ => ∃ (g : Addr) (D : Int) (k : Nat), vs = [.ref g, .int D] ∧ GenAt H g k ∧ k ≤ 2 ^ 39 ∧ Meas D ∧ D < 2 ^ 200 ∧ ∀ H', GenAt H' g (k + 100) → Keep g H H' → Q (.bl true) H'
end Kx
namespace Kx
open PySem PySem.Spec PyProof.Rows L2
/-! ### lists of cuttings -/
inductive QAll (H : Hp) : List Addr → List Q4 → Prop
  | nil : QAll H [] []
  | cons {l : Addr} {q : Q4} {ls : List Addr} {qs : List Q4} : H l = some (.tup (cutV4 q)) → QAll H ls qs → QAll H (l :: ls) (q :: qs)
section
variable {H H' : Hp} {ls ms : List Addr} {qs rs : List Q4}
theorem QAll.len (h : QAll H ls qs) : ls.length = qs.length := by
  induction h with
  | nil => rfl
  | cons _ _ ih => rw [List.length_cons, List.length_cons, ih]
theorem QAll.imp (h : QAll H ls qs) (f : ∀ l xs, H l = some (.tup xs) → H' l = some (.tup xs)) : QAll H' ls qs := by
  induction h with
  | nil => exact .nil
  | cons e _ ih => exact .cons (f _ _ e) ih
theorem QAll.same (h : QAll H ls qs) (s : Same H H') : QAll H' ls qs := h.imp fun _ _ e => s _ _ e
theorem QAll.append (h : QAll H ls qs) (h2 : QAll H ms rs) : QAll H (ls ++ ms) (qs ++ rs) := by
  induction h with
  | nil => exact h2
  | cons e _ ih => exact .cons e ih
theorem QAll.get (h : QAll H ls qs) {i : Nat} {l : Addr} (hl : ls[i]? = some l) : ∃ q, qs[i]? = some q ∧ H l = some (.tup (cutV4 q)) := by
  induction h generalizing i with
  | nil => simp at hl
  | @cons l' q' ls' qs' e _ ih =>
    cases i with
    | zero =>
      obtain rfl : l' = l := by simpa using hl
      exact ⟨q', rfl, e⟩
    | succ i =>
      rw [List.getElem?_cons_succ] at hl
      obtain ⟨q, h1, h2⟩ := ih hl
      exact ⟨q, by rw [List.getElem?_cons_succ]; exact h1, h2⟩
end
def quadD (q : Q4) : PyData := .tuple [.int q.1, .int q.2.1, .int q.2.2.1, .int q.2.2.2]
theorem dp_quad {K : PySem.W.Frag} {H : Hp} {a : Addr} {q : Q4} (h : H a = some (.tup (cutV4 q))) : Dp K H (.ref a) (quadD q) := .tup (SqT.of h) (.cons (.int _) (.cons (.int _) (.cons (.int _) (.cons (.int _) .nil))))
theorem QAll.dp {K : PySem.W.Frag} {H : Hp} {ls : List Addr} {qs : List Q4} (h : QAll H ls qs) : DpAll K H (ls.map V.ref) (qs.map quadD) := by
  induction h with
  | nil => exact .nil
  | cons e _ ih => exact .cons (dp_quad e) ih
theorem shaped_quads (qs : List Q4) : SeqAt.shaped (.list (qs.map quadD)) = true := by
  have h : ∀ qs : List Q4, PyData.canLayAll0 (qs.map quadD) = true ∧ PyData.depthAll (qs.map quadD) ≤ 5 := fun qs => by
    induction qs with
    | nil => exact ⟨rfl, by simp only [List.map_nil, PyData.depthAll]; omega⟩
    | cons q qs ih =>
      refine ⟨?_, ?_⟩
      · rw [List.map_cons, PyData.canLayAll0, ih.1]; rfl
      · have := ih.2
        simp only [List.map_cons, PyData.depthAll, quadD, PyData.depth]
        omega
  have e1 : PyData.canLay0 (.list (qs.map quadD)) = true := by rw [PyData.canLay0]; exact (h qs).1
  have e2 : PyData.depth (.list (qs.map quadD)) ≤ 64 := by rw [PyData.depth]; have := (h qs).2; omega
  unfold SeqAt.shaped
  rw [e1, decide_eq_true e2]
  rfl
theorem shaped_intsL (ns : List Int) : SeqAt.shaped (.list (ns.map PyData.int)) = true := by
  have h : ∀ ns : List Int, PyData.canLayAll0 (ns.map PyData.int) = true ∧ PyData.depthAll (ns.map PyData.int) ≤ 5 := fun ns => by
    induction ns with
    | nil => exact ⟨rfl, by simp only [List.map_nil, PyData.depthAll]; omega⟩
    | cons q qs ih =>
      refine ⟨?_, ?_⟩
      · rw [List.map_cons, PyData.canLayAll0, ih.1]; rfl
      · have := ih.2
        simp only [List.map_cons, PyData.depthAll, PyData.depth]
        omega
  have e1 : PyData.canLay0 (.list (ns.map PyData.int)) = true := by rw [PyData.canLay0]; exact (h ns).1
  have e2 : PyData.depth (.list (ns.map PyData.int)) ≤ 64 := by rw [PyData.depth]; have := (h ns).2; omega
  unfold SeqAt.shaped
  rw [e1, decide_eq_true e2]
  rfl
/-- a growing list of cuttings -/
def InvQs (h : Hp) (Dd : Addr) (qs : Nat → List Q4) : Nat → Hp → Prop := fun i H2 => Same h H2 ∧ ∃ ls : List Addr, H2 Dd = some (.lst (ls.map V.ref)) ∧ QAll H2 ls (qs i)
theorem InvQs.push {h H2 H3 : Hp} {Dd p : Addr} {qs : Nat → List Q4} {q : Q4} {i : Nat} (hi : InvQs h Dd qs i H2) (hD : h Dd = none) (s : Same H2 H3) (e : H3 p = some (.tup (cutV4 q))) (eq : qs (i + 1) = qs i ++ [q]) (hle : (qs i).length < sizeLine) : ∃ acc, H3 Dd = some (.lst acc) ∧ acc.length < sizeLine ∧ InvQs h Dd qs (i + 1) (L2.upd H3 Dd (.lst (acc ++ [.ref p]))) := by
  obtain ⟨s2, ls, eD, hl⟩ := hi
  have eD3 := s _ _ eD
  refine ⟨_, eD3, by rw [List.length_map, hl.len]; exact hle, Same.upd2 (s2.trans s) hD, ls ++ [p], by rw [upd_same, List.map_append]; rfl, ?_⟩
  rw [eq]
  exact ((hl.same s).append (.cons e .nil)).imp fun l xs h => upd_lst eD3 h (fun z => by cases z)
theorem rp_intI {K : PySem.W.Frag} {H : Hp} {i : Int} (h : i.natAbs < 2 ^ 1000) : Rp K H (.int i) (.int i) := ⟨.int i, by simp only [PyData.showable, log_sz h (show 1000 ≤ 1900 by decide), decide_true], rfl, Nat.le_of_ble_eq_true rfl, Nat.le_of_ble_eq_true rfl⟩
/-- the heart's list -/
def hqs (D : Int) (n : Nat) : List Q4 := (List.range n).map fun i : Nat => hq D (2 * (i : Int) - hsz D)
theorem hqs_succ (D : Int) (n : Nat) : hqs D (n + 1) = hqs D n ++ [hq D (2 * (n : Int) - hsz D)] := by
  unfold hqs
  rw [List.range_succ, List.map_append]
  rfl
theorem hqs_len (D : Int) (n : Nat) : (hqs D n).length = n := by unfold hqs; rw [List.length_map, List.length_range]
def InvNs (h : Hp) (Dd : Addr) : Nat → Hp → Prop := fun i H2 => Same h H2 ∧ H2 Dd = some (.lst ((List.range i).map fun k : Nat => V.int (k : Int)))
theorem dpAll_nats {K : PySem.W.Frag} {H : Hp} (n : Nat) : DpAll K H ((List.range n).map fun k : Nat => V.int (k : Int)) (((List.range n).map fun k : Nat => (k : Int)).map PyData.int) := by
  have := dpAll_ints (K := K) (H := H) ((List.range n).map fun k : Nat => (k : Int))
  rwa [List.map_map] at this
theorem rp_quad {K : PySem.W.Frag} {H : Hp} {p : Addr} {q : Q4} (e : H p = some (.tup (cutV4 q))) (z : Sz4 700 q) : Rp K H (.ref p) (quadD q) := (val_tup e (.cons (.int z.1 (by decide)) (.cons (.int z.2.1 (by decide)) (.cons (.int z.2.2.1 (by decide)) (.cons (.int z.2.2.2 (by decide)) .nil)))) (Nat.le_of_ble_eq_true rfl)).rp
theorem heartB_same {H H' : Hp} {x : V} (s : Same H H') (h : OkItem H x) : heartB H' x = heartB H x := by
  unfold heartB
  rw [cutB_same s h]
  cases x with
  | ref a =>
    obtain ⟨o, ho⟩ := h.at
    simp only [ho, s _ _ ho]
  | _ => rfl
end Kx

set_option Elab.async false
set_option linter.all false
set_option maxRecDepth 100000
set_option maxHeartbeats 4000000
set_option exponentiation.threshold 4000
/-! Counting cuttings. -/
namespace Kx
open PySem PySem.Spec PyProof.Rows L2
/-- a sum over 0, .., n - 1 -/
def rs : Nat → (Int → Int) → Int
  | 0, _ => 0
  | n + 1, f => rs n f + f (n : Int)
theorem rs_congr {n : Nat} {f g : Int → Int} (h : ∀ i : Nat, i < n → f i = g i) : rs n f = rs n g := by
  induction n with
  | zero => rfl
  | succ n ih => rw [rs, rs, ih fun i hi => h i (by omega), h n (by omega)]
theorem rs_add {n : Nat} {f g : Int → Int} : rs n (fun i => f i + g i) = rs n f + rs n g := by
  induction n with
  | zero => rfl
  | succ n ih => rw [rs, rs, rs, ih]; omega
theorem rs_zero {n : Nat} {f : Int → Int} (h : ∀ i : Nat, i < n → f i = 0) : rs n f = 0 := by
  induction n with
  | zero => rfl
  | succ n ih => rw [rs, ih fun i hi => h i (by omega), h n (by omega)]; rfl
theorem rs_append {n m : Nat} {f : Int → Int} : rs (n + m) f = rs n f + rs m (fun i => f ((n : Int) + i)) := by
  induction m with
  | zero => simp [rs]
  | succ m ih =>
    rw [← Nat.add_assoc, rs, rs, ih, Int.natCast_add]
    omega
theorem rs_left {n : Nat} {f : Int → Int} : rs (n + 1) f = f 0 + rs n (fun i => f (i + 1)) := by
  rw [Nat.add_comm, rs_append]
  have e1 : rs 1 f = f 0 := by
    show 0 + f 0 = f 0
    omega
  rw [e1]
  congr 1
  exact rs_congr fun i _ => by rw [Int.add_comm]; rfl
theorem rs_swap {n m : Nat} {f : Int → Int → Int} : rs n (fun i => rs m (fun j => f i j)) = rs m (fun j => rs n (fun i => f i j)) := by
  induction n with
  | zero => exact (rs_zero fun _ _ => rfl).symm
  | succ n ih =>
    rw [rs, ih, ← rs_add]
    exact rs_congr fun _ _ => rfl
theorem rs_one {n : Nat} {k v : Int} : rs n (fun i => if i = k then v else 0) = if 0 ≤ k ∧ k < n then v else 0 := by
  induction n with
  | zero =>
    rw [if_neg (by omega)]
    rfl
  | succ n ih =>
    rw [rs, ih]
    by_cases h1 : (n : Int) = k
    · rw [if_pos h1, if_neg (by omega), if_pos (by omega)]; omega
    · rw [if_neg h1]
      by_cases h2 : 0 ≤ k ∧ k < n
      · rw [if_pos h2, if_pos (by omega)]; omega
      · rw [if_neg h2, if_neg (by omega)]; rfl
theorem rs_mul {p m : Nat} {f : Int → Int} (h : ∀ i : Nat, f ((i : Int) + p) = f i) : rs (p * m) f = m * rs p f := by
  induction m with
  | zero =>
    rw [Nat.mul_zero, Int.natCast_zero, Int.zero_mul]
    rfl
  | succ m ih =>
    have hm : ∀ (k : Nat) (i : Nat), f (((p * k : Nat) : Int) + (i : Int)) = f i := fun k => by
      induction k with
      | zero => intro i; rw [Nat.mul_zero]; simp
      | succ k ihk =>
        intro i
        have := h (p * k + i)
        rw [Int.natCast_add] at this
        rw [Nat.mul_succ, Int.natCast_add, show ((p * k : Nat) : Int) + (p : Int) + (i : Int) = ((p * k : Nat) : Int) + (i : Int) + (p : Int) by omega, this, ihk]
    have e := rs_congr (n := p) (f := fun i => f (((p * m : Nat) : Int) + i)) (g := f) fun i _ => hm m i
    rw [Nat.mul_succ, rs_append, ih, e, Int.natCast_add, Int.add_mul]
    simp
/-! ### the first items -/
def one (b : Prop) [Decidable b] : Int := if b then 1 else 0
/-- how many first items beside a common divisor g and a last item e -/
def fstN (g e : Int) : Int := rs g.toNat fun a => if gcdI (gcdI a g) e = 1 then 1 else 0
def freeN (p : Int) : Int := rs p.toNat fun i => if gcdI (1 + i) p = 1 then 1 else 0
def cutW (b c e : Int) : Int := gcdI b c / gcdI (gcdI b c) e * freeN (gcdI (gcdI b c) e)
theorem gcdI_assoc (a b c : Int) : gcdI (gcdI a b) c = gcdI a (gcdI b c) := by
  unfold gcdI
  rw [Int.natAbs_natCast, Int.natAbs_natCast, Nat.gcd_assoc]
theorem gcdI_comm (a b : Int) : gcdI a b = gcdI b a := by unfold gcdI; rw [Nat.gcd_comm]
theorem gcdI_neg (a b : Int) : gcdI a (-b) = gcdI a b := by unfold gcdI; rw [Int.natAbs_neg]
theorem gcdI_per (i p : Nat) : gcdI ((i : Int) + p) p = gcdI i p := by
  unfold gcdI
  rw [show ((i : Int) + p).natAbs = i + p by omega, Int.natAbs_natCast, Int.natAbs_natCast, Nat.gcd_add_self_left]
theorem gcdI_posL {a b : Int} (h : a ≠ 0) : 1 ≤ gcdI a b := by
  unfold gcdI
  have := Nat.gcd_pos_of_pos_left b.natAbs (show 0 < a.natAbs by omega)
  omega
theorem fst_eq {g e : Int} (hg : 1 ≤ g) : fstN g e = g / gcdI g e * freeN (gcdI g e) := by
  have hp := gcdI_posL (a := g) (b := e) (by omega)
  have hdv : gcdI g e ∣ g := by
    unfold gcdI
    exact Int.ofNat_dvd_left.mpr (Nat.gcd_dvd_left _ _)
  obtain ⟨m, hm⟩ := hdv
  have hm0 : 0 ≤ m := by
    by_cases h : 0 ≤ m
    · exact h
    · have := Int.mul_le_mul_of_nonneg_left (show m ≤ -1 by omega) (show 0 ≤ gcdI g e by omega)
      omega
  have e1 : fstN g e = rs g.toNat fun a => if gcdI a (gcdI g e) = 1 then 1 else 0 := by
    unfold fstN
    refine rs_congr fun i _ => ?_
    rw [gcdI_assoc]
  rw [e1]
  generalize gcdI g e = p at *
  obtain ⟨p', rfl⟩ : ∃ p' : Nat, p = p' := ⟨p.toNat, by omega⟩
  obtain ⟨m', rfl⟩ : ∃ m' : Nat, m = m' := ⟨m.toNat, by omega⟩
  have e2 : g.toNat = p' * m' := by
    rw [hm, ← Int.natCast_mul, Int.toNat_natCast]
  have hper : ∀ i : Nat, (fun a : Int => if gcdI a (p' : Int) = 1 then (1 : Int) else 0) ((i : Int) + p') = (fun a : Int => if gcdI a (p' : Int) = 1 then (1 : Int) else 0) i := fun i => by
    simp only [gcdI_per]
  have e3 := rs_mul (p := p') (m := m') (f := fun a : Int => if gcdI a (p' : Int) = 1 then (1 : Int) else 0) hper
  have e4 : g / (p' : Int) = m' := by rw [hm]; exact Int.mul_ediv_cancel_left _ (by omega)
  have e5 : freeN (p' : Int) = rs p' (fun a : Int => if gcdI a (p' : Int) = 1 then (1 : Int) else 0) := by
    have h1 := rs_left (n := p') (f := fun a : Int => if gcdI a (p' : Int) = 1 then (1 : Int) else 0)
    rw [rs] at h1
    have h2 := hper 0
    simp only [Int.natCast_zero, Int.zero_add] at h2
    have h3 : freeN (p' : Int) = rs p' (fun i => (fun a : Int => if gcdI a (p' : Int) = 1 then (1 : Int) else 0) (i + 1)) := by
      unfold freeN
      rw [Int.toNat_natCast]
      exact rs_congr fun i _ => by simp only [Int.add_comm]
    rw [h3]
    simp only at h1 h2 ⊢
    omega
  rw [e2, e3, e4, e5]
theorem cutW_fst {b c e : Int} (hc : c ≠ 0) : fstN (gcdI b c) e = cutW b c e := fst_eq (gcdI_pos hc)
theorem cutW_swap (b c e : Int) : cutW c b (-e) = cutW b c e := by
  unfold cutW
  rw [gcdI_comm c b, gcdI_neg]
/-! ### sums over divisors -/
theorem rs_div {n : Nat} {f : Int → Int} : rs n (fun i => if (n : Int) % (i + 1) = 0 then f (i + 1) else 0) = rs n (fun i => if (n : Int) % (i + 1) = 0 then f (n / (i + 1)) else 0) := by
  have h1 : ∀ i : Nat, i < n → rs n (fun j => if ((i : Int) + 1) * (j + 1) = n then f (i + 1) else 0) = if (n : Int) % ((i : Int) + 1) = 0 then f ((i : Int) + 1) else 0 := fun i hi => by
    by_cases h : (n : Int) % ((i : Int) + 1) = 0
    · rw [if_pos h]
      have hd := Int.ediv_mul_cancel_of_emod_eq_zero h
      have hk : 1 ≤ (n : Int) / ((i : Int) + 1) := by
        by_cases h0 : 1 ≤ (n : Int) / ((i : Int) + 1)
        · exact h0
        · have := Int.mul_le_mul_of_nonneg_right (show (n : Int) / ((i : Int) + 1) ≤ 0 by omega) (show 0 ≤ (i : Int) + 1 by omega)
          omega
      have hk2 : (n : Int) / ((i : Int) + 1) ≤ n := Int.ediv_le_self _ (by omega)
      have e : rs n (fun j => if ((i : Int) + 1) * (j + 1) = n then f ((i : Int) + 1) else 0) = rs n (fun j => if j = (n : Int) / ((i : Int) + 1) - 1 then f ((i : Int) + 1) else 0) := by
        refine rs_congr fun j _ => ?_
        by_cases h2 : (j : Int) = (n : Int) / ((i : Int) + 1) - 1
        · rw [if_pos h2, if_pos]
          rw [h2, Int.mul_comm, show (n : Int) / ((i : Int) + 1) - 1 + 1 = (n : Int) / ((i : Int) + 1) by omega]
          exact hd
        · rw [if_neg h2, if_neg]
          intro h3
          have : (n : Int) / ((i : Int) + 1) = (j : Int) + 1 := Int.ediv_eq_of_eq_mul_right (by omega) h3.symm
          omega
      rw [e, rs_one, if_pos (by omega)]
    · rw [if_neg h]
      refine rs_zero fun j _ => ?_
      rw [if_neg]
      intro h3
      exact h (by rw [← h3]; exact Int.mul_emod_right _ _)
  have h2 : ∀ j : Nat, j < n → rs n (fun i => if (i + 1) * ((j : Int) + 1) = n then f (i + 1) else 0) = if (n : Int) % ((j : Int) + 1) = 0 then f ((n : Int) / ((j : Int) + 1)) else 0 := fun i hi => by
    by_cases h : (n : Int) % ((i : Int) + 1) = 0
    · rw [if_pos h]
      have hd := Int.ediv_mul_cancel_of_emod_eq_zero h
      have hk : 1 ≤ (n : Int) / ((i : Int) + 1) := by
        by_cases h0 : 1 ≤ (n : Int) / ((i : Int) + 1)
        · exact h0
        · have := Int.mul_le_mul_of_nonneg_right (show (n : Int) / ((i : Int) + 1) ≤ 0 by omega) (show 0 ≤ (i : Int) + 1 by omega)
          omega
      have hk2 : (n : Int) / ((i : Int) + 1) ≤ n := Int.ediv_le_self _ (by omega)
      have e : rs n (fun j => if (j + 1) * ((i : Int) + 1) = n then f (j + 1) else 0) = rs n (fun j => if j = (n : Int) / ((i : Int) + 1) - 1 then f ((n : Int) / ((i : Int) + 1)) else 0) := by
        refine rs_congr fun j _ => ?_
        by_cases h2 : (j : Int) = (n : Int) / ((i : Int) + 1) - 1
        · rw [if_pos h2, if_pos, show (j : Int) + 1 = (n : Int) / ((i : Int) + 1) by omega]
          rw [h2, show (n : Int) / ((i : Int) + 1) - 1 + 1 = (n : Int) / ((i : Int) + 1) by omega]
          exact hd
        · rw [if_neg h2, if_neg]
          intro h3
          have : (n : Int) / ((i : Int) + 1) = (j : Int) + 1 := Int.ediv_eq_of_eq_mul_left (by omega) h3.symm
          omega
      rw [e, rs_one, if_pos (by omega)]
    · rw [if_neg h]
      refine rs_zero fun j _ => ?_
      rw [if_neg]
      intro h3
      exact h (by rw [← h3]; exact Int.mul_emod_left _ _)
  have e1 := rs_congr (n := n) (f := fun i => rs n (fun j => if (i + 1) * (j + 1) = n then f (i + 1) else 0)) (g := fun i => if (n : Int) % (i + 1) = 0 then f (i + 1) else 0) h1
  have e2 := rs_congr (n := n) (f := fun j => rs n (fun i => if (i + 1) * (j + 1) = n then f (i + 1) else 0)) (g := fun j => if (n : Int) % (j + 1) = 0 then f (n / (j + 1)) else 0) h2
  rw [← e1, rs_swap, e2]

theorem rs_ext {n m : Nat} {f : Int → Int} (h : n ≤ m) (hz : ∀ i : Nat, n ≤ i → i < m → f i = 0) : rs m f = rs n f := by
  obtain ⟨k, rfl⟩ : ∃ k, m = n + k := ⟨m - n, by omega⟩
  have e := rs_zero (n := k) (f := fun i => f ((n : Int) + i)) fun i hi => by
    have := hz (n + i) (by omega) (by omega)
    rwa [Int.natCast_add] at this
  rw [rs_append, e]
  omega
def qn (D e : Int) : Int := (D - e * e) / 4
/-- the program's count -/
def hmwF (D e : Int) : Int → Int := fun i => if qn D e % (i + 1) = 0 then fstN (gcdI (qn D e / (i + 1)) (i + 1)) e else 0
def hmw (D e : Int) : Int := if D ≤ e * e ∨ (D - e) % 2 = 1 then 0 else rs ((rt (D - 1) - e) / 2).toNat (hmwF D e)
/-- the law's count -/
def dueF (D e : Int) : Int → Int := fun i => if qn D e % (i + 1) = 0 ∧ i + 1 + e < qn D e / (i + 1) then cutW (qn D e / (i + 1)) (i + 1) e else 0
def dueM (D e : Int) : Int := if D - e * e ≤ 0 ∨ ¬ (D - e * e) % 4 = 0 then 0 else rs (qn D e).toNat (dueF D e)
def bothF (D e : Int) : Int → Int := fun i => if (D - e * e) % 4 = 0 ∧ qn D e % (i + 1) = 0 then cutW (qn D e / (i + 1)) (i + 1) e else 0
def bothM (D e : Int) : Int := rs (qn D e).toNat (bothF D e)
theorem par_iff {D e : Int} (hM : Meas D) : (D - e) % 2 = 1 ↔ ¬ (D - e * e) % 4 = 0 := by
  have h1 := sq_mod4 e
  have h2 : (e * e) % 2 = e % 2 := by
    have : e % 2 = 0 ∨ e % 2 = 1 := by omega
    rw [Int.mul_emod]
    rcases this with h | h <;> rw [h] <;> decide
  have h3 := hM.2
  omega
theorem below_iff {D e c : Int} (hD : 5 ≤ D) (he : e * e < D) (hc : 1 ≤ c) : (2 * c + e) * (2 * c + e) < D ↔ 2 * c + e ≤ rt (D - 1) := by
  obtain ⟨r0, r1, r2⟩ := rt_spec (n := D - 1) (by omega)
  generalize hx : 2 * c + e = x at *
  by_cases h : 0 ≤ x
  · constructor
    · intro h1
      by_cases h2 : x ≤ rt (D - 1)
      · exact h2
      · have := sq_mono (x := rt (D - 1) + 1) (y := x) (by omega) (by omega)
        omega
    · intro h1
      have := sq_mono h h1
      omega
  · refine ⟨fun _ => by omega, fun _ => ?_⟩
    have h1 := sq_mono (x := -x) (y := -e) (by omega) (by omega)
    have e1 : -x * -x = x * x := by grind
    have e2 : -e * -e = e * e := by grind
    omega
theorem pair_iff {D e c : Int} (hD : 5 ≤ D) (he : e * e < D) (h4 : (D - e * e) % 4 = 0) (hc : 1 ≤ c) (hd : qn D e % c = 0) : c + e < qn D e / c ↔ c ≤ (rt (D - 1) - e) / 2 := by
  have h1 : c * (qn D e / c) = qn D e := by rw [Int.mul_comm]; exact Int.ediv_mul_cancel_of_emod_eq_zero hd
  have h2 : 4 * qn D e = D - e * e := by unfold qn; omega
  generalize qn D e / c = b at *
  have h3 : (2 * c + e) * (2 * c + e) = 4 * (c * (c + e)) + e * e := by grind
  have h5 : c + e < b ↔ c * (c + e) < c * b := by
    constructor
    · intro h; exact Int.mul_lt_mul_of_pos_left h (by omega)
    · intro h; exact Int.lt_of_mul_lt_mul_left h (by omega)
  have h6 := below_iff hD he hc
  rw [h5, h1]
  constructor
  · intro h
    have := h6.mp (by omega)
    omega
  · intro h
    have := h6.mpr (by omega)
    omega
theorem qn_pos {D e : Int} (he : e * e < D) (h4 : (D - e * e) % 4 = 0) : 1 ≤ qn D e := by unfold qn; omega
theorem hmw_due {D e : Int} (hM : Meas D) : hmw D e = dueM D e := by
  unfold hmw dueM
  have hp := par_iff (e := e) hM
  by_cases h : D ≤ e * e ∨ (D - e) % 2 = 1
  · rw [if_pos h, if_pos (h.elim (fun h => .inl (by omega)) (fun h => .inr (hp.mp h)))]
  · have h4 : (D - e * e) % 4 = 0 := by
      by_cases h4 : (D - e * e) % 4 = 0
      · exact h4
      · exact absurd (.inr (hp.mpr h4)) h
    have he : e * e < D := by
      by_cases he : e * e < D
      · exact he
      · exact absurd (.inl (by omega)) h
    rw [if_neg h, if_neg (fun z => z.elim (fun z => by omega) (fun z => z h4))]
    have hq := qn_pos he h4
    have e1 : rs ((rt (D - 1) - e) / 2).toNat (hmwF D e) = rs ((rt (D - 1) - e) / 2).toNat (dueF D e) := by
      refine rs_congr fun i hi => ?_
      unfold hmwF dueF
      by_cases hd : qn D e % ((i : Int) + 1) = 0
      · have := (pair_iff hM.1 he h4 (c := (i : Int) + 1) (by omega) hd).mpr (by omega)
        rw [if_pos hd, if_pos ⟨hd, this⟩, cutW_fst (by omega)]
      · rw [if_neg hd, if_neg (fun z => hd z.1)]
    have z1 : ∀ i : Nat, ((rt (D - 1) - e) / 2).toNat ≤ i → dueF D e i = 0 := fun i hi => by
      unfold dueF
      rw [if_neg]
      rintro ⟨hd, hlt⟩
      have := (pair_iff hM.1 he h4 (c := (i : Int) + 1) (by omega) hd).mp hlt
      omega
    have z2 : ∀ i : Nat, (qn D e).toNat ≤ i → dueF D e i = 0 := fun i hi => by
      unfold dueF
      rw [if_neg]
      rintro ⟨hd, hlt⟩
      rw [Int.emod_eq_of_lt (by omega) (by omega)] at hd
      omega
    rw [e1]
    by_cases hle : ((rt (D - 1) - e) / 2).toNat ≤ (qn D e).toNat
    · exact (rs_ext hle fun i h1 _ => z1 i h1).symm
    · exact rs_ext (by omega) fun i h1 _ => z2 i h1
theorem both_due {D e : Int} (hM : Meas D) (hn : ¬ (rt (D - 1) + 1) * (rt (D - 1) + 1) = D) : bothM D e = dueM D e + dueM D (-e) := by
  have hee : -e * -e = e * e := by grind
  unfold dueM
  rw [hee]
  have hqq : qn D (-e) = qn D e := by unfold qn; rw [hee]
  by_cases h : D - e * e ≤ 0 ∨ ¬ (D - e * e) % 4 = 0
  · rw [if_pos h, if_pos h]
    unfold bothM
    rcases h with h | h
    · have : (qn D e).toNat = 0 := by unfold qn; omega
      rw [this]
      rfl
    · exact rs_zero fun i _ => by unfold bothF; rw [if_neg (fun z => h z.1)]
  · have h4 : (D - e * e) % 4 = 0 := by
      by_cases h4 : (D - e * e) % 4 = 0
      · exact h4
      · exact absurd (.inr h4) h
    have he : e * e < D := by
      by_cases he : e * e < D
      · exact he
      · exact absurd (.inl (by omega)) h
    rw [if_neg h, if_neg h, hqq]
    have hq := qn_pos he h4
    have hdq : 4 * qn D e = D - e * e := by unfold qn; omega
    have key : ∀ i : Nat, qn D e % ((i : Int) + 1) = 0 → ((i : Int) + 1) * (qn D e / ((i : Int) + 1)) = qn D e := fun i hd => by
      rw [Int.mul_comm]; exact Int.ediv_mul_cancel_of_emod_eq_zero hd
    have e1 : bothM D e = rs (qn D e).toNat (dueF D e) + rs (qn D e).toNat (fun i => if ((qn D e).toNat : Int) % (i + 1) = 0 then (fun c => if qn D e / c < c + e then cutW (qn D e / c) c e else 0) (i + 1) else 0) := by
      unfold bothM
      rw [← rs_add]
      refine rs_congr fun i hi => ?_
      unfold bothF dueF
      rw [show ((qn D e).toNat : Int) = qn D e by omega]
      by_cases hd : qn D e % ((i : Int) + 1) = 0
      · have hk := key i hd
        rw [if_pos ⟨h4, hd⟩, if_pos hd]
        simp only
        generalize qn D e / ((i : Int) + 1) = b at *
        have hne : ¬ (i : Int) + 1 + e = b := fun hb => by
          refine hn ?_
          obtain ⟨r0, r1, r2⟩ := rt_spec (n := D - 1) (by have := hM.1; omega)
          generalize rt (D - 1) = r at *
          have hx : ((i : Int) + 1 + b) * ((i : Int) + 1 + b) = D := by
            have : ((i : Int) + 1 + b) * ((i : Int) + 1 + b) = e * e + 4 * (((i : Int) + 1) * b) := by
              subst hb
              grind
            omega
          have hb1 : 1 ≤ b := by
            by_cases hb1 : 1 ≤ b
            · exact hb1
            · have := Int.mul_le_mul_of_nonneg_left (show b ≤ 0 by omega) (show 0 ≤ (i : Int) + 1 by omega)
              omega
          generalize hxx : (i : Int) + 1 + b = x at *
          have hx0 : 0 ≤ x := by omega
          have a1 : r < x := by
            by_cases a1 : r < x
            · exact a1
            · have := sq_mono (x := x) (y := r) (by omega) (by omega)
              omega
          have a2 : x ≤ r + 1 := by
            by_cases a2 : x ≤ r + 1
            · exact a2
            · have := sq_mono (x := r + 2) (y := x) (by omega) (by omega)
              have e2 : (r + 2) * (r + 2) = (r + 1) * (r + 1) + 2 * r + 3 := by grind
              omega
          rw [show r + 1 = x by omega]
          exact hx
        by_cases hlt : (i : Int) + 1 + e < b
        · rw [if_pos ⟨hd, hlt⟩, if_neg (by omega)]; omega
        · rw [if_neg (fun z => hlt z.2), if_pos (by omega)]; omega
      · rw [if_neg (fun z => hd z.2), if_neg (fun z => hd z.1), if_neg hd]; rfl
    rw [e1, rs_div (f := fun c => if qn D e / c < c + e then cutW (qn D e / c) c e else 0)]
    congr 1
    refine rs_congr fun i hi => ?_
    unfold dueF
    rw [show ((qn D e).toNat : Int) = qn D e by omega, hqq]
    by_cases hd : qn D e % ((i : Int) + 1) = 0
    · have hk := key i hd
      rw [if_pos hd]
      have hb1 : 1 ≤ qn D e / ((i : Int) + 1) := by
        by_cases hb1 : 1 ≤ qn D e / ((i : Int) + 1)
        · exact hb1
        · have := Int.mul_le_mul_of_nonneg_left (show qn D e / ((i : Int) + 1) ≤ 0 by omega) (show 0 ≤ (i : Int) + 1 by omega)
          omega
      have hc : qn D e / (qn D e / ((i : Int) + 1)) = (i : Int) + 1 := Int.ediv_eq_of_eq_mul_left (by omega) hk.symm
      rw [hc]
      have hw := cutW_swap (qn D e / ((i : Int) + 1)) ((i : Int) + 1) (-e)
      rw [Int.neg_neg] at hw
      by_cases hlt : (i : Int) + 1 < qn D e / ((i : Int) + 1) + e
      · rw [if_pos hlt, if_pos ⟨hd, by omega⟩, hw]
      · rw [if_neg hlt, if_neg (fun z => hlt (by have := z.2; omega))]
    · rw [if_neg hd, if_neg (fun z => hd z.1)]
/-! ### over all last items -/
def es (K : Nat) (F : Int → Int) : Int := F 0 + rs K fun i => F (i + 1) + F (-(i + 1))
theorem es_neg {K : Nat} {F : Int → Int} : es K (fun e => F (-e)) = es K F := by
  unfold es
  congr 1
  refine rs_congr fun i _ => ?_
  show F (-((i : Int) + 1)) + F (- -((i : Int) + 1)) = _
  rw [Int.neg_neg, Int.add_comm]
theorem es_add {K : Nat} {F G : Int → Int} : es K (fun e => F e + G e) = es K F + es K G := by
  unfold es
  have := rs_add (n := K) (f := fun i => F (i + 1) + F (-(i + 1))) (g := fun i => G (i + 1) + G (-(i + 1)))
  have e : rs K (fun i => F (i + 1) + G (i + 1) + (F (-(i + 1)) + G (-(i + 1)))) = rs K (fun i => (fun i => F (i + 1) + F (-(i + 1))) i + (fun i => G (i + 1) + G (-(i + 1))) i) := rs_congr fun i _ => by simp only; omega
  rw [e, this]
  show F 0 + G 0 + _ = _
  omega
theorem es_congr {K : Nat} {F G : Int → Int} (h : ∀ e, F e = G e) : es K F = es K G := by
  rw [show F = G from funext h]
theorem es_ext {r K : Nat} {F : Int → Int} (h : r ≤ K) (hz : ∀ e : Int, (r : Int) < e ∨ e < -(r : Int) → F e = 0) : es K F = es r F := by
  unfold es
  congr 1
  refine rs_ext h fun i h1 _ => ?_
  rw [hz _ (.inl (by omega)), hz _ (.inr (by omega))]
  rfl
theorem es_loop {K : Nat} {F : Int → Int} : rs (2 * K + 1) (fun i => F (i - K)) = es K F := by
  induction K with
  | zero =>
    show 0 + F (((0 : Nat) : Int) - ((0 : Nat) : Int)) = F 0 + 0
    simp
  | succ K ih =>
    have e1 : rs (2 * K + 2) (fun i => F (i - K)) = es K F + F (K + 1) := by
      rw [rs, ih, show ((2 * K + 1 : Nat) : Int) - (K : Int) = (K : Int) + 1 by omega]
    have e2 : rs (2 * (K + 1) + 1) (fun i => F (i - ((K + 1 : Nat) : Int))) = F (-((K : Int) + 1)) + rs (2 * K + 2) (fun i => F (i - K)) := by
      rw [show 2 * (K + 1) + 1 = (2 * K + 2) + 1 by omega, rs_left, show (0 : Int) - ((K + 1 : Nat) : Int) = -((K : Int) + 1) by omega]
      congr 1
      exact rs_congr fun i _ => by rw [show (i : Int) + 1 - ((K + 1 : Nat) : Int) = (i : Int) - K by omega]
    rw [e2, e1]
    unfold es
    rw [rs]
    omega
end Kx
namespace Kx
open PySem PySem.Spec PyProof.Rows L2
/-! ### lists as they stand -/
def firstsL (g e : Int) (n : Nat) : List Int := ((List.range n).filter fun a : Nat => decide (gcdI (gcdI (a : Int) g) e = 1)).map fun a : Nat => (a : Int)
theorem firstsL_succ (g e : Int) (n : Nat) : firstsL g e (n + 1) = firstsL g e n ++ (if gcdI (gcdI n g) e = 1 then [(n : Int)] else []) := by
  unfold firstsL
  rw [List.range_succ, List.filter_append, List.map_append]
  congr 1
  by_cases h : gcdI (gcdI n g) e = 1
  · rw [if_pos h, List.filter_cons, if_pos (decide_eq_true h)]
    rfl
  · rw [if_neg h, List.filter_cons, if_neg (by rw [decide_eq_false h]; decide)]
    rfl
theorem firstsL_len (g e : Int) (n : Nat) : ((firstsL g e n).length : Int) = rs n fun a => if gcdI (gcdI a g) e = 1 then 1 else 0 := by
  induction n with
  | zero => rfl
  | succ n ih =>
    rw [firstsL_succ, List.length_append, Int.natCast_add, ih, rs]
    congr 1
    by_cases h : gcdI (gcdI n g) e = 1
    · rw [if_pos h, if_pos h]; rfl
    · rw [if_neg h, if_neg h]; rfl
theorem firstsL_le (g e : Int) (n : Nat) : (firstsL g e n).length ≤ n := by
  unfold firstsL
  rw [List.length_map]
  have := List.length_filter_le (fun a : Nat => decide (gcdI (gcdI (a : Int) g) e = 1)) (List.range n)
  rwa [List.length_range] at this
def InvFi (h : Hp) (Dd : Addr) (g e : Int) : Nat → Hp → Prop := fun i H2 => Same h H2 ∧ H2 Dd = some (.lst ((firstsL g e i).map V.int))
/-- pairs (n / c, c) -/
def midsL (n : Int) (k : Nat) : List (Int × Int) := ((List.range k).filter fun i : Nat => decide (n % ((i : Int) + 1) = 0)).map fun i : Nat => (n / ((i : Int) + 1), (i : Int) + 1)
theorem midsL_succ (n : Int) (k : Nat) : midsL n (k + 1) = midsL n k ++ (if n % ((k : Int) + 1) = 0 then [(n / ((k : Int) + 1), (k : Int) + 1)] else []) := by
  unfold midsL
  rw [List.range_succ, List.filter_append, List.map_append]
  congr 1
  by_cases h : n % ((k : Int) + 1) = 0
  · rw [if_pos h, List.filter_cons, if_pos (decide_eq_true h)]
    rfl
  · rw [if_neg h, List.filter_cons, if_neg (by rw [decide_eq_false h]; decide)]
    rfl
theorem midsL_le (n : Int) (k : Nat) : (midsL n k).length ≤ k := by
  unfold midsL
  rw [List.length_map]
  have := List.length_filter_le (fun i : Nat => decide (n % ((i : Int) + 1) = 0)) (List.range k)
  rwa [List.length_range] at this
theorem midsL_sum (n : Int) (k : Nat) (f : Int × Int → Int) : ((midsL n k).map f).sum = rs k fun i => if n % (i + 1) = 0 then f (n / (i + 1), i + 1) else 0 := by
  induction k with
  | zero => rfl
  | succ k ih =>
    rw [midsL_succ, List.map_append, List.sum_append, ih, rs]
    congr 1
    by_cases h : n % ((k : Int) + 1) = 0
    · rw [if_pos h, if_pos h]; simp
    · rw [if_neg h, if_neg h]; rfl
theorem midsL_mem {n : Int} {k : Nat} {p : Int × Int} (h : p ∈ midsL n k) : 1 ≤ p.2 ∧ p.2 ≤ k ∧ n % p.2 = 0 ∧ p.1 = n / p.2 := by
  unfold midsL at h
  obtain ⟨i, hi, rfl⟩ := List.mem_map.mp h
  obtain ⟨h1, h2⟩ := List.mem_filter.mp hi
  have := List.mem_range.mp h1
  exact ⟨by simp only; omega, by simp only; omega, of_decide_eq_true h2, rfl⟩
inductive PrAll (H : Hp) : List Addr → List (Int × Int) → Prop
  | nil : PrAll H [] []
  | cons {l : Addr} {q : Int × Int} {ls : List Addr} {qs : List (Int × Int)} : H l = some (.tup [.int q.1, .int q.2]) → PrAll H ls qs → PrAll H (l :: ls) (q :: qs)
section
variable {H H' : Hp} {ls ms : List Addr} {qs qt : List (Int × Int)}
theorem PrAll.len (h : PrAll H ls qs) : ls.length = qs.length := by
  induction h with
  | nil => rfl
  | cons _ _ ih => rw [List.length_cons, List.length_cons, ih]
theorem PrAll.imp (h : PrAll H ls qs) (f : ∀ l xs, H l = some (.tup xs) → H' l = some (.tup xs)) : PrAll H' ls qs := by
  induction h with
  | nil => exact .nil
  | cons e _ ih => exact .cons (f _ _ e) ih
theorem PrAll.same (h : PrAll H ls qs) (s : Same H H') : PrAll H' ls qs := h.imp fun _ _ e => s _ _ e
theorem PrAll.append (h : PrAll H ls qs) (h2 : PrAll H ms qt) : PrAll H (ls ++ ms) (qs ++ qt) := by
  induction h with
  | nil => exact h2
  | cons e _ ih => exact .cons e ih
theorem PrAll.get (h : PrAll H ls qs) {i : Nat} {l : Addr} (hl : ls[i]? = some l) : ∃ q, qs[i]? = some q ∧ H l = some (.tup [.int q.1, .int q.2]) := by
  induction h generalizing i with
  | nil => simp at hl
  | @cons l' q' ls' qs' e _ ih =>
    cases i with
    | zero =>
      obtain rfl : l' = l := by simpa using hl
      exact ⟨q', rfl, e⟩
    | succ i =>
      rw [List.getElem?_cons_succ] at hl
      obtain ⟨q, h1, h2⟩ := ih hl
      exact ⟨q, by rw [List.getElem?_cons_succ]; exact h1, h2⟩
end
def InvMi (h : Hp) (Dd : Addr) (n : Int) : Nat → Hp → Prop := fun i H2 => Same h H2 ∧ ∃ ls : List Addr, H2 Dd = some (.lst (ls.map V.ref)) ∧ PrAll H2 ls (midsL n i)
theorem InvMi.push {h H2 H3 : Hp} {Dd p : Addr} {n : Int} {i : Nat} (hi : InvMi h Dd n i H2) (hD : h Dd = none) (s : Same H2 H3) (hd : n % ((i : Int) + 1) = 0) (e : H3 p = some (.tup [.int (n / ((i : Int) + 1)), .int ((i : Int) + 1)])) (hle : i < 1000000) : ∃ acc, H3 Dd = some (.lst acc) ∧ acc.length < sizeLine ∧ InvMi h Dd n (i + 1) (L2.upd H3 Dd (.lst (acc ++ [.ref p]))) := by
  obtain ⟨s2, ls, eD, hl⟩ := hi
  have eD3 := s _ _ eD
  have h1 := midsL_le n i
  have h2 := hl.len
  refine ⟨_, eD3, ?_, Same.upd2 (s2.trans s) hD, ls ++ [p], by rw [upd_same, List.map_append]; rfl, ?_⟩
  · rw [List.length_map]
    exact Nat.lt_of_lt_of_le (show ls.length < 1000000 by omega) (Nat.le_of_ble_eq_true rfl)
  rw [midsL_succ, if_pos hd]
  exact ((hl.same s).append (.cons e .nil)).imp fun l xs h => upd_lst eD3 h (fun z => by cases z)
theorem InvMi.skip {h H2 H3 : Hp} {Dd : Addr} {n : Int} {i : Nat} (hi : InvMi h Dd n i H2) (s : Same H2 H3) (hd : ¬ n % ((i : Int) + 1) = 0) : InvMi h Dd n (i + 1) H3 := by
  obtain ⟨s2, ls, eD, hl⟩ := hi
  refine ⟨s2.trans s, ls, s _ _ eD, ?_⟩
  rw [midsL_succ, if_neg hd, List.append_nil]
  exact hl.same s
/-- a growing list of ints, their sum told -/
def InvSu (h : Hp) (Dd : Addr) (f : Nat → Int) : Nat → Hp → Prop := fun i H2 => Same h H2 ∧ ∃ ns : List Int, H2 Dd = some (.lst (ns.map V.int)) ∧ ns.length = i ∧ ns.sum = f i
theorem InvSu.push {h H2 H3 : Hp} {Dd : Addr} {f : Nat → Int} {n : Int} {i : Nat} (hi : InvSu h Dd f i H2) (hD : h Dd = none) (s : Same H2 H3) (hf : f (i + 1) = f i + n) (hle : i < 1000000) : ∃ acc, H3 Dd = some (.lst acc) ∧ acc.length < sizeLine ∧ InvSu h Dd f (i + 1) (L2.upd H3 Dd (.lst (acc ++ [.int n]))) := by
  obtain ⟨s2, ns, eD, hl, hs⟩ := hi
  refine ⟨_, s _ _ eD, ?_, Same.upd2 (s2.trans s) hD, ns ++ [n], by rw [upd_same, List.map_append]; rfl, by rw [List.length_append, hl]; rfl, ?_⟩
  · rw [List.length_map, hl]
    exact Nat.lt_of_lt_of_le hle (Nat.le_of_ble_eq_true rfl)
  · rw [List.sum_append, hs, hf]
    simp
/-- a growing list, its length told -/
def InvLe (h : Hp) (Dd : Addr) (f : Nat → Int) : Nat → Hp → Prop := fun i H2 => Same h H2 ∧ ∃ xs : List V, H2 Dd = some (.lst xs) ∧ xs.length ≤ i ∧ (xs.length : Int) = f i
def midsD (D e : Int) : List (Int × Int) := if D ≤ e * e ∨ (D - e) % 2 = 1 then [] else midsL (qn D e) ((rt (D - 1) - e) / 2).toNat
/-! ### promises -/
def spFirsts : Sp := fun vs H Q _ => ∃ b c e : Int, vs = [.int b, .int c, .int e] ∧ 1 ≤ b ∧ 1 ≤ c ∧ c < 100000 ∧ ∀ p H', Same H H' → H' p = some (.lst ((firstsL (gcdI b c) e (gcdI b c).toNat).map V.int)) → Q (.ref p) H'
def spMiddles : Sp := fun vs H Q _ => ∃ D e : Int, vs = [.int D, .int e] ∧ Meas D ∧ D < 100000 ∧ e.natAbs < 2 ^ 100 ∧ ∀ (p : Addr) (ls : List Addr) (H' : Hp), Same H H' → H' p = some (.lst (ls.map V.ref)) → PrAll H' ls (midsD D e) → Q (.ref p) H'
def spHmw : Sp := fun vs H Q _ => ∃ D e : Int, vs = [.int D, .int e] ∧ Meas D ∧ D < 100000 ∧ e.natAbs < 2 ^ 100 ∧ ∀ H', Same H H' → Q (.int (hmw D e)) H'
def spLasts : Sp := fun vs H Q _ => ∃ D : Int, vs = [.int D] ∧ Meas D ∧ D < 100000 ∧ ∀ p, H p = none → Q (.ref p) (L2.upd H p (.lst (rgV (-rt D) (rt D + 1))))
def spHmc : Sp := fun vs H Q _ => ∃ D : Int, vs = [.int D] ∧ Meas D ∧ D < 100000 ∧ ∀ H', Same H H' → Q (.int (es (rt D).toNat (hmw D))) H'
end Kx
namespace Kx
open PySem PySem.Spec PyProof.Rows L2
theorem small_e {D e : Int} (hD : D < 100000) (h : e * e < D) : e.natAbs < 400 := by
  by_cases hb : e.natAbs < 400
  · exact hb
  · have := sq_mono (x := 400) (y := (e.natAbs : Int)) (by omega) (by omega)
    have e2 : (e.natAbs : Int) * (e.natAbs : Int) = e * e := Int.natAbs_mul_self' e
    omega
theorem mids_all {D e : Int} (hM : Meas D) (hD : D < 100000) : (midsD D e).length ≤ 100000 ∧ ∀ p ∈ midsD D e, 1 ≤ p.1 ∧ 1 ≤ p.2 ∧ p.2 < 100000 := by
  unfold midsD
  have h5 := hM.1
  by_cases h : D ≤ e * e ∨ (D - e) % 2 = 1
  · rw [if_pos h]
    exact ⟨Nat.zero_le _, fun p hp => by cases hp⟩
  · rw [if_neg h]
    have he : e * e < D := by
      by_cases he : e * e < D
      · exact he
      · exact absurd (.inl (by omega)) h
    have h4 : (D - e * e) % 4 = 0 := by
      by_cases h4 : (D - e * e) % 4 = 0
      · exact h4
      · exact absurd (.inr ((par_iff hM).mpr h4)) h
    have hb := small_e hD he
    have hr := rt_le (n := D - 1) (by omega)
    have hq := qn_pos he h4
    have hl := midsL_le (qn D e) ((rt (D - 1) - e) / 2).toNat
    have hr2 : rt (D - 1) < 400 := by
      obtain ⟨r0, r1, r2⟩ := rt_spec (n := D - 1) (by omega)
      by_cases h : rt (D - 1) < 400
      · exact h
      · have := sq_mono (x := 400) (y := rt (D - 1)) (by omega) (by omega)
        omega
    refine ⟨by omega, fun p hp => ?_⟩
    obtain ⟨p1, p2, p3, p4⟩ := midsL_mem hp
    refine ⟨?_, p1, by omega⟩
    have h1 := Int.ediv_mul_cancel_of_emod_eq_zero p3
    rw [← p4] at h1
    by_cases h0 : 1 ≤ p.1
    · exact h0
    · have := Int.mul_le_mul_of_nonneg_right (show p.1 ≤ 0 by omega) (show 0 ≤ p.2 by omega)
      omega
theorem mids_sum {D e : Int} : ((midsD D e).map fun p => fstN (gcdI p.1 p.2) e).sum = hmw D e := by
  unfold midsD hmw
  by_cases h : D ≤ e * e ∨ (D - e) % 2 = 1
  · rw [if_pos h, if_pos h]
    rfl
  · rw [if_neg h, if_neg h, midsL_sum]
    rfl
theorem sum_take {α : Type} {ps : List α} {F : α → Int} {i : Nat} {q : α} (h : ps[i]? = some q) : ((ps.take (i + 1)).map F).sum = ((ps.take i).map F).sum + F q := by
  rw [List.take_succ, h, List.map_append, List.sum_append]
  simp
end Kx
namespace Kx
open PySem PySem.Spec PyProof.Rows L2
def spDrawnM : Sp := fun vs H Q _ => ∃ (g : Addr) (n : Int) (k : Nat), vs = [.ref g, .int n] ∧ GenAt H g k ∧ k ≤ 2 ^ 39 ∧ 1 ≤ n ∧ n ≤ 1000 ∧ ∀ (D : Int) (H' : Hp), Meas D → D ≤ 4001 → GenAt H' g (k + 40) → Keep g H H' → Q (.int D) H'
def spFree : Sp := fun vs H Q _ => ∃ n : Int, vs = [.int n] ∧ 1 ≤ n ∧ n < 100000 ∧ ∀ H', Same H H' → Q (.int (freeN n)) H'
def spDue : Sp := fun vs H Q _ => ∃ D e : Int, vs = [.int D, .int e] ∧ Meas D ∧ D < 100000 ∧ e.natAbs < 2 ^ 100 ∧ ∀ H', Same H H' → Q (.int (dueM D e)) H'
def spBoth : Sp := fun vs H Q _ => ∃ D e : Int, vs = [.int D, .int e] ∧ Meas D ∧ D < 100000 ∧ e.natAbs < 2 ^ 100 ∧ ∀ H', Same H H' → Q (.int (bothM D e)) H'
end Kx
namespace Kx
open PySem PySem.Spec PyProof.Rows L2
theorem InvLe.push {h H2 H3 : Hp} {Dd : Addr} {f : Nat → Int} {v : V} {i : Nat} (hi : InvLe h Dd f i H2) (hD : h Dd = none) (s : Same H2 H3) (hf : f (i + 1) = f i + 1) (hle : i < 1000000) : ∃ acc, H3 Dd = some (.lst acc) ∧ acc.length < sizeLine ∧ InvLe h Dd f (i + 1) (L2.upd H3 Dd (.lst (acc ++ [v]))) := by
  obtain ⟨s2, xs, eD, hl, hs⟩ := hi
  refine ⟨xs, s _ _ eD, ?_, Same.upd2 (s2.trans s) hD, xs ++ [v], upd_same, by rw [List.length_append]; simp only [List.length_cons, List.length_nil]; omega, ?_⟩
  · exact Nat.lt_of_lt_of_le (show xs.length < 1000000 by omega) (Nat.le_of_ble_eq_true rfl)
  · rw [List.length_append, hf]
    simp only [List.length_cons, List.length_nil]
    omega
theorem InvLe.skip {h H2 H3 : Hp} {Dd : Addr} {f : Nat → Int} {i : Nat} (hi : InvLe h Dd f i H2) (s : Same H2 H3) (hf : f (i + 1) = f i) : InvLe h Dd f (i + 1) H3 := by
  obtain ⟨s2, xs, eD, hl, hs⟩ := hi
  exact ⟨s2.trans s, xs, s _ _ eD, by omega, by rw [hf]; exact hs⟩
def InvDu (D e : Int) (H : Hp) : Nat → SV → Hp → Prop := fun i σ H2 => ∃ t4 t5 t6 : Option V, σ = [some (.int D), some (.int e), some (.int (rs i (dueF D e))), some (.int (D - e * e)), t4, t5, t6] ∧ Same H H2
def InvBo (D e : Int) (H : Hp) : Nat → SV → Hp → Prop := fun i σ H2 => ∃ t4 t5 t6 : Option V, σ = [some (.int D), some (.int e), some (.int (rs i (bothF D e))), some (.int (D - e * e)), t4, t5, t6] ∧ Same H H2
theorem sq_nonneg' (e : Int) : 0 ≤ e * e := by
  have h1 : (e.natAbs : Int) * (e.natAbs : Int) = e * e := Int.natAbs_mul_self' e
  have h2 := Int.mul_nonneg (show (0 : Int) ≤ e.natAbs by omega) (show (0 : Int) ≤ e.natAbs by omega)
  omega
theorem qn_bd {D e : Int} (hD : D < 100000) (h : 0 < D - e * e) : qn D e < 100000 := by
  unfold qn
  have := sq_nonneg' e
  omega
end Kx
namespace Kx
open PySem PySem.Spec PyProof.Rows L2
theorem rs_bd {n : Nat} {f : Int → Int} {B : Int} (h : ∀ i : Nat, i < n → 0 ≤ f i ∧ f i ≤ B) : 0 ≤ rs n f ∧ rs n f ≤ n * B := by
  induction n with
  | zero => exact ⟨Int.le_refl _, by rw [Int.natCast_zero, Int.zero_mul]; exact Int.le_refl _⟩
  | succ n ih =>
    obtain ⟨h1, h2⟩ := ih fun i hi => h i (by omega)
    obtain ⟨h3, h4⟩ := h n (by omega)
    rw [rs, Int.natCast_add, Int.add_mul]
    exact ⟨by omega, by simp only [Int.natCast_one, Int.one_mul]; omega⟩
theorem free_bd {p : Int} (hp : 0 ≤ p) : 0 ≤ freeN p ∧ freeN p ≤ p := by
  have := rs_bd (n := p.toNat) (f := fun i => if gcdI (1 + i) p = 1 then 1 else 0) (B := 1) fun i _ => by
    split <;> omega
  unfold freeN
  omega
theorem cutW_bd {b c e : Int} (h1 : 1 ≤ c) (h2 : c < 100000) : 0 ≤ cutW b c e ∧ cutW b c e ≤ 10000000000 := by
  unfold cutW
  have g1 := gcdI_pos (a := b) (b := c) (by omega)
  have g2 := gcdI_le (a := b) (b := c) (by omega)
  generalize gcdI b c = g at *
  have p1 := gcdI_posL (a := g) (b := e) (by omega)
  have p2 := gcdI_le (a := e) (b := g) (by omega)
  rw [gcdI_comm] at p2
  generalize gcdI g e = p at *
  have hle : g / p ≤ g := Int.ediv_le_self _ (by omega)
  have hge : 0 ≤ g / p := Int.ediv_nonneg (by omega) (by omega)
  obtain ⟨f1, f2⟩ := free_bd (p := p) (by omega)
  have h3 := Int.mul_nonneg hge f1
  have h4 := Int.mul_le_mul (show g / p ≤ 100000 by omega) (show freeN p ≤ 100000 by omega) f1 (by decide)
  omega
theorem due_bd {D e : Int} (hD : D < 100000) : 0 ≤ dueM D e ∧ dueM D e ≤ 1000000000000000 := by
  unfold dueM
  by_cases h : D - e * e ≤ 0 ∨ ¬ (D - e * e) % 4 = 0
  · rw [if_pos h]
    exact ⟨by decide, by decide⟩
  · rw [if_neg h]
    have hq := qn_bd (D := D) (e := e) hD (by omega)
    have := rs_bd (n := (qn D e).toNat) (f := dueF D e) (B := 10000000000) fun i hi => by
      unfold dueF
      have := cutW_bd (b := qn D e / ((i : Int) + 1)) (c := (i : Int) + 1) (e := e) (by omega) (by omega)
      split <;> omega
    omega
theorem due_out {D e : Int} (hM : Meas D) (h : (rt (D - 1)) < e ∨ e < -(rt (D - 1))) : dueM D e = 0 := by
  unfold dueM
  obtain ⟨r0, r1, r2⟩ := rt_spec (n := D - 1) (by have := hM.1; omega)
  rw [if_pos]
  refine .inl ?_
  rcases h with h | h
  · have := sq_mono (x := rt (D - 1) + 1) (y := e) (by omega) (by omega)
    omega
  · have := sq_mono (x := rt (D - 1) + 1) (y := -e) (by omega) (by omega)
    have e2 : -e * -e = e * e := by grind
    omega
theorem es_due {D : Int} {K : Nat} (hM : Meas D) (h : rt (D - 1) ≤ K) : es K (dueM D) = es (rt (D - 1)).toNat (dueM D) := by
  obtain ⟨r0, r1, r2⟩ := rt_spec (n := D - 1) (by have := hM.1; omega)
  exact es_ext (by omega) fun e he => due_out hM (by omega)
theorem es_hmw {D : Int} (hM : Meas D) : es (rt D).toNat (hmw D) = es (rt (D - 1)).toNat (dueM D) := by
  obtain ⟨r0, r1, r2⟩ := rt_spec (n := D - 1) (by have := hM.1; omega)
  obtain ⟨q0, q1, q2⟩ := rt_spec (n := D) (by have := hM.1; omega)
  rw [es_congr fun e => hmw_due hM]
  refine es_due hM ?_
  by_cases h : rt (D - 1) ≤ rt D
  · omega
  · have := sq_mono (x := rt D + 1) (y := rt (D - 1)) (by omega) (by omega)
    omega
theorem es_both {D : Int} (hM : Meas D) (hn : ¬ (rt (D - 1) + 1) * (rt (D - 1) + 1) = D) {K : Nat} : es K (bothM D) = 2 * es K (dueM D) := by
  rw [es_congr fun e => both_due (e := e) hM hn, es_add, es_neg]
  omega
theorem es_bd {D : Int} {K : Nat} (hD : D < 100000) (hK : K < 100000) : 0 ≤ es K (dueM D) ∧ es K (dueM D) ≤ 1000000000000000000000 := by
  unfold es
  have h0 := due_bd (e := 0) hD
  have := rs_bd (n := K) (f := fun i => dueM D (i + 1) + dueM D (-(i + 1))) (B := 2000000000000000) fun i _ => by
    have h1 := due_bd (e := (i : Int) + 1) hD
    have h2 := due_bd (e := -((i : Int) + 1)) hD
    omega
  omega
def sqL (D : Int) (n : Nat) : List Int := ((List.range n).filter fun k : Nat => decide ((k : Int) * k < D)).map fun k : Nat => (k : Int)
theorem sqL_succ (D : Int) (n : Nat) : sqL D (n + 1) = sqL D n ++ (if (n : Int) * n < D then [(n : Int)] else []) := by
  unfold sqL
  rw [List.range_succ, List.filter_append, List.map_append]
  congr 1
  by_cases h : (n : Int) * n < D
  · rw [if_pos h, List.filter_cons, if_pos (decide_eq_true h)]
    rfl
  · rw [if_neg h, List.filter_cons, if_neg (by rw [decide_eq_false h]; decide)]
    rfl
theorem sqL_le (D : Int) (n : Nat) : (sqL D n).length ≤ n := by
  unfold sqL
  rw [List.length_map]
  have := List.length_filter_le (fun k : Nat => decide ((k : Int) * k < D)) (List.range n)
  rwa [List.length_range] at this
theorem sqL_mem {D m : Int} {n : Nat} : m ∈ sqL D n ↔ 0 ≤ m ∧ m < n ∧ m * m < D := by
  unfold sqL
  constructor
  · intro h
    obtain ⟨k, hk, rfl⟩ := List.mem_map.mp h
    obtain ⟨h1, h2⟩ := List.mem_filter.mp hk
    have := List.mem_range.mp h1
    exact ⟨by omega, by omega, of_decide_eq_true h2⟩
  · rintro ⟨h0, h1, h2⟩
    refine List.mem_map.mpr ⟨m.toNat, List.mem_filter.mpr ⟨List.mem_range.mpr (by omega), ?_⟩, by omega⟩
    rw [show ((m.toNat : Nat) : Int) = m by omega]
    exact decide_eq_true h2
theorem sqL_max {D m : Int} (hM : Meas D) (hD : D ≤ 4001) (h1 : m ∈ sqL D 66) (h2 : ∀ y, y ∈ sqL D 66 → y ≤ m) : m = rt (D - 1) := by
  obtain ⟨r0, r1, r2⟩ := rt_spec (n := D - 1) (by have := hM.1; omega)
  obtain ⟨m0, m1, m2⟩ := sqL_mem.mp h1
  have hr : rt (D - 1) < 66 := by
    by_cases h : rt (D - 1) < 66
    · exact h
    · have := sq_mono (x := 66) (y := rt (D - 1)) (by omega) (by omega)
      omega
  have h3 := h2 _ (sqL_mem.mpr ⟨r0, by omega, by omega⟩)
  have h4 : m ≤ rt (D - 1) := by
    by_cases h : m ≤ rt (D - 1)
    · exact h
    · have := sq_mono (x := rt (D - 1) + 1) (y := m) (by omega) (by omega)
      omega
  omega
theorem sqL_ne {D : Int} (hM : Meas D) : 0 < (sqL D 66).length := by
  have : (0 : Int) ∈ sqL D 66 := sqL_mem.mpr ⟨by decide, by decide, by have := hM.1; omega⟩
  exact List.length_pos_of_mem this
def InvSq (h : Hp) (Dd : Addr) (D : Int) : Nat → Hp → Prop := fun i H2 => Same h H2 ∧ H2 Dd = some (.lst ((sqL D i).map V.int))
def InvMR (g : Addr) (D r : Int) (H : Hp) : Nat → SV → Hp → Prop := fun i σ H2 => ∃ t4 t5 : Option V, σ = [some (.ref g), some (.int D), some (.int r), some (.int (rs i fun j => dueM D (j - (r + 2)))), t4, t5, none] ∧ Same H H2
def spMR : Sp := fun vs H Q _ => ∃ (g : Addr) (D : Int) (k : Nat), vs = [.ref g, .int D] ∧ GenAt H g k ∧ k ≤ 2 ^ 39 ∧ Meas D ∧ D ≤ 4001 ∧ ∀ H', GenAt H' g (k + 40) → Keep g H H' → Q (.bl true) H'
end Kx
set_option Elab.async false
set_option linter.all false
set_option maxRecDepth 100000
set_option maxHeartbeats 4000000
set_option exponentiation.threshold 4000
/-! The greatest square in a number, and the factor of a measure. -/
namespace Kx
open PySem
/-- no square but 1 divides it -/
def SqF (q : Nat) : Prop := ∀ g, 2 ≤ g → ¬ g * g ∣ q
/-- the factor of a measure -/
def Fund (D f : Nat) : Prop := 1 ≤ f ∧ ∃ m, D = f * f * m ∧ m % 4 < 2 ∧ ∀ g k, 2 ≤ g → m = g * g * k → ¬ k % 4 < 2
/-- no divisor from 2 on below d -/
def Rough (d r : Nat) : Prop := ∀ k, 2 ≤ k → k < d → ¬ k ∣ r
/-- what the outer loop keeps: n is found² · s · rest -/
structure GsInv (n f r d s : Nat) : Prop where
  e : n = f * f * s * r
  f1 : 1 ≤ f
  r1 : 1 ≤ r
  s1 : 1 ≤ s
  d2 : 2 ≤ d
  ro : Rough d r
  sf : SqF s
  sd : ∀ k, 2 ≤ k → k ∣ s → ∃ j, 2 ≤ j ∧ j < d ∧ j ∣ k
theorem gs_start {n : Nat} (h : 1 ≤ n) : GsInv n 1 n 2 1 := by
  refine ⟨by omega, by decide, h, by decide, by decide, fun k h1 h2 => by omega, fun g hg hd => ?_, fun k hk hd => ?_⟩
  · have := Nat.le_of_dvd (by decide) hd
    have h2 : 2 * 2 ≤ g * g := Nat.mul_le_mul hg hg
    omega
  · have := Nat.le_of_dvd (by decide) hd
    omega
/-- a square of d is taken out -/
theorem gs_square {n f r d s : Nat} (h : GsInv n f r d s) (hd : d * d ∣ r) : GsInv n (f * d) (r / (d * d)) d s := by
  obtain ⟨k, hk⟩ := hd
  have hp : 0 < d * d := Nat.mul_pos (by have := h.d2; omega) (by have := h.d2; omega)
  have hq : r / (d * d) = k := by rw [hk]; exact Nat.mul_div_cancel_left k hp
  have hk1 : 1 ≤ k := by
    rcases Nat.eq_zero_or_pos k with h0 | h0
    · have := h.r1
      rw [hk, h0] at this
      omega
    · exact h0
  rw [hq]
  refine ⟨?_, Nat.mul_pos h.f1 (by have := h.d2; omega), hk1, h.s1, h.d2, fun j j1 j2 hj => h.ro j j1 j2 (by rw [hk]; exact Nat.dvd_trans hj (Nat.dvd_mul_left _ _)), h.sf, h.sd⟩
  have e := h.e
  rw [hk] at e
  rw [e]
  grind
theorem dvd_or_coprime {d k : Nat} (hd : 2 ≤ d) (hp : ∀ j, 2 ≤ j → j < d → ¬ j ∣ d) : d ∣ k ∨ Nat.Coprime k d := by
  have hg : Nat.gcd k d ∣ d := Nat.gcd_dvd_right k d
  have hle := Nat.le_of_dvd (by omega) hg
  have hpos : 0 < Nat.gcd k d := Nat.gcd_pos_of_pos_right k (by omega)
  by_cases h1 : Nat.gcd k d = 1
  · exact .inr h1
  · by_cases h2 : Nat.gcd k d < d
    · exact absurd hg (hp _ (by omega) h2)
    · have : Nat.gcd k d = d := by omega
      left
      rw [← this]
      exact Nat.gcd_dvd_left k d
/-- d itself, if it divides, is taken out; then the next d -/
theorem gs_next {n f r d s : Nat} (h : GsInv n f r d s) (hsq : ¬ d * d ∣ r) : (d ∣ r → GsInv n f (r / d) (d + 1) (s * d)) ∧ (¬ d ∣ r → GsInv n f r (d + 1) s) := by
  have d2 := h.d2
  refine ⟨fun hd => ?_, fun hd => ?_⟩
  · have hp : ∀ j, 2 ≤ j → j < d → ¬ j ∣ d := fun j j1 j2 hj => h.ro j j1 j2 (Nat.dvd_trans hj hd)
    obtain ⟨k, hk⟩ := hd
    have hq : r / d = k := by rw [hk]; exact Nat.mul_div_cancel_left k (by omega)
    have hk1 : 1 ≤ k := by
      rcases Nat.eq_zero_or_pos k with h0 | h0
      · have := h.r1
        rw [hk, h0] at this
        omega
      · exact h0
    rw [hq]
    refine ⟨?_, h.f1, hk1, Nat.mul_pos h.s1 (by omega), by omega, fun j j1 j2 hj => ?_, fun g hg hgd => ?_, fun j hj hjd => ?_⟩
    · have e := h.e
      rw [hk] at e
      rw [e]
      grind
    · by_cases h2 : j < d
      · exact h.ro j j1 h2 (by rw [hk]; exact Nat.dvd_trans hj (Nat.dvd_mul_left _ _))
      · have : j = d := by omega
        subst this
        obtain ⟨m, hm⟩ := hj
        exact hsq ⟨m, by rw [hk, hm, Nat.mul_assoc]⟩
    · rcases dvd_or_coprime (k := g) d2 hp with h1 | h1
      · have h2 : d * d ∣ s * d := Nat.dvd_trans (Nat.mul_dvd_mul h1 h1) hgd
        have h3 : d ∣ s := Nat.dvd_of_mul_dvd_mul_right (by omega) h2
        obtain ⟨j, j1, j2, j3⟩ := h.sd d d2 h3
        exact hp j j1 j2 j3
      · exact h.sf g hg (Nat.Coprime.dvd_of_dvd_mul_right (Nat.Coprime.mul_left h1 h1) hgd)
    · rcases dvd_or_coprime (k := j) d2 hp with h1 | h1
      · exact ⟨d, d2, by omega, h1⟩
      · obtain ⟨i, i1, i2, i3⟩ := h.sd j hj (Nat.Coprime.dvd_of_dvd_mul_right h1 hjd)
        exact ⟨i, i1, by omega, i3⟩
  · refine ⟨h.e, h.f1, h.r1, h.s1, by omega, fun j j1 j2 hj => ?_, h.sf, fun j hj hjd => ?_⟩
    · by_cases h2 : j < d
      · exact h.ro j j1 h2 hj
      · have : j = d := by omega
        subst this
        exact hd hj
    · obtain ⟨i, i1, i2, i3⟩ := h.sd j hj hjd
      exact ⟨i, i1, by omega, i3⟩
/-- where d³ is above a rough number: a square, or without squares -/
theorem rough_end {r d g : Nat} (hr1 : 1 ≤ r) (hd : 2 ≤ d) (ro : Rough d r) (hlt : r < d * d * d) (hg : 2 ≤ g) (h : g * g ∣ r) : r = g * g := by
  obtain ⟨k, hk⟩ := h
  have hgr : g ∣ r := ⟨g * k, by rw [hk, Nat.mul_assoc]⟩
  have hgd : d ≤ g := by
    by_cases h : d ≤ g
    · exact h
    · exact absurd hgr (ro g hg (by omega))
  have hk1 : 1 ≤ k := by
    rcases Nat.eq_zero_or_pos k with h0 | h0
    · rw [hk, h0] at hr1
      omega
    · exact h0
  have hkd : k < d := by
    by_cases h : k < d
    · exact h
    · have h1 : d * d ≤ g * g := Nat.mul_le_mul hgd hgd
      have h2 : d * d * d ≤ g * g * k := Nat.mul_le_mul h1 (by omega)
      omega
  have : k = 1 := by
    by_cases h : k = 1
    · exact h
    · exact absurd ⟨g * g, by rw [hk, Nat.mul_comm]⟩ (ro k (by omega) hkd)
  rw [hk, this, Nat.mul_one]
theorem gs_end {n f r d s : Nat} (h : GsInv n f r d s) (hlt : r < d * d * d) : (∀ t, r = t * t → n = f * t * (f * t) * s ∧ SqF s) ∧ ((∀ t, r ≠ t * t) → n = f * f * (s * r) ∧ SqF (s * r)) := by
  refine ⟨fun t ht => ⟨?_, h.sf⟩, fun hn => ⟨by rw [h.e, Nat.mul_assoc], fun g hg hgd => ?_⟩⟩
  · rw [h.e, ht]
    grind
  · have hcop : ∀ k, k ∣ r → 2 ≤ k → Nat.Coprime k s := fun k hk k2 => by
      by_cases h1 : Nat.gcd k s = 1
      · exact h1
      · have hpos : 0 < Nat.gcd k s := Nat.gcd_pos_of_pos_left s (by omega)
        obtain ⟨j, j1, j2, j3⟩ := h.sd (Nat.gcd k s) (by omega) (Nat.gcd_dvd_right k s)
        exact absurd (Nat.dvd_trans j3 (Nat.dvd_trans (Nat.gcd_dvd_left k s) hk)) (h.ro j j1 j2)
    by_cases h1 : Nat.Coprime g r
    · exact h.sf g hg (Nat.Coprime.dvd_of_dvd_mul_right (Nat.Coprime.mul_left h1 h1) hgd)
    · have hpos : 0 < Nat.gcd g r := Nat.gcd_pos_of_pos_left r (by omega)
      have h2 : 2 ≤ Nat.gcd g r := by
        have : Nat.gcd g r ≠ 1 := h1
        omega
      have hc := hcop _ (Nat.gcd_dvd_right g r) h2
      have h3 : Nat.gcd g r * Nat.gcd g r ∣ s * r := Nat.dvd_trans (Nat.mul_dvd_mul (Nat.gcd_dvd_left g r) (Nat.gcd_dvd_left g r)) hgd
      have h4 : Nat.gcd g r * Nat.gcd g r ∣ r := Nat.Coprime.dvd_of_dvd_mul_left (Nat.Coprime.mul_left hc hc) h3
      exact hn _ (rough_end h.r1 h.d2 h.ro hlt h2 h4)
/-! ### the factor -/
theorem nsq_mod4 (r : Nat) : (r * r) % 4 = if r % 2 = 0 then 0 else 1 := by
  have h1 : r % 4 = 0 ∨ r % 4 = 1 ∨ r % 4 = 2 ∨ r % 4 = 3 := by omega
  rw [Nat.mul_mod]
  rcases h1 with h | h | h | h <;> rw [h] <;> (split <;> omega)
theorem mul_mod4 (a b : Nat) : (a * b) % 4 = ((a % 4) * (b % 4)) % 4 := Nat.mul_mod a b 4
theorem sqf_fund {D r q : Nat} (hr : 1 ≤ r) (e : D = r * r * q) (hq : SqF q) (hD : D % 4 < 2) : Fund D (if q % 4 > 1 then r / 2 else r) := by
  split
  · rename_i h
    have hev : r % 2 = 0 := by
      by_cases h2 : r % 2 = 0
      · exact h2
      · have h3 := nsq_mod4 r
        rw [if_neg h2] at h3
        have h4 := mul_mod4 (r * r) q
        rw [h3, ← e] at h4
        omega
    have hr2 : r = r / 2 * 2 := by omega
    refine ⟨by omega, 4 * q, ?_, by omega, fun g k hg hk => ?_⟩
    · rw [e]
      generalize r / 2 = t at *
      subst hr2
      grind
    · rcases Nat.mod_two_eq_zero_or_one g with h2 | h2
      · have hg2 : g = 2 * (g / 2) := by omega
        have hk2 : q = g / 2 * (g / 2) * k := by
          generalize g / 2 = t at *
          subst hg2
          have h5 : 4 * q = 4 * (t * t * k) := by rw [hk]; grind
          omega
        by_cases h6 : 2 ≤ g / 2
        · exact absurd ⟨k, hk2⟩ (hq _ h6)
        · have h7 : g / 2 = 1 := by omega
          rw [h7, Nat.one_mul] at hk2
          omega
      · have h8 : (g * g) % 4 = 1 := by rw [nsq_mod4, if_neg (by omega)]
        have h9 := mul_mod4 (g * g) k
        rw [h8, ← hk] at h9
        have h10 : k % 4 = 0 := by omega
        have h11 : q = g * g * (k / 4) := by
          have : k = 4 * (k / 4) := by omega
          have h12 : 4 * q = 4 * (g * g * (k / 4)) := by
            rw [hk]
            generalize k / 4 = j at *
            subst this
            grind
          omega
        exact absurd ⟨k / 4, h11⟩ (hq _ hg)
  · rename_i h
    exact ⟨hr, q, e, by omega, fun g k hg hk => absurd ⟨k, hk⟩ (hq _ hg)⟩
theorem fund_odd {m b k : Nat} (e : m = b * b * k) (hm : m % 4 < 2) (hk : ¬ k % 4 < 2) : b % 2 = 0 := by
  by_cases h2 : b % 2 = 0
  · exact h2
  · have h3 := nsq_mod4 b
    rw [if_neg h2] at h3
    have h4 := mul_mod4 (b * b) k
    rw [h3, ← e] at h4
    omega
theorem fund_unique {D f g : Nat} (hf : Fund D f) (hg : Fund D g) : f = g := by
  obtain ⟨f1, m, em, m4, mg⟩ := hf
  obtain ⟨g1, l, el, l4, lg⟩ := hg
  have hpos : 0 < Nat.gcd f g := Nat.gcd_pos_of_pos_left g f1
  obtain ⟨a, ha⟩ := Nat.gcd_dvd_left f g
  obtain ⟨b, hb⟩ := Nat.gcd_dvd_right f g
  have hab : Nat.Coprime a b := by
    have := Nat.coprime_div_gcd_div_gcd hpos
    have e1 : f / Nat.gcd f g = a := by
      conv => lhs; lhs; rw [ha]
      exact Nat.mul_div_cancel_left a hpos
    have e2 : g / Nat.gcd f g = b := by
      conv => lhs; lhs; rw [hb]
      exact Nat.mul_div_cancel_left b hpos
    rwa [e1, e2] at this
  generalize Nat.gcd f g = h at *
  have e : a * a * m = b * b * l := by
    have e1 : h * h * (a * a * m) = h * h * (b * b * l) := by
      have e2 : h * h * (a * a * m) = f * f * m := by rw [ha]; grind
      have e3 : h * h * (b * b * l) = g * g * l := by rw [hb]; grind
      rw [e2, e3, ← em, ← el]
    exact Nat.eq_of_mul_eq_mul_left (Nat.mul_pos hpos hpos) e1
  have hcc : Nat.Coprime (b * b) (a * a) := (Nat.Coprime.mul_left (Nat.Coprime.mul_right hab hab) (Nat.Coprime.mul_right hab hab)).symm
  obtain ⟨k, hk⟩ : b * b ∣ m := Nat.Coprime.dvd_of_dvd_mul_left hcc ⟨l, e⟩
  have b0 : 0 < b := by
    rcases Nat.eq_zero_or_pos b with h0 | h0
    · rw [h0, Nat.mul_zero] at hb
      omega
    · exact h0
  have a0 : 0 < a := by
    rcases Nat.eq_zero_or_pos a with h0 | h0
    · rw [h0, Nat.mul_zero] at ha
      omega
    · exact h0
  have hl : l = a * a * k := by
    rw [hk] at e
    have e2 : b * b * l = b * b * (a * a * k) := by rw [← e]; grind
    exact Nat.eq_of_mul_eq_mul_left (Nat.mul_pos b0 b0) e2
  by_cases hk4 : k % 4 < 2
  · have hb1 : b = 1 := by
      by_cases h2 : 2 ≤ b
      · exact absurd hk4 (mg b k h2 hk)
      · omega
    have ha1 : a = 1 := by
      by_cases h2 : 2 ≤ a
      · exact absurd hk4 (lg a k h2 hl)
      · omega
    rw [ha, hb, ha1, hb1]
  · have h1 := fund_odd hk m4 hk4
    have h2 := fund_odd hl l4 hk4
    have h3 : 2 ∣ Nat.gcd a b := Nat.dvd_gcd (Nat.dvd_of_mod_eq_zero h2) (Nat.dvd_of_mod_eq_zero h1)
    rw [hab] at h3
    omega
/-- the factor of a multiple by a square -/
theorem fund_mul {D f t : Nat} (ht : 1 ≤ t) (h : Fund D f) : Fund (t * t * D) (t * f) := by
  obtain ⟨f1, m, em, m4, mg⟩ := h
  exact ⟨Nat.mul_pos ht f1, m, by rw [em]; grind, m4, mg⟩
theorem fund_sq {t : Nat} (ht : 1 ≤ t) : Fund (t * t) t := by
  refine ⟨ht, 1, by omega, by decide, fun g k hg hk => ?_⟩
  have h2 : 2 * 2 ≤ g * g := Nat.mul_le_mul hg hg
  have hk0 : 1 ≤ k := by
    rcases Nat.eq_zero_or_pos k with h0 | h0
    · rw [h0] at hk
      omega
    · exact h0
  have := Nat.mul_le_mul h2 hk0
  omega
/-- what the greatest one of all is -/
theorem fund_greatest {D f : Nat} (h1 : 1 ≤ f) (hd : f * f ∣ D) (h4 : D / (f * f) % 4 < 2) (hg : ∀ k, f < k → ¬ (k * k ∣ D ∧ D / (k * k) % 4 < 2)) : Fund D f := by
  obtain ⟨m, hm⟩ := hd
  have hp : 0 < f * f := Nat.mul_pos h1 h1
  have hq : D / (f * f) = m := by rw [hm]; exact Nat.mul_div_cancel_left m hp
  rw [hq] at h4
  refine ⟨h1, m, hm, h4, fun g k h2 hk hk4 => ?_⟩
  have h3 : f < f * g := by
    have := Nat.mul_le_mul_left f h2
    omega
  refine hg (f * g) h3 ⟨⟨k, by rw [hm, hk]; grind⟩, ?_⟩
  have e : D = f * g * (f * g) * k := by rw [hm, hk]; grind
  rw [e, Nat.mul_div_cancel_left k (Nat.mul_pos (Nat.mul_pos h1 (by omega)) (Nat.mul_pos h1 (by omega)))]
  exact hk4
/-- small ones, looked at -/
theorem fund_small {m B : Nat} (h4 : m % 4 < 2) (hB : m < B * B) (h : ∀ g, g < B → 2 ≤ g → m % (g * g) = 0 → ¬ m / (g * g) % 4 < 2) (hm : 1 ≤ m) : Fund m 1 := by
  refine ⟨by decide, m, by omega, h4, fun g k hg hk => ?_⟩
  have hp : 0 < g * g := Nat.mul_pos (by omega) (by omega)
  have hk1 : 1 ≤ k := by
    rcases Nat.eq_zero_or_pos k with h0 | h0
    · rw [hk, h0] at hm
      omega
    · exact h0
  have hgB : g < B := by
    by_cases h : g < B
    · exact h
    · have h1 : B * B ≤ g * g := Nat.mul_le_mul (by omega) (by omega)
      have h2 := Nat.mul_le_mul_left (g * g) hk1
      omega
  have := h g hgB hg (by rw [hk]; exact Nat.mul_mod_right _ _)
  rwa [hk, Nat.mul_div_cancel_left k hp] at this
end Kx
namespace Kx
open PySem PySem.Spec PyProof.Rows L2
theorem ip_mulU {X : Cx} : PIp X .Mult (rI IntMulOk fun i j => .int (i * j)) := opI (f := inplaceOp .Mult) fun _ _ _ _ _ _ _ hc q => imul_int q hc
theorem ip_fdivX {X : Cx} : PIp X .FloorDiv (rI (fun _ j => DivOk j) fun i j => .int (i.fdiv j)) := opI (f := inplaceOp .FloorDiv) fun i j _ _ _ _ _ hc q => ifloordiv_int hc.1 q (.inl (PyProof.noPylong_of_log2 hc.2))
theorem fdivN (a b : Nat) : ((a : Int)).fdiv (b : Int) = ((a / b : Nat) : Int) := by
  rw [Int.fdiv_eq_ediv_of_nonneg _ (Int.natCast_nonneg b)]
  exact (Int.natCast_ediv a b).symm
theorem modN (a b : Nat) : (a : Int) % (b : Int) = ((a % b : Nat) : Int) := (Int.natCast_emod a b).symm
theorem mulN (a b : Nat) : (a : Int) * (b : Int) = ((a * b : Nat) : Int) := (Int.natCast_mul a b).symm
theorem GsInv.le {n f r d s : Nat} (h : GsInv n f r d s) : r ≤ n ∧ f ≤ n := by
  have h1 : 1 ≤ f * f := Nat.mul_pos h.f1 h.f1
  have h2 : 1 ≤ f * f * s := Nat.mul_pos h1 h.s1
  have h3 := Nat.mul_le_mul_right r h2
  have h4 : f ≤ f * f := Nat.le_mul_of_pos_left f h.f1
  have h5 : f * f ≤ f * f * s := Nat.le_mul_of_pos_right _ h.s1
  have h6 : f * f * s ≤ f * f * s * r := Nat.le_mul_of_pos_right _ h.r1
  have := h.e
  omega
def InvG1 (n : Nat) (H : Hp) : SV → Hp → Prop := fun σ H2 => H2 = H ∧ ∃ f r d s : Nat, σ = [some (.int n), some (.int f), some (.int r), some (.int d), none] ∧ GsInv n f r d s ∧ d ≤ n + 2
def InvG2 (n d : Nat) (H : Hp) : SV → Hp → Prop := fun σ H2 => H2 = H ∧ ∃ f r s : Nat, σ = [some (.int n), some (.int f), some (.int r), some (.int d), none] ∧ GsInv n f r d s
/-- the greatest number whose square divides n -/
def spGsq : Sp := fun vs H Q _ => ∃ n : Nat, vs = [.int n] ∧ 1 ≤ n ∧ n < 2 ^ 100 ∧ ∀ r q : Nat, 1 ≤ r → n = r * r * q → SqF q → Q (.int r) H
def spFactor : Sp := fun vs H Q _ => ∃ n : Nat, vs = [.int n] ∧ Meas n ∧ n < 2 ^ 100 ∧ ∀ f : Nat, Fund n f → f ≤ n → Q (.int f) H
def spWholeRoot : Sp := fun vs H Q _ => ∃ D : Int, vs = [.int D] ∧ Meas D ∧ D < 2 ^ 200 ∧ Q (.int (rt D)) H
end Kx
namespace Kx
open PySem PySem.Spec PyProof.Rows L2
theorem okN {a b : Nat} (ha : a < 2 ^ 1000) (hb : b < 2 ^ 1000) : IntMulOk (a : Int) (b : Int) := okm (n := 1000) (m := 1000) (by rw [Int.natAbs_natCast]; exact ha) (by rw [Int.natAbs_natCast]; exact hb) (by decide) (by decide)
theorem ltN {a b i j : Nat} (ha : a < 2 ^ i) (hb : b < 2 ^ j) : a * b < 2 ^ (i + j) := by
  rw [Nat.pow_add]
  exact Nat.mul_lt_mul'' ha hb
theorem divN {b : Nat} (h : 1 ≤ b) (hb : b < 2 ^ 1000) : DivOk (b : Int) := cdiv (by omega) (by omega) (by omega)
end Kx
namespace Kx
open PySem PySem.Spec PyProof.Rows L2
/-- what is no measure is refused -/
def spRefuse (CM : Addr) : Sp := fun vs H Q E => ∃ x, vs = [x] ∧ OkItem H x ∧ measB x = false ∧ Err H E CM x
def spTold1 : Sp := fun vs H Q _ => ∃ (k : Nat) (x : V), vs = [.int k, x] ∧ k < 2 ∧ OkItem H x ∧ measB x = false ∧ ∀ L H', L ≠ sysModules → Same H H' → H' L = some (.lst [.bl true, x]) → Q (.ref L) H'
/-- the factor, looked for -/
def FacP (D : Nat) (f : Nat) : Prop := D % (f * f) = 0 ∧ D / (f * f) % 4 < 2
instance (D f : Nat) : Decidable (FacP D f) := by unfold FacP; infer_instance
def spLawFactor : Sp := fun vs H Q _ => ∃ n : Nat, vs = [.int n] ∧ Meas n ∧ n < 5000 ∧ ∀ (f : Nat) (H' : Hp), Fund n f → f ≤ n → Same H H' → Q (.int f) H'
def InvLF (n : Nat) (H : Hp) (Dd : Addr) : Nat → Hp → Prop := fun i H2 => Same H H2 ∧ ∃ ns : List Nat, H2 Dd = some (.lst (ns.map fun k : Nat => V.int (k : Int))) ∧ ns.length ≤ i ∧ (i = 0 → ns = []) ∧ (1 ≤ i → ∃ pre f, ns = pre ++ [f] ∧ 1 ≤ f ∧ f ≤ i ∧ FacP n f ∧ ∀ k, f < k → k ≤ i → ¬ FacP n k)
theorem fac_one {n : Nat} (h : n % 4 < 2) : FacP n 1 := ⟨by omega, by omega⟩
theorem natI {D : Int} (h : 0 ≤ D) : ∃ n : Nat, D = n := Int.eq_ofNat_of_zero_le h
end Kx
namespace Kx
open PySem PySem.Spec PyProof.Rows L2
theorem It.rp {K : PySem.W.Frag} {H : Hp} {v : V} {d : PyData} (h : It K H v d) : Rp K H v d := ⟨h.dp, h.sh, h.nd, Nat.le_trans h.de (by decide), Nat.le_trans h.co (by decide)⟩
theorem rp_nat {K : PySem.W.Frag} {H : Hp} {n : Nat} (h : n < 2 ^ 1000) : Rp K H (.int n) (.int n) := (It.int (n := 1000) (by rw [Int.natAbs_natCast]; exact h) (by decide)).rp
end Kx
namespace Kx
open PySem PySem.Spec PyProof.Rows L2
theorem fund_meas {D f : Nat} (h : Fund D f) : D % 4 < 2 := by
  obtain ⟨_, m, e, m4, _⟩ := h
  have h1 := nsq_mod4 f
  have h2 := mul_mod4 (f * f) m
  rw [← e, h1] at h2
  split at h2 <;> omega
theorem fund_put {t r : Nat} (ht : 1 ≤ t) (h : Fund r 1) : Fund (t * t * r) t := by
  have := fund_mul ht h
  rwa [Nat.mul_one] at this
theorem meas_of {n f : Nat} (h : Fund n f) (h5 : 5 ≤ n) : Meas n := ⟨by omega, by have := fund_meas h; omega⟩
theorem fund5 : Fund 5 1 := fund_small (B := 3) (by decide) (by decide) (by decide) (by decide)
theorem fund8 : Fund 8 1 := fund_small (B := 3) (by decide) (by decide) (by decide) (by decide)
theorem fund12 : Fund 12 1 := fund_small (B := 4) (by decide) (by decide) (by decide) (by decide)
theorem fund13 : Fund 13 1 := fund_small (B := 4) (by decide) (by decide) (by decide) (by decide)
theorem fund17 : Fund 17 1 := fund_small (B := 5) (by decide) (by decide) (by decide) (by decide)
theorem fund21 : Fund 21 1 := fund_small (B := 5) (by decide) (by decide) (by decide) (by decide)
theorem fund24 : Fund 24 1 := fund_small (B := 5) (by decide) (by decide) (by decide) (by decide)
theorem fund28 : Fund 28 1 := fund_small (B := 6) (by decide) (by decide) (by decide) (by decide)
theorem fund29 : Fund 29 1 := fund_small (B := 6) (by decide) (by decide) (by decide) (by decide)
theorem fund33 : Fund 33 1 := fund_small (B := 6) (by decide) (by decide) (by decide) (by decide)
theorem fund_rests {y : Int} (h0 : 0 ≤ y) (h1 : y < 10) : ∃ rs : Nat, Fund rs 1 ∧ rs < 40 ∧ 5 ≤ rs ∧ atI [V.int 5, V.int 8, V.int 12, V.int 13, V.int 17, V.int 21, V.int 24, V.int 28, V.int 29, V.int 33] y = some (.int rs) := by
  rcases (show y = 0 ∨ y = 1 ∨ y = 2 ∨ y = 3 ∨ y = 4 ∨ y = 5 ∨ y = 6 ∨ y = 7 ∨ y = 8 ∨ y = 9 by omega) with rfl | rfl | rfl | rfl | rfl | rfl | rfl | rfl | rfl | rfl
  · exact ⟨5, fund5, by decide, by decide, atI_nat (j := 0) rfl⟩
  · exact ⟨8, fund8, by decide, by decide, atI_nat (j := 1) rfl⟩
  · exact ⟨12, fund12, by decide, by decide, atI_nat (j := 2) rfl⟩
  · exact ⟨13, fund13, by decide, by decide, atI_nat (j := 3) rfl⟩
  · exact ⟨17, fund17, by decide, by decide, atI_nat (j := 4) rfl⟩
  · exact ⟨21, fund21, by decide, by decide, atI_nat (j := 5) rfl⟩
  · exact ⟨24, fund24, by decide, by decide, atI_nat (j := 6) rfl⟩
  · exact ⟨28, fund28, by decide, by decide, atI_nat (j := 7) rfl⟩
  · exact ⟨29, fund29, by decide, by decide, atI_nat (j := 8) rfl⟩
  · exact ⟨33, fund33, by decide, by decide, atI_nat (j := 9) rfl⟩
end Kx
namespace Kx
open PySem PySem.Spec PyProof.Rows L2
/-- a drawn measure, with its bound by the figures -/
def spMeasureB : Sp := fun vs H Q _ => ∃ (g : Addr) (n : Int) (k : Nat), vs = [.ref g, .int n] ∧ GenAt H g k ∧ k ≤ 2 ^ 39 ∧ 1 ≤ n ∧ n ≤ 40 ∧ ∀ (D : Int) (H' : Hp), Meas D → D < 2 ^ 200 → D ≤ 5 * 10 ^ n.toNat + 10 → GenAt H' g (k + 100) → Keep g H H' → Q (.int D) H'
end Kx
namespace Kx
open PySem PySem.Spec PyProof.Rows L2
/-- a list that stays empty -/
def InvE0 (h : Hp) (Dd : Addr) : Nat → Hp → Prop := fun _ H2 => Same h H2 ∧ H2 Dd = some (.lst [])
end Kx
namespace Kx
open PySem PySem.Spec PyProof.Rows L2
theorem cr_reprQK {X : Cx} {K : PySem.W.Frag} (h : X.K = K) (gd : X.A.guards = some []) (hu : X.A.units + 64 < cLine) : CallR X (.builtin "repr") (fun vs H Q => ∃ (x : V) (d : PyData), vs = [x] ∧ Dq K H x d ∧ Q (.str d.shown) H) := h ▸ cr_reprQ gd hu
theorem cr_reprRK {X : Cx} {K : PySem.W.Frag} (h : X.K = K) (gd : X.A.guards = some []) (hu : X.A.units + 64 < cLine) : CallR X (.builtin "repr") (fun vs H Q => ∃ (x : V) (d : PyData), vs = [x] ∧ Rp K H x d ∧ Q (.str d.shown) H) := h ▸ cr_reprR gd hu
theorem rough_big : Rough 10000 999999000001 := by
  have h : ∀ a, a < 100 → ∀ b, b < 100 → 2 ≤ a * 100 + b → 999999000001 % (a * 100 + b) ≠ 0 := by decide +kernel
  intro k k1 k2 hk
  refine h (k / 100) (by omega) (k % 100) (by omega) (by omega) ?_
  rw [show k / 100 * 100 + k % 100 = k by omega]
  exact Nat.mod_eq_zero_of_dvd hk
theorem fund_big : Fund 999999000001 1 := by
  refine ⟨by decide, 999999000001, by decide, by decide, fun g k hg hk => ?_⟩
  have h := rough_end (r := 999999000001) (by decide) (by decide) rough_big (by decide) hg ⟨k, hk⟩
  exfalso
  by_cases h1 : g ≤ 999999
  · have := Nat.mul_le_mul h1 h1
    omega
  · have := Nat.mul_le_mul (show 1000000 ≤ g by omega) (show 1000000 ≤ g by omega)
    omega
/-- an odd value that is no measure, with its text -/
def BadShow (K : PySem.W.Frag) (H : Hp) (x : V) (z : Str) : Prop := ∃ d, Oq K H x d ∧ OkItem H x ∧ measB x = false ∧ (PyData.list [.bool true, d]).shown = z ∧ (PyData.str z).canLay0 = true
theorem BadShow.same {K : PySem.W.Frag} {H H' : Hp} {x : V} {z : Str} (h : BadShow K H x z) (s : Same H H') : BadShow K H' x z := let ⟨d, h1, h2, h3, h4, h5⟩ := h; ⟨d, h1.same s, h2.same s, h3, h4, h5⟩
theorem lay_rep {d : PyData} (h : d.canLay0 = true) : ∀ n, PyData.canLayAll0 (List.replicate n d) = true
  | 0 => rfl
  | n + 1 => by rw [List.replicate_succ, PyData.canLayAll0, h, lay_rep h n]; rfl
theorem shaped_rep_str {z : Str} (h : (PyData.str z).canLay0 = true) (n : Nat) : SeqAt.shaped (.list (List.replicate n (.str z))) = true := by
  have hd : ∀ n, PyData.depthAll (List.replicate n (.str z)) ≤ 1 := fun n => by
    induction n with
    | zero => simp only [List.replicate_zero, PyData.depthAll]; omega
    | succ n ih => rw [List.replicate_succ, PyData.depthAll]; simp only [PyData.depth]; omega
  have e1 : PyData.canLay0 (.list (List.replicate n (.str z))) = true := by rw [PyData.canLay0]; exact lay_rep h n
  have e2 : PyData.depth (.list (List.replicate n (.str z))) ≤ 64 := by rw [PyData.depth]; have := hd n; omega
  unfold SeqAt.shaped
  rw [e1, decide_eq_true e2]
  rfl
end Kx
namespace Kx
open PySem PySem.Spec PyProof.Rows L2
theorem fund16 : Fund 16 4 := fund_sq (t := 4) (by decide)
theorem fund20 : Fund 20 2 := fund_put (t := 2) (r := 5) (by decide) fund5
theorem fund45 : Fund 45 3 := fund_put (t := 3) (r := 5) (by decide) fund5
theorem fund36 : Fund 36 6 := fund_sq (t := 6) (by decide)
theorem fund9 : Fund 9 3 := fund_sq (t := 3) (by decide)
theorem fund72 : Fund 72 3 := fund_put (t := 3) (r := 8) (by decide) fund8
/-- the measures of the law's last row, and their factors -/
def mset : List (Nat × Nat) := [(5, 1), (8, 1), (12, 1), (16, 4), (20, 2), (45, 3), (36, 6), (9, 3), (72, 3)]
theorem mset_ok : ∀ p ∈ mset, Fund p.1 p.2 ∧ 5 ≤ p.1 ∧ p.1 < 100 := fun p hp => by
  simp only [mset, List.mem_cons, List.not_mem_nil, or_false] at hp
  rcases hp with rfl | rfl | rfl | rfl | rfl | rfl | rfl | rfl | rfl
  · exact ⟨fund5, by decide, by decide⟩
  · exact ⟨fund8, by decide, by decide⟩
  · exact ⟨fund12, by decide, by decide⟩
  · exact ⟨fund16, by decide, by decide⟩
  · exact ⟨fund20, by decide, by decide⟩
  · exact ⟨fund45, by decide, by decide⟩
  · exact ⟨fund36, by decide, by decide⟩
  · exact ⟨fund9, by decide, by decide⟩
  · exact ⟨fund72, by decide, by decide⟩
def InvMs (h : Hp) (Dd : Addr) : Nat → Hp → Prop := fun i H2 => Same h H2 ∧ H2 Dd = some (.lst ((mset.take i).map fun p => V.int (p.2 : Int)))
end Kx

set_option Elab.async false
set_option linter.all false
set_option maxRecDepth 100000
set_option maxHeartbeats 4000000
set_option exponentiation.threshold 4000
/-! Steps within the heart. -/
namespace Kx
open PySem PySem.Spec PyProof.Rows L2
/-- a comprehension over lo, lo + c, .. -/
theorem lcW_step {g : TG} {tt : TT} {te : TE} {vs : List Nat} {Dd : Addr} {σ : SV} {H : Hp} {Q : VK} {n : Nat} {lo c : Int} (Pv : Nat → Hp → Prop) (h0 : Pv 0 (L2.upd H Dd (.lst [])))
    (hs : ∀ i H, i < n → Pv i H → g (.int (lo + (i : Nat) * c)) (wipe σ vs) H fun σ2 H2 => wipe σ2 vs = wipe σ vs ∧ tt σ2 H2 fun b H3 =>
      if b = true then te σ2 H3 fun y H4 => ∃ acc, H4 Dd = some (.lst acc) ∧ acc.length < sizeLine ∧ Pv (i + 1) (L2.upd H4 Dd (.lst (acc ++ [y]))) else Pv (i + 1) H3) (hd : ∀ H, Pv n H → Q (.ref Dd) H) : LcW (Itc lo c n) g tt te vs Dd σ H Q := by
  refine ⟨fun i m H => i + m = n ∧ Pv i H, ⟨n, by omega, h0⟩, fun i m H => ?_⟩
  rintro ⟨hm, p⟩
  rcases Nat.lt_or_ge i n with hl | hl
  · refine .inr ⟨hl, Pv (i + 1), fun H' p' => ⟨n - (i + 1), by omega, by omega, p'⟩, fun x H' y => ?_⟩
    obtain ⟨rfl, rfl⟩ := y
    exact hs i _ hl p
  · obtain rfl : i = n := by omega
    exact .inl ⟨hl, hd H p⟩
/-- a range with a step, as an argument -/
def PRg3 (X : Cx) (e : Expr) (t : L2.St → Hp → (Int → Int → Int → Hp → Prop) → Prop) : Prop :=
  ∀ (pins : List (Addr × Obj)) (s : Shared) (σ : L2.St) (H : Hp) (Q : Int → Int → Int → Hp → Prop), Inv X pins σ H s → t σ H Q →
    wpAny (model X.prog X.w) X.A (eval e X.env) (fun x s' => ∃ r a b c t u v H', x = .ref r ∧ IsRange s'.heap r a b c t u v ∧ Inv X pins σ H' s' ∧ Q a b c H') X.xe s
def tRg3 (ta : TA) : L2.St → Hp → (Int → Int → Int → Hp → Prop) → Prop := fun σ H Q => ta σ H fun vs H1 => ∃ i j c : Int, vs = [.int i, .int j, .int c] ∧ c ≠ 0 ∧ c.natAbs < 1073741824 ∧ Q i j c H1
theorem prg_3 {X : Cx} {a b c : Expr} {ta : TA} {p pos : Pos} (hg : Gl X "range") (hm : X.mg "range" = none) (ha : PA X [a, b, c] ta)
    (hs : starEach [a, b, c] X.env = (false, eval a X.env) :: starEach [b, c] X.env := by rfl) (hpl : (backTo pos (starEach [b, c] X.env)).any (·.1) = false := by rfl) : PRg3 X (.Call (.Name "range" p) [a, b, c] [] pos) (tRg3 ta) := by
  intro pins s σ H Q I h
  refine Call_ (ld_blt I hg hm boot_range (PyProof.Rows.callWith_type1 (thn (ha.run pos pins s σ H _ I h) fun us s1 ⟨vs, H1, I1, r1, i, j, k, e, c0, c1, q⟩ => ?_) hs hpl))
  subst e
  rcases r1 with _ | ⟨⟨t, rfl⟩, _ | ⟨⟨t', rfl⟩, _ | ⟨⟨t'', rfl⟩, _ | _⟩⟩⟩
  exact call_range_3 c0 ⟨_, i, j, k, _, _, _, H1, rfl, IsRange.new _ _ _ _ _ _ _, I1.kept fun b o e => Heap.get?_push_of_some _ e, q⟩ (.inl (PyProof.noPylong_small c1))
/-- a global name of a value -/
theorem pe_globV {X : Cx} {x : Str} {v : V} {pos : Pos} (hg : Gl X x) (h : ∃ u, X.mg x = some u ∧ RelV v u) (hd : (x == ("__debug__" : Str)) = false := by decide) : PE X (.Name x pos) (tC v) := by
  obtain ⟨u, hm, r⟩ := h
  exact pe_glob hg hm r hd
def rgC (a c : Int) (n : Nat) : List V := (List.range n).map fun k : Nat => V.int (a + (k : Int) * c)
def tLstRg3 (te : L2.St → Hp → (Int → Int → Int → Hp → Prop) → Prop) : TE := fun σ H Q => te σ H fun a b c H1 => ∃ n : Nat, RgC a b c n ∧ n ≤ 2 ^ 24 ∧ ∀ q, H1 q = none → Q (.ref q) (L2.upd H1 q (.lst (rgC a c n)))
theorem vals_rgC {a c : Int} {acc : Array Value} {n : Nat} (h : ItemsOf (fun i v => ∃ t, v = .int (a + i * c) t) acc n) : Vals (rgC a c n) acc.toList := by
  obtain rfl : n = acc.toList.length := by rw [Array.length_toList]; exact h.1.symm
  exact vals_of_get acc.toList _ fun j u hj => by
    obtain ⟨t, rfl⟩ := h.2 j u (by rw [← hj, Array.getElem?_toList])
    exact ⟨t, rfl⟩
theorem pe_listRg3 {X : Cx} {e : Expr} {te : L2.St → Hp → (Int → Int → Int → Hp → Prop) → Prop} {p pos : Pos} (hc : X.calm = true) (hg : Gl X "list") (hm : X.mg "list" = none) (he : PRg3 X e te) (na : starEach [e] X.env = (false, eval e X.env) :: starEach [] X.env := by rfl) : PE X (.Call (.Name "list" p) [e] [] pos) (tLstRg3 te) := by
  refine ⟨fun pins s σ H Q I h => ?_⟩
  refine Call_ (ld_blt I hg hm boot_list (PyProof.Rows.callWith_type1 (args_cons (thn (he pins s σ H _ I h) fun x s1 z => args_nil ?_) na) na))
  obtain ⟨r, a, b, c, t, u, v, H1, rfl, hr, I1, n, ⟨_, _, c2, c3⟩, hn, q⟩ := z
  refine call_list_range (n := n) (I1.ok.hd hc) hr c2 c3 hn fun h' tk acc c' hk e' hi => ?_
  have hv := vals_rgC hi
  have hlen : (rgC a c n).length = n := by unfold rgC; rw [List.length_map, List.length_range]
  exact ⟨.ref s1.heap.objs.size, L2.upd H1 s1.heap.objs.size (.lst (rgC a c n)), I1.laid hk (Nat.le_refl _) (show ObjOk X.prog X.w _ _ _ (.lst (rgC a c n)) from ⟨by rw [hlen, sizeLine_eq]; omega, acc.toList, c', hv, by rw [Array.toArray_toList]; exact e'⟩), rfl, q _ (I1.hok.fresh (Nat.le_refl _))⟩
theorem rgc2 {a b : Int} {n : Nat} (h1 : -(2 ^ 62) ≤ a) (h2 : a < 2 ^ 62) (h3 : -(2 ^ 62) ≤ b) (h4 : b < 2 ^ 62) (hn : (n : Int) = if a < b then (b - a + 1) / 2 else 0) : RgC a b 2 n := by
  have e : Builtin.Range.rangeSize a b 2 = n := by
    unfold Builtin.Range.rangeSize
    rw [if_pos (by decide), hn]
    split <;> omega
  refine ⟨by decide, by decide, ?_, e⟩
  unfold Builtin.Range.small
  rw [e]
  simp only [Builtin.Range.rangeFitsLong, Bool.and_eq_true, Bool.or_eq_true, decide_eq_true_eq, beq_iff_eq, show (2 : Int) > 0 by decide, if_true]
  split at hn <;> omega
theorem Same.free {H H' : Hp} {p : Addr} (s : Same H H') (h : H' p = none) : H p = none := by
  cases e : H p with
  | none => rfl
  | some o => rw [s _ _ e] at h; cases h
/-! ### steps -/
def hstB (D e f : Int) : Bool := decide (gcdI ((e + f) / 2) (qn D e) = 1)
def stL (D e : Int) (k : Nat) : List Int := ((List.range k).map fun i : Nat => 2 * (i : Int) - hsz D).filter (hstB D e)
theorem stL_succ (D e : Int) (k : Nat) : stL D e (k + 1) = stL D e k ++ (if hstB D e (2 * (k : Int) - hsz D) = true then [2 * (k : Int) - hsz D] else []) := by
  unfold stL
  rw [List.range_succ, List.map_append, List.filter_append]
  congr 1
  by_cases h : hstB D e (2 * (k : Int) - hsz D) = true
  · rw [if_pos h, List.map_cons, List.filter_cons, if_pos h]; rfl
  · rw [if_neg h, List.map_cons, List.filter_cons, if_neg h]; rfl
theorem stL_len (D e : Int) (k : Nat) : (stL D e k).length ≤ k := by
  unfold stL
  have := List.length_filter_le (hstB D e) ((List.range k).map fun i : Nat => 2 * (i : Int) - hsz D)
  rwa [List.length_map, List.length_range] at this
theorem stL_mem {D e f : Int} {k : Nat} : f ∈ stL D e k ↔ (∃ i : Nat, i < k ∧ f = 2 * (i : Int) - hsz D) ∧ hstB D e f = true := by
  unfold stL
  rw [List.mem_filter, List.mem_map]
  constructor
  · rintro ⟨⟨i, hi, rfl⟩, h⟩
    exact ⟨⟨i, List.mem_range.mp hi, rfl⟩, h⟩
  · rintro ⟨⟨i, hi, rfl⟩, h⟩
    exact ⟨⟨i, List.mem_range.mpr hi, rfl⟩, h⟩
def hstK (D e : Int) : Nat := ((hsz D - e) / 2).toNat
def stQ (D e : Int) (k : Nat) : List Q4 := (stL D e k).map (hq D)
theorem stQ_add {D e : Int} {k : Nat} (h : hstB D e (2 * (k : Int) - hsz D) = true) : stQ D e (k + 1) = stQ D e k ++ [hq D (2 * (k : Int) - hsz D)] := by
  unfold stQ
  rw [stL_succ, if_pos h, List.map_append]
  rfl
theorem stQ_keep {D e : Int} {k : Nat} (h : ¬ hstB D e (2 * (k : Int) - hsz D) = true) : stQ D e (k + 1) = stQ D e k := by
  unfold stQ
  rw [stL_succ, if_neg h, List.append_nil]
theorem stQ_len (D e : Int) (k : Nat) : (stQ D e k).length ≤ k := by
  unfold stQ
  rw [List.length_map]
  exact stL_len D e k
theorem InvQs.skip {h H2 H3 : Hp} {Dd : Addr} {qs : Nat → List Q4} {i : Nat} (hi : InvQs h Dd qs i H2) (s : Same H2 H3) (eq : qs (i + 1) = qs i) : InvQs h Dd qs (i + 1) H3 := by
  obtain ⟨s2, ls, eD, hl⟩ := hi
  exact ⟨s2.trans s, ls, s _ _ eD, by rw [eq]; exact hl.same s⟩
theorem InvQs.push' {h H2 H3 : Hp} {Dd p : Addr} {qs : Nat → List Q4} {q : Q4} {i : Nat} (hi : InvQs h Dd qs i H2) (hD : h Dd = none) (s : Same H2 H3) (e : H3 p = some (.tup (cutV4 q))) (eq : qs (i + 1) = qs i ++ [q]) (hle : (qs i).length < 1000000) : ∃ acc, H3 Dd = some (.lst acc) ∧ acc.length < sizeLine ∧ InvQs h Dd qs (i + 1) (L2.upd H3 Dd (.lst (acc ++ [.ref p]))) := hi.push hD s e eq (Nat.lt_of_lt_of_le hle (Nat.le_of_ble_eq_true rfl))
theorem gcdI_negL (a b : Int) : gcdI (-a) b = gcdI a b := by unfold gcdI; rw [Int.natAbs_neg]
theorem hst_swap {D e f : Int} (hM : Meas D) (he : e % 2 = D % 2) (hf : f % 2 = D % 2) : hstB D e f = hstB D f e := by
  have h1 := par_sq hM.2 he
  have h2 := par_sq hM.2 hf
  have h3 : qn D f = qn D e + (e + f) / 2 * ((e - f) / 2) := by
    have a1 : 4 * qn D e = D - e * e := by unfold qn; omega
    have a2 : 4 * qn D f = D - f * f := by unfold qn; omega
    have a3 : 2 * ((e + f) / 2) = e + f := by omega
    have a4 : 2 * ((e - f) / 2) = e - f := by omega
    generalize (e + f) / 2 = k at *
    generalize (e - f) / 2 = m at *
    have : 4 * (k * m) = e * e - f * f := by
      have : 4 * (k * m) = (2 * k) * (2 * m) := by grind
      rw [this, a3, a4]
      grind
    omega
  have h4 : gcdI ((e + f) / 2) (qn D f) = gcdI ((e + f) / 2) (qn D e) := by
    rw [h3]
    show ((Int.gcd ((e + f) / 2) (qn D e + (e + f) / 2 * ((e - f) / 2)) : Nat) : Int) = ((Int.gcd ((e + f) / 2) (qn D e) : Nat) : Int)
    rw [Int.gcd_add_mul_left_right]
  unfold hstB
  rw [show f + e = e + f by omega, h4]
/-- the law's test -/
def lstB (D e f : Int) : Bool := decide (2 ≤ 0 - e - f) && decide (gcdI ((0 - e - f) / 2) (qn D e) = 1)
theorem lst_hst {D e f : Int} (he : e % 2 = D % 2) (hf : f % 2 = D % 2) : lstB D e f = (decide (f ≤ -e - 2) && hstB D e f) := by
  unfold lstB hstB
  rw [show (0 - e - f) / 2 = -((e + f) / 2) by omega, gcdI_negL]
  congr 1
  by_cases h : f ≤ -e - 2
  · rw [decide_eq_true h, decide_eq_true (by omega)]
  · rw [decide_eq_false h, decide_eq_false (by omega)]
theorem quad_in {qs : List Q4} {q : Q4} (h : q ∈ qs) : ((qs.map quadD).any fun z => PyData.eqv z (quadD q)) = true := by
  rw [List.any_eq_true]
  exact ⟨quadD q, List.mem_map.mpr ⟨q, h, rfl⟩, eqv_same rfl⟩
theorem rp_quads {K : PySem.W.Frag} {H : Hp} {p : Addr} {ls : List Addr} {qs : List Q4} (e : H p = some (.lst (ls.map V.ref))) (h : QAll H ls qs) (hz : ∀ q ∈ qs, Sz4 700 q) (hn : qs.length ≤ 2000) : Rp K H (.ref p) (.list (qs.map quadD)) := by
  have all : ∀ qs : List Q4, (∀ q ∈ qs, Sz4 700 q) → PyData.showableAll (qs.map quadD) = true ∧ PyData.hasDictAll (qs.map quadD) = false ∧ PyData.depthAll (qs.map quadD) ≤ 5 ∧ costAll (qs.map quadD) ≤ 7800 * qs.length := fun qs => by
    induction qs with
    | nil => exact fun _ => ⟨rfl, rfl, by simp only [List.map_nil, PyData.depthAll]; omega, by simp only [List.map_nil, costAll]; omega⟩
    | cons q qs ih =>
      intro hz
      obtain ⟨i1, i2, i3, i4⟩ := ih fun q hq => hz q (List.mem_cons_of_mem _ hq)
      obtain ⟨z1, z2, z3, z4⟩ := hz q List.mem_cons_self
      refine ⟨?_, ?_, ?_, ?_⟩
      · simp only [List.map_cons, quadD, PyData.showableAll, PyData.showable, log_sz z1 (show 700 ≤ 1900 by decide), log_sz z2 (show 700 ≤ 1900 by decide), log_sz z3 (show 700 ≤ 1900 by decide), log_sz z4 (show 700 ≤ 1900 by decide), decide_true, Bool.and_self, i1]
      · simp only [List.map_cons, quadD, PyData.hasDictAll, PyData.hasDict, Bool.or_self, i2]
      · simp only [List.map_cons, quadD, PyData.depthAll, PyData.depth]; omega
      · simp only [List.map_cons, quadD, costAll, cost, List.length_cons]; omega
  obtain ⟨i1, i2, i3, i4⟩ := all qs hz
  exact ⟨.lst (SqL.of e) h.dp, by simp only [PyData.showable]; exact i1, by simp only [PyData.hasDict]; exact i2, by rw [PyData.depth]; omega, by rw [cost]; omega⟩
/-! ### slices -/
theorem cut_take {xs : List V} {n : Nat} (h : n ≤ xs.length) : cutV xs none (some (n : Int)) = xs.take n := by
  unfold cutV
  rw [HT.sIx_none, HT.sIx_nat, List.drop_zero, Nat.sub_zero, Nat.min_eq_left h]
theorem cut_mem {xs : List V} {lo hi : Option Int} {x : V} (h : x ∈ cutV xs lo hi) : x ∈ xs := by
  unfold cutV at h
  exact List.mem_of_mem_drop (List.mem_of_mem_take h)
theorem inV_ints {k : Int} {ns : List Int} : inV (.int k) (ns.map V.int) = decide (k ∈ ns) := by
  unfold inV
  induction ns with
  | nil => rfl
  | cons n ns ih =>
    rw [List.map_cons, List.any_cons, ih]
    by_cases h : n = k
    · subst h
      rw [decide_eq_true (List.mem_cons_self)]
      simp [eqV]
    · have e1 : eqV (.int n) (.int k) = false := by simp [eqV, h]
      rw [e1, Bool.false_or]
      by_cases h2 : k ∈ ns
      · rw [decide_eq_true h2, decide_eq_true (List.mem_cons_of_mem _ h2)]
      · rw [decide_eq_false h2, decide_eq_false]
        intro h3
        rcases List.mem_cons.mp h3 with h3 | h3
        · exact h h3.symm
        · exact h2 h3
theorem flat_ints {ns : List Int} : (ns.map V.int).all flatV = true := by
  rw [List.all_eq_true]
  intro x hx
  obtain ⟨n, _, rfl⟩ := List.mem_map.mp hx
  rfl
/-! ### promises -/
def HeartAt (H : Hp) (p : Addr) (D e : Int) : Prop := H p = some (.tup (cutV4 (hq D e))) ∧ Meas D ∧ D < 2 ^ 120 ∧ e % 2 = D % 2 ∧ -hsz D ≤ e ∧ e ≤ hsz D - 2
def spSteps : Sp := fun vs H Q _ => ∃ (p : Addr) (D e : Int), vs = [.ref p] ∧ HeartAt H p D e ∧ (hsz D - e) / 2 ≤ 5000 ∧ ∀ (q : Addr) (ls : List Addr) (H' : Hp), Same H H' → H q = none → H' q = some (.lst (ls.map V.ref)) → QAll H' ls (stQ D e (hstK D e)) → Q (.ref q) H'
def spStepsX (C : Addr) : Sp := fun vs H Q E => ∃ (p : Addr) (D e : Int), vs = [.ref p] ∧ HeartAt H p D e ∧ 5000 < (hsz D - e) / 2 ∧ Err H E C (.int ((hsz D - e) / 2))
def spIsStep : Sp := fun vs H Q _ => ∃ (p : Addr) (D e f : Int), vs = [.ref p, .int f] ∧ H p = some (.tup (cutV4 (hq D e))) ∧ Q (.bl (hstB D e f)) H
def spLawStep : Sp := fun vs H Q _ => ∃ D e f : Int, vs = [.int D, .int e, .int f] ∧ D < 2 ^ 200 ∧ e.natAbs < 2 ^ 300 ∧ Q (.bl (lstB D e f)) H
def spBez : Sp := fun vs H Q _ => ∃ a b : Int, vs = [.int a, .int b] ∧ 0 ≤ a ∧ 1 ≤ b ∧ a < 2 ^ 60 ∧ b < 2 ^ 60 ∧ ∀ (p : Addr) (H' : Hp) (x y : Int), Same H H' → x.natAbs ≤ a + b → y.natAbs ≤ a + b → H' p = some (.tup [.int (gcdI a b), .int x, .int y]) → Q (.ref p) H'
def DeedAt (H : Hp) (r t : Addr) (D e p q : Int) : Prop := H r = some (.tup (cutV4 (hq D e))) ∧ H t = some (.tup [.int p, .int q]) ∧ Meas D ∧ D < 100000 ∧ e % 2 = D % 2 ∧ e.natAbs < 1000 ∧ e * e < D ∧ 0 ≤ p ∧ p < q ∧ q < 100 ∧ gcdI p q = 1
def spDeed29 : Sp := fun vs H Q _ => ∃ (r t : Addr) (D e p q : Int), vs = [.ref r, .ref t] ∧ DeedAt H r t D e p q ∧ ∀ H', Same H H' → Q (.bl (decide (0 < qn D e - q * e - q * q))) H'
def spDone29 : Sp := fun vs H Q _ => ∃ (r t : Addr) (D e p q : Int), vs = [.ref r, .ref t] ∧ DeedAt H r t D e p q ∧ 0 < qn D e - q * e - q * q ∧ ∀ (z : Addr) (H' : Hp) (a w : Int), Same H H' → H' z = some (.tup [.int a, .int w, .int (gcdI (qn D e) q), .int (0 - e - 2 * q)]) → (gcdI (qn D e) q = 1 → H' z = some (.tup (cutV4 (hq D (0 - e - 2 * q))))) → Q (.ref z) H'
def spDR : Sp := fun vs H Q _ => ∃ (D e : Int) (po : Addr), vs = [.int D, .int e, .ref po] ∧ Meas D ∧ D < 50000 ∧ e % 2 = D % 2 ∧ -hsz D ≤ e ∧ e ≤ hsz D - 2 ∧ H po = some (.lst ((stL D e (hstK D e)).map V.int)) ∧ ∀ H', Same H H' → Q (.bl true) H'
theorem bz_step {l r x y M : Int} (hx : 0 ≤ x) (hy : 1 ≤ y) (h : (r.natAbs : Int) * x + (l.natAbs : Int) * y ≤ M) : ((l - x / y * r).natAbs : Int) ≤ M ∧ ((l - x / y * r).natAbs : Int) * y + (r.natAbs : Int) * (x % y) ≤ M := by
  have hb : 0 ≤ x / y := Int.ediv_nonneg hx (by omega)
  have e1 : x = y * (x / y) + x % y := (Int.mul_ediv_add_emod x y).symm
  have e2 := Int.emod_nonneg x (show y ≠ 0 by omega)
  generalize x / y = b at *
  generalize x % y = m at *
  have h1 : ((l - b * r).natAbs : Int) ≤ (l.natAbs : Int) + b * (r.natAbs : Int) := by
    have a1 : ((b * r).natAbs : Int) = b * (r.natAbs : Int) := by
      rw [Int.natAbs_mul, Int.natCast_mul, show ((b.natAbs : Nat) : Int) = b by omega]
    omega
  have h2 := Int.mul_le_mul_of_nonneg_right h1 (show 0 ≤ y by omega)
  have e3 : ((l.natAbs : Int) + b * (r.natAbs : Int)) * y + (r.natAbs : Int) * m = (r.natAbs : Int) * x + (l.natAbs : Int) * y := by
    rw [e1]
    grind
  have h3 := Int.mul_nonneg (show (0 : Int) ≤ (r.natAbs : Int) by omega) e2
  have h4 : ((l - b * r).natAbs : Int) * 1 ≤ ((l - b * r).natAbs : Int) * y := Int.mul_le_mul_of_nonneg_left hy (by omega)
  omega
def InvBz (a b : Int) (H : Hp) : SV → Hp → Prop := fun σ H2 => ∃ (x y l0 l1 r0 r1 : Int) (L R : Addr) (t : Option V), σ = [some (.int a), some (.int b), some (.int x), some (.int y), some (.ref L), some (.ref R), t] ∧ Same H H2 ∧ 0 ≤ x ∧ 0 ≤ y ∧ x < 2 ^ 60 ∧ y < 2 ^ 60 ∧ gcdI x y = gcdI a b ∧ H2 L = some (.tup [.int l0, .int l1]) ∧ H2 R = some (.tup [.int r0, .int r1]) ∧ l0.natAbs ≤ a + b ∧ l1.natAbs ≤ a + b ∧ r0.natAbs ≤ a + b ∧ r1.natAbs ≤ a + b ∧ (r0.natAbs : Int) * x + (l0.natAbs : Int) * y ≤ a + b ∧ (r1.natAbs : Int) * x + (l1.natAbs : Int) * y ≤ a + b
end Kx
namespace Kx
open PySem PySem.Spec PyProof.Rows L2
def spMany29 : Sp := fun vs H Q _ => ∃ (p : Addr) (D e : Int), vs = [.ref p] ∧ HeartAt H p D e ∧ 5000 < (hsz D - e) / 2 ∧ ∀ H', Same H H' → Q (.int ((hsz D - e) / 2)) H'
def spFar29 : Sp := fun vs H Q _ => ∃ (g : Addr) (D : Int) (k : Nat), vs = [.ref g, .int D] ∧ GenAt H g k ∧ k ≤ 2 ^ 39 ∧ Meas D ∧ D < 2 ^ 110 ∧ ∀ H', GenAt H' g (k + 20) → Keep g H H' → Q (.bl true) H'
theorem gcd_cop {p q b : Int} (h : gcdI p q = 1) : gcdI (p * b) q = gcdI b q := by
  unfold gcdI at *
  rw [Int.natAbs_mul]
  have hc : Nat.Coprime p.natAbs q.natAbs := by
    show Nat.gcd p.natAbs q.natAbs = 1
    omega
  rw [Nat.Coprime.gcd_mul_left_cancel _ hc]
theorem hst_q {D e q : Int} : hstB D e (0 - e - 2 * q) = decide (gcdI (qn D e) q = 1) := by
  unfold hstB
  rw [show (e + (0 - e - 2 * q)) / 2 = -q by omega, gcdI_negL, gcdI_comm]
def InvIL (h : Hp) (Dd : Addr) (L : Nat → List Int) : Nat → Hp → Prop := fun i H2 => Same h H2 ∧ H2 Dd = some (.lst ((L i).map V.int))
theorem InvIL.push {h H2 H3 : Hp} {Dd : Addr} {L : Nat → List Int} {n : Int} {i : Nat} (hi : InvIL h Dd L i H2) (hD : h Dd = none) (s : Same H2 H3) (hL : L (i + 1) = L i ++ [n]) (hle : (L i).length < 1000000) : ∃ acc, H3 Dd = some (.lst acc) ∧ acc.length < sizeLine ∧ InvIL h Dd L (i + 1) (L2.upd H3 Dd (.lst (acc ++ [.int n]))) := by
  obtain ⟨s2, eD⟩ := hi
  refine ⟨_, s _ _ eD, ?_, Same.upd2 (s2.trans s) hD, by rw [upd_same, hL, List.map_append]; rfl⟩
  rw [List.length_map]
  exact Nat.lt_of_lt_of_le hle (Nat.le_of_ble_eq_true rfl)
theorem InvIL.skip {h H2 H3 : Hp} {Dd : Addr} {L : Nat → List Int} {i : Nat} (hi : InvIL h Dd L i H2) (s : Same H2 H3) (hL : L (i + 1) = L i) : InvIL h Dd L (i + 1) H3 := ⟨hi.1.trans s, by rw [hL]; exact s _ _ hi.2⟩
theorem stL_add {D e : Int} {k : Nat} (h : hstB D e (2 * (k : Int) - hsz D) = true) : stL D e (k + 1) = stL D e k ++ [2 * (k : Int) - hsz D] := by
  rw [stL_succ, if_pos h]
theorem stL_keep {D e : Int} {k : Nat} (h : ¬ hstB D e (2 * (k : Int) - hsz D) = true) : stL D e (k + 1) = stL D e k := by
  rw [stL_succ, if_neg h, List.append_nil]
theorem stQ_take {D : Int} {L : List Int} {i : Nat} {f : Int} (h : L[i]? = some f) : (L.take (i + 1)).map (hq D) = (L.take i).map (hq D) ++ [hq D f] := by
  rw [List.take_succ, h, List.map_append]
  rfl
def spSmall29 : Sp := fun vs H Q _ => ∃ (g : Addr) (D : Int) (k : Nat), vs = [.ref g, .int D] ∧ GenAt H g k ∧ k ≤ 2 ^ 39 ∧ Meas D ∧ D < 50000 ∧ ∀ H', GenAt H' g (k + 20) → Keep g H H' → Q (.bl true) H'
def spLawHeartN : Sp := fun vs H Q _ => ∃ D : Int, vs = [.int D] ∧ Meas D ∧ D < 100000 ∧ ∀ p H', H p = none → Same H H' → H' p = some (.lst ((hlist D (hsz D).toNat).map V.int)) → Q (.ref p) H'
theorem room65 {k : Nat} {A : Around} (r : Room k A) : A.units + 65 < cLine := by have := r.un; omega
end Kx

set_option Elab.async false
set_option linter.all false
set_option maxRecDepth 100000
set_option maxHeartbeats 4000000
set_option exponentiation.threshold 4000
/-! Lists of tuples of ints, sorted. -/
namespace Kx
open PySem PySem.Spec PyProof.Rows L2 PySem.Calls
theorem lexLt_asym : ∀ x y : List Int, HT.lexLt x y = true → HT.lexLt y x = false
  | [], [], h => by cases h
  | [], _ :: _, _ => rfl
  | _ :: _, [], h => by cases h
  | a :: x, b :: y, h => by
    rw [HT.lexLt_cons] at h ⊢
    by_cases e : a = b
    · rw [if_pos e] at h
      rw [if_pos e.symm]
      exact lexLt_asym x y h
    · rw [if_neg e, decide_eq_true_eq] at h
      rw [if_neg (Ne.symm e), decide_eq_false_iff_not]
      omega
theorem lexLt_tr : ∀ x y z : List Int, HT.lexLt y x = false → HT.lexLt z y = false → HT.lexLt z x = false
  | [], _, [], _, _ => rfl
  | [], _, _ :: _, _, _ => rfl
  | _ :: _, [], _, h, _ => by cases h
  | _ :: _, _ :: _, [], _, h => by cases h
  | a :: x, b :: y, c :: z, h1, h2 => by
    rw [HT.lexLt_cons] at h1 h2 ⊢
    by_cases e1 : b = a
    · rw [if_pos e1] at h1
      by_cases e2 : c = b
      · rw [if_pos e2] at h2
        rw [if_pos (e2.trans e1)]
        exact lexLt_tr x y z h1 h2
      · rw [if_neg e2, decide_eq_false_iff_not] at h2
        rw [if_neg (by omega), decide_eq_false_iff_not]
        omega
    · rw [if_neg e1, decide_eq_false_iff_not] at h1
      by_cases e2 : c = b
      · rw [if_neg (by omega), decide_eq_false_iff_not]
        omega
      · rw [if_neg e2, decide_eq_false_iff_not] at h2
        rw [if_neg (by omega), decide_eq_false_iff_not]
        omega
theorem lex_swo {α : Type} (k : α → List Int) : SrtO.Swo fun x y => HT.lexLt (k x) (k y) := ⟨fun x y => lexLt_asym _ _, fun x y z => lexLt_tr _ _ _⟩
theorem lexLt_eq : ∀ x y : List Int, x.length = y.length → HT.lexLt x y = false → HT.lexLt y x = false → x = y
  | [], [], _, _, _ => rfl
  | [], _ :: _, h, _, _ => by simp at h
  | _ :: _, [], h, _, _ => by simp at h
  | a :: x, b :: y, h, h1, h2 => by
    rw [HT.lexLt_cons] at h1 h2
    by_cases e : a = b
    · rw [if_pos e] at h1
      rw [if_pos e.symm] at h2
      rw [e, lexLt_eq x y (by simpa using h) h1 h2]
    · rw [if_neg e, decide_eq_false_iff_not] at h1
      rw [if_neg (Ne.symm e), decide_eq_false_iff_not] at h2
      omega
section
variable {prog : Program} {w : World} {A : Around} {E : Value → Shared → Prop} {s : Shared} {Q : Bool → Shared → Prop}
theorem lex_intsL {b : Bool} {xs ys : List Value} {ns ms : List Int} (i : Nat) (hx : IntsAre xs ns) (hy : IntsAre ys ms) (hl : ns.length = ms.length)
    (h : Q (HT.lexLt ns ms) s) : PySem.W.KatLex prog w A b false Q (xs.zip ys) i s := by
  induction hx generalizing ys ms i with
  | nil =>
    cases hy with
    | nil => exact PySem.W.kat_nil h
    | cons q u hy => simp at hl
  | @cons p t xs ns hx ih =>
    cases hy with
    | nil => simp at hl
    | @cons q u ys ms hy =>
      have hl' : ns.length = ms.length := by simpa using hl
      show PySem.W.KatLex prog w A b false Q ((Value.int p t, Value.int q u) :: xs.zip ys) i s
      refine PySem.W.kat_cons (wpAny_eqBool_int ?_)
      rw [HT.lexLt_cons] at h
      by_cases e : p = q
      · subst e
        rw [beq_self_eq_true]
        rw [if_pos rfl] at h
        refine PySem.W.kat_yes ?_
        first
          | exact ih (i + 1) hy hl' h
          | exact ih _ _ (i + 1) hy hl' h
      · rw [show (p == q) = false from beq_eq_false_iff_ne.mpr e]
        rw [if_neg e] at h
        exact PySem.W.kat_no (TS.oneLt_ints _ h)
/-- what is sorted: tuples of d ints, k says which -/
def TupsK (h : Heap) (d : Nat) (k : Value → List Int) (vs : List Value) : Prop := ∀ v ∈ vs, TS.TupInts h v (k v) ∧ (k v).length = d
theorem firsts_ofK {h : Heap} {d : Nat} {k : Value → List Int} (hd : 1 ≤ d) : ∀ vs : List Value, TupsK h d k vs → ∃ fs, PySem.W.KatTups h vs fs ∧ fs.length = vs.length ∧ ∀ f, f ∈ fs → ∃ n t, f = Value.int n t
  | [], _ => ⟨[], PySem.W.KatTups.nil, rfl, fun f hf => by simp at hf⟩
  | v :: vs, x => by
    obtain ⟨fs, kt, hl, hi⟩ := firsts_ofK hd vs fun u hu => x u (List.mem_cons_of_mem _ hu)
    obtain ⟨⟨a, xs, rfl, ⟨o, ho, hc, n, hdt⟩, i⟩, hn⟩ := x v (List.mem_cons_self ..)
    obtain ⟨y, ys, e⟩ : ∃ y ys, xs.toList = y :: ys := by
      cases q : xs.toList with
      | nil =>
        rw [q] at i
        have l := i.length
        rw [List.length_nil, hn] at l
        omega
      | cons y ys => exact ⟨y, ys, rfl⟩
    obtain ⟨m, t, hy⟩ := i.all y (by rw [e]; exact List.mem_cons_self ..)
    refine ⟨y :: fs, PySem.W.KatTups.cons ho hc hdt ?_ kt, by simp [hl], ?_⟩
    · have z := congrArg (fun l : List Value => l[0]?) e
      simpa using z
    · intro f hf
      rcases List.mem_cons.mp hf with rfl | hf
      · exact ⟨m, t, hy⟩
      · exact hi f hf
theorem tup_cmpK {d : Nat} {vs : List Value} {k : Value → List Int} (hp : TupsK s.heap d k vs) : SrtO.Cmp prog w A s (tuples' true) (fun p => p.1 ∈ vs) (SrtO.lt2 fun v u => HT.lexLt (k v) (k u)) := by
  intro p q hm hm'
  obtain ⟨t1, l1⟩ := hp _ hm
  obtain ⟨t2, l2⟩ := hp _ hm'
  show wpAny (model prog w) A (keyLt' (tuples' true) p.1 q.1) (fun r s' => s' = s ∧ r = HT.lexLt (k p.1) (k q.1)) (fun _ _ => False) s
  generalize k p.1 = ns at t1 l1 ⊢
  generalize k q.1 = ms at t2 l2 ⊢
  obtain ⟨a, xs, e1, ⟨o, ho, hc, n, hdt⟩, i⟩ := t1
  obtain ⟨a', ys, e2, ⟨o', ho', hc', n', hdt'⟩, i'⟩ := t2
  rw [e1, e2]
  refine PySem.W.kat_lt ho hdt ho' hdt' ?_
  have sz : decide (xs.size < ys.size) = false := by
    have l3 := i.length
    have l4 := i'.length
    rw [Array.length_toList] at l3 l4
    exact decide_eq_false (by omega)
  rw [sz]
  exact lex_intsL 0 i i' (by omega) ⟨rfl, rfl⟩
theorem tups_sortableK {a : Addr} {d : Nat} {vs : List Value} {k : Value → List Int} (hd : 1 ≤ d) (h0 : 0 < vs.length) (hp : TupsK s.heap d k vs) (ha : ∀ o, s.heap.get? a = some o → o.cls ≠ .type "tuple") : SrtO.SortableO prog w A s a vs fun v u => HT.lexLt (k v) (k u) := by
  intro h' keep
  have hp' : TupsK h' d k vs := fun v hm => ⟨(hp v hm).1.keeps fun b o e c => keep b o (fun z => by subst z; exact ha o e c) e, (hp v hm).2⟩
  obtain ⟨fs, h1, h2, h3⟩ := firsts_ofK hd vs hp'
  refine ⟨tuples' true, fun Q E hq => ?_, tup_cmpK (s := { s with heap := h' }) hp'⟩
  refine PySem.W.kat_kind (T := .type "int") h1 (by omega) (fun f hm => ?_) (by rfl) ?_
  · obtain ⟨x, t, rfl⟩ := h3 f hm
    exact PySem.W.Looks.now
  · have e : (Value.type "int" != Value.type "tuple") = true := by first | decide +kernel | rfl | decide
    rw [e]
    exact hq
theorem sorted_tupsK {l : Addr} {d : Nat} {vs : List Value} {k : Value → List Int} {Q : Value → Shared → Prop} (hd : 1 ≤ d) (hl : s.heap.IsList l vs.toArray) (hz : vs.length ≤ sizeLine) (hp : TupsK s.heap d k vs)
    (h : ∀ (h' : Heap) (d : Addr) (out : List Value), SrtO.Srtd (fun v u => HT.lexLt (k v) (k u)) out → SrtO.Stb (fun v u => HT.lexLt (k v) (k u)) out vs → (∀ b o, s.heap.get? b = some o → h'.get? b = some o) → s.heap.objs.size ≤ d → (∃ n, h'.get? d = some (seqObj "list" out.toArray n)) → Q (.ref d) { s with heap := h' }) :
    wpAny (model prog w) A (call (.builtin "sorted") [.ref l]) Q E s := by
  refine SrtO.sorted_ord (lex_swo k) hl hz (fun h2 h₁ a ha kk => ?_) fun out hs hb => ?_
  · refine tups_sortableK (s := { s with heap := h₁ }) hd (by omega) (fun v hm => ⟨(hp v hm).1.keeps fun b o e _ => (kk b o e).2, (hp v hm).2⟩) fun o e => ?_
    have e' : some o = some (seqObj "list" vs.toArray 0) := e.symm.trans ha
    cases e'
    intro c
    exact absurd (Value.type.inj c) (by decide)
  · exact h _ _ out hs hb (fun b o e => sortedAll_old e) (Nat.le_succ _) (sortedAll_at s.heap vs out.toArray)
end
end Kx
namespace Kx
open PySem PySem.Spec PyProof.Rows L2 PySem.Calls
abbrev ltK (k : V → List Int) (x y : V) : Bool := HT.lexLt (k x) (k y)
theorem ltK_swo (k : V → List Int) : SrtO.Swo (ltK k) := lex_swo k
/-- sorted(xs), xs a list of tuples of d ints (k says which): a new list, sorted, equal ones in their order -/
def rSortedTK : List V → Hp → VK → Prop := fun vs H Q => ∃ (a : Addr) (xs : List V) (d : Nat) (k : V → List Int), vs = [V.ref a] ∧ H a = some (.lst xs) ∧ 1 ≤ d ∧ (∀ x ∈ xs, ∃ t, x = V.ref t ∧ H t = some (.tup ((k x).map V.int)) ∧ (k x).length = d) ∧
  ∀ ys p, SrtO.Srtd (ltK k) ys → SrtO.Stb (ltK k) ys xs → H p = none → Q (.ref p) (L2.upd H p (.lst ys))
theorem cr_sortedTK {X : Cx} : CallR X (.builtin "sorted") rSortedTK := by
  intro pins s σ H vs us Q I r h
  obtain ⟨a, xs, d, k, rfl, hs, hd, hx, q⟩ := h
  obtain ⟨its, rv, hl, hz⟩ := I.list (SqL.of hs)
  obtain ⟨u, rfl, ru⟩ := vals1 r
  obtain rfl : u = Value.ref a := ru
  obtain ⟨e1, e2⟩ := refs_back rv fun x m => by
    obtain ⟨t, e, _⟩ := hx x m
    exact ⟨t, e⟩
  refine sorted_tupsK (k := fun u => k (backV u)) hd hl.isList (by rw [← rv.length]; exact hz) (fun v hv => ?_) fun h' d out h1 h2 kp hd hn => ?_
  · obtain ⟨t, rfl⟩ := e2 v hv
    have hm : V.ref t ∈ xs := by rw [e1]; exact List.mem_map.mpr ⟨_, hv, rfl⟩
    obtain ⟨t', e, ht, hlen⟩ := hx _ hm
    cases e
    obtain ⟨its2, rv2, hT, _⟩ := I.tuple (SqT.of ht)
    exact ⟨⟨t, its2.toArray, rfl, hT, by have := rv2.ints; simpa [backV] using this⟩, hlen⟩
  · have h3 : ∀ u ∈ out, ∃ a, u = Value.ref a := fun u hu => e2 u (h2.perm.mem_iff.mp hu)
    obtain ⟨n, hn⟩ := hn
    have hb : SrtO.Stb (ltK k) (out.map backV) xs := by
      rw [e1]
      exact SrtO.Stb.map (ltK_swo k) backV h2
    refine ⟨.ref d, L2.upd H d (.lst (out.map backV)), I.laid (t' := s.toks) kp hd ⟨?_, out, n, vals_back h3, hn⟩, rfl, q _ d (SrtO.srtd_map h1) hb (I.hok.fresh hd)⟩
    rw [hb.len]
    exact hz
end Kx

set_option Elab.async false
set_option linter.all false
set_option maxRecDepth 100000
set_option maxHeartbeats 4000000
set_option exponentiation.threshold 4000
/-! Comprehensions of many clauses: one rule for a clause's loop, one for what its turns do, put together. -/
namespace Kx
open PySem PySem.Spec PyProof.Rows L2
/-- a turn of a clause: `rest` behind tests that hold, `k` behind all -/
def turnW (i t : Expr) (ifs : List Expr) (it : Value) (env : Env) (rest : Sem Fin → Sem Fin) (k : Sem Fin) : Sem Fin := do
  standAt i.pos
  match ← pyNext it with
  | none => pure (.done .next)
  | some u =>
    letOwnedTupleGo t it u
    assign t env u
    let mut yes := true
    for c in ifs do
      if yes then yes ← isTrue c env (eval c env)
    if yes then rest k else k
def restIn (j e : Expr) (d : Nat) (acc : Value) (env : Env) (k : Sem Fin) : Sem Fin := do
  let y ← eval j env
  standAt j.pos
  let z ← foldedSetIterable j env y
  let _ ← runOwn (.compStart e (d + 1) (← holding [z] (pyIter z)) acc env) env
  k
def restEl (elt : Expr) (acc : Value) (env : Env) (k : Sem Fin) : Sem Fin := do
  (do let _ ← call (.builtin "list.append") [acc, ← eval elt env])
  k
abbrev e3 (elt t0 i0 : Expr) (f0 : List Expr) (t1 i1 : Expr) (f1 : List Expr) (t2 i2 : Expr) (f2 : List Expr) (sc : Scope) (pos : Pos) : Expr := .ListComp elt [⟨t0, i0, f0, 0⟩, ⟨t1, i1, f1, 0⟩, ⟨t2, i2, f2, 0⟩] sc pos
section
variable {elt t0 i0 t1 i1 t2 i2 : Expr} {f0 f1 f2 : List Expr} {sc : Scope} {pos : Pos} {it acc : Value} {env : Env}
theorem turn30 : compTurn (e3 elt t0 i0 f0 t1 i1 f1 t2 i2 f2 sc pos) 0 it acc env = turnW i0 t0 f0 it env (restIn i1 (e3 elt t0 i0 f0 t1 i1 f1 t2 i2 f2 sc pos) 0 acc env) (again (.compLoop (e3 elt t0 i0 f0 t1 i1 f1 t2 i2 f2 sc pos) 0 it acc env)) := by rfl
theorem turn31 : compTurn (e3 elt t0 i0 f0 t1 i1 f1 t2 i2 f2 sc pos) 1 it acc env = turnW i1 t1 f1 it env (restIn i2 (e3 elt t0 i0 f0 t1 i1 f1 t2 i2 f2 sc pos) 1 acc env) (again (.compLoop (e3 elt t0 i0 f0 t1 i1 f1 t2 i2 f2 sc pos) 1 it acc env)) := by rfl
theorem turn32 : compTurn (e3 elt t0 i0 f0 t1 i1 f1 t2 i2 f2 sc pos) 2 it acc env = turnW i2 t2 f2 it env (restEl elt acc env) (again (.compLoop (e3 elt t0 i0 f0 t1 i1 f1 t2 i2 f2 sc pos) 2 it acc env)) := by rfl
end
/-- what a turn does behind its tests, and what it leaves -/
structure PRest (Y : Cx) (rest : Sem Fin → Sem Fin) (vs : List Nat) (t : SV → Hp → (Hp → Prop) → Prop) : Prop where
  run : ∀ (pins : List (Addr × Obj)) (s : Shared) (σ : SV) (H : Hp) (Q : Hp → Prop) (P : Fin → Shared → Prop) (E : Value → Shared → Prop) (k : Sem Fin), Inv Y pins σ H s → t σ H Q →
    (∀ σ' H' s', Inv Y pins σ' H' s' → σ'.length = σ.length → (∀ (j : Nat) v, j ∉ vs → σ[j]? = some (some v) → σ'[j]? = some (some v)) → Q H' → wpAny (model Y.prog Y.w) Y.A k P E s') →
    wpAny (model Y.prog Y.w) Y.A (rest k) P E s
/-- the loop of one clause -/
theorem clause_loop {Y : Cx} {elt : Expr} {gens : List Comprehension} {sc : Scope} {pos : Pos} {d : Nat} {D it : Addr} {i t : Expr} {ifs : List Expr} {rest : Sem Fin → Sem Fin} {fp : List Addr} {tn : Nat → Heap → Prop} {J : L2.It} {g : TG} {tt : TT}
    {tb : SV → Hp → (Hp → Prop) → Prop} {vs vo : List Nat} {σ0 : SV} {pins : List (Addr × Obj)} {Fi : Hp → Prop} {W : Nat → Nat → Hp → Prop} (hc : Y.calm = true) (hx : ∀ v s, ¬ Y.xe v s)
    (hturn : compTurn (.ListComp elt gens sc pos) d (.ref it) (.ref D) Y.env = turnW i t ifs (.ref it) Y.env rest (again (.compLoop (.ListComp elt gens sc pos) d (.ref it) (.ref D) Y.env)))
    (pg : PG Y t g) (pt : PTs Y ifs tt) (pr : PRest Y rest vs tb) (T : Turn Y.prog Y.w Y.K t J fp it tn) (hv : ∀ j ∈ vs, j ∈ vo)
    (turn : ∀ i m H, W i m H → (J.stop i H ∧ Fi H) ∨ (J.go i H ∧ ∃ Nx : Hp → Prop, (∀ H', Nx H' → ∃ m', m' < m ∧ W (i + 1) m' H') ∧
      ∀ x H', J.yld i H x H' → g x σ0 H' fun σ2 H2 => wipe σ2 vo = σ0 ∧ tt σ2 H2 fun b H3 => if b = true then tb σ2 H3 Nx else Nx H3))
    {s : Shared} {H : Hp} {m0 : Nat} (I : Inv Y pins σ0 H s) (hf : ∀ b ∈ fp, FpOk Y pins H b) (st : tn 0 s.heap) (w0 : W 0 m0 H) :
    codeAny (model Y.prog Y.w) Y.A (.compLoop (.ListComp elt gens sc pos) d (.ref it) (.ref D) Y.env) (fun r s' => r = .ok .next ∧ ∃ H', Inv Y pins σ0 H' s' ∧ Fi H') s := by
  have still : ∀ {H' : Hp}, (∀ b ∈ fp, H' b = none) → ∀ b ∈ fp, FpOk Y pins H' b := fun hn b hb => ⟨hn b hb, (hf b hb).2⟩
  refine codeAny_loop rfl (fun n s' => ∃ i H', Inv Y pins σ0 H' s' ∧ tn i s'.heap ∧ (∀ b ∈ fp, H' b = none) ∧ W i n H') (fun n s5 hI => ?_) m0 ⟨0, H, I, st, fun b hb => (hf b hb).1, w0⟩
  show wpAny _ Y.A (Sem.onRaise (compTurn (.ListComp elt gens sc pos) d (.ref it) (.ref D) Y.env) _) _ _ s5
  refine wpAny_noted ?_
  rw [hturn]
  obtain ⟨a, H5, I5, st5, n5, w5⟩ := hI
  refine wpAny_bind (wpAny_standAt (wpAny_bind ?_))
  rcases turn a n H5 w5 with ⟨stop, fin⟩ | ⟨go, Nx, hNx, step⟩
  · refine thn (T.done Y rfl rfl rfl hc a pins s5 σ0 H5 _ I5 (still n5) st5 stop) fun r s6 hr => ?_
    obtain ⟨rfl, I6⟩ := hr
    exact wpAny_pure ⟨rfl, H5, I6, fin⟩
  · refine thn (T.item Y rfl rfl rfl hc a pins s5 σ0 H5 _ I5 (still n5) st5 go) fun r s6 hr => ?_
    obtain ⟨u, rfl, h6⟩ := hr
    refine wpAny_bind (thn h6 fun _ s7 h7 => ?_)
    obtain ⟨x, H7, I7, r7, y7, st7, n7⟩ := h7
    have J7 := I7.pinned (still n7) (T.obj _ _ st7)
    -- back at the loop's head
    have home : ∀ {σ2 σ' : SV} {s' : Shared} {H' : Hp}, wipe σ2 vo = σ0 → σ'.length = σ2.length → (∀ (j : Nat) v, j ∉ vs → σ2[j]? = some (some v) → σ'[j]? = some (some v)) → Inv Y (pins ++ pinsAt fp s7.heap) σ' H' s' → Nx H' →
        ∃ m, m < n ∧ ∃ i H', Inv Y pins σ0 H' s' ∧ tn i s'.heap ∧ (∀ b ∈ fp, H' b = none) ∧ W i m H' := by
      intro σ2 σ' s' H' e2 el ek I' nx
      obtain ⟨m', hm, w'⟩ := hNx H' nx
      have at7 : ∀ b ∈ fp, ∀ o, s7.heap.get? b = some o → s'.heap.get? b = some o ∧ H' b = none := fun b hb o e => by
        have z := I'.pin (b, o) (List.mem_append_right _ (List.mem_append_right _ (mem_pinsAt hb e)))
        exact ⟨z.1, z.2.1⟩
      refine ⟨m', hm, a + 1, H', I'.unpinned.weak (by rw [el, ← e2, wipe_length]) (fun j v e => ?_), T.keep _ _ _ st7 (fun b hb o e => (at7 b hb o e).1), fun b hb => ?_, w'⟩
      · rw [← e2] at e
        obtain ⟨e3, e4⟩ := wipe_some e
        exact ek j v (fun z => e4 (hv j z)) e3
      · obtain ⟨o, e, _⟩ := T.obj _ _ st7 b hb
        exact (at7 b hb o e).2
    refine wpAny_bind (wpAny_mono (pg.run _ s7 σ0 H7 x u _ J7 r7 (step x H7 y7)) (fun _ s8 h8 => ?_) fun v s' z => (hx v s' z).elim)
    obtain ⟨σ8, H8, I8, hw8, q8⟩ := h8
    refine wpAny_bind (wpAny_mono (pt.run _ s8 σ8 H8 _ I8 q8) (fun b s9 h9 => ?_) fun v s' z => (hx v s' z).elim)
    obtain ⟨H9, I9, q9⟩ := h9
    cases b with
    | false => exact wpAny_pure ⟨rfl, home hw8 rfl (fun _ _ _ e => e) I9 q9⟩
    | true =>
      exact pr.run _ s9 σ8 H9 Nx _ _ _ I9 q9 fun σ' H' s' I' el ek nx => wpAny_pure ⟨rfl, home hw8 el ek I' nx⟩
end Kx
namespace Kx
open PySem PySem.Spec PyProof.Rows L2
/-- a clause's start: the loop is reached by the iterator itself or once more through pyIter -/
theorem clause_start {prog : Program} {w : World} {A : Around} {R : Result → Shared → Prop} {s : Shared} {elt t i : Expr} {f : List Expr} {gens : List Comprehension} {sc : Scope} {pos : Pos} {d : Nat} {it : Addr} {acc : Value} {env : Env}
    (hg : gens[d]? = some ⟨t, i, f, 0⟩) (hl : codeAny (model prog w) A (.compLoop (.ListComp elt gens sc pos) d (.ref it) acc env) R s)
    (hi : ∀ (Q : Value → Shared → Prop) (E : Value → Shared → Prop), Q (.ref it) s → wpAny (model prog w) A (pyIter (.ref it)) Q E s) :
    codeAny (model prog w) A (.compStart (.ListComp elt gens sc pos) d (.ref it) acc env) R s := by
  refine codeAny_of_tree ?_
  show wpAny _ A (Sem.onRaise (compStart (.ListComp elt gens sc pos) d (.ref it) acc env) _) _ _ s
  refine wpAny_notedAt ?_
  unfold compStart
  have e : clausesOf (.ListComp elt gens sc pos) = gens := rfl
  rw [e, hg]
  apply wpAny_bind
  apply wpAny_askSetting
  apply wpAny_ite
  split
  · first
      | exact wpAny_bind (wpAny_pure (wpAny_pure ⟨rfl, hl⟩))
      | exact wpAny_pure ⟨rfl, hl⟩
  · first
      | exact wpAny_bind (wpAny_rule (wpAny_bind (wpAny_standAt (wpAny_bind (hi _ _ (wpAny_pure ⟨rfl, hl⟩))))))
      | (refine wpAny_bind (wpAny_rule ?_); exact wpAny_bind (wpAny_standAt (wpAny_bind (hi _ _ (wpAny_pure ⟨rfl, hl⟩)))))
end Kx

namespace Kx
open PySem PySem.Spec PyProof.Rows L2
section
variable {Y : Cx} {elt : Expr} {gens : List Comprehension} {sc : Scope} {pos : Pos} {d : Nat} {D : Addr}
/-- the last clause: the item at the list's end -/
def tPush (D : Addr) (te : TE) : SV → Hp → (Hp → Prop) → Prop := fun σ H Q => te σ H fun y H' => ∃ acc, H' D = some (.lst acc) ∧ acc.length < sizeLine ∧ Q (L2.upd H' D (.lst (acc ++ [y])))
theorem pr_push {te : TE} {vs : List Nat} (hx : ∀ v s, ¬ Y.xe v s) (pe : PE Y elt te) : PRest Y (restEl elt (.ref D) Y.env) vs (tPush D te) := by
  refine ⟨fun pins s σ H Q P E k I h cont => ?_⟩
  refine wpAny_bind (wpAny_bind (wpAny_mono (pe.run pins s σ H _ I h) (fun u s1 h1 => ?_) fun v s' z => (hx v s' z).elim))
  obtain ⟨y, H1, I1, r1, acc, eD, hl, q⟩ := h1
  exact wpAny_bind (app_ok I1 eD hl r1 fun s2 I2 => wpAny_pure (cont σ _ s2 I2 rfl (fun _ _ _ e => e) q))
/-- a clause within: its own loop -/
def tWithin (wi : TI) (g : TG) (tt : TT) (tb : SV → Hp → (Hp → Prop) → Prop) (vs : List Nat) : SV → Hp → (Hp → Prop) → Prop := fun σ H Q => wi σ H fun J H1 => ∃ W : Nat → Nat → Hp → Prop, (∃ m, W 0 m H1) ∧
  ∀ i m H, W i m H → (J.stop i H ∧ Q H) ∨ (J.go i H ∧ ∃ Nx : Hp → Prop, (∀ H', Nx H' → ∃ m', m' < m ∧ W (i + 1) m' H') ∧
    ∀ x H', J.yld i H x H' → g x (wipe σ vs) H' fun σ2 H2 => wipe σ2 vs = wipe σ vs ∧ tt σ2 H2 fun b H3 => if b = true then tb σ2 H3 Nx else Nx H3)
theorem pr_within {t i : Expr} {f : List Expr} {rest : Sem Fin → Sem Fin} {wi : TI} {g : TG} {tt : TT} {tb : SV → Hp → (Hp → Prop) → Prop} {vs vi : List Nat} (hc : Y.calm = true) (hx : ∀ v s, ¬ Y.xe v s) (hg : gens[d + 1]? = some ⟨t, i, f, 0⟩)
    (hturn : ∀ it : Addr, compTurn (.ListComp elt gens sc pos) (d + 1) (.ref it) (.ref D) Y.env = turnW i t f (.ref it) Y.env rest (again (.compLoop (.ListComp elt gens sc pos) (d + 1) (.ref it) (.ref D) Y.env)))
    (hs : ∀ x, foldedSetIterable i Y.env x = pure x) (hi : PI Y t i wi) (pg : PG Y t g) (pt : PTs Y f tt) (pr : PRest Y rest vi tb) (hv : ∀ j ∈ vi, j ∈ vs) :
    PRest Y (restIn i (.ListComp elt gens sc pos) d (.ref D) Y.env) vs (tWithin wi g tt tb vs) := by
  refine ⟨fun pins s σ H Q P E k I h cont => ?_⟩
  refine wpAny_bind (wpAny_mono (hi.run pins s σ H _ I h) (fun u s1 h1 => ?_) fun v s' z => (hx v s' z).elim)
  refine wpAny_bind (wpAny_standAt (wpAny_bind (wpAny_of_eq (hs u) (wpAny_bind (wpAny_holding ?_)))))
  refine wpAny_mono h1 (fun itv s2 h2 => ?_) fun v s' z => (hx v s' z).elim
  obtain ⟨it, fp, tn, J, H2, rfl, I2, T, st2, f2, W, ⟨m, w0⟩, turn⟩ := h2
  refine wpAny_bind (wpAny_runOwn ?_)
  rw [Around.mark_none]
  have J2 : Inv Y pins (wipe σ vs) H2 s2 := I2.weak (wipe_length _ _) fun j v e => (wipe_some e).1
  have run := clause_loop (Fi := Q) (vo := vs) hc hx (hturn it) pg pt pr T hv turn J2 f2 st2 w0
  refine codeAny_mono (clause_start hg run fun Q' E' q => T.self _ 0 _ Q' E' st2 q) fun r s3 h3 => ?_
  obtain ⟨rfl, H3, I3, q3⟩ := h3
  exact cont _ H3 s3 I3 (wipe_length _ _) (fun j v hj e => by rw [wipe_out hj]; exact e) q3
end
end Kx
namespace Kx
open PySem PySem.Spec PyProof.Rows L2
section
variable {X : Cx}
/-- the whole: the first clause's loop, what its turns do told by tb (by the new list) -/
def tLcN (wi : TI) (g : TG) (tt : TT) (tb : Addr → SV → Hp → (Hp → Prop) → Prop) (vs : List Nat) : TE := fun σ H Q => wi σ H fun J H1 => ∀ D, H1 D = none → ∃ W : Nat → Nat → Hp → Prop, (∃ m, W 0 m (L2.upd H1 D (.lst []))) ∧
  ∀ i m H, W i m H → (J.stop i H ∧ Q (.ref D) H) ∨ (J.go i H ∧ ∃ Nx : Hp → Prop, (∀ H', Nx H' → ∃ m', m' < m ∧ W (i + 1) m' H') ∧
    ∀ x H', J.yld i H x H' → g x (wipe σ vs) H' fun σ2 H2 => wipe σ2 vs = wipe σ vs ∧ tt σ2 H2 fun b H3 => if b = true then tb D σ2 H3 Nx else Nx H3)
theorem pe_lcN {elt t i : Expr} {f : List Expr} {gs : List Comprehension} {sc : Scope} {own : List (Str × Nat)} {pos : Pos} {wi : TI} {g : TG} {tt : TT} {tb : Addr → SV → Hp → (Hp → Prop) → Prop} {vi : List Nat} {rest : Value → Env → Sem Fin → Sem Fin}
    (hc : X.calm = true) (hN : X.N.Nodup) (hi : PI X t i wi) (ok : BlkOk X.N X.env.scope sc own) (hv : ∀ j ∈ vi, j ∈ own.map (·.2))
    (hturn : ∀ (it acc : Value) (env : Env), compTurn (.ListComp elt (⟨t, i, f, 0⟩ :: gs) sc pos) 0 it acc env = turnW i t f it env (rest acc env) (again (.compLoop (.ListComp elt (⟨t, i, f, 0⟩ :: gs) sc pos) 0 it acc env)))
    (hg : ∀ (s : Shared) (H : Hp) (C : Addr) (cl : List (Str × Addr)) (fp : List Addr), PG (X.blk s H sc (compEnvC sc cl C X.env) fp) t g)
    (ht : ∀ (s : Shared) (H : Hp) (C : Addr) (cl : List (Str × Addr)) (fp : List Addr), PTs (X.blk s H sc (compEnvC sc cl C X.env) fp) f tt)
    (hr : ∀ (s : Shared) (H : Hp) (C : Addr) (cl : List (Str × Addr)) (fp : List Addr) (D : Addr), PRest (X.blk s H sc (compEnvC sc cl C X.env) fp) (rest (.ref D) (compEnvC sc cl C X.env)) vi (tb D))
    (hs : ∀ x, foldedSetIterable i X.env x = pure x := by intro _; rfl) :
    PE X (.ListComp elt (⟨t, i, f, 0⟩ :: gs) sc pos) (tLcN wi g tt tb (own.map (·.2))) := by
  refine ⟨fun pins s σ H Q I h => ?_⟩
  rw [eval_ListComp]
  have cells : ∀ y ∈ sc.names, y.2 = .free → ∃ c, X.env.cells.lookup y.1 = some c := by
    intro y hy e
    exact (ok.free y hy e).elim (fun z => I.ok.has _ (.inl z)) fun z => I.ok.has _ (.inr z)
  refine wpAny_comprehension_free (use := none) rfl hs (closure_ok cells) ok.kind (fun y hy e => (ok.uniq y hy).trans (congrArg some e)) ?_
  refine thn (hi.run pins s σ H _ I h) fun u s1 h1 => thn h1 fun itv s2 h2 => ?_
  obtain ⟨it, fp, tn, J, H2, rfl, I2, T, st2, f2, q⟩ := h2
  refine wpAny_newObj_type (newEnv_comp ?_) (show (0 : Nat) ≤ sizeLine from Nat.zero_le _)
  obtain ⟨D, hD⟩ : ∃ D, D = s2.heap.objs.size := ⟨_, rfl⟩
  rw [← hD]
  obtain ⟨W, ⟨m0, w0⟩, turn⟩ := q D (I2.hok.fresh (Nat.le_of_eq hD.symm))
  obtain ⟨s3, hs3⟩ : ∃ s3 : Shared, s3 = { s2 with heap := s2.heap.push { cls := .type "list", data := .seq ([] : List Value).toArray } } := ⟨_, rfl⟩
  have grow : ∀ (b : Addr) (o : Obj), s2.heap.get? b = some o → s3.heap.get? b = some o := fun b o e => by
    rw [hs3]
    exact Heap.get?_push_of_some _ e
  have I3 : Inv X pins σ (L2.upd H2 D (.lst [])) s3 := by
    rw [hs3, hD]
    exact I2.laid (t' := s2.toks) (fun b o e => Heap.get?_push_of_some _ e) (Nat.le_refl _) ⟨Nat.zero_le _, [], 0, .nil, Heap.get?_push_size _ rfl⟩
  have size3 : s3.heap.objs.size = s2.heap.objs.size + 1 := by
    rw [hs3]
    exact Heap.size_push ..
  have f3 : ∀ b ∈ fp, FpOk X pins (L2.upd H2 D (.lst [])) b ∧ b < s3.heap.objs.size := fun b hb => by
    obtain ⟨o, e, _⟩ := T.obj _ _ st2 b hb
    have lt := Heap.lt_size e
    refine ⟨⟨?_, (f2 b hb).2⟩, by rw [size3]; exact Nat.lt_succ_of_lt lt⟩
    rw [upd_ne (fun z => Nat.ne_of_lt lt (z.trans hD))]
    exact (f2 b hb).1
  have B := block_start I3 ok hN f3
  rw [show s2.heap.push { cls := .type "list", data := .seq ([] : List Value).toArray } = s3.heap by rw [hs3]]
  -- what the block has
  have pg := hg s3 (L2.upd H2 D (.lst [])) s3.heap.objs.size (cellsFrom (s3.heap.objs.size + 1) sc.names (cloFrom X.env.cells sc.names [])) fp
  have pt := ht s3 (L2.upd H2 D (.lst [])) s3.heap.objs.size (cellsFrom (s3.heap.objs.size + 1) sc.names (cloFrom X.env.cells sc.names [])) fp
  have pr := hr s3 (L2.upd H2 D (.lst [])) s3.heap.objs.size (cellsFrom (s3.heap.objs.size + 1) sc.names (cloFrom X.env.cells sc.names [])) fp D
  show codeAny _ _ (.compStart (.ListComp elt (⟨t, i, f, 0⟩ :: gs) sc pos) 0 (.ref it) (.ref D) (compEnvC sc (cellsFrom (s3.heap.objs.size + 1) sc.names (cloFrom X.env.cells sc.names [])) s3.heap.objs.size X.env)) _ _
  obtain ⟨ce, hce⟩ : ∃ ce, ce = compEnvC sc (cellsFrom (s3.heap.objs.size + 1) sc.names (cloFrom X.env.cells sc.names [])) s3.heap.objs.size X.env := ⟨_, rfl⟩
  have here : ce.locals = s3.heap.objs.size := by rw [hce]; rfl
  rw [← hce] at B pg pt pr ⊢
  obtain ⟨s4, hs4⟩ : ∃ s4 : Shared, s4 = { s3 with heap := pushCells (s3.heap.push { cls := .type "dict", data := .dict #[] }) sc.names } := ⟨_, rfl⟩
  rw [← hs4] at B
  have st4 : tn 0 s4.heap := T.keep _ _ _ (T.keep _ _ _ st2 fun b _ o e => grow b o e) fun b _ o e => by
    rw [hs4]
    exact pushCells_keeps _ _ _ _ (Heap.get?_push_of_some _ e)
  obtain ⟨H3, hH3⟩ : ∃ H3, H3 = L2.upd H2 D (.lst []) := ⟨_, rfl⟩
  rw [← hH3] at B pg pt pr I3 f3 w0
  have fb : ∀ b ∈ fp, FpOk (X.blk s3 H3 sc ce fp) [] H3 b := fun b hb => by
    refine ⟨(f3 b hb).1.1, (B.ok.exf b hb).1, B.ok.exfs b hb, .inl hb, fun x c e => (B.ok.exf b hb).2 x c e, fun p hp => ?_⟩
    have hp : p ∈ ([] : List (Addr × Obj)) ++ [] := hp
    simp at hp
  have run := clause_loop (Y := X.blk s3 H3 sc ce fp) (Fi := fun H' => Q (.ref D) H') (vo := own.map (·.2)) hc (fun _ _ z => z) (hturn _ _ _) pg pt pr T hv turn B fb st4 w0
  have st : codeAny (model X.prog X.w) X.A (.compStart (.ListComp elt (⟨t, i, f, 0⟩ :: gs) sc pos) 0 (.ref it) (.ref D) ce) _ s4 := clause_start (gens := ⟨t, i, f, 0⟩ :: gs) (d := 0) rfl run fun Q' E' z => T.self _ 0 _ Q' E' st4 z
  have back : ∀ (r : Result) (s5 : Shared), (r = .ok .next ∧ ∃ H', Inv (X.blk s3 H3 sc ce fp) [] (wipe σ (own.map (·.2))) H' s5 ∧ Q (.ref D) H') → compPost (model X.prog X.w) X.A X.xe none (EP X pins σ Q) (.ref D) s3.heap.objs.size r s5 := by
    intro r s5 h5
    obtain ⟨rfl, H5, I5, q5⟩ := h5
    have I6 : Inv X pins σ H5 s5 := I3.call' (ch := fp) I5.os I5.base I5.hok I5.bare fun b hb => by
      obtain ⟨⟨_, z1, z2, z3, z4, z5⟩, _⟩ := f3 b hb
      exact ⟨z3, z1, z4, z5⟩
    have none5 : H5 s3.heap.objs.size = none := by
      rw [← here]
      exact I5.free
    obtain ⟨m, hn, _⟩ := I5.loc
    have hn : s5.heap.Ns ce.locals m := hn
    rw [here] at hn
    refine ⟨m, hn, fun h'' sb => ?_⟩
    obtain ⟨g0, g1, g2, g3, g4, g5⟩ := I3.fpOk (Nat.le_refl _) none5
    exact ⟨.ref D, H5, I6.turned (t' := s5.toks) (fun b o hb e => (sb.2 b hb).trans e) g0 g1 g3 g4 g5, rfl, q5⟩
  subst hs4
  subst hs3
  exact codeAny_mono st back
end
end Kx
namespace Kx
open PySem PySem.Spec PyProof.Rows L2
section
variable {X : Cx}
theorem pe_lc3 {elt t0 i0 t1 i1 t2 i2 : Expr} {f0 f1 f2 : List Expr} {sc : Scope} {own : List (Str × Nat)} {pos : Pos} {w0 w1 w2 : TI} {g0 g1 g2 : TG} {q0 q1 q2 : TT} {te : TE} {v1 v2 : List Nat}
    (hc : X.calm = true) (hN : X.N.Nodup) (hi : PI X t0 i0 w0) (ok : BlkOk X.N X.env.scope sc own) (hv1 : ∀ j ∈ v1, j ∈ own.map (·.2)) (hv2 : ∀ j ∈ v2, j ∈ v1)
    (hg0 : ∀ (s : Shared) (H : Hp) (C : Addr) (cl : List (Str × Addr)) (fp : List Addr), PG (X.blk s H sc (compEnvC sc cl C X.env) fp) t0 g0)
    (ht0 : ∀ (s : Shared) (H : Hp) (C : Addr) (cl : List (Str × Addr)) (fp : List Addr), PTs (X.blk s H sc (compEnvC sc cl C X.env) fp) f0 q0)
    (hi1 : ∀ (s : Shared) (H : Hp) (C : Addr) (cl : List (Str × Addr)) (fp : List Addr), PI (X.blk s H sc (compEnvC sc cl C X.env) fp) t1 i1 w1)
    (hg1 : ∀ (s : Shared) (H : Hp) (C : Addr) (cl : List (Str × Addr)) (fp : List Addr), PG (X.blk s H sc (compEnvC sc cl C X.env) fp) t1 g1)
    (ht1 : ∀ (s : Shared) (H : Hp) (C : Addr) (cl : List (Str × Addr)) (fp : List Addr), PTs (X.blk s H sc (compEnvC sc cl C X.env) fp) f1 q1)
    (hi2 : ∀ (s : Shared) (H : Hp) (C : Addr) (cl : List (Str × Addr)) (fp : List Addr), PI (X.blk s H sc (compEnvC sc cl C X.env) fp) t2 i2 w2)
    (hg2 : ∀ (s : Shared) (H : Hp) (C : Addr) (cl : List (Str × Addr)) (fp : List Addr), PG (X.blk s H sc (compEnvC sc cl C X.env) fp) t2 g2)
    (ht2 : ∀ (s : Shared) (H : Hp) (C : Addr) (cl : List (Str × Addr)) (fp : List Addr), PTs (X.blk s H sc (compEnvC sc cl C X.env) fp) f2 q2)
    (he : ∀ (s : Shared) (H : Hp) (C : Addr) (cl : List (Str × Addr)) (fp : List Addr), PE (X.blk s H sc (compEnvC sc cl C X.env) fp) elt te)
    (hs : ∀ x, foldedSetIterable i0 X.env x = pure x := by intro _; rfl) (hs1 : ∀ env x, foldedSetIterable i1 env x = pure x := by intro _ _; rfl) (hs2 : ∀ env x, foldedSetIterable i2 env x = pure x := by intro _ _; rfl) :
    PE X (e3 elt t0 i0 f0 t1 i1 f1 t2 i2 f2 sc pos) (tLcN w0 g0 q0 (fun D => tWithin w1 g1 q1 (tWithin w2 g2 q2 (tPush D te) v2) v1) (own.map (·.2))) :=
  pe_lcN (hs := hs) (rest := fun acc env => restIn i1 (e3 elt t0 i0 f0 t1 i1 f1 t2 i2 f2 sc pos) 0 acc env) hc hN hi ok hv1 (fun _ _ _ => turn30) hg0 ht0 fun s H C cl fp D =>
    pr_within (d := 0) hc (fun _ _ z => z) rfl (fun _ => turn31) (hs1 _) (hi1 s H C cl fp) (hg1 s H C cl fp) (ht1 s H C cl fp)
      (pr_within (d := 1) (vi := []) hc (fun _ _ z => z) rfl (fun _ => turn32) (hs2 _) (hi2 s H C cl fp) (hg2 s H C cl fp) (ht2 s H C cl fp) (pr_push (fun _ _ z => z) (he s H C cl fp)) (fun j hj => by cases hj)) hv2
end
abbrev e2 (elt t0 i0 : Expr) (f0 : List Expr) (t1 i1 : Expr) (f1 : List Expr) (sc : Scope) (pos : Pos) : Expr := .ListComp elt [⟨t0, i0, f0, 0⟩, ⟨t1, i1, f1, 0⟩] sc pos
section
variable {elt t0 i0 t1 i1 : Expr} {f0 f1 : List Expr} {sc : Scope} {pos : Pos} {it acc : Value} {env : Env}
theorem turn20 : compTurn (e2 elt t0 i0 f0 t1 i1 f1 sc pos) 0 it acc env = turnW i0 t0 f0 it env (restIn i1 (e2 elt t0 i0 f0 t1 i1 f1 sc pos) 0 acc env) (again (.compLoop (e2 elt t0 i0 f0 t1 i1 f1 sc pos) 0 it acc env)) := by rfl
theorem turn21 : compTurn (e2 elt t0 i0 f0 t1 i1 f1 sc pos) 1 it acc env = turnW i1 t1 f1 it env (restEl elt acc env) (again (.compLoop (e2 elt t0 i0 f0 t1 i1 f1 sc pos) 1 it acc env)) := by rfl
end
theorem pe_lc2N {X : Cx} {elt t0 i0 t1 i1 : Expr} {f0 f1 : List Expr} {sc : Scope} {own : List (Str × Nat)} {pos : Pos} {w0 w1 : TI} {g0 g1 : TG} {q0 q1 : TT} {te : TE} {v1 : List Nat}
    (hc : X.calm = true) (hN : X.N.Nodup) (hi : PI X t0 i0 w0) (ok : BlkOk X.N X.env.scope sc own) (hv1 : ∀ j ∈ v1, j ∈ own.map (·.2))
    (hg0 : ∀ (s : Shared) (H : Hp) (C : Addr) (cl : List (Str × Addr)) (fp : List Addr), PG (X.blk s H sc (compEnvC sc cl C X.env) fp) t0 g0)
    (ht0 : ∀ (s : Shared) (H : Hp) (C : Addr) (cl : List (Str × Addr)) (fp : List Addr), PTs (X.blk s H sc (compEnvC sc cl C X.env) fp) f0 q0)
    (hi1 : ∀ (s : Shared) (H : Hp) (C : Addr) (cl : List (Str × Addr)) (fp : List Addr), PI (X.blk s H sc (compEnvC sc cl C X.env) fp) t1 i1 w1)
    (hg1 : ∀ (s : Shared) (H : Hp) (C : Addr) (cl : List (Str × Addr)) (fp : List Addr), PG (X.blk s H sc (compEnvC sc cl C X.env) fp) t1 g1)
    (ht1 : ∀ (s : Shared) (H : Hp) (C : Addr) (cl : List (Str × Addr)) (fp : List Addr), PTs (X.blk s H sc (compEnvC sc cl C X.env) fp) f1 q1)
    (he : ∀ (s : Shared) (H : Hp) (C : Addr) (cl : List (Str × Addr)) (fp : List Addr), PE (X.blk s H sc (compEnvC sc cl C X.env) fp) elt te)
    (hs : ∀ x, foldedSetIterable i0 X.env x = pure x := by intro _; rfl) (hs1 : ∀ env x, foldedSetIterable i1 env x = pure x := by intro _ _; rfl) :
    PE X (e2 elt t0 i0 f0 t1 i1 f1 sc pos) (tLcN w0 g0 q0 (fun D => tWithin w1 g1 q1 (tPush D te) v1) (own.map (·.2))) :=
  pe_lcN (hs := hs) (rest := fun acc env => restIn i1 (e2 elt t0 i0 f0 t1 i1 f1 sc pos) 0 acc env) hc hN hi ok hv1 (fun _ _ _ => turn20) hg0 ht0 fun s H C cl fp D =>
    pr_within (d := 0) (vi := []) hc (fun _ _ z => z) rfl (fun _ => turn21) (hs1 _) (hi1 s H C cl fp) (hg1 s H C cl fp) (ht1 s H C cl fp) (pr_push (fun _ _ z => z) (he s H C cl fp)) (fun j hj => by cases hj)
/-! the loops as one writes them -/
def LnW (J : L2.It) (g : TG) (tt : TT) (tb : Addr → SV → Hp → (Hp → Prop) → Prop) (vs : List Nat) (D : Addr) (σ : SV) (H1 : Hp) (Q : VK) : Prop := ∃ W : Nat → Nat → Hp → Prop, (∃ m, W 0 m (L2.upd H1 D (.lst []))) ∧
  ∀ i m H, W i m H → (J.stop i H ∧ Q (.ref D) H) ∨ (J.go i H ∧ ∃ Nx : Hp → Prop, (∀ H', Nx H' → ∃ m', m' < m ∧ W (i + 1) m' H') ∧
    ∀ x H', J.yld i H x H' → g x (wipe σ vs) H' fun σ2 H2 => wipe σ2 vs = wipe σ vs ∧ tt σ2 H2 fun b H3 => if b = true then tb D σ2 H3 Nx else Nx H3)
theorem tLcN_eq {wi : TI} {g : TG} {tt : TT} {tb : Addr → SV → Hp → (Hp → Prop) → Prop} {vs : List Nat} : tLcN wi g tt tb vs = fun σ H Q => wi σ H fun J H1 => ∀ D, H1 D = none → LnW J g tt tb vs D σ H1 Q := rfl
def ClW (J : L2.It) (g : TG) (tt : TT) (tb : SV → Hp → (Hp → Prop) → Prop) (vs : List Nat) (σ : SV) (H1 : Hp) (Q : Hp → Prop) : Prop := ∃ W : Nat → Nat → Hp → Prop, (∃ m, W 0 m H1) ∧
  ∀ i m H, W i m H → (J.stop i H ∧ Q H) ∨ (J.go i H ∧ ∃ Nx : Hp → Prop, (∀ H', Nx H' → ∃ m', m' < m ∧ W (i + 1) m' H') ∧
    ∀ x H', J.yld i H x H' → g x (wipe σ vs) H' fun σ2 H2 => wipe σ2 vs = wipe σ vs ∧ tt σ2 H2 fun b H3 => if b = true then tb σ2 H3 Nx else Nx H3)
theorem tWithin_eq {wi : TI} {g : TG} {tt : TT} {tb : SV → Hp → (Hp → Prop) → Prop} {vs : List Nat} : tWithin wi g tt tb vs = fun σ H Q => wi σ H fun J H1 => ClW J g tt tb vs σ H1 Q := rfl
section
variable {g : TG} {tt : TT} {vs : List Nat} {σ : SV} {H : Hp}
theorem lnW_range {tb : Addr → SV → Hp → (Hp → Prop) → Prop} {Dd : Addr} {Q : VK} {n : Nat} {lo : Int} (Pv : Nat → Hp → Prop) (h0 : Pv 0 (L2.upd H Dd (.lst [])))
    (hs : ∀ i H, i < n → Pv i H → g (.int (lo + i)) (wipe σ vs) H fun σ2 H2 => wipe σ2 vs = wipe σ vs ∧ tt σ2 H2 fun b H3 => if b = true then tb Dd σ2 H3 (Pv (i + 1)) else Pv (i + 1) H3) (hd : ∀ H, Pv n H → Q (.ref Dd) H) : LnW (Itr lo n) g tt tb vs Dd σ H Q := by
  refine ⟨fun i m H => i + m = n ∧ Pv i H, ⟨n, by omega, h0⟩, fun i m H z => ?_⟩
  rcases Nat.lt_or_ge i n with hl | hl
  · refine .inr ⟨hl, Pv (i + 1), fun H' p' => ⟨n - (i + 1), by omega, by omega, p'⟩, fun x H' y => ?_⟩
    obtain ⟨e1, e2⟩ := y
    rw [e1, e2]
    exact hs i H hl z.2
  · obtain rfl : i = n := by omega
    exact .inl ⟨hl, hd H z.2⟩
theorem lnW_list {K : PySem.W.Frag} {a : Addr} {xs : List V} {tb : Addr → SV → Hp → (Hp → Prop) → Prop} {Dd : Addr} {Q : VK} (Pv : Nat → Hp → Prop) (h0 : Pv 0 (L2.upd H Dd (.lst []))) (hq : ∀ i H, Pv i H → SqL K H a xs)
    (hs : ∀ i x H, xs[i]? = some x → Pv i H → g x (wipe σ vs) H fun σ2 H2 => wipe σ2 vs = wipe σ vs ∧ tt σ2 H2 fun b H3 => if b = true then tb Dd σ2 H3 (Pv (i + 1)) else Pv (i + 1) H3) (hd : ∀ H, Pv xs.length H → Q (.ref Dd) H) : LnW (Itl K a) g tt tb vs Dd σ H Q := by
  refine ⟨fun i m H => i + m = xs.length ∧ Pv i H, ⟨xs.length, by omega, h0⟩, fun i m H z => ?_⟩
  have q := hq i H z.2
  rcases Nat.lt_or_ge i xs.length with hl | hl
  · refine .inr ⟨⟨xs, _, q, List.getElem?_eq_getElem hl⟩, Pv (i + 1), fun H' p' => ⟨xs.length - (i + 1), by omega, by omega, p'⟩, fun x H' y => ?_⟩
    obtain ⟨e1, e2⟩ := y
    rw [e1]
    exact hs i x H (e2 xs q) z.2
  · obtain rfl : i = xs.length := by omega
    exact .inl ⟨⟨xs, q, Nat.le_refl _⟩, hd H z.2⟩
theorem clW_list {K : PySem.W.Frag} {a : Addr} {xs : List V} {tb : SV → Hp → (Hp → Prop) → Prop} {Q : Hp → Prop} (Pv : Nat → Hp → Prop) (h0 : Pv 0 H) (hq : ∀ i H, Pv i H → SqL K H a xs)
    (hs : ∀ i x H, xs[i]? = some x → Pv i H → g x (wipe σ vs) H fun σ2 H2 => wipe σ2 vs = wipe σ vs ∧ tt σ2 H2 fun b H3 => if b = true then tb σ2 H3 (Pv (i + 1)) else Pv (i + 1) H3) (hd : ∀ H, Pv xs.length H → Q H) : ClW (Itl K a) g tt tb vs σ H Q := by
  refine ⟨fun i m H => i + m = xs.length ∧ Pv i H, ⟨xs.length, by omega, h0⟩, fun i m H z => ?_⟩
  have q := hq i H z.2
  rcases Nat.lt_or_ge i xs.length with hl | hl
  · refine .inr ⟨⟨xs, _, q, List.getElem?_eq_getElem hl⟩, Pv (i + 1), fun H' p' => ⟨xs.length - (i + 1), by omega, by omega, p'⟩, fun x H' y => ?_⟩
    obtain ⟨e1, e2⟩ := y
    rw [e1]
    exact hs i x H (e2 xs q) z.2
  · obtain rfl : i = xs.length := by omega
    exact .inl ⟨⟨xs, q, Nat.le_refl _⟩, hd H z.2⟩
theorem clW_range {tb : SV → Hp → (Hp → Prop) → Prop} {Q : Hp → Prop} {n : Nat} {lo : Int} (Pv : Nat → Hp → Prop) (h0 : Pv 0 H)
    (hs : ∀ i H, i < n → Pv i H → g (.int (lo + i)) (wipe σ vs) H fun σ2 H2 => wipe σ2 vs = wipe σ vs ∧ tt σ2 H2 fun b H3 => if b = true then tb σ2 H3 (Pv (i + 1)) else Pv (i + 1) H3) (hd : ∀ H, Pv n H → Q H) : ClW (Itr lo n) g tt tb vs σ H Q := by
  refine ⟨fun i m H => i + m = n ∧ Pv i H, ⟨n, by omega, h0⟩, fun i m H z => ?_⟩
  rcases Nat.lt_or_ge i n with hl | hl
  · refine .inr ⟨hl, Pv (i + 1), fun H' p' => ⟨n - (i + 1), by omega, by omega, p'⟩, fun x H' y => ?_⟩
    obtain ⟨e1, e2⟩ := y
    rw [e1, e2]
    exact hs i H hl z.2
  · obtain rfl : i = n := by omega
    exact .inl ⟨hl, hd H z.2⟩
end
section
variable {X : Cx} {K : PySem.W.Frag} {tg l : Expr} {tl : TE}
theorem pi_listK (h : X.K = K) (hl : PE X l tl) : PI X tg l (iList K tl) := h ▸ pi_list hl
theorem pi_tupK (h : X.K = K) (hl : PE X l tl) : PI X tg l (iTup K tl) := h ▸ pi_tup hl
end
end Kx

set_option Elab.async false
set_option linter.all false
set_option maxRecDepth 100000
set_option maxHeartbeats 4000000
set_option exponentiation.threshold 4000
/-! Cuttings listed. -/
namespace Kx
open PySem PySem.Spec PyProof.Rows L2
/-! ### quads in order -/
def quadL (q : Q4) : List Int := [q.1, q.2.1, q.2.2.1, q.2.2.2]
theorem quadL_inj {x y : Q4} (h : quadL x = quadL y) : x = y := by
  unfold quadL at h
  simp only [List.cons.injEq, and_true] at h
  obtain ⟨h1, h2, h3, h4⟩ := h
  exact Prod.ext h1 (Prod.ext h2 (Prod.ext h3 h4))
def ltQ (x y : Q4) : Bool := HT.lexLt (quadL x) (quadL y)
def insQ (q : Q4) : List Q4 → List Q4
  | [] => [q]
  | x :: xs => if ltQ x q = true then x :: insQ q xs else q :: x :: xs
def srtQ : List Q4 → List Q4
  | [] => []
  | x :: xs => insQ x (srtQ xs)
theorem insQ_perm (q : Q4) : ∀ l : List Q4, (insQ q l).Perm (q :: l)
  | [] => List.Perm.refl _
  | x :: xs => by
    unfold insQ
    split
    · exact ((insQ_perm q xs).cons x).trans (List.Perm.swap q x xs)
    · exact List.Perm.refl _
theorem srtQ_perm : ∀ l : List Q4, (srtQ l).Perm l
  | [] => List.Perm.refl _
  | x :: xs => by
    unfold srtQ
    exact (insQ_perm x _).trans ((srtQ_perm xs).cons x)
theorem ltQ_swo : SrtO.Swo ltQ := lex_swo quadL
def leQ (x y : Q4) : Prop := ltQ y x = false
theorem insQ_srt {q : Q4} : ∀ {l : List Q4}, l.Pairwise leQ → (insQ q l).Pairwise leQ
  | [], _ => List.pairwise_singleton ..
  | x :: xs, h => by
    obtain ⟨h1, h2⟩ := List.pairwise_cons.mp h
    unfold insQ
    split
    · rename_i c
      refine List.pairwise_cons.mpr ⟨fun y hy => ?_, insQ_srt h2⟩
      rcases List.mem_cons.mp ((insQ_perm q xs).mem_iff.mp hy) with rfl | hy
      · exact ltQ_swo.asym _ _ c
      · exact h1 y hy
    · rename_i c
      have c' : ltQ x q = false := by simpa using c
      refine List.pairwise_cons.mpr ⟨fun y hy => ?_, h⟩
      rcases List.mem_cons.mp hy with rfl | hy
      · exact c'
      · exact ltQ_swo.tr q x y c' (h1 y hy)
theorem srtQ_srt : ∀ l : List Q4, (srtQ l).Pairwise leQ
  | [] => List.Pairwise.nil
  | x :: xs => by
    unfold srtQ
    exact insQ_srt (srtQ_srt xs)
theorem srtQ_uniq {l m : List Q4} (h : l.Pairwise leQ) (p : l.Perm m) : l = srtQ m := by
  refine List.Perm.eq_of_pairwise (le := leQ) (fun a b _ _ h1 h2 => quadL_inj (lexLt_eq _ _ rfl h2 h1)) h (srtQ_srt m) (p.trans (srtQ_perm m).symm)
def qOf (H : Hp) (v : V) : Q4 := match v with
  | .ref t => match H t with
    | some (.tup [.int a, .int b, .int c, .int e]) => (a, b, c, e)
    | _ => (0, 0, 0, 0)
  | _ => (0, 0, 0, 0)
theorem qOf_at {H : Hp} {l : Addr} {q : Q4} (h : H l = some (.tup (cutV4 q))) : qOf H (.ref l) = q := by
  have h2 : H l = some (.tup [.int q.1, .int q.2.1, .int q.2.2.1, .int q.2.2.2]) := h
  unfold qOf
  simp only [h2]
theorem QAll.all {H : Hp} {ls : List Addr} {qs : List Q4} (h : QAll H ls qs) : qs = ls.map (fun l => qOf H (.ref l)) ∧ ∀ l ∈ ls, H l = some (.tup (cutV4 (qOf H (.ref l)))) := by
  induction h with
  | nil => exact ⟨rfl, fun l hl => by cases hl⟩
  | @cons l q ls qs e _ ih =>
    refine ⟨?_, fun m hm => ?_⟩
    · rw [List.map_cons, qOf_at e, ← ih.1]
    · rcases List.mem_cons.mp hm with rfl | hm
      · rw [qOf_at e]; exact e
      · exact ih.2 m hm
theorem QAll.of {H : Hp} : ∀ {ls : List Addr}, (∀ l ∈ ls, H l = some (.tup (cutV4 (qOf H (.ref l))))) → QAll H ls (ls.map fun l => qOf H (.ref l))
  | [], _ => .nil
  | l :: ls, h => .cons (h l (List.mem_cons_self ..)) (QAll.of fun m hm => h m (List.mem_cons_of_mem _ hm))
def backA : V → Addr
  | .ref a => a
  | _ => 0
/-- sorted(..) of a list of quads -/
theorem sorted_quads {H : Hp} {a : Addr} {ls : List Addr} {qs : List Q4} {Q : VK} (ha : H a = some (.lst (ls.map V.ref))) (hQ : QAll H ls qs)
    (cont : ∀ p ms H', H p = none → Same H H' → H' p = some (.lst (ms.map V.ref)) → QAll H' ms (srtQ qs) → Q (.ref p) H') : rSortedTK [.ref a] H Q := by
  obtain ⟨h1, h2⟩ := hQ.all
  refine ⟨a, ls.map V.ref, 4, fun v => quadL (qOf H v), rfl, ha, by decide, fun x hx => ?_, fun ys p hs hb np => ?_⟩
  · obtain ⟨l, hl, rfl⟩ := List.mem_map.mp hx
    exact ⟨l, rfl, h2 l hl, rfl⟩
  · have hy : ys = (ys.map backA).map V.ref := by
      rw [List.map_map]
      refine (List.map_id ys).symm.trans (List.map_congr_left fun y hy => ?_)
      obtain ⟨l, _, rfl⟩ := List.mem_map.mp (hb.perm.mem_iff.mp hy)
      rfl
    generalize ys.map backA = ms at hy
    subst hy
    have sp : Same H (L2.upd H p (.lst (ms.map V.ref))) := Same.upd np
    have hm : ∀ l ∈ ms, H l = some (.tup (cutV4 (qOf H (.ref l)))) := fun l hl => by
      obtain ⟨l2, hl2, e⟩ := List.mem_map.mp (hb.perm.mem_iff.mp (List.mem_map.mpr ⟨l, hl, rfl⟩))
      cases e
      exact h2 l hl2
    have key : ms.map (fun l => qOf H (.ref l)) = srtQ qs := by
      refine srtQ_uniq ?_ ?_
      · have := hs
        rw [List.pairwise_map]
        have h3 : (ms.map V.ref).Pairwise (fun x y => ltK (fun v => quadL (qOf H v)) y x = false) := hs
        rwa [List.pairwise_map] at h3
      · rw [h1]
        have h4 := hb.perm.map (qOf H)
        rwa [List.map_map, List.map_map] at h4
    refine cont p ms _ np sp upd_same ?_
    rw [← key]
    exact (QAll.of hm).same sp
end Kx
namespace Kx
open PySem PySem.Spec PyProof.Rows L2
/-! ### the program's list and the law's -/
def fm {α : Type} (n : Nat) (f : Int → List α) : List α := (List.range n).flatMap fun i : Nat => f (i : Int)
theorem fm_succ {α : Type} (n : Nat) (f : Int → List α) : fm (n + 1) f = fm n f ++ f n := by
  unfold fm
  rw [List.range_succ, List.flatMap_append]
  simp
theorem fm_congr {α : Type} {n : Nat} {f g : Int → List α} (h : ∀ i : Nat, i < n → f i = g i) : fm n f = fm n g := by
  induction n with
  | zero => rfl
  | succ n ih => rw [fm_succ, fm_succ, ih fun i hi => h i (by omega), h n (by omega)]
theorem fm_nil {α : Type} {n : Nat} {f : Int → List α} (h : ∀ i : Nat, i < n → f i = []) : fm n f = [] := by
  induction n with
  | zero => rfl
  | succ n ih => rw [fm_succ, ih fun i hi => h i (by omega), h n (by omega)]; rfl
theorem fm_add {α : Type} {n m : Nat} {f : Int → List α} : fm (n + m) f = fm n f ++ fm m fun i => f ((n : Int) + i) := by
  induction m with
  | zero => rw [Nat.add_zero]; simp [fm]
  | succ m ih => rw [← Nat.add_assoc, fm_succ, ih, fm_succ, List.append_assoc, Int.natCast_add]
theorem fm_len {α : Type} {n : Nat} {f : Int → List α} : ((fm n f).length : Int) = rs n fun i => ((f i).length : Int) := by
  induction n with
  | zero => rfl
  | succ n ih => rw [fm_succ, List.length_append, Int.natCast_add, ih, rs]
theorem fm_le {α : Type} {n m : Nat} {f : Int → List α} (h : n ≤ m) : (fm n f).length ≤ (fm m f).length := by
  obtain ⟨k, rfl⟩ := Nat.exists_eq_add_of_le h
  rw [fm_add, List.length_append]
  omega
def firsE (e : Int) (p : Int × Int) : List Q4 := (firstsL (gcdI p.1 p.2) e (gcdI p.1 p.2).toNat).map fun a => (a, p.1, p.2, e)
def cutsE (D e : Int) : List Q4 := (midsD D e).flatMap (firsE e)
def cutsR (D : Int) (n : Nat) : List Q4 := fm n fun i => cutsE D (i - rt D)
def cutsL (D : Int) : List Q4 := cutsR D (2 * (rt D).toNat + 1)
theorem firsE_len (e : Int) (p : Int × Int) : ((firsE e p).length : Int) = fstN (gcdI p.1 p.2) e := by
  unfold firsE
  rw [List.length_map, firstsL_len]
  rfl
theorem flen {α β : Type} (l : List α) (f : α → List β) : ((l.flatMap f).length : Int) = (l.map fun x => ((f x).length : Int)).sum := by
  induction l with
  | nil => rfl
  | cons x l ih => rw [List.flatMap_cons, List.length_append, List.map_cons, List.sum_cons, Int.natCast_add, ih]
theorem cutsE_len (D e : Int) : ((cutsE D e).length : Int) = hmw D e := by
  unfold cutsE
  rw [flen, ← mids_sum]
  congr 1
  exact List.map_congr_left fun p _ => firsE_len e p
theorem cutsL_len {D : Int} (h : 0 ≤ D) : ((cutsL D).length : Int) = es (rt D).toNat (hmw D) := by
  have hr := (rt_le h).1
  unfold cutsL cutsR
  rw [fm_len, ← es_loop]
  refine rs_congr fun i hi => ?_
  rw [cutsE_len, show ((rt D).toNat : Int) = rt D by omega]
theorem take_le {α β : Type} (l : List α) (f : α → List β) (j : Nat) : ((l.take j).flatMap f).length ≤ (l.flatMap f).length := by
  have h : l.flatMap f = (l.take j).flatMap f ++ (l.drop j).flatMap f := by rw [← List.flatMap_append, List.take_append_drop]
  rw [h, List.length_append]
  omega
theorem take_next {α β : Type} {l : List α} {f : α → List β} {j : Nat} {x : α} (h : l[j]? = some x) : (l.take (j + 1)).flatMap f = (l.take j).flatMap f ++ f x := by
  rw [List.take_succ, h, List.flatMap_append]
  simp
/-- a part of the list is no longer than it -/
theorem part_le {D : Int} {i j : Nat} {X : List Q4} {p : Int × Int} (hi : i < 2 * (rt D).toNat + 1) (hp : (midsD D ((i : Int) - rt D))[j]? = some p) (hX : X.length ≤ (firsE ((i : Int) - rt D) p).length) :
    (cutsR D i ++ (((midsD D ((i : Int) - rt D)).take j).flatMap (firsE ((i : Int) - rt D)) ++ X)).length ≤ (cutsL D).length := by
  have h1 : (cutsR D (i + 1)).length ≤ (cutsL D).length := fm_le hi
  have h2 : cutsR D (i + 1) = cutsR D i ++ cutsE D ((i : Int) - rt D) := fm_succ i _
  have h3 := take_le (midsD D ((i : Int) - rt D)) (firsE ((i : Int) - rt D)) (j + 1)
  rw [take_next hp, List.length_append] at h3
  rw [h2, List.length_append] at h1
  rw [List.length_append, List.length_append]
  have : cutsE D ((i : Int) - rt D) = (midsD D ((i : Int) - rt D)).flatMap (firsE ((i : Int) - rt D)) := rfl
  rw [this] at h1
  omega
/-- the law's own -/
def lawE (e : Int) (p : Int × Int) : List Q4 := ((List.range (gcdI p.1 p.2).toNat).filter fun a : Nat => CutOk (a : Int) p.1 p.2 e).map fun a : Nat => ((a : Int), p.1, p.2, e)
def withE (D e : Int) : List Q4 := if D - e * e ≤ 0 ∨ ¬ (D - e * e) % 4 = 0 then [] else (midsL (qn D e) (qn D e).toNat).flatMap (lawE e)
theorem midsL_add (n : Int) (k m : Nat) : midsL n (k + m) = midsL n k ++ ((List.range m).filter fun i : Nat => decide (n % (((k + i : Nat) : Int) + 1) = 0)).map fun i : Nat => (n / (((k + i : Nat) : Int) + 1), ((k + i : Nat) : Int) + 1) := by
  induction m with
  | zero => simp
  | succ m ih =>
    rw [← Nat.add_assoc, midsL_succ, ih, List.range_succ, List.filter_append, List.map_append, List.append_assoc]
    congr 2
    by_cases h : n % (((k + m : Nat) : Int) + 1) = 0
    · rw [if_pos h, List.filter_cons, if_pos (decide_eq_true h)]; rfl
    · rw [if_neg h, List.filter_cons, if_neg (by rw [decide_eq_false h]; decide)]; rfl
theorem flat_nil {α β : Type} {l : List α} {f : α → List β} (h : ∀ x ∈ l, f x = []) : l.flatMap f = [] := by
  induction l with
  | nil => rfl
  | cons x l ih => rw [List.flatMap_cons, h x (List.mem_cons_self ..), ih fun y hy => h y (List.mem_cons_of_mem _ hy)]; rfl
theorem flat_congr {α β : Type} {l : List α} {f g : α → List β} (h : ∀ x ∈ l, f x = g x) : l.flatMap f = l.flatMap g := by
  induction l with
  | nil => rfl
  | cons x l ih => rw [List.flatMap_cons, List.flatMap_cons, h x (List.mem_cons_self ..), ih fun y hy => h y (List.mem_cons_of_mem _ hy)]
theorem lawE_in {e b c : Int} (hb : 1 ≤ b) (hc : 1 ≤ c) (h : c + e < b) : lawE e (b, c) = firsE e (b, c) := by
  unfold lawE firsE firstsL
  rw [List.map_map]
  simp only
  have hg := gcdI_pos (a := b) (b := c) (by omega)
  congr 1
  refine List.filter_congr fun a ha => ?_
  have ha := List.mem_range.mp ha
  unfold CutOk
  rw [decide_eq_true hb, decide_eq_true hc, decide_eq_true h, decide_eq_true (show (0 : Int) ≤ a by omega), decide_eq_true (show (a : Int) < gcdI b c by omega)]
  rfl
theorem lawE_out {e b c : Int} (h : ¬ c + e < b) : lawE e (b, c) = [] := by
  unfold lawE
  simp only
  rw [List.filter_eq_nil_iff.mpr fun a _ => ?_]
  · rfl
  · unfold CutOk
    rw [decide_eq_false h]
    simp
theorem with_cuts {D e : Int} (hM : Meas D) : withE D e = cutsE D e := by
  unfold withE cutsE midsD
  have hp := par_iff (e := e) hM
  by_cases h : D ≤ e * e ∨ (D - e) % 2 = 1
  · rw [if_pos h, if_pos (h.elim (fun h => .inl (by omega)) (fun h => .inr (hp.mp h)))]
    rfl
  · have h4 : (D - e * e) % 4 = 0 := by
      by_cases h4 : (D - e * e) % 4 = 0
      · exact h4
      · exact absurd (.inr (hp.mpr h4)) h
    have he : e * e < D := by
      by_cases he : e * e < D
      · exact he
      · exact absurd (.inl (by omega)) h
    rw [if_neg h, if_neg (fun z => z.elim (fun z => by omega) (fun z => z h4))]
    have hq := qn_pos he h4
    have inn : ∀ k : Nat, k ≤ ((rt (D - 1) - e) / 2).toNat → (midsL (qn D e) k).flatMap (lawE e) = (midsL (qn D e) k).flatMap (firsE e) := fun k hk => by
      refine flat_congr fun p hp => ?_
      obtain ⟨p1, p2, p3, p4⟩ := midsL_mem hp
      obtain ⟨b, c⟩ := p
      have hlt := (pair_iff hM.1 he h4 (c := c) p1 p3).mpr (by simp only at p2; omega)
      simp only at p4 p3 p1
      rw [← p4] at hlt
      have hk := Int.ediv_mul_cancel_of_emod_eq_zero p3
      rw [← p4] at hk
      have hb : 1 ≤ b := by
        by_cases hb : 1 ≤ b
        · exact hb
        · have := Int.mul_le_mul_of_nonneg_right (show b ≤ 0 by omega) (show 0 ≤ c by omega)
          omega
      exact lawE_in hb p1 hlt
    by_cases hle : ((rt (D - 1) - e) / 2).toNat ≤ (qn D e).toNat
    · obtain ⟨m, hm⟩ := Nat.exists_eq_add_of_le hle
      rw [hm, midsL_add, List.flatMap_append, inn _ (Nat.le_refl _), flat_nil (f := lawE e), List.append_nil]
      intro p hp
      obtain ⟨i, hi, rfl⟩ := List.mem_map.mp hp
      obtain ⟨h1, h2⟩ := List.mem_filter.mp hi
      refine lawE_out fun z => ?_
      have := (pair_iff hM.1 he h4 (c := (((((rt (D - 1) - e) / 2).toNat + i : Nat) : Int) + 1)) (by omega) (of_decide_eq_true h2)).mp z
      omega
    · obtain ⟨m, hm⟩ := Nat.exists_eq_add_of_le (show (qn D e).toNat ≤ ((rt (D - 1) - e) / 2).toNat by omega)
      rw [inn _ (by omega), hm, midsL_add, List.flatMap_append, flat_nil (l := List.map _ _), List.append_nil]
      intro p hp
      obtain ⟨i, hi, rfl⟩ := List.mem_map.mp hp
      obtain ⟨h1, h2⟩ := List.mem_filter.mp hi
      have h3 := of_decide_eq_true h2
      rw [Int.emod_eq_of_lt (by omega) (by omega)] at h3
      omega
theorem cutsE_out {D e : Int} (h : D ≤ e * e) : cutsE D e = [] := by
  unfold cutsE midsD
  rw [if_pos (.inl h)]
  rfl
/-- all last items from -n to n, n at least the root -/
theorem cuts_wide {D : Int} {n : Nat} (h0 : 0 ≤ D) (h : rt D ≤ n) : fm (2 * n + 1) (fun i => cutsE D (i - n)) = cutsL D := by
  obtain ⟨r0, r1, r2⟩ := rt_spec h0
  obtain ⟨m, hm⟩ : ∃ m : Nat, (n : Int) = rt D + m := ⟨((n : Int) - rt D).toNat, by omega⟩
  have out : ∀ e : Int, rt D < e ∨ e < -rt D → cutsE D e = [] := fun e he => by
    refine cutsE_out ?_
    rcases he with he | he
    · have := sq_mono (x := rt D + 1) (y := e) (by omega) (by omega)
      omega
    · have := sq_mono (x := rt D + 1) (y := -e) (by omega) (by omega)
      have e2 : -e * -e = e * e := by grind
      omega
  rw [show 2 * n + 1 = m + ((2 * (rt D).toNat + 1) + m) by omega, fm_add, fm_add, fm_nil (n := m), fm_nil (n := m), List.nil_append, List.append_nil]
  · unfold cutsL cutsR
    refine fm_congr fun i hi => ?_
    rw [show (m : Int) + (i : Int) - (n : Int) = (i : Int) - rt D by omega]
  · intro i hi
    exact out _ (.inl (by omega))
  · intro i hi
    exact out _ (.inr (by omega))
def turnsL (D : Int) (n : Nat) : List Int := ((List.range n).filter fun k : Nat => decide (((k : Int) - 60) * ((k : Int) - 60) < D)).map fun k : Nat => (k : Int) - 60
theorem turnsL_succ (D : Int) (n : Nat) : turnsL D (n + 1) = turnsL D n ++ (if ((n : Int) - 60) * ((n : Int) - 60) < D then [(n : Int) - 60] else []) := by
  unfold turnsL
  rw [List.range_succ, List.filter_append, List.map_append]
  congr 1
  by_cases h : ((n : Int) - 60) * ((n : Int) - 60) < D
  · rw [if_pos h, List.filter_cons, if_pos (decide_eq_true h)]; rfl
  · rw [if_neg h, List.filter_cons, if_neg (by rw [decide_eq_false h]; decide)]; rfl
theorem turnsL_le (D : Int) (n : Nat) : (turnsL D n).length ≤ n := by
  unfold turnsL
  rw [List.length_map]
  have := List.length_filter_le (fun k : Nat => decide (((k : Int) - 60) * ((k : Int) - 60) < D)) (List.range n)
  rwa [List.length_range] at this
theorem turnsL_mem {D f : Int} {n : Nat} (h : f ∈ turnsL D n) : f * f < D ∧ -60 ≤ f ∧ f < n := by
  unfold turnsL at h
  obtain ⟨k, hk, rfl⟩ := List.mem_map.mp h
  obtain ⟨h1, h2⟩ := List.mem_filter.mp hk
  have := List.mem_range.mp h1
  exact ⟨of_decide_eq_true h2, by omega, by omega⟩
theorem turns_cuts {D : Int} (hM : Meas D) (n : Nat) : (turnsL D n).flatMap (withE D) = fm n fun i => cutsE D (i - 60) := by
  induction n with
  | zero => rfl
  | succ n ih =>
    rw [turnsL_succ, List.flatMap_append, ih, fm_succ]
    congr 1
    by_cases h : ((n : Int) - 60) * ((n : Int) - 60) < D
    · rw [if_pos h, ← with_cuts hM]; simp
    · rw [if_neg h, cutsE_out (by omega)]; rfl
theorem all_cuts {D : Int} (hM : Meas D) (hD : D ≤ 3600) : (turnsL D 121).flatMap (withE D) = cutsL D := by
  have h5 := hM.1
  obtain ⟨r0, r1, r2⟩ := rt_spec (n := D) (by omega)
  have hr : rt D ≤ 60 := by
    by_cases h : rt D ≤ 60
    · exact h
    · have := sq_mono (x := 61) (y := rt D) (by omega) (by omega)
      omega
  rw [turns_cuts hM, ← cuts_wide (n := 60) (by omega) hr]
  rfl
end Kx
namespace Kx
open PySem PySem.Spec PyProof.Rows L2
/-! ### how many there are at most -/
theorem rs_le {n : Nat} {f g : Int → Int} (h : ∀ i : Nat, i < n → f i ≤ g i) : rs n f ≤ rs n g := by
  induction n with
  | zero => exact Int.le_refl _
  | succ n ih =>
    rw [rs, rs]
    have := ih fun i hi => h i (by omega)
    have := h n (by omega)
    omega
theorem cutW_nn {b c e : Int} (hc : c ≠ 0) : 0 ≤ cutW b c e := by
  rw [← cutW_fst hc]
  unfold fstN
  exact (rs_bd (B := 1) fun i _ => by split <;> omega).1
theorem cutW_le {b c e : Int} (hc : c ≠ 0) : cutW b c e ≤ gcdI b c := by
  rw [← cutW_fst hc]
  unfold fstN
  have := (rs_bd (n := (gcdI b c).toNat) (f := fun a => if gcdI (gcdI a (gcdI b c)) e = 1 then 1 else 0) (B := 1) fun i _ => by split <;> omega).2
  have := gcdI_nn b c
  omega
theorem both_le {D e : Int} (hM : Meas D) : dueM D e + dueM D (-e) ≤ bothM D e := by
  have hee : -e * -e = e * e := by grind
  unfold dueM
  rw [hee]
  have hqq : qn D (-e) = qn D e := by unfold qn; rw [hee]
  have nn : 0 ≤ bothM D e := by
    unfold bothM
    rw [show (0 : Int) = rs (qn D e).toNat fun _ => 0 from (rs_zero fun _ _ => rfl).symm]
    refine rs_le fun i _ => ?_
    unfold bothF
    split
    · exact cutW_nn (by omega)
    · exact Int.le_refl _
  by_cases h : D - e * e ≤ 0 ∨ ¬ (D - e * e) % 4 = 0
  · rw [if_pos h, if_pos h]
    exact nn
  · have h4 : (D - e * e) % 4 = 0 := by
      by_cases h4 : (D - e * e) % 4 = 0
      · exact h4
      · exact absurd (.inr h4) h
    have he : e * e < D := by
      by_cases he : e * e < D
      · exact he
      · exact absurd (.inl (by omega)) h
    rw [if_neg h, if_neg h, hqq]
    have hq := qn_pos he h4
    have swap : rs (qn D e).toNat (dueF D (-e)) = rs (qn D e).toNat (fun i => if ((qn D e).toNat : Int) % (i + 1) = 0 then (fun c => if qn D e / c < c + e then cutW (qn D e / c) c e else 0) (i + 1) else 0) := by
      rw [rs_div (f := fun c => if qn D e / c < c + e then cutW (qn D e / c) c e else 0)]
      refine rs_congr fun i hi => ?_
      unfold dueF
      rw [show ((qn D e).toNat : Int) = qn D e by omega, hqq]
      by_cases hd : qn D e % ((i : Int) + 1) = 0
      · have hk : ((i : Int) + 1) * (qn D e / ((i : Int) + 1)) = qn D e := by rw [Int.mul_comm]; exact Int.ediv_mul_cancel_of_emod_eq_zero hd
        rw [if_pos hd]
        have hb1 : 1 ≤ qn D e / ((i : Int) + 1) := by
          by_cases hb1 : 1 ≤ qn D e / ((i : Int) + 1)
          · exact hb1
          · have := Int.mul_le_mul_of_nonneg_left (show qn D e / ((i : Int) + 1) ≤ 0 by omega) (show 0 ≤ (i : Int) + 1 by omega)
            omega
        have hc : qn D e / (qn D e / ((i : Int) + 1)) = (i : Int) + 1 := Int.ediv_eq_of_eq_mul_left (by omega) hk.symm
        rw [hc]
        have hw := cutW_swap (qn D e / ((i : Int) + 1)) ((i : Int) + 1) (-e)
        rw [Int.neg_neg] at hw
        by_cases hlt : (i : Int) + 1 < qn D e / ((i : Int) + 1) + e
        · rw [if_pos hlt, if_pos ⟨hd, by omega⟩, hw]
        · rw [if_neg hlt, if_neg (fun z => hlt (by have := z.2; omega))]
      · rw [if_neg hd, if_neg (fun z => hd z.1)]
    rw [swap, ← rs_add]
    refine rs_le fun i hi => ?_
    unfold bothF dueF
    rw [show ((qn D e).toNat : Int) = qn D e by omega]
    have hw := cutW_nn (b := qn D e / ((i : Int) + 1)) (c := (i : Int) + 1) (e := e) (by omega)
    by_cases hd : qn D e % ((i : Int) + 1) = 0
    · rw [if_pos (show (D - e * e) % 4 = 0 ∧ qn D e % ((i : Int) + 1) = 0 from ⟨h4, hd⟩), if_pos (show qn D e % ((i : Int) + 1) = 0 from hd)]
      simp only
      by_cases hlt : (i : Int) + 1 + e < qn D e / ((i : Int) + 1)
      · rw [if_pos (show qn D e % ((i : Int) + 1) = 0 ∧ (i : Int) + 1 + e < qn D e / ((i : Int) + 1) from ⟨hd, hlt⟩), if_neg (by omega)]; omega
      · rw [if_neg (show ¬ (qn D e % ((i : Int) + 1) = 0 ∧ (i : Int) + 1 + e < qn D e / ((i : Int) + 1)) from fun z => hlt z.2)]
        split <;> omega
    · rw [if_neg (show ¬ (qn D e % ((i : Int) + 1) = 0 ∧ (i : Int) + 1 + e < qn D e / ((i : Int) + 1)) from fun z => hd z.1), if_neg (show ¬ qn D e % ((i : Int) + 1) = 0 from hd)]
      split <;> omega
/-- sums of gcd(n / c, c) over the divisors c of n -/
def gsum (n : Nat) : Nat := ((List.range n).map fun i => if n % (i + 1) = 0 then Nat.gcd (n / (i + 1)) (i + 1) else 0).sum
theorem gsum_small : ((List.range 376).all fun n => decide (gsum n ≤ 70)) = true := by decide +kernel
theorem rs_nat {n : Nat} {f : Nat → Nat} {g : Int → Int} (h : ∀ i : Nat, i < n → g i = (f i : Int)) : rs n g = ((((List.range n).map f).sum : Nat) : Int) := by
  induction n with
  | zero => rfl
  | succ n ih =>
    rw [rs, ih fun i hi => h i (by omega), h n (by omega), List.range_succ, List.map_append, List.sum_append]
    simp
theorem both_small {D e : Int} (hM : Meas D) (hD : D ≤ 1501) : bothM D e ≤ 70 := by
  by_cases hq : 0 ≤ qn D e
  · have hlt : (qn D e).toNat < 376 := by
      have := sq_nonneg' e
      unfold qn at *
      omega
    have h1 : bothM D e ≤ rs (qn D e).toNat fun i => if qn D e % (i + 1) = 0 then gcdI (qn D e / (i + 1)) (i + 1) else 0 := by
      unfold bothM
      refine rs_le fun i _ => ?_
      unfold bothF
      by_cases hd : qn D e % ((i : Int) + 1) = 0
      · rw [if_pos hd]
        split
        · exact cutW_le (by omega)
        · exact gcdI_nn _ _
      · rw [if_neg hd, if_neg (fun z => hd z.2)]
        exact Int.le_refl _
    have h2 : (rs (qn D e).toNat fun i => if qn D e % (i + 1) = 0 then gcdI (qn D e / (i + 1)) (i + 1) else 0) = (gsum (qn D e).toNat : Int) := by
      refine rs_nat fun i hi => ?_
      obtain ⟨n, hn⟩ := Int.eq_ofNat_of_zero_le hq
      rw [hn, Int.toNat_natCast]
      have e1 : ((n : Int) % ((i : Int) + 1) = 0) ↔ n % (i + 1) = 0 := by
        rw [← Int.natCast_one, ← Int.natCast_add, ← Int.natCast_emod]
        exact Int.natCast_eq_zero
      by_cases hd : n % (i + 1) = 0
      · rw [if_pos hd, if_pos (e1.mpr hd)]
        unfold gcdI
        rw [← Int.natCast_one, ← Int.natCast_add, ← Int.natCast_ediv, Int.natAbs_natCast, Int.natAbs_natCast]
      · rw [if_neg hd, if_neg (fun z => hd (e1.mp z))]
        rfl
    have h3 := List.all_eq_true.mp gsum_small _ (List.mem_range.mpr hlt)
    have h4 := of_decide_eq_true h3
    omega
  · unfold bothM
    rw [show (qn D e).toNat = 0 by omega]
    show (0 : Int) ≤ 70
    decide
theorem both_par {D e : Int} (hM : Meas D) (h : (D - e) % 2 = 1) : bothM D e = 0 := by
  unfold bothM
  refine rs_zero fun i _ => ?_
  unfold bothF
  rw [if_neg (fun z => (par_iff hM).mp h z.1)]
theorem par_sum (s : Int) (K : Nat) : 2 * (rs K fun i => 70 * ((i + s) % 2)) + 70 * ((K + s) % 2) ≤ 70 * K + 70 := by
  induction K with
  | zero =>
    rw [rs]
    omega
  | succ K ih =>
    rw [rs]
    omega
theorem cuts_few {D : Int} (hM : Meas D) (hD : D ≤ 1501) : (cutsL D).length ≤ 1500 := by
  have h5 := hM.1
  obtain ⟨r0, r1, r2⟩ := rt_spec (n := D) (by omega)
  have hr : rt D ≤ 38 := by
    by_cases h : rt D ≤ 38
    · exact h
    · have := sq_mono (x := 39) (y := rt D) (by omega) (by omega)
      omega
  have h1 := cutsL_len (D := D) (by omega)
  rw [show es (rt D).toNat (hmw D) = es (rt D).toNat (dueM D) from es_congr fun e => hmw_due hM] at h1
  unfold es at h1
  have h2 : dueM D 0 ≤ 70 := by
    have a := both_le (e := 0) hM
    have b := both_small (e := 0) hM hD
    have c := (due_bd (e := -0) (show D < 100000 by omega)).1
    omega
  have h3 : (rs (rt D).toNat fun i => dueM D (i + 1) + dueM D (-(i + 1))) ≤ rs (rt D).toNat fun i => 70 * ((i + D) % 2) := by
    refine rs_le fun i _ => ?_
    have a := both_le (e := (i : Int) + 1) hM
    by_cases hp : (D - ((i : Int) + 1)) % 2 = 1
    · rw [both_par hM hp] at a
      omega
    · have b := both_small (e := (i : Int) + 1) hM hD
      have : ((i : Int) + D) % 2 = 1 := by omega
      omega
  have h4 := par_sum D (rt D).toNat
  omega
theorem cuts_some {D : Int} (hM : Meas D) (hD : D ≤ 1501) : cutsL D ≠ [] := by
  have h5 := hM.1
  intro h
  have h1 := cutsL_len (D := D) (by omega)
  rw [h] at h1
  obtain ⟨r0, r1, r2⟩ := rt_spec (n := D) (by omega)
  have hr : 2 ≤ rt D := by
    by_cases h : 2 ≤ rt D
    · exact h
    · have := sq_mono (x := rt D + 1) (y := 2) (by omega) (by omega)
      omega
  -- the last item -1 or -2, c = 1
  obtain ⟨e, he1, he2, he3, he4⟩ : ∃ e : Int, (D - e) % 2 ≠ 1 ∧ e * e < D ∧ -2 ≤ e ∧ e ≤ -1 := by
    by_cases hp : D % 2 = 1
    · exact ⟨-1, by omega, by omega, by decide, by decide⟩
    · exact ⟨-2, by omega, by omega, by decide, by decide⟩
  have hlen : 0 < ((cutsE D e).length : Int) := by
    have h4 : (D - e * e) % 4 = 0 := by
      by_cases h4 : (D - e * e) % 4 = 0
      · exact h4
      · exact absurd ((par_iff hM).mpr h4) he1
    have hq := qn_pos he2 h4
    rw [← with_cuts hM]
    unfold withE
    rw [if_neg (fun z => z.elim (fun z => by omega) (fun z => z h4))]
    obtain ⟨m, hm⟩ := Nat.exists_eq_add_of_le (show 1 ≤ (qn D e).toNat by omega)
    have hm1 : midsL (qn D e) 1 = [(qn D e, 1)] := by
      rw [show (1 : Nat) = 0 + 1 from rfl, midsL_succ]
      simp [midsL]
    have hl : lawE e (qn D e, 1) = firsE e (qn D e, 1) := lawE_in hq (by decide) (by omega)
    have hf : ((firsE e (qn D e, 1)).length : Int) = 1 := by
      rw [firsE_len]
      unfold fstN
      simp only [gcd_one]
      show rs 1 _ = 1
      rw [rs, rs]
      have : gcdI 1 e = 1 := by rw [gcdI_comm, gcd_one]
      rw [if_pos this]
      rfl
    rw [hm, midsL_add, List.flatMap_append, hm1, List.length_append]
    simp only [List.flatMap_cons, List.flatMap_nil, List.append_nil, hl]
    omega
  have hle : (cutsR D ((e + rt D).toNat + 1)).length ≤ (cutsL D).length := fm_le (by omega)
  have h2 : cutsR D ((e + rt D).toNat + 1) = cutsR D (e + rt D).toNat ++ cutsE D (((e + rt D).toNat : Int) - rt D) := fm_succ _ _
  rw [h2, List.length_append, h, show (((e + rt D).toNat : Nat) : Int) - rt D = e by omega] at hle
  simp only [List.length_nil] at hle
  omega
end Kx

set_option Elab.async false
set_option linter.all false
set_option maxRecDepth 100000
set_option maxHeartbeats 4000000
set_option exponentiation.threshold 4000
namespace Kx
open PySem PySem.Spec PyProof.Rows L2
/-! promises and loops -/
def QList (L : List Q4) (H : Hp) (Q : VK) : Prop := ∀ (p : Addr) (ls : List Addr) (H' : Hp), H p = none → Same H H' → H' p = some (.lst (ls.map V.ref)) → QAll H' ls L → Q (.ref p) H'
def spGathered : Sp := fun vs H Q _ => ∃ D : Int, vs = [.int D] ∧ Meas D ∧ D < 100000 ∧ (cutsL D).length ≤ 5000 ∧ QList (cutsL D) H Q
def spAllCut : Sp := fun vs H Q _ => ∃ D : Int, vs = [.int D] ∧ Meas D ∧ D < 100000 ∧ (cutsL D).length ≤ 5000 ∧ QList (srtQ (cutsL D)) H Q
def spCuttings : Sp := fun vs H Q _ => ∃ D : Int, vs = [.int D] ∧ Meas D ∧ D < 100000 ∧ (cutsL D).length ≤ 2000 ∧ QList (srtQ (cutsL D)) H Q
def spLawWith : Sp := fun vs H Q _ => ∃ D e : Int, vs = [.int D, .int e] ∧ Meas D ∧ D ≤ 3600 ∧ e.natAbs < 2 ^ 100 ∧ QList (withE D e) H Q
def spLawTurns : Sp := fun vs H Q _ => ∃ D : Int, vs = [.int D] ∧ D ≤ 3600 ∧ ∀ p H', H p = none → Same H H' → H' p = some (.lst ((turnsL D 121).map V.int)) → Q (.ref p) H'
def spLawAll : Sp := fun vs H Q _ => ∃ D : Int, vs = [.int D] ∧ Meas D ∧ D ≤ 1501 ∧ QList (srtQ (cutsL D)) H Q
def spDrawnM8 : Sp := fun vs H Q _ => ∃ (g : Addr) (n : Int) (k : Nat), vs = [.ref g, .int n] ∧ GenAt H g k ∧ k ≤ 2 ^ 39 ∧ 1 ≤ n ∧ n ≤ 1000 ∧ ∀ (D : Int) (H' : Hp), Meas D → D ≤ 4 * n + 1 → GenAt H' g (k + 40) → Keep g H H' → Q (.int D) H'
def spMR8 : Sp := fun vs H Q _ => ∃ D : Int, vs = [.int D] ∧ Meas D ∧ D ≤ 1501 ∧ ∀ H', Same H H' → Q (.bl true) H'
def lawEk (e : Int) (p : Int × Int) (k : Nat) : List Q4 := ((List.range k).filter fun a : Nat => CutOk (a : Int) p.1 p.2 e).map fun a : Nat => ((a : Int), p.1, p.2, e)
theorem lawEk_succ (e : Int) (p : Int × Int) (k : Nat) : lawEk e p (k + 1) = lawEk e p k ++ (if CutOk (k : Int) p.1 p.2 e = true then [((k : Int), p.1, p.2, e)] else []) := by
  unfold lawEk
  rw [List.range_succ, List.filter_append, List.map_append]
  congr 1
  by_cases h : CutOk (k : Int) p.1 p.2 e = true
  · rw [if_pos h, List.filter_cons, if_pos h]; rfl
  · rw [if_neg h, List.filter_cons, if_neg h]; rfl
theorem lawEk_le (e : Int) (p : Int × Int) (k : Nat) : (lawEk e p k).length ≤ k := by
  unfold lawEk
  rw [List.length_map]
  have := List.length_filter_le (fun a : Nat => CutOk (a : Int) p.1 p.2 e) (List.range k)
  rwa [List.length_range] at this
theorem gcd_le_r {b c : Int} (hc : 1 ≤ c) : (gcdI b c).toNat ≤ c.toNat := by
  have := gcdI_le (a := b) (b := c) (by omega)
  omega
theorem flat_le {n e : Int} {i : Nat} (h : i ≤ 1000) : ((midsL n i).flatMap (lawE e)).length ≤ 1000 * i := by
  induction i with
  | zero => exact Nat.le_refl _
  | succ i ih =>
    rw [midsL_succ, List.flatMap_append, List.length_append]
    have h1 := ih (by omega)
    have h2 : ((if n % ((i : Int) + 1) = 0 then [(n / ((i : Int) + 1), (i : Int) + 1)] else []).flatMap (lawE e)).length ≤ 1000 := by
      split
      · simp only [List.flatMap_cons, List.flatMap_nil, List.append_nil]
        have a := lawEk_le e (n / ((i : Int) + 1), (i : Int) + 1) (gcdI (n / ((i : Int) + 1)) ((i : Int) + 1)).toNat
        have b := gcd_le_r (b := n / ((i : Int) + 1)) (c := (i : Int) + 1) (by omega)
        have c : lawE e (n / ((i : Int) + 1), (i : Int) + 1) = lawEk e (n / ((i : Int) + 1), (i : Int) + 1) (gcdI (n / ((i : Int) + 1)) ((i : Int) + 1)).toNat := rfl
        rw [c]
        omega
      · exact Nat.zero_le _
    omega
def InvW1 (D e : Int) (pf : Addr) (H : Hp) : Nat → SV → Hp → Prop := fun i σ H2 => ∃ t4 t5 t6 : Option V, σ = [some (.int D), some (.int e), some (.ref pf), some (.int (D - e * e)), t4, t5, t6] ∧ InvQs H pf (fun i => (midsL (qn D e) i).flatMap (lawE e)) i H2
def InvW2 (D e b c : Int) (pf : Addr) (i : Nat) (H : Hp) : Nat → SV → Hp → Prop := fun j σ H2 => ∃ t6 : Option V, σ = [some (.int D), some (.int e), some (.ref pf), some (.int (D - e * e)), some (.int c), some (.int b), t6] ∧ InvQs H pf (fun j => (midsL (qn D e) i).flatMap (lawE e) ++ lawEk e (b, c) j) j H2
def InvTu (D : Int) (H : Hp) (Dd : Addr) : Nat → Hp → Prop := fun i H2 => Same H H2 ∧ H2 Dd = some (.lst ((turnsL D i).map V.int))
def InvA8 (D : Int) (H : Hp) : Nat → SV → Hp → Prop := fun i σ H2 => ∃ (p : Addr) (ls : List Addr) (t2 : Option V), σ = [some (.int D), some (.ref p), t2] ∧ Same H H2 ∧ H2 p = some (.lst (ls.map V.ref)) ∧ QAll H2 ls (((turnsL D 121).take i).flatMap (withE D))
theorem wlen {D : Int} {i : Nat} (hM : Meas D) (hD : D ≤ 1501) : (((turnsL D 121).take i).flatMap (withE D)).length ≤ 1500 := by
  have h1 := take_le (turnsL D 121) (withE D) i
  rw [all_cuts hM (by omega)] at h1
  have := cuts_few hM hD
  omega
theorem srtQ_len (l : List Q4) : (srtQ l).length = l.length := (srtQ_perm l).length_eq
theorem cutsE_ok {D e : Int} (hM : Meas D) (hD : D < 100000) {q : Q4} (h : q ∈ cutsE D e) : okQ q = true ∧ q.2.2.2 = e ∧ e * e < D ∧ q.2.1 * q.2.2.1 = qn D e ∧ measC q = D ∧ q.2.1 < 100000 ∧ q.2.2.1 < 100000 := by
  rw [← with_cuts hM] at h
  unfold withE at h
  by_cases hc : D - e * e ≤ 0 ∨ ¬ (D - e * e) % 4 = 0
  · rw [if_pos hc] at h
    cases h
  · rw [if_neg hc] at h
    have h4 : (D - e * e) % 4 = 0 := by
      by_cases h4 : (D - e * e) % 4 = 0
      · exact h4
      · exact absurd (.inr h4) hc
    have he : e * e < D := by
      by_cases he : e * e < D
      · exact he
      · exact absurd (.inl (by omega)) hc
    obtain ⟨p, hp, hq⟩ := List.mem_flatMap.mp h
    obtain ⟨p1, p2, p3, p4⟩ := midsL_mem hp
    obtain ⟨b, c⟩ := p
    unfold lawE at hq
    obtain ⟨a, ha, rfl⟩ := List.mem_map.mp hq
    obtain ⟨ha1, ha2⟩ := List.mem_filter.mp ha
    have hqn := qn_pos he h4
    have hq4 : 4 * qn D e = D - e * e := by unfold qn; omega
    simp only at p1 p2 p3 p4 ha2 ⊢
    have hk := Int.ediv_mul_cancel_of_emod_eq_zero p3
    rw [← p4] at hk
    have hb : b ≤ qn D e := by
      rw [p4]
      exact Int.ediv_le_self _ (by omega)
    have hee := sq_nonneg' e
    refine ⟨ha2, trivial, he, hk, ?_, by omega, by omega⟩
    unfold measC
    simp only
    rw [Int.mul_assoc, hk]
    omega
theorem cuts_mem {D : Int} {q : Q4} (h : q ∈ srtQ (cutsL D)) : ∃ e, q ∈ cutsE D e := by
  have h1 := (srtQ_perm _).mem_iff.mp h
  unfold cutsL cutsR fm at h1
  obtain ⟨i, hi, h2⟩ := List.mem_flatMap.mp h1
  exact ⟨_, h2⟩
theorem cut_sz {D : Int} (hM : Meas D) (hD : D < 100000) {q : Q4} (h : q ∈ srtQ (cutsL D)) : Sz4 700 q := by
  obtain ⟨e, he⟩ := cuts_mem h
  obtain ⟨h1, h2, h3, h4, h5, h6, h7⟩ := cutsE_ok hM hD he
  obtain ⟨o1, o2, o3, o4, o5, o6⟩ := okQ_get h1
  have := small_e hD h3
  have g := gcdI_le (a := q.2.1) (b := q.2.2.1) (by omega)
  have big : (100000 : Nat) < 2 ^ 700 := by decide
  have lt : ∀ {n : Nat}, n < 100000 → n < 2 ^ 700 := fun h => Nat.lt_trans h big
  exact ⟨lt (by omega), lt (by omega), lt (by omega), by rw [h2]; exact lt (by omega)⟩
end Kx
namespace Kx
open PySem PySem.Spec PyProof.Rows L2
def spFirstsN : Sp := fun vs H Q _ => ∃ b c e : Int, vs = [.int b, .int c, .int e] ∧ 1 ≤ b ∧ 1 ≤ c ∧ c < 100000 ∧ ∀ p H', H p = none → Same H H' → H' p = some (.lst ((firstsL (gcdI b c) e (gcdI b c).toNat).map V.int)) → Q (.ref p) H'
def spMiddlesN : Sp := fun vs H Q _ => ∃ D e : Int, vs = [.int D, .int e] ∧ Meas D ∧ D < 100000 ∧ e.natAbs < 2 ^ 100 ∧ ∀ (p : Addr) (ls : List Addr) (H' : Hp), H p = none → Same H H' → H' p = some (.lst (ls.map V.ref)) → PrAll H' ls (midsD D e) → Q (.ref p) H'
/-- a list at Dd that grows while all else stays -/
structure Grow (h H0 : Hp) (Dd : Addr) (L : List Q4) (H2 : Hp) : Prop where
  kp : Keep Dd H0 H2
  iv : InvQs h Dd (fun _ => L) 0 H2
theorem Grow.push {h H0 H2 H3 : Hp} {Dd p : Addr} {L : List Q4} {q : Q4} (z : Grow h H0 Dd L H2) (hD : h Dd = none) (s : Same H2 H3) (e : H3 p = some (.tup (cutV4 q))) (hl : L.length < 1000000) :
    ∃ acc, H3 Dd = some (.lst acc) ∧ acc.length < sizeLine ∧ Grow h H0 Dd (L ++ [q]) (L2.upd H3 Dd (.lst (acc ++ [.ref p]))) := by
  obtain ⟨s2, ls, eD, hQ⟩ := z.iv
  have w : InvQs h Dd (fun i => if i = 0 then L else L ++ [q]) 0 H2 := ⟨s2, ls, eD, hQ⟩
  obtain ⟨acc, h1, h2, s4, ls4, e4, q4⟩ := InvQs.push w hD s e (q := q) (by simp) (Nat.lt_of_lt_of_le (by simpa using hl) (Nat.le_of_ble_eq_true rfl : 1000000 ≤ sizeLine))
  refine ⟨acc, h1, h2, fun b o hb eb => ?_, s4, ls4, e4, by simpa using q4⟩
  rw [upd_ne hb]
  exact s _ _ (z.kp b o hb eb)
theorem Grow.same {h H0 H2 H3 : Hp} {Dd : Addr} {L : List Q4} (z : Grow h H0 Dd L H2) (s : Same H2 H3) : Grow h H0 Dd L H3 := by
  obtain ⟨s2, ls, eD, hQ⟩ := z.iv
  exact ⟨z.kp.trans (Keep.of s), s2.trans s, ls, s _ _ eD, hQ.same s⟩
/-- the same, told from another heap on -/
theorem Grow.from {h H0 H2 : Hp} {Dd : Addr} {L : List Q4} (z : Grow h H0 Dd L H2) : Grow h H2 Dd L H2 := ⟨Keep.refl _ _, z.iv⟩
theorem Grow.then {h H0 H1 H2 : Hp} {Dd : Addr} {L L2 : List Q4} (z : Grow h H0 Dd L H1) (w : Grow h H1 Dd L2 H2) : Grow h H0 Dd L2 H2 := ⟨z.kp.trans w.kp, w.iv⟩
theorem Grow.at {h H0 H2 : Hp} {Dd : Addr} {L : List Q4} (z : Grow h H0 Dd L H2) : ∃ ls : List Addr, H2 Dd = some (.lst (ls.map V.ref)) ∧ QAll H2 ls L := z.iv.2
theorem Grow.start {h : Hp} {Dd : Addr} (hD : h Dd = none) : Grow h h Dd [] (L2.upd h Dd (.lst [])) := ⟨Keep.of (Same.upd hD), Same.upd hD, [], upd_same, .nil⟩
theorem Grow.ne {h H0 H2 : Hp} {Dd q : Addr} {L : List Q4} (z : Grow h H0 Dd L H2) (hq : H2 q = none) : q ≠ Dd := fun e => by
  obtain ⟨ls, eD, _⟩ := z.at
  rw [← e, hq] at eD
  cases eD
end Kx
namespace Kx
open PySem PySem.Spec PyProof.Rows L2
def InvL08 (a pm : Addr) (H : Hp) : Nat → SV → Hp → Prop := fun i σ H2 => ∃ (t2 t3 : Option V) (ms : List Int), σ = [some (.ref a), some (.ref pm), t2, t3, none] ∧ Same H H2 ∧ H2 pm = some (.lst (ms.map V.int)) ∧ ms.length = i ∧ ∀ D ∈ ms, Meas D ∧ D ≤ 1501
end Kx

set_option Elab.async false
set_option linter.all false
set_option maxRecDepth 100000
set_option maxHeartbeats 4000000
set_option exponentiation.threshold 4000
/-! The law's own numbers. -/
namespace Kx
open PySem PySem.Spec PyProof.Rows L2
def chkG (N : Nat) : Nat → Nat → Bool
  | 0, a => Nat.gcd (a + 1) N == 1
  | d + 1, a => chkG N d a && chkG N d (a + 2 ^ d)
theorem chkG_get {N : Nat} : ∀ {d a i : Nat}, chkG N d a = true → i < 2 ^ d → Nat.gcd (a + i + 1) N = 1
  | 0, a, i, h, hi => by
    obtain rfl : i = 0 := by omega
    unfold chkG at h
    exact eq_of_beq h
  | d + 1, a, i, h, hi => by
    unfold chkG at h
    rw [Bool.and_eq_true] at h
    rw [Nat.pow_succ] at hi
    by_cases c : i < 2 ^ d
    · exact chkG_get h.1 c
    · have := chkG_get (i := i - 2 ^ d) h.2 (by omega)
      rwa [show a + 2 ^ d + (i - 2 ^ d) + 1 = a + i + 1 by omega] at this
theorem chk_far : chkG 25005017 13 0 = true := by decide +kernel
theorem hsz_far : hsz 100020069 = 10001 := by decide +kernel
theorem far_all : stL 100020069 1 5000 = (List.range 5000).map fun i : Nat => 2 * (i : Int) - 10001 := by
  unfold stL
  rw [hsz_far]
  refine List.filter_eq_self.mpr fun f hf => ?_
  obtain ⟨i, hi, rfl⟩ := List.mem_map.mp hf
  have hi2 := List.mem_range.mp hi
  unfold hstB qn
  refine decide_eq_true ?_
  rw [show (1 + (2 * (i : Int) - 10001)) / 2 = -(((4999 - i : Nat) : Int) + 1) by omega, gcdI_negL, show ((100020069 : Int) - 1 * 1) / 4 = 25005017 by decide]
  have := chkG_get (a := 0) (i := 4999 - i) chk_far (show 4999 - i < 2 ^ 13 by omega)
  unfold gcdI
  rw [show (((4999 - i : Nat) : Int) + 1).natAbs = 0 + (4999 - i) + 1 by omega, show (25005017 : Int).natAbs = 25005017 from rfl, this]
  rfl
theorem heart_lit {H : Hp} {p : Addr} {b e D : Int} (h : H p = some (.tup [.int 0, .int b, .int 1, .int e])) (hb : (D - e * e) / 4 = b) (hM : Meas D) (hD : D < 2 ^ 120) (hp : e % 2 = D % 2) (h1 : -hsz D ≤ e) (h2 : e ≤ hsz D - 2) : HeartAt H p D e := by
  subst hb
  exact ⟨h, hM, hD, hp, h1, h2⟩
end Kx

set_option Elab.async false
set_option linter.all false
set_option maxRecDepth 100000
set_option maxHeartbeats 4000000
set_option exponentiation.threshold 4000
/-! Deeds: where they lead. -/
namespace Kx
open PySem
theorem bez_nat (m : Nat) : ∀ (a b : Int), 0 ≤ a → 0 ≤ b → b.toNat = m → ∃ s t : Int, s * a + t * b = gcdI a b := by
  induction m using Nat.strongRecOn with
  | ind m ih =>
    intro a b ha hb hm
    by_cases h : b = 0
    · subst h
      exact ⟨1, 0, by rw [gcdI_zero ha]; omega⟩
    · have h1 := Int.emod_nonneg a h
      have h2 := Int.emod_lt_of_pos a (show 0 < b by omega)
      obtain ⟨s, t, e⟩ := ih (a % b).toNat (by omega) b (a % b) hb h1 rfl
      rw [gcdI_step ha (by omega)] at e
      refine ⟨t, s - t * (a / b), ?_⟩
      rw [← e]
      have h3 := Int.emod_def a b
      rw [h3]
      grind
theorem bez {a b : Int} (ha : 0 ≤ a) (hb : 0 ≤ b) : ∃ s t : Int, s * a + t * b = gcdI a b := bez_nat _ a b ha hb rfl
def wD (q : Q4) (n : Int) : Int := q.2.1 - n * q.2.2.2 - n * n * q.2.2.1
def shareQ (q : Q4) : Int := q.2.2.1 / gcdI q.2.1 q.2.2.1
def DeedOk (q : Q4) (p n : Int) : Bool := decide (1 ≤ n) && (decide (0 < wD q n) && (decide (0 ≤ p) && (decide (p < n * shareQ q) && decide (gcdI p n = 1))))
theorem deed_get {q : Q4} {p n : Int} (h : DeedOk q p n = true) : 1 ≤ n ∧ 0 < wD q n ∧ 0 ≤ p ∧ p < n * shareQ q ∧ gcdI p n = 1 := by
  unfold DeedOk at h
  simp only [Bool.and_eq_true, decide_eq_true_eq] at h
  exact h
def colI (q : Q4) (p n : Int) : Int := p * q.2.1 + n * q.1
def colJ (q : Q4) (n : Int) : Int := n * q.2.2.1
def colK (q : Q4) (n x z : Int) : Int := x * q.2.1 + z * q.1 + q.2.2.2 + n * q.2.2.1
def colL (q : Q4) (z : Int) : Int := z * q.2.2.1
def c1Q (q : Q4) (p n : Int) : Int := gcdI (colI q p n) (colJ q n)
def b1Q (q : Q4) (p n : Int) : Int := q.2.2.1 * wD q n / c1Q q p n
/-- the cutting to which a deed leads -/
structure Led (q : Q4) (p n : Int) (r : Q4) : Prop where
  e1 : r.2.2.2 = -q.2.2.2 - 2 * n * q.2.2.1
  c1 : r.2.2.1 = c1Q q p n
  b1 : r.2.1 = b1Q q p n
  a1 : ∃ x z s t : Int, p * z - n * x = 1 ∧ s * colI q p n + t * colJ q n = c1Q q p n ∧ r.1 = (-(s * colK q n x z + t * colL q z)) % gcdI (b1Q q p n) (c1Q q p n)
theorem det_eq {q : Q4} {p n x z : Int} (h : p * z - n * x = 1) : colI q p n * colL q z - colJ q n * colK q n x z = q.2.2.1 * wD q n := by
  unfold colI colJ colK colL wD
  have e : p * z = 1 + n * x := by omega
  have : (p * q.2.1 + n * q.1) * (z * q.2.2.1) - n * q.2.2.1 * (x * q.2.1 + z * q.1 + q.2.2.2 + n * q.2.2.1) = q.2.2.1 * (q.2.1 * (p * z) - q.2.1 * (n * x) - n * q.2.2.2 - n * n * q.2.2.1) := by grind
  rw [this, e]
  grind
theorem colJ_pos {q : Q4} {n : Int} (hq : okQ q = true) (hn : 1 ≤ n) : 1 ≤ colJ q n := by
  obtain ⟨h1, h2, _⟩ := okQ_get hq
  unfold colJ
  have := Int.mul_le_mul hn h2 (by omega) (by omega)
  omega
theorem colI_nn {q : Q4} {p n : Int} (hq : okQ q = true) (hp : 0 ≤ p) (hn : 1 ≤ n) : 0 ≤ colI q p n := by
  obtain ⟨h1, h2, h3, h4, _⟩ := okQ_get hq
  unfold colI
  have := Int.mul_nonneg hp (show 0 ≤ q.2.1 by omega)
  have := Int.mul_nonneg (show 0 ≤ n by omega) h4
  omega
theorem c1_pos {q : Q4} {p n : Int} (hq : okQ q = true) (hn : 1 ≤ n) : 1 ≤ c1Q q p n := by
  have := colJ_pos hq hn
  have := gcdI_pos (a := colI q p n) (b := colJ q n) (by omega)
  unfold c1Q
  omega
theorem c1_dvd {q : Q4} {p n : Int} (hd : DeedOk q p n = true) : c1Q q p n ∣ q.2.2.1 * wD q n := by
  obtain ⟨h1, h2, h3, h4, h5⟩ := deed_get hd
  -- some x, z
  obtain ⟨z, y, hzy⟩ := bez h3 (show 0 ≤ n by omega)
  rw [h5] at hzy
  rw [← det_eq (x := -y) (z := z) (by rw [Int.mul_neg, Int.mul_comm p z, Int.mul_comm n y]; omega)]
  exact Int.dvd_sub (Int.dvd_trans (gcdI_dvdl _ _) (Int.dvd_mul_right _ _)) (Int.dvd_trans (gcdI_dvdr _ _) (Int.dvd_mul_right _ _))
theorem b1_mul {q : Q4} {p n : Int} (hd : DeedOk q p n = true) : b1Q q p n * c1Q q p n = q.2.2.1 * wD q n := Int.ediv_mul_cancel (c1_dvd hd)
theorem gcd_dvd_mod {g m x y : Int} (h : x - y = g * m) : x % g = y % g := by
  have : x = y + g * m := by omega
  rw [this, Int.add_mul_emod_self_left]
theorem mod_of_dvd {g x y : Int} (h : g ∣ x - y) : x % g = y % g := by
  obtain ⟨m, hm⟩ := h
  exact gcd_dvd_mod hm
/-- the rest does not hang on what was chosen -/
theorem led_rest {q : Q4} {p n x z s t x' z' s' t' : Int} (hq : okQ q = true) (hd : DeedOk q p n = true) (h1 : p * z - n * x = 1) (h2 : s * colI q p n + t * colJ q n = c1Q q p n) (h3 : p * z' - n * x' = 1) (h4 : s' * colI q p n + t' * colJ q n = c1Q q p n) :
    (-(s' * colK q n x' z' + t' * colL q z')) % gcdI (b1Q q p n) (c1Q q p n) = (-(s * colK q n x z + t * colL q z)) % gcdI (b1Q q p n) (c1Q q p n) := by
  have hn := (deed_get hd).1
  have hc := c1_pos (p := p) hq hn
  obtain ⟨i0, hi⟩ := gcdI_dvdl (colI q p n) (colJ q n)
  obtain ⟨j0, hj⟩ := gcdI_dvdr (colI q p n) (colJ q n)
  have hcc : gcdI (colI q p n) (colJ q n) = c1Q q p n := rfl
  rw [hcc] at hi hj
  have hdet := det_eq (q := q) h1
  rw [← b1_mul hd] at hdet
  have hb1 : i0 * colL q z - j0 * colK q n x z = b1Q q p n := by
    have e : c1Q q p n * (i0 * colL q z - j0 * colK q n x z) = c1Q q p n * b1Q q p n := by
      have : c1Q q p n * (i0 * colL q z - j0 * colK q n x z) = (c1Q q p n * i0) * colL q z - (c1Q q p n * j0) * colK q n x z := by grind
      rw [this, ← hi, ← hj, hdet, Int.mul_comm]
    exact Int.eq_of_mul_eq_mul_left (by omega) e
  have e1 : s * i0 + t * j0 = 1 := by
    have e : c1Q q p n * (s * i0 + t * j0) = c1Q q p n * 1 := by
      have : c1Q q p n * (s * i0 + t * j0) = s * (c1Q q p n * i0) + t * (c1Q q p n * j0) := by grind
      rw [this, ← hi, ← hj, h2]; omega
    exact Int.eq_of_mul_eq_mul_left (by omega) e
  have e2 : s' * i0 + t' * j0 = 1 := by
    have e : c1Q q p n * (s' * i0 + t' * j0) = c1Q q p n * 1 := by
      have : c1Q q p n * (s' * i0 + t' * j0) = s' * (c1Q q p n * i0) + t' * (c1Q q p n * j0) := by grind
      rw [this, ← hi, ← hj, h4]; omega
    exact Int.eq_of_mul_eq_mul_left (by omega) e
  have hk : colK q n x' z' = colK q n x z + (x' * z - z' * x) * colI q p n := by
    have a1 : p * (x' * z - z' * x) = x' - x := by
      have : p * (x' * z - z' * x) = x' * (p * z) - x * (p * z') := by grind
      rw [this, show p * z = 1 + n * x by omega, show p * z' = 1 + n * x' by omega]
      grind
    have a2 : n * (x' * z - z' * x) = z' - z := by
      have : n * (x' * z - z' * x) = z * (n * x') - z' * (n * x) := by grind
      rw [this, show n * x = p * z - 1 by omega, show n * x' = p * z' - 1 by omega]
      grind
    unfold colK colI
    have : (x' * z - z' * x) * (p * q.2.1 + n * q.1) = (p * (x' * z - z' * x)) * q.2.1 + (n * (x' * z - z' * x)) * q.1 := by grind
    rw [this, a1, a2]
    grind
  have hl : colL q z' = colL q z + (x' * z - z' * x) * colJ q n := by
    have a2 : n * (x' * z - z' * x) = z' - z := by
      have : n * (x' * z - z' * x) = z * (n * x') - z' * (n * x) := by grind
      rw [this, show n * x = p * z - 1 by omega, show n * x' = p * z' - 1 by omega]
      grind
    unfold colL colJ
    have : (x' * z - z' * x) * (n * q.2.2.1) = (n * (x' * z - z' * x)) * q.2.2.1 := by grind
    rw [this, a2]
    grind
  refine mod_of_dvd ?_
  have key : -(s' * colK q n x' z' + t' * colL q z') - -(s * colK q n x z + t * colL q z) = b1Q q p n * (s' * t - t' * s) - c1Q q p n * (x' * z - z' * x) := by
    have f1 : s' * colK q n x' z' + t' * colL q z' = s' * colK q n x z + t' * colL q z + (x' * z - z' * x) * c1Q q p n := by
      rw [hk, hl, ← h4]
      grind
    have f2 : s' - s = j0 * (s' * t - t' * s) := by
      have : j0 * (s' * t - t' * s) = s' * (t * j0) - s * (t' * j0) := by grind
      rw [this, show t * j0 = 1 - s * i0 by omega, show t' * j0 = 1 - s' * i0 by omega]
      grind
    have f3 : t' - t = -(i0 * (s' * t - t' * s)) := by
      have : i0 * (s' * t - t' * s) = t * (s' * i0) - t' * (s * i0) := by grind
      rw [this, show s * i0 = 1 - t * j0 by omega, show s' * i0 = 1 - t' * j0 by omega]
      grind
    have f4 : s' = s + j0 * (s' * t - t' * s) := by omega
    have f5 : t' = t - i0 * (s' * t - t' * s) := by omega
    generalize s' * t - t' * s = u at *
    rw [f1, ← hb1]
    rw [show s' * colK q n x z = (s + j0 * u) * colK q n x z by rw [← f4], show t' * colL q z = (t - i0 * u) * colL q z by rw [← f5]]
    grind
  rw [key]
  exact Int.dvd_sub (Int.dvd_trans (gcdI_dvdl _ _) (Int.dvd_mul_right _ _)) (Int.dvd_trans (gcdI_dvdr _ _) (Int.dvd_mul_right _ _))
theorem led_uniq {q : Q4} {p n : Int} {r r' : Q4} (hq : okQ q = true) (hd : DeedOk q p n = true) (h : Led q p n r) (h' : Led q p n r') : r = r' := by
  obtain ⟨x, z, s, t, z1, z2, z3⟩ := h.a1
  obtain ⟨x', z', s', t', y1, y2, y3⟩ := h'.a1
  have e0 : r.1 = r'.1 := by rw [z3, y3]; exact (led_rest hq hd z1 z2 y1 y2).symm
  exact Prod.ext e0 (Prod.ext (h.b1.trans h'.b1.symm) (Prod.ext (h.c1.trans h'.c1.symm) (h.e1.trans h'.e1.symm)))
end Kx
namespace Kx
open PySem
theorem led_ex {q : Q4} {p n : Int} (hq : okQ q = true) (hd : DeedOk q p n = true) : ∃ r, Led q p n r := by
  obtain ⟨h1, h2, h3, h4, h5⟩ := deed_get hd
  obtain ⟨z, y, hzy⟩ := bez h3 (show 0 ≤ n by omega)
  rw [h5] at hzy
  obtain ⟨s, t, hst⟩ := bez (colI_nn hq h3 h1) (show 0 ≤ colJ q n by have := colJ_pos hq h1; omega)
  exact ⟨(_, b1Q q p n, c1Q q p n, -q.2.2.2 - 2 * n * q.2.2.1), rfl, rfl, rfl, -y, z, s, t, by rw [Int.mul_neg, Int.mul_comm p z, Int.mul_comm n y]; omega, hst, rfl⟩
theorem led_meas {q : Q4} {p n : Int} {r : Q4} (hd : DeedOk q p n = true) (h : Led q p n r) : measC r = measC q := by
  unfold measC
  rw [h.e1, h.c1, h.b1, Int.mul_assoc 4 (b1Q q p n), b1_mul hd]
  unfold wD
  grind
theorem b1_pos {q : Q4} {p n : Int} (hq : okQ q = true) (hd : DeedOk q p n = true) : 1 ≤ b1Q q p n := by
  obtain ⟨h1, h2, h3, h4, h5⟩ := deed_get hd
  obtain ⟨o1, o2, _⟩ := okQ_get hq
  have hc := c1_pos (p := p) hq h1
  have hm := b1_mul hd
  have hw := Int.mul_le_mul o2 h2 (by omega) (by omega)
  by_cases hb : 1 ≤ b1Q q p n
  · exact hb
  · have := Int.mul_le_mul_of_nonneg_right (show b1Q q p n ≤ 0 by omega) (show 0 ≤ c1Q q p n by omega)
    omega
theorem dvd_one_of {d : Int} {q : Q4} (hq : okQ q = true) (h1 : d ∣ q.1) (h2 : d ∣ q.2.1) (h3 : d ∣ q.2.2.1) (h4 : d ∣ q.2.2.2) : d ∣ 1 := by
  obtain ⟨_, _, _, _, _, o6⟩ := okQ_get hq
  rw [← o6]
  unfold gcdI
  have dn : ∀ {x y : Int}, d ∣ x → d ∣ y → d ∣ ((Nat.gcd x.natAbs y.natAbs : Nat) : Int) := fun {x y} hx hy => by
    have a := Int.natAbs_dvd_natAbs.mpr hx
    have b := Int.natAbs_dvd_natAbs.mpr hy
    exact Int.natAbs_dvd.mp (Int.natCast_dvd_natCast.mpr (Nat.dvd_gcd a b))
  exact dn (dn h1 (dn h2 h3)) h4
theorem gcd_dvd4 {a g e d : Int} (hd : d = gcdI (gcdI a g) e) : d ∣ a ∧ d ∣ g ∧ d ∣ e := by
  subst hd
  exact ⟨Int.dvd_trans (gcdI_dvdl _ _) (gcdI_dvdl _ _), Int.dvd_trans (gcdI_dvdl _ _) (gcdI_dvdr _ _), gcdI_dvdr _ _⟩
theorem led_ok {q : Q4} {p n : Int} {r : Q4} (hq : okQ q = true) (hd : DeedOk q p n = true) (h : Led q p n r) : okQ r = true := by
  obtain ⟨h1, h2, h3, h4, h5⟩ := deed_get hd
  obtain ⟨o1, o2, o3, o4, o5, o6⟩ := okQ_get hq
  have hc := c1_pos (p := p) hq h1
  have hb := b1_pos hq hd
  have hm := b1_mul hd
  obtain ⟨x, z, s, t, z1, z2, z3⟩ := h.a1
  have hg := gcdI_pos (a := b1Q q p n) (b := c1Q q p n) (by omega)
  -- c1 + e1 < b1
  have hlt : c1Q q p n + (-q.2.2.2 - 2 * n * q.2.2.1) < b1Q q p n := by
    have hle : c1Q q p n ≤ n * q.2.2.1 := by
      have := gcdI_le (a := colI q p n) (b := colJ q n) (by have := colJ_pos hq h1; omega)
      have hj := colJ_pos hq h1
      unfold c1Q
      unfold colJ at *
      omega
    by_cases hlt : c1Q q p n + (-q.2.2.2 - 2 * n * q.2.2.1) < b1Q q p n
    · exact hlt
    · exfalso
      have m1 := Int.mul_le_mul_of_nonneg_right (show b1Q q p n ≤ c1Q q p n + (-q.2.2.2 - 2 * n * q.2.2.1) by omega) (show 0 ≤ c1Q q p n by omega)
      rw [hm] at m1
      unfold wD at m1 h2
      generalize c1Q q p n = u at *
      -- u (n c - u) ≥ 0 and c b > 0
      have m2 := Int.mul_nonneg (show 0 ≤ u by omega) (show 0 ≤ n * q.2.2.1 - u by omega)
      have m3 := Int.mul_nonneg (show 0 ≤ n * q.2.2.1 - u by omega) (show 0 ≤ q.2.1 - n * q.2.2.2 - n * n * q.2.2.1 by omega)
      have m4 := Int.mul_le_mul o2 o1 (by omega) (by omega)
      have m5 : n * q.2.2.1 * (n * q.2.2.1 * u) = n * q.2.2.1 * (n * q.2.2.1 * u) := rfl
      -- n times the inequality
      have m6 := Int.mul_le_mul_of_nonneg_left m1 (show 0 ≤ n by omega)
      have m7 := Int.mul_nonneg (show 0 ≤ u by omega) (show 0 ≤ q.2.1 by omega)
      have m8 := Int.mul_nonneg m2 (show 0 ≤ n by omega)
      have e1 : n * ((u + (-q.2.2.2 - 2 * n * q.2.2.1)) * u) = n * (q.2.2.1 * (q.2.1 - n * q.2.2.2 - n * n * q.2.2.1)) - ((n * q.2.2.1 - u) * (q.2.1 - n * q.2.2.2 - n * n * q.2.2.1)) - u * q.2.1 - u * (n * q.2.2.1 - u) * n := by grind
      have m9 : 0 < u * q.2.1 := by
        have := Int.mul_le_mul (show 1 ≤ u by omega) o1 (by omega) (by omega)
        omega
      omega
  have ha := Int.emod_nonneg (-(s * colK q n x z + t * colL q z)) (show gcdI (b1Q q p n) (c1Q q p n) ≠ 0 by omega)
  have ha2 := Int.emod_lt_of_pos (-(s * colK q n x z + t * colL q z)) hg
  unfold okQ CutOk
  rw [h.e1, h.c1, h.b1]
  simp only [Bool.and_eq_true, decide_eq_true_eq]
  refine ⟨hb, hc, hlt, by rw [z3]; exact ha, by rw [z3]; exact ha2, ?_⟩
  -- no divisor
  obtain ⟨d, hd2⟩ : ∃ d : Int, d = gcdI (gcdI r.1 (gcdI (b1Q q p n) (c1Q q p n))) (-q.2.2.2 - 2 * n * q.2.2.1) := ⟨_, rfl⟩
  rw [← hd2]
  obtain ⟨d1, d2, d3⟩ := gcd_dvd4 hd2
  have db : d ∣ b1Q q p n := Int.dvd_trans d2 (gcdI_dvdl _ _)
  have dc : d ∣ c1Q q p n := Int.dvd_trans d2 (gcdI_dvdr _ _)
  have di : d ∣ colI q p n := Int.dvd_trans dc (gcdI_dvdl _ _)
  have dj : d ∣ colJ q n := Int.dvd_trans dc (gcdI_dvdr _ _)
  have dst : d ∣ s * colK q n x z + t * colL q z := by
    have e : s * colK q n x z + t * colL q z = -(-(s * colK q n x z + t * colL q z)) := by omega
    rw [e]
    refine Int.dvd_neg.mpr ?_
    have := Int.mul_ediv_add_emod (-(s * colK q n x z + t * colL q z)) (gcdI (b1Q q p n) (c1Q q p n))
    rw [← z3] at this
    rw [← this]
    exact Int.dvd_add (Int.dvd_trans d2 (Int.dvd_mul_right _ _)) d1
  obtain ⟨i0, hi⟩ := gcdI_dvdl (colI q p n) (colJ q n)
  obtain ⟨j0, hj⟩ := gcdI_dvdr (colI q p n) (colJ q n)
  have hcc : gcdI (colI q p n) (colJ q n) = c1Q q p n := rfl
  rw [hcc] at hi hj
  have hdet := det_eq (q := q) z1
  rw [← hm] at hdet
  have hb1 : i0 * colL q z - j0 * colK q n x z = b1Q q p n := by
    have e : c1Q q p n * (i0 * colL q z - j0 * colK q n x z) = c1Q q p n * b1Q q p n := by
      have : c1Q q p n * (i0 * colL q z - j0 * colK q n x z) = (c1Q q p n * i0) * colL q z - (c1Q q p n * j0) * colK q n x z := by grind
      rw [this, ← hi, ← hj, hdet, Int.mul_comm]
    exact Int.eq_of_mul_eq_mul_left (by omega) e
  have e1 : s * i0 + t * j0 = 1 := by
    have e : c1Q q p n * (s * i0 + t * j0) = c1Q q p n * 1 := by
      have : c1Q q p n * (s * i0 + t * j0) = s * (c1Q q p n * i0) + t * (c1Q q p n * j0) := by grind
      rw [this, ← hi, ← hj, z2]; omega
    exact Int.eq_of_mul_eq_mul_left (by omega) e
  have dk : d ∣ colK q n x z := by
    have e : colK q n x z = i0 * (s * colK q n x z + t * colL q z) - t * b1Q q p n := by
      have : i0 * (s * colK q n x z + t * colL q z) - t * b1Q q p n = (s * i0) * colK q n x z + t * j0 * colK q n x z := by rw [← hb1]; grind
      rw [this, show s * i0 = 1 - t * j0 by omega]
      grind
    rw [e]
    exact Int.dvd_sub (Int.dvd_trans dst (Int.dvd_mul_left _ _)) (Int.dvd_trans db (Int.dvd_mul_left _ _))
  have dl : d ∣ colL q z := by
    have e : colL q z = j0 * (s * colK q n x z + t * colL q z) + s * b1Q q p n := by
      have : j0 * (s * colK q n x z + t * colL q z) + s * b1Q q p n = (t * j0) * colL q z + s * i0 * colL q z := by rw [← hb1]; grind
      rw [this, show t * j0 = 1 - s * i0 by omega]
      grind
    rw [e]
    exact Int.dvd_add (Int.dvd_trans dst (Int.dvd_mul_left _ _)) (Int.dvd_trans db (Int.dvd_mul_left _ _))
  have dC : d ∣ q.2.2.1 := by
    have e : q.2.2.1 = p * colL q z - x * colJ q n := by
      unfold colL colJ
      have : p * (z * q.2.2.1) - x * (n * q.2.2.1) = (p * z - n * x) * q.2.2.1 := by grind
      rw [this, z1, Int.one_mul]
    rw [e]
    exact Int.dvd_sub (Int.dvd_trans dl (Int.dvd_mul_left _ _)) (Int.dvd_trans dj (Int.dvd_mul_left _ _))
  have dE : d ∣ q.2.2.2 := by
    have e : q.2.2.2 = -(-q.2.2.2 - 2 * n * q.2.2.1) - 2 * n * q.2.2.1 := by omega
    rw [e]
    exact Int.dvd_sub (Int.dvd_neg.mpr d3) (Int.dvd_trans dC (Int.dvd_mul_left _ _))
  have dK : d ∣ x * q.2.1 + z * q.1 := by
    have e : x * q.2.1 + z * q.1 = colK q n x z - q.2.2.2 - n * q.2.2.1 := by unfold colK; omega
    rw [e]
    exact Int.dvd_sub (Int.dvd_sub dk dE) (Int.dvd_trans dC (Int.dvd_mul_left _ _))
  have dI : d ∣ p * q.2.1 + n * q.1 := di
  have dB : d ∣ q.2.1 := by
    have e : q.2.1 = z * (p * q.2.1 + n * q.1) - n * (x * q.2.1 + z * q.1) := by
      have : z * (p * q.2.1 + n * q.1) - n * (x * q.2.1 + z * q.1) = (p * z - n * x) * q.2.1 := by grind
      rw [this, z1, Int.one_mul]
    rw [e]
    exact Int.dvd_sub (Int.dvd_trans dI (Int.dvd_mul_left _ _)) (Int.dvd_trans dK (Int.dvd_mul_left _ _))
  have dA : d ∣ q.1 := by
    have e : q.1 = p * (x * q.2.1 + z * q.1) - x * (p * q.2.1 + n * q.1) := by
      have : p * (x * q.2.1 + z * q.1) - x * (p * q.2.1 + n * q.1) = (p * z - n * x) * q.1 := by grind
      rw [this, z1, Int.one_mul]
    rw [e]
    exact Int.dvd_sub (Int.dvd_trans dK (Int.dvd_mul_left _ _)) (Int.dvd_trans dI (Int.dvd_mul_left _ _))
  have d0 : 0 ≤ d := by rw [hd2]; exact gcdI_nn _ _
  exact Int.eq_one_of_dvd_one d0 (dvd_one_of hq dA dB dC dE)
noncomputable def ledF (q : Q4) (p n : Int) : Q4 := @dite _ (∃ r, Led q p n r) (Classical.propDecidable _) (fun h => h.choose) (fun _ => q)
theorem ledF_led {q : Q4} {p n : Int} (hq : okQ q = true) (hd : DeedOk q p n = true) : Led q p n (ledF q p n) := by
  have h := led_ex hq hd
  unfold ledF
  rw [dif_pos h]
  exact h.choose_spec
theorem ledF_eq {q : Q4} {p n : Int} {r : Q4} (hq : okQ q = true) (hd : DeedOk q p n = true) (h : Led q p n r) : ledF q p n = r := led_uniq hq hd (ledF_led hq hd) h
end Kx

set_option Elab.async false
set_option linter.all false
set_option maxRecDepth 100000
set_option maxHeartbeats 4000000
set_option exponentiation.threshold 4000
/-! Deeds: promises. -/
namespace Kx
open PySem PySem.Spec PyProof.Rows L2
def spBezP : Sp := fun vs H Q _ => ∃ a b : Int, vs = [.int a, .int b] ∧ 0 ≤ a ∧ 1 ≤ b ∧ a < 2 ^ 1000 ∧ b < 2 ^ 1000 ∧ ∀ (p : Addr) (s t : Int) (H' : Hp), H p = none → Same H H' → s * a + t * b = gcdI a b → (s.natAbs : Int) ≤ b → (t.natAbs : Int) ≤ a + 1 → H' p = some (.tup [.int (gcdI a b), .int s, .int t]) → Q (.ref p) H'
def InvBzP (a b : Int) (H : Hp) : SV → Hp → Prop := fun σ H2 => ∃ (x y s s2 t t2 : Int) (t4 : Option V), σ = [some (.int a), some (.int b), some (.int x), some (.int y), some (.int s), some (.int s2), t4] ∧ Same H H2 ∧ 0 ≤ x ∧ 0 ≤ y ∧ x < 2 ^ 1000 ∧ y < 2 ^ 1000 ∧ gcdI x y = gcdI a b ∧ s * a + t * b = x ∧ s2 * a + t2 * b = y ∧ (s.natAbs : Int) ≤ b ∧ (s2.natAbs : Int) ≤ b ∧ (s2.natAbs : Int) * x + (s.natAbs : Int) * y ≤ b
/-- a cutting and a deed of it -/
structure DAt (H : Hp) (pr pt : Addr) (q : Q4) (p n : Int) : Prop where
  cut : CutAt H pr q
  pair : H pt = some (.tup [.int p, .int n])
  ok : DeedOk q p n = true
  sz : Sz4 200 q
  szp : p.natAbs < 2 ^ 200
  szn : n.natAbs < 2 ^ 200
theorem DAt.same {H H' : Hp} {pr pt : Addr} {q : Q4} {p n : Int} (h : DAt H pr pt q p n) (s : Same H H') : DAt H' pr pt q p n := ⟨h.cut.same s, s _ _ h.pair, h.ok, h.sz, h.szp, h.szn⟩
def spSides : Sp := fun vs H Q _ => ∃ (pr pt : Addr) (q : Q4) (p n : Int), vs = [.ref pr, .ref pt] ∧ DAt H pr pt q p n ∧
  ∀ (r : Addr) (x z : Int) (H' : Hp), H r = none → Same H H' → p * z - n * x = 1 → (x.natAbs : Int) ≤ p + 1 → (z.natAbs : Int) ≤ n → H' r = some (.tup [.int (colI q p n), .int (colJ q n), .int (colK q n x z), .int (colL q z)]) → Q (.ref r) H'
def spBehind : Sp := fun vs H Q _ => ∃ (pr pt : Addr) (q : Q4) (p n : Int), vs = [.ref pr, .ref pt] ∧ DAt H pr pt q p n ∧ ∀ (r : Addr) (H' : Hp), H r = none → Same H H' → H' r = some (.tup (cutV4 (ledF q p n))) → Q (.ref r) H'
def deedB (H : Hp) (q : Q4) (x : V) : Bool := wholesB H 2 x && (match x with
  | .ref t => match H t with
    | some (.tup [.int p, .int n]) => DeedOk q p n
    | _ => false
  | _ => false)
def spShare : Sp := fun vs H Q _ => ∃ (pr : Addr) (q : Q4), vs = [.ref pr] ∧ H pr = some (.tup (cutV4 q)) ∧ okQ q = true ∧ Sz4 600 q ∧ Q (.int (shareQ q)) H
/-- a value beside a cutting: a pair's second number not too great -/
def PairSz (H : Hp) (x : V) : Prop := ∀ t p n, x = .ref t → H t = some (.tup [.int p, .int n]) → n.natAbs < 2 ^ 600
def spIsDeedOf : Sp := fun vs H Q _ => ∃ (pr : Addr) (q : Q4) (x : V), vs = [.ref pr, x] ∧ CutAt H pr q ∧ Sz4 600 q ∧ OkV H x ∧ PairSz H x ∧ ∀ H', Same H H' → Q (.bl (deedB H q x)) H'
def spCheckDeed0 : Sp := fun vs H Q _ => ∃ (pr pt : Addr) (q : Q4) (p n : Int), vs = [.ref pr, .ref pt] ∧ DAt H pr pt q p n ∧ ∀ H', Same H H' → Q .non H'
theorem deedB2 {H : Hp} {t : Addr} {q : Q4} {p n : Int} (h : H t = some (.tup [.int p, .int n])) : deedB H q (.ref t) = DeedOk q p n := by
  unfold deedB wholesB
  simp only [h, List.length_cons, List.length_nil, List.all_cons, List.all_nil, isIntV, Bool.and_self, Bool.and_true]
  rfl
theorem deedB_not {H : Hp} {q : Q4} {x : V} (h : wholesB H 2 x = false) : deedB H q x = false := by
  unfold deedB
  rw [h, Bool.false_and]
theorem wholes2 {H : Hp} {x : V} (h : wholesB H 2 x = true) : ∃ t p n, x = .ref t ∧ H t = some (.tup [.int p, .int n]) := by
  obtain ⟨a, xs, e, ha, hl, hall⟩ := wholes_get h
  have hl2 : xs.length = 2 := by omega
  match xs, hl2 with
  | [u, v], _ =>
    simp only [List.all_cons, List.all_nil, Bool.and_true, Bool.and_eq_true] at hall
    obtain ⟨i, rfl⟩ := isInt_get hall.1
    obtain ⟨j, rfl⟩ := isInt_get hall.2
    exact ⟨a, i, j, e, ha⟩
theorem pair_okV {H : Hp} {t : Addr} {p n : Int} (h : H t = some (.tup [.int p, .int n])) : OkV H (.ref t) := okV_tup h (fun y hy => by
  simp only [List.mem_cons, List.not_mem_nil, or_false] at hy
  rcases hy with rfl | rfl <;> exact ⟨"int", rfl⟩)
theorem pair_sz {H : Hp} {t : Addr} {p n : Int} (h : H t = some (.tup [.int p, .int n])) (hz : n.natAbs < 2 ^ 600) : PairSz H (.ref t) := fun t' p' n' e h' => by
  cases e
  rw [h] at h'
  cases h'
  exact hz
theorem share_pos {q : Q4} (hq : okQ q = true) : 1 ≤ shareQ q ∧ shareQ q ≤ q.2.2.1 := by
  obtain ⟨o1, o2, _⟩ := okQ_get hq
  have hg := gcdI_pos (a := q.2.1) (b := q.2.2.1) (by omega)
  have hd := Int.ediv_mul_cancel (gcdI_dvdr q.2.1 q.2.2.1)
  unfold shareQ
  refine ⟨?_, Int.ediv_le_self _ (by omega)⟩
  by_cases h : 1 ≤ q.2.2.1 / gcdI q.2.1 q.2.2.1
  · exact h
  · have := Int.mul_le_mul_of_nonneg_right (show q.2.2.1 / gcdI q.2.1 q.2.2.1 ≤ 0 by omega) (show 0 ≤ gcdI q.2.1 q.2.2.1 by omega)
    omega
/-! the law's own -/
def spBeside : Sp := fun vs H Q _ => ∃ p n : Int, vs = [.int p, .int n] ∧ 0 ≤ p ∧ 1 ≤ n ∧ gcdI p n = 1 ∧ p < 2 ^ 200 ∧ n < 2 ^ 200 ∧ ∀ (r : Addr) (x z : Int) (H' : Hp), H r = none → Same H H' → p * z - n * x = 1 → (x.natAbs : Int) ≤ p + n → (z.natAbs : Int) ≤ p + n → H' r = some (.tup [.int x, .int z]) → Q (.ref r) H'
def InvBe (p n : Int) (H : Hp) : SV → Hp → Prop := fun σ H2 => ∃ (u v x z y w : Int) (t8 : Option V), σ = [some (.int p), some (.int n), some (.int u), some (.int v), some (.int x), some (.int z), some (.int y), some (.int w), t8] ∧ Same H H2 ∧ 0 ≤ u ∧ 0 ≤ v ∧ u < 2 ^ 200 ∧ v < 2 ^ 200 ∧ gcdI u v = 1 ∧ z * p - x * n = u ∧ w * p - y * n = v ∧
  (x.natAbs : Int) ≤ p + n ∧ (z.natAbs : Int) ≤ p + n ∧ (y.natAbs : Int) ≤ p + n ∧ (w.natAbs : Int) ≤ p + n ∧ (y.natAbs : Int) * u + (x.natAbs : Int) * v ≤ p + n ∧ (w.natAbs : Int) * u + (z.natAbs : Int) * v ≤ p + n
def spPairs : Sp := fun vs H Q _ => ∃ p n : Int, vs = [.int p, .int n] ∧ 0 ≤ p ∧ 1 ≤ n ∧ gcdI p n = 1 ∧ p < 2 ^ 200 ∧ n < 2 ^ 200 ∧ ∀ (r p1 p2 p3 p4 : Addr) (x z : Int) (H' : Hp), H r = none → Same H H' → p * z - n * x = 1 → (x.natAbs : Int) ≤ p + n → (z.natAbs : Int) ≤ p + n → H' r = some (.lst [.ref p1, .ref p2, .ref p3, .ref p4]) →
  H' p1 = some (.tup [.int x, .int z]) → H' p2 = some (.tup [.int (0 - x), .int (0 - z)]) → H' p3 = some (.tup [.int (0 - x), .int z]) → H' p4 = some (.tup [.int x, .int (0 - z)]) → Q (.ref r) H'
def spColumns : Sp := fun vs H Q _ => ∃ (pr pt : Addr) (q : Q4) (p n : Int), vs = [.ref pr, .ref pt] ∧ DAt H pr pt q p n ∧
  ∀ (r p1 p2 : Addr) (x z : Int) (H' : Hp), H r = none → Same H H' → p * z - n * x = 1 → (x.natAbs : Int) ≤ p + n → (z.natAbs : Int) ≤ p + n → H' r = some (.tup [.ref p1, .ref p2]) → H' p1 = some (.tup [.int (colI q p n), .int (colK q n x z)]) → H' p2 = some (.tup [.int (colJ q n), .int (colL q z)]) → Q (.ref r) H'
def InvLed (q : Q4) (p n x z M : Int) (pr pt : Addr) (H : Hp) : SV → Hp → Prop := fun σ H2 => ∃ (o1 o2 r1 r2 s t s' t' : Int) (po pq : Addr) (t4 : Option V), σ = [some (.ref pr), some (.ref pt), some (.ref po), some (.ref pq), t4, none, none] ∧ Same H H2 ∧ H2 po = some (.tup [.int o1, .int o2]) ∧ H2 pq = some (.tup [.int r1, .int r2]) ∧
  0 ≤ o1 ∧ 0 ≤ r1 ∧ o1 < 2 ^ 600 ∧ r1 < 2 ^ 600 ∧ gcdI o1 r1 = c1Q q p n ∧ o1 = s * colI q p n + t * colJ q n ∧ o2 = s * colK q n x z + t * colL q z ∧ r1 = s' * colI q p n + t' * colJ q n ∧ r2 = s' * colK q n x z + t' * colL q z ∧ (s * t' - t * s' = 1 ∨ s * t' - t * s' = -1) ∧
  (o2.natAbs : Int) ≤ M ∧ (r2.natAbs : Int) ≤ M ∧ (r2.natAbs : Int) * o1 + (o2.natAbs : Int) * r1 ≤ M
end Kx

set_option Elab.async false
set_option linter.all false
set_option maxRecDepth 100000
set_option maxHeartbeats 4000000
set_option exponentiation.threshold 4000
/-! Deeds listed. -/
namespace Kx
open PySem PySem.Spec PyProof.Rows L2
abbrev P2 := Int × Int
/-! ### pairs in order -/
def pairL (q : P2) : List Int := [q.1, q.2]
theorem pairL_inj {x y : P2} (h : pairL x = pairL y) : x = y := by
  unfold pairL at h
  simp only [List.cons.injEq, and_true] at h
  exact Prod.ext h.1 h.2
def ltP (x y : P2) : Bool := HT.lexLt (pairL x) (pairL y)
def insP (q : P2) : List P2 → List P2
  | [] => [q]
  | x :: xs => if ltP x q = true then x :: insP q xs else q :: x :: xs
def srtP : List P2 → List P2
  | [] => []
  | x :: xs => insP x (srtP xs)
theorem insP_perm (q : P2) : ∀ l : List P2, (insP q l).Perm (q :: l)
  | [] => List.Perm.refl _
  | x :: xs => by
    unfold insP
    split
    · exact ((insP_perm q xs).cons x).trans (List.Perm.swap q x xs)
    · exact List.Perm.refl _
theorem srtP_perm : ∀ l : List P2, (srtP l).Perm l
  | [] => List.Perm.refl _
  | x :: xs => by
    unfold srtP
    exact (insP_perm x _).trans ((srtP_perm xs).cons x)
theorem ltP_swo : SrtO.Swo ltP := lex_swo pairL
def leP (x y : P2) : Prop := ltP y x = false
theorem insP_srt {q : P2} : ∀ {l : List P2}, l.Pairwise leP → (insP q l).Pairwise leP
  | [], _ => List.pairwise_singleton ..
  | x :: xs, h => by
    obtain ⟨h1, h2⟩ := List.pairwise_cons.mp h
    unfold insP
    split
    · rename_i c
      refine List.pairwise_cons.mpr ⟨fun y hy => ?_, insP_srt h2⟩
      rcases List.mem_cons.mp ((insP_perm q xs).mem_iff.mp hy) with rfl | hy
      · exact ltP_swo.asym _ _ c
      · exact h1 y hy
    · rename_i c
      have c' : ltP x q = false := by simpa using c
      refine List.pairwise_cons.mpr ⟨fun y hy => ?_, h⟩
      rcases List.mem_cons.mp hy with rfl | hy
      · exact c'
      · exact ltP_swo.tr q x y c' (h1 y hy)
theorem srtP_srt : ∀ l : List P2, (srtP l).Pairwise leP
  | [] => List.Pairwise.nil
  | x :: xs => by
    unfold srtP
    exact insP_srt (srtP_srt xs)
theorem srtP_uniq {l m : List P2} (h : l.Pairwise leP) (p : l.Perm m) : l = srtP m := by
  refine List.Perm.eq_of_pairwise (le := leP) (fun a b _ _ h1 h2 => pairL_inj (lexLt_eq _ _ rfl h2 h1)) h (srtP_srt m) (p.trans (srtP_perm m).symm)
def pOf (H : Hp) (v : V) : P2 := match v with
  | .ref t => match H t with
    | some (.tup [.int a, .int b]) => (a, b)
    | _ => (0, 0)
  | _ => (0, 0)
theorem pOf_at {H : Hp} {l : Addr} {q : P2} (h : H l = some (.tup [.int q.1, .int q.2])) : pOf H (.ref l) = q := by
  unfold pOf
  simp only [h]
theorem PrAll.all {H : Hp} {ls : List Addr} {qs : List P2} (h : PrAll H ls qs) : qs = ls.map (fun l => pOf H (.ref l)) ∧ ∀ l ∈ ls, H l = some (.tup [.int (pOf H (.ref l)).1, .int (pOf H (.ref l)).2]) := by
  induction h with
  | nil => exact ⟨rfl, fun l hl => by cases hl⟩
  | @cons l q ls qs e _ ih =>
    refine ⟨?_, fun m hm => ?_⟩
    · rw [List.map_cons, pOf_at e, ← ih.1]
    · rcases List.mem_cons.mp hm with rfl | hm
      · rw [pOf_at e]; exact e
      · exact ih.2 m hm
theorem PrAll.of {H : Hp} : ∀ {ls : List Addr}, (∀ l ∈ ls, H l = some (.tup [.int (pOf H (.ref l)).1, .int (pOf H (.ref l)).2])) → PrAll H ls (ls.map fun l => pOf H (.ref l))
  | [], _ => .nil
  | l :: ls, h => .cons (h l (List.mem_cons_self ..)) (PrAll.of fun m hm => h m (List.mem_cons_of_mem _ hm))
/-- sorted(..) of a list of pairs -/
theorem sorted_pairs {H : Hp} {a : Addr} {ls : List Addr} {qs : List P2} {Q : VK} (ha : H a = some (.lst (ls.map V.ref))) (hP : PrAll H ls qs)
    (cont : ∀ p ms H', H p = none → Same H H' → H' p = some (.lst (ms.map V.ref)) → PrAll H' ms (srtP qs) → Q (.ref p) H') : rSortedTK [.ref a] H Q := by
  obtain ⟨h1, h2⟩ := hP.all
  refine ⟨a, ls.map V.ref, 2, fun v => pairL (pOf H v), rfl, ha, by decide, fun x hx => ?_, fun ys p hs hb np => ?_⟩
  · obtain ⟨l, hl, rfl⟩ := List.mem_map.mp hx
    exact ⟨l, rfl, h2 l hl, rfl⟩
  · have hy : ys = (ys.map backA).map V.ref := by
      rw [List.map_map]
      refine (List.map_id ys).symm.trans (List.map_congr_left fun y hy => ?_)
      obtain ⟨l, _, rfl⟩ := List.mem_map.mp (hb.perm.mem_iff.mp hy)
      rfl
    generalize ys.map backA = ms at hy
    subst hy
    have sp : Same H (L2.upd H p (.lst (ms.map V.ref))) := Same.upd np
    have hm : ∀ l ∈ ms, H l = some (.tup [.int (pOf H (.ref l)).1, .int (pOf H (.ref l)).2]) := fun l hl => by
      obtain ⟨l2, hl2, e⟩ := List.mem_map.mp (hb.perm.mem_iff.mp (List.mem_map.mpr ⟨l, hl, rfl⟩))
      cases e
      exact h2 l hl2
    have key : ms.map (fun l => pOf H (.ref l)) = srtP qs := by
      refine srtP_uniq ?_ ?_
      · have := hs
        rw [List.pairwise_map]
        have h3 : (ms.map V.ref).Pairwise (fun x y => ltK (fun v => pairL (pOf H v)) y x = false) := hs
        rwa [List.pairwise_map] at h3
      · rw [h1]
        have h4 := hb.perm.map (pOf H)
        rwa [List.map_map, List.map_map] at h4
    refine cont p ms _ np sp upd_same ?_
    rw [← key]
    exact (PrAll.of hm).same sp
end Kx
namespace Kx
open PySem PySem.Spec PyProof.Rows L2
theorem srtQ_of_perm {l m : List Q4} (h : l.Perm m) : srtQ l = srtQ m := srtQ_uniq (srtQ_srt l) ((srtQ_perm l).trans h)
theorem srtP_len (l : List P2) : (srtP l).length = l.length := (srtP_perm l).length_eq
/-! ### all cuttings, e and -e together -/
def hC (D i : Int) : List Q4 := if 0 < i then cutsE D i ++ cutsE D (-i) else cutsE D 0
theorem fm_front {α : Type} {n : Nat} {f : Int → List α} : fm (n + 1) f = f 0 ++ fm n fun i => f (i + 1) := by
  rw [Nat.add_comm, fm_add]
  have h1 : fm 1 f = f 0 := by
    rw [show (1 : Nat) = 0 + 1 from rfl, fm_succ]
    simp [fm]
  rw [h1]
  congr 1
  exact fm_congr fun i _ => by rw [show ((1 : Nat) : Int) + (i : Int) = (i : Int) + 1 by omega]
theorem fm_sides {α : Type} {f : Int → List α} (K : Nat) : (fm (2 * K + 1) fun i => f (i - K)).Perm (f 0 ++ fm K fun i => f (i + 1) ++ f (-(i + 1))) := by
  induction K with
  | zero =>
    rw [show 2 * 0 + 1 = 0 + 1 from rfl, fm_succ]
    simp only [fm, List.range_zero, List.flatMap_nil, List.nil_append, List.append_nil]
    exact List.Perm.of_eq (by simp)
  | succ K ih =>
    have l1 : (fm (2 * (K + 1) + 1) fun i => f (i - ((K + 1 : Nat) : Int))) = f (-((K : Int) + 1)) ++ ((fm (2 * K + 1) fun i => f (i - K)) ++ f ((K : Int) + 1)) := by
      rw [show 2 * (K + 1) + 1 = (2 * K + 1) + 1 + 1 by omega, fm_front, fm_succ (2 * K + 1)]
      rw [show (0 : Int) - ((K + 1 : Nat) : Int) = -((K : Int) + 1) by omega, show ((2 * K + 1 : Nat) : Int) + 1 - ((K + 1 : Nat) : Int) = (K : Int) + 1 by omega]
      congr 2
      exact fm_congr fun i _ => by rw [show (i : Int) + 1 - ((K + 1 : Nat) : Int) = (i : Int) - K by omega]
    have l2 : (fm (K + 1) fun i => f (i + 1) ++ f (-(i + 1))) = (fm K fun i => f (i + 1) ++ f (-(i + 1))) ++ (f ((K : Int) + 1) ++ f (-((K : Int) + 1))) := fm_succ K _
    rw [l1, l2]
    refine List.perm_append_comm.trans ?_
    rw [List.append_assoc, ← List.append_assoc (f 0)]
    exact ih.append_right _
theorem hC_perm {D : Int} {n : Nat} (hM : Meas D) (h : D ≤ (n : Int) * n) : (fm n (hC D)).Perm (cutsL D) := by
  have h5 := hM.1
  obtain ⟨r0, r1, r2⟩ := rt_spec (n := D) (by omega)
  have hr : rt D ≤ n := by
    by_cases hr : rt D ≤ n
    · exact hr
    · have := sq_mono (x := (n : Int) + 1) (y := rt D) (by omega) (by omega)
      have e : ((n : Int) + 1) * ((n : Int) + 1) = (n : Int) * n + 2 * n + 1 := by grind
      omega
  have hn : hC D n = [] := by
    unfold hC
    rw [cutsE_out (by omega), cutsE_out (by have : -(n : Int) * -(n : Int) = (n : Int) * n := by grind
                                            omega)]
    split
    · rfl
    · exact cutsE_out (by
        have : (n : Int) = 0 := by omega
        rw [this] at h
        omega)
  have e1 : fm n (hC D) = fm (n + 1) (hC D) := by rw [fm_succ, hn, List.append_nil]
  rw [e1, fm_front, ← cuts_wide (n := n) (by omega) hr]
  have e2 : fm n (fun i => hC D (i + 1)) = fm n fun i => cutsE D (i + 1) ++ cutsE D (-(i + 1)) := fm_congr fun i _ => by
    unfold hC
    rw [if_pos (by omega)]
  rw [e2]
  exact (fm_sides (f := cutsE D) n).symm
theorem hC_par {D : Int} {i : Int} (hM : Meas D) (h0 : 0 ≤ i) (h : (D - i) % 2 = 1) : hC D i = [] := by
  have z : ∀ e : Int, (D - e) % 2 = 1 → cutsE D e = [] := fun e he => by
    unfold cutsE midsD
    rw [if_pos (.inr he)]
    rfl
  unfold hC
  split
  · rw [z i h, z (-i) (by omega)]
    rfl
  · rename_i hi
    exact z 0 (by omega)
/-! ### the deeds of a cutting -/
def pairsE (m sh : Int) : List P2 := ((List.range (m * sh).toNat).filter fun a : Nat => decide (gcdI (a : Int) m = 1)).map fun a : Nat => ((a : Int), m)
def pairsK (m : Int) (k : Nat) : List P2 := ((List.range k).filter fun a : Nat => decide (gcdI (a : Int) m = 1)).map fun a : Nat => ((a : Int), m)
theorem pairsK_succ (m : Int) (k : Nat) : pairsK m (k + 1) = pairsK m k ++ (if gcdI (k : Int) m = 1 then [((k : Int), m)] else []) := by
  unfold pairsK
  rw [List.range_succ, List.filter_append, List.map_append]
  congr 1
  by_cases h : gcdI (k : Int) m = 1
  · rw [if_pos h, List.filter_cons, if_pos (decide_eq_true h)]; rfl
  · rw [if_neg h, List.filter_cons, if_neg (by rw [decide_eq_false h]; decide)]; rfl
theorem pairsK_le (m : Int) (k : Nat) : (pairsK m k).length ≤ k := by
  unfold pairsK
  rw [List.length_map]
  have := List.length_filter_le (fun a : Nat => decide (gcdI (a : Int) m = 1)) (List.range k)
  rwa [List.length_range] at this
def dL (q : Q4) (n : Nat) : List P2 := fm n fun i => pairsE (i + 1) (shareQ q)
def gq (q : Q4) : Nat := ((rt (measC q - 1) - q.2.2.2) / (2 * q.2.2.1)).toNat
def deedsL (q : Q4) : List P2 := dL q (gq q)
theorem w_four (q : Q4) (n : Int) : measC q - (q.2.2.2 + 2 * n * q.2.2.1) * (q.2.2.2 + 2 * n * q.2.2.1) = 4 * (q.2.2.1 * wD q n) := by
  unfold measC wD
  grind
theorem allow_iff {q : Q4} {n : Nat} (hq : okQ q = true) (hn : 1 ≤ n) : 0 < wD q n ↔ n ≤ gq q := by
  obtain ⟨o1, o2, o3, o4, o5, o6⟩ := okQ_get hq
  have h5 := (meas_cut hq).1
  obtain ⟨r0, r1, r2⟩ := rt_spec (n := measC q - 1) (by omega)
  have h4 := w_four q n
  have hw : 0 < wD q n ↔ (q.2.2.2 + 2 * n * q.2.2.1) * (q.2.2.2 + 2 * n * q.2.2.1) ≤ measC q - 1 := by
    constructor
    · intro h
      have := Int.mul_le_mul o2 h (by omega) (by omega)
      omega
    · intro h
      by_cases hw : 0 < wD q n
      · exact hw
      · have := Int.mul_le_mul_of_nonneg_left (show wD q n ≤ 0 by omega) (show 0 ≤ q.2.2.1 by omega)
        omega
  rw [hw]
  have hsq : (q.2.2.2 + 2 * n * q.2.2.1) * (q.2.2.2 + 2 * n * q.2.2.1) ≤ measC q - 1 ↔ q.2.2.2 + 2 * n * q.2.2.1 ≤ rt (measC q - 1) := by
    by_cases hneg : q.2.2.2 + 2 * n * q.2.2.1 < 0
    · refine ⟨fun _ => by omega, fun _ => ?_⟩
      have hnc := Int.mul_nonneg (show (0 : Int) ≤ n by omega) (show 0 ≤ q.2.2.1 by omega)
      have e1 : 2 * (n : Int) * q.2.2.1 = 2 * ((n : Int) * q.2.2.1) := by grind
      have := sq_mono (x := -(q.2.2.2 + 2 * n * q.2.2.1)) (y := -q.2.2.2) (by omega) (by omega)
      have e2 : -(q.2.2.2 + 2 * n * q.2.2.1) * -(q.2.2.2 + 2 * n * q.2.2.1) = (q.2.2.2 + 2 * n * q.2.2.1) * (q.2.2.2 + 2 * n * q.2.2.1) := by grind
      have e3 : -q.2.2.2 * -q.2.2.2 = q.2.2.2 * q.2.2.2 := by grind
      have hbc := Int.mul_le_mul o1 o2 (by omega) (by omega)
      unfold measC
      have e4 : 4 * q.2.1 * q.2.2.1 = 4 * (q.2.1 * q.2.2.1) := by grind
      omega
    · constructor
      · intro h
        by_cases hle : q.2.2.2 + 2 * n * q.2.2.1 ≤ rt (measC q - 1)
        · exact hle
        · have := sq_mono (x := rt (measC q - 1) + 1) (y := q.2.2.2 + 2 * n * q.2.2.1) (by omega) (by omega)
          omega
      · intro h
        have := sq_mono (x := q.2.2.2 + 2 * n * q.2.2.1) (y := rt (measC q - 1)) (by omega) h
        omega
  rw [hsq]
  unfold gq
  have e : 2 * (n : Int) * q.2.2.1 = (n : Int) * (2 * q.2.2.1) := by grind
  rw [e]
  have hd := Int.le_ediv_iff_mul_le (a := (n : Int)) (b := rt (measC q - 1) - q.2.2.2) (c := 2 * q.2.2.1) (by omega)
  omega
theorem pairsE_mem {m sh : Int} {x : P2} (hs : 0 ≤ sh) : x ∈ pairsE m sh ↔ x.2 = m ∧ 0 ≤ x.1 ∧ x.1 < m * sh ∧ gcdI x.1 m = 1 := by
  unfold pairsE
  rw [List.mem_map]
  constructor
  · rintro ⟨a, ha, rfl⟩
    obtain ⟨h1, h2⟩ := List.mem_filter.mp ha
    have := List.mem_range.mp h1
    exact ⟨rfl, by simp only; omega, by simp only; omega, of_decide_eq_true h2⟩
  · rintro ⟨h1, h2, h3, h4⟩
    refine ⟨x.1.toNat, List.mem_filter.mpr ⟨List.mem_range.mpr (by omega), ?_⟩, ?_⟩
    · rw [show ((x.1.toNat : Nat) : Int) = x.1 by omega]
      exact decide_eq_true h4
    · exact Prod.ext (show ((x.1.toNat : Nat) : Int) = x.1 by omega) h1.symm
theorem deedsL_mem {q : Q4} {x : P2} (hq : okQ q = true) : x ∈ deedsL q ↔ DeedOk q x.1 x.2 = true := by
  have hs := (share_pos hq).1
  unfold deedsL dL fm DeedOk
  rw [List.mem_flatMap]
  simp only [Bool.and_eq_true, decide_eq_true_eq]
  constructor
  · rintro ⟨i, hi, hx⟩
    have hi := List.mem_range.mp hi
    obtain ⟨h1, h2, h3, h4⟩ := (pairsE_mem (by omega)).mp hx
    have hw := (allow_iff (n := i + 1) hq (by omega)).mpr (by omega)
    rw [Int.natCast_add, Int.natCast_one] at hw
    rw [h1]
    exact ⟨by omega, hw, h2, h3, h4⟩
  · rintro ⟨h1, h2, h3, h4, h5⟩
    obtain ⟨i, hi⟩ : ∃ i : Nat, x.2 = (i : Int) + 1 := ⟨(x.2 - 1).toNat, by omega⟩
    rw [hi] at h2 h4 h5
    have := (allow_iff (n := i + 1) hq (by omega)).mp (by rw [Int.natCast_add, Int.natCast_one]; exact h2)
    exact ⟨i, List.mem_range.mpr (by omega), (pairsE_mem (by omega)).mpr ⟨hi, h3, h4, h5⟩⟩
theorem pairsE_le (m sh : Int) : (pairsE m sh).length ≤ (m * sh).toNat := pairsK_le m _
/-- small measures: few deeds -/
theorem small_q {q : Q4} (hq : okQ q = true) (hD : measC q ≤ 400) : q.2.2.1 ≤ 100 ∧ q.2.1 ≤ 100 ∧ gq q ≤ 20 ∧ q.2.2.2.natAbs < 20 := by
  obtain ⟨o1, o2, o3, o4, o5, o6⟩ := okQ_get hq
  have h5 := (meas_cut hq).1
  have e4 : measC q = q.2.2.2 * q.2.2.2 + 4 * (q.2.1 * q.2.2.1) := by unfold measC; grind
  have hee := sq_nonneg' q.2.2.2
  have hc := Int.mul_le_mul_of_nonneg_right o1 (show 0 ≤ q.2.2.1 by omega)
  have hb := Int.mul_le_mul_of_nonneg_left o2 (show 0 ≤ q.2.1 by omega)
  obtain ⟨r0, r1, r2⟩ := rt_spec (n := measC q - 1) (by omega)
  have hr : rt (measC q - 1) < 20 := by
    by_cases hr : rt (measC q - 1) < 20
    · exact hr
    · have := sq_mono (x := 20) (y := rt (measC q - 1)) (by decide) (by omega)
      omega
  have he : q.2.2.2.natAbs < 20 := by
    by_cases he : q.2.2.2.natAbs < 20
    · exact he
    · have := sq_mono (x := 20) (y := (q.2.2.2.natAbs : Int)) (by decide) (by omega)
      have e2 : (q.2.2.2.natAbs : Int) * (q.2.2.2.natAbs : Int) = q.2.2.2 * q.2.2.2 := Int.natAbs_mul_self' _
      omega
  refine ⟨by omega, by omega, ?_, he⟩
  unfold gq
  have : (rt (measC q - 1) - q.2.2.2) / (2 * q.2.2.1) ≤ 20 := by
    have h1 := Int.ediv_mul_le (rt (measC q - 1) - q.2.2.2) (show 2 * q.2.2.1 ≠ 0 by omega)
    by_cases h2 : (rt (measC q - 1) - q.2.2.2) / (2 * q.2.2.1) ≤ 20
    · exact h2
    · have := Int.mul_le_mul (show 21 ≤ (rt (measC q - 1) - q.2.2.2) / (2 * q.2.2.1) by omega) (show 2 ≤ 2 * q.2.2.1 by omega) (by decide) (by omega)
      omega
  omega
end Kx
namespace Kx
open PySem PySem.Spec PyProof.Rows L2
/-! promises of the law's own -/
def spIsCutT : Sp := fun vs H Q _ => ∃ (p : Addr) (q : Q4), vs = [.ref p] ∧ H p = some (.tup (cutV4 q)) ∧ Q (.bl (okQ q)) H
def spWith14 : Sp := fun vs H Q _ => ∃ D e : Int, vs = [.int D, .int e] ∧ Meas D ∧ D ≤ 3600 ∧ e * e < D ∧ (D - e) % 2 = 0 ∧ QList (withE D e) H Q
def spSmall14 : Sp := fun vs H Q _ => ∃ (g : Addr) (k : Nat), vs = [.ref g] ∧ GenAt H g k ∧ k ≤ 2 ^ 39 ∧ ∀ (D : Int) (q : Q4) (r pc pe : Addr) (ls : List Addr) (H' : Hp), Meas D → D ≤ 145 → q ∈ srtQ (cutsL D) → H r = none → H pe = none → H' r = some (.tup [.ref pc, .ref pe]) → H' pc = some (.tup (cutV4 q)) → H' pe = some (.lst (ls.map V.ref)) → QAll H' ls (srtQ (cutsL D)) →
  GenAt H' g (k + 100) → Keep g H H' → Q (.ref r) H'
def spAllowed : Sp := fun vs H Q _ => ∃ (pr : Addr) (q : Q4) (n : Int), vs = [.ref pr, .int n] ∧ H pr = some (.tup (cutV4 q)) ∧ Sz4 600 q ∧ n.natAbs < 2 ^ 600 ∧ Q (.bl (decide (0 < wD q n))) H
def spLawDeeds : Sp := fun vs H Q _ => ∃ (pr : Addr) (q : Q4), vs = [.ref pr] ∧ H pr = some (.tup (cutV4 q)) ∧ okQ q = true ∧ measC q ≤ 400 ∧ ∀ (p : Addr) (ls : List Addr) (H' : Hp), H p = none → Same H H' → H' p = some (.lst (ls.map V.ref)) → PrAll H' ls (srtP (deedsL q)) → Q (.ref p) H'
def InvC14 (D : Int) (H : Hp) : SV → Hp → Prop := fun σ H2 => ∃ (n : Nat) (p : Addr) (ls : List Addr) (t3 : Option V), σ = [some (.int D), some (.ref p), some (.int n), t3] ∧ (n : Int) ≤ 60 ∧ H p = none ∧ Same H H2 ∧ H2 p = some (.lst (ls.map V.ref)) ∧ QAll H2 ls (fm n (hC D))
def shiftsL (e : Int) : List Int := if 0 < e then [e, 0 - e] else [0]
def InvC14b (D : Int) (n : Nat) (H : Hp) : Nat → SV → Hp → Prop := fun j σ H2 => ∃ (p : Addr) (ls : List Addr) (t3 : Option V), σ = [some (.int D), some (.ref p), some (.int n), t3] ∧ H p = none ∧ Same H H2 ∧ H2 p = some (.lst (ls.map V.ref)) ∧ QAll H2 ls (fm n (hC D) ++ if (D - n) % 2 = 0 then ((shiftsL n).take j).flatMap (withE D) else [])
def InvW14 (D e : Int) (H : Hp) : Nat → SV → Hp → Prop := fun i σ H2 => ∃ (p : Addr) (ls : List Addr) (t4 t5 : Option V), σ = [some (.int D), some (.int e), some (.ref p), some (.int (qn D e)), t4, t5, none] ∧ H p = none ∧ Same H H2 ∧ H2 p = some (.lst (ls.map V.ref)) ∧ QAll H2 ls ((midsL (qn D e) i).flatMap (lawE e))
theorem shifts_hC {D : Int} {n : Nat} (hM : Meas D) (h : (D - n) % 2 = 0) : (shiftsL n).flatMap (withE D) = hC D n := by
  unfold shiftsL hC
  split
  · simp only [List.flatMap_cons, List.flatMap_nil, List.append_nil, with_cuts hM, Int.zero_sub]
  · simp only [List.flatMap_cons, List.flatMap_nil, List.append_nil, with_cuts hM]
theorem fm_hC_le {D : Int} {n : Nat} (hM : Meas D) (hD : D ≤ 1501) (hn : n ≤ 60) : (fm n (hC D)).length ≤ 1500 := by
  have h1 : (fm n (hC D)).length ≤ (fm 60 (hC D)).length := fm_le hn
  have h2 := (hC_perm (n := 60) hM (by omega)).length_eq
  have := cuts_few hM hD
  omega
theorem mem_of_ok {D : Int} {q : Q4} (hM : Meas D) (hq : okQ q = true) (hm : measC q = D) : q ∈ srtQ (cutsL D) := by
  obtain ⟨o1, o2, o3, o4, o5, o6⟩ := okQ_get hq
  have h5 := hM.1
  refine (srtQ_perm _).mem_iff.mpr ?_
  have e4 : D = q.2.2.2 * q.2.2.2 + 4 * (q.2.1 * q.2.2.1) := by rw [← hm]; unfold measC; grind
  have hbc := Int.mul_le_mul o1 o2 (by omega) (by omega)
  have he : q.2.2.2 * q.2.2.2 < D := by omega
  have hqn : qn D q.2.2.2 = q.2.1 * q.2.2.1 := by unfold qn; omega
  have hin : q ∈ cutsE D q.2.2.2 := by
    rw [← with_cuts hM]
    unfold withE
    rw [if_neg (by omega)]
    refine List.mem_flatMap.mpr ⟨(q.2.1, q.2.2.1), ?_, ?_⟩
    · unfold midsL
      refine List.mem_map.mpr ⟨(q.2.2.1 - 1).toNat, List.mem_filter.mpr ⟨List.mem_range.mpr ?_, ?_⟩, ?_⟩
      · rw [hqn]
        have := Int.mul_le_mul_of_nonneg_right o1 (show 0 ≤ q.2.2.1 by omega)
        omega
      · rw [hqn, show (((q.2.2.1 - 1).toNat : Nat) : Int) + 1 = q.2.2.1 by omega]
        exact decide_eq_true (Int.mul_emod_left _ _)
      · rw [hqn, show (((q.2.2.1 - 1).toNat : Nat) : Int) + 1 = q.2.2.1 by omega, Int.mul_ediv_cancel _ (show q.2.2.1 ≠ 0 by omega)]
    · unfold lawE
      refine List.mem_map.mpr ⟨q.1.toNat, List.mem_filter.mpr ⟨List.mem_range.mpr (by simp only; omega), ?_⟩, ?_⟩
      · rw [show ((q.1.toNat : Nat) : Int) = q.1 by omega]
        exact hq
      · rw [show ((q.1.toNat : Nat) : Int) = q.1 by omega]
  rw [← cuts_wide (n := (rt D).toNat) (by omega) (by have := (rt_le (n := D) (by omega)).1; omega)]
  obtain ⟨r0, r1, r2⟩ := rt_spec (n := D) (by omega)
  have hb1 : -rt D ≤ q.2.2.2 := by
    by_cases h : -rt D ≤ q.2.2.2
    · exact h
    · have := sq_mono (x := rt D + 1) (y := -q.2.2.2) (by omega) (by omega)
      have e3 : -q.2.2.2 * -q.2.2.2 = q.2.2.2 * q.2.2.2 := by grind
      omega
  have hb2 : q.2.2.2 ≤ rt D := by
    by_cases h : q.2.2.2 ≤ rt D
    · exact h
    · have := sq_mono (x := rt D + 1) (y := q.2.2.2) (by omega) (by omega)
      omega
  unfold fm
  refine List.mem_flatMap.mpr ⟨(q.2.2.2 + rt D).toNat, List.mem_range.mpr (by omega), ?_⟩
  show q ∈ cutsE D ((((q.2.2.2 + rt D).toNat : Nat) : Int) - (((rt D).toNat : Nat) : Int))
  rw [show (((q.2.2.2 + rt D).toNat : Nat) : Int) - (((rt D).toNat : Nat) : Int) = q.2.2.2 by omega]
  exact hin
theorem mem_ok {D : Int} {q : Q4} (hM : Meas D) (hD : D < 100000) (h : q ∈ srtQ (cutsL D)) : okQ q = true ∧ measC q = D := by
  obtain ⟨e, he⟩ := cuts_mem h
  obtain ⟨h1, h2, h3, h4, h5, h6, h7⟩ := cutsE_ok hM hD he
  exact ⟨h1, h5⟩
end Kx
namespace Kx
open PySem PySem.Spec PyProof.Rows L2
/-- a growing list of pairs -/
def InvPr (h : Hp) (Dd : Addr) (ps : Nat → List P2) : Nat → Hp → Prop := fun i H2 => Same h H2 ∧ ∃ ls : List Addr, H2 Dd = some (.lst (ls.map V.ref)) ∧ PrAll H2 ls (ps i)
theorem InvPr.push {h H2 H3 : Hp} {Dd p : Addr} {ps : Nat → List P2} {x : P2} {i : Nat} (hi : InvPr h Dd ps i H2) (hD : h Dd = none) (s : Same H2 H3) (e : H3 p = some (.tup [.int x.1, .int x.2])) (eq : ps (i + 1) = ps i ++ [x]) (hle : (ps i).length < 1000000) :
    ∃ acc, H3 Dd = some (.lst acc) ∧ acc.length < sizeLine ∧ InvPr h Dd ps (i + 1) (L2.upd H3 Dd (.lst (acc ++ [.ref p]))) := by
  obtain ⟨s2, ls, eD, hl⟩ := hi
  have eD3 := s _ _ eD
  have h2 := hl.len
  refine ⟨_, eD3, ?_, Same.upd2 (s2.trans s) hD, ls ++ [p], by rw [upd_same, List.map_append]; rfl, ?_⟩
  · rw [List.length_map]
    exact Nat.lt_of_lt_of_le (show ls.length < 1000000 by omega) (Nat.le_of_ble_eq_true rfl)
  rw [eq]
  exact ((hl.same s).append (.cons e .nil)).imp fun l xs h => upd_lst eD3 h (fun z => by cases z)
theorem InvPr.skip {h H2 H3 : Hp} {Dd : Addr} {ps : Nat → List P2} {i : Nat} (hi : InvPr h Dd ps i H2) (s : Same H2 H3) (eq : ps (i + 1) = ps i) : InvPr h Dd ps (i + 1) H3 := by
  obtain ⟨s2, ls, eD, hl⟩ := hi
  exact ⟨s2.trans s, ls, s _ _ eD, by rw [eq]; exact hl.same s⟩
def InvDe (q : Q4) (pr : Addr) (H : Hp) : SV → Hp → Prop := fun σ H2 => ∃ (n : Nat) (p : Addr) (ls : List Addr), σ = [some (.ref pr), some (.ref p), some (.int ((n : Int) + 1)), some (.int (shareQ q)), none] ∧ n ≤ gq q ∧ H p = none ∧ Same H H2 ∧ H2 p = some (.lst (ls.map V.ref)) ∧ PrAll H2 ls (dL q n)
theorem dL_le {q : Q4} {n : Nat} (hq : okQ q = true) (hD : measC q ≤ 400) (hn : n ≤ 20) : (dL q n).length ≤ 2000 * n := by
  obtain ⟨c1, c2, c3, c4⟩ := small_q hq hD
  have hs := share_pos hq
  induction n with
  | zero => exact Nat.le_refl _
  | succ n ih =>
    have h1 := ih (by omega)
    have h2 : dL q (n + 1) = dL q n ++ pairsE ((n : Int) + 1) (shareQ q) := fm_succ n _
    have h3 := pairsE_le ((n : Int) + 1) (shareQ q)
    have h4 := Int.mul_le_mul (show (n : Int) + 1 ≤ 20 by omega) (show shareQ q ≤ 100 by omega) (by omega) (by decide)
    rw [h2, List.length_append]
    omega
theorem dec_pos {b : Bool} {p : Prop} [Decidable p] (h : decide p = b) : (b = true ↔ p) := by rw [← h]; exact decide_eq_true_iff
end Kx
namespace Kx
open PySem PySem.Spec PyProof.Rows L2
def InvCo (h : Hp) (Dd p1 : Addr) : Nat → Hp → Prop := fun i H2 => Same h H2 ∧ (i = 0 → H2 Dd = some (.lst [])) ∧ (0 < i → ∃ rest : List V, H2 Dd = some (.lst (V.ref p1 :: rest)) ∧ rest.length ≤ i)
end Kx
namespace Kx
open PySem PySem.Spec PyProof.Rows L2
/-- the first number of the tuple that slot 3 names -/
def headN (σ : SV) (H : Hp) : Nat := match σ[3]? with
  | some (some (V.ref p)) => (match H p with
    | some (HO.tup (V.int r :: _)) => r.toNat
    | _ => 0)
  | _ => 0
theorem headN_eq {s0 s1 s2 : Option V} {rest : List (Option V)} {p : Addr} {H : Hp} {r u : Int} (h : H p = some (.tup [.int r, .int u])) : headN (s0 :: s1 :: s2 :: some (.ref p) :: rest) H = r.toNat := by
  unfold headN
  simp only [List.getElem?_cons_succ, List.getElem?_cons_zero, h]
theorem led_abs {q : Q4} {p n x z s t s' t' o1 o2 r2 : Int} (hq : okQ q = true) (hd : DeedOk q p n = true) (hxz : p * z - n * x = 1) (ho : o1 = c1Q q p n) (f1 : o1 = s * colI q p n + t * colJ q n) (f2 : o2 = s * colK q n x z + t * colL q z) (f3 : 0 = s' * colI q p n + t' * colJ q n) (f4 : r2 = s' * colK q n x z + t' * colL q z) (f5 : s * t' - t * s' = 1 ∨ s * t' - t * s' = -1) : (r2.natAbs : Int) = b1Q q p n := by
  have h1 := det_eq (q := q) hxz
  have h2 := b1_mul hd
  have hc := c1_pos (p := p) hq (deed_get hd).1
  have hb := b1_pos hq hd
  have e : o1 * r2 = (s * t' - t * s') * (q.2.2.1 * wD q n) := by
    have g : o1 * r2 - o2 * 0 = (s * t' - t * s') * (colI q p n * colL q z - colJ q n * colK q n x z) := by
      rw [show o2 * 0 = o2 * (s' * colI q p n + t' * colJ q n) by rw [← f3], f1, f2, f4]
      grind
    rw [← h1]
    omega
  rw [ho, ← h2] at e
  rcases f5 with f5 | f5
  · rw [f5, Int.one_mul, Int.mul_comm] at e
    have := Int.eq_of_mul_eq_mul_right (by omega) e
    omega
  · rw [f5, show -1 * (b1Q q p n * c1Q q p n) = (-b1Q q p n) * c1Q q p n by grind, Int.mul_comm] at e
    have := Int.eq_of_mul_eq_mul_right (by omega) e
    omega
end Kx
namespace Kx
open PySem PySem.Spec PyProof.Rows L2
theorem led_parts {q : Q4} {p n : Int} {r : Q4} (hd : DeedOk q p n = true) (h : Led q p n r) : r.2.2.2 = 0 - q.2.2.2 - 2 * n * q.2.2.1 ∧ r.2.1 * r.2.2.1 = q.2.2.1 * (q.2.1 - n * q.2.2.2 - n * n * q.2.2.1) := by
  obtain ⟨h1, h2, h3, _⟩ := h
  refine ⟨by rw [h1]; omega, ?_⟩
  rw [h3, h2]
  exact b1_mul hd
theorem led_in {D : Int} {q : Q4} {p n : Int} (hM : Meas D) (hD : D < 100000) (hq : q ∈ srtQ (cutsL D)) (hd : DeedOk q p n = true) : ledF q p n ∈ srtQ (cutsL D) ∧ Sz4 700 (ledF q p n) := by
  obtain ⟨h1, h2⟩ := mem_ok hM hD hq
  have hl := ledF_led h1 hd
  have h3 := mem_of_ok hM (led_ok h1 hd hl) ((led_meas hd hl).trans h2)
  exact ⟨h3, cut_sz hM hD h3⟩
theorem deed_sz {q : Q4} {p n : Int} (hq : okQ q = true) (hD : measC q ≤ 400) (hd : DeedOk q p n = true) : Sz4 200 q ∧ p.natAbs < 2 ^ 200 ∧ n.natAbs < 2 ^ 200 := by
  obtain ⟨d1, d2, d3, d4, d5⟩ := deed_get hd
  obtain ⟨c1, c2, c3, c4⟩ := small_q hq hD
  obtain ⟨o1, o2, o3, o4, o5, o6⟩ := okQ_get hq
  have hs := share_pos hq
  have hg := gcdI_pos (a := q.2.1) (b := q.2.2.1) (by omega)
  have hgl := gcdI_le (a := q.2.1) (b := q.2.2.1) (by omega)
  have hn := (allow_iff (n := n.toNat) hq (by omega)).mp (by rw [show ((n.toNat : Nat) : Int) = n by omega]; exact d2)
  have hm := Int.mul_le_mul (show n ≤ 20 by omega) (show shareQ q ≤ 100 by omega) (by omega) (by decide)
  have big : (10000 : Nat) < 2 ^ 200 := by decide
  refine ⟨⟨?_, ?_, ?_, ?_⟩, ?_, ?_⟩ <;> refine Nat.lt_trans ?_ big <;> omega
end Kx
namespace Kx
open PySem PySem.Spec PyProof.Rows L2
def spRight14 : Sp := fun vs H Q _ => ∃ g : Addr, vs = [.ref g] ∧ GenAt H g 100000 ∧ ∀ H', Q (.bl true) H'
/-- what stays while the deeds are gone through -/
structure R14 (D : Int) (q : Q4) (g pc pe : Addr) (ls : List Addr) (H : Hp) : Prop where
  gen : GenAt H g 200000
  epc : H pc = some (.tup (cutV4 q))
  epe : H pe = some (.lst (ls.map V.ref))
  all : QAll H ls (srtQ (cutsL D))
  ne : pe ≠ g
theorem R14.same {D : Int} {q : Q4} {g pc pe : Addr} {ls : List Addr} {H H' : Hp} (h : R14 D q g pc pe ls H) (s : Same H H') : R14 D q g pc pe ls H' := ⟨h.gen.same s, s _ _ h.epc, s _ _ h.epe, h.all.same s, h.ne⟩
def InvR14 (D : Int) (q : Q4) (g pc pe : Addr) (ls : List Addr) (H : Hp) : Nat → SV → Hp → Prop := fun _ σ H2 => ∃ t3 t4 t5 t6 t7 t8 : Option V, σ = [some (.ref g), some (.ref pc), some (.ref pe), t3, t4, t5, t6, t7, t8, none, none] ∧ Same H H2
def InvR14b (g pc pe : Addr) (a9 : Addr) (H : Hp) : Nat → SV → Hp → Prop := fun _ σ H2 => ∃ t3 t4 t5 t6 t7 t8 t10 : Option V, σ = [some (.ref g), some (.ref pc), some (.ref pe), t3, t4, t5, t6, t7, t8, some (.ref a9), t10] ∧ Same H H2
end Kx
namespace Kx
open PySem PySem.Spec PyProof.Rows L2
theorem deed01 {q : Q4} (hq : okQ q = true) : DeedOk q 0 1 = true := by
  obtain ⟨o1, o2, o3, o4, o5, o6⟩ := okQ_get hq
  have hs := share_pos hq
  unfold DeedOk
  have hw : 0 < wD q 1 := by unfold wD; omega
  rw [decide_eq_true hw, decide_eq_true (show (0 : Int) < 1 * shareQ q by omega), decide_eq_true (show gcdI 0 1 = 1 from rfl)]
  rfl
end Kx
namespace Kx
open PySem PySem.Spec PyProof.Rows L2
theorem row14_0 : okQ ((0, 2, 1, -3) : Q4) = true ∧ DeedOk ((0, 2, 1, -3) : Q4) (0) (1) = true ∧ ledF ((0, 2, 1, -3) : Q4) (0) (1) = ((0, 4, 1, 1) : Q4) := by
  have h1 : okQ ((0, 2, 1, -3) : Q4) = true := by decide +kernel
  have h2 : DeedOk ((0, 2, 1, -3) : Q4) (0) (1) = true := by decide +kernel
  exact ⟨h1, h2, ledF_eq h1 h2 ⟨by decide +kernel, by decide +kernel, by decide +kernel, -1, 0, 0, 1, by decide +kernel, by decide +kernel, by decide +kernel⟩⟩
theorem row14_1 : okQ ((0, 2, 1, -3) : Q4) = true ∧ DeedOk ((0, 2, 1, -3) : Q4) (1) (2) = true ∧ ledF ((0, 2, 1, -3) : Q4) (1) (2) = ((1, 2, 2, -1) : Q4) := by
  have h1 : okQ ((0, 2, 1, -3) : Q4) = true := by decide +kernel
  have h2 : DeedOk ((0, 2, 1, -3) : Q4) (1) (2) = true := by decide +kernel
  exact ⟨h1, h2, ledF_eq h1 h2 ⟨by decide +kernel, by decide +kernel, by decide +kernel, 0, 1, 0, 1, by decide +kernel, by decide +kernel, by decide +kernel⟩⟩
theorem row14_2 : okQ ((0, 2, 1, -3) : Q4) = true ∧ DeedOk ((0, 2, 1, -3) : Q4) (1) (3) = true ∧ ledF ((0, 2, 1, -3) : Q4) (1) (3) = ((0, 2, 1, -3) : Q4) := by
  have h1 : okQ ((0, 2, 1, -3) : Q4) = true := by decide +kernel
  have h2 : DeedOk ((0, 2, 1, -3) : Q4) (1) (3) = true := by decide +kernel
  exact ⟨h1, h2, ledF_eq h1 h2 ⟨by decide +kernel, by decide +kernel, by decide +kernel, 0, 1, -1, 1, by decide +kernel, by decide +kernel, by decide +kernel⟩⟩
theorem row14_3 : okQ ((0, 2, 1, -3) : Q4) = true ∧ DeedOk ((0, 2, 1, -3) : Q4) (2) (3) = true ∧ ledF ((0, 2, 1, -3) : Q4) (2) (3) = ((0, 2, 1, -3) : Q4) := by
  have h1 : okQ ((0, 2, 1, -3) : Q4) = true := by decide +kernel
  have h2 : DeedOk ((0, 2, 1, -3) : Q4) (2) (3) = true := by decide +kernel
  exact ⟨h1, h2, ledF_eq h1 h2 ⟨by decide +kernel, by decide +kernel, by decide +kernel, -1, -1, 1, -1, by decide +kernel, by decide +kernel, by decide +kernel⟩⟩
theorem row14_4 : okQ ((1, 2, 4, -9) : Q4) = true ∧ DeedOk ((1, 2, 4, -9) : Q4) (3) (2) = true ∧ ledF ((1, 2, 4, -9) : Q4) (3) (2) = ((0, 2, 8, -7) : Q4) := by
  have h1 : okQ ((1, 2, 4, -9) : Q4) = true := by decide +kernel
  have h2 : DeedOk ((1, 2, 4, -9) : Q4) (3) (2) = true := by decide +kernel
  exact ⟨h1, h2, ledF_eq h1 h2 ⟨by decide +kernel, by decide +kernel, by decide +kernel, 1, 1, 0, 1, by decide +kernel, by decide +kernel, by decide +kernel⟩⟩
theorem row14_5 : okQ ((0, 1, 1, -1) : Q4) = true ∧ DeedOk ((0, 1, 1, -1) : Q4) (0) (1) = true ∧ ledF ((0, 1, 1, -1) : Q4) (0) (1) = ((0, 1, 1, -1) : Q4) := by
  have h1 : okQ ((0, 1, 1, -1) : Q4) = true := by decide +kernel
  have h2 : DeedOk ((0, 1, 1, -1) : Q4) (0) (1) = true := by decide +kernel
  exact ⟨h1, h2, ledF_eq h1 h2 ⟨by decide +kernel, by decide +kernel, by decide +kernel, -1, 0, 0, 1, by decide +kernel, by decide +kernel, by decide +kernel⟩⟩
end Kx
namespace Kx
def rows14 : List Q4 := [(0, 4, 1, 1), (1, 2, 2, -1), (0, 2, 1, -3), (0, 2, 1, -3)]
end Kx

set_option Elab.async false
set_option linter.all false
set_option maxRecDepth 100000
set_option maxHeartbeats 4000000
set_option exponentiation.threshold 4000
/-! Deeds back. -/
namespace Kx
open PySem PySem.Spec PyProof.Rows L2
theorem gcd_of_bez {a b c s t : Int} (hc : 0 ≤ c) (h1 : c ∣ a) (h2 : c ∣ b) (h3 : s * a + t * b = c) : gcdI a b = c := by
  have d1 : gcdI a b ∣ c := by
    rw [← h3]
    exact Int.dvd_add (Int.dvd_trans (gcdI_dvdl a b) (Int.dvd_mul_left _ _)) (Int.dvd_trans (gcdI_dvdr a b) (Int.dvd_mul_left _ _))
  have d2 : c ∣ gcdI a b := Int.dvd_coe_gcd h1 h2
  exact Int.dvd_antisymm (gcdI_nn _ _) hc d1 d2
theorem ri1 (x i t n r : Int) : (-x * i + t * n) * r = -x * (i * r) + t * (n * r) := by grind
theorem ri2 (x B n a r : Int) : (x * B + n * a) * r = x * (B * r) + (n * r) * a := by grind
theorem ri3 (c z u n : Int) : -(c * (z + u * n)) = -(z * c + u * (n * c)) := by grind
theorem ri4 (x I L J K t r u : Int) : x * (I * L - J * K) + J * (x * K - t * L - r * u) = -((-x * I + t * J) * L) - r * u * J := by grind
theorem ri5 (r L u J : Int) : -(r * L) - r * u * J = -(L + u * J) * r := by grind
theorem ri6 (r B n e c m : Int) : r * (B - n * (-e - 2 * m * c) - n * n * r) = B * r + (n * r) * (e + 2 * m * c) - (n * r) * (n * r) := by grind
theorem ri7 (c b e m : Int) : c * (b - m * e - m * m * c) + m * c * (e + 2 * m * c) - m * c * (m * c) = c * b := by grind
theorem ri8 (t B i a e c m n r : Int) : (-t * B + -i * a + (-e - 2 * m * c) + n * r) * r = -t * (B * r) - (i * r) * a + (-e - 2 * m * c + n * r) * r := by grind
theorem ri9 (t I L J K x r u : Int) : -t * (I * L - J * K) - I * (x * K - t * L - r * u) = (-x * I + t * J) * K + I * r * u := by grind
theorem ri10 (r K I u e m c : Int) : r * K + I * r * u + (-e - 2 * m * c + m * c) * r = (K - e - m * c + u * I) * r := by grind
theorem ri11 (p c z u n x : Int) : -p * -(c * (z + u * n)) + -(x + p * u) * (n * c) = c * (p * z - n * x) := by grind
theorem ri12 (p x b z a u n : Int) : p * (x * b + z * a + u * (p * b + n * a)) - -(x + p * u) * -(p * b + n * a) = a * (p * z - n * x) := by grind
theorem ri13 (p k y l : Int) : -(-p * k + -y * l) = p * k - -y * l := by grind
theorem ri14 (e m c : Int) : e = -(-e - 2 * m * c) - 2 * (m * c) := by grind
theorem ri15 (i r : Int) : -i * r = -(i * r) := by grind
/-- the deed by which one comes back -/
structure BackOf (q : Q4) (p n : Int) (x1 n1 : Int) : Prop where
  hn : n1 * c1Q q p n = colJ q n
  h0 : 0 ≤ x1
  h1 : x1 < n1 * shareQ (ledF q p n)
  w : ∃ x z t, p * z - n * x = 1 ∧ -x1 * colI q p n + t * colJ q n = c1Q q p n ∧ c1Q q p n ∣ x1 * colK q n x z - t * colL q z - (ledF q p n).1
section
variable {q : Q4} {p n : Int}
/-- what one has in hand -/
theorem back_num {x1 n1 x z t u : Int} (hq : okQ q = true) (hd : DeedOk q p n = true) (hn : n1 * c1Q q p n = colJ q n) (hxz : p * z - n * x = 1) (ht : -x1 * colI q p n + t * colJ q n = c1Q q p n) (hu : x1 * colK q n x z - t * colL q z - (ledF q p n).1 = c1Q q p n * u) :
    ∃ i0 : Int, colI q p n = i0 * c1Q q p n ∧ -x1 * i0 + t * n1 = 1 ∧ 1 ≤ n1 ∧
      colI (ledF q p n) x1 n1 = -(q.2.2.1 * (z + u * n)) ∧ colJ (ledF q p n) n1 = n * q.2.2.1 ∧
      c1Q q p n * wD (ledF q p n) n1 = q.2.2.1 * q.2.1 ∧
      colK (ledF q p n) n1 (-t) (-i0) = x * q.2.1 + z * q.1 + u * colI q p n ∧ colL (ledF q p n) (-i0) = -colI q p n := by
  have hL := ledF_led hq hd
  obtain ⟨g1, g2, g3, _⟩ := hL
  have hc := c1_pos (p := p) hq (deed_get hd).1
  have hdet := det_eq (q := q) hxz
  have hb := b1_mul hd
  have hj := colJ_pos hq (deed_get hd).1
  obtain ⟨i0, hi⟩ : c1Q q p n ∣ colI q p n := gcdI_dvdl _ _
  rw [Int.mul_comm] at hi
  generalize hr : ledF q p n = r at *
  generalize hC : c1Q q p n = C at *
  generalize hB : b1Q q p n = B at *
  have hC0 : C ≠ 0 := by omega
  have hJ : colJ q n = n * q.2.2.1 := rfl
  have hI : colI q p n = p * q.2.1 + n * q.1 := rfl
  have hK : colK q n x z = x * q.2.1 + z * q.1 + q.2.2.2 + n * q.2.2.1 := rfl
  have hLL : colL q z = z * q.2.2.1 := rfl
  have hw : wD q n = q.2.1 - n * q.2.2.2 - n * n * q.2.2.1 := rfl
  obtain ⟨ra, rb, rc, re⟩ := r
  simp only at g1 g2 g3 hu ⊢
  subst g2
  subst g3
  subst g1
  generalize colI q p n = I at *
  generalize colJ q n = J at *
  generalize colK q n x z = Kk at *
  generalize colL q z = L at *
  generalize wD q n = w at *
  obtain ⟨a, b, c, e⟩ := q
  simp only at *
  unfold colI colJ colK colL wD
  simp only
  have e1 : -x1 * i0 + t * n1 = 1 := by
    have : (-x1 * i0 + t * n1) * rc = 1 * rc := by
      rw [Int.one_mul, ri1, ← hi, hn, ht]
    exact Int.eq_of_mul_eq_mul_right hC0 this
  have e2 : 1 ≤ n1 := by
    by_cases h : 1 ≤ n1
    · exact h
    · have := Int.mul_le_mul_of_nonneg_right (show n1 ≤ 0 by omega) (show 0 ≤ rc by omega)
      omega
  have e3 : x1 * rb + n1 * ra = -(c * (z + u * n)) := by
    have : (x1 * rb + n1 * ra) * rc = -(c * (z + u * n)) * rc := by
      have f2 : ra = x1 * Kk - t * L - rc * u := by omega
      rw [ri2, hb, hn, f2, ← hdet, ri4, ht, ri3, ← hLL, ← hJ, ri5]
    exact Int.eq_of_mul_eq_mul_right hC0 this
  refine ⟨i0, hi, e1, e2, e3, hn.trans hJ, ?_, ?_, ?_⟩
  · rw [ri6, hb, hn, hJ, hw, ri7]
  · have : (-t * rb + -i0 * ra + (-e - 2 * n * c) + n1 * rc) * rc = (x * b + z * a + u * I) * rc := by
      have f2 : ra = x1 * Kk - t * L - rc * u := by omega
      have f3 : x * b + z * a = Kk - e - n * c := by omega
      rw [ri8, hb, ← hi, f2, ← hdet, hn, ri9, ht, f3, hJ, ri10]
    exact Int.eq_of_mul_eq_mul_right hC0 this
  · rw [hi, ri15]
theorem back_both {x1 n1 : Int} (hq : okQ q = true) (hd : DeedOk q p n = true) (h : BackOf q p n x1 n1) :
    DeedOk (ledF q p n) x1 n1 = true ∧ ledF (ledF q p n) x1 n1 = q ∧ BackOf (ledF q p n) x1 n1 p n := by
  obtain ⟨hn, h0, h1, x, z, t, hxz, ht, u, hu⟩ := h
  obtain ⟨i0, k1, k2, k3, k4, k5, k6, k7, k8⟩ := back_num hq hd hn hxz ht hu
  have hL := ledF_led hq hd
  have hok := led_ok hq hd hL
  obtain ⟨d1, d2, d3, d4, d5⟩ := deed_get hd
  obtain ⟨o1, o2, o3, o4, o5, o6⟩ := okQ_get hq
  have hc := c1_pos (p := p) hq d1
  have hI : colI q p n = p * q.2.1 + n * q.1 := rfl
  have hw : 0 < wD (ledF q p n) n1 := by
    by_cases h : 0 < wD (ledF q p n) n1
    · exact h
    · have a1 := Int.mul_le_mul_of_nonneg_left (show wD (ledF q p n) n1 ≤ 0 by omega) (show 0 ≤ c1Q q p n by omega)
      have a2 := Int.mul_le_mul o2 o1 (by omega) (by omega)
      omega
  have hg1 : gcdI x1 n1 = 1 := gcd_of_bez (s := -i0) (t := t) (by decide) (Int.one_dvd _) (Int.one_dvd _) (by rw [Int.mul_comm t, Int.mul_comm (-i0)]; rw [Int.mul_comm t] at k2; rw [Int.mul_neg]; rw [Int.neg_mul] at k2; exact k2)
  have hdo : DeedOk (ledF q p n) x1 n1 = true := by
    unfold DeedOk
    rw [decide_eq_true k3, decide_eq_true hw, decide_eq_true h0, decide_eq_true h1, decide_eq_true hg1]
    rfl
  have hst : -p * colI (ledF q p n) x1 n1 + -(x + p * u) * colJ (ledF q p n) n1 = q.2.2.1 := by
    rw [k4, k5]
    rw [ri11, hxz, Int.mul_one]
  have hc1 : c1Q (ledF q p n) x1 n1 = q.2.2.1 := gcd_of_bez (by omega) (by rw [k4]; exact Int.dvd_neg.mpr (Int.dvd_mul_right _ _)) (by rw [k5]; exact Int.dvd_mul_left _ _) hst
  have hb1 : b1Q (ledF q p n) x1 n1 = q.2.1 := by
    unfold b1Q
    rw [hc1, hL.c1, k6]
    exact Int.mul_ediv_cancel_left _ (by omega)
  have hKL : p * colK (ledF q p n) n1 (-t) (-i0) - -(x + p * u) * colL (ledF q p n) (-i0) = q.1 := by
    rw [k7, k8, hI]
    rw [ri12, hxz, Int.mul_one]
  have hxz1 : x1 * -i0 - n1 * -t = 1 := by
    rw [Int.mul_neg, Int.mul_neg, Int.mul_comm n1]
    rw [Int.neg_mul] at k2
    omega
  have hled : ledF (ledF q p n) x1 n1 = q := ledF_eq hok hdo ⟨by
    rw [hL.e1, hL.c1]
    have : 2 * n1 * c1Q q p n = 2 * (n * q.2.2.1) := by rw [Int.mul_assoc, hn]; rfl
    rw [this]
    exact ri14 _ _ _, hc1.symm, hb1.symm, -t, -i0, -p, -(x + p * u), hxz1, by rw [hc1]; exact hst, by
    rw [hb1, hc1]
    have : -(-p * colK (ledF q p n) n1 (-t) (-i0) + -(x + p * u) * colL (ledF q p n) (-i0)) = q.1 := by
      rw [ri13, hKL]
    rw [this, Int.emod_eq_of_lt o4 o5]⟩
  refine ⟨hdo, hled, ⟨by rw [hc1, k5], d3, by rw [hled]; exact d4, -t, -i0, -(x + p * u), hxz1, by rw [hc1]; exact hst, by rw [hKL, hled, Int.sub_self]; exact Int.dvd_zero _⟩⟩
end
end Kx
namespace Kx
open PySem PySem.Spec PyProof.Rows L2
theorem rj1 (K I L x t k : Int) (p n : Int) : x * (K + k * I) - t * L = x * K - t * L + x * k * I := by grind
theorem rj2 (x K k I t L J a : Int) : x * (K + k * I) - t * (L + k * J) - a = (x * K - t * L - a) - k * (-x * I + t * J) := by grind
theorem rj3 (x x' i t t' n : Int) (h : -x * i + t * n = 1) (h' : -x' * i + t' * n = 1) : x - x' = n * (x * t' - x' * t) ∧ t - t' = i * (x * t' - x' * t) := by
  have e1 : (x - x') * 1 = n * (x * t' - x' * t) + 0 := by
    have a : x * (-x' * i + t' * n) - x' * (-x * i + t * n) = n * (x * t' - x' * t) := by grind
    rw [h, h'] at a
    omega
  have a2 : t * (-x' * i + t' * n) - t' * (-x * i + t * n) = i * (x * t' - x' * t) := by grind
  rw [h, h'] at a2
  omega
theorem rj4 (x x' K t t' L a : Int) : (x * K - t * L - a) - (x' * K - t' * L - a) = (x - x') * K - (t - t') * L := by grind
theorem rj5 (n m K i L r : Int) : (n * m * K - i * m * L) * r = m * ((n * r) * K - (i * r) * L) := by grind
theorem rj6 (m J K I L : Int) : m * (J * K - I * L) = -m * (I * L - J * K) := by grind
theorem share_mul (b c : Int) (h : gcdI b c ≠ 0) : c / gcdI b c * gcdI b c = c ∧ b / gcdI b c * gcdI b c = b := ⟨Int.ediv_mul_cancel (gcdI_dvdr b c), Int.ediv_mul_cancel (gcdI_dvdl b c)⟩
theorem rj7 (s b t c m : Int) : m * (s * b + t * c) = s * (b * m) + t * c * m := by grind
/-- what the common divisor leaves of c divides m, where c divides b m -/
theorem share_dvd {b c m : Int} (hc : 1 ≤ c) (hb : 0 ≤ b) (h : c ∣ b * m) : c / gcdI b c ∣ m := by
  obtain ⟨s, t, hst⟩ := bez (a := b) (b := c) hb (by omega)
  have hg := gcdI_pos (a := b) (b := c) (by omega)
  obtain ⟨k, hk⟩ := h
  have e : m * gcdI b c = c / gcdI b c * (s * k + t * m) * gcdI b c := by
    rw [← hst, rj7, hk, hst]
    have := (share_mul b c (by omega)).1
    have e2 : c / gcdI b c * (s * k + t * m) * gcdI b c = (c / gcdI b c * gcdI b c) * (s * k + t * m) := by grind
    rw [e2, this]
    grind
  exact ⟨_, Int.eq_of_mul_eq_mul_right (by omega) e⟩
/-- 0 ≤ x, x' < M, M dividing the difference -/
theorem same_of_mod {x x' M k : Int} (h0 : 0 ≤ x) (h1 : x < M) (h0' : 0 ≤ x') (h1' : x' < M) (h : x - x' = M * k) : x = x' := by
  have a : x = x' + M * k := by omega
  have b := Int.emod_eq_of_lt h0 h1
  rw [a, Int.add_mul_emod_self_left, Int.emod_eq_of_lt h0' h1'] at b
  omega
section
variable {q : Q4} {p n : Int}
theorem xz_all {x z x' z' : Int} (hn : 1 ≤ n) (h : p * z - n * x = 1) (h' : p * z' - n * x' = 1) : ∃ k, x' = x + k * p ∧ z' = z + k * n := by
  have a1 : z' * (p * z - n * x) - z * (p * z' - n * x') = n * (z * x' - z' * x) := by grind
  have a2 : x' * (p * z - n * x) - x * (p * z' - n * x') = p * (z * x' - z' * x) := by grind
  rw [h, h'] at a1 a2
  exact ⟨z * x' - z' * x, by rw [Int.mul_comm]; omega, by rw [Int.mul_comm]; omega⟩
/-- it does not hang on x and z -/
theorem back_indep {x1 t x z x' z' : Int} (hn : 1 ≤ n) (h : p * z - n * x = 1) (h' : p * z' - n * x' = 1) (ht : -x1 * colI q p n + t * colJ q n = c1Q q p n) {a : Int} (hu : c1Q q p n ∣ x1 * colK q n x z - t * colL q z - a) : c1Q q p n ∣ x1 * colK q n x' z' - t * colL q z' - a := by
  obtain ⟨k, rfl, rfl⟩ := xz_all hn h h'
  have e1 : colK q n (x + k * p) (z + k * n) = colK q n x z + k * colI q p n := by unfold colK colI; grind
  have e2 : colL q (z + k * n) = colL q z + k * colJ q n := by unfold colL colJ; grind
  rw [e1, e2, rj2, ht]
  exact Int.dvd_sub hu (Int.dvd_mul_left _ _)
/-- the congruences alone tell the deed but for whole turns -/
theorem back_cong {n1 x1 x1' t t' x z a : Int} (hq : okQ q = true) (hd : DeedOk q p n = true) (hn : n1 * c1Q q p n = colJ q n) (hxz : p * z - n * x = 1) (h1 : -x1 * colI q p n + t * colJ q n = c1Q q p n) (h2 : -x1' * colI q p n + t' * colJ q n = c1Q q p n)
    (hu : c1Q q p n ∣ x1 * colK q n x z - t * colL q z - a) (hu' : c1Q q p n ∣ x1' * colK q n x z - t' * colL q z - a) : ∃ k, x1 - x1' = n1 * (c1Q q p n / gcdI (b1Q q p n) (c1Q q p n)) * k := by
  have hc := c1_pos (p := p) hq (deed_get hd).1
  have hb := b1_pos hq hd
  have hdet := det_eq (q := q) hxz
  have hbm := b1_mul hd
  obtain ⟨i0, hi⟩ : c1Q q p n ∣ colI q p n := gcdI_dvdl _ _
  rw [Int.mul_comm] at hi
  have g1 : ∀ x t, -x * colI q p n + t * colJ q n = c1Q q p n → -x * i0 + t * n1 = 1 := fun x t h => by
    have e : (-x * i0 + t * n1) * c1Q q p n = 1 * c1Q q p n := by rw [ri1, ← hi, hn, h, Int.one_mul]
    exact Int.eq_of_mul_eq_mul_right (by omega) e
  obtain ⟨f1, f2⟩ := rj3 x1 x1' i0 t t' n1 (g1 _ _ h1) (g1 _ _ h2)
  generalize x1 * t' - x1' * t = m at *
  have hs := Int.dvd_sub hu hu'
  rw [rj4, f1, f2] at hs
  have e : n1 * m * colK q n x z - i0 * m * colL q z = -(b1Q q p n * m) := by
    have e2 : (n1 * m * colK q n x z - i0 * m * colL q z) * c1Q q p n = -(b1Q q p n * m) * c1Q q p n := by
      rw [rj5, hn, ← hi, rj6, hdet, ← hbm]
      grind
    exact Int.eq_of_mul_eq_mul_right (by omega) e2
  rw [e] at hs
  obtain ⟨k, hk⟩ := share_dvd hc (by omega) (Int.dvd_neg.mp hs)
  exact ⟨k, by rw [f1, hk, Int.mul_assoc]⟩
theorem share_led (hq : okQ q = true) (hd : DeedOk q p n = true) : shareQ (ledF q p n) = c1Q q p n / gcdI (b1Q q p n) (c1Q q p n) := by
  have hL := ledF_led hq hd
  unfold shareQ
  rw [hL.c1, hL.b1]
theorem back_uniq {x1 n1 x1' n1' : Int} (hq : okQ q = true) (hd : DeedOk q p n = true) (h : BackOf q p n x1 n1) (h' : BackOf q p n x1' n1') : x1 = x1' ∧ n1 = n1' := by
  have hc := c1_pos (p := p) hq (deed_get hd).1
  obtain ⟨hn, h0, h1, x, z, t, hxz, ht, hu⟩ := h
  obtain ⟨hn', h0', h1', x', z', t', hxz', ht', hu'⟩ := h'
  have en : n1 = n1' := Int.eq_of_mul_eq_mul_right (show c1Q q p n ≠ 0 by omega) (hn.trans hn'.symm)
  subst en
  obtain ⟨k, hk⟩ := back_cong hq hd hn hxz' ht ht' (back_indep (deed_get hd).1 hxz hxz' ht hu) hu'
  rw [← share_led hq hd] at hk
  exact ⟨same_of_mod h0 h1 h0' h1' hk, rfl⟩
/-- the numbers that the program finds -/
theorem back_mk {x z s t n1 v : Int} (hq : okQ q = true) (hd : DeedOk q p n = true) (hxz : p * z - n * x = 1) (hst : s * colI q p n + t * colJ q n = c1Q q p n) (hn : n1 * c1Q q p n = colJ q n)
    (hv : c1Q q p n / gcdI (b1Q q p n) (c1Q q p n) ∣ b1Q q p n / gcdI (b1Q q p n) (c1Q q p n) * v - 1) :
    BackOf q p n (-(s + ((ledF q p n).1 + s * colK q n x z + t * colL q z) / gcdI (b1Q q p n) (c1Q q p n) * v * n1) % (n1 * (c1Q q p n / gcdI (b1Q q p n) (c1Q q p n)))) n1 := by
  have hc := c1_pos (p := p) hq (deed_get hd).1
  have hb := b1_pos hq hd
  have hdet := det_eq (q := q) hxz
  have hbm := b1_mul hd
  have hj := colJ_pos hq (deed_get hd).1
  have hg := gcdI_pos (a := b1Q q p n) (b := c1Q q p n) (by omega)
  obtain ⟨f1, f2⟩ := share_mul (b1Q q p n) (c1Q q p n) (by omega)
  obtain ⟨i0, hi⟩ : c1Q q p n ∣ colI q p n := gcdI_dvdl _ _
  rw [Int.mul_comm] at hi
  have hL := ledF_led hq hd
  have hsh := share_led hq hd
  have ha : (ledF q p n).1 = (-(s * colK q n x z + t * colL q z)) % gcdI (b1Q q p n) (c1Q q p n) := by
    rw [ledF_eq (r := ((-(s * colK q n x z + t * colL q z)) % gcdI (b1Q q p n) (c1Q q p n), b1Q q p n, c1Q q p n, -q.2.2.2 - 2 * n * q.2.2.1)) hq hd ⟨rfl, rfl, rfl, x, z, s, t, hxz, hst, rfl⟩]
  generalize hS : c1Q q p n / gcdI (b1Q q p n) (c1Q q p n) = sh at hv f1 hsh ⊢
  generalize hgg : gcdI (b1Q q p n) (c1Q q p n) = g at hv f1 f2 hg ha ⊢
  have n1p : 1 ≤ n1 := by
    by_cases h : 1 ≤ n1
    · exact h
    · have := Int.mul_le_mul_of_nonneg_right (show n1 ≤ 0 by omega) (show 0 ≤ c1Q q p n by omega)
      omega
  have shp : 1 ≤ sh := by
    by_cases h : 1 ≤ sh
    · exact h
    · have := Int.mul_le_mul_of_nonneg_right (show sh ≤ 0 by omega) (show 0 ≤ g by omega)
      omega
  have hM := Int.mul_le_mul n1p shp (by omega) (by omega)
  obtain ⟨miss, hmiss⟩ : ∃ m, (ledF q p n).1 + s * colK q n x z + t * colL q z = m * g := by
    rw [ha]
    have := Int.emod_def (-(s * colK q n x z + t * colL q z)) g
    exact ⟨-(-(s * colK q n x z + t * colL q z) / g), by rw [this]; grind⟩
  obtain ⟨y, hy⟩ := hv
  rw [hmiss, Int.mul_ediv_cancel _ (show g ≠ 0 by omega)]
  generalize hN : -(s + miss * v * n1) = N
  obtain ⟨k, hk⟩ : ∃ k, k = N / (n1 * sh) := ⟨_, rfl⟩
  have hx1 : N % (n1 * sh) = N - n1 * sh * k := by rw [hk, Int.emod_def]
  refine ⟨hn, Int.emod_nonneg _ (by omega), by rw [hsh]; exact Int.emod_lt_of_pos _ (by omega), x, z, t - (miss * v + sh * k) * i0, hxz, ?_, ?_⟩
  · rw [hx1, ← hN]
    have e : -(-(s + miss * v * n1) - n1 * sh * k) * colI q p n + (t - (miss * v + sh * k) * i0) * colJ q n = s * colI q p n + t * colJ q n := by
      rw [← hn, hi]
      generalize c1Q q p n = C
      grind
    rw [e, hst]
  · have e1 : n1 * colK q n x z - i0 * colL q z = -b1Q q p n := by
      have e2 : (n1 * colK q n x z - i0 * colL q z) * c1Q q p n = -b1Q q p n * c1Q q p n := by
        have := rj5 n1 1 (colK q n x z) i0 (colL q z) (c1Q q p n)
        rw [Int.mul_one, Int.mul_one, Int.one_mul, hn, ← hi] at this
        rw [this, show -b1Q q p n * c1Q q p n = -(b1Q q p n * c1Q q p n) by grind, hbm, ← hdet]
        omega
      exact Int.eq_of_mul_eq_mul_right (by omega) e2
    have e3 : (N - n1 * sh * k) * colK q n x z - (t - (miss * v + sh * k) * i0) * colL q z - (ledF q p n).1 = -((ledF q p n).1 + s * colK q n x z + t * colL q z) - (miss * v + sh * k) * (n1 * colK q n x z - i0 * colL q z) := by
      rw [← hN]
      generalize colK q n x z = K
      generalize colL q z = L
      generalize (ledF q p n).1 = A
      grind
    rw [hx1, e3, hmiss, e1, ← f2]
    obtain ⟨b0, hb0⟩ : ∃ b0, b0 = b1Q q p n / g := ⟨_, rfl⟩
    rw [← hb0] at f2 hy ⊢
    have e5 : -(miss * g) - (miss * v + sh * k) * -(b0 * g) = sh * g * (miss * y + k * b0) := by
      have e6 : -(miss * g) - (miss * v + sh * k) * -(b0 * g) = g * (miss * (b0 * v - 1) + sh * k * b0) := by grind
      rw [e6, hy]
      grind
    rw [e5, f1]
    exact Int.dvd_mul_right _ _
theorem coprime_parts {b c : Int} (hb : 0 ≤ b) (hc : 1 ≤ c) : gcdI (b / gcdI b c) (c / gcdI b c) = 1 := by
  obtain ⟨s, t, hst⟩ := bez (a := b) (b := c) hb (by omega)
  have hg := gcdI_pos (a := b) (b := c) (by omega)
  obtain ⟨f1, f2⟩ := share_mul b c (by omega)
  refine gcd_of_bez (s := s) (t := t) (by decide) (Int.one_dvd _) (Int.one_dvd _) ?_
  have e : (s * (b / gcdI b c) + t * (c / gcdI b c)) * gcdI b c = 1 * gcdI b c := by
    rw [Int.one_mul, Int.add_mul, Int.mul_assoc, Int.mul_assoc, f1, f2, hst]
  exact Int.eq_of_mul_eq_mul_right (by omega) e
theorem back_ex (hq : okQ q = true) (hd : DeedOk q p n = true) : ∃ x1 n1, BackOf q p n x1 n1 := by
  have hc := c1_pos (p := p) hq (deed_get hd).1
  have hb := b1_pos hq hd
  have hj := colJ_pos hq (deed_get hd).1
  have hi := colI_nn hq (deed_get hd).2.2.1 (deed_get hd).1
  obtain ⟨z, y, hzy⟩ := bez (a := p) (b := n) (deed_get hd).2.2.1 (by have := (deed_get hd).1; omega)
  obtain ⟨s, t, hst⟩ := bez (a := colI q p n) (b := colJ q n) hi (by omega)
  have hg := gcdI_pos (a := b1Q q p n) (b := c1Q q p n) (by omega)
  obtain ⟨v, w, hvw⟩ := bez (a := b1Q q p n / gcdI (b1Q q p n) (c1Q q p n)) (b := c1Q q p n / gcdI (b1Q q p n) (c1Q q p n)) (Int.ediv_nonneg (by omega) (by omega)) (Int.ediv_nonneg (by omega) (by omega))
  rw [coprime_parts (by omega) hc] at hvw
  rw [(deed_get hd).2.2.2.2] at hzy
  exact ⟨_, _, back_mk (x := -y) (z := z) (v := v) (n1 := colJ q n / c1Q q p n) hq hd (by rw [Int.mul_neg, Int.mul_comm p, Int.mul_comm n]; omega) hst (Int.ediv_mul_cancel (gcdI_dvdr _ _)) ⟨-w, by rw [Int.mul_neg, Int.mul_comm _ w, Int.mul_comm _ v]; omega⟩⟩
end
noncomputable def backF (q : Q4) (p n : Int) : P2 := @dite _ (∃ r : P2, BackOf q p n r.1 r.2) (Classical.propDecidable _) (fun h => h.choose) (fun _ => (0, 0))
theorem backF_back {q : Q4} {p n : Int} (hq : okQ q = true) (hd : DeedOk q p n = true) : BackOf q p n (backF q p n).1 (backF q p n).2 := by
  obtain ⟨x, m, h⟩ := back_ex hq hd
  have hx : ∃ r : P2, BackOf q p n r.1 r.2 := ⟨(x, m), h⟩
  unfold backF
  rw [dif_pos hx]
  exact hx.choose_spec
theorem backF_eq {q : Q4} {p n : Int} {r : P2} (hq : okQ q = true) (hd : DeedOk q p n = true) (h : BackOf q p n r.1 r.2) : backF q p n = r := by
  obtain ⟨h1, h2⟩ := back_uniq hq hd (backF_back hq hd) h
  exact Prod.ext h1 h2
end Kx
namespace Kx
open PySem PySem.Spec PyProof.Rows L2
/-! promises -/
def spInv : Sp := fun vs H Q _ => ∃ x m : Int, vs = [.int x, .int m] ∧ 0 ≤ x ∧ 1 ≤ m ∧ x < 2 ^ 900 ∧ m < 2 ^ 900 ∧ gcdI x m = 1 ∧ ∀ (v : Int) (H' : Hp), Same H H' → 0 ≤ v → v < m → m ∣ x * v - 1 → Q (.int v) H'
def spBack : Sp := fun vs H Q _ => ∃ (pr pt : Addr) (q : Q4) (p n : Int), vs = [.ref pr, .ref pt] ∧ DAt H pr pt q p n ∧ ∀ (r : Addr) (H' : Hp), H r = none → Same H H' → H' r = some (.tup [.int (backF q p n).1, .int (backF q p n).2]) → Q (.ref r) H'
def FitsP (q : Q4) (p n x1 n1 : Int) : Prop := n1 * c1Q q p n = colJ q n ∧ ∃ x z t, p * z - n * x = 1 ∧ -x1 * colI q p n + t * colJ q n = c1Q q p n ∧ c1Q q p n ∣ x1 * colK q n x z - t * colL q z - (ledF q p n).1
def spFits : Sp := fun vs H Q _ => ∃ (pr pt pw pd : Addr) (q : Q4) (p n x1 n1 : Int), vs = [.ref pr, .ref pt, .ref pw, .ref pd] ∧ DAt H pr pt q p n ∧ H pw = some (.tup (cutV4 (ledF q p n))) ∧ Sz4 700 (ledF q p n) ∧ H pd = some (.tup [.int x1, .int n1]) ∧ x1.natAbs < 2 ^ 200 ∧ n1.natAbs < 2 ^ 200 ∧ ∀ (b : Bool) (H' : Hp), Same H H' → (b = true ↔ FitsP q p n x1 n1) → Q (.bl b) H'
def spLawBack : Sp := fun vs H Q _ => ∃ (pr pt : Addr) (q : Q4) (p n : Int), vs = [.ref pr, .ref pt] ∧ DAt H pr pt q p n ∧ measC q ≤ 400 ∧ ∀ (r pd : Addr) (H' : Hp), H r = none → Same H H' → H' r = some (.lst [.ref pd]) → H' pd = some (.tup [.int (backF q p n).1, .int (backF q p n).2]) → Q (.ref r) H'
theorem inv_of {x m s t : Int} (hm : 1 ≤ m) (h : s * (x % m) + t * m = 1) : m ∣ x * (s % m) - 1 := by
  have e1 := Int.emod_def x m
  have e2 := Int.emod_def s m
  refine ⟨x / m * s - t - x * (s / m), ?_⟩
  rw [e2]
  rw [e1] at h
  generalize x / m = k at *
  generalize s / m = l at *
  have : s * (x - m * k) + t * m = s * x - m * k * s + t * m := by grind
  have e3 : x * (s - m * l) = s * x - m * l * x := by grind
  have e4 : m * (k * s - t - x * l) = m * k * s - t * m - m * l * x := by grind
  omega
theorem fits_back {q : Q4} {p n x1 n1 : Int} (hq : okQ q = true) (hd : DeedOk q p n = true) (h : FitsP q p n x1 n1) (hx : DeedOk (ledF q p n) x1 n1 = true) : (x1, n1) = backF q p n := by
  obtain ⟨d1, d2, d3, d4, d5⟩ := deed_get hx
  exact (backF_eq (r := (x1, n1)) hq hd ⟨h.1, d3, d4, h.2⟩).symm
theorem back_fits {q : Q4} {p n : Int} (hq : okQ q = true) (hd : DeedOk q p n = true) : FitsP q p n (backF q p n).1 (backF q p n).2 := ⟨(backF_back hq hd).hn, (backF_back hq hd).w⟩
theorem back_deed {q : Q4} {p n : Int} (hq : okQ q = true) (hd : DeedOk q p n = true) : DeedOk (ledF q p n) (backF q p n).1 (backF q p n).2 = true := (back_both hq hd (backF_back hq hd)).1
theorem back_led {q : Q4} {p n : Int} (hq : okQ q = true) (hd : DeedOk q p n = true) : ledF (ledF q p n) (backF q p n).1 (backF q p n).2 = q := (back_both hq hd (backF_back hq hd)).2.1
theorem back_back {q : Q4} {p n : Int} (hq : okQ q = true) (hd : DeedOk q p n = true) : backF (ledF q p n) (backF q p n).1 (backF q p n).2 = (p, n) := backF_eq (r := (p, n)) (led_ok hq hd (ledF_led hq hd)) (back_deed hq hd) (back_both hq hd (backF_back hq hd)).2.2
theorem pairsE_nodup (m sh : Int) : (pairsE m sh).Nodup := by
  unfold pairsE
  refine List.pairwise_map.mpr ((List.nodup_range.filter _).imp ?_)
  intro a b h h2
  injection h2 with h3
  omega
theorem dL_snd {q : Q4} {n : Nat} {x : P2} (h : x ∈ dL q n) : x.2 ≤ n := by
  induction n with
  | zero => simp [dL, fm] at h
  | succ n ih =>
    have hd : dL q (n + 1) = dL q n ++ pairsE ((n : Int) + 1) (shareQ q) := fm_succ n _
    rw [hd] at h
    rcases List.mem_append.mp h with h | h
    · have := ih h
      omega
    · unfold pairsE at h
      obtain ⟨a, _, rfl⟩ := List.mem_map.mp h
      show (n : Int) + 1 ≤ ((n + 1 : Nat) : Int)
      omega
theorem dL_nodup (q : Q4) (n : Nat) : (dL q n).Nodup := by
  induction n with
  | zero => exact List.nodup_nil
  | succ n ih =>
    have hd : dL q (n + 1) = dL q n ++ pairsE ((n : Int) + 1) (shareQ q) := fm_succ n _
    rw [hd]
    refine List.nodup_append.mpr ⟨ih, pairsE_nodup _ _, ?_⟩
    rintro x h1 y h2 rfl
    have := dL_snd h1
    unfold pairsE at h2
    obtain ⟨a, _, rfl⟩ := List.mem_map.mp h2
    simp only at this
    omega
theorem deeds_nodup (q : Q4) : (srtP (deedsL q)).Nodup := (srtP_perm _).nodup_iff.mpr (dL_nodup q _)
theorem filter_one {α : Type} {l : List α} {a : α} {f : α → Bool} (hn : l.Nodup) (ha : a ∈ l) (hf : ∀ x ∈ l, f x = true ↔ x = a) : l.filter f = [a] := by
  induction l with
  | nil => cases ha
  | cons b l ih =>
    obtain ⟨n1, n2⟩ := List.nodup_cons.mp hn
    by_cases hb : b = a
    · subst hb
      rw [List.filter_cons_of_pos ((hf b List.mem_cons_self).mpr rfl)]
      have : l.filter f = [] := List.filter_eq_nil_iff.mpr fun x hx h => by
        have := (hf x (List.mem_cons_of_mem _ hx)).mp h
        subst this
        exact n1 hx
      rw [this]
    · rw [List.filter_cons_of_neg (fun h => hb ((hf b List.mem_cons_self).mp h))]
      exact ih n2 ((List.mem_cons.mp ha).resolve_left fun h => hb h.symm) fun x hx => hf x (List.mem_cons_of_mem _ hx)
end Kx
namespace Kx
open PySem PySem.Spec PyProof.Rows L2
theorem row15_0 : okQ ((0, 2, 1, -3) : Q4) = true ∧ DeedOk ((0, 2, 1, -3) : Q4) (0) (1) = true ∧ backF ((0, 2, 1, -3) : Q4) (0) (1) = ((0, 1) : P2) := by
  have h1 : okQ ((0, 2, 1, -3) : Q4) = true := by decide +kernel
  have h2 : DeedOk ((0, 2, 1, -3) : Q4) (0) (1) = true := by decide +kernel
  have h3 : ledF ((0, 2, 1, -3) : Q4) (0) (1) = ((0, 4, 1, 1) : Q4) := ledF_eq h1 h2 ⟨by decide +kernel, by decide +kernel, by decide +kernel, -1, 0, 0, 1, by decide +kernel, by decide +kernel, by decide +kernel⟩
  exact ⟨h1, h2, backF_eq (r := ((0, 1) : P2)) h1 h2 ⟨by decide +kernel, by decide +kernel, by rw [h3]; decide +kernel, -1, 0, 1, by decide +kernel, by decide +kernel, by rw [h3]; decide +kernel⟩⟩
theorem row15_1 : okQ ((0, 2, 1, -3) : Q4) = true ∧ DeedOk ((0, 2, 1, -3) : Q4) (1) (2) = true ∧ backF ((0, 2, 1, -3) : Q4) (1) (2) = ((0, 1) : P2) := by
  have h1 : okQ ((0, 2, 1, -3) : Q4) = true := by decide +kernel
  have h2 : DeedOk ((0, 2, 1, -3) : Q4) (1) (2) = true := by decide +kernel
  have h3 : ledF ((0, 2, 1, -3) : Q4) (1) (2) = ((1, 2, 2, -1) : Q4) := ledF_eq h1 h2 ⟨by decide +kernel, by decide +kernel, by decide +kernel, 0, 1, 0, 1, by decide +kernel, by decide +kernel, by decide +kernel⟩
  exact ⟨h1, h2, backF_eq (r := ((0, 1) : P2)) h1 h2 ⟨by decide +kernel, by decide +kernel, by rw [h3]; decide +kernel, 0, 1, 1, by decide +kernel, by decide +kernel, by rw [h3]; decide +kernel⟩⟩
theorem row15_2 : okQ ((0, 2, 1, -3) : Q4) = true ∧ DeedOk ((0, 2, 1, -3) : Q4) (1) (3) = true ∧ backF ((0, 2, 1, -3) : Q4) (1) (3) = ((1, 3) : P2) := by
  have h1 : okQ ((0, 2, 1, -3) : Q4) = true := by decide +kernel
  have h2 : DeedOk ((0, 2, 1, -3) : Q4) (1) (3) = true := by decide +kernel
  have h3 : ledF ((0, 2, 1, -3) : Q4) (1) (3) = ((0, 2, 1, -3) : Q4) := ledF_eq h1 h2 ⟨by decide +kernel, by decide +kernel, by decide +kernel, 0, 1, -1, 1, by decide +kernel, by decide +kernel, by decide +kernel⟩
  exact ⟨h1, h2, backF_eq (r := ((1, 3) : P2)) h1 h2 ⟨by decide +kernel, by decide +kernel, by rw [h3]; decide +kernel, 0, 1, 1, by decide +kernel, by decide +kernel, by rw [h3]; decide +kernel⟩⟩
theorem row15_3 : okQ ((0, 2, 1, -3) : Q4) = true ∧ DeedOk ((0, 2, 1, -3) : Q4) (2) (3) = true ∧ backF ((0, 2, 1, -3) : Q4) (2) (3) = ((2, 3) : P2) := by
  have h1 : okQ ((0, 2, 1, -3) : Q4) = true := by decide +kernel
  have h2 : DeedOk ((0, 2, 1, -3) : Q4) (2) (3) = true := by decide +kernel
  have h3 : ledF ((0, 2, 1, -3) : Q4) (2) (3) = ((0, 2, 1, -3) : Q4) := ledF_eq h1 h2 ⟨by decide +kernel, by decide +kernel, by decide +kernel, -1, -1, 1, -1, by decide +kernel, by decide +kernel, by decide +kernel⟩
  exact ⟨h1, h2, backF_eq (r := ((2, 3) : P2)) h1 h2 ⟨by decide +kernel, by decide +kernel, by rw [h3]; decide +kernel, -1, -1, 3, by decide +kernel, by decide +kernel, by rw [h3]; decide +kernel⟩⟩
theorem row15_4 : okQ ((1, 2, 2, -1) : Q4) = true ∧ DeedOk ((1, 2, 2, -1) : Q4) (0) (1) = true ∧ backF ((1, 2, 2, -1) : Q4) (0) (1) = ((1, 2) : P2) := by
  have h1 : okQ ((1, 2, 2, -1) : Q4) = true := by decide +kernel
  have h2 : DeedOk ((1, 2, 2, -1) : Q4) (0) (1) = true := by decide +kernel
  have h3 : ledF ((1, 2, 2, -1) : Q4) (0) (1) = ((0, 2, 1, -3) : Q4) := ledF_eq h1 h2 ⟨by decide +kernel, by decide +kernel, by decide +kernel, -1, 0, 1, 0, by decide +kernel, by decide +kernel, by decide +kernel⟩
  exact ⟨h1, h2, backF_eq (r := ((1, 2) : P2)) h1 h2 ⟨by decide +kernel, by decide +kernel, by rw [h3]; decide +kernel, -1, 0, 1, by decide +kernel, by decide +kernel, by rw [h3]; decide +kernel⟩⟩
theorem row15_5 : okQ ((0, 1, 2, -3) : Q4) = true ∧ DeedOk ((0, 1, 2, -3) : Q4) (1) (1) = true ∧ backF ((0, 1, 2, -3) : Q4) (1) (1) = ((1, 2) : P2) := by
  have h1 : okQ ((0, 1, 2, -3) : Q4) = true := by decide +kernel
  have h2 : DeedOk ((0, 1, 2, -3) : Q4) (1) (1) = true := by decide +kernel
  have h3 : ledF ((0, 1, 2, -3) : Q4) (1) (1) = ((0, 4, 1, -1) : Q4) := ledF_eq h1 h2 ⟨by decide +kernel, by decide +kernel, by decide +kernel, -1, 0, 1, 0, by decide +kernel, by decide +kernel, by decide +kernel⟩
  exact ⟨h1, h2, backF_eq (r := ((1, 2) : P2)) h1 h2 ⟨by decide +kernel, by decide +kernel, by rw [h3]; decide +kernel, -1, 0, 1, by decide +kernel, by decide +kernel, by rw [h3]; decide +kernel⟩⟩
def p2D (x : P2) : PyData := .tuple [.int x.1, .int x.2]
theorem dp_pair {K : PySem.W.Frag} {H : Hp} {a : Addr} {x : P2} (h : H a = some (.tup [.int x.1, .int x.2])) : Dp K H (.ref a) (p2D x) := .tup (SqT.of h) (.cons (.int _) (.cons (.int _) .nil))
theorem PrAll.dp {K : PySem.W.Frag} {H : Hp} {ls : List Addr} {qs : List P2} (h : PrAll H ls qs) : DpAll K H (ls.map V.ref) (qs.map p2D) := by
  induction h with
  | nil => exact .nil
  | cons e _ ih => exact .cons (dp_pair e) ih
theorem shaped_pairs (qs : List P2) : SeqAt.shaped (.list (qs.map p2D)) = true := by
  have h : ∀ qs : List P2, PyData.canLayAll0 (qs.map p2D) = true ∧ PyData.depthAll (qs.map p2D) ≤ 5 := fun qs => by
    induction qs with
    | nil => exact ⟨rfl, by simp only [List.map_nil, PyData.depthAll]; omega⟩
    | cons q qs ih =>
      refine ⟨?_, ?_⟩
      · rw [List.map_cons, PyData.canLayAll0, ih.1]; rfl
      · have := ih.2
        simp only [List.map_cons, PyData.depthAll, p2D, PyData.depth]
        omega
  have e1 : PyData.canLay0 (.list (qs.map p2D)) = true := by rw [PyData.canLay0]; exact (h qs).1
  have e2 : PyData.depth (.list (qs.map p2D)) ≤ 64 := by rw [PyData.depth]; have := (h qs).2; omega
  unfold SeqAt.shaped
  rw [e1, decide_eq_true e2]
  rfl
theorem rp_pairs {K : PySem.W.Frag} {H : Hp} {p : Addr} {ls : List Addr} {qs : List P2} (e : H p = some (.lst (ls.map V.ref))) (h : PrAll H ls qs) (hz : ∀ q ∈ qs, q.1.natAbs < 2 ^ 700 ∧ q.2.natAbs < 2 ^ 700) (hn : qs.length ≤ 2000) : Rp K H (.ref p) (.list (qs.map p2D)) := by
  have all : ∀ qs : List P2, (∀ q ∈ qs, q.1.natAbs < 2 ^ 700 ∧ q.2.natAbs < 2 ^ 700) → PyData.showableAll (qs.map p2D) = true ∧ PyData.hasDictAll (qs.map p2D) = false ∧ PyData.depthAll (qs.map p2D) ≤ 5 ∧ costAll (qs.map p2D) ≤ 7000 * qs.length + 1000 := fun qs hz => by
    induction qs with
    | nil => exact ⟨rfl, rfl, by simp only [List.map_nil, PyData.depthAll]; omega, by simp only [List.map_nil, costAll, List.length_nil]; omega⟩
    | cons q qs ih =>
      obtain ⟨i1, i2, i3, i4⟩ := ih fun x hx => hz x (List.mem_cons_of_mem _ hx)
      obtain ⟨z1, z2⟩ := hz q List.mem_cons_self
      refine ⟨?_, ?_, ?_, ?_⟩
      · simp only [List.map_cons, p2D, PyData.showableAll, PyData.showable, log_sz z1 (show 700 ≤ 1900 by decide), log_sz z2 (show 700 ≤ 1900 by decide), decide_true, Bool.and_self, Bool.true_and, i1]
      · simp only [List.map_cons, p2D, PyData.hasDictAll, PyData.hasDict, Bool.or_self, i2]
      · simp only [List.map_cons, p2D, PyData.depthAll, PyData.depth]; omega
      · simp only [List.map_cons, p2D, costAll, cost, List.length_cons]; omega
  obtain ⟨i1, i2, i3, i4⟩ := all qs hz
  exact ⟨.lst (SqL.of e) h.dp, by simp only [PyData.showable]; exact i1, by simp only [PyData.hasDict]; exact i2, by rw [PyData.depth]; omega, by rw [cost]; omega⟩
/-! ### pairs of a cutting and a deed -/
abbrev QP := Q4 × P2
def qpD (x : QP) : PyData := .tuple [quadD x.1, p2D x.2]
inductive KAll (H : Hp) : List Addr → List QP → Prop
  | nil : KAll H [] []
  | cons {l ra ta : Addr} {x : QP} {ls : List Addr} {xs : List QP} : H l = some (.tup [.ref ra, .ref ta]) → H ra = some (.tup (cutV4 x.1)) → H ta = some (.tup [.int x.2.1, .int x.2.2]) → KAll H ls xs → KAll H (l :: ls) (x :: xs)
section
variable {H H' : Hp} {ls ms : List Addr} {xs ys : List QP}
theorem KAll.imp (h : KAll H ls xs) (f : ∀ l xs, H l = some (.tup xs) → H' l = some (.tup xs)) : KAll H' ls xs := by
  induction h with
  | nil => exact .nil
  | cons e1 e2 e3 _ ih => exact .cons (f _ _ e1) (f _ _ e2) (f _ _ e3) ih
theorem KAll.append (h : KAll H ls xs) (h2 : KAll H ms ys) : KAll H (ls ++ ms) (xs ++ ys) := by
  induction h with
  | nil => exact h2
  | cons e1 e2 e3 _ ih => exact .cons e1 e2 e3 ih
theorem KAll.len (h : KAll H ls xs) : ls.length = xs.length := by
  induction h with
  | nil => rfl
  | cons _ _ _ _ ih => rw [List.length_cons, List.length_cons, ih]
theorem dp_qp {K : PySem.W.Frag} {l ra ta : Addr} {x : QP} (e1 : H l = some (.tup [.ref ra, .ref ta])) (e2 : H ra = some (.tup (cutV4 x.1))) (e3 : H ta = some (.tup [.int x.2.1, .int x.2.2])) : Dp K H (.ref l) (qpD x) := .tup (SqT.of e1) (.cons (dp_quad e2) (.cons (dp_pair e3) .nil))
theorem KAll.dp {K : PySem.W.Frag} (h : KAll H ls xs) : DpAll K H (ls.map V.ref) (xs.map qpD) := by
  induction h with
  | nil => exact .nil
  | cons e1 e2 e3 _ ih => exact .cons (dp_qp e1 e2 e3) ih
end
theorem shaped_qps (qs : List QP) : SeqAt.shaped (.list (qs.map qpD)) = true := by
  have h : ∀ qs : List QP, PyData.canLayAll0 (qs.map qpD) = true ∧ PyData.depthAll (qs.map qpD) ≤ 8 := fun qs => by
    induction qs with
    | nil => exact ⟨rfl, by simp only [List.map_nil, PyData.depthAll]; omega⟩
    | cons q qs ih =>
      refine ⟨?_, ?_⟩
      · rw [List.map_cons, PyData.canLayAll0, ih.1]; rfl
      · have := ih.2
        simp only [List.map_cons, PyData.depthAll, qpD, quadD, p2D, PyData.depth]
        omega
  have e1 : PyData.canLay0 (.list (qs.map qpD)) = true := by rw [PyData.canLay0]; exact (h qs).1
  have e2 : PyData.depth (.list (qs.map qpD)) ≤ 64 := by rw [PyData.depth]; have := (h qs).2; omega
  unfold SeqAt.shaped
  rw [e1, decide_eq_true e2]
  rfl
theorem eqv_pair (x y : P2) (h : PyData.eqv (p2D x) (p2D y) = true) : x = y := by
  simp [p2D, PyData.eqv, PyData.eqvAll] at h
  exact Prod.ext h.1 h.2
theorem eqv_quad (x y : Q4) (h : PyData.eqv (quadD x) (quadD y) = true) : x = y := by
  simp [quadD, PyData.eqv, PyData.eqvAll] at h
  obtain ⟨h1, h2, h3, h4⟩ := h
  exact Prod.ext h1 (Prod.ext h2 (Prod.ext h3 h4))
theorem eqv_qp (x y : QP) (h : PyData.eqv (qpD x) (qpD y) = true) : x = y := by
  unfold qpD at h
  rw [PyData.eqv] at h
  simp only [PyData.eqvAll, Bool.and_eq_true, Bool.and_true] at h
  exact Prod.ext (eqv_quad _ _ h.1) (eqv_pair _ _ h.2)
theorem qp_notin {xs : List QP} {x : QP} (h : x ∉ xs) : ((xs.map qpD).any fun z => PyData.eqv z (qpD x)) = false := by
  rw [List.any_eq_false]
  intro z hz e
  obtain ⟨y, hy, rfl⟩ := List.mem_map.mp hz
  exact h (eqv_qp _ _ e ▸ hy)
theorem pair_in {xs : List P2} {x : P2} : ((xs.map p2D).any fun z => PyData.eqv z (p2D x)) = decide (x ∈ xs) := by
  by_cases h : x ∈ xs
  · rw [decide_eq_true h, List.any_eq_true]
    exact ⟨p2D x, List.mem_map.mpr ⟨x, h, rfl⟩, eqv_same rfl⟩
  · rw [decide_eq_false h, List.any_eq_false]
    intro z hz e
    obtain ⟨y, hy, rfl⟩ := List.mem_map.mp hz
    exact h (eqv_pair _ _ e ▸ hy)
/-- told and behind -/
noncomputable def turnF (q : Q4) (x : P2) : QP := (ledF q x.1 x.2, backF q x.1 x.2)
theorem turnF_inj {q : Q4} {x y : P2} (hq : okQ q = true) (hx : DeedOk q x.1 x.2 = true) (hy : DeedOk q y.1 y.2 = true) (h : turnF q x = turnF q y) : x = y := by
  have h1 := back_back hq hx
  have h2 := back_back hq hy
  unfold turnF at h
  injection h with h3 h4
  rw [h3, h4, h2] at h1
  exact h1.symm
def InvR15 (q : Q4) (g pc pe pk : Addr) (H : Hp) : Nat → SV → Hp → Prop := fun i σ H2 => ∃ (t4 t5 t6 : Option V) (ks : List Addr), σ = [some (.ref g), some (.ref pc), some (.ref pe), some (.ref pk), t4, t5, t6, none, none] ∧ Keep pk H H2 ∧ H2 pk = some (.lst (ks.map V.ref)) ∧ KAll H2 ks (((srtP (deedsL q)).take i).map (turnF q))
def InvR15b (g pc pe pk p7 : Addr) (H : Hp) : Nat → SV → Hp → Prop := fun _ σ H2 => ∃ t4 t5 t6 t8 : Option V, σ = [some (.ref g), some (.ref pc), some (.ref pe), some (.ref pk), t4, t5, t6, some (.ref p7), t8] ∧ Same H H2
def rows15 : List P2 := [(0, 1), (0, 1), (1, 3), (2, 3)]
end Kx
namespace Kx
theorem nodup_take {α : Type} {l : List α} {i : Nat} {x : α} (hn : l.Nodup) (hx : l[i]? = some x) : x ∉ l.take i := fun h => by
  obtain ⟨j, hj, e⟩ := List.mem_iff_getElem.mp h
  rw [List.length_take] at hj
  rw [List.getElem_take] at e
  obtain ⟨hi, e2⟩ := List.getElem?_eq_some_iff.mp hx
  exact (List.pairwise_iff_getElem.mp hn) j i (by omega) hi (by omega) (e.trans e2.symm)
end Kx

set_option Elab.async false
set_option linter.all false
set_option maxRecDepth 100000
set_option maxHeartbeats 4000000
set_option exponentiation.threshold 4000
/-! How many deeds. -/
namespace Kx
open PySem PySem.Spec PyProof.Rows L2
section
variable {X : Cx}
theorem get_listN : PGet X (fun o i H Q => ∃ p xs n v, o = .ref p ∧ i = .int n ∧ 0 ≤ n ∧ H p = some (.lst xs) ∧ atI xs n = some v ∧ Q v H) := by
  rintro pins s σ H o i ov iv Q I r1 r2 ⟨p, xs, n, v, rfl, rfl, h0, hp, hv, q⟩
  cases r1
  obtain ⟨t, rfl⟩ := r2
  obtain ⟨its, r, pl, hz⟩ := I.list (SqL.of hp)
  obtain ⟨j, h1, h2, h3, h4, h5⟩ := atI_get hv
  obtain ⟨w, ew, rw'⟩ := r.get h2
  have hl := r.length
  have hn := line63
  have hj : n.toNat = j := by
    rw [seqIndex_of h0 h5] at h1
    exact Option.some.inj h1
  exact wpAny_getItem_list pl.isList h0 (by omega) (by rw [hj]; simpa using ew) ⟨v, H, I, rw', q⟩
end
theorem forW_step {g : TG} {tb : TS} {D : Ends} {σ : SV} {H : Hp} {n : Nat} {lo c : Int} (Pv : Nat → SV → Hp → Prop) (h0 : Pv 0 σ H)
    (hs : ∀ i σ' H', i < n → Pv i σ' H' → g (.int (lo + (i : Nat) * c)) σ' H' fun σ2 H2 => tb { D with nx := Pv (i + 1), ct := Pv (i + 1), bk := D.nx } σ2 H2)
    (hd : ∀ σ' H', Pv n σ' H' → D.nx σ' H') : ForW (Itc lo c n) g tb D σ H := by
  refine ⟨fun i m σ H => i + m = n ∧ Pv i σ H, ⟨n, by omega, h0⟩, fun i m σ H => ?_⟩
  rintro ⟨hm, p⟩
  rcases Nat.lt_or_ge i n with hl | hl
  · refine .inr ⟨hl, Pv (i + 1), fun σ' H' p' => ⟨n - (i + 1), by omega, by omega, p'⟩, fun x H' y => ?_⟩
    obtain ⟨rfl, rfl⟩ := y
    exact hs i _ _ hl p
  · obtain rfl : i = n := by omega
    exact .inl ⟨hl, hd _ _ p⟩
/-! ### the sieve as it goes -/
def sieveIn (p : Nat) (m : List Int) : Nat → List Int
  | 0 => m
  | k + 1 => (sieveIn p m k).set (p * (k + 1)) ((sieveIn p m k).getD (p * (k + 1)) 0 - (sieveIn p m k).getD (p * (k + 1)) 0 / p)
def sieveOut (g : Nat) : Nat → List Int
  | 0 => (List.range (g + 1)).map fun i : Nat => (i : Int)
  | i + 1 => if (sieveOut g i).getD (i + 2) 0 = ((i + 2 : Nat) : Int) then sieveIn (i + 2) (sieveOut g i) (g / (i + 2)) else sieveOut g i
def totL (g : Nat) : List Int := sieveOut g (g - 1)
theorem sieveIn_len (p : Nat) (m : List Int) (k : Nat) : (sieveIn p m k).length = m.length := by
  induction k with
  | zero => rfl
  | succ k ih => rw [sieveIn, List.length_set, ih]
theorem sieveOut_len (g i : Nat) : (sieveOut g i).length = g + 1 := by
  induction i with
  | zero => simp [sieveOut]
  | succ i ih =>
    rw [sieveOut]
    split
    · rw [sieveIn_len, ih]
    · exact ih
theorem pairsE_per (m sh : Nat) : (pairsE m (sh : Int)).length = sh * (pairsE m 1).length := by
  have key : ∀ s : Nat, (List.range (m * s)).countP (fun a : Nat => decide (gcdI (a : Int) m = 1)) = s * (List.range m).countP (fun a : Nat => decide (gcdI (a : Int) m = 1)) := fun s => by
    induction s with
    | zero => simp
    | succ s ih =>
      rw [Nat.mul_succ, List.range_add, List.countP_append, ih, Nat.succ_mul]
      congr 1
      rw [List.countP_map]
      refine List.countP_congr fun a ha => ?_
      have : gcdI (((m * s + a : Nat) : Int)) m = gcdI (a : Int) m := by
        unfold gcdI
        congr 1
        simp only [Int.natAbs_natCast]
        rw [Nat.add_comm, Nat.gcd_comm, Nat.gcd_add_mul_left_right, Nat.gcd_comm]
      simp only [Function.comp]
      rw [this]
  unfold pairsE
  rw [List.length_map, List.length_map, ← List.countP_eq_length_filter, ← List.countP_eq_length_filter]
  have e1 : ((m : Int) * (sh : Int)).toNat = m * sh := by rw [← Int.natCast_mul]; exact Int.toNat_natCast _
  have e2 : ((m : Int) * 1).toNat = m := by rw [Int.mul_one]; exact Int.toNat_natCast _
  rw [e1, e2, key]
theorem tot_small : ∀ g : Fin 21, (totL g.val).sum = (((List.range g.val).map fun i : Nat => (pairsE ((i : Int) + 1) 1).length).sum : Nat) := by decide +kernel
theorem dL_len (q : Q4) (sh : Nat) (h : shareQ q = sh) (n : Nat) : (dL q n).length = sh * ((List.range n).map fun i : Nat => (pairsE ((i : Int) + 1) 1).length).sum := by
  induction n with
  | zero => simp [dL, fm]
  | succ n ih =>
    have hd : dL q (n + 1) = dL q n ++ pairsE ((n : Int) + 1) (shareQ q) := fm_succ n _
    have hp := pairsE_per (n + 1) sh
    rw [Int.natCast_add, Int.natCast_one] at hp
    rw [hd, List.length_append, ih, h, hp, List.range_succ, List.map_append, List.sum_append, Nat.mul_add]
    simp
/-- as many as listed -/
theorem tot_deeds {q : Q4} (hq : okQ q = true) (hD : measC q ≤ 400) : shareQ q * (totL (gq q)).sum = ((deedsL q).length : Int) := by
  have hs := share_pos hq
  obtain ⟨c1, c2, c3, c4⟩ := small_q hq hD
  have h1 := tot_small ⟨gq q, by omega⟩
  have h2 := dL_len q (shareQ q).toNat (by omega) (gq q)
  unfold deedsL
  rw [h2, h1, Int.natCast_mul]
  congr 1
  omega
theorem tot_sz {q : Q4} (hq : okQ q = true) (hD : measC q ≤ 400) : (totL (gq q)).sum.natAbs ≤ 40000 := by
  have hs := share_pos hq
  have hl := dL_le (n := gq q) hq hD (small_q hq hD).2.2.1
  have hg := (small_q hq hD).2.2.1
  have h1 := tot_small ⟨gq q, by omega⟩
  have h2 := dL_len q (shareQ q).toNat (by omega) (gq q)
  rw [h2] at hl
  rw [h1]
  simp only
  generalize ((List.range (gq q)).map fun i : Nat => (pairsE ((i : Int) + 1) 1).length).sum = N at *
  have := Nat.mul_le_mul_right N (show 1 ≤ (shareQ q).toNat by omega)
  simp only [Int.natAbs_natCast]
  omega
theorem gq_eq {q : Q4} (hq : okQ q = true) : (rt (measC q - 1) - q.2.2.2) / (2 * q.2.2.1) = ((gq q : Nat) : Int) := by
  obtain ⟨o1, o2, o3, o4, o5, o6⟩ := okQ_get hq
  have h1 := (allow_iff (n := 1) hq (Nat.le_refl 1)).mp (by unfold wD; omega)
  unfold gq at *
  omega
theorem rgcN {p g : Nat} (hp : 1 ≤ p) (hpg : p ≤ g) (hg : g ≤ 1000) : RgC (p : Int) ((g : Int) + 1) (p : Int) (g / p) := by
  have h0 : (p : Int) > 0 := by omega
  have e : Builtin.Range.rangeSize (p : Int) ((g : Int) + 1) (p : Int) = (g / p : Nat) := by
    unfold Builtin.Range.rangeSize
    rw [if_pos h0, if_pos (by omega), Int.natCast_ediv, show (g : Int) + 1 - p - 1 = g + (-1) * p by omega, Int.add_mul_ediv_right _ _ (by omega)]
    omega
  have hle : g / p ≤ g := Nat.div_le_self _ _
  have hmul : g / p * p ≤ g := Nat.div_mul_le_self _ _
  have hmi : ((g / p : Nat) : Int) * (p : Int) ≤ g := by rw [← Int.natCast_mul]; omega
  have hm0 : 0 ≤ ((g / p : Nat) : Int) * (p : Int) := by rw [← Int.natCast_mul]; omega
  have q1 : (0 : Int) ≤ (g : Int) / (p : Int) := Int.ediv_nonneg (by omega) (by omega)
  have q2 : (g : Int) / (p : Int) ≤ g := Int.ediv_le_self _ (by omega)
  refine ⟨by omega, by omega, ?_, e⟩
  unfold Builtin.Range.small
  rw [e]
  simp only [Builtin.Range.rangeFitsLong, Bool.and_eq_true, Bool.or_eq_true, decide_eq_true_eq, beq_iff_eq, h0, if_true]
  generalize ((g / p : Nat) : Int) * (p : Int) = w at *
  omega
theorem at_getD {L : List Int} {j : Nat} (h : j < L.length) : atI (L.map V.int) (j : Int) = some (V.int (L.getD j 0)) := atI_nat (by
  rw [List.getElem?_map, List.getElem?_eq_getElem h, List.getD_eq_getElem?_getD, List.getElem?_eq_getElem h]
  rfl)
theorem ixN_natL {n j : Nat} (h : j < n) : ixN n (j : Int) = some j := by
  unfold ixN
  simp
  omega
/-! promises -/
def spTotients : Sp := fun vs H Q _ => ∃ g : Nat, vs = [.int (g : Int)] ∧ g ≤ 1000 ∧ ∀ (p : Addr) (H' : Hp), H p = none → Same H H' → H' p = some (.lst ((totL g).map V.int)) → Q (.ref p) H'
def spGreatestQ : Sp := fun vs H Q _ => ∃ (pr : Addr) (q : Q4), vs = [.ref pr] ∧ CutAt H pr q ∧ Sz4 600 q ∧ ∀ H', Same H H' → Q (.int ((gq q : Nat) : Int)) H'
def spHowMany : Sp := fun vs H Q _ => ∃ (pr : Addr) (q : Q4), vs = [.ref pr] ∧ CutAt H pr q ∧ Sz4 600 q ∧ gq q ≤ 1000 ∧ (totL (gq q)).sum.natAbs < 2 ^ 100 ∧ ∀ H', Same H H' → Q (.int (shareQ q * (totL (gq q)).sum)) H'
def spDeeds : Sp := fun vs H Q _ => ∃ (pr : Addr) (q : Q4), vs = [.ref pr] ∧ CutAt H pr q ∧ Sz4 600 q ∧ measC q ≤ 400 ∧ (deedsL q).length ≤ 2000 ∧ ∀ (p : Addr) (ls : List Addr) (H' : Hp), H p = none → Same H H' → H' p = some (.lst (ls.map V.ref)) → PrAll H' ls (srtP (deedsL q)) → Q (.ref p) H'
def InvTo (g : Nat) (p : Addr) (H : Hp) : Nat → SV → Hp → Prop := fun i σ H2 => ∃ t2 t3 : Option V, σ = [some (.int (g : Int)), some (.ref p), t2, t3] ∧ Same H H2 ∧ H2 p = some (.lst ((sieveOut g i).map V.int))
def InvToB (g : Nat) (p : Addr) (n : Nat) (m : List Int) (H : Hp) : Nat → SV → Hp → Prop := fun k σ H2 => ∃ t3 : Option V, σ = [some (.int (g : Int)), some (.ref p), some (.int (n : Int)), t3] ∧ Same H H2 ∧ H2 p = some (.lst ((sieveIn n m k).map V.int))
end Kx
namespace Kx
open PySem PySem.Spec PyProof.Rows L2
theorem sum_le_mul {f : Nat → Nat} {k : Nat} : ∀ n : Nat, (∀ i, i < n → f i ≤ k) → ((List.range n).map f).sum ≤ n * k
  | 0, _ => by simp
  | n + 1, h => by
    rw [List.range_succ, List.map_append, List.sum_append, Nat.succ_mul]
    have h1 := sum_le_mul n fun i hi => h i (by omega)
    have h2 := h n (by omega)
    simp only [List.map_cons, List.map_nil, List.sum_cons, List.sum_nil]
    omega
theorem few_deeds {q : Q4} (hq : okQ q = true) (hD : measC q ≤ 145) : (deedsL q).length ≤ 2000 := by
  obtain ⟨o1, o2, o3, o4, o5, o6⟩ := okQ_get hq
  have h5 := (meas_cut hq).1
  have hs := share_pos hq
  obtain ⟨r0, r1, r2⟩ := rt_spec (n := measC q - 1) (by omega)
  have hr : rt (measC q - 1) ≤ 12 := by
    by_cases h : rt (measC q - 1) ≤ 12
    · exact h
    · have := sq_mono (x := 13) (y := rt (measC q - 1)) (by omega) (by omega)
      omega
  have e4 : measC q = q.2.2.2 * q.2.2.2 + 4 * (q.2.1 * q.2.2.1) := by unfold measC; grind
  have hbc := Int.mul_le_mul o1 o2 (by omega) (by omega)
  have he : -12 ≤ q.2.2.2 := by
    by_cases h : -12 ≤ q.2.2.2
    · exact h
    · have := sq_mono (x := 13) (y := -q.2.2.2) (by omega) (by omega)
      have e3 : -q.2.2.2 * -q.2.2.2 = q.2.2.2 * q.2.2.2 := by grind
      omega
  have hg := gq_eq hq
  have hdm := Int.ediv_mul_le (rt (measC q - 1) - q.2.2.2) (show 2 * q.2.2.1 ≠ 0 by omega)
  rw [hg] at hdm
  have hgc : ((gq q : Nat) : Int) * q.2.2.1 ≤ 12 := by
    have : ((gq q : Nat) : Int) * (2 * q.2.2.1) = 2 * (((gq q : Nat) : Int) * q.2.2.1) := by grind
    omega
  have hg12 : gq q ≤ 12 := by
    have := Int.mul_le_mul_of_nonneg_left o2 (show 0 ≤ ((gq q : Nat) : Int) by omega)
    omega
  have hgs : ((gq q : Nat) : Int) * shareQ q ≤ 12 := by
    have := Int.mul_le_mul_of_nonneg_left hs.2 (show 0 ≤ ((gq q : Nat) : Int) by omega)
    omega
  have hl := dL_len q (shareQ q).toNat (by omega) (gq q)
  have hsum := sum_le_mul (f := fun i : Nat => (pairsE ((i : Int) + 1) 1).length) (k := 12) (gq q) fun i hi => by
    have := pairsE_le ((i : Int) + 1) 1
    show (pairsE ((i : Int) + 1) 1).length ≤ 12
    omega
  unfold deedsL
  rw [hl]
  have h7 := Nat.mul_le_mul_left (shareQ q).toNat hsum
  have h8 : (shareQ q).toNat * (gq q * 12) ≤ 144 := by
    have h9 : (((shareQ q).toNat * (gq q * 12) : Nat) : Int) = 12 * (((gq q : Nat) : Int) * shareQ q) := by
      rw [Int.natCast_mul, Int.natCast_mul, show (((shareQ q).toNat : Nat) : Int) = shareQ q by omega]
      grind
    omega
  omega
theorem row13_0 : okQ ((0, 2, 1, -3) : Q4) = true ∧ srtP (deedsL ((0, 2, 1, -3) : Q4)) = ([(0, 1), (1, 2), (1, 3), (2, 3)] : List P2) := ⟨by decide +kernel, by decide +kernel⟩
theorem row13_1 : okQ ((1, 2, 4, -9) : Q4) = true ∧ srtP (deedsL ((1, 2, 4, -9) : Q4)) = ([(0, 1), (1, 1), (1, 2), (3, 2)] : List P2) := ⟨by decide +kernel, by decide +kernel⟩
theorem row13_2 : okQ ((0, 1, 1, -4) : Q4) = true ∧ srtP (deedsL ((0, 1, 1, -4) : Q4)) = ([(0, 1), (1, 2), (1, 3), (1, 4), (2, 3), (3, 4)] : List P2) := ⟨by decide +kernel, by decide +kernel⟩
theorem row13_3 : okQ ((0, 1, 1, -1) : Q4) = true ∧ shareQ ((0, 1, 1, -1) : Q4) * (totL (gq ((0, 1, 1, -1) : Q4))).sum = 1 := ⟨by decide +kernel, by decide +kernel⟩
theorem row13_4 : DeedOk ((0, 2, 1, -3) : Q4) 2 2 = false := by decide +kernel
def spTrue13 : Sp := fun vs H Q _ => ∃ (pr : Addr) (q : Q4), vs = [.ref pr] ∧ CutAt H pr q ∧ measC q ≤ 145 ∧ ∀ H', Same H H' → Q (.bl true) H'
end Kx
namespace Kx
open PySem PySem.Spec PyProof.Rows L2
theorem pairSz_of {H : Hp} {x : V} (h : wholesB H 2 x = false) : PairSz H x := fun t p n e ht => by
  subst e
  rw [wholes_tup ht] at h
  simp [isIntV] at h
theorem deedB_same {H H' : Hp} {q : Q4} {x : V} (s : Same H H') (h : OkItem H x) : deedB H' q x = deedB H q x := by
  unfold deedB
  rw [wholesB_same s h]
  cases x with
  | ref a =>
    obtain ⟨o, ho⟩ := h.at
    simp only [ho, s _ _ ho]
  | _ => rfl
theorem PairSz.same {H H' : Hp} {x : V} (s : Same H H') (h : OkItem H x) (hp : PairSz H x) : PairSz H' x := fun t p n e ht => by
  subst e
  obtain ⟨o, ho⟩ := h.at
  have := s _ _ ho
  rw [ht] at this
  cases this
  exact hp t p n rfl ho
theorem wh2_len {H : Hp} {a : Addr} {xs : List V} (h : H a = some (.tup xs)) (hl : xs.length ≠ 2) : wholesB H 2 (.ref a) = false := by
  unfold wholesB
  simp only [h]
  rw [decide_eq_false (by omega), Bool.false_and]
theorem wh2_item {H : Hp} {a : Addr} {u v : V} (h : H a = some (.tup [u, v])) (hi : (isIntV u && isIntV v) = false) : wholesB H 2 (.ref a) = false := by
  unfold wholesB
  simp only [h, List.all_cons, List.all_nil, Bool.and_true, hi, Bool.and_false]
theorem deed_wrong {q : Q4} {p n : Int} (hq : okQ q = true) (hD : measC q ≤ 145) (h : 10000 ≤ p ∧ n = 1 ∨ 10000 ≤ n) : DeedOk q p n = false := by
  cases hd : DeedOk q p n with
  | false => rfl
  | true =>
    obtain ⟨d1, d2, d3, d4, d5⟩ := deed_get hd
    obtain ⟨c1, c2, c3, c4⟩ := small_q hq (by omega)
    have hs := share_pos hq
    have hn := (allow_iff (n := n.toNat) hq (by omega)).mp (by rw [show ((n.toNat : Nat) : Int) = n by omega]; exact d2)
    rcases h with ⟨h1, rfl⟩ | h
    · omega
    · omega
def InvSn (H : Hp) (q : Q4) (Dd : Addr) : Nat → Hp → Prop := fun i H2 => Same H H2 ∧ H2 Dd = some (.lst ((((srtP (deedsL q)).take i).map Prod.snd).map V.int))
theorem deed_small {q : Q4} {p n : Int} (hq : okQ q = true) (hD : measC q ≤ 400) (hd : DeedOk q p n = true) : 1 ≤ n ∧ n ≤ 20 := by
  obtain ⟨d1, d2, d3, d4, d5⟩ := deed_get hd
  obtain ⟨c1, c2, c3, c4⟩ := small_q hq hD
  have hn := (allow_iff (n := n.toNat) hq (by omega)).mp (by rw [show ((n.toNat : Nat) : Int) = n by omega]; exact d2)
  omega
def InvJ1 (q : Q4) (pr p1 : Addr) (far : Int) (H : Hp) : Nat → SV → Hp → Prop := fun _ σ H2 => ∃ t4 t5 t6 : Option V, σ = [some (.ref pr), some (.ref p1), some (.int far), some (.int (shareQ q)), t4, t5, t6, none, none] ∧ Same H H2
def InvJ2 (q : Q4) (pr p1 : Addr) (far n : Int) (H : Hp) : Nat → SV → Hp → Prop := fun _ σ H2 => ∃ t5 t6 : Option V, σ = [some (.ref pr), some (.ref p1), some (.int far), some (.int (shareQ q)), some (.int n), t5, t6, none, none] ∧ Same H H2
def InvE13 (H : Hp) (Dd : Addr) : Nat → Hp → Prop := fun _ H2 => Same H H2 ∧ H2 Dd = some (.lst [])
end Kx
namespace Kx
open PySem PySem.Spec PyProof.Rows L2
def Odd13 (H : Hp) (q : Q4) (x : V) : Prop := OkV H x ∧ PairSz H x ∧ deedB H q x = false
theorem odd_t {H : Hp} {q : Q4} {x : V} {t : String} (h : tyS H x = some t) (hn : t ≠ "tuple") : Odd13 H q x := ⟨okV_of h hn, pairSz_of (wholes_not h hn), deedB_not (wholes_not h hn)⟩
theorem odd_l {H : Hp} {q : Q4} {a : Addr} {xs : List V} (h : H a = some (.tup xs)) (hi : ∀ y ∈ xs, OkItem H y) (hl : xs.length ≠ 2) : Odd13 H q (.ref a) := ⟨okV_tup h hi, pairSz_of (wh2_len h hl), deedB_not (wh2_len h hl)⟩
theorem odd_i {H : Hp} {q : Q4} {a : Addr} {u v : V} (h : H a = some (.tup [u, v])) (hu : OkItem H u) (hv : OkItem H v) (hi : (isIntV u && isIntV v) = false) : Odd13 H q (.ref a) := ⟨okV_tup h (fun y hy => by
  simp only [List.mem_cons, List.not_mem_nil, or_false] at hy
  rcases hy with rfl | rfl
  · exact hu
  · exact hv), pairSz_of (wh2_item h hi), deedB_not (wh2_item h hi)⟩
theorem odd_p {H : Hp} {q : Q4} {a : Addr} {p n : Int} (h : H a = some (.tup [.int p, .int n])) (hn : n.natAbs < 2 ^ 600) (hd : DeedOk q p n = false) : Odd13 H q (.ref a) := ⟨pair_okV h, pair_sz h hn, by rw [deedB2 h, hd]⟩
theorem ok_int (H : Hp) (i : Int) : OkItem H (.int i) := ⟨"int", rfl⟩
theorem ok_ints (H : Hp) (ns : List Int) : ∀ y ∈ ns.map V.int, OkItem H y := fun y hy => by
  obtain ⟨n, _, rfl⟩ := List.mem_map.mp hy
  exact ⟨"int", rfl⟩
end Kx
namespace Kx
open PySem PySem.Spec PyProof.Rows L2
def InvL13 (a g pc pe p4 : Addr) (H : Hp) : Nat → SV → Hp → Prop := fun _ σ H2 => ∃ t5 : Option V, σ = [some (.ref a), some (.ref g), some (.ref pc), some (.ref pe), some (.ref p4), t5] ∧ Same H H2
theorem dp_rows {K : PySem.W.Frag} {H : Hp} {p : Addr} {ls : List Addr} {xs : List P2} (e : H p = some (.lst (ls.map V.ref))) (h : PrAll H ls xs) : Dp K H (.ref p) (.list (xs.map p2D)) := .lst (SqL.of e) h.dp
end Kx

set_option Elab.async false
set_option linter.all false
set_option maxRecDepth 100000
set_option maxHeartbeats 4000000
set_option exponentiation.threshold 4000
/-! Deeds between cuttings. -/
namespace Kx
open PySem PySem.Spec PyProof.Rows L2
theorem dL_leG {q : Q4} {n : Nat} (hq : okQ q = true) (hc : q.2.2.1 ≤ 100) (hn : n ≤ 100) : (dL q n).length ≤ 10000 * n := by
  have hs := share_pos hq
  induction n with
  | zero => exact Nat.le_refl _
  | succ n ih =>
    have h1 := ih (by omega)
    have h2 : dL q (n + 1) = dL q n ++ pairsE ((n : Int) + 1) (shareQ q) := fm_succ n _
    have h3 := pairsE_le ((n : Int) + 1) (shareQ q)
    have h4 := Int.mul_le_mul (show (n : Int) + 1 ≤ 100 by omega) (show shareQ q ≤ 100 by omega) (by omega) (by decide)
    rw [h2, List.length_append]
    omega
/-! ### no cutting is listed twice -/
theorem nodup_flatMap {α β : Type} {f : α → List β} : ∀ {l : List α}, l.Nodup → (∀ a ∈ l, (f a).Nodup) → (∀ a ∈ l, ∀ b ∈ l, ∀ x, x ∈ f a → x ∈ f b → a = b) → (l.flatMap f).Nodup
  | [], _, _, _ => List.nodup_nil
  | a :: l, hn, h1, h2 => by
    obtain ⟨n1, n2⟩ := List.nodup_cons.mp hn
    rw [List.flatMap_cons]
    refine List.nodup_append.mpr ⟨h1 a List.mem_cons_self, nodup_flatMap n2 (fun b hb => h1 b (List.mem_cons_of_mem _ hb)) (fun b hb c hc => h2 b (List.mem_cons_of_mem _ hb) c (List.mem_cons_of_mem _ hc)), ?_⟩
    rintro x hx y hy rfl
    obtain ⟨b, hb, hxb⟩ := List.mem_flatMap.mp hy
    have := h2 a List.mem_cons_self b (List.mem_cons_of_mem _ hb) x hx hxb
    subst this
    exact n1 hb
theorem map_nodup {α β : Type} {f : α → β} {l : List α} (hn : l.Nodup) (hf : ∀ a ∈ l, ∀ b ∈ l, f a = f b → a = b) : (l.map f).Nodup := by
  induction l with
  | nil => exact List.nodup_nil
  | cons a l ih =>
    obtain ⟨n1, n2⟩ := List.nodup_cons.mp hn
    rw [List.map_cons]
    refine List.nodup_cons.mpr ⟨fun h => ?_, ih n2 fun b hb c hc => hf b (List.mem_cons_of_mem _ hb) c (List.mem_cons_of_mem _ hc)⟩
    obtain ⟨b, hb, e⟩ := List.mem_map.mp h
    have := hf b (List.mem_cons_of_mem _ hb) a List.mem_cons_self e
    subst this
    exact n1 hb
theorem midsD_nodup (D e : Int) : (midsD D e).Nodup := by
  unfold midsD
  split
  · exact List.nodup_nil
  · unfold midsL
    exact map_nodup (List.nodup_range.filter _) fun a _ b _ h => by
      injection h with _ h2
      omega
theorem firsE_nodup (e : Int) (p : Int × Int) : (firsE e p).Nodup := by
  unfold firsE firstsL
  refine map_nodup (map_nodup (List.nodup_range.filter _) fun a _ b _ h => by omega) fun a _ b _ h => ?_
  injection h with h1
theorem cutsE_nodup (D e : Int) : (cutsE D e).Nodup := by
  unfold cutsE
  refine nodup_flatMap (midsD_nodup D e) (fun p _ => firsE_nodup e p) ?_
  rintro ⟨b, c⟩ _ ⟨b', c'⟩ _ x h1 h2
  unfold firsE at h1 h2
  obtain ⟨_, _, rfl⟩ := List.mem_map.mp h1
  obtain ⟨_, _, h3⟩ := List.mem_map.mp h2
  injection h3 with _ h4
  injection h4 with h5 h6
  injection h6 with h7 _
  exact Prod.ext h5.symm h7.symm
theorem cuts_nodup (D : Int) : (srtQ (cutsL D)).Nodup := by
  refine (srtQ_perm _).nodup_iff.mpr ?_
  unfold cutsL cutsR fm
  refine nodup_flatMap List.nodup_range (fun i _ => cutsE_nodup D _) ?_
  intro i _ j _ x h1 h2
  have he : ∀ {e : Int} {x : Q4}, x ∈ cutsE D e → x.2.2.2 = e := fun {e x} h => by
    unfold cutsE at h
    obtain ⟨p, _, h⟩ := List.mem_flatMap.mp h
    unfold firsE at h
    obtain ⟨_, _, rfl⟩ := List.mem_map.mp h
    rfl
  have := (he h1).symm.trans (he h2)
  omega
theorem nodup_sub_len {α : Type} [DecidableEq α] : ∀ {l m : List α}, l.Nodup → (∀ x ∈ l, x ∈ m) → l.length ≤ m.length
  | [], _, _, _ => Nat.zero_le _
  | a :: l, m, hn, hs => by
    obtain ⟨n1, n2⟩ := List.nodup_cons.mp hn
    have ha := hs a List.mem_cons_self
    have := nodup_sub_len (m := m.erase a) n2 fun x hx => (List.mem_erase_of_ne (fun h => n1 (by subst h; exact hx))).mpr (hs x (List.mem_cons_of_mem _ hx))
    rw [List.length_erase_of_mem ha] at this
    have hp := List.length_pos_of_mem ha
    rw [List.length_cons]
    omega
/-! ### the deeds from one cutting to another -/
noncomputable def toL (q o : Q4) : List P2 := (srtP (deedsL q)).filter fun x => decide (ledF q x.1 x.2 = o)
theorem deeds_all {q : Q4} (hq : okQ q = true) : ∀ x ∈ srtP (deedsL q), DeedOk q x.1 x.2 = true := fun x hx => (deedsL_mem hq).mp ((srtP_perm _).mem_iff.mp hx)
theorem toL_mem {q o : Q4} {x : P2} (hq : okQ q = true) : x ∈ toL q o ↔ DeedOk q x.1 x.2 = true ∧ ledF q x.1 x.2 = o := by
  unfold toL
  rw [List.mem_filter, decide_eq_true_iff, (srtP_perm _).mem_iff, deedsL_mem hq]
theorem toL_nodup (q o : Q4) : (toL q o).Nodup := (deeds_nodup q).filter _
theorem to_le {q o : Q4} (hq : okQ q = true) (ho : okQ o = true) : (toL q o).length ≤ (toL o q).length := by
  rw [← List.length_map (f := fun x : P2 => backF q x.1 x.2)]
  refine nodup_sub_len (map_nodup (toL_nodup q o) fun a ha b hb h => ?_) fun y hy => ?_
  · obtain ⟨a1, a2⟩ := (toL_mem hq).mp ha
    obtain ⟨b1, b2⟩ := (toL_mem hq).mp hb
    exact turnF_inj hq a1 b1 (by unfold turnF; rw [a2, b2, h])
  · obtain ⟨x, hx, rfl⟩ := List.mem_map.mp hy
    obtain ⟨a1, a2⟩ := (toL_mem hq).mp hx
    have h1 := back_deed hq a1
    have h2 := back_led hq a1
    rw [a2] at h1 h2
    exact (toL_mem ho).mpr ⟨h1, h2⟩
theorem to_swap {q o : Q4} (hq : okQ q = true) (ho : okQ o = true) : (toL q o).length = (toL o q).length := Nat.le_antisymm (to_le hq ho) (to_le ho hq)
theorem count_all {α β : Type} [DecidableEq β] {f : α → β} : ∀ {l : List α} {m : List β}, m.Nodup → (∀ x ∈ l, f x ∈ m) → (m.map fun o => (l.filter fun x => decide (f x = o)).length).sum = l.length := by
  intro l m hm
  induction m generalizing l with
  | nil =>
    intro h
    cases l with
    | nil => rfl
    | cons a l => exact absurd (h a List.mem_cons_self) List.not_mem_nil
  | cons o m ih =>
    intro h
    obtain ⟨n1, n2⟩ := List.nodup_cons.mp hm
    have h1 := ih (l := l.filter fun x => !decide (f x = o)) n2 fun x hx => by
      obtain ⟨h2, h3⟩ := List.mem_filter.mp hx
      rcases List.mem_cons.mp (h x h2) with h4 | h4
      · simp [h4] at h3
      · exact h4
    have h5 : (m.map fun o' => ((l.filter fun x => !decide (f x = o)).filter fun x => decide (f x = o')).length) = m.map fun o' => (l.filter fun x => decide (f x = o')).length := by
      refine List.map_congr_left fun o' ho' => ?_
      rw [List.filter_filter]
      congr 1
      refine List.filter_congr fun x _ => ?_
      by_cases h6 : f x = o'
      · have : o' ≠ o := fun h7 => n1 (h7 ▸ ho')
        simp [h6, this]
      · simp [h6]
    rw [h5] at h1
    rw [List.map_cons, List.sum_cons, h1, ← List.countP_eq_length_filter, ← List.countP_eq_length_filter]
    have := List.length_eq_countP_add_countP (fun x => decide (f x = o)) (l := l)
    have e : l.countP (fun a => decide ¬(decide (f a = o) = true)) = l.countP (fun x => !decide (f x = o)) := List.countP_congr fun a _ => by simp
    omega
theorem count_to {D : Int} {q : Q4} (hM : Meas D) (hD : D < 100000) (hq : q ∈ srtQ (cutsL D)) : ((srtQ (cutsL D)).map fun o => (toL q o).length).sum = (srtP (deedsL q)).length :=
  count_all (f := fun x : P2 => ledF q x.1 x.2) (cuts_nodup D) fun x hx => (led_in hM hD hq (deeds_all (mem_ok hM hD hq).1 x hx)).1
/-! ### promises -/
def spTwo : Sp := fun vs H Q _ => ∃ (pr po : Addr) (q o : Q4), vs = [.ref pr, .ref po] ∧ CutAt H pr q ∧ CutAt H po o ∧ Sz4 600 q ∧ Sz4 600 o ∧ measC q = measC o ∧ ∀ H', Same H H' → Q .non H'
structure Lim (q : Q4) : Prop where
  ok : okQ q = true
  sz : Sz4 200 q
  c : q.2.2.1 ≤ 100
  g : gq q ≤ 100
  s : (totL (gq q)).sum.natAbs < 2 ^ 100
structure LimL (q : Q4) : Prop extends Lim q where
  n : shareQ q * (totL (gq q)).sum ≤ 2000
  l : (deedsL q).length ≤ 2000
def spDeedsG : Sp := fun vs H Q _ => ∃ (pr : Addr) (q : Q4), vs = [.ref pr] ∧ CutAt H pr q ∧ LimL q ∧ ∀ (p : Addr) (ls : List Addr) (H' : Hp), H p = none → Same H H' → H' p = some (.lst (ls.map V.ref)) → PrAll H' ls (srtP (deedsL q)) → Q (.ref p) H'
def spDeedsTo : Sp := fun vs H Q _ => ∃ (pr po : Addr) (q o : Q4), vs = [.ref pr, .ref po] ∧ CutAt H pr q ∧ CutAt H po o ∧ Sz4 600 o ∧ measC q = measC o ∧ LimL q ∧ ∀ (p : Addr) (ls : List Addr) (H' : Hp), H p = none → Same H H' → H' p = some (.lst (ls.map V.ref)) → PrAll H' ls (toL q o) → Q (.ref p) H'
def spDeedsX (C : Addr) : Sp := fun vs H Q E => ∃ (pr : Addr) (q : Q4), vs = [.ref pr] ∧ CutAt H pr q ∧ ((Lim q ∧ 2000 < shareQ q * (totL (gq q)).sum ∧ Err H E C (.int (shareQ q * (totL (gq q)).sum))) ∨ (LimL q ∧ ∀ (p : Addr) (ls : List Addr) (H' : Hp), H p = none → Same H H' → H' p = some (.lst (ls.map V.ref)) → PrAll H' ls (srtP (deedsL q)) → Q (.ref p) H'))
def spDeedsToX (C : Addr) : Sp := fun vs H Q E => ∃ (pr po : Addr) (q o : Q4), vs = [.ref pr, .ref po] ∧ CutAt H pr q ∧ CutAt H po o ∧ Sz4 600 o ∧ measC q = measC o ∧ ((Lim q ∧ 2000 < shareQ q * (totL (gq q)).sum ∧ Err H E C (.int (shareQ q * (totL (gq q)).sum))) ∨ (LimL q ∧ ∀ (p : Addr) (ls : List Addr) (H' : Hp), H p = none → Same H H' → H' p = some (.lst (ls.map V.ref)) → PrAll H' ls (toL q o) → Q (.ref p) H'))
end Kx
namespace Kx
open PySem PySem.Spec PyProof.Rows L2
theorem InvPr.push2 {h H2 H3 : Hp} {Dd p : Addr} {ps : Nat → List P2} {x : P2} {i : Nat} (hi : InvPr h Dd ps i H2) (hD : h Dd = none) (s : Same H2 H3) (e : H3 p = some (.tup [.int x.1, .int x.2])) (eq : ps (i + 1) = ps i ++ [x]) (hle : (ps i).length < 1010000) :
    ∃ acc, H3 Dd = some (.lst acc) ∧ acc.length < sizeLine ∧ InvPr h Dd ps (i + 1) (L2.upd H3 Dd (.lst (acc ++ [.ref p]))) := by
  obtain ⟨s2, ls, eD, hl⟩ := hi
  have eD3 := s _ _ eD
  have h2 := hl.len
  refine ⟨_, eD3, ?_, Same.upd2 (s2.trans s) hD, ls ++ [p], by rw [upd_same, List.map_append]; rfl, ?_⟩
  · rw [List.length_map]
    exact Nat.lt_of_lt_of_le (show ls.length < 1010000 by omega) (Nat.le_of_ble_eq_true rfl)
  rw [eq]
  exact ((hl.same s).append (.cons e .nil)).imp fun l xs h => upd_lst eD3 h (fun z => by cases z)
theorem eqv_quads (x y : Q4) : PyData.eqv (quadD x) (quadD y) = decide (x = y) := by
  by_cases h : x = y
  · subst h
    rw [decide_eq_true rfl]
    exact eqv_same rfl
  · rw [decide_eq_false h]
    cases hb : PyData.eqv (quadD x) (quadD y) with
    | false => rfl
    | true => exact absurd (eqv_quad _ _ hb) h
theorem eq_quads {K : PySem.W.Frag} {H : Hp} {a b : Addr} {x y : Q4} {Q : VK} (h1 : H a = some (.tup (cutV4 x))) (h2 : H b = some (.tup (cutV4 y))) (q : Q (.bl (decide (x = y))) H) : rEqD K (.ref a) (.ref b) H Q := ⟨quadD x, quadD y, dp_quad h1, dp_quad h2, rfl, rfl, by rw [eqv_quads]; exact q⟩
theorem deed_szG {q : Q4} {p n : Int} (hL : Lim q) (hd : DeedOk q p n = true) : p.natAbs < 2 ^ 200 ∧ n.natAbs < 2 ^ 200 := by
  obtain ⟨d1, d2, d3, d4, d5⟩ := deed_get hd
  have hs := share_pos hL.ok
  have hc := hL.c
  have hg := hL.g
  have hn := (allow_iff (n := n.toNat) hL.ok (by omega)).mp (by rw [show ((n.toNat : Nat) : Int) = n by omega]; exact d2)
  have hm := Int.mul_le_mul (show n ≤ 100 by omega) (show shareQ q ≤ 100 by omega) (by omega) (by decide)
  have big : (10000000 : Nat) < 2 ^ 200 := by decide
  refine ⟨?_, ?_⟩ <;> refine Nat.lt_trans ?_ big <;> omega
end Kx
namespace Kx
open PySem PySem.Spec PyProof.Rows L2
/-- deeds, each with the cutting to which it leads -/
inductive LAll (q : Q4) (H : Hp) : List Addr → List P2 → Prop
  | nil : LAll q H [] []
  | cons {l ta ra : Addr} {x : P2} {ls : List Addr} {xs : List P2} : H l = some (.tup [.ref ta, .ref ra]) → H ta = some (.tup [.int x.1, .int x.2]) → H ra = some (.tup (cutV4 (ledF q x.1 x.2))) → LAll q H ls xs → LAll q H (l :: ls) (x :: xs)
section
variable {q : Q4} {H H' : Hp} {ls ms : List Addr} {xs ys : List P2}
theorem LAll.imp (h : LAll q H ls xs) (f : ∀ l xs, H l = some (.tup xs) → H' l = some (.tup xs)) : LAll q H' ls xs := by
  induction h with
  | nil => exact .nil
  | cons e1 e2 e3 _ ih => exact .cons (f _ _ e1) (f _ _ e2) (f _ _ e3) ih
theorem LAll.same (h : LAll q H ls xs) (s : Same H H') : LAll q H' ls xs := h.imp fun _ _ e => s _ _ e
theorem LAll.append (h : LAll q H ls xs) (h2 : LAll q H ms ys) : LAll q H (ls ++ ms) (xs ++ ys) := by
  induction h with
  | nil => exact h2
  | cons e1 e2 e3 _ ih => exact .cons e1 e2 e3 ih
theorem LAll.len (h : LAll q H ls xs) : ls.length = xs.length := by
  induction h with
  | nil => rfl
  | cons _ _ _ _ ih => rw [List.length_cons, List.length_cons, ih]
theorem LAll.get (h : LAll q H ls xs) {i : Nat} {l : Addr} (hl : ls[i]? = some l) : ∃ x ta ra, xs[i]? = some x ∧ H l = some (.tup [.ref ta, .ref ra]) ∧ H ta = some (.tup [.int x.1, .int x.2]) ∧ H ra = some (.tup (cutV4 (ledF q x.1 x.2))) := by
  induction h generalizing i with
  | nil => simp at hl
  | @cons l' ta ra x ls' xs' e1 e2 e3 _ ih =>
    cases i with
    | zero =>
      obtain rfl : l' = l := by simpa using hl
      exact ⟨x, ta, ra, rfl, e1, e2, e3⟩
    | succ i =>
      rw [List.getElem?_cons_succ] at hl
      obtain ⟨y, a, b, h1, h2⟩ := ih hl
      exact ⟨y, a, b, by rw [List.getElem?_cons_succ]; exact h1, h2⟩
end
def InvLd (q : Q4) (H : Hp) (Dd : Addr) : Nat → Hp → Prop := fun i H2 => Same H H2 ∧ ∃ ks : List Addr, H2 Dd = some (.lst (ks.map V.ref)) ∧ LAll q H2 ks ((srtP (deedsL q)).take i)
noncomputable def manyTo (q : Q4) (os : List Q4) : Nat := (os.map fun o => (toL q o).length).sum
noncomputable def InvR17 (q : Q4) (os : List Q4) (g pc pe Dd : Addr) (H : Hp) : Nat → SV → Hp → Prop := fun i σ H2 => ∃ t5 t6 t7 : Option V, σ = [some (.ref g), some (.ref pc), some (.ref pe), some (.ref Dd), some (.int (manyTo q (os.take i) : Nat)), t5, t6, t7, none, none, none, none, none] ∧ Same H H2
def InvSo (g De : Addr) (ls : List Addr) (H : Hp) : Nat → Hp → Prop := fun j H2 => ∃ rs : List Addr, H2 De = some (.lst (rs.map V.ref)) ∧ rs.length = j ∧ (∀ r ∈ rs, r ∈ ls) ∧ GenAt H2 g (200000 + 100 * j) ∧ Keep g H H2 ∧ De ≠ g
def InvR17b (g pc pe Dd ps : Addr) (m : Int) (H : Hp) : Nat → SV → Hp → Prop := fun _ σ H2 => ∃ t5 t6 t7 t9 : Option V, σ = [some (.ref g), some (.ref pc), some (.ref pe), some (.ref Dd), some (.int m), t5, t6, t7, some (.ref ps), t9, none, none, none] ∧ Same H H2
theorem lim_small {q : Q4} (hq : okQ q = true) (hD : measC q ≤ 145) : LimL q := by
  have hsm := small_q hq (by omega)
  have htd := tot_deeds hq (show measC q ≤ 400 by omega)
  have hf := few_deeds hq hD
  exact ⟨⟨hq, (deed_sz hq (by omega) (deed01 hq)).1, hsm.1, by omega, Nat.lt_of_le_of_lt (tot_sz hq (by omega)) (by decide)⟩, by omega, hf⟩
end Kx
namespace Kx
theorem many_succ {q : Q4} {os : List Q4} {i : Nat} {o : Q4} (h : os[i]? = some o) : ((manyTo q (os.take (i + 1)) : Nat) : Int) = (manyTo q (os.take i) : Nat) + ((toL q o).length : Int) := by
  unfold manyTo
  rw [List.take_succ, h, List.map_append, List.sum_append]
  simp
end Kx
namespace Kx
open PySem PySem.Spec PyProof.Rows L2
theorem lim_row {q : Q4} (h1 : okQ q = true) (h2 : Sz4 200 q) (h3 : q.2.2.1 ≤ 100) (h4 : gq q ≤ 100) (h5 : (totL (gq q)).sum.natAbs < 1000000) : Lim q := ⟨h1, h2, h3, h4, Nat.lt_trans h5 (by decide)⟩
theorem row17_0 : Lim ((0, 45, 1, -90) : Q4) ∧ shareQ ((0, 45, 1, -90) : Q4) * (totL (gq ((0, 45, 1, -90) : Q4))).sum = 2480 ∧ okQ ((0, 134, 1, -88) : Q4) = true ∧ measC ((0, 45, 1, -90) : Q4) = measC ((0, 134, 1, -88) : Q4) := ⟨lim_row (by decide +kernel) ⟨by decide, by decide, by decide, by decide⟩ (by decide) (by decide +kernel) (by decide +kernel), by decide +kernel, by decide +kernel, by decide +kernel⟩
theorem row17_1 : Lim ((0, 1, 1, -100) : Q4) ∧ shareQ ((0, 1, 1, -100) : Q4) * (totL (gq ((0, 1, 1, -100) : Q4))).sum = 3044 ∧ okQ ((0, 100, 1, 98) : Q4) = true ∧ measC ((0, 1, 1, -100) : Q4) = measC ((0, 100, 1, 98) : Q4) := ⟨lim_row (by decide +kernel) ⟨by decide, by decide, by decide, by decide⟩ (by decide) (by decide +kernel) (by decide +kernel), by decide +kernel, by decide +kernel, by decide +kernel⟩
theorem row17_2 : Lim ((0, 100, 1, -98) : Q4) ∧ shareQ ((0, 100, 1, -98) : Q4) * (totL (gq ((0, 100, 1, -98) : Q4))).sum = 3004 ∧ okQ ((0, 100, 1, 98) : Q4) = true ∧ measC ((0, 100, 1, -98) : Q4) = measC ((0, 100, 1, 98) : Q4) := ⟨lim_row (by decide +kernel) ⟨by decide, by decide, by decide, by decide⟩ (by decide) (by decide +kernel) (by decide +kernel), by decide +kernel, by decide +kernel, by decide +kernel⟩
theorem row17_3 : Lim ((0, 1, 10, -300) : Q4) ∧ shareQ ((0, 1, 10, -300) : Q4) * (totL (gq ((0, 1, 10, -300) : Q4))).sum = 2780 ∧ okQ ((0, 1, 10, -300) : Q4) = true ∧ measC ((0, 1, 10, -300) : Q4) = measC ((0, 1, 10, -300) : Q4) := ⟨lim_row (by decide +kernel) ⟨by decide, by decide, by decide, by decide⟩ (by decide) (by decide +kernel) (by decide +kernel), by decide +kernel, by decide +kernel, by decide +kernel⟩
theorem led17_0_0 : ledF ((0, 100, 1, 98) : Q4) (0) (1) = ((0, 1, 1, -100) : Q4) := ledF_eq (by decide +kernel) (by decide +kernel) ⟨by decide +kernel, by decide +kernel, by decide +kernel, -1, 0, 0, 1, by decide +kernel, by decide +kernel, by decide +kernel⟩
theorem few17_0 : LimL ((0, 100, 1, 98) : Q4) ∧ toL ((0, 100, 1, 98) : Q4) ((0, 1, 1, -100) : Q4) = ([(0, 1)] : List P2) ∧ okQ ((0, 1, 1, -100) : Q4) = true ∧ measC ((0, 100, 1, 98) : Q4) = measC ((0, 1, 1, -100) : Q4) := by
  have h1 : srtP (deedsL ((0, 100, 1, 98) : Q4)) = ([(0, 1)] : List P2) := by decide +kernel
  refine ⟨⟨lim_row (by decide +kernel) ⟨by decide, by decide, by decide, by decide⟩ (by decide) (by decide +kernel) (by decide +kernel), by decide +kernel, by decide +kernel⟩, ?_, by decide +kernel, by decide +kernel⟩
  unfold toL
  rw [h1]
  simp only [List.filter_cons, List.filter_nil, led17_0_0]
  decide
theorem led17_1_0 : ledF ((0, 2, 1, -3) : Q4) (0) (1) = ((0, 4, 1, 1) : Q4) := ledF_eq (by decide +kernel) (by decide +kernel) ⟨by decide +kernel, by decide +kernel, by decide +kernel, -1, 0, 0, 1, by decide +kernel, by decide +kernel, by decide +kernel⟩
theorem led17_1_1 : ledF ((0, 2, 1, -3) : Q4) (1) (2) = ((1, 2, 2, -1) : Q4) := ledF_eq (by decide +kernel) (by decide +kernel) ⟨by decide +kernel, by decide +kernel, by decide +kernel, 0, 1, 0, 1, by decide +kernel, by decide +kernel, by decide +kernel⟩
theorem led17_1_2 : ledF ((0, 2, 1, -3) : Q4) (1) (3) = ((0, 2, 1, -3) : Q4) := ledF_eq (by decide +kernel) (by decide +kernel) ⟨by decide +kernel, by decide +kernel, by decide +kernel, 0, 1, -1, 1, by decide +kernel, by decide +kernel, by decide +kernel⟩
theorem led17_1_3 : ledF ((0, 2, 1, -3) : Q4) (2) (3) = ((0, 2, 1, -3) : Q4) := ledF_eq (by decide +kernel) (by decide +kernel) ⟨by decide +kernel, by decide +kernel, by decide +kernel, -1, -1, 1, -1, by decide +kernel, by decide +kernel, by decide +kernel⟩
theorem few17_1 : LimL ((0, 2, 1, -3) : Q4) ∧ toL ((0, 2, 1, -3) : Q4) ((0, 2, 1, -3) : Q4) = ([(1, 3), (2, 3)] : List P2) ∧ okQ ((0, 2, 1, -3) : Q4) = true ∧ measC ((0, 2, 1, -3) : Q4) = measC ((0, 2, 1, -3) : Q4) := by
  have h1 : srtP (deedsL ((0, 2, 1, -3) : Q4)) = ([(0, 1), (1, 2), (1, 3), (2, 3)] : List P2) := by decide +kernel
  refine ⟨⟨lim_row (by decide +kernel) ⟨by decide, by decide, by decide, by decide⟩ (by decide) (by decide +kernel) (by decide +kernel), by decide +kernel, by decide +kernel⟩, ?_, by decide +kernel, by decide +kernel⟩
  unfold toL
  rw [h1]
  simp only [List.filter_cons, List.filter_nil, led17_1_0, led17_1_1, led17_1_2, led17_1_3]
  decide
theorem led17_2_0 : ledF ((1, 2, 2, -1) : Q4) (0) (1) = ((0, 2, 1, -3) : Q4) := ledF_eq (by decide +kernel) (by decide +kernel) ⟨by decide +kernel, by decide +kernel, by decide +kernel, -1, 0, 1, 0, by decide +kernel, by decide +kernel, by decide +kernel⟩
theorem few17_2 : LimL ((1, 2, 2, -1) : Q4) ∧ toL ((1, 2, 2, -1) : Q4) ((0, 2, 1, -3) : Q4) = ([(0, 1)] : List P2) ∧ okQ ((0, 2, 1, -3) : Q4) = true ∧ measC ((1, 2, 2, -1) : Q4) = measC ((0, 2, 1, -3) : Q4) := by
  have h1 : srtP (deedsL ((1, 2, 2, -1) : Q4)) = ([(0, 1)] : List P2) := by decide +kernel
  refine ⟨⟨lim_row (by decide +kernel) ⟨by decide, by decide, by decide, by decide⟩ (by decide) (by decide +kernel) (by decide +kernel), by decide +kernel, by decide +kernel⟩, ?_, by decide +kernel, by decide +kernel⟩
  unfold toL
  rw [h1]
  simp only [List.filter_cons, List.filter_nil, led17_2_0]
  decide
theorem led17_3_0 : ledF ((0, 2, 1, -3) : Q4) (0) (1) = ((0, 4, 1, 1) : Q4) := ledF_eq (by decide +kernel) (by decide +kernel) ⟨by decide +kernel, by decide +kernel, by decide +kernel, -1, 0, 0, 1, by decide +kernel, by decide +kernel, by decide +kernel⟩
theorem led17_3_1 : ledF ((0, 2, 1, -3) : Q4) (1) (2) = ((1, 2, 2, -1) : Q4) := ledF_eq (by decide +kernel) (by decide +kernel) ⟨by decide +kernel, by decide +kernel, by decide +kernel, 0, 1, 0, 1, by decide +kernel, by decide +kernel, by decide +kernel⟩
theorem led17_3_2 : ledF ((0, 2, 1, -3) : Q4) (1) (3) = ((0, 2, 1, -3) : Q4) := ledF_eq (by decide +kernel) (by decide +kernel) ⟨by decide +kernel, by decide +kernel, by decide +kernel, 0, 1, -1, 1, by decide +kernel, by decide +kernel, by decide +kernel⟩
theorem led17_3_3 : ledF ((0, 2, 1, -3) : Q4) (2) (3) = ((0, 2, 1, -3) : Q4) := ledF_eq (by decide +kernel) (by decide +kernel) ⟨by decide +kernel, by decide +kernel, by decide +kernel, -1, -1, 1, -1, by decide +kernel, by decide +kernel, by decide +kernel⟩
theorem few17_3 : LimL ((0, 2, 1, -3) : Q4) ∧ toL ((0, 2, 1, -3) : Q4) ((0, 1, 2, -3) : Q4) = ([] : List P2) ∧ okQ ((0, 1, 2, -3) : Q4) = true ∧ measC ((0, 2, 1, -3) : Q4) = measC ((0, 1, 2, -3) : Q4) := by
  have h1 : srtP (deedsL ((0, 2, 1, -3) : Q4)) = ([(0, 1), (1, 2), (1, 3), (2, 3)] : List P2) := by decide +kernel
  refine ⟨⟨lim_row (by decide +kernel) ⟨by decide, by decide, by decide, by decide⟩ (by decide) (by decide +kernel) (by decide +kernel), by decide +kernel, by decide +kernel⟩, ?_, by decide +kernel, by decide +kernel⟩
  unfold toL
  rw [h1]
  simp only [List.filter_cons, List.filter_nil, led17_3_0, led17_3_1, led17_3_2, led17_3_3]
  decide
end Kx
namespace Kx
open PySem PySem.Spec PyProof.Rows L2
def InvL17 (a p1 p2 p3 : Addr) (H : Hp) : Nat → SV → Hp → Prop := fun _ σ H2 => ∃ t4 t5 t6 t7 : Option V, σ = [some (.ref a), some (.ref p1), some (.ref p2), some (.ref p3), t4, t5, t6, t7, none] ∧ Same H H2
end Kx

set_option Elab.async false
set_option linter.all false
set_option maxRecDepth 100000
set_option maxHeartbeats 4000000
set_option exponentiation.threshold 4000
/-! Back to the heart. -/
namespace Kx
open PySem PySem.Spec PyProof.Rows L2
theorem gcdI_one_of {a b : Int} (h : ∀ d : Int, 0 ≤ d → d ∣ a → d ∣ b → d = 1) : gcdI a b = 1 := h _ (gcdI_nn _ _) (gcdI_dvdl _ _) (gcdI_dvdr _ _)
theorem dvd_gcd {d a b : Int} (h1 : d ∣ a) (h2 : d ∣ b) : d ∣ gcdI a b := Int.dvd_coe_gcd h1 h2
theorem one_of_dvd {d : Int} (h0 : 0 ≤ d) (h : d ∣ 1) : d = 1 := Int.dvd_antisymm h0 (by decide) h (Int.one_dvd _)
/-- Euclid: what is coprime to one factor divides the other -/
theorem dvd_of_coprime {d x y : Int} (hd : 0 ≤ d) (hx : 0 ≤ x) (h : gcdI d x = 1) (hdiv : d ∣ x * y) : d ∣ y := by
  obtain ⟨s, t, hst⟩ := bez (a := d) (b := x) hd hx
  rw [h] at hst
  obtain ⟨k, hk⟩ := hdiv
  refine ⟨s * y + t * k, ?_⟩
  have : y = s * d * y + t * (x * y) := by
    have e : (s * d + t * x) * y = 1 * y := by rw [hst]
    have e2 : (s * d + t * x) * y = s * d * y + t * (x * y) := by grind
    omega
  rw [hk] at this
  have e3 : d * (s * y + t * k) = s * d * y + t * (d * k) := by grind
  omega
/-- the part of c that is coprime to a: every divisor of c that is coprime to a divides it -/
theorem coprime_part (a : Int) (n : Nat) : ∀ c : Int, 1 ≤ c → c.toNat ≤ n → ∃ m : Int, 1 ≤ m ∧ gcdI m a = 1 ∧ ∀ d : Int, 0 ≤ d → d ∣ c → gcdI d a = 1 → d ∣ m := by
  induction n with
  | zero => intro c h1 h2; omega
  | succ n ih =>
    intro c h1 h2
    have hg := gcdI_posL (a := c) (b := a) (by omega)
    by_cases h : gcdI c a = 1
    · exact ⟨c, h1, h, fun d _ hd _ => hd⟩
    · have hm := Int.ediv_mul_cancel (gcdI_dvdl c a)
      have hc1 : 1 ≤ c / gcdI c a := by
        by_cases h3 : 1 ≤ c / gcdI c a
        · exact h3
        · have := Int.mul_le_mul_of_nonneg_right (show c / gcdI c a ≤ 0 by omega) (show 0 ≤ gcdI c a by omega)
          omega
      have hc2 : c / gcdI c a < c := by
        have := Int.mul_le_mul_of_nonneg_left (show 2 ≤ gcdI c a by omega) (show 0 ≤ c / gcdI c a by omega)
        omega
      obtain ⟨m, m1, m2, m3⟩ := ih (c / gcdI c a) hc1 (by omega)
      refine ⟨m, m1, m2, fun d d0 dc da => m3 d d0 ?_ da⟩
      refine dvd_of_coprime (x := gcdI c a) d0 (by omega) (gcdI_one_of fun e e0 e1 e2 => ?_) (by rw [Int.mul_comm, hm]; exact dc)
      have h5 : e ∣ gcdI d a := dvd_gcd e1 (Int.dvd_trans e2 (gcdI_dvdr _ _))
      rw [da] at h5
      exact one_of_dvd e0 h5
/-- a + p b is coprime to c for some p, where a, b, c have no divisor in common -/
theorem coprime_shift {a b c : Int} (ha : 0 ≤ a) (hc : 1 ≤ c) (h : gcdI (gcdI a b) c = 1) : ∃ p : Int, 0 ≤ p ∧ gcdI (p * b + a) c = 1 := by
  obtain ⟨m, m1, m2, m3⟩ := coprime_part a c.toNat c hc (Nat.le_refl _)
  refine ⟨m, by omega, gcdI_one_of fun d d0 d1 d2 => ?_⟩
  have hda : gcdI d a = 1 := gcdI_one_of fun e e0 e1 e2 => by
    have h1 : e ∣ m * b := by
      have := Int.dvd_sub (Int.dvd_trans e1 d1) e2
      rwa [Int.add_sub_cancel] at this
    have hem : gcdI e m = 1 := gcdI_one_of fun f f0 f1 f2 => by
      have h2 : f ∣ gcdI m a := dvd_gcd f2 (Int.dvd_trans f1 e2)
      rw [m2] at h2
      exact one_of_dvd f0 h2
    have h3 := dvd_of_coprime e0 (by omega) hem h1
    have h4 : e ∣ gcdI (gcdI a b) c := dvd_gcd (dvd_gcd e2 h3) (Int.dvd_trans e1 d2)
    rw [h] at h4
    exact one_of_dvd e0 h4
  have h5 := m3 d d0 d2 hda
  have h6 : d ∣ a := by
    have := Int.dvd_sub d1 (Int.dvd_trans h5 (Int.dvd_mul_right m b))
    rwa [Int.add_comm, Int.add_sub_cancel] at this
  have h7 : d ∣ gcdI d a := dvd_gcd (Int.dvd_refl _) h6
  rw [hda] at h7
  exact one_of_dvd d0 h7
/-- .. for some p below the lot -/
theorem coprime_shift_lot {q : Q4} (hq : okQ q = true) (h : gcdI (gcdI q.1 q.2.1) q.2.2.1 = 1) : ∃ p : Int, 0 ≤ p ∧ p < shareQ q ∧ gcdI (p * q.2.1 + q.1) q.2.2.1 = 1 := by
  obtain ⟨o1, o2, o3, o4, o5, o6⟩ := okQ_get hq
  obtain ⟨p, h0, h1⟩ := coprime_shift o4 o2 h
  have hs := share_pos hq
  refine ⟨p % shareQ q, Int.emod_nonneg _ (by omega), Int.emod_lt_of_pos _ (by omega), ?_⟩
  have hg := gcdI_pos (a := q.2.1) (b := q.2.2.1) (by omega)
  obtain ⟨f1, f2⟩ := share_mul q.2.1 q.2.2.1 (by omega)
  have hsh : shareQ q = q.2.2.1 / gcdI q.2.1 q.2.2.1 := rfl
  have e1 : p % shareQ q * q.2.1 + q.1 = (p * q.2.1 + q.1) - q.2.2.1 * (p / shareQ q * (q.2.1 / gcdI q.2.1 q.2.2.1)) := by
    rw [Int.emod_def]
    have e2 : shareQ q * q.2.1 = q.2.2.1 * (q.2.1 / gcdI q.2.1 q.2.2.1) := by
      have a1 : shareQ q * q.2.1 = shareQ q * (q.2.1 / gcdI q.2.1 q.2.2.1 * gcdI q.2.1 q.2.2.1) := by rw [f2]
      have a2 : q.2.2.1 * (q.2.1 / gcdI q.2.1 q.2.2.1) = (q.2.2.1 / gcdI q.2.1 q.2.2.1 * gcdI q.2.1 q.2.2.1) * (q.2.1 / gcdI q.2.1 q.2.2.1) := by rw [f1]
      rw [a1, a2, hsh]
      grind
    have e3 : (p - shareQ q * (p / shareQ q)) * q.2.1 + q.1 = (p * q.2.1 + q.1) - (p / shareQ q) * (shareQ q * q.2.1) := by grind
    rw [e3, e2]
    grind
  refine gcdI_one_of fun d d0 d1 d2 => ?_
  have h2 : d ∣ p * q.2.1 + q.1 := by
    have := Int.dvd_add (show d ∣ p % shareQ q * q.2.1 + q.1 from d1) (Int.dvd_trans d2 (Int.dvd_mul_right q.2.2.1 (p / shareQ q * (q.2.1 / gcdI q.2.1 q.2.2.1))))
    rw [e1, Int.sub_add_cancel] at this
    exact this
  have h3 := dvd_gcd h2 d2
  rw [h1] at h3
  exact one_of_dvd d0 h3
/-- how far a cutting is from the heart -/
def hdist (q : Q4) : Int := if q.2.2.1 = 1 then 0 else if gcdI (gcdI q.1 q.2.1) q.2.2.1 = 1 then 1 else 2
/-- behind a heart: one step at most -/
theorem heart_behind {b e p n : Int} {r : Q4} (hq : okQ ((0, b, 1, e) : Q4) = true) (hd : DeedOk ((0, b, 1, e) : Q4) p n = true) (h : Led ((0, b, 1, e) : Q4) p n r) : r.2.2.1 = gcdI n b ∧ gcdI (gcdI r.1 r.2.1) r.2.2.1 = 1 := by
  obtain ⟨d1, d2, d3, d4, d5⟩ := deed_get hd
  obtain ⟨x, z, s, t, hxz, hst, ha⟩ := h.a1
  have hI : colI ((0, b, 1, e) : Q4) p n = p * b := by unfold colI; simp
  have hJ : colJ ((0, b, 1, e) : Q4) n = n := by unfold colJ; simp
  have hK : colK ((0, b, 1, e) : Q4) n x z = x * b + e + n := by unfold colK; simp
  have hL : colL ((0, b, 1, e) : Q4) z = z := by unfold colL; simp
  have hc : c1Q ((0, b, 1, e) : Q4) p n = gcdI n b := by
    unfold c1Q
    rw [hI, hJ]
    have g0 := gcdI_nn n b
    obtain ⟨g, hg⟩ : ∃ g, g = gcdI (p * b) n := ⟨_, rfl⟩
    rw [← hg]
    refine Int.dvd_antisymm (by rw [hg]; exact gcdI_nn _ _) g0 ?_ (by rw [hg]; exact dvd_gcd (Int.dvd_trans (gcdI_dvdr n b) (Int.dvd_mul_left _ _)) (gcdI_dvdl n b))
    have h1 : g ∣ p * b := by rw [hg]; exact gcdI_dvdl _ _
    have h2 : g ∣ n := by rw [hg]; exact gcdI_dvdr _ _
    have hgp : gcdI g p = 1 := gcdI_one_of fun f f0 f1 f2 => by
      have h3 : f ∣ gcdI p n := dvd_gcd f2 (Int.dvd_trans f1 h2)
      rw [d5] at h3
      exact one_of_dvd f0 h3
    exact dvd_gcd h2 (dvd_of_coprime (by rw [hg]; exact gcdI_nn _ _) d3 hgp h1)
  have hc1 := c1_pos (p := p) hq d1
  have hbm := b1_mul hd
  rw [h.c1, h.b1]
  refine ⟨hc, gcdI_one_of fun d d0 e1 e2 => ?_⟩
  have da : d ∣ r.1 := Int.dvd_trans e1 (gcdI_dvdl _ _)
  have db : d ∣ b1Q ((0, b, 1, e) : Q4) p n := Int.dvd_trans e1 (gcdI_dvdr _ _)
  obtain ⟨β, hβ⟩ : c1Q ((0, b, 1, e) : Q4) p n ∣ b := by rw [hc]; exact gcdI_dvdr _ _
  obtain ⟨ν, hν⟩ : c1Q ((0, b, 1, e) : Q4) p n ∣ n := by rw [hc]; exact gcdI_dvdl _ _
  generalize hC : c1Q ((0, b, 1, e) : Q4) p n = C at *
  generalize hB : b1Q ((0, b, 1, e) : Q4) p n = B at *
  have hw : wD ((0, b, 1, e) : Q4) n = b - n * e - n * n * 1 := rfl
  rw [hw] at hbm
  simp only at hbm
  have hB2 : B = β - ν * e - ν * n := by
    have : B * C = (β - ν * e - ν * n) * C := by
      rw [hbm]
      have : (β - ν * e - ν * n) * C = C * β - (C * ν) * e - (C * ν) * n := by grind
      rw [this, ← hβ, ← hν]
      grind
    exact Int.eq_of_mul_eq_mul_right (by omega) this
  rw [hI, hJ] at hst
  rw [hK, hL] at ha
  have hst1 : s * p * β + t * ν = 1 := by
    have : (s * p * β + t * ν) * C = 1 * C := by
      have e5 : (s * p * β + t * ν) * C = s * (p * (C * β)) + t * (C * ν) := by grind
      rw [e5, ← hβ, ← hν, Int.one_mul, hst]
    exact Int.eq_of_mul_eq_mul_right (by omega) this
  have dn : d ∣ n := Int.dvd_trans e2 (by rw [hν]; exact Int.dvd_mul_right _ _)
  have dB : d ∣ b := Int.dvd_trans e2 (by rw [hβ]; exact Int.dvd_mul_right _ _)
  -- d divides s (e) + t z
  have f1 : d ∣ s * (x * b + e + n) + t * z := by
    have h1 : d ∣ gcdI B C := dvd_gcd db e2
    have h2 : d ∣ -(s * (x * b + e + n) + t * z) := by
      have h3 := Int.emod_def (-(s * (x * b + e + n) + t * z)) (gcdI B C)
      rw [← ha] at h3
      have h4 : -(s * (x * b + e + n) + t * z) = r.1 + gcdI B C * (-(s * (x * b + e + n) + t * z) / gcdI B C) := by omega
      rw [h4]
      exact Int.dvd_add da (Int.dvd_trans h1 (Int.dvd_mul_right _ _))
    exact Int.dvd_neg.mp h2
  obtain ⟨u1, hu1⟩ := f1
  obtain ⟨u2, hu2⟩ := dn
  obtain ⟨u3, hu3⟩ := dB
  obtain ⟨u4, hu4⟩ := db
  have key : (1 : Int) = d * (s * p * u4 + s * p * ν * u2 + ν * (p * u1 - s * p * x * u3 - s * p * u2) - ν * t * x * u2) := by
    have k1 : β = B + ν * e + ν * n := by omega
    have k2 : p * (s * (x * b + e + n) + t * z) = s * p * x * b + s * p * e + s * p * n + t * (1 + n * x) := by
      rw [← hxz]
      grind
    rw [hu1] at k2
    have k3 : s * p * (B + ν * e + ν * n) + t * ν = 1 := by rw [← k1]; exact hst1
    have k4 : s * p * B + s * p * ν * n + ν * (s * p * e + t) = 1 := by
      rw [← k3]
      grind
    have k5 : s * p * e + t = p * (d * u1) - s * p * x * b - s * p * n - t * n * x := by
      have : t * (1 + n * x) = t + t * n * x := by grind
      omega
    rw [k5, hu3, hu4] at k4
    rw [show n = d * u2 from hu2] at k4
    rw [← k4]
    grind
  exact one_of_dvd d0 ⟨_, key⟩
end Kx
namespace Kx
open PySem PySem.Spec PyProof.Rows L2
def spDist : Sp := fun vs H Q _ => ∃ (pr : Addr) (q : Q4), vs = [.ref pr] ∧ CutAt H pr q ∧ ∀ H', Same H H' → Q (.int (hdist q)) H'
theorem deed_p1 {q : Q4} {p : Int} (hq : okQ q = true) (h0 : 0 ≤ p) (h1 : p < shareQ q) : DeedOk q p 1 = true := by
  obtain ⟨o1, o2, o3, o4, o5, o6⟩ := okQ_get hq
  unfold DeedOk
  have hw : 0 < wD q 1 := by unfold wD; omega
  have hg : gcdI p 1 = 1 := gcdI_one_of fun d d0 _ d2 => one_of_dvd d0 d2
  rw [decide_eq_true hw, decide_eq_true h0, decide_eq_true (show p < 1 * shareQ q by omega), decide_eq_true hg]
  rfl
theorem c1_p1 (q : Q4) (p : Int) : c1Q q p 1 = gcdI (p * q.2.1 + q.1) q.2.2.1 := by
  unfold c1Q colI colJ
  rw [Int.one_mul, Int.one_mul]
def spNearer : Sp := fun vs H Q _ => ∃ (pr : Addr) (q : Q4), vs = [.ref pr] ∧ CutAt H pr q ∧ hdist q = 1 ∧ Sz4 200 q ∧ ∀ (r : Addr) (p : Int) (H' : Hp), H r = none → Same H H' → H' r = some (.tup [.int p, .int 1]) → DeedOk q p 1 = true → c1Q q p 1 = 1 → p.natAbs < 2 ^ 200 → Q (.ref r) H'
def InvNe (pr : Addr) (ps : Int) (H : Hp) : SV → Hp → Prop := fun σ H2 => ∃ p : Int, σ = [some (.ref pr), some (.int p)] ∧ 0 ≤ p ∧ p ≤ ps ∧ Same H H2
def spWordTo : Sp := fun vs H Q _ => ∃ (pr : Addr) (q : Q4), vs = [.ref pr] ∧ CutAt H pr q ∧ Sz4 200 q ∧ hdist q ≤ 1 ∧ ∀ (r : Addr) (ls : List Addr) (H' : Hp), H r = none → Same H H' → H' r = some (.lst (ls.map V.ref)) → (hdist q = 0 → ls = []) → (hdist q = 1 → ∃ (l : Addr) (p : Int), ls = [l] ∧ H' l = some (.tup [.int p, .int 1]) ∧ DeedOk q p 1 = true ∧ c1Q q p 1 = 1 ∧ p.natAbs < 2 ^ 200) → Q (.ref r) H'
/-- how much of the one step is still to come -/
def stepN (σ : SV) (H : Hp) : Nat := match σ[1]? with
  | some (some (V.ref p)) => (match H p with
    | some (HO.lst xs) => 1 - xs.length
    | _ => 0)
  | _ => 0
theorem stepN_eq {s0 : Option V} {rest : List (Option V)} {p : Addr} {H : Hp} {xs : List V} (h : H p = some (.lst xs)) : stepN (s0 :: some (.ref p) :: rest) H = 1 - xs.length := by
  unfold stepN
  simp only [List.getElem?_cons_succ, List.getElem?_cons_zero, h]
def InvWt (q : Q4) (pr pw : Addr) (H : Hp) : SV → Hp → Prop := fun σ H2 => Same H H2 ∧ ((σ = [some (.ref pr), some (.ref pw), some (.ref pr)] ∧ H2 pw = some (.lst [])) ∨ (∃ (l r : Addr) (p : Int), hdist q = 1 ∧ σ = [some (.ref pr), some (.ref pw), some (.ref r)] ∧ H2 pw = some (.lst [.ref l]) ∧ H2 l = some (.tup [.int p, .int 1]) ∧ DeedOk q p 1 = true ∧ c1Q q p 1 = 1 ∧ p.natAbs < 2 ^ 200 ∧ H2 r = some (.tup (cutV4 (ledF q p 1)))))
end Kx
namespace Kx
open PySem PySem.Spec PyProof.Rows L2
theorem atI_neg1 {x : V} : atI [x] (-1) = some x := rfl
end Kx
namespace Kx
open PySem PySem.Spec PyProof.Rows L2
def spLawIsDeed : Sp := fun vs H Q _ => ∃ (pr pt : Addr) (q : Q4) (p n : Int), vs = [.ref pr, .ref pt] ∧ CutAt H pr q ∧ H pt = some (.tup [.int p, .int n]) ∧ Sz4 200 q ∧ p.natAbs < 2 ^ 200 ∧ n.natAbs < 2 ^ 200 ∧ ∀ H', Same H H' → Q (.bl (DeedOk q p n)) H'
end Kx
namespace Kx
open PySem PySem.Spec PyProof.Rows L2
def InvBzL (a b : Int) (H : Hp) : SV → Hp → Prop := fun σ H2 => ∃ (x y l0 l1 r0 r1 : Int) (L R : Addr) (t6 : Option V), σ = [some (.int a), some (.int b), some (.int x), some (.int y), some (.ref L), some (.ref R), t6] ∧ Same H H2 ∧ 0 ≤ x ∧ 0 ≤ y ∧ x < 2 ^ 1000 ∧ y < 2 ^ 1000 ∧ gcdI x y = gcdI a b ∧ H2 L = some (.tup [.int l0, .int l1]) ∧ H2 R = some (.tup [.int r0, .int r1]) ∧ l0 * a + l1 * b = x ∧ r0 * a + r1 * b = y ∧
  (l0.natAbs : Int) ≤ b ∧ (l1.natAbs : Int) ≤ a + 1 ∧ (r0.natAbs : Int) ≤ b ∧ (r1.natAbs : Int) ≤ a + 1 ∧ (r0.natAbs : Int) * x + (l0.natAbs : Int) * y ≤ b ∧ (r1.natAbs : Int) * x + (l1.natAbs : Int) * y ≤ a + 1
theorem lin_step (l r k a b x y : Int) (l' r' : Int) (h1 : l * a + r * b = x) (h2 : l' * a + r' * b = y) : (l - k * l') * a + (r - k * r') * b = x - k * y := by
  rw [← h1, ← h2]
  grind
end Kx
namespace Kx
open PySem PySem.Spec PyProof.Rows L2
def spHeartDrawn : Sp := fun vs H Q _ => ∃ (g : Addr) (D : Int) (k : Nat), vs = [.ref g, .int D] ∧ GenAt H g k ∧ k ≤ 2 ^ 39 ∧ Meas D ∧ D < 2 ^ 120 ∧ ∀ (r : Addr) (e : Int) (H' : Hp), H r = none → HeartAt H' r D e → GenAt H' g (k + 100) → Keep g H H' → Q (.ref r) H'
def spGreatDeed : Sp := fun vs H Q _ => ∃ (g pr : Addr) (q : Q4) (k : Nat), vs = [.ref g, .ref pr] ∧ GenAt H g k ∧ k ≤ 2 ^ 39 ∧ CutAt H pr q ∧ q.2.2.1 = 1 ∧ Sz4 200 q ∧ ∀ (r : Addr) (p n : Int) (H' : Hp), H r = none → H' r = some (.tup [.int p, .int n]) → DeedOk q p n = true → n ≤ 10 ^ 16 → GenAt H' g (k + 1000) → Keep g H H' → Q (.ref r) H'
def InvGd (g pr : Addr) (q : Q4) (k : Nat) (b : Int) (H : Hp) : Nat → SV → Hp → Prop := fun i σ H2 => ∃ (m n : Int) (t7 t8 : Option V), σ = [some (.ref g), some (.ref pr), some (.int q.2.1), some (.int 1), some (.int q.2.2.2), some (.int n), some (.int m), some (.int b), t7, t8, none] ∧ 1 ≤ m ∧ m ≤ 10 ^ 14 + 1 ∧ n = 1 ∧ GenAt H2 g (k + 100 + 20 * i) ∧ Keep g H H2
end Kx
namespace Kx
open PySem PySem.Spec PyProof.Rows L2
def InvGp (g pr : Addr) (q : Q4) (k : Nat) (n m b : Int) (H : Hp) : Nat → SV → Hp → Prop := fun _ σ H2 => ∃ (p : Int) (t8 t9 : Option V), σ = [some (.ref g), some (.ref pr), some (.int q.2.1), some (.int 1), some (.int q.2.2.2), some (.int n), some (.int m), some (.int b), t8, t9, some (.int p)] ∧ 0 ≤ p ∧ p < n ∧ GenAt H2 g (k + 900) ∧ Keep g H H2
end Kx
namespace Kx
open PySem PySem.Spec PyProof.Rows L2
def spRight63 : Sp := fun vs H Q _ => ∃ (g pr : Addr) (D e : Int) (k : Nat), vs = [.ref g, .ref pr] ∧ GenAt H g k ∧ k ≤ 2 ^ 39 ∧ HeartAt H pr D e ∧ ∀ H', GenAt H' g (k + 1000) → Keep g H H' → Q (.bl true) H'
theorem hq_sz200 {D e : Int} (hM : Meas D) (hD : D < 2 ^ 120) (h1 : -hsz D ≤ e) (h2 : e ≤ hsz D - 2) : Sz4 200 (hq D e) := by
  have hs := hsz_le hM.1 (show D < 2 ^ 200 by omega)
  obtain ⟨t1, t2, t3, t4, t5⟩ := hsz_spec hM.1
  have hee : e * e < D := by
    by_cases h0 : 0 ≤ e
    · have := sq_mono (x := e) (y := hsz D) h0 (by omega)
      omega
    · have := sq_mono (x := -e) (y := hsz D) (by omega) (by omega)
      have e3 : -e * -e = e * e := by grind
      omega
  have h0 : 0 ≤ e * e := sq_nonneg' e
  refine ⟨?_, ?_, ?_, ?_⟩
  · show (0 : Int).natAbs < 2 ^ 200
    decide
  · show ((D - e * e) / 4).natAbs < 2 ^ 200
    omega
  · show (1 : Int).natAbs < 2 ^ 200
    decide
  · show e.natAbs < 2 ^ 200
    omega
end Kx
namespace Kx
open PySem PySem.Spec PyProof.Rows L2
theorem cr_intB {X : Cx} : CallR X (.type "int") (fun xs H Q => ∃ k, xs = [.bl k] ∧ Q (.int (if k = true then 1 else 0)) H) := fun pins s σ H xs us Q I r h => call_int1 pins s σ H xs us Q I r (.inr h)
end Kx
namespace Kx
open PySem PySem.Spec PyProof.Rows L2
theorem heartB_cut {H : Hp} {r : Addr} {q : Q4} (h : CutAt H r q) : heartB H (.ref r) = decide (q.2.2.1 = 1) := by
  have hc : cutB H (.ref r) = true := by
    unfold cutB wholesB
    simp only [h.at', cutV4, List.length_cons, List.length_nil, List.all_cons, List.all_nil, isIntV]
    exact h.ok
  have e : H r = some (.tup [.int q.1, .int q.2.1, .int q.2.2.1, .int q.2.2.2]) := h.at'
  unfold heartB
  rw [hc]
  simp only [e, Bool.true_and]
end Kx
namespace Kx
open PySem PySem.Spec PyProof.Rows L2
theorem sz_meas {q : Q4} (hq : okQ q = true) (h : measC q < 2 ^ 120) : Sz4 200 q := by
  obtain ⟨o1, o2, o3, o4, o5, o6⟩ := okQ_get hq
  have hgl := gcdI_le (a := q.2.1) (b := q.2.2.1) (by omega)
  have e4 : measC q = q.2.2.2 * q.2.2.2 + 4 * (q.2.1 * q.2.2.1) := by unfold measC; grind
  have h1 := Int.mul_le_mul_of_nonneg_left o2 (show 0 ≤ q.2.1 by omega)
  have h2 := Int.mul_le_mul_of_nonneg_right o1 (show 0 ≤ q.2.2.1 by omega)
  have h3 := sq_nonneg' q.2.2.2
  have h4 : ((q.2.2.2.natAbs : Nat) : Int) ≤ q.2.2.2 * q.2.2.2 := by
    by_cases h0 : q.2.2.2.natAbs = 0
    · omega
    · have := Nat.mul_le_mul_left q.2.2.2.natAbs (show 1 ≤ q.2.2.2.natAbs by omega)
      have e5 : ((q.2.2.2.natAbs * q.2.2.2.natAbs : Nat) : Int) = q.2.2.2 * q.2.2.2 := Int.natAbs_mul_self' _ ▸ by simp [Int.natAbs_mul_self']
      omega
  refine ⟨?_, ?_, ?_, ?_⟩ <;> omega
end Kx
namespace Kx
open PySem PySem.Spec PyProof.Rows L2
theorem heart_is {D : Int} {q : Q4} (hM : Meas D) (hok : okQ q = true) (h1 : q.2.2.1 = 1) (hm : measC q = D) : q = hq D q.2.2.2 ∧ q.2.2.2 % 2 = D % 2 ∧ -hsz D ≤ q.2.2.2 ∧ q.2.2.2 ≤ hsz D - 2 := by
  obtain ⟨a, b, c, e⟩ := q
  obtain ⟨o1, o2, o3, o4, o5, o6⟩ := okQ_get hok
  simp only at *
  subst h1
  have hg : gcdI b 1 = 1 := gcdI_one_of fun d d0 _ d2 => one_of_dvd d0 d2
  rw [hg] at o5
  have e4 : e * e + 4 * b = D := by rw [← hm]; unfold measC; grind
  have hp : e % 2 = D % 2 := by
    have h2 : (e * e) % 2 = e % 2 := by
      rcases (show e % 2 = 0 ∨ e % 2 = 1 by omega) with h | h <;> rw [Int.mul_emod, h] <;> rfl
    omega
  have e2 : (e + 2) * (e + 2) = e * e + 4 * e + 4 := by grind
  have hf : fitB D e = true := by
    unfold fitB
    simp only [Bool.and_eq_true, decide_eq_true_eq]
    omega
  obtain ⟨f1, f2, f3⟩ := (fit_iff hM.1).mp hf
  refine ⟨?_, f1, f2, f3⟩
  unfold hq
  rw [show a = 0 by omega, show (D - e * e) / 4 = b by omega]
end Kx
namespace Kx
open PySem PySem.Spec PyProof.Rows L2
theorem row63_0 : okQ ((0, 2, 1, -7) : Q4) = true ∧ DeedOk ((0, 2, 1, -7) : Q4) (1) (4) = true ∧ ledF ((0, 2, 1, -7) : Q4) (1) (4) = ((0, 7, 2, -1) : Q4) := ⟨by decide +kernel, by decide +kernel, ledF_eq (by decide +kernel) (by decide +kernel) ⟨by decide +kernel, by decide +kernel, by decide +kernel, 0, 1, 1, 0, by decide +kernel, by decide +kernel, by decide +kernel⟩⟩
theorem row63_1 : okQ ((0, 7, 2, -1) : Q4) = true ∧ DeedOk ((0, 7, 2, -1) : Q4) (1) (1) = true ∧ ledF ((0, 7, 2, -1) : Q4) (1) (1) = ((0, 12, 1, -3) : Q4) := ⟨by decide +kernel, by decide +kernel, ledF_eq (by decide +kernel) (by decide +kernel) ⟨by decide +kernel, by decide +kernel, by decide +kernel, -1, 0, 1, -3, by decide +kernel, by decide +kernel, by decide +kernel⟩⟩
theorem row63_2 : okQ ((0, 12, 1, -3) : Q4) = true ∧ hdist ((0, 7, 2, -1) : Q4) = 1 := ⟨by decide +kernel, by decide +kernel⟩
def InvL63 (a g : Addr) (H : Hp) : Nat → SV → Hp → Prop := fun i σ H2 => ∃ t2 t3 t4 : Option V, σ = [some (.ref a), some (.ref g), t2, t3, t4] ∧ GenAt H2 g (100000 + 5000 * i) ∧ Keep g H H2
end Kx

set_option Elab.async false
set_option linter.all false
set_option maxRecDepth 100000
set_option maxHeartbeats 4000000
set_option exponentiation.threshold 4000
/-! Words of deeds, and the word to the heart. -/
namespace Kx
open PySem PySem.Spec PyProof.Rows L2
/-- where a word leads -/
noncomputable def ledW : Q4 → List P2 → Q4
  | q, [] => q
  | q, x :: xs => ledW (ledF q x.1 x.2) xs
def WordOk : Q4 → List P2 → Prop
  | _, [] => True
  | q, x :: xs => DeedOk q x.1 x.2 = true ∧ WordOk (ledF q x.1 x.2) xs
theorem ledW_app : ∀ (q : Q4) (xs ys : List P2), ledW q (xs ++ ys) = ledW (ledW q xs) ys
  | q, [], ys => rfl
  | q, x :: xs, ys => ledW_app (ledF q x.1 x.2) xs ys
theorem wordOk_app : ∀ (q : Q4) (xs ys : List P2), WordOk q (xs ++ ys) ↔ WordOk q xs ∧ WordOk (ledW q xs) ys
  | q, [], ys => by simp [WordOk, ledW]
  | q, x :: xs, ys => by
    show (_ ∧ WordOk (ledF q x.1 x.2) (xs ++ ys)) ↔ (_ ∧ WordOk (ledF q x.1 x.2) xs) ∧ WordOk (ledW (ledF q x.1 x.2) xs) ys
    rw [wordOk_app (ledF q x.1 x.2) xs ys, and_assoc]
theorem ledW_ok : ∀ {q : Q4} {xs : List P2}, okQ q = true → WordOk q xs → okQ (ledW q xs) = true ∧ measC (ledW q xs) = measC q
  | q, [], hq, _ => ⟨hq, rfl⟩
  | q, x :: xs, hq, h => by
    have hL := ledF_led hq h.1
    obtain ⟨h1, h2⟩ := ledW_ok (xs := xs) (led_ok hq h.1 hL) h.2
    exact ⟨h1, h2.trans (led_meas h.1 hL)⟩
theorem take_at {α : Type} {l : List α} {i : Nat} {x : α} (h : l[i]? = some x) : l.take (i + 1) = l.take i ++ [x] := by
  rw [List.take_add_one, h]
  rfl
theorem wordOk_take {q : Q4} {xs : List P2} (h : WordOk q xs) (i : Nat) : WordOk q (xs.take i) := by
  rw [← List.take_append_drop i xs] at h
  exact ((wordOk_app _ _ _).mp h).1
theorem wordOk_at {q : Q4} {xs : List P2} {i : Nat} {x : P2} (h : WordOk q xs) (hx : xs[i]? = some x) : DeedOk (ledW q (xs.take i)) x.1 x.2 = true := by
  have h1 := wordOk_take h (i + 1)
  rw [take_at hx] at h1
  exact ((wordOk_app _ _ _).mp h1).2.1
theorem ledW_next {q : Q4} {xs : List P2} {i : Nat} {x : P2} (hx : xs[i]? = some x) : ledW q (xs.take (i + 1)) = ledF (ledW q (xs.take i)) x.1 x.2 := by
  rw [take_at hx, ledW_app]
  rfl
/-! ### nearer to the heart -/
theorem hdist_cases (q : Q4) : (hdist q = 0 ∧ q.2.2.1 = 1) ∨ (hdist q = 1 ∧ q.2.2.1 ≠ 1 ∧ gcdI (gcdI q.1 q.2.1) q.2.2.1 = 1) ∨ (hdist q = 2 ∧ q.2.2.1 ≠ 1 ∧ gcdI (gcdI q.1 q.2.1) q.2.2.1 ≠ 1) := by
  unfold hdist
  by_cases h1 : q.2.2.1 = 1
  · exact .inl ⟨by rw [if_pos h1], h1⟩
  · rw [if_neg h1]
    by_cases h2 : gcdI (gcdI q.1 q.2.1) q.2.2.1 = 1
    · exact .inr (.inl ⟨by rw [if_pos h2], h1, h2⟩)
    · exact .inr (.inr ⟨by rw [if_neg h2], h1, h2⟩)
theorem behind1 {q r : Q4} {p : Int} (hq : okQ q = true) (hd : DeedOk q p 1 = true) (h : Led q p 1 r) (hg : gcdI (p * q.2.1 + q.1) (gcdI q.2.2.1 (q.2.1 - q.2.2.2)) = 1) : gcdI (gcdI r.1 r.2.1) r.2.2.1 = 1 := by
  obtain ⟨d1, d2, d3, d4, d5⟩ := deed_get hd
  obtain ⟨x, z, s, t, hxz, hst, ha⟩ := h.a1
  have hc1 := c1_pos (p := p) hq d1
  have hbm := b1_mul hd
  obtain ⟨i0, hi⟩ := gcdI_dvdl (colI q p 1) (colJ q 1)
  obtain ⟨j0, hj⟩ := gcdI_dvdr (colI q p 1) (colJ q 1)
  have hcc : gcdI (colI q p 1) (colJ q 1) = c1Q q p 1 := rfl
  rw [hcc] at hi hj
  have hI : colI q p 1 = p * q.2.1 + q.1 := by unfold colI; rw [Int.one_mul]
  have hJ : colJ q 1 = q.2.2.1 := by unfold colJ; rw [Int.one_mul]
  have hK : colK q 1 x z = z * colI q p 1 - wD q 1 := by
    rw [hI]
    unfold colK wD
    have : x = p * z - 1 := by omega
    rw [this]
    grind
  have hL : colL q z = z * colJ q 1 := by rw [hJ]; rfl
  rw [h.c1, h.b1]
  refine gcdI_one_of fun d d0 e1 e2 => ?_
  have da : d ∣ r.1 := Int.dvd_trans e1 (gcdI_dvdl _ _)
  have db : d ∣ b1Q q p 1 := Int.dvd_trans e1 (gcdI_dvdr _ _)
  have f1 : d ∣ s * colK q 1 x z + t * colL q z := by
    have h1 : d ∣ gcdI (b1Q q p 1) (c1Q q p 1) := dvd_gcd db e2
    have h2 : d ∣ -(s * colK q 1 x z + t * colL q z) := by
      have h3 := Int.emod_def (-(s * colK q 1 x z + t * colL q z)) (gcdI (b1Q q p 1) (c1Q q p 1))
      rw [← ha] at h3
      have h4 : -(s * colK q 1 x z + t * colL q z) = r.1 + gcdI (b1Q q p 1) (c1Q q p 1) * (-(s * colK q 1 x z + t * colL q z) / gcdI (b1Q q p 1) (c1Q q p 1)) := by omega
      rw [h4]
      exact Int.dvd_add da (Int.dvd_trans h1 (Int.dvd_mul_right _ _))
    exact Int.dvd_neg.mp h2
  have f2 : s * colK q 1 x z + t * colL q z = z * c1Q q p 1 - s * wD q 1 := by
    rw [hK, hL, ← hst]
    grind
  rw [f2] at f1
  have f3 : d ∣ s * wD q 1 := by
    have h1 : d ∣ z * c1Q q p 1 := Int.dvd_trans e2 (Int.dvd_mul_left _ _)
    have h2 := Int.dvd_sub h1 f1
    rwa [show z * c1Q q p 1 - (z * c1Q q p 1 - s * wD q 1) = s * wD q 1 by omega] at h2
  have e3 : s * i0 + t * j0 = 1 := by
    have e : c1Q q p 1 * (s * i0 + t * j0) = c1Q q p 1 * 1 := by
      have : c1Q q p 1 * (s * i0 + t * j0) = s * (c1Q q p 1 * i0) + t * (c1Q q p 1 * j0) := by grind
      rw [this, ← hi, ← hj, hst]; omega
    exact Int.eq_of_mul_eq_mul_left (by omega) e
  have e4 : b1Q q p 1 = j0 * wD q 1 := by
    rw [← hJ, hj] at hbm
    have : b1Q q p 1 * c1Q q p 1 = (j0 * wD q 1) * c1Q q p 1 := by rw [hbm]; grind
    exact Int.eq_of_mul_eq_mul_right (by omega) this
  have f4 : d ∣ wD q 1 := by
    have : wD q 1 = i0 * (s * wD q 1) + t * (j0 * wD q 1) := by
      have h5 : (s * i0 + t * j0) * wD q 1 = i0 * (s * wD q 1) + t * (j0 * wD q 1) := by grind
      rw [e3] at h5
      omega
    rw [this, ← e4]
    exact Int.dvd_add (Int.dvd_trans f3 (Int.dvd_mul_left _ _)) (Int.dvd_trans db (Int.dvd_mul_left _ _))
  have dc : d ∣ q.2.2.1 := by rw [← hJ, hj]; exact Int.dvd_trans e2 (Int.dvd_mul_right _ _)
  have di : d ∣ p * q.2.1 + q.1 := by rw [← hI, hi]; exact Int.dvd_trans e2 (Int.dvd_mul_right _ _)
  have dbe : d ∣ q.2.1 - q.2.2.2 := by
    have : q.2.1 - q.2.2.2 = wD q 1 + q.2.2.1 := by unfold wD; omega
    rw [this]
    exact Int.dvd_add f4 dc
  have h9 := dvd_gcd di (dvd_gcd dc dbe)
  rw [hg] at h9
  exact one_of_dvd d0 h9
/-- .. for some p below the lot -/
theorem shift_lot {q : Q4} {m p : Int} (hq : okQ q = true) (hm : m ∣ q.2.2.1) (h0 : 0 ≤ p) (h1 : gcdI (p * q.2.1 + q.1) m = 1) : ∃ p : Int, 0 ≤ p ∧ p < shareQ q ∧ gcdI (p * q.2.1 + q.1) m = 1 := by
  obtain ⟨o1, o2, o3, o4, o5, o6⟩ := okQ_get hq
  have hs := share_pos hq
  refine ⟨p % shareQ q, Int.emod_nonneg _ (by omega), Int.emod_lt_of_pos _ (by omega), ?_⟩
  have hg := gcdI_pos (a := q.2.1) (b := q.2.2.1) (by omega)
  obtain ⟨f1, f2⟩ := share_mul q.2.1 q.2.2.1 (by omega)
  have hsh : shareQ q = q.2.2.1 / gcdI q.2.1 q.2.2.1 := rfl
  have e1 : p % shareQ q * q.2.1 + q.1 = (p * q.2.1 + q.1) - q.2.2.1 * (p / shareQ q * (q.2.1 / gcdI q.2.1 q.2.2.1)) := by
    rw [Int.emod_def]
    have e2 : shareQ q * q.2.1 = q.2.2.1 * (q.2.1 / gcdI q.2.1 q.2.2.1) := by
      have a1 : shareQ q * q.2.1 = shareQ q * (q.2.1 / gcdI q.2.1 q.2.2.1 * gcdI q.2.1 q.2.2.1) := by rw [f2]
      have a2 : q.2.2.1 * (q.2.1 / gcdI q.2.1 q.2.2.1) = (q.2.2.1 / gcdI q.2.1 q.2.2.1 * gcdI q.2.1 q.2.2.1) * (q.2.1 / gcdI q.2.1 q.2.2.1) := by rw [f1]
      rw [a1, a2, hsh]
      grind
    have e3 : (p - shareQ q * (p / shareQ q)) * q.2.1 + q.1 = (p * q.2.1 + q.1) - (p / shareQ q) * (shareQ q * q.2.1) := by grind
    rw [e3, e2]
    grind
  refine gcdI_one_of fun d d0 d1 d2 => ?_
  have h2 : d ∣ p * q.2.1 + q.1 := by
    have := Int.dvd_add (show d ∣ p % shareQ q * q.2.1 + q.1 from d1) (Int.dvd_trans (Int.dvd_trans d2 hm) (Int.dvd_mul_right q.2.2.1 (p / shareQ q * (q.2.1 / gcdI q.2.1 q.2.2.1))))
    rw [e1, Int.sub_add_cancel] at this
    exact this
  have h3 := dvd_gcd h2 d2
  rw [h1] at h3
  exact one_of_dvd d0 h3
theorem near_ex {q : Q4} (hq : okQ q = true) (h0 : hdist q ≠ 0) : ∃ p : Int, 0 ≤ p ∧ p < shareQ q ∧ hdist (ledF q p 1) < hdist q := by
  obtain ⟨o1, o2, o3, o4, o5, o6⟩ := okQ_get hq
  rcases hdist_cases q with ⟨h, _⟩ | ⟨h, h1, h2⟩ | ⟨h, h1, h2⟩
  · exact absurd h h0
  · obtain ⟨p, p0, p1, p2⟩ := coprime_shift_lot hq h2
    refine ⟨p, p0, p1, ?_⟩
    have hL := ledF_led hq (deed_p1 hq p0 p1)
    have hc := hL.c1
    rw [c1_p1, p2] at hc
    rcases hdist_cases (ledF q p 1) with ⟨h', _⟩ | ⟨_, h', _⟩ | ⟨_, h', _⟩
    · omega
    · exact absurd hc h'
    · exact absurd hc h'
  · obtain ⟨p, p0, p1⟩ := coprime_shift (a := q.1) (b := q.2.1) (c := gcdI q.2.2.1 (q.2.1 - q.2.2.2)) o4 (gcdI_posL (by omega)) (gcdI_one_of fun d d0 e1 e2 => by
      have dc : d ∣ q.2.2.1 := Int.dvd_trans e2 (gcdI_dvdl _ _)
      have dbe : d ∣ q.2.1 - q.2.2.2 := Int.dvd_trans e2 (gcdI_dvdr _ _)
      have da : d ∣ q.1 := Int.dvd_trans e1 (gcdI_dvdl _ _)
      have db : d ∣ q.2.1 := Int.dvd_trans e1 (gcdI_dvdr _ _)
      have de : d ∣ q.2.2.2 := by
        have := Int.dvd_sub db dbe
        rwa [show q.2.1 - (q.2.1 - q.2.2.2) = q.2.2.2 by omega] at this
      exact one_of_dvd d0 (dvd_one_of hq da db dc de))
    obtain ⟨p, p0, p1, p2⟩ := shift_lot hq (gcdI_dvdl _ _) p0 p1
    refine ⟨p, p0, p1, ?_⟩
    have hd := deed_p1 hq p0 p1
    have hb := behind1 hq hd (ledF_led hq hd) p2
    rcases hdist_cases (ledF q p 1) with ⟨h', _⟩ | ⟨h', _, _⟩ | ⟨_, _, h'⟩
    · omega
    · omega
    · exact absurd hb h'
theorem least_of {P : Int → Prop} (n : Nat) : ∀ p : Int, 0 ≤ p → p ≤ n → P p → ∃ p0, 0 ≤ p0 ∧ p0 ≤ p ∧ P p0 ∧ ∀ p', 0 ≤ p' → p' < p0 → ¬ P p' := by
  induction n with
  | zero => exact fun p h0 h1 hp => ⟨p, h0, Int.le_refl _, hp, fun p' a b => by omega⟩
  | succ n ih =>
    intro p h0 h1 hp
    by_cases h : ∃ p', 0 ≤ p' ∧ p' < p ∧ P p'
    · obtain ⟨p', a, b, c⟩ := h
      obtain ⟨p0, q0, q1, q2, q3⟩ := ih p' a (by omega) c
      exact ⟨p0, q0, by omega, q2, q3⟩
    · exact ⟨p, h0, Int.le_refl _, hp, fun p' a b c => h ⟨p', a, b, c⟩⟩
/-- the least p that leads nearer -/
def NearP (q : Q4) (p : Int) : Prop := 0 ≤ p ∧ hdist (ledF q p 1) < hdist q ∧ ∀ p', 0 ≤ p' → p' < p → ¬ hdist (ledF q p' 1) < hdist q
theorem nearP_uniq {q : Q4} {p p' : Int} (h : NearP q p) (h' : NearP q p') : p = p' := by
  obtain ⟨a, b, c⟩ := h
  obtain ⟨a', b', c'⟩ := h'
  by_cases h1 : p < p'
  · exact absurd b (c' p a h1)
  · by_cases h2 : p' < p
    · exact absurd b' (c p' a' h2)
    · omega
noncomputable def nearP (q : Q4) : Int := @dite _ (∃ p, NearP q p) (Classical.propDecidable _) (fun h => h.choose) (fun _ => 0)
theorem nearP_eq {q : Q4} {p : Int} (h : NearP q p) : nearP q = p := by
  have hx : ∃ p, NearP q p := ⟨p, h⟩
  unfold nearP
  rw [dif_pos hx]
  exact nearP_uniq hx.choose_spec h
theorem near_spec {q : Q4} (hq : okQ q = true) (h0 : hdist q ≠ 0) : NearP q (nearP q) ∧ nearP q < shareQ q ∧ DeedOk q (nearP q) 1 = true := by
  obtain ⟨p, p0, p1, p2⟩ := near_ex hq h0
  obtain ⟨p', a, b, c, d⟩ := least_of (P := fun p => hdist (ledF q p 1) < hdist q) p.toNat p p0 (by omega) p2
  have hn : NearP q p' := ⟨a, c, d⟩
  rw [nearP_eq hn]
  exact ⟨hn, by omega, deed_p1 hq a (by omega)⟩
theorem hdist_le (q : Q4) : 0 ≤ hdist q ∧ hdist q ≤ 2 := by
  rcases hdist_cases q with h | h | h <;> omega
/-- a deed to the heart: no divisor in common -/
theorem heart_dvd {q : Q4} {p n : Int} (h : c1Q q p n = 1) : gcdI (gcdI q.1 q.2.1) q.2.2.1 = 1 := gcdI_one_of fun d d0 e1 e2 => by
  have da : d ∣ q.1 := Int.dvd_trans e1 (gcdI_dvdl _ _)
  have db : d ∣ q.2.1 := Int.dvd_trans e1 (gcdI_dvdr _ _)
  have h1 : d ∣ c1Q q p n := by
    unfold c1Q colI colJ
    exact dvd_gcd (Int.dvd_add (Int.dvd_trans db (Int.dvd_mul_left _ _)) (Int.dvd_trans da (Int.dvd_mul_left _ _))) (Int.dvd_trans e2 (Int.dvd_mul_left _ _))
  rw [h] at h1
  exact one_of_dvd d0 h1
theorem near_dist {q : Q4} (hq : okQ q = true) (h0 : hdist q ≠ 0) : hdist (ledF q (nearP q) 1) = hdist q - 1 := by
  obtain ⟨⟨n0, n1, n2⟩, _, hd⟩ := near_spec hq h0
  have hL := ledF_led hq hd
  have h3 := hdist_le (ledF q (nearP q) 1)
  rcases hdist_cases q with ⟨h, _⟩ | ⟨h, h1, h2⟩ | ⟨h, h1, h2⟩
  · exact absurd h h0
  · omega
  · rcases hdist_cases (ledF q (nearP q) 1) with ⟨h', h4⟩ | ⟨h', _, _⟩ | ⟨h', _, _⟩
    · rw [hL.c1] at h4
      exact absurd (heart_dvd h4) h2
    · omega
    · omega
noncomputable def wordF (q : Q4) : List P2 := if hdist q = 0 then [] else if hdist q = 1 then [(nearP q, 1)] else [(nearP q, 1), (nearP (ledF q (nearP q) 1), 1)]
theorem wordF_nil {q : Q4} (h : hdist q = 0) : wordF q = [] := by unfold wordF; rw [if_pos h]
theorem wordF_step {q : Q4} (hq : okQ q = true) (h0 : hdist q ≠ 0) : wordF q = (nearP q, 1) :: wordF (ledF q (nearP q) 1) := by
  have h1 := near_dist hq h0
  have h2 := hdist_le q
  by_cases h : hdist q = 1
  · rw [wordF_nil (q := ledF q (nearP q) 1) (by omega)]
    unfold wordF
    rw [if_neg h0, if_pos h]
  · have h3 : hdist (ledF q (nearP q) 1) = 1 := by omega
    have h4 : wordF (ledF q (nearP q) 1) = [(nearP (ledF q (nearP q) 1), 1)] := by
      unfold wordF
      rw [if_neg (by omega), if_pos h3]
    rw [h4]
    unfold wordF
    rw [if_neg h0, if_neg h]
theorem wordF_len (q : Q4) : ((wordF q).length : Int) = hdist q := by
  have := hdist_le q
  unfold wordF
  split
  · rename_i h; rw [h]; rfl
  · split
    · rename_i h; rw [h]; rfl
    · have : hdist q = 2 := by omega
      rw [this]; rfl
theorem wordF_ok {q : Q4} (hq : okQ q = true) : WordOk q (wordF q) ∧ (ledW q (wordF q)).2.2.1 = 1 := by
  have step : ∀ q : Q4, okQ q = true → hdist q ≠ 0 → okQ (ledF q (nearP q) 1) = true ∧ DeedOk q (nearP q) 1 = true := fun q hq h0 => by
    obtain ⟨_, _, hd⟩ := near_spec hq h0
    exact ⟨led_ok hq hd (ledF_led hq hd), hd⟩
  have zero : ∀ q : Q4, hdist q = 0 → WordOk q (wordF q) ∧ (ledW q (wordF q)).2.2.1 = 1 := fun q h => by
    rw [wordF_nil h]
    refine ⟨trivial, ?_⟩
    rcases hdist_cases q with ⟨_, h1⟩ | ⟨h1, _⟩ | ⟨h1, _⟩
    · exact h1
    · omega
    · omega
  have up : ∀ q : Q4, okQ q = true → hdist q ≠ 0 → (WordOk (ledF q (nearP q) 1) (wordF (ledF q (nearP q) 1)) ∧ (ledW (ledF q (nearP q) 1) (wordF (ledF q (nearP q) 1))).2.2.1 = 1) → WordOk q (wordF q) ∧ (ledW q (wordF q)).2.2.1 = 1 := fun q hq h0 h => by
    rw [wordF_step hq h0]
    exact ⟨⟨(step q hq h0).2, h.1⟩, h.2⟩
  by_cases h0 : hdist q = 0
  · exact zero q h0
  · have h1 := near_dist hq h0
    have h2 := hdist_le q
    refine up q hq h0 ?_
    by_cases h3 : hdist (ledF q (nearP q) 1) = 0
    · exact zero _ h3
    · have h4 := near_dist (step q hq h0).1 h3
      exact up _ (step q hq h0).1 h3 (zero _ (by omega))
end Kx

set_option Elab.async false
set_option linter.all false
set_option maxRecDepth 100000
set_option maxHeartbeats 4000000
set_option exponentiation.threshold 4000
/-! > of cuttings; min of a list of cuttings with a default. -/
namespace Kx
open PySem PySem.Spec PyProof.Rows L2
theorem lexAt_quad (e r : Nat → Bool) : Ob.lexAt e r false 0 4 = (if e 0 = true then (if e 1 = true then (if e 2 = true then (if e 3 = true then false else r 3) else r 2) else r 1) else r 0) := rfl
theorem ltQ_quad (q r : Q4) : Ob.lexAt (fun j => decide ((quadL q).getD j 0 = (quadL r).getD j 0)) (fun j => decide ((quadL r).getD j 0 < (quadL q).getD j 0)) false 0 4 = ltQ r q := by
  obtain ⟨a, b, c, e⟩ := q
  obtain ⟨a', b', c', e'⟩ := r
  rw [lexAt_quad]
  unfold ltQ
  show _ = HT.lexLt [a', b', c', e'] [a, b, c, e]
  simp only [HT.lexLt_cons, HT.lexLt_nil_nil]
  show (if decide (a = a') = true then (if decide (b = b') = true then (if decide (c = c') = true then (if decide (e = e') = true then false else decide (e' < e)) else decide (c' < c)) else decide (b' < b)) else decide (a' < a)) = _
  simp only [decide_eq_true_eq, @eq_comm Int a' a, @eq_comm Int b' b, @eq_comm Int c' c, @eq_comm Int e' e]
/-- t > u of two cuttings -/
def rGtQ (K : PySem.W.Frag) : R2 := fun x y H Q => ∃ (a b : Addr) (q r : Q4), x = .ref a ∧ y = .ref b ∧ SqT K H a (cutV4 q) ∧ SqT K H b (cutV4 r) ∧ Q (.bl (ltQ r q)) H
theorem op_gtQ {X : Cx} (hu : X.A.units < cLine) : OpR X (compareOp .Gt) (rGtQ X.K) := by
  intro pins s σ H x y v u Q I rx ry h
  obtain ⟨a, b, q, r, rfl, rfl, ha, hb, k⟩ := h
  cases rx
  cases ry
  obtain ⟨its, r1, p1, _⟩ := I.tuple ha
  obtain ⟨its2, r2, p2, _⟩ := I.tuple hb
  have i1 : IntsAre its (quadL q) := Vals.ints (ns := quadL q) r1
  have i2 : IntsAre its2 (quadL r) := Vals.ints (ns := quadL r) r2
  have e1 : its.toArray.size = 4 := by rw [List.size_toArray]; exact i1.length
  have e2 : its2.toArray.size = 4 := by rw [List.size_toArray]; exact i2.length
  have at1 : ∀ j (h1 : j < its.toArray.size), ∃ t, its.toArray[j] = .int ((quadL q).getD j 0) t := fun j h1 => PyProof.Rows.IntsAre.int_at i1 _ _ (by simp at h1; simp [h1])
  have at2 : ∀ j (h1 : j < its2.toArray.size), ∃ t, its2.toArray[j] = .int ((quadL r).getD j 0) t := fun j h1 => PyProof.Rows.IntsAre.int_at i2 _ _ (by simp at h1; simp [h1])
  have R := Ob.RcOp.tuples_gt (A := X.A) (s := s) (e := fun j => decide ((quadL q).getD j 0 = (quadL r).getD j 0)) (r := fun j => decide ((quadL r).getD j 0 < (quadL q).getD j 0)) p1 p2 hu (fun j h1 h2 => by
    obtain ⟨t, et⟩ := at1 j h1
    obtain ⟨t', et'⟩ := at2 j h2
    rw [et, et']
    have z : ((quadL q).getD j 0 == (quadL r).getD j 0) = decide ((quadL q).getD j 0 = (quadL r).getD j 0) := by
      by_cases k : (quadL q).getD j 0 = (quadL r).getD j 0
      · rw [decide_eq_true k]; exact beq_iff_eq.mpr k
      · rw [decide_eq_false k]; exact beq_eq_false_iff_ne.mpr k
    rw [← z]
    exact SeqAt.EqAt.int_int _ _ _ _) (fun j h1 h2 _ => by
    obtain ⟨t, et⟩ := at1 j h1
    obtain ⟨t', et'⟩ := at2 j h2
    rw [et, et']
    exact Ob.RcOp.gt_int _ _ _ _)
  rw [e1, e2] at R
  have R2 : Ob.RcOp .Gt X.A s (.ref a) (.ref b) (ltQ r q) := by rw [← ltQ_quad q r]; exact R
  have z : wpAny (model X.prog X.w) X.A (compareOp .Gt (.ref a) (.ref b)) (EP X pins σ Q) X.xe s := R2 X.prog X.w X.xe (EP X pins σ Q) ⟨.bl _, H, I, rfl, k⟩
  exact z
end Kx
namespace Kx
open PySem PySem.Spec PyProof.Rows L2
/-- x < y, in every state that keeps the base's objects -/
def CmpAt (prog : Program) (w : World) (A : Around) (P : Nat → Value → Prop) (bt : Nat → Nat → Bool) (h0 : Heap) : Prop :=
  ∀ i j vi vj (s : Shared) (Q : Value → Shared → Prop) (E : Value → Shared → Prop), (∀ b o, h0.get? b = some o → s.heap.get? b = some o) → P i vi → P j vj → Q (.bool (bt i j)) s → wpAny (model prog w) A (richCompare .Lt vi vj) Q E s
section
variable {prog : Program} {w : World} {A : Around} {R : Result → Shared → Prop} {I : Addr} {fp wr : List Addr} {n : Nat} {P : Nat → Value → Prop} {St : Nat → Heap → Prop} {h0 : Heap}
theorem ml_open {S : Addr} {kw : List (Str × Value)} {s : Shared} (h : wpAny (model prog w) A.in1 (Builtin.«min.loop» ⟨[.ref I, .none, .ref S], kw⟩) (fun fin s' => match fin with | .done f => R (.ok f) s' | .again c' => c'.quiet = true ∧ codeAny (model prog w) A c' R s') (fun e s' => R (.error e) s') s) : codeAny (model prog w) A (.builtin "min.loop" ⟨[.ref I, .none, .ref S], kw⟩) R s := by
  apply codeAny_builtin F.entry_min_loop
  rwa [Around.under_plainId F.plain_min_loop _]
theorem minD_loop (W : Walks prog w A.in1 I fp wr n P St) (bt : Nat → Nat → Bool) (cm : CmpAt prog w A.in1 P bt h0) (S : Addr) (nf : S ∉ fp) (hw0 : ∀ b ∈ S :: wr, h0.get? b = none) (dv : Value) :
    ∀ (k j : Nat) (s : Shared) (vb : Value) (c : Nat), n - (j + 1) = k → j + 1 ≤ n → St (j + 1) s.heap → P (argBest bt j) vb → (∀ b o, h0.get? b = some o → s.heap.get? b = some o) →
    s.heap.get? S = some { cls := .type "list", dict := none, data := .seq #[vb, vb] c, slots := #[] } →
    (∀ v h' tk, P (argBest bt (n - 1)) v → (∀ b o, h0.get? b = some o → h'.get? b = some o) → R (.ok (.ret v)) { s with heap := h', toks := tk }) →
    codeAny (model prog w) A (.builtin "min.loop" ⟨[.ref I, .none, .ref S], [(Str.ofString "default", dv)]⟩) R s := by
  have nw : S ∉ wr := fun h => nf (W.sub _ h)
  have nm : (toString "min" ++ toString ".loop" : String) = "min.loop" := by decide
  have old : ∀ {b o}, h0.get? b = some o → b ≠ S ∧ b ∉ wr := fun {b o} e => ⟨fun h => (by rw [hw0 b (h ▸ List.mem_cons_self)] at e; cases e), fun h => (by rw [hw0 b (List.mem_cons_of_mem _ h)] at e; cases e)⟩
  intro k
  induction k with
  | zero =>
    intro j s vb c hk hj st0 pb bs eS0 kR
    have jn : j + 1 = n := by omega
    refine ml_open ?_
    refine wpAny_bind (m := seqItems? (.ref S)) (wpAny_seqItems eS0 rfl ?_)
    change wpAny _ A.in1 (tryCatch (pyNext (.ref I)) _ >>= _) _ _ _
    refine wpAny_bind (wpAny_tryCatch (W.done s _ _ (jn ▸ st0) fun h' tk kp1 => ?_))
    have eS1 := kp1 S _ nw eS0
    refine wpAny_bind (m := updateSeq S (fun _ => #[])) ?_
    refine wpAny_updateSeq eS1 rfl (wpAny_bind (wpAny_letGo (wpAny_pure ?_)))
    refine kR vb _ tk (by rw [← jn]; exact pb) fun b o e => (Heap.get?_update_other _ _ (Ne.symm (old e).1)).trans (kp1 b o (old e).2 (bs b o e))
  | succ k ih =>
    intro j s vb c hk hj st0 pb bs eS0 kR
    have jlt : j + 1 < n := by omega
    refine ml_open ?_
    refine wpAny_bind (m := seqItems? (.ref S)) (wpAny_seqItems eS0 rfl ?_)
    change wpAny _ A.in1 (tryCatch (pyNext (.ref I)) _ >>= _) _ _ _
    refine wpAny_bind (wpAny_tryCatch (W.item (j + 1) s _ _ jlt st0 fun v h' tk pv st1 kp1 => ?_))
    have eS1 := kp1 S _ nw eS0
    have bs1 : ∀ b o, h0.get? b = some o → h'.get? b = some o := fun b o e => kp1 b o (old e).2 (bs b o e)
    change wpAny _ _ (tryCatch (holding [v, v] (richCompare .Lt v vb >>= _)) _ >>= _) _ _ _
    refine wpAny_bind (wpAny_tryCatch (wpAny_holding (wpAny_bind (cm (j + 1) (argBest bt j) v vb _ _ _ bs1 pv pb ?_))))
    refine wpAny_bind (wpAny_holding (wpAny_truthy_bool (wpAny_bind (wpAny_letGo (wpAny_pure ?_)))))
    cases hb : bt (j + 1) (argBest bt j) with
    | true =>
      simp only [if_true]
      refine wpAny_bind ?_
      refine wpAny_updateSeq eS1 rfl (wpAny_bind (wpAny_letGo ?_))
      rw [nm]
      refine wpAny_pure ⟨plainId_quiet F.plain_min_loop _, ih (j + 1) _ v _ (by omega) jlt (W.frame _ _ _ st1 fun b hbf o e => ?_) (by simp only [argBest, hb, if_true]; exact pv) (fun b o e => (Heap.get?_update_other _ _ (Ne.symm (old e).1)).trans (bs1 b o e)) (Heap.get?_update_self _ eS1 rfl)
        fun v' h'' tk'' pv1 kp2 => ?_⟩
      · exact (Heap.get?_update_other _ _ (fun h : S = b => nf (by rw [h]; exact hbf))).trans e
      · exact kR v' h'' tk'' pv1 kp2
    | false =>
      simp only [Bool.false_eq_true, if_false]
      refine wpAny_bind (wpAny_letGo ?_)
      rw [nm]
      refine wpAny_pure ⟨plainId_quiet F.plain_min_loop _, ih (j + 1) _ vb c (by omega) jlt st1 (by simp only [argBest, hb, Bool.false_eq_true, if_false]; exact pb) bs1 eS1 fun v' h'' tk'' pv1 kp2 => ?_⟩
      exact kR v' h'' tk'' pv1 kp2
end
end Kx
namespace Kx
open PySem PySem.Spec PyProof.Rows L2
section
variable {prog : Program} {w : World} {A : Around} {E : Value → Shared → Prop} {s : Shared}
/-- a built-in called with keywords that may go on as another -/
theorem call_again_kw {id : String} {b : Builtin} {args : List Value} {kw : List (Str × Value)} {Q : Value → Shared → Prop} (hk : builtinKind id = none) (hp : plainId id = true) (hb : entryFor table id = some b) (ha : argsOk id ⟨args, kw⟩)
    (hc : wpAny (model prog w) A.in1 (b ⟨args, kw⟩) (fun fin s' => match fin with
      | .done f => (match (Except.ok f : Result) with | .ok (.ret v) => Q v s' | .ok _ => False | .error e => E e s')
      | .again c' => c'.quiet = true ∧ codeAny (model prog w) A c' (fun r s' => match r with | .ok (.ret v) => Q v s' | .ok _ => False | .error e => E e s') s') E s) :
    wpAny (model prog w) A (call (.builtin id) args kw) Q E s := by
  refine wpAny_call (codeAny_call_builtin hp hb ?_)
  simp only [checkBuiltinCall, hk]
  cases hsig : Manifest.signature? id with
  | none => exact wpAny_pure hc
  | some sig =>
    have ha' : Bind.checkArgs id sig ⟨args, kw⟩ = pure () := by simpa only [argsOk, hsig] using ha
    simp only [ha']
    exact wpAny_pure hc
theorem args_minD (a d : Value) : argsOk "min" ⟨[a], [(Str.ofString "default", d)]⟩ := by unfold argsOk; kernel_rfl
theorem bind_minD (d : Value) : Builtin.Builtins.bindParams "min" ["key", "default"] 0 ⟨[], [(Str.ofString "default", d)]⟩ = pure [none, some d] := by
  first | rfl | kernel_rfl
/-- min(l, default=d) of a list -/
theorem minD_list {l : Addr} {items : Array Value} {bt : Nat → Nat → Bool} {dv : Value} {Q : Value → Shared → Prop} (hh : A.handled = none) (hl : s.heap.IsList l items)
    (hcmp : CmpAt prog w A.in1 (fun i v => items[i]? = some v) bt s.heap)
    (h0 : items.size = 0 → ∀ h' tk, (∀ b o, s.heap.get? b = some o → h'.get? b = some o) → Q dv { s with heap := h', toks := tk })
    (h1 : 0 < items.size → ∀ v h' tk, items[argBest bt (items.size - 1)]? = some v → (∀ b o, s.heap.get? b = some o → h'.get? b = some o) → Q v { s with heap := h', toks := tk }) :
    wpAny (model prog w) A (call (.builtin "min") [.ref l] [(Str.ofString "default", dv)]) Q E s := by
  have hname : (toString "min" ++ toString ".loop" : String) = "min.loop" := by decide
  refine call_again_kw F.kind_min F.plain_min F.entry_min (args_minD _ _) ?_
  show wpAny _ A.in1 (Builtin.Builtins.bindParams "min" ["key", "default"] 0 ⟨[], [(Str.ofString "default", dv)]⟩ >>= _) _ _ s
  refine wpAny_bind (wpAny_of_eq (bind_minD dv) ?_)
  refine wpAny_bind (wpAny_pure ?_)
  have hlt : l < s.heap.objs.size := by obtain ⟨_, e, _⟩ := hl; exact Heap.lt_size e
  refine wpAny_bind (wpAny_pyIter_list hl ?_)
  refine wpAny_bind (wpAny_newObj_type ?_)
  rw [hname]
  obtain ⟨hp, g, dd, tk0, os⟩ := s
  have hI : (hp.push { cls := .type "list_iterator", data := .fields #[.ref l, .int 0 0] }).IsListIter hp.objs.size l 0 := ⟨_, Heap.get?_push_size _ rfl, rfl, rfl⟩
  have hL : (hp.push { cls := .type "list_iterator", data := .fields #[.ref l, .int 0 0] }).IsList l items := hl.push _
  have hsz : (hp.push { cls := .type "list_iterator", data := .fields #[.ref l, .int 0 0] }).objs.size = hp.objs.size + 1 := size_push' _ _
  have hnone : ∀ b, hp.objs.size ≤ b → hp.get? b = none := fun b hb => by
    cases e : hp.get? b with
    | none => rfl
    | some o => exact absurd (Heap.lt_size e) (Nat.not_lt.mpr hb)
  have hold : ∀ b o, hp.get? b = some o → (hp.push { cls := .type "list_iterator", data := .fields #[.ref l, .int 0 0] }).get? b = some o := fun b o e => Heap.get?_push_of_some _ e
  have W := Walks.list (A := A.in1) (prog := prog) (w := w) hh hp.objs.size l (Nat.ne_of_lt hlt) items
  simp only at hlt h0 h1 hcmp
  show wpAny _ A.in1 (again (.builtin "min.loop" ⟨[.ref hp.objs.size, .none, .ref (hp.push { cls := .type "list_iterator", data := .fields #[.ref l, .int 0 0] }).objs.size], [(Str.ofString "default", dv)]⟩)) _ _
    ⟨(hp.push { cls := .type "list_iterator", data := .fields #[.ref l, .int 0 0] }).push { cls := .type "list", data := .seq #[] }, g, dd, tk0, os⟩
  generalize hp.push { cls := .type "list_iterator", data := .fields #[.ref l, .int 0 0] } = hq at *
  have hS : (hq.push { cls := .type "list", data := .seq #[] }).get? hq.objs.size = some { cls := .type "list", dict := none, data := .seq #[] 0, slots := #[] } := Heap.get?_push_size _ rfl
  have hold2 : ∀ b o, hp.get? b = some o → (hq.push { cls := .type "list", data := .seq #[] }).get? b = some o := fun b o e => Heap.get?_push_of_some _ (hold b o e)
  have hst : (hq.push { cls := .type "list", data := .seq #[] }).IsListIter hp.objs.size l 0 ∧ (hq.push { cls := .type "list", data := .seq #[] }).IsList l items := W.frame 0 hq _ ⟨hI, hL⟩ fun b _ o e => Heap.get?_push_of_some _ e
  have hSf : hq.objs.size ∉ [hp.objs.size, l] := fun hm => by
    rw [hsz] at hm
    rcases List.mem_cons.mp hm with e | hm
    · exact absurd e (Nat.ne_of_gt (Nat.lt_succ_self _))
    · rw [List.mem_singleton] at hm
      exact absurd hlt (Nat.not_lt.mpr (hm ▸ Nat.le_succ _))
  have hw0 : ∀ b ∈ hq.objs.size :: [hp.objs.size], hp.get? b = none := fun b hb => by
    rcases List.mem_cons.mp hb with e | hb
    · exact hnone b (by rw [e, hsz]; omega)
    · rw [List.mem_singleton] at hb
      exact hnone b (by omega)
  have hnw : ∀ {b : Addr} {o : Obj}, hp.get? b = some o → b ≠ hq.objs.size ∧ b ∉ [hp.objs.size] := fun {b o} e => ⟨fun h => (by rw [hw0 b (h ▸ List.mem_cons_self)] at e; cases e), fun h => (by rw [hw0 b (List.mem_cons_of_mem _ h)] at e; cases e)⟩
  have hSw : hq.objs.size ∉ [hp.objs.size] := fun h => hSf (W.sub _ h)
  generalize hq.objs.size = S at *
  generalize hq.push { cls := .type "list", data := .seq #[] } = hr at *
  refine wpAny_pure ⟨plainId_quiet F.plain_min_loop _, ?_⟩
  refine ml_open ?_
  refine wpAny_bind (m := seqItems? (.ref S)) (wpAny_seqItems hS rfl ?_)
  show wpAny _ A.in1 (tryCatch (pyNext (.ref hp.objs.size)) _ >>= _) _ _ _
  by_cases hn : items.size = 0
  · refine wpAny_bind (wpAny_tryCatch (W.done _ _ _ (by rw [hn]; exact hst) fun h' tk hk' => ?_))
    have hS' := hk' S _ hSw hS
    refine wpAny_bind (wpAny_rule (wpAny_pure ?_))
    exact h0 hn h' tk fun b o e => hk' b o (hnw e).2 (hold2 b o e)
  · have hn0 : 0 < items.size := Nat.pos_of_ne_zero hn
    refine wpAny_bind (wpAny_tryCatch (W.item 0 _ _ _ hn0 hst fun v h' tk hP hst' hk' => ?_))
    have hS' := hk' S _ hSw hS
    refine wpAny_bind (m := updateSeq S (fun _ => #[v, v])) (wpAny_updateSeq hS' rfl ?_)
    rw [hname]
    refine wpAny_pure ⟨plainId_quiet F.plain_min_loop _, minD_loop W bt hcmp S hSf hw0 dv _ 0 _ v _ rfl hn0 (W.frame _ _ _ hst' fun b hbf o e => ?_) hP (fun b o e => ?_) (Heap.get?_update_self _ hS' rfl) fun v' h'' tk'' hP' hk'' => ?_⟩
    · exact (Heap.get?_update_other _ _ (fun h : S = b => hSf (by rw [h]; exact hbf))).trans e
    · exact (Heap.get?_update_other _ _ (Ne.symm (hnw e).1)).trans (hk' b o (hnw e).2 (hold2 b o e))
    · exact h1 hn0 v' h'' tk'' hP' hk''
end
end Kx
namespace Kx
open PySem PySem.Spec PyProof.Rows L2
theorem argBest_ltQ (qs : Nat → Q4) : ∀ k i, i ≤ k → ltQ (qs i) (qs (argBest (fun i j => ltQ (qs i) (qs j)) k)) = false := by
  intro k
  induction k with
  | zero =>
    intro i hi
    obtain rfl : i = 0 := by omega
    exact ltQ_swo.refl _
  | succ k ih =>
    intro i hi
    have e : argBest (fun i j => ltQ (qs i) (qs j)) (k + 1) = if ltQ (qs (k + 1)) (qs (argBest (fun i j => ltQ (qs i) (qs j)) k)) = true then k + 1 else argBest (fun i j => ltQ (qs i) (qs j)) k := rfl
    rw [e]
    by_cases h : ltQ (qs (k + 1)) (qs (argBest (fun i j => ltQ (qs i) (qs j)) k)) = true
    · rw [if_pos h]
      by_cases hik : i = k + 1
      · rw [hik]
        exact ltQ_swo.refl _
      · exact ltQ_swo.tr _ _ _ (ltQ_swo.asym _ _ h) (ih i (by omega))
    · rw [if_neg h]
      by_cases hik : i = k + 1
      · rw [hik]
        simpa using h
      · exact ih i (by omega)
theorem argBest_le (bt : Nat → Nat → Bool) : ∀ k, argBest bt k ≤ k
  | 0 => Nat.le_refl _
  | k + 1 => by
    have := argBest_le bt k
    show (if bt (k + 1) (argBest bt k) = true then k + 1 else argBest bt k) ≤ k + 1
    split <;> omega
/-- min(l, default=d) of a list of cuttings -/
def rMinDQ : List V → List V → Hp → VK → Prop := fun vs zs H Q => ∃ (a : Addr) (ls : List Addr) (qs : List Q4) (d : V), vs = [.ref a] ∧ zs = [d] ∧ H a = some (.lst (ls.map V.ref)) ∧ QAll H ls qs ∧ (ls = [] → Q d H) ∧
  ∀ (j : Nat) (l : Addr) (q : Q4), ls[j]? = some l → qs[j]? = some q → (∀ r ∈ qs, ltQ r q = false) → Q (.ref l) H
theorem cr_minDQ {X : Cx} (hc : X.calm = true) (hu : X.A.units + 64 < cLine) : CallRK X (.builtin "min") [Str.ofString "default"] rMinDQ := by
  intro pins s σ H vs zs us ws Q I rv rz h
  obtain ⟨a, ls, qs, d, rfl, rfl, ea, hQ, q0, q1⟩ := h
  rw [Vals.ref1 rv]
  obtain ⟨dv, rfl, rd⟩ := vals1 rz
  obtain ⟨its, rl, hl, hz⟩ := I.list (SqL.of ea)
  have ei := refs_at rl
  subst ei
  have hlen := hQ.len
  have hb : ∀ i v, (ls.map Value.ref).toArray[i]? = some v → ∃ l, ls[i]? = some l ∧ v = Value.ref l := fun i v e => by
    rw [List.getElem?_toArray, List.getElem?_map] at e
    obtain ⟨l, h1, h2⟩ := Option.map_eq_some_iff.mp e
    exact ⟨l, h1, h2.symm⟩
  refine minD_list (bt := fun i j => ltQ (qs.getD i (0, 0, 0, 0)) (qs.getD j (0, 0, 0, 0))) (I.ok.hd hc) hl.isList (fun i j vi vj s1 R E hk hi hj hr => ?_) (fun hs h' tk hk => ?_) (fun hs v h' tk hv hk => ?_)
  · obtain ⟨l, h1, rfl⟩ := hb i vi hi
    obtain ⟨m, h2, rfl⟩ := hb j vj hj
    obtain ⟨q, h3, h4⟩ := hQ.get h1
    obtain ⟨r, h5, h6⟩ := hQ.get h2
    obtain ⟨i1, r1, p1, _⟩ := I.tuple (SqT.of h4)
    obtain ⟨i2, r2, p2, _⟩ := I.tuple (SqT.of h6)
    have e1 : qs.getD i (0, 0, 0, 0) = q := by rw [List.getD_eq_getElem?_getD, h3]; rfl
    have e2 : qs.getD j (0, 0, 0, 0) = r := by rw [List.getD_eq_getElem?_getD, h5]; rfl
    simp only [e1, e2] at hr
    obtain ⟨o1, f1, f2⟩ := p1
    obtain ⟨o2, f3, f4⟩ := p2
    exact HT.lt_tupInts (ns := quadL q) (ms := quadL r) ⟨o1, hk _ _ f1, f2⟩ ⟨o2, hk _ _ f3, f4⟩ (Vals.ints r1) (Vals.ints r2) (by rw [units_in1]; omega) hr
  · have hn : ls = [] := by simpa using hs
    exact ⟨d, H, I.kept hk, rd, q0 hn⟩
  · obtain ⟨l, h1, rfl⟩ := hb _ _ hv
    obtain ⟨q, h3, h4⟩ := hQ.get h1
    refine ⟨.ref l, H, I.kept hk, rfl, q1 _ l q h1 h3 fun r hr => ?_⟩
    obtain ⟨i, hi, rfl⟩ := List.getElem_of_mem hr
    have hsz : (ls.map Value.ref).toArray.size = qs.length := by rw [List.size_toArray, List.length_map, hlen]
    have hb := argBest_ltQ (fun i => qs.getD i (0, 0, 0, 0)) (qs.length - 1) i (by omega)
    rw [hsz] at h3
    simp only [List.getD_eq_getElem?_getD, List.getElem?_eq_getElem hi] at hb h3
    rw [h3] at hb
    exact hb
end Kx
namespace Kx
open PySem PySem.Spec PyProof.Rows L2
theorem op_gtQK {X : Cx} {K : PySem.W.Frag} (h : X.K = K) (hu : X.A.units < cLine) : OpR X (compareOp .Gt) (rGtQ K) := h ▸ op_gtQ hu
theorem op_ltTK {X : Cx} {K : PySem.W.Frag} (h : X.K = K) (hu : X.A.units < cLine) : OpR X (compareOp .Lt) (rLtT K) := h ▸ op_ltT hu
end Kx

set_option Elab.async false
set_option linter.all false
set_option maxRecDepth 100000
set_option maxHeartbeats 4000000
set_option exponentiation.threshold 4000
/-! Cuttings by number (k09). -/
namespace Kx
open PySem PySem.Spec PyProof.Rows L2
theorem ltQ_anti {x y : Q4} (h1 : ltQ x y = false) (h2 : ltQ y x = false) : x = y := quadL_inj (lexLt_eq _ _ rfl h1 h2)
theorem filter_first {α : Type} {P : α → Bool} : ∀ {L : List α} {i : Nat}, (∀ (j : Nat) (x : α), L[j]? = some x → (P x = true ↔ j < i)) → (L.filter P).length = min i L.length
  | [], i, _ => by simp
  | x :: L, i, h => by
    have h0 := h 0 x rfl
    rw [List.filter_cons]
    rcases Nat.eq_zero_or_pos i with hi | hi
    · subst hi
      have ih := filter_first (P := P) (L := L) (i := 0) (fun j y hy => by
        have := h (j + 1) y (by simpa using hy)
        constructor
        · intro hp; have := this.mp hp; omega
        · intro hj; omega)
      rw [if_neg (fun e => absurd (h0.mp e) (by omega)), ih]
      omega
    · have ih := filter_first (P := P) (L := L) (i := i - 1) (fun j y hy => by
        have := h (j + 1) y (by simpa using hy)
        rw [this]
        omega)
      rw [if_pos (h0.mpr hi), List.length_cons, ih, List.length_cons]
      omega
/-- the sorted list goes up -/
theorem srt_up {D : Int} {i j : Nat} {x y : Q4} (hx : (srtQ (cutsL D))[i]? = some x) (hy : (srtQ (cutsL D))[j]? = some y) : ltQ x y = true ↔ i < j := by
  obtain ⟨hi, ex⟩ := List.getElem?_eq_some_iff.mp hx
  obtain ⟨hj, ey⟩ := List.getElem?_eq_some_iff.mp hy
  have hs := List.pairwise_iff_getElem.mp (srtQ_srt (cutsL D))
  have hn := List.pairwise_iff_getElem.mp (cuts_nodup D)
  constructor
  · intro h
    rcases Nat.lt_trichotomy i j with h1 | h1 | h1
    · exact h1
    · subst h1
      rw [ex] at ey
      rw [ey, ltQ_swo.refl] at h
      cases h
    · have h2 := hs j i hj hi h1
      rw [ex, ey] at h2
      unfold leQ at h2
      rw [h2] at h
      cases h
  · intro h
    have h2 := hs i j hi hj h
    have h3 := hn i j hi hj h
    rw [ex, ey] at h2 h3
    cases h4 : ltQ x y with
    | true => rfl
    | false => exact absurd (ltQ_anti h4 h2) h3
def cntQ (D : Int) (q : Q4) : Nat := ((cutsL D).filter fun x => ltQ x q).length
theorem cnt_at {D : Int} {i : Nat} {q : Q4} (h : (srtQ (cutsL D))[i]? = some q) : cntQ D q = i := by
  have hi := (List.getElem?_eq_some_iff.mp h).1
  unfold cntQ
  rw [← ((srtQ_perm (cutsL D)).filter _).length_eq, filter_first (i := i) (fun j x hx => srt_up hx h)]
  omega
/-- the ones behind q -/
def aftQ (D : Int) (q : Q4) : List Q4 := (cutsL D).filter fun x => ltQ q x
theorem aft_none {D : Int} {i : Nat} {q : Q4} (h : (srtQ (cutsL D))[i]? = some q) (hl : i + 1 = (cutsL D).length) : aftQ D q = [] := by
  unfold aftQ
  rw [List.filter_eq_nil_iff]
  intro x hx hlt
  obtain ⟨j, hj, rfl⟩ := List.getElem_of_mem ((srtQ_perm (cutsL D)).mem_iff.mpr hx)
  have := (srt_up h (List.getElem?_eq_getElem hj)).mp hlt
  rw [srtQ_len] at hj
  omega
theorem aft_some {D : Int} {i : Nat} {q m r : Q4} (h : (srtQ (cutsL D))[i]? = some q) (h1 : (srtQ (cutsL D))[i + 1]? = some m) (hr : r ∈ aftQ D q) (hm : ∀ x ∈ aftQ D q, ltQ x r = false) : r = m := by
  unfold aftQ at hr hm
  rw [List.mem_filter] at hr
  have hmm : m ∈ (cutsL D).filter fun x => ltQ q x := List.mem_filter.mpr ⟨(srtQ_perm (cutsL D)).mem_iff.mp (List.mem_of_getElem? h1), (srt_up h h1).mpr (by omega)⟩
  have h2 := hm m hmm
  obtain ⟨j, hj, ej⟩ := List.getElem_of_mem ((srtQ_perm (cutsL D)).mem_iff.mpr hr.1)
  have hjr : (srtQ (cutsL D))[j]? = some r := by rw [List.getElem?_eq_getElem hj, ej]
  have h3 := (srt_up h hjr).mp hr.2
  refine ltQ_anti ?_ h2
  cases h4 : ltQ r m with
  | false => rfl
  | true =>
    have := (srt_up hjr h1).mp h4
    omega
theorem aft_ne {D : Int} {i : Nat} {q m : Q4} (h : (srtQ (cutsL D))[i]? = some q) (h1 : (srtQ (cutsL D))[i + 1]? = some m) : aftQ D q ≠ [] := fun e => by
  have hmm : m ∈ aftQ D q := List.mem_filter.mpr ⟨(srtQ_perm (cutsL D)).mem_iff.mp (List.mem_of_getElem? h1), (srt_up h h1).mpr (by omega)⟩
  rw [e] at hmm
  cases hmm
def spCutNum : Sp := fun vs H Q _ => ∃ (p : Addr) (q : Q4), vs = [.ref p] ∧ CutAt H p q ∧ measC q < 100000 ∧ (cutsL (measC q)).length ≤ 5000 ∧ ∀ H', Same H H' → Q (.int (cntQ (measC q) q)) H'
def spNextCut : Sp := fun vs H Q _ => ∃ (p : Addr) (q : Q4), vs = [.ref p] ∧ CutAt H p q ∧ measC q < 100000 ∧ (cutsL (measC q)).length ≤ 5000 ∧ (∀ H', Same H H' → aftQ (measC q) q = [] → Q .non H') ∧
  ∀ (l : Addr) (r : Q4) (H' : Hp), Same H H' → H' l = some (.tup (cutV4 r)) → r ∈ aftQ (measC q) q → (∀ x ∈ aftQ (measC q) q, ltQ x r = false) → Q (.ref l) H'
def spCutNumbered : Sp := fun vs H Q _ => ∃ (D : Int) (n : Nat) (q : Q4), vs = [.int D, .int n] ∧ Meas D ∧ D < 100000 ∧ (cutsL D).length ≤ 5000 ∧ (srtQ (cutsL D))[n]? = some q ∧ ∀ (l : Addr) (H' : Hp), Same H H' → H' l = some (.tup (cutV4 q)) → Q (.ref l) H'
def spCutBeyond (CN : Addr) : Sp := fun vs H Q E => ∃ D n : Int, vs = [.int D, .int n] ∧ Meas D ∧ D < 100000 ∧ (cutsL D).length ≤ 5000 ∧ ((cutsL D).length : Int) ≤ n ∧ Err H E CN (.int n)
def spCaught9 : Sp := fun vs H Q _ => ∃ D n : Int, vs = [.int D, .int n] ∧ Meas D ∧ D < 100000 ∧ (cutsL D).length ≤ 5000 ∧ ((cutsL D).length : Int) ≤ n ∧ ∀ H', Same H H' → Q (.int n) H'
def spMR9 : Sp := fun vs H Q _ => ∃ (g : Addr) (D : Int) (k : Nat), vs = [.ref g, .int D] ∧ GenAt H g k ∧ k ≤ 2 ^ 30 ∧ Meas D ∧ D ≤ 1000 ∧ ∀ H', GenAt H' g (k + 100) → Keep g H H' → Q (.bl true) H'
def InvMR9 (g pd : Addr) (D : Int) (m : Nat) (H : Hp) : Nat → SV → Hp → Prop := fun _ σ h => ∃ t4 t5 t6 : Option V, σ = [some (.ref g), some (.int D), some (.ref pd), some (.int m), t4, t5, t6] ∧ Same H h
def InvCn (H : Hp) (Dd : Addr) (P : Q4 → Bool) (qs : List Q4) : Nat → Hp → Prop := fun i h => Same H h ∧ ∃ ls : List Addr, h Dd = some (.lst (ls.map V.ref)) ∧ QAll h ls ((qs.take i).filter P)
end Kx
namespace Kx
open PySem PySem.Spec PyProof.Rows L2
theorem rt_14041 : rt 14041 = 118 := (rt_unique (by decide) (by decide) (by decide) (by decide)).symm
theorem rt_14040 : rt (14041 - 1) = 118 := (rt_unique (by decide) (by decide) (by decide) (by decide)).symm
def hmwG (e : Int) : Int := if (14041 : Int) ≤ e * e ∨ (14041 - e) % 2 = 1 then 0 else rs ((118 - e) / 2).toNat (hmwF 14041 e)
theorem hmwG_eq (e : Int) : hmw 14041 e = hmwG e := by
  unfold hmw hmwG
  rw [rt_14040]
theorem es_2476 : es 118 hmwG = 2476 := by decide +kernel
theorem len_14041 : (cutsL 14041).length = 2476 := by
  have h := cutsL_len (D := 14041) (by decide)
  rw [rt_14041, show ((118 : Int)).toNat = 118 from rfl, show es 118 (hmw 14041) = es 118 hmwG from es_congr fun e => hmwG_eq e, es_2476] at h
  exact_mod_cast h
theorem meas_14041 : Meas 14041 := ⟨by decide, by decide⟩
theorem filter_none {α : Type} {P : α → Bool} {l : List α} (h : ∀ x ∈ l, P x = false) : l.filter P = [] := by
  rw [List.filter_eq_nil_iff]
  intro x hx
  rw [h x hx]
  exact Bool.false_ne_true
theorem fm_pick {α : Type} {f : Int → List α} {P : α → Bool} {n k : Nat} (hk : k < n) (h0 : ∀ i : Nat, i < n → i ≠ k → ∀ x ∈ f i, P x = false) (h1 : ∀ x ∈ f k, P x = true) : (fm n f).filter P = f k := by
  induction n with
  | zero => omega
  | succ n ih =>
    rw [fm_succ, List.filter_append]
    by_cases hn : k = n
    · subst hn
      have e1 : (fm k f).filter P = [] := filter_none fun x hx => by
        unfold fm at hx
        obtain ⟨i, hi, hx⟩ := List.mem_flatMap.mp hx
        rw [List.mem_range] at hi
        exact h0 i (by omega) (by omega) x hx
      rw [e1, List.filter_eq_self.mpr h1]
      rfl
    · rw [ih (by omega) (fun i hi => h0 i (by omega)), filter_none (h0 n (by omega) (by omega)), List.append_nil]
theorem cuts_last {D e : Int} (hM : Meas D) (hD : D < 100000) (he : e * e < D) : ((srtQ (cutsL D)).filter fun q => decide (q.2.2.2 = e)).length = (cutsE D e).length := by
  have h5 := hM.1
  obtain ⟨r0, r1, r2⟩ := rt_spec (n := D) (by omega)
  have hr : -rt D ≤ e ∧ e ≤ rt D := by
    constructor
    · by_cases h : -rt D ≤ e
      · exact h
      · have := sq_mono (x := rt D + 1) (y := -e) (by omega) (by omega)
        have e2 : -e * -e = e * e := by grind
        omega
    · by_cases h : e ≤ rt D
      · exact h
      · have := sq_mono (x := rt D + 1) (y := e) (by omega) (by omega)
        omega
  rw [((srtQ_perm (cutsL D)).filter _).length_eq]
  unfold cutsL cutsR
  have hk : (((e + rt D).toNat : Nat) : Int) - rt D = e := by omega
  rw [fm_pick (f := fun i => cutsE D (i - rt D)) (k := (e + rt D).toNat) (by omega) (fun i hi hne x hx => ?_) (fun x hx => ?_)]
  · simp only [hk]
  · have := (cutsE_ok hM hD hx).2.1
    exact decide_eq_false (by omega)
  · have := (cutsE_ok hM hD hx).2.1
    exact decide_eq_true (by omega)
end Kx
namespace Kx
open PySem PySem.Spec PyProof.Rows L2
theorem gcd_sq {b c : Int} (hb : 1 ≤ b) (hc : 1 ≤ c) : gcdI b c * gcdI b c ≤ b * c := by
  have h1 := Int.le_of_dvd (by omega) (gcdI_dvdl b c)
  have h2 := Int.le_of_dvd (by omega) (gcdI_dvdr b c)
  have h0 := gcdI_pos (a := b) (b := c) (by omega)
  exact Int.mul_le_mul h1 h2 (by omega) (by omega)
theorem flat_le9 {n e : Int} {i : Nat} (h : n ≤ 3750 ∧ i ≤ n.toNat) : ((midsL n i).flatMap (lawE e)).length ≤ 62 * i := by
  obtain ⟨hn, h⟩ := h
  induction i with
  | zero => exact Nat.le_refl _
  | succ i ih =>
    have h1 := ih (by omega)
    rw [midsL_succ, List.flatMap_append, List.length_append]
    have h2 : ((if n % ((i : Int) + 1) = 0 then [(n / ((i : Int) + 1), (i : Int) + 1)] else []).flatMap (lawE e)).length ≤ 62 := by
      split
      · rename_i hd
        have hm := Int.mul_ediv_cancel_of_emod_eq_zero hd
        obtain ⟨b, hb⟩ : ∃ b, b = n / ((i : Int) + 1) := ⟨_, rfl⟩
        rw [← hb] at hm ⊢
        have hb1 : 1 ≤ b := by
          by_cases hb1 : 1 ≤ b
          · exact hb1
          · have := Int.mul_le_mul_of_nonneg_left (show b ≤ 0 by omega) (show 0 ≤ (i : Int) + 1 by omega)
            omega
        have hg := gcd_sq hb1 (show 1 ≤ (i : Int) + 1 by omega)
        rw [Int.mul_comm b, hm] at hg
        have h0 := gcdI_pos (a := b) (b := (i : Int) + 1) (by omega)
        have hg2 : gcdI b ((i : Int) + 1) ≤ 62 := by
          by_cases h : gcdI b ((i : Int) + 1) ≤ 62
          · exact h
          · have := sq_mono (x := 63) (y := gcdI b ((i : Int) + 1)) (by decide) (by omega)
            omega
        simp only [List.flatMap_cons, List.flatMap_nil, List.append_nil]
        have a := lawEk_le e (b, (i : Int) + 1) (gcdI b ((i : Int) + 1)).toNat
        have c : lawE e (b, (i : Int) + 1) = lawEk e (b, (i : Int) + 1) (gcdI b ((i : Int) + 1)).toNat := rfl
        rw [c]
        omega
      · exact Nat.zero_le _
    omega
def spLawWith9 : Sp := fun vs H Q _ => ∃ D e : Int, vs = [.int D, .int e] ∧ Meas D ∧ D ≤ 15000 ∧ e.natAbs < 2 ^ 100 ∧ QList (withE D e) H Q
def spGr9 : Sp := fun vs H Q _ => ∃ (g : Addr) (k : Nat), vs = [.ref g] ∧ GenAt H g k ∧ k ≤ 2 ^ 30 ∧ ∀ H', GenAt H' g (k + 200) → Keep g H H' → Q (.bl true) H'
def InvGr9 (g : Addr) (H : Hp) : Nat → SV → Hp → Prop := fun i σ H2 => ∃ (p : Addr) (ls : List Addr) (t2 t3 t4 t5 : Option V), σ = [some (.ref g), some (.ref p), t2, t3, t4, t5] ∧ H p = none ∧ Same H H2 ∧ H2 p = some (.lst (ls.map V.ref)) ∧ QAll H2 ls (fm i fun j => cutsE 14041 (j - 119))
def InvGs9 (g pd : Addr) (H : Hp) : Nat → SV → Hp → Prop := fun _ σ h => ∃ t2 t3 t4 t5 : Option V, σ = [some (.ref g), some (.ref pd), t2, t3, t4, t5] ∧ Same H h
def InvL09 (K : PySem.W.Frag) (a : Addr) (ns : List Int) : Nat → SV → Hp → Prop := fun _ σ h => ∃ t1 t2 : Option V, σ = [some (.ref a), t1, t2] ∧ SqL K h a (ns.map V.int)
theorem fm_2476 : fm 239 (fun j => cutsE 14041 (j - 119)) = cutsL 14041 := cuts_wide (n := 119) (by decide) (by rw [rt_14041]; decide)
theorem fm_le9 {i : Nat} (h : i ≤ 239) : (fm i fun j => cutsE 14041 (j - 119)).length ≤ 2476 := by
  have := fm_le (f := fun j => cutsE 14041 (j - 119)) h
  rw [fm_2476, len_14041] at this
  exact this
end Kx
namespace Kx
open PySem PySem.Spec PyProof.Rows L2
theorem sqL_keep9 {K : PySem.W.Frag} {H H1 H2 : Hp} {a g : Addr} {xs : List V} (h : SqL K H a xs) (ng : H g = none) (s : Same H H1) (k : Keep g H1 H2) : SqL K H2 a xs := by
  rcases h with h | h
  · rcases h with h | ⟨o, h⟩
    · exact .inl (.inl (k _ _ (fun e => by rw [e, ng] at h; cases h) (s _ _ h)))
    · exact .inl (.inr ⟨o, k _ _ (fun e => by rw [e, ng] at h; cases h) (s _ _ h)⟩)
  · exact .inr h
theorem l17 : srtQ (cutsL 17) = [(0, 1, 2, -3), (0, 2, 1, -3), (0, 2, 2, -1), (0, 4, 1, -1), (0, 4, 1, 1), (1, 2, 2, -1)] := by decide +kernel
theorem l5 : srtQ (cutsL 5) = [(0, 1, 1, -1)] := by decide +kernel
end Kx

set_option Elab.async false
set_option linter.all false
set_option maxRecDepth 100000
set_option maxHeartbeats 4000000
set_option exponentiation.threshold 4000
/-! Cuttings refused (k11). -/
namespace Kx
open PySem PySem.Spec PyProof.Rows L2
theorem kit_non {K : PySem.W.Frag} {C : Addr} (h2 : PySem.W.isClsIn K C = true) (h3 : PySem.W.typeIn K (.ref C) = some (.type "type")) : PySem.W.kitOne K (.type "NoneType") (.ref C) = some false := by
  unfold PySem.W.kitOne
  rw [if_neg (by intro z; cases (beq_iff_eq.mp z))]
  unfold PySem.W.kitCls
  have h2' : (PySem.W.clsIn K C).isSome = true := h2
  have e2 : ((PySem.W.clsIn K C).isSome && PySem.W.typeIn K (.ref C) == some (.type "type")) = true := by rw [h2', h3]; rfl
  show (if ((PySem.W.clsIn K C).isSome && PySem.W.typeIn K (.ref C) == some (.type "type")) = true then PySem.W.subIn K (.type "NoneType") (.ref C) else none) = some false
  rw [if_pos e2]
  rfl
def rIsKN (K : PySem.W.Frag) : List V → Hp → VK → Prop := fun xs H Q => rIsK K xs H Q ∨ rIsi K xs H Q
theorem call_isKN {X : Cx} : CallR X (.builtin "isinstance") (rIsKN X.K) := by
  intro pins s σ H xs us Q I r h
  rcases h with h | h
  · exact call_isK pins s σ H xs us Q I r h
  · exact call_isi pins s σ H xs us Q I r h
theorem isN {K : PySem.W.Frag} {H : Hp} {C : Addr} {Q : VK} (hk : PySem.W.kitOne K (.type "NoneType") (.ref C) = some false) (q : Q (.bl false) H) : rIsKN K [.non, .ref C] H Q :=
  .inr ⟨.non, .ref C, .type "NoneType", .ref C, false, rfl, .own C, (tyS_of (H := H) (x := .non) (t := "NoneType") rfl).1, hk, q⟩
/-- what may be shown: also a list of the empty dict and None -/
inductive Dw (K : PySem.W.Frag) (H : Hp) : V → PyData → Prop
  | dq {x : V} {d : PyData} : Dq K H x d → Dw K H x d
  | dn {L a : Addr} : L ≠ sysModules → H L = some (.lst [.ref a, .non]) → H a = some (.dK []) → Dw K H (.ref L) (.list [.dict [], .none])
theorem cr_reprW {X : Cx} (gd : X.A.guards = some []) (hu : X.A.units + 64 < cLine) : CallR X (.builtin "repr") (fun vs H Q => ∃ (x : V) (d : PyData), vs = [x] ∧ Dw X.K H x d ∧ Q (.str d.shown) H) := by
  intro pins s σ H vs us Q I r h
  obtain ⟨x, d, rfl, hd, q⟩ := h
  cases hd with
  | dq R => exact cr_reprQ gd hu pins s σ H _ us Q I r ⟨x, d, rfl, R, q⟩
  | @dn L a nL eL e =>
    obtain ⟨u, rfl, rx⟩ := vals1 r
    cases rx
    obtain ⟨ne, rd⟩ := dict0_reads I e
    obtain ⟨its, rv, ⟨o, n, ho, hc, _, hdt⟩, _⟩ := I.list (SqL.of eL)
    cases rv with
    | cons r1 r2 =>
      cases r2 with
      | cons r2 r3 =>
        cases r3
        cases r1
        cases r2
        have rl : Reads s.heap (.ref L) (.list [.dict [], .none]) (L :: ([a] ++ ([] ++ []))) := Reads.list ho hc hdt (.cons rd (.cons .none .nil))
        exact repr_of_reads' rl rfl (fun _ => by simp [Ne.symm ne, Ne.symm nL]) gd (by simp only [PyData.depth, PyData.depthKv, PyData.depthAll]; omega) (fun _ _ z => z) (fun h' t tk hk => ⟨.str _, H, I.kept hk, ⟨_, rfl⟩, q⟩) (by decide +kernel)
/-- what comes of asking -/
inductive AskR (CC CM CN CT : Addr) (H : Hp) : Nat → V → V → Oc → Prop
  | cut {w : Nat} {x y : V} : w < 3 → OkV H x → cutB H x = false → AskR CC CM CN CT H w x y (.err CC x)
  | good {p : Addr} {q : Q4} {y : V} : CutAt H p q → Sz4 200 q → AskR CC CM CN CT H 0 (.ref p) y .ok
  | meas {w : Nat} {x y : V} : 3 ≤ w → w < 7 → OkItem H x → measB x = false → AskR CC CM CN CT H w x y (.err CM x)
  | num {w : Nat} {D : Int} {y : V} : w = 5 ∨ w = 6 → Meas D → D < 100000 → OkItem H y → isIntV y = false → AskR CC CM CN CT H w (.int D) y (.err CN y)
  | last {D e : Int} : Meas D → D < 100000 → e.natAbs < 2 ^ 100 → AskR CC CM CN CT H 5 (.int D) (.int e) .ok
  | neg {D n : Int} : Meas D → D < 100000 → n < 0 → AskR CC CM CN CT H 6 (.int D) (.int n) (.err CN (.int n))
  | big {D n : Int} : Meas D → D < 100000 → (cutsL D).length ≤ 5000 → ((cutsL D).length : Int) ≤ n → AskR CC CM CN CT H 6 (.int D) (.int n) (.err CN (.int n))
  | at {D : Int} {n : Nat} : Meas D → D < 100000 → (cutsL D).length ≤ 5000 → n < (cutsL D).length → AskR CC CM CN CT H 6 (.int D) (.int n) .ok
  | many {D : Int} {y : V} : Meas D → D < 100000 → 2000 < (cutsL D).length → AskR CC CM CN CT H 4 (.int D) y (.err CT (.int ((cutsL D).length : Nat)))
theorem AskR.same {CC CM CN CT : Addr} {H H' : Hp} {w : Nat} {x y : V} {oc : Oc} (h : AskR CC CM CN CT H w x y oc) (s : Same H H') : AskR CC CM CN CT H' w x y oc := by
  cases h with
  | cut a b c => exact .cut a (b.same s) (by rw [cutB_same s b.1]; exact c)
  | good a b => exact .good (a.same s) b
  | meas a b c d => exact .meas a b (c.same s) d
  | num a b c d e => exact .num a b c (d.same s) e
  | last a b c => exact .last a b c
  | neg a b c => exact .neg a b c
  | big a b c d => exact .big a b c d
  | «at» a b c d => exact .at a b c d
  | many a b c => exact .many a b c
theorem AskR.inn {CC CM CN CT : Addr} {H : Hp} {w : Nat} {x y v : V} {C : Addr} (h : AskR CC CM CN CT H w x y (.err C v)) : ∃ i : Nat, i < 4 ∧ [CC, CM, CN, CT][i]? = some C := by
  cases h with
  | cut a b c => exact ⟨0, by decide, rfl⟩
  | meas a b c d => exact ⟨1, by decide, rfl⟩
  | num a b c d e => exact ⟨2, by decide, rfl⟩
  | neg a b c => exact ⟨2, by decide, rfl⟩
  | big a b c d => exact ⟨2, by decide, rfl⟩
  | many a b c => exact ⟨3, by decide, rfl⟩
def spCheckCutX (CC : Addr) : Sp := fun vs H Q E => ∃ x, vs = [x] ∧ OkV H x ∧ (cutB H x = true → ∀ H', Same H H' → Q .non H') ∧ (cutB H x = false → Err H E CC x)
def spMeasX (CC : Addr) : Sp := fun vs H Q E => ∃ x, vs = [x] ∧ ((OkV H x ∧ cutB H x = false ∧ Err H E CC x) ∨ ∃ (p : Addr) (q : Q4), x = .ref p ∧ CutAt H p q ∧ Sz4 200 q ∧ ∀ H', Same H H' → Q (.int (measC q)) H')
def spBadX (CC : Addr) : Sp := fun vs H Q E => ∃ x, vs = [x] ∧ OkV H x ∧ cutB H x = false ∧ Err H E CC x
def spHmcX (CM : Addr) : Sp := fun vs H Q E => ∃ x, vs = [x] ∧ ((OkItem H x ∧ measB x = false ∧ Err H E CM x) ∨ ∃ D : Int, x = .int D ∧ Meas D ∧ D < 100000 ∧ ∀ H', Same H H' → Q (.int (es (rt D).toNat (hmw D))) H')
def spCutsX (CM CT : Addr) : Sp := fun vs H Q E => ∃ x, vs = [x] ∧ ((OkItem H x ∧ measB x = false ∧ Err H E CM x) ∨ ∃ D : Int, x = .int D ∧ Meas D ∧ D < 100000 ∧ 2000 < (cutsL D).length ∧ Err H E CT (.int ((cutsL D).length : Nat)))
def spLastX (CM CN : Addr) : Sp := fun vs H Q E => ∃ x y, vs = [x, y] ∧ ((OkItem H x ∧ measB x = false ∧ Err H E CM x) ∨ ∃ D : Int, x = .int D ∧ Meas D ∧ D < 100000 ∧ ((OkItem H y ∧ isIntV y = false ∧ Err H E CN y) ∨ ∃ e : Int, y = .int e ∧ e.natAbs < 2 ^ 100 ∧ ∀ r H', Same H H' → Q r H'))
def spNumX (CM CN : Addr) : Sp := fun vs H Q E => ∃ x y, vs = [x, y] ∧ ((OkItem H x ∧ measB x = false ∧ Err H E CM x) ∨ ∃ D : Int, x = .int D ∧ Meas D ∧ D < 100000 ∧ ((OkItem H y ∧ isIntV y = false ∧ Err H E CN y) ∨ ∃ n : Int, y = .int n ∧ ((n < 0 ∧ Err H E CN y) ∨ (0 ≤ n ∧ (cutsL D).length ≤ 5000 ∧ (((cutsL D).length : Int) ≤ n ∧ Err H E CN y ∨ n < ((cutsL D).length : Int) ∧ ∀ r H', Same H H' → Q r H')))))
def spAsk11 (CC CM CN CT : Addr) : Sp := fun vs H Q E => ∃ (w : Nat) (x y : V) (oc : Oc), vs = [.int w, x, y] ∧ AskR CC CM CN CT H w x y oc ∧ Meets H Q E oc
def kindL (CC CM CN CT : Addr) : Oc → List V
  | .ok => [.bl false, .bl false, .bl false, .bl false]
  | .err C _ => [.bl (decide (C = CC)), .bl (decide (C = CM)), .bl (decide (C = CN)), .bl (decide (C = CT))]
def valO : Oc → V
  | .ok => .non
  | .err _ v => v
def spCau11 (K : PySem.W.Frag) (CC CM CN CT : Addr) : Sp := fun vs H Q _ => ∃ (w : Nat) (x y : V) (oc : Oc) (d : PyData), vs = [.int w, x, y] ∧ AskR CC CM CN CT H w x y oc ∧ (∀ L H', Same H H' → L ≠ sysModules → H' L = some (.lst [x, y]) → Dw K H' (.ref L) d) ∧
  ∀ (p L : Addr) (H' : Hp), H p = none → H L = none → p ≠ L → Same H H' → H' p = some (.tup [.ref L, valO oc]) → H' L = some (.lst (kindL CC CM CN CT oc)) → Q (.ref p) H'
def spOnly11 (K : PySem.W.Frag) : Sp := fun vs H Q _ => ∃ (p L : Addr) (j : Nat) (x : V) (d : PyData), vs = [.ref p, .int j, x] ∧ H p = some (.tup [.ref L, x]) ∧ j < 4 ∧ H L = some (.lst ((List.range 4).map fun i => V.bl (decide (i = j)))) ∧ Dq K H x d ∧ (∀ H', Same H H' → Dq K H' x d) ∧ ∀ H', Same H H' → Q (.bl true) H'
def InvOn11 (H : Hp) (D : Addr) (j : Nat) : Nat → Hp → Prop := fun i h => Same H h ∧ h D = some (.lst ((List.range i).map fun i => V.bl (decide (i = j))))
end Kx
namespace Kx
open PySem PySem.Spec PyProof.Rows L2
/-- a value that is no cutting -/
def Bad11 (K : PySem.W.Frag) (H : Hp) (x : V) : Prop := ∃ d, OddV K H x d ∧ cutB H x = false
theorem Bad11.same {K : PySem.W.Frag} {H H' : Hp} {x : V} (h : Bad11 K H x) (s : Same H H') : Bad11 K H' x := let ⟨d, h1, h2⟩ := h; ⟨d, h1.same s, by rw [cutB_same s h1.ok.1]; exact h2⟩
section
variable {K : PySem.W.Frag} {H : Hp} {p : Addr} {xs : List V} {ds : List PyData}
theorem no_of {x : V} {t : String} (h : tyS H x = some t) (ht : t ≠ "tuple") : cutB H x = false := by
  unfold cutB
  rw [wholes_not h ht]
  rfl
theorem no_non : Bad11 K H .non := ⟨_, ⟨.it .non, okV_of (t := "NoneType") rfl (by decide), fun a D t e => (by cases e), fun j e => (by cases e)⟩, no_of (t := "NoneType") rfl (by decide)⟩
theorem no_int {i : Int} (h : i.natAbs < 2 ^ 150) : Bad11 K H (.int i) := ⟨_, ⟨.it (.int h (by decide)), okV_of (t := "int") rfl (by decide), fun a D t e => (by cases e), fun j e => (by cases e; exact h)⟩, no_of (t := "int") rfl (by decide)⟩
theorem no_str {z : Str} (h : DueT z) : Bad11 K H (.str z) := ⟨_, ⟨.it (.str h.1 (by simp only [cost]; exact Nat.le_trans h.2.1 (by decide)) h.2.2), okV_of (t := "str") rfl (by decide), fun a D t e => (by cases e), fun j e => (by cases e)⟩, no_of (t := "str") rfl (by decide)⟩
theorem no_dict (h : H p = some (.dK [])) : Bad11 K H (.ref p) := ⟨_, ⟨.dc h, okV_of (tyS_dK h) (by decide), fun a D t e r => (by cases e; exact absurd (h.symm.trans r.1) (by simp)), fun j e => (by cases e)⟩, no_of (tyS_dK h) (by decide)⟩
theorem no_lst (h : H p = some (.lst xs)) (hi : ItAll K H xs ds) (h1 : PyData.depthAll ds ≤ 9) (h2 : costAll ds ≤ 90000) : Bad11 K H (.ref p) := ⟨_, ⟨.it (it_lst h hi h1 h2), okV_of (tyS_lst h) (by decide), fun a D t e r => (by cases e; exact absurd (h.symm.trans r.1) (by simp)), fun j e => (by cases e)⟩, no_of (tyS_lst h) (by decide)⟩
theorem no_tup (h : H p = some (.tup xs)) (hi : ItAll K H xs ds) (h1 : PyData.depthAll ds ≤ 9) (h2 : costAll ds ≤ 90000) (hz : ∀ i : Int, V.int i ∈ xs → i.natAbs < 2 ^ 300) (hb : (decide ((xs.length : Int) = 4) && xs.all isIntV) = false) : Bad11 K H (.ref p) :=
  ⟨_, odd_tup h hi h1 h2 hz, by unfold cutB; rw [wholes_tup h, hb]; rfl⟩
theorem no_four {x y z u : Int} (h : H p = some (.tup [.int x, .int y, .int z, .int u])) (hx : x.natAbs < 2 ^ 150) (hy : y.natAbs < 2 ^ 150) (hz : z.natAbs < 2 ^ 150) (hu : u.natAbs < 2 ^ 150) (hb : okQ ((x, y, z, u) : Q4) = true → False) : Bad11 K H (.ref p) :=
  ⟨_, odd_tup h (.cons (.int hx (by decide)) (.cons (.int hy (by decide)) (.cons (.int hz (by decide)) (.cons (.int hu (by decide)) .nil)))) (Nat.le_of_ble_eq_true rfl) (Nat.le_of_ble_eq_true rfl) (fun i hi => by
    simp only [List.mem_cons, V.int.injEq, List.not_mem_nil, or_false] at hi
    rcases hi with rfl | rfl | rfl | rfl
    · exact up hx (by decide)
    · exact up hy (by decide)
    · exact up hz (by decide)
    · exact up hu (by decide)), by
    have e : cutB H (.ref p) = okQ ((x, y, z, u) : Q4) := cutB_q (q := ((x, y, z, u) : Q4)) h
    rw [e]
    cases hk : okQ ((x, y, z, u) : Q4) with
    | false => rfl
    | true => exact absurd (hb hk) id⟩
end
theorem Bad11.w {K : PySem.W.Frag} {H : Hp} {x : V} (h : Bad11 K H x) : ∃ d, ∀ L H', Same H H' → L ≠ sysModules → H' L = some (.lst [x, .non]) → Dw K H' (.ref L) d := by
  obtain ⟨d, h1, h2⟩ := h
  cases h1.q with
  | it i => exact ⟨_, fun L H' s _ e => .dq (.rp (rp_two e (i.same s) .non))⟩
  | dc e0 => exact ⟨_, fun L H' s nL e => .dn nL e (s _ _ e0)⟩
theorem kind_at {CC CM CN CT C : Addr} {v : V} {j : Nat} (hn : [CC, CM, CN, CT].Nodup) (hj : [CC, CM, CN, CT][j]? = some C) : kindL CC CM CN CT (.err C v) = (List.range 4).map fun i => V.bl (decide (i = j)) := by
  have hj4 : j < 4 := (List.getElem?_eq_some_iff.mp hj).1
  have key : ∀ (i : Nat) (D : Addr), [CC, CM, CN, CT][i]? = some D → decide (C = D) = decide (i = j) := fun i D hi => by
    obtain ⟨li, ei⟩ := List.getElem?_eq_some_iff.mp hi
    obtain ⟨lj, ej⟩ := List.getElem?_eq_some_iff.mp hj
    rw [decide_eq_decide, ← ei, ← ej]
    exact ⟨fun e => ((List.getElem_inj hn).mp e).symm, fun e => by subst e; rfl⟩
  show [V.bl (decide (C = CC)), V.bl (decide (C = CM)), V.bl (decide (C = CN)), V.bl (decide (C = CT))] = [V.bl (decide (0 = j)), V.bl (decide (1 = j)), V.bl (decide (2 = j)), V.bl (decide (3 = j))]
  rw [key 0 CC rfl, key 1 CM rfl, key 2 CN rfl, key 3 CT rfl]
end Kx
namespace Kx
open PySem PySem.Spec PyProof.Rows L2
def InvL11 (pre post : SV) (H : Hp) : Nat → SV → Hp → Prop := fun _ σ h => ∃ t : Option V, σ = pre ++ t :: post ∧ Same H h
def InvC11 (H : Hp) (D : Addr) : Nat → Hp → Prop := fun _ h => Same H h ∧ h D = some (.lst [])
end Kx
namespace Kx
open PySem PySem.Spec PyProof.Rows L2
/-- a value that is no measure -/
def BM (K : PySem.W.Frag) (H : Hp) (x : V) : Prop := ∃ d, It K H x d ∧ OkItem H x ∧ measB x = false
theorem BM.same {K : PySem.W.Frag} {H H' : Hp} {x : V} (h : BM K H x) (s : Same H H') : BM K H' x := let ⟨d, a, b, c⟩ := h; ⟨d, a.same s, b.same s, c⟩
def BN (K : PySem.W.Frag) (H : Hp) (x : V) : Prop := ∃ d, It K H x d ∧ OkItem H x ∧ isIntV x = false
theorem BN.same {K : PySem.W.Frag} {H H' : Hp} {x : V} (h : BN K H x) (s : Same H H') : BN K H' x := let ⟨d, a, b, c⟩ := h; ⟨d, a.same s, b.same s, c⟩
theorem It.dq {K : PySem.W.Frag} {H : Hp} {x : V} {d : PyData} (i : It K H x d) : Dq K H x d := .rp i.rp
theorem It.w {K : PySem.W.Frag} {H : Hp} {x y : V} {d e : PyData} (i : It K H x d) (j : It K H y e) : ∀ L H', Same H H' → L ≠ sysModules → H' L = some (.lst [x, y]) → Dw K H' (.ref L) (.list [d, e]) := fun L H' s _ el => .dq (.rp (rp_two el (i.same s) (j.same s)))
end Kx
namespace Kx
open PySem PySem.Spec PyProof.Rows L2
theorem rt_of {n r : Int} (h : 0 ≤ n) (h0 : 0 ≤ r) (h1 : r * r ≤ n) (h2 : n < (r + 1) * (r + 1)) : rt n = r := (rt_unique h h0 h1 h2).symm
def hmwH (D r e : Int) : Int := if D ≤ e * e ∨ (D - e) % 2 = 1 then 0 else rs ((r - e) / 2).toNat (hmwF D e)
theorem len_of {D r m : Int} (hD : 0 ≤ D) (e1 : rt D = r) (e2 : rt (D - 1) = r) (h : es r.toNat (hmwH D r) = m) : ((cutsL D).length : Int) = m := by
  have h1 := cutsL_len (D := D) hD
  have h2 : es (rt D).toNat (hmw D) = es r.toNat (hmwH D r) := by
    rw [e1]
    refine es_congr fun e => ?_
    unfold hmw hmwH
    rw [e2]
  rw [h1, h2, h]
theorem len_16273 : ((cutsL 16273).length : Int) = 2002 := len_of (r := 127) (by decide) (rt_of (by decide) (by decide) (by decide) (by decide)) (rt_of (by decide) (by decide) (by decide) (by decide)) (by decide +kernel)
theorem len_16041 : ((cutsL 16041).length : Int) = 2000 := len_of (r := 126) (by decide) (rt_of (by decide) (by decide) (by decide) (by decide)) (rt_of (by decide) (by decide) (by decide) (by decide)) (by decide +kernel)
theorem es_len {D : Int} (hD : 0 ≤ D) : es (rt D).toNat (hmw D) = ((cutsL D).length : Int) := (cutsL_len hD).symm
end Kx
namespace Kx
open PySem PySem.Spec PyProof.Rows L2
def InvL11x (pre post : SV) (H : Hp) : Nat → SV → Hp → Prop := fun _ σ h => ∃ t t' : Option V, σ = pre ++ t :: t' :: post ∧ Same H h
end Kx
namespace Kx
open PySem PySem.Spec PyProof.Rows L2
theorem KitE.nodup {K : PySem.W.Frag} {Cs : List Addr} {S : Addr} (h : KitE K Cs S) : Cs.Nodup := by
  refine List.pairwise_iff_getElem.mpr fun i j hi hj hij e => ?_
  have k1 := h.kit i j _ _ (List.getElem?_eq_getElem hi) (List.getElem?_eq_getElem hj)
  have k2 := h.kit i i _ _ (List.getElem?_eq_getElem hi) (List.getElem?_eq_getElem hi)
  rw [← e, k2] at k1
  have := Option.some.inj k1
  rw [decide_eq_true rfl, decide_eq_false (by omega)] at this
  cases this
end Kx

set_option Elab.async false
set_option linter.all false
set_option maxRecDepth 100000
set_option maxHeartbeats 4000000
set_option exponentiation.threshold 4000
namespace L11
open PySem PySem.Spec PyProof.Rows L2 Kx

def top (i : Nat) : Stmt := PySem.Challenge.pw_slitsheets_k11_cuttings_refused.main.body.getD i (.Pass ⟨0, 0, 0, 0⟩)

abbrev s_IsWhole : Stmt := top 8

abbrev N_IsWhole : List Str := ["value"]

theorem scIsWhole : FnScope ["value"] ["value"] (defScope s_IsWhole) := ⟨rfl, rfl, rfl, by decide +kernel, rfl, by decide +kernel, by decide +kernel⟩

abbrev s_AreWholes : Stmt := top 9

abbrev N_AreWholes : List Str := ["value", "many", "item"]

theorem scAreWholes : FnScope ["value", "many", "item"] ["value", "many"] (defScope s_AreWholes) := ⟨rfl, rfl, rfl, by decide +kernel, rfl, by decide +kernel, by decide +kernel⟩

abbrev s_IsMeasure : Stmt := top 11

abbrev N_IsMeasure : List Str := ["value"]

theorem scIsMeasure : FnScope ["value"] ["value"] (defScope s_IsMeasure) := ⟨rfl, rfl, rfl, by decide +kernel, rfl, by decide +kernel, by decide +kernel⟩

abbrev s_CheckMeasure : Stmt := top 12

abbrev N_CheckMeasure : List Str := ["measure"]

theorem scCheckMeasure : FnScope ["measure"] ["measure"] (defScope s_CheckMeasure) := ⟨rfl, rfl, rfl, by decide +kernel, rfl, by decide +kernel, by decide +kernel⟩

abbrev s_IsCutting : Stmt := top 15

abbrev N_IsCutting : List Str := ["value", "a", "b", "c", "e", "common"]

theorem scIsCutting : FnScope ["value", "a", "b", "c", "e", "common"] ["value"] (defScope s_IsCutting) := ⟨rfl, rfl, rfl, by decide +kernel, rfl, by decide +kernel, by decide +kernel⟩

abbrev s_CheckCutting : Stmt := top 16

abbrev N_CheckCutting : List Str := ["cutting"]

theorem scCheckCutting : FnScope ["cutting"] ["cutting"] (defScope s_CheckCutting) := ⟨rfl, rfl, rfl, by decide +kernel, rfl, by decide +kernel, by decide +kernel⟩

abbrev s_MeasureOf : Stmt := top 17

abbrev N_MeasureOf : List Str := ["cutting", "_", "b", "c", "e"]

theorem scMeasureOf : FnScope ["cutting", "_", "b", "c", "e"] ["cutting"] (defScope s_MeasureOf) := ⟨rfl, rfl, rfl, by decide +kernel, rfl, by decide +kernel, by decide +kernel⟩

abbrev s_HowManyCuttings : Stmt := top 18

abbrev N_HowManyCuttings : List Str := ["measure", "e"]

theorem scHowManyCuttings : FnScope ["measure", "e"] ["measure"] (defScope s_HowManyCuttings) := ⟨rfl, rfl, rfl, by decide +kernel, rfl, by decide +kernel, by decide +kernel⟩

abbrev s_Cuttings : Stmt := top 19

abbrev N_Cuttings : List Str := ["measure", "many"]

theorem scCuttings : FnScope ["measure", "many"] ["measure"] (defScope s_Cuttings) := ⟨rfl, rfl, rfl, by decide +kernel, rfl, by decide +kernel, by decide +kernel⟩

abbrev s_AllCuttings : Stmt := top 20

abbrev N_AllCuttings : List Str := ["measure"]

theorem scAllCuttings : FnScope ["measure"] ["measure"] (defScope s_AllCuttings) := ⟨rfl, rfl, rfl, by decide +kernel, rfl, by decide +kernel, by decide +kernel⟩

abbrev s_HowManyWithLast : Stmt := top 21

abbrev N_HowManyWithLast : List Str := ["measure", "e"]

theorem scHowManyWithLast : FnScope ["measure", "e"] ["measure", "e"] (defScope s_HowManyWithLast) := ⟨rfl, rfl, rfl, by decide +kernel, rfl, by decide +kernel, by decide +kernel⟩

abbrev s_CuttingNumber : Stmt := top 22

abbrev N_CuttingNumber : List Str := ["cutting", "measure", "other"]

theorem scCuttingNumber : FnScope ["cutting", "measure", "other"] ["cutting"] (defScope s_CuttingNumber) := ⟨rfl, rfl, rfl, by decide +kernel, rfl, by decide +kernel, by decide +kernel⟩

abbrev s_CuttingNumbered : Stmt := top 23

abbrev N_CuttingNumbered : List Str := ["measure", "number", "told"]

theorem scCuttingNumbered : FnScope ["measure", "number", "told"] ["measure", "number"] (defScope s_CuttingNumbered) := ⟨rfl, rfl, rfl, by decide +kernel, rfl, by decide +kernel, by decide +kernel⟩

abbrev s_NextCutting : Stmt := top 24

abbrev N_NextCutting : List Str := ["cutting", "measure", "other"]

theorem scNextCutting : FnScope ["cutting", "measure", "other"] ["cutting"] (defScope s_NextCutting) := ⟨rfl, rfl, rfl, by decide +kernel, rfl, by decide +kernel, by decide +kernel⟩

abbrev s_Gathered : Stmt := top 25

abbrev N_Gathered : List Str := ["measure", "e", "b", "c", "a"]

theorem scGathered : FnScope ["measure", "e", "b", "c", "a"] ["measure"] (defScope s_Gathered) := ⟨rfl, rfl, rfl, by decide +kernel, rfl, by decide +kernel, by decide +kernel⟩

abbrev s_HowManyWith : Stmt := top 26

abbrev N_HowManyWith : List Str := ["measure", "e", "b", "c"]

theorem scHowManyWith : FnScope ["measure", "e", "b", "c"] ["measure", "e"] (defScope s_HowManyWith) := ⟨rfl, rfl, rfl, by decide +kernel, rfl, by decide +kernel, by decide +kernel⟩

abbrev s_Lasts : Stmt := top 27

abbrev N_Lasts : List Str := ["measure", "root"]

theorem scLasts : FnScope ["measure", "root"] ["measure"] (defScope s_Lasts) := ⟨rfl, rfl, rfl, by decide +kernel, rfl, by decide +kernel, by decide +kernel⟩

abbrev s_Middles : Stmt := top 28

abbrev N_Middles : List Str := ["measure", "e", "both", "greatest", "c"]

theorem scMiddles : FnScope ["measure", "e", "both", "greatest", "c"] ["measure", "e"] (defScope s_Middles) := ⟨rfl, rfl, rfl, by decide +kernel, rfl, by decide +kernel, by decide +kernel⟩

abbrev s_Firsts : Stmt := top 29

abbrev N_Firsts : List Str := ["b", "c", "e", "common", "a"]

theorem scFirsts : FnScope ["b", "c", "e", "common", "a"] ["b", "c", "e"] (defScope s_Firsts) := ⟨rfl, rfl, rfl, by decide +kernel, rfl, by decide +kernel, by decide +kernel⟩

abbrev s_AreWithoutDivisor : Stmt := top 30

abbrev N_AreWithoutDivisor : List Str := ["one", "other", "third"]

theorem scAreWithoutDivisor : FnScope ["one", "other", "third"] ["one", "other", "third"] (defScope s_AreWithoutDivisor) := ⟨rfl, rfl, rfl, by decide +kernel, rfl, by decide +kernel, by decide +kernel⟩

abbrev s_LawHash : Stmt := top 32

abbrev N_LawHash : List Str := ["_law_seed", "_law_index", "_law_mixed"]

theorem scLawHash : FnScope ["_law_seed", "_law_index", "_law_mixed"] ["_law_seed", "_law_index"] (defScope s_LawHash) := ⟨rfl, rfl, rfl, by decide +kernel, rfl, by decide +kernel, by decide +kernel⟩

abbrev s_LawRandom : Stmt := top 33

abbrev N_LawRandom : List Str := ["_law_generator_here", "_law_bound", "_law_drawn", "_law_turn"]

theorem scLawRandom : FnScope ["_law_generator_here", "_law_bound", "_law_drawn", "_law_turn"] ["_law_generator_here", "_law_bound"] (defScope s_LawRandom) := ⟨rfl, rfl, rfl, by decide +kernel, rfl, by decide +kernel, by decide +kernel⟩

abbrev s_LawCell : Stmt := top 34

abbrev N_LawCell : List Str := ["_law_script", "_law_index"]

theorem scLawCell : FnScope ["_law_script", "_law_index"] ["_law_script", "_law_index"] (defScope s_LawCell) := ⟨rfl, rfl, rfl, by decide +kernel, rfl, by decide +kernel, by decide +kernel⟩

abbrev s_LawGenerator : Stmt := top 35

abbrev N_LawGenerator : List Str := ["_law_script", "_law_index", "_law_seed"]

theorem scLawGenerator : FnScope ["_law_script", "_law_index", "_law_seed"] ["_law_script", "_law_index"] (defScope s_LawGenerator) := ⟨rfl, rfl, rfl, by decide +kernel, rfl, by decide +kernel, by decide +kernel⟩

abbrev s_LawCommon : Stmt := top 36

abbrev N_LawCommon : List Str := ["_law_one", "_law_other"]

theorem scLawCommon : FnScope ["_law_one", "_law_other"] ["_law_one", "_law_other"] (defScope s_LawCommon) := ⟨rfl, rfl, rfl, by decide +kernel, rfl, by decide +kernel, by decide +kernel⟩

abbrev s_LawMeasure : Stmt := top 37

abbrev N_LawMeasure : List Str := ["_law_cutting"]

theorem scLawMeasure : FnScope ["_law_cutting"] ["_law_cutting"] (defScope s_LawMeasure) := ⟨rfl, rfl, rfl, by decide +kernel, rfl, by decide +kernel, by decide +kernel⟩

abbrev s_LawIsCutting : Stmt := top 38

abbrev N_LawIsCutting : List Str := ["_law_a", "_law_b", "_law_c", "_law_e"]

theorem scLawIsCutting : FnScope ["_law_a", "_law_b", "_law_c", "_law_e"] ["_law_a", "_law_b", "_law_c", "_law_e"] (defScope s_LawIsCutting) := ⟨rfl, rfl, rfl, by decide +kernel, rfl, by decide +kernel, by decide +kernel⟩

abbrev s_LawWith : Stmt := top 39

abbrev N_LawWith : List Str := ["_law_measure_here", "_law_e", "_law_found", "_law_left", "_law_c", "_law_b", "_law_a"]

theorem scLawWith : FnScope ["_law_measure_here", "_law_e", "_law_found", "_law_left", "_law_c", "_law_b", "_law_a"] ["_law_measure_here", "_law_e"] (defScope s_LawWith) := ⟨rfl, rfl, rfl, by decide +kernel, rfl, by decide +kernel, by decide +kernel⟩

abbrev s_LawTurns : Stmt := top 40

abbrev N_LawTurns : List Str := ["_law_measure_here", "_law_e"]

theorem scLawTurns : FnScope ["_law_measure_here", "_law_e"] ["_law_measure_here"] (defScope s_LawTurns) := ⟨rfl, rfl, rfl, by decide +kernel, rfl, by decide +kernel, by decide +kernel⟩

abbrev s_LawAll : Stmt := top 41

abbrev N_LawAll : List Str := ["_law_measure_here", "_law_found", "_law_e"]

theorem scLawAll : FnScope ["_law_measure_here", "_law_found", "_law_e"] ["_law_measure_here"] (defScope s_LawAll) := ⟨rfl, rfl, rfl, by decide +kernel, rfl, by decide +kernel, by decide +kernel⟩

abbrev s_LawDrawnMeasure : Stmt := top 42

abbrev N_LawDrawnMeasure : List Str := ["_law_generator_here", "_law_most", "_law_found"]

theorem scLawDrawnMeasure : FnScope ["_law_generator_here", "_law_most", "_law_found"] ["_law_generator_here", "_law_most"] (defScope s_LawDrawnMeasure) := ⟨rfl, rfl, rfl, by decide +kernel, rfl, by decide +kernel, by decide +kernel⟩

abbrev s_LawAsked : Stmt := top 43

abbrev N_LawAsked : List Str := ["_law_which", "_law_one", "_law_more"]

theorem scLawAsked : FnScope ["_law_which", "_law_one", "_law_more"] ["_law_which", "_law_one", "_law_more"] (defScope s_LawAsked) := ⟨rfl, rfl, rfl, by decide +kernel, rfl, by decide +kernel, by decide +kernel⟩

abbrev s_LawCaught : Stmt := top 44

abbrev N_LawCaught : List Str := ["_law_which", "_law_one", "_law_more", "_law_error", "_law_kept", "_law_e", "_law_kinds"]

theorem scLawCaught : FnScope ["_law_which", "_law_one", "_law_more", "_law_error", "_law_kept", "_law_e", "_law_kinds"] ["_law_which", "_law_one", "_law_more"] (defScope s_LawCaught) := ⟨rfl, rfl, rfl, by decide +kernel, rfl, by decide +kernel, by decide +kernel⟩

abbrev s_LawOnly : Stmt := top 45

abbrev N_LawOnly : List Str := ["_law_told", "_law_place", "_law_bad", "_law_at"]

theorem scLawOnly : FnScope ["_law_told", "_law_place", "_law_bad", "_law_at"] ["_law_told", "_law_place", "_law_bad"] (defScope s_LawOnly) := ⟨rfl, rfl, rfl, by decide +kernel, rfl, by decide +kernel, by decide +kernel⟩

abbrev s_Law : Stmt := top 46

abbrev N_Law : List Str := ["_law_script", "_law_generator_here", "_law_line", "_law_a", "_law_b", "_law_c", "_law_e", "_law_wrong", "_law_bad", "_law_more", "_law_measure_here", "_law_great", "_law_many", "_law_thing", "_law_told", "_law_which"]

theorem scLaw : FnScope ["_law_script", "_law_generator_here", "_law_line", "_law_a", "_law_b", "_law_c", "_law_e", "_law_wrong", "_law_bad", "_law_more", "_law_measure_here", "_law_great", "_law_many", "_law_thing", "_law_told", "_law_which"] ["_law_script"] (defScope s_Law) := ⟨rfl, rfl, rfl, by decide +kernel, rfl, by decide +kernel, by decide +kernel⟩

/-- what the top leaves of the names -/
structure Txt (K : PySem.W.Frag) (mg : Str → Option Value) : Prop where
  abs : mg "abs" = none
  all : mg "all" = none
  bool : mg "bool" = none
  int : mg "int" = none
  isinstance : mg "isinstance" = none
  len : mg "len" = none
  list : mg "list" = none
  max : mg "max" = none
  min : mg "min" = none
  range : mg "range" = none
  repr : mg "repr" = none
  sorted : mg "sorted" = none
  sum : mg "sum" = none
  tuple : mg "tuple" = none
  gcd : mg "gcd" = some (.builtin "math.gcd")
  isqrt : mg "isqrt" = some (.builtin "math.isqrt")
  MOST_TOLD : ∃ u, mg "MOST_TOLD" = some u ∧ RelV (.int 2000) u

section
variable {P : Program} {w : World} {K : PySem.W.Frag} {mg : Str → Option Value} {base : Heap}

theorem okLawHash {f : Addr} {fd : FuncData} (F : Fun K "_law_hash" "_law_hash" s_LawHash f fd) (T : Txt K mg) : FnOk P w K mg base CX0 1 f fd ["_law_seed", "_law_index"] (spHash) := by
  refine F.ok scLawHash (fun vs H Q E h => ?_) (fun cdv A outer s H vs Q E hr h => ?_)
  · obtain ⟨a, i, rfl, _⟩ := h
    rfl
  · obtain ⟨a, i, rfl, h0, h1, h2, h3, k⟩ := h
    refine ⟨_, (pss_cons (ps_set (i := 2) scLawHash.nd rfl (Or.inl rfl) (pe_op op_mod (pe_callTy cr_int (by rfl) T.int (by decide +kernel) (pa_cons (pe_op op_add (pe_op op_add (pe_op op_add (pe_op op_mulU (pv 0) pe_int) (pe_op op_mulU (pe_op op_mulU pe_int (pv 1)) (pv 1))) (pe_op op_mulU pe_int (pv 1))) pe_int) pa_nil)) pe_int))
        (pss_cons (ps_set (i := 2) scLawHash.nd rfl (Or.inl rfl) (pe_op op_mod (pe_callTy cr_int (by rfl) T.int (by decide +kernel) (pa_cons (pe_op op_add (pe_op op_add (pe_op op_mulU (pv 2) (pv 2)) (pe_op op_mulU pe_int (pv 1))) pe_int) pa_nil)) pe_int))
        (pss_one (ps_ret (pe_op op_mod (pe_callTy cr_int (by rfl) T.int (by decide +kernel) (pa_cons (pe_op op_mulU (pv 2) pe_int) pa_nil)) pe_int))))), ?_⟩
    have e0 : start N_LawHash [.int a, .int i] = [some (.int a), some (.int i), none] := rfl
    rw [e0]
    simp only [cxK, wipe, tYes, List.map_cons, List.map_nil, rIxL, rSum, tSl, rSlL, tNoPart, tPart, exists_and_left, and_assoc, V.ref.injEq, HO.lst.injEq, HO.tup.injEq, tFor_eq, iRng1, iRng2, iList, iTup, tLc_eq, tLst, tTup, gSub, rSetL, gT, gL, gTup, gCons, gNil, atI_0, atI_1, atI_2, atI_3, List.length_cons, List.length_nil, Nat.zero_add, Nat.reduceAdd, Nat.reduceLeDiff, ixN_30, ixN_31, ixN_32, Int.reduceLT, Int.reduceLE, Int.reduceNeg, upd_same, reduceCtorEq, false_and, exists_false, or_false, false_or, tSeq, tNext, tIfS, tRet, tRetN, tDrop, tAsg, gName, tPar, tPar3, tAug, ipI, tVar, tC, tOp, tUn, tCB, tD, tDK, tCons, tNil, rI, rI0, rU, tB, tTest, tCallS, tErr, tAnd, tOr, tNot, tAndV, tOrV, tNotV, tIf, rEq, rNe, scal_ii, scal_bb, scal_ss, rGcd_eq, tBits, List.set_cons_zero, List.set_cons_succ, List.getElem?_cons_zero, List.getElem?_cons_succ, Option.some.injEq, exists_eq_left', V.int.injEq, V.bl.injEq, V.str.injEq, true_and, and_true, decide_eq_true_eq, List.cons.injEq, exists_eq_left, Bool.false_eq_true, if_false, if_true, ite_true, ite_false, Bool.not_eq_true', decide_eq_false_iff_not, Bool.not_not]
    exact ⟨cmw (by omega) (by omega) (by omega) (by omega), cmw (by omega) (by omega) (by omega) (by omega), cmw (by omega) (by omega) (by omega) (by omega), cmw (by omega) (by omega) (by omega) (by omega), cmw (by omega) (by omega) (by omega) (by omega), cmw (by omega) (by omega) (by omega) (by omega), cmw (by omega) (by omega) (by omega) (by omega), k _ (by omega) (by omega)⟩

def InvRandom (g : Addr) (n : Int) (k : Nat) (H : Hp) : Nat → SV → Hp → Prop := fun i σ H2 => ∃ (d : Int) (t : Option V), σ = [some (.ref g), some (.int n), some (.int d), t] ∧ GenAt H2 g (k + i) ∧ Keep g H H2

theorem okLawRandom {f : Addr} {fd : FuncData} (F : Fun K "_law_random" "_law_random" s_LawRandom f fd) (T : Txt K mg) {fLawHash : Addr} {fdLawHash : FuncData} (D_LawHash : DefAt P w K mg base 1 "_law_hash" fLawHash fdLawHash ["_law_seed", "_law_index"] (spHash)) : FnOk P w K mg base CX0 2 f fd ["_law_generator_here", "_law_bound"] (spRandom) := by
  refine F.ok scLawRandom (fun vs H Q E h => ?_) (fun cdv A outer s H vs Q E hr h => ?_)
  · obtain ⟨g, n, k, rfl, _⟩ := h
    rfl
  · obtain ⟨g, n, k, rfl, hG, hk, hn1, hn2, kk⟩ := h
    obtain ⟨a, b, c, hg, ha0, ha1, hb0, hb1, hc0, hc1⟩ := id hG
    refine ⟨_, (pss_cons (ps_if (pt_cmpR op_gt (pe_ix ixL (pv 0) pe_int (fun _ _ => rfl)) pe_int (nomark _)) (pss_cons (ps_set (i := 2) scLawRandom.nd rfl (Or.inl rfl) (pe_op op_mod (pe_callTy cr_int (by rfl) T.int (by decide +kernel) (pa_cons (pe_ix ixL (pv 0) pe_int (fun _ _ => rfl)) pa_nil)) (pv 1)))
        (pss_cons (ps_asg (pe_op op_fdivX (pe_ix ixL (pv 0) pe_int (fun _ _ => rfl)) (pv 1)) (pg_sub (pv 0) pe_int set_list))
        (pss_one (ps_ret (pv 2))))) pss_nil)
        (pss_cons (ps_set (i := 2) scLawRandom.nd rfl (Or.inl rfl) pe_int)
        (pss_cons (ps_for PassesOwn.never rfl (pi_range1 rfl T.range (pa_cons (pe_op op_add pe_int (pe_op op_fdivX (pe_bits (pv 1)) pe_int)) pa_nil)) (pg_name (i := 3) scLawRandom.nd rfl (Or.inl rfl)) (pss_cons (ps_asg (pe_op op_add (pe_ix ixL (pv 0) pe_int (fun _ _ => rfl)) pe_int) (pg_sub (pv 0) pe_int set_list))
        (pss_one (ps_set (i := 2) scLawRandom.nd rfl (Or.inl rfl) (pe_op op_add (pe_op op_mulU (pv 2) pe_int) (pe_d D_LawHash hr (pa_cons (pe_ix ixL (pv 0) pe_int (fun _ _ => rfl)) (pa_cons (pe_ix ixL (pv 0) pe_int (fun _ _ => rfl)) pa_nil))))))))
        (pss_one (ps_ret (pe_op op_mod (pe_callTy cr_int (by rfl) T.int (by decide +kernel) (pa_cons (pv 2) pa_nil)) (pv 1))))))), ?_⟩
    have e0 : start N_LawRandom [.ref g, .int n] = [some (.ref g), some (.int n), none, none] := rfl
    rw [e0]
    simp only [cxK, wipe, tYes, List.map_cons, List.map_nil, rIxL, rSum, tSl, rSlL, tNoPart, tPart, exists_and_left, and_assoc, V.ref.injEq, HO.lst.injEq, HO.tup.injEq, tFor_eq, iRng1, iRng2, iList, iTup, tLc_eq, tLst, tTup, gSub, rSetL, gT, gL, gTup, gCons, gNil, atI_0, atI_1, atI_2, atI_3, List.length_cons, List.length_nil, Nat.zero_add, Nat.reduceAdd, Nat.reduceLeDiff, ixN_30, ixN_31, ixN_32, Int.reduceLT, Int.reduceLE, Int.reduceNeg, upd_same, reduceCtorEq, false_and, exists_false, or_false, false_or, tSeq, tNext, tIfS, tRet, tRetN, tDrop, tAsg, gName, tPar, tPar3, tAug, ipI, tVar, tC, tOp, tUn, tCB, tD, tDK, tCons, tNil, rI, rI0, rU, tB, tTest, tCallS, tErr, tAnd, tOr, tNot, tAndV, tOrV, tNotV, tIf, rEq, rNe, scal_ii, scal_bb, scal_ss, rGcd_eq, tBits, List.set_cons_zero, List.set_cons_succ, List.getElem?_cons_zero, List.getElem?_cons_succ, Option.some.injEq, exists_eq_left', V.int.injEq, V.bl.injEq, V.str.injEq, true_and, and_true, decide_eq_true_eq, List.cons.injEq, exists_eq_left, Bool.false_eq_true, if_false, if_true, ite_true, ite_false, Bool.not_eq_true', decide_eq_false_iff_not, Bool.not_not, hg]
    refine ite2 (fun hp => ?_) (fun hp => ?_)
    · refine ⟨by omega, cdiv (by omega) (by omega) (by omega), ?_⟩
      refine kk _ _ (Int.emod_nonneg _ (by omega)) (Int.emod_lt_of_pos _ (by omega)) ⟨a.fdiv n, b, c, upd_same, ?_, ?_, hb0, hb1, hc0, by omega⟩ (fun x u hx e => by rw [upd_ne hx]; exact e)
      · exact Int.fdiv_nonneg ha0 (by omega)
      · have h1 : a.fdiv n ≤ a := by
          rw [Int.fdiv_eq_ediv_of_nonneg a (by omega)]
          exact Int.ediv_le_self n ha0
        omega
    · have hib : Builtin.Int.intBits n ≤ 300 := PyProof.Rows.intBits_le (by omega)
      have hq : (0 : Int) ≤ (((Builtin.Int.intBits n : Nat) : Int).fdiv 30) ∧ (((Builtin.Int.intBits n : Nat) : Int).fdiv 30) ≤ 10 := by
        rw [Int.fdiv_eq_ediv_of_nonneg _ (by omega)]
        omega
      generalize hqe : (((Builtin.Int.intBits n : Nat) : Int).fdiv 30) = q at hq
      refine ⟨cdiv (by omega) (by omega) (by omega), by omega, by omega, ?_⟩
      refine forW_range (InvRandom g n k H) ⟨0, none, rfl, hG, Keep.refl _ _⟩ ?_ ?_
      · rintro i σ' H' hi ⟨d, t, rfl, ⟨a2, b2, c2, hg2, p1, p2, p3, p4, p5, p6⟩, kp⟩
        simp only [cxK, wipe, tYes, List.map_cons, List.map_nil, rIxL, rSum, tSl, rSlL, tNoPart, tPart, exists_and_left, and_assoc, V.ref.injEq, HO.lst.injEq, HO.tup.injEq, tFor_eq, iRng1, iRng2, iList, iTup, tLc_eq, tLst, tTup, gSub, rSetL, gT, gL, gTup, gCons, gNil, atI_0, atI_1, atI_2, atI_3, List.length_cons, List.length_nil, Nat.zero_add, Nat.reduceAdd, Nat.reduceLeDiff, ixN_30, ixN_31, ixN_32, Int.reduceLT, Int.reduceLE, Int.reduceNeg, upd_same, reduceCtorEq, false_and, exists_false, or_false, false_or, tSeq, tNext, tIfS, tRet, tRetN, tDrop, tAsg, gName, tPar, tPar3, tAug, ipI, tVar, tC, tOp, tUn, tCB, tD, tDK, tCons, tNil, rI, rI0, rU, tB, tTest, tCallS, tErr, tAnd, tOr, tNot, tAndV, tOrV, tNotV, tIf, rEq, rNe, scal_ii, scal_bb, scal_ss, rGcd_eq, tBits, List.set_cons_zero, List.set_cons_succ, List.getElem?_cons_zero, List.getElem?_cons_succ, Option.some.injEq, exists_eq_left', V.int.injEq, V.bl.injEq, V.str.injEq, true_and, and_true, decide_eq_true_eq, List.cons.injEq, exists_eq_left, Bool.false_eq_true, if_false, if_true, ite_true, ite_false, Bool.not_eq_true', decide_eq_false_iff_not, Bool.not_not, hg2]
        unfold spHash
        refine ⟨cmr (by decide) (by decide), b2, c2 + 1, rfl, p3, p4, by omega, by omega, fun hh q1 q2 => ?_⟩
        simp only [cxK, wipe, tYes, List.map_cons, List.map_nil, rIxL, rSum, tSl, rSlL, tNoPart, tPart, exists_and_left, and_assoc, V.ref.injEq, HO.lst.injEq, HO.tup.injEq, tFor_eq, iRng1, iRng2, iList, iTup, tLc_eq, tLst, tTup, gSub, rSetL, gT, gL, gTup, gCons, gNil, atI_0, atI_1, atI_2, atI_3, List.length_cons, List.length_nil, Nat.zero_add, Nat.reduceAdd, Nat.reduceLeDiff, ixN_30, ixN_31, ixN_32, Int.reduceLT, Int.reduceLE, Int.reduceNeg, upd_same, reduceCtorEq, false_and, exists_false, or_false, false_or, tSeq, tNext, tIfS, tRet, tRetN, tDrop, tAsg, gName, tPar, tPar3, tAug, ipI, tVar, tC, tOp, tUn, tCB, tD, tDK, tCons, tNil, rI, rI0, rU, tB, tTest, tCallS, tErr, tAnd, tOr, tNot, tAndV, tOrV, tNotV, tIf, rEq, rNe, scal_ii, scal_bb, scal_ss, rGcd_eq, tBits, List.set_cons_zero, List.set_cons_succ, List.getElem?_cons_zero, List.getElem?_cons_succ, Option.some.injEq, exists_eq_left', V.int.injEq, V.bl.injEq, V.str.injEq, true_and, and_true, decide_eq_true_eq, List.cons.injEq, exists_eq_left, Bool.false_eq_true, if_false, if_true, ite_true, ite_false, Bool.not_eq_true', decide_eq_false_iff_not, Bool.not_not]
        refine ⟨_, some (.int (0 + (i : Int))), rfl, ⟨a2, b2, c2 + 1, upd_same, p1, p2, p3, p4, by omega, by omega⟩, fun x u hx e => ?_⟩
        rw [upd_ne hx]
        exact kp x u hx e
      · rintro σ' H' ⟨d, t, rfl, gA, kp⟩
        simp only [cxK, wipe, tYes, List.map_cons, List.map_nil, rIxL, rSum, tSl, rSlL, tNoPart, tPart, exists_and_left, and_assoc, V.ref.injEq, HO.lst.injEq, HO.tup.injEq, tFor_eq, iRng1, iRng2, iList, iTup, tLc_eq, tLst, tTup, gSub, rSetL, gT, gL, gTup, gCons, gNil, atI_0, atI_1, atI_2, atI_3, List.length_cons, List.length_nil, Nat.zero_add, Nat.reduceAdd, Nat.reduceLeDiff, ixN_30, ixN_31, ixN_32, Int.reduceLT, Int.reduceLE, Int.reduceNeg, upd_same, reduceCtorEq, false_and, exists_false, or_false, false_or, tSeq, tNext, tIfS, tRet, tRetN, tDrop, tAsg, gName, tPar, tPar3, tAug, ipI, tVar, tC, tOp, tUn, tCB, tD, tDK, tCons, tNil, rI, rI0, rU, tB, tTest, tCallS, tErr, tAnd, tOr, tNot, tAndV, tOrV, tNotV, tIf, rEq, rNe, scal_ii, scal_bb, scal_ss, rGcd_eq, tBits, List.set_cons_zero, List.set_cons_succ, List.getElem?_cons_zero, List.getElem?_cons_succ, Option.some.injEq, exists_eq_left', V.int.injEq, V.bl.injEq, V.str.injEq, true_and, and_true, decide_eq_true_eq, List.cons.injEq, exists_eq_left, Bool.false_eq_true, if_false, if_true, ite_true, ite_false, Bool.not_eq_true', decide_eq_false_iff_not, Bool.not_not]
        exact ⟨by omega, kk _ _ (Int.emod_nonneg _ (by omega)) (Int.emod_lt_of_pos _ (by omega)) (gA.mono (by omega)) kp⟩

theorem okLawCell {f : Addr} {fd : FuncData} (F : Fun K "_law_cell" "_law_cell" s_LawCell f fd) (T : Txt K mg) : FnOk P w K mg base CX0 1 f fd ["_law_script", "_law_index"] (spCell K) := by
  refine F.ok scLawCell (fun vs H Q E h => ?_) (fun cdv A outer s H vs Q E hr h => ?_)
  · obtain ⟨a, ns, i, rfl, _⟩ := h
    rfl
  · obtain ⟨a, ns, i, rfl, hS, h0, h1, kk⟩ := h
    refine ⟨_, (pss_cons (ps_if (pt_cmpR op_lt (pv 1) (pe_callB call_len_seq (by rfl) T.len (by decide +kernel) (pa_cons (pv 0) pa_nil)) (nomark _)) (pss_one (ps_ret (pe_ix ix_list (pv 0) (pv 1) (fun _ _ => rfl)))) pss_nil)
        (pss_one (ps_ret (pe_op op_mod (pe_callB (cr_sum rfl) (by rfl) T.sum (by decide +kernel) (pa_cons (pe_slice sl_list (pv 0) po_none (po_some pe_int)) pa_nil)) pe_int)))), ?_⟩
    have e0 : start N_LawCell [.ref a, .int i] = [some (.ref a), some (.int i)] := rfl
    rw [e0]
    simp only [cxK, wipe, tYes, List.map_cons, List.map_nil, rIxL, rSum, tSl, rSlL, tNoPart, tPart, exists_and_left, and_assoc, V.ref.injEq, HO.lst.injEq, HO.tup.injEq, tFor_eq, iRng1, iRng2, iList, iTup, tLc_eq, tLst, tTup, gSub, rSetL, gT, gL, gTup, gCons, gNil, atI_0, atI_1, atI_2, atI_3, List.length_cons, List.length_nil, Nat.zero_add, Nat.reduceAdd, Nat.reduceLeDiff, ixN_30, ixN_31, ixN_32, Int.reduceLT, Int.reduceLE, Int.reduceNeg, upd_same, reduceCtorEq, false_and, exists_false, or_false, false_or, tSeq, tNext, tIfS, tRet, tRetN, tDrop, tAsg, gName, tPar, tPar3, tAug, ipI, tVar, tC, tOp, tUn, tCB, tD, tDK, tCons, tNil, rI, rI0, rU, tB, tTest, tCallS, tErr, tAnd, tOr, tNot, tAndV, tOrV, tNotV, tIf, rEq, rNe, scal_ii, scal_bb, scal_ss, rGcd_eq, tBits, List.set_cons_zero, List.set_cons_succ, List.getElem?_cons_zero, List.getElem?_cons_succ, Option.some.injEq, exists_eq_left', V.int.injEq, V.bl.injEq, V.str.injEq, true_and, and_true, decide_eq_true_eq, List.cons.injEq, exists_eq_left, Bool.false_eq_true, if_false, if_true, ite_true, ite_false, Bool.not_eq_true', decide_eq_false_iff_not, Bool.not_not]
    refine ⟨ns.map V.int, .inl hS, ite2 (fun hp => ?_) (fun hp => ?_)⟩
    · have hi : i.toNat < ns.length := by rw [List.length_map] at hp; omega
      refine ⟨ns.map V.int, hS, .int (ns[i.toNat]), ?_, kk _ _ (Same.refl _)⟩
      exact at_of (j := i.toNat) (by omega) (by rw [List.getElem?_map, List.getElem?_eq_getElem hi]; rfl)
    · refine ⟨ns.map V.int, hS, fun p np => ⟨ns.take 1, .inl (.inl ?_), kk _ _ (Same.upd np)⟩⟩
      rw [upd_same, cut1, List.map_take]

theorem okLawGenerator {f : Addr} {fd : FuncData} (F : Fun K "_law_generator" "_law_generator" s_LawGenerator f fd) (T : Txt K mg) {fLawCell : Addr} {fdLawCell : FuncData} (D_LawCell : DefAt P w K mg base 1 "_law_cell" fLawCell fdLawCell ["_law_script", "_law_index"] (spCell K)) : FnOk P w K mg base CX0 2 f fd ["_law_script", "_law_index"] (spGen K) := by
  refine F.ok scLawGenerator (fun vs H Q E h => ?_) (fun cdv A outer s H vs Q E hr h => ?_)
  · obtain ⟨a, ns, i, rfl, _⟩ := h
    rfl
  · obtain ⟨a, ns, i, rfl, hS, h0, h1, kk⟩ := h
    refine ⟨_, (pss_cons (ps_set (i := 2) scLawGenerator.nd rfl (Or.inl rfl) (pe_d D_LawCell hr (pa_cons (pv 0) (pa_cons (pv 1) pa_nil))))
        (pss_one (ps_ret (pe_lst (pa_cons (pe_op op_mod (pe_callTy cr_int (by rfl) T.int (by decide +kernel) (pa_cons (pe_callB (call_max2 rfl) (by rfl) T.max (by decide +kernel) (pa_cons (pe_op op_sub (pv 2) (pe_op op_powX pe_int pe_int)) (pa_cons pe_int pa_nil))) pa_nil)) (pe_op op_powX (pe_op op_powX pe_int pe_int) pe_int)) (pa_cons (pe_op op_mod (pe_callTy cr_int (by rfl) T.int (by decide +kernel) (pa_cons (pv 2) pa_nil)) pe_int) (pa_cons (pe_op op_mulU pe_int (pv 1)) pa_nil))))))), ?_⟩
    have e0 : start N_LawGenerator [.ref a, .int i] = [some (.ref a), some (.int i), none] := rfl
    rw [e0]
    simp only [cxK, wipe, tYes, List.map_cons, List.map_nil, rIxL, rSum, tSl, rSlL, tNoPart, tPart, exists_and_left, and_assoc, V.ref.injEq, HO.lst.injEq, HO.tup.injEq, tFor_eq, iRng1, iRng2, iList, iTup, tLc_eq, tLst, tTup, gSub, rSetL, gT, gL, gTup, gCons, gNil, atI_0, atI_1, atI_2, atI_3, List.length_cons, List.length_nil, Nat.zero_add, Nat.reduceAdd, Nat.reduceLeDiff, ixN_30, ixN_31, ixN_32, Int.reduceLT, Int.reduceLE, Int.reduceNeg, upd_same, reduceCtorEq, false_and, exists_false, or_false, false_or, tSeq, tNext, tIfS, tRet, tRetN, tDrop, tAsg, gName, tPar, tPar3, tAug, ipI, tVar, tC, tOp, tUn, tCB, tD, tDK, tCons, tNil, rI, rI0, rU, tB, tTest, tCallS, tErr, tAnd, tOr, tNot, tAndV, tOrV, tNotV, tIf, rEq, rNe, scal_ii, scal_bb, scal_ss, rGcd_eq, tBits, List.set_cons_zero, List.set_cons_succ, List.getElem?_cons_zero, List.getElem?_cons_succ, Option.some.injEq, exists_eq_left', V.int.injEq, V.bl.injEq, V.str.injEq, true_and, and_true, decide_eq_true_eq, List.cons.injEq, exists_eq_left, Bool.false_eq_true, if_false, if_true, ite_true, ite_false, Bool.not_eq_true', decide_eq_false_iff_not, Bool.not_not]
    have hm : (0 : Int) < (10 ^ Int.toNat 60) ^ Int.toNat 10 := by decide +kernel
    have hm2 : ((10 : Int) ^ Int.toNat 60) ^ Int.toNat 10 < 2 ^ 2000 := by decide +kernel
    have hm3 : -(2 ^ 2500) < (10 : Int) ^ Int.toNat 60 := by decide +kernel
    have hm4 : (10 : Int) ^ Int.toNat 60 < 2 ^ 2500 := by decide +kernel
    refine ⟨a, ns, i, rfl, hS, h0, h1, fun r H1 s1 => ⟨cpow (by decide) (by decide) (by decide) (by decide), r, rfl, cpow (by decide) (by decide) (by decide) (by decide), cpow (by decide) (by decide) hm3 hm4, hm, r, rfl, cml (by decide) (by decide), by decide, fun p np => ?_⟩⟩
    refine kk p _ (s1.free np) (s1.trans (Same.upd np)) ⟨_, _, _, upd_same, Int.emod_nonneg _ (by omega), Int.lt_trans (Int.emod_lt_of_pos _ hm) hm2, by omega, by omega, by omega, by omega⟩

def InvCommon (a b : Int) (H : Hp) : SV → Hp → Prop := fun σ H2 => ∃ x y : Int, σ = [some (.int x), some (.int y)] ∧ 0 ≤ x ∧ 0 ≤ y ∧ gcdI x y = gcdI a b ∧ H2 = H

theorem okLawCommon {f : Addr} {fd : FuncData} (F : Fun K "_law_common" "_law_common" s_LawCommon f fd) (T : Txt K mg) : FnOk P w K mg base CX0 1 f fd ["_law_one", "_law_other"] (spCommon) := by
  refine F.ok scLawCommon (fun vs H Q E h => ?_) (fun cdv A outer s H vs Q E hr h => ?_)
  · obtain ⟨a, b, rfl, _⟩ := h
    rfl
  · obtain ⟨a, b, rfl, kk⟩ := h
    refine ⟨_, (pss_cons (ps_par (i := 0) (j := 1) rfl scLawCommon.nd rfl rfl (by decide) rfl rfl (pa_cons (pe_callB call_abs (by rfl) T.abs (by decide +kernel) (pa_cons (pv 0) pa_nil)) (pa_cons (pe_callB call_abs (by rfl) T.abs (by decide +kernel) (pa_cons (pv 1) pa_nil)) pa_nil)) rfl)
        (pss_cons (ps_while PassesOwn.never (pt_cmpR op_ne (pv 1) pe_int (nomark _)) (pss_one (ps_par (i := 0) (j := 1) rfl scLawCommon.nd rfl rfl (by decide) rfl rfl (pa_cons (pv 1) (pa_cons (pe_op op_mod (pe_callTy cr_int (by rfl) T.int (by decide +kernel) (pa_cons (pv 0) pa_nil)) (pv 1)) pa_nil)) rfl)))
        (pss_one (ps_ret (pv 0))))), ?_⟩
    have e0 : start N_LawCommon [.int a, .int b] = [some (.int a), some (.int b)] := rfl
    rw [e0]
    simp only [cxK, wipe, tYes, List.map_cons, List.map_nil, rIxL, rSum, tSl, rSlL, tNoPart, tPart, exists_and_left, and_assoc, V.ref.injEq, HO.lst.injEq, HO.tup.injEq, tFor_eq, iRng1, iRng2, iList, iTup, tLc_eq, tLst, tTup, gSub, rSetL, gT, gL, gTup, gCons, gNil, atI_0, atI_1, atI_2, atI_3, List.length_cons, List.length_nil, Nat.zero_add, Nat.reduceAdd, Nat.reduceLeDiff, ixN_30, ixN_31, ixN_32, Int.reduceLT, Int.reduceLE, Int.reduceNeg, upd_same, reduceCtorEq, false_and, exists_false, or_false, false_or, tSeq, tNext, tIfS, tRet, tRetN, tDrop, tAsg, gName, tPar, tPar3, tAug, ipI, tVar, tC, tOp, tUn, tCB, tD, tDK, tCons, tNil, rI, rI0, rU, tB, tTest, tCallS, tErr, tAnd, tOr, tNot, tAndV, tOrV, tNotV, tIf, rEq, rNe, scal_ii, scal_bb, scal_ss, rGcd_eq, tBits, List.set_cons_zero, List.set_cons_succ, List.getElem?_cons_zero, List.getElem?_cons_succ, Option.some.injEq, exists_eq_left', V.int.injEq, V.bl.injEq, V.str.injEq, true_and, and_true, decide_eq_true_eq, List.cons.injEq, exists_eq_left, Bool.false_eq_true, if_false, if_true, ite_true, ite_false, Bool.not_eq_true', decide_eq_false_iff_not, Bool.not_not]
    refine whileI (InvCommon a b H) (fun σ _ => slotN σ 1) ⟨_, _, rfl, by split <;> omega, by split <;> omega, gcdI_abs a b, rfl⟩ ?_
    rintro σ' H' ⟨x, y, rfl, hx, hy, e, rfl⟩
    simp only [cxK, wipe, tYes, List.map_cons, List.map_nil, rIxL, rSum, tSl, rSlL, tNoPart, tPart, exists_and_left, and_assoc, V.ref.injEq, HO.lst.injEq, HO.tup.injEq, tFor_eq, iRng1, iRng2, iList, iTup, tLc_eq, tLst, tTup, gSub, rSetL, gT, gL, gTup, gCons, gNil, atI_0, atI_1, atI_2, atI_3, List.length_cons, List.length_nil, Nat.zero_add, Nat.reduceAdd, Nat.reduceLeDiff, ixN_30, ixN_31, ixN_32, Int.reduceLT, Int.reduceLE, Int.reduceNeg, upd_same, reduceCtorEq, false_and, exists_false, or_false, false_or, tSeq, tNext, tIfS, tRet, tRetN, tDrop, tAsg, gName, tPar, tPar3, tAug, ipI, tVar, tC, tOp, tUn, tCB, tD, tDK, tCons, tNil, rI, rI0, rU, tB, tTest, tCallS, tErr, tAnd, tOr, tNot, tAndV, tOrV, tNotV, tIf, rEq, rNe, scal_ii, scal_bb, scal_ss, rGcd_eq, tBits, List.set_cons_zero, List.set_cons_succ, List.getElem?_cons_zero, List.getElem?_cons_succ, Option.some.injEq, exists_eq_left', V.int.injEq, V.bl.injEq, V.str.injEq, true_and, and_true, decide_eq_true_eq, List.cons.injEq, exists_eq_left, Bool.false_eq_true, if_false, if_true, ite_true, ite_false, Bool.not_eq_true', decide_eq_false_iff_not, Bool.not_not]
    by_cases h : y = 0
    · subst h
      rw [if_neg (by simp)]
      rw [gcdI_zero hx] at e
      rw [e]
      exact kk
    · rw [if_pos (by first | (simpa using h) | omega)]
      refine wstep ?_
      simp only [cxK, wipe, tYes, List.map_cons, List.map_nil, rIxL, rSum, tSl, rSlL, tNoPart, tPart, exists_and_left, and_assoc, V.ref.injEq, HO.lst.injEq, HO.tup.injEq, tFor_eq, iRng1, iRng2, iList, iTup, tLc_eq, tLst, tTup, gSub, rSetL, gT, gL, gTup, gCons, gNil, atI_0, atI_1, atI_2, atI_3, List.length_cons, List.length_nil, Nat.zero_add, Nat.reduceAdd, Nat.reduceLeDiff, ixN_30, ixN_31, ixN_32, Int.reduceLT, Int.reduceLE, Int.reduceNeg, upd_same, reduceCtorEq, false_and, exists_false, or_false, false_or, tSeq, tNext, tIfS, tRet, tRetN, tDrop, tAsg, gName, tPar, tPar3, tAug, ipI, tVar, tC, tOp, tUn, tCB, tD, tDK, tCons, tNil, rI, rI0, rU, tB, tTest, tCallS, tErr, tAnd, tOr, tNot, tAndV, tOrV, tNotV, tIf, rEq, rNe, scal_ii, scal_bb, scal_ss, rGcd_eq, tBits, List.set_cons_zero, List.set_cons_succ, List.getElem?_cons_zero, List.getElem?_cons_succ, Option.some.injEq, exists_eq_left', V.int.injEq, V.bl.injEq, V.str.injEq, true_and, and_true, decide_eq_true_eq, List.cons.injEq, exists_eq_left, Bool.false_eq_true, if_false, if_true, ite_true, ite_false, Bool.not_eq_true', decide_eq_false_iff_not, Bool.not_not]
      refine ⟨by omega, ⟨y, x % y, rfl, hy, Int.emod_nonneg _ (by omega), (gcdI_step hx (by omega)).trans e, rfl⟩, ?_⟩
      show (x % y).toNat < y.toNat
      have := Int.emod_lt_of_pos x (show 0 < y by omega)
      omega

abbrev s_iInvalidCutting : Stmt := initOf (top 5)

theorem sciInvalidCutting : FnScope ["self", "value"] ["self", "value"] (defScope s_iInvalidCutting) := ⟨rfl, rfl, rfl, by decide +kernel, rfl, by decide +kernel, by decide +kernel⟩

theorem okiInvalidCutting {f C : Addr} {fd : FuncData} (F : FunD K "__init__" "InvalidCutting.__init__" (defArgs s_iInvalidCutting) (defBody s_iInvalidCutting) (defScope s_iInvalidCutting) [V.non] [] f fd) (T : OexC K C) (nv : PySem.W.findIn K (.ref C) "value" = some none) : FnOk P w K mg base CX0 1 f fd ["self", "value"] (spInit C) := by
  refine F.ok (N := ["self", "value"]) sciInvalidCutting (fun vs H Q E h => ?_) (fun cdv A outer s H vs Q E hr h => ?_)
  · obtain ⟨a, v, rfl, _⟩ := h
    rfl
  · obtain ⟨a, v, rfl, ha, k⟩ := h
    refine ⟨_, (pss_one (ps_ost (pv 0) (pv 1))), ?_⟩
    have e0 : start ["self", "value"] [.ref a, v] = [some (.ref a), some v] := rfl
    rw [e0]
    simp only [cxK, wipe, tYes, List.map_cons, List.map_nil, rIxL, rSum, tSl, rSlL, tNoPart, tPart, exists_and_left, and_assoc, V.ref.injEq, HO.lst.injEq, HO.tup.injEq, tFor_eq, iRng1, iRng2, iList, iTup, tLc_eq, tLst, tTup, gSub, rSetL, gT, gL, gTup, gCons, gNil, atI_0, atI_1, atI_2, atI_3, List.length_cons, List.length_nil, Nat.zero_add, Nat.reduceAdd, Nat.reduceLeDiff, ixN_30, ixN_31, ixN_32, Int.reduceLT, Int.reduceLE, Int.reduceNeg, upd_same, reduceCtorEq, false_and, exists_false, or_false, false_or, tSeq, tNext, tIfS, tRet, tRetN, tDrop, tAsg, gName, tPar, tPar3, tAug, ipI, tVar, tC, tOp, tUn, tCB, tD, tDK, tCons, tNil, rI, rI0, rU, tB, tTest, tCallS, tErr, tAnd, tOr, tNot, tAndV, tOrV, tNotV, tIf, rEq, rNe, scal_ii, scal_bb, scal_ss, rGcd_eq, tBits, List.set_cons_zero, List.set_cons_succ, List.getElem?_cons_zero, List.getElem?_cons_succ, Option.some.injEq, exists_eq_left', V.int.injEq, V.bl.injEq, V.str.injEq, true_and, and_true, decide_eq_true_eq, List.cons.injEq, exists_eq_left, Bool.false_eq_true, if_false, if_true, ite_true, ite_false, Bool.not_eq_true', decide_eq_false_iff_not, Bool.not_not, tOst]
    exact ⟨C, T, nv, .inl ⟨ha, k⟩⟩
theorem bdiInvalidCutting {f : Addr} {fd : FuncData} (F : FunD K "__init__" "InvalidCutting.__init__" (defArgs s_iInvalidCutting) (defBody s_iInvalidCutting) (defScope s_iInvalidCutting) [V.non] [] f fd) : Binds K fd ["self", "value"] [] ∧ (∃ ds, Vals [V.non] ds ∧ Binds K fd ["self", "value"] ds) ∧ ∀ (s : Shared) (u v : Value), K.In s.heap → BindsTo s fd ⟨[u], [("value", v)]⟩ [("self", u), ("value", v)] :=
  init_binds F (fun _ _ _ _ _ _ _ _ _ _ => ⟨_, rfl, rfl⟩) (fun _ _ _ _ _ _ _ _ _ => ⟨_, rfl, rfl⟩) (fun _ _ _ _ _ _ _ _ _ _ => ⟨_, rfl, rfl⟩)

abbrev s_iInvalidMeasure : Stmt := initOf (top 3)

theorem sciInvalidMeasure : FnScope ["self", "value"] ["self", "value"] (defScope s_iInvalidMeasure) := ⟨rfl, rfl, rfl, by decide +kernel, rfl, by decide +kernel, by decide +kernel⟩

theorem okiInvalidMeasure {f C : Addr} {fd : FuncData} (F : FunD K "__init__" "InvalidMeasure.__init__" (defArgs s_iInvalidMeasure) (defBody s_iInvalidMeasure) (defScope s_iInvalidMeasure) [V.non] [] f fd) (T : OexC K C) (nv : PySem.W.findIn K (.ref C) "value" = some none) : FnOk P w K mg base CX0 1 f fd ["self", "value"] (spInit C) := by
  refine F.ok (N := ["self", "value"]) sciInvalidMeasure (fun vs H Q E h => ?_) (fun cdv A outer s H vs Q E hr h => ?_)
  · obtain ⟨a, v, rfl, _⟩ := h
    rfl
  · obtain ⟨a, v, rfl, ha, k⟩ := h
    refine ⟨_, (pss_one (ps_ost (pv 0) (pv 1))), ?_⟩
    have e0 : start ["self", "value"] [.ref a, v] = [some (.ref a), some v] := rfl
    rw [e0]
    simp only [cxK, wipe, tYes, List.map_cons, List.map_nil, rIxL, rSum, tSl, rSlL, tNoPart, tPart, exists_and_left, and_assoc, V.ref.injEq, HO.lst.injEq, HO.tup.injEq, tFor_eq, iRng1, iRng2, iList, iTup, tLc_eq, tLst, tTup, gSub, rSetL, gT, gL, gTup, gCons, gNil, atI_0, atI_1, atI_2, atI_3, List.length_cons, List.length_nil, Nat.zero_add, Nat.reduceAdd, Nat.reduceLeDiff, ixN_30, ixN_31, ixN_32, Int.reduceLT, Int.reduceLE, Int.reduceNeg, upd_same, reduceCtorEq, false_and, exists_false, or_false, false_or, tSeq, tNext, tIfS, tRet, tRetN, tDrop, tAsg, gName, tPar, tPar3, tAug, ipI, tVar, tC, tOp, tUn, tCB, tD, tDK, tCons, tNil, rI, rI0, rU, tB, tTest, tCallS, tErr, tAnd, tOr, tNot, tAndV, tOrV, tNotV, tIf, rEq, rNe, scal_ii, scal_bb, scal_ss, rGcd_eq, tBits, List.set_cons_zero, List.set_cons_succ, List.getElem?_cons_zero, List.getElem?_cons_succ, Option.some.injEq, exists_eq_left', V.int.injEq, V.bl.injEq, V.str.injEq, true_and, and_true, decide_eq_true_eq, List.cons.injEq, exists_eq_left, Bool.false_eq_true, if_false, if_true, ite_true, ite_false, Bool.not_eq_true', decide_eq_false_iff_not, Bool.not_not, tOst]
    exact ⟨C, T, nv, .inl ⟨ha, k⟩⟩
theorem bdiInvalidMeasure {f : Addr} {fd : FuncData} (F : FunD K "__init__" "InvalidMeasure.__init__" (defArgs s_iInvalidMeasure) (defBody s_iInvalidMeasure) (defScope s_iInvalidMeasure) [V.non] [] f fd) : Binds K fd ["self", "value"] [] ∧ (∃ ds, Vals [V.non] ds ∧ Binds K fd ["self", "value"] ds) ∧ ∀ (s : Shared) (u v : Value), K.In s.heap → BindsTo s fd ⟨[u], [("value", v)]⟩ [("self", u), ("value", v)] :=
  init_binds F (fun _ _ _ _ _ _ _ _ _ _ => ⟨_, rfl, rfl⟩) (fun _ _ _ _ _ _ _ _ _ => ⟨_, rfl, rfl⟩) (fun _ _ _ _ _ _ _ _ _ _ => ⟨_, rfl, rfl⟩)

abbrev s_iInvalidNumber : Stmt := initOf (top 4)

theorem sciInvalidNumber : FnScope ["self", "value"] ["self", "value"] (defScope s_iInvalidNumber) := ⟨rfl, rfl, rfl, by decide +kernel, rfl, by decide +kernel, by decide +kernel⟩

theorem okiInvalidNumber {f C : Addr} {fd : FuncData} (F : FunD K "__init__" "InvalidNumber.__init__" (defArgs s_iInvalidNumber) (defBody s_iInvalidNumber) (defScope s_iInvalidNumber) [V.non] [] f fd) (T : OexC K C) (nv : PySem.W.findIn K (.ref C) "value" = some none) : FnOk P w K mg base CX0 1 f fd ["self", "value"] (spInit C) := by
  refine F.ok (N := ["self", "value"]) sciInvalidNumber (fun vs H Q E h => ?_) (fun cdv A outer s H vs Q E hr h => ?_)
  · obtain ⟨a, v, rfl, _⟩ := h
    rfl
  · obtain ⟨a, v, rfl, ha, k⟩ := h
    refine ⟨_, (pss_one (ps_ost (pv 0) (pv 1))), ?_⟩
    have e0 : start ["self", "value"] [.ref a, v] = [some (.ref a), some v] := rfl
    rw [e0]
    simp only [cxK, wipe, tYes, List.map_cons, List.map_nil, rIxL, rSum, tSl, rSlL, tNoPart, tPart, exists_and_left, and_assoc, V.ref.injEq, HO.lst.injEq, HO.tup.injEq, tFor_eq, iRng1, iRng2, iList, iTup, tLc_eq, tLst, tTup, gSub, rSetL, gT, gL, gTup, gCons, gNil, atI_0, atI_1, atI_2, atI_3, List.length_cons, List.length_nil, Nat.zero_add, Nat.reduceAdd, Nat.reduceLeDiff, ixN_30, ixN_31, ixN_32, Int.reduceLT, Int.reduceLE, Int.reduceNeg, upd_same, reduceCtorEq, false_and, exists_false, or_false, false_or, tSeq, tNext, tIfS, tRet, tRetN, tDrop, tAsg, gName, tPar, tPar3, tAug, ipI, tVar, tC, tOp, tUn, tCB, tD, tDK, tCons, tNil, rI, rI0, rU, tB, tTest, tCallS, tErr, tAnd, tOr, tNot, tAndV, tOrV, tNotV, tIf, rEq, rNe, scal_ii, scal_bb, scal_ss, rGcd_eq, tBits, List.set_cons_zero, List.set_cons_succ, List.getElem?_cons_zero, List.getElem?_cons_succ, Option.some.injEq, exists_eq_left', V.int.injEq, V.bl.injEq, V.str.injEq, true_and, and_true, decide_eq_true_eq, List.cons.injEq, exists_eq_left, Bool.false_eq_true, if_false, if_true, ite_true, ite_false, Bool.not_eq_true', decide_eq_false_iff_not, Bool.not_not, tOst]
    exact ⟨C, T, nv, .inl ⟨ha, k⟩⟩
theorem bdiInvalidNumber {f : Addr} {fd : FuncData} (F : FunD K "__init__" "InvalidNumber.__init__" (defArgs s_iInvalidNumber) (defBody s_iInvalidNumber) (defScope s_iInvalidNumber) [V.non] [] f fd) : Binds K fd ["self", "value"] [] ∧ (∃ ds, Vals [V.non] ds ∧ Binds K fd ["self", "value"] ds) ∧ ∀ (s : Shared) (u v : Value), K.In s.heap → BindsTo s fd ⟨[u], [("value", v)]⟩ [("self", u), ("value", v)] :=
  init_binds F (fun _ _ _ _ _ _ _ _ _ _ => ⟨_, rfl, rfl⟩) (fun _ _ _ _ _ _ _ _ _ => ⟨_, rfl, rfl⟩) (fun _ _ _ _ _ _ _ _ _ _ => ⟨_, rfl, rfl⟩)

abbrev s_iTooMany : Stmt := initOf (top 6)

theorem sciTooMany : FnScope ["self", "value"] ["self", "value"] (defScope s_iTooMany) := ⟨rfl, rfl, rfl, by decide +kernel, rfl, by decide +kernel, by decide +kernel⟩

theorem okiTooMany {f C : Addr} {fd : FuncData} (F : FunD K "__init__" "TooMany.__init__" (defArgs s_iTooMany) (defBody s_iTooMany) (defScope s_iTooMany) [V.non] [] f fd) (T : OexC K C) (nv : PySem.W.findIn K (.ref C) "value" = some none) : FnOk P w K mg base CX0 1 f fd ["self", "value"] (spInit C) := by
  refine F.ok (N := ["self", "value"]) sciTooMany (fun vs H Q E h => ?_) (fun cdv A outer s H vs Q E hr h => ?_)
  · obtain ⟨a, v, rfl, _⟩ := h
    rfl
  · obtain ⟨a, v, rfl, ha, k⟩ := h
    refine ⟨_, (pss_one (ps_ost (pv 0) (pv 1))), ?_⟩
    have e0 : start ["self", "value"] [.ref a, v] = [some (.ref a), some v] := rfl
    rw [e0]
    simp only [cxK, wipe, tYes, List.map_cons, List.map_nil, rIxL, rSum, tSl, rSlL, tNoPart, tPart, exists_and_left, and_assoc, V.ref.injEq, HO.lst.injEq, HO.tup.injEq, tFor_eq, iRng1, iRng2, iList, iTup, tLc_eq, tLst, tTup, gSub, rSetL, gT, gL, gTup, gCons, gNil, atI_0, atI_1, atI_2, atI_3, List.length_cons, List.length_nil, Nat.zero_add, Nat.reduceAdd, Nat.reduceLeDiff, ixN_30, ixN_31, ixN_32, Int.reduceLT, Int.reduceLE, Int.reduceNeg, upd_same, reduceCtorEq, false_and, exists_false, or_false, false_or, tSeq, tNext, tIfS, tRet, tRetN, tDrop, tAsg, gName, tPar, tPar3, tAug, ipI, tVar, tC, tOp, tUn, tCB, tD, tDK, tCons, tNil, rI, rI0, rU, tB, tTest, tCallS, tErr, tAnd, tOr, tNot, tAndV, tOrV, tNotV, tIf, rEq, rNe, scal_ii, scal_bb, scal_ss, rGcd_eq, tBits, List.set_cons_zero, List.set_cons_succ, List.getElem?_cons_zero, List.getElem?_cons_succ, Option.some.injEq, exists_eq_left', V.int.injEq, V.bl.injEq, V.str.injEq, true_and, and_true, decide_eq_true_eq, List.cons.injEq, exists_eq_left, Bool.false_eq_true, if_false, if_true, ite_true, ite_false, Bool.not_eq_true', decide_eq_false_iff_not, Bool.not_not, tOst]
    exact ⟨C, T, nv, .inl ⟨ha, k⟩⟩
theorem bdiTooMany {f : Addr} {fd : FuncData} (F : FunD K "__init__" "TooMany.__init__" (defArgs s_iTooMany) (defBody s_iTooMany) (defScope s_iTooMany) [V.non] [] f fd) : Binds K fd ["self", "value"] [] ∧ (∃ ds, Vals [V.non] ds ∧ Binds K fd ["self", "value"] ds) ∧ ∀ (s : Shared) (u v : Value), K.In s.heap → BindsTo s fd ⟨[u], [("value", v)]⟩ [("self", u), ("value", v)] :=
  init_binds F (fun _ _ _ _ _ _ _ _ _ _ => ⟨_, rfl, rfl⟩) (fun _ _ _ _ _ _ _ _ _ => ⟨_, rfl, rfl⟩) (fun _ _ _ _ _ _ _ _ _ _ => ⟨_, rfl, rfl⟩)

theorem okIsWhole {f : Addr} {fd : FuncData} (F : Fun K "is_whole" "is_whole" s_IsWhole f fd) (T : Txt K mg) : FnOk P w K mg base CX0 1 f fd ["value"] (spWhole) := by
  refine F.ok scIsWhole (fun vs H Q E h => ?_) (fun cdv A outer s H vs Q E hr h => ?_)
  · obtain ⟨x, rfl, _⟩ := h
    rfl
  · obtain ⟨x, rfl, ⟨t, ht⟩, kk⟩ := h
    refine ⟨_, (pss_one (ps_ret (pe_and (pe_callB call_isi (by rfl) T.isinstance (by decide +kernel) (pa_cons (pv 0) (pa_cons (pe_bltn (v := .ty "int") (u := .type "int") (by rfl) T.int (by decide +kernel) rfl) pa_nil))) (pe_one (pe_not (pe_callB call_isi (by rfl) T.isinstance (by decide +kernel) (pa_cons (pv 0) (pa_cons (pe_bltn (v := .ty "bool") (u := .type "bool") (by rfl) T.bool (by decide +kernel) rfl) pa_nil)))))))), ?_⟩
    have e0 : start N_IsWhole [x] = [some x] := rfl
    rw [e0]
    obtain ⟨ty, hm, hi⟩ := tyS_of (K := K) ht
    simp only [cxK, wipe, tYes, List.map_cons, List.map_nil, rIxL, rSum, tSl, rSlL, tNoPart, tPart, exists_and_left, and_assoc, V.ref.injEq, HO.lst.injEq, HO.tup.injEq, tFor_eq, iRng1, iRng2, iList, iTup, tLc_eq, tLst, tTup, gSub, rSetL, gT, gL, gTup, gCons, gNil, atI_0, atI_1, atI_2, atI_3, List.length_cons, List.length_nil, Nat.zero_add, Nat.reduceAdd, Nat.reduceLeDiff, ixN_30, ixN_31, ixN_32, Int.reduceLT, Int.reduceLE, Int.reduceNeg, upd_same, reduceCtorEq, false_and, exists_false, or_false, false_or, tSeq, tNext, tIfS, tRet, tRetN, tDrop, tAsg, gName, tPar, tPar3, tAug, ipI, tVar, tC, tOp, tUn, tCB, tD, tDK, tCons, tNil, rI, rI0, rU, tB, tTest, tCallS, tErr, tAnd, tOr, tNot, tAndV, tOrV, tNotV, tIf, rEq, rNe, scal_ii, scal_bb, scal_ss, rGcd_eq, tBits, List.set_cons_zero, List.set_cons_succ, List.getElem?_cons_zero, List.getElem?_cons_succ, Option.some.injEq, exists_eq_left', V.int.injEq, V.bl.injEq, V.str.injEq, true_and, and_true, decide_eq_true_eq, List.cons.injEq, exists_eq_left, Bool.false_eq_true, if_false, if_true, ite_true, ite_false, Bool.not_eq_true', decide_eq_false_iff_not, Bool.not_not]
    simp only [List.mem_cons, List.not_mem_nil, or_false] at hm
    rw [hi] at kk
    rcases hm with rfl | rfl | rfl | rfl | rfl | rfl | rfl
    all_goals first
      | (refine rIsi_ty (b := true) ht (by decide +kernel) ?_; refine ⟨true, rfl, iteT ?_⟩; refine rIsi_ty (b := false) ht (by decide +kernel) ?_; exact ⟨false, rfl, kk⟩)
      | (refine rIsi_ty (b := true) ht (by decide +kernel) ?_; refine ⟨true, rfl, iteT ?_⟩; refine rIsi_ty (b := true) ht (by decide +kernel) ?_; exact ⟨true, rfl, kk⟩)
      | (refine rIsi_ty (b := false) ht (by decide +kernel) ?_; refine ⟨false, rfl, iteF kk⟩)

def InvWholes (H : Hp) (D : Addr) (xs : List V) : Nat → Hp → Prop := fun i H2 => Same H H2 ∧ H2 D = some (.lst ((xs.take i).map fun x => .bl (isIntV x)))

theorem okAreWholes {f : Addr} {fd : FuncData} (F : Fun K "are_wholes" "are_wholes" s_AreWholes f fd) (T : Txt K mg) {fIsWhole : Addr} {fdIsWhole : FuncData} (D_IsWhole : DefAt P w K mg base 1 "is_whole" fIsWhole fdIsWhole ["value"] (spWhole)) : FnOk P w K mg base CX0 2 f fd ["value", "many"] (spWholes) := by
  refine F.ok scAreWholes (fun vs H Q E h => ?_) (fun cdv A outer s H vs Q E hr h => ?_)
  · obtain ⟨x, m, rfl, _⟩ := h
    rfl
  · obtain ⟨x, m, rfl, hm, ⟨hO, hI⟩, kk⟩ := h
    refine ⟨_, (pss_cons (ps_if (PW.pt (pw_or (pt_not (pt_val (pe_callB call_isi (by rfl) T.isinstance (by decide +kernel) (pa_cons (pv 0) (pa_cons (pe_bltn (v := .ty "tuple") (u := .type "tuple") (by rfl) T.tuple (by decide +kernel) rfl) pa_nil))))) (pw_or1 (pt_cmpR op_ne (pe_callB lenT (by rfl) T.len (by decide +kernel) (pa_cons (pv 0) pa_nil)) (pv 1) (nomark _))))) (pss_one (ps_ret pe_bl)) pss_nil)
        (pss_one (ps_ret (pe_callB (cr_all rfl) (by rfl) T.all (by decide +kernel) (pa_cons (pe_lc (own := [("item", 2)]) (g := gName 2) (tt := tYes) rfl scAreWholes.nd (pi_tup (pv 0)) (blkOk_by (N := N_AreWholes) (sc := defScope s_AreWholes) (by decide +kernel)) (fun _ _ _ _ _ => pg_name (i := 2) scAreWholes.nd rfl (Or.inl rfl)) (fun _ _ _ _ _ => pts_nil) (fun _ _ _ _ _ => (pe_d D_IsWhole hr (pa_cons (pv 2) pa_nil)))) pa_nil))))), ?_⟩
    have e0 : start N_AreWholes [x, .int m] = [some x, some (.int m), none] := rfl
    rw [e0]
    simp only [cxK, wipe, tYes, List.map_cons, List.map_nil, rIxL, rSum, tSl, rSlL, tNoPart, tPart, exists_and_left, and_assoc, V.ref.injEq, HO.lst.injEq, HO.tup.injEq, tFor_eq, iRng1, iRng2, iList, iTup, tLc_eq, tLst, tTup, gSub, rSetL, gT, gL, gTup, gCons, gNil, atI_0, atI_1, atI_2, atI_3, List.length_cons, List.length_nil, Nat.zero_add, Nat.reduceAdd, Nat.reduceLeDiff, ixN_30, ixN_31, ixN_32, Int.reduceLT, Int.reduceLE, Int.reduceNeg, upd_same, reduceCtorEq, false_and, exists_false, or_false, false_or, tSeq, tNext, tIfS, tRet, tRetN, tDrop, tAsg, gName, tPar, tPar3, tAug, ipI, tVar, tC, tOp, tUn, tCB, tD, tDK, tCons, tNil, rI, rI0, rU, tB, tTest, tCallS, tErr, tAnd, tOr, tNot, tAndV, tOrV, tNotV, tIf, rEq, rNe, scal_ii, scal_bb, scal_ss, rGcd_eq, tBits, List.set_cons_zero, List.set_cons_succ, List.getElem?_cons_zero, List.getElem?_cons_succ, Option.some.injEq, exists_eq_left', V.int.injEq, V.bl.injEq, V.str.injEq, true_and, and_true, decide_eq_true_eq, List.cons.injEq, exists_eq_left, Bool.false_eq_true, if_false, if_true, ite_true, ite_false, Bool.not_eq_true', decide_eq_false_iff_not, Bool.not_not]
    rcases any_tuple K hO with ⟨t, ht, hb, hne⟩ | ⟨a, xs, rfl, ha⟩
    · refine rIsi_ty ht hb ⟨false, rfl, ?_⟩
      rw [if_pos rfl]
      rw [wholes_not ht hne] at kk
      exact kk _ (Same.refl _)
    · refine rIsi_ty (b := true) (tyS_tup ha) (by decide +kernel) ⟨true, rfl, ?_⟩
      rw [if_neg (by decide)]
      rw [wholes_tup ha] at kk
      simp only [cxK, wipe, tYes, List.map_cons, List.map_nil, rIxL, rSum, tSl, rSlL, tNoPart, tPart, exists_and_left, and_assoc, V.ref.injEq, HO.lst.injEq, HO.tup.injEq, tFor_eq, iRng1, iRng2, iList, iTup, tLc_eq, tLst, tTup, gSub, rSetL, gT, gL, gTup, gCons, gNil, atI_0, atI_1, atI_2, atI_3, List.length_cons, List.length_nil, Nat.zero_add, Nat.reduceAdd, Nat.reduceLeDiff, ixN_30, ixN_31, ixN_32, Int.reduceLT, Int.reduceLE, Int.reduceNeg, upd_same, reduceCtorEq, false_and, exists_false, or_false, false_or, tSeq, tNext, tIfS, tRet, tRetN, tDrop, tAsg, gName, tPar, tPar3, tAug, ipI, tVar, tC, tOp, tUn, tCB, tD, tDK, tCons, tNil, rI, rI0, rU, tB, tTest, tCallS, tErr, tAnd, tOr, tNot, tAndV, tOrV, tNotV, tIf, rEq, rNe, scal_ii, scal_bb, scal_ss, rGcd_eq, tBits, List.set_cons_zero, List.set_cons_succ, List.getElem?_cons_zero, List.getElem?_cons_succ, Option.some.injEq, exists_eq_left', V.int.injEq, V.bl.injEq, V.str.injEq, true_and, and_true, decide_eq_true_eq, List.cons.injEq, exists_eq_left, Bool.false_eq_true, if_false, if_true, ite_true, ite_false, Bool.not_eq_true', decide_eq_false_iff_not, Bool.not_not, ha]
      refine ite2 (fun hn => ?_) (fun hn => ?_)
      · rw [decide_eq_false hn, Bool.false_and] at kk
        exact kk _ (Same.refl _)
      · have hn2 := Decidable.not_not.mp hn
        rw [decide_eq_true hn2, Bool.true_and] at kk
        refine ⟨⟨_, SqT.of ha⟩, fun Dd nD => ?_⟩
        refine lcW_tup (xs := xs) (InvWholes H Dd xs) ⟨Same.upd nD, upd_same⟩ (fun i H2 _ z => SqT.of (z.1 _ _ ha)) ?_ ?_
        · rintro i x H2 hx ⟨s2, e2⟩
          refine ⟨rfl, ?_⟩
          have hmem : x ∈ xs := List.mem_of_getElem? hx
          simp only [cxK, wipe, tYes, List.map_cons, List.map_nil, rIxL, rSum, tSl, rSlL, tNoPart, tPart, exists_and_left, and_assoc, V.ref.injEq, HO.lst.injEq, HO.tup.injEq, tFor_eq, iRng1, iRng2, iList, iTup, tLc_eq, tLst, tTup, gSub, rSetL, gT, gL, gTup, gCons, gNil, atI_0, atI_1, atI_2, atI_3, List.length_cons, List.length_nil, Nat.zero_add, Nat.reduceAdd, Nat.reduceLeDiff, ixN_30, ixN_31, ixN_32, Int.reduceLT, Int.reduceLE, Int.reduceNeg, upd_same, reduceCtorEq, false_and, exists_false, or_false, false_or, tSeq, tNext, tIfS, tRet, tRetN, tDrop, tAsg, gName, tPar, tPar3, tAug, ipI, tVar, tC, tOp, tUn, tCB, tD, tDK, tCons, tNil, rI, rI0, rU, tB, tTest, tCallS, tErr, tAnd, tOr, tNot, tAndV, tOrV, tNotV, tIf, rEq, rNe, scal_ii, scal_bb, scal_ss, rGcd_eq, tBits, List.set_cons_zero, List.set_cons_succ, List.getElem?_cons_zero, List.getElem?_cons_succ, Option.some.injEq, exists_eq_left', V.int.injEq, V.bl.injEq, V.str.injEq, true_and, and_true, decide_eq_true_eq, List.cons.injEq, exists_eq_left, Bool.false_eq_true, if_false, if_true, ite_true, ite_false, Bool.not_eq_true', decide_eq_false_iff_not, Bool.not_not]
          refine ⟨x, rfl, (hI a xs rfl ha x hmem).same s2, ?_⟩
          refine ⟨_, e2, small1000 ?_, Same.upd2 s2 nD, ?_⟩
          · rw [List.length_map, List.length_take]
            omega
          · have e3 : xs.take (i + 1) = xs.take i ++ [x] := by rw [List.take_succ, hx]; rfl
            rw [upd_same, e3, List.map_append]
            rfl
        · rintro H2 ⟨s2, e2⟩
          refine ⟨Dd, xs.map isIntV, rfl, SqL.of ?_, ?_⟩
          · rw [e2, List.take_length, List.map_map]
            rfl
          · rw [List.all_map]
            exact kk _ s2

theorem okIsMeasure {f : Addr} {fd : FuncData} (F : Fun K "is_measure" "is_measure" s_IsMeasure f fd) (T : Txt K mg) {fIsWhole : Addr} {fdIsWhole : FuncData} (D_IsWhole : DefAt P w K mg base 1 "is_whole" fIsWhole fdIsWhole ["value"] (spWhole)) : FnOk P w K mg base CX0 2 f fd ["value"] (spIsMeasure) := by
  refine F.ok scIsMeasure (fun vs H Q E h => ?_) (fun cdv A outer s H vs Q E hr h => ?_)
  · obtain ⟨x, rfl, _⟩ := h
    rfl
  · obtain ⟨x, rfl, hO, kk⟩ := h
    refine ⟨_, (pss_one (ps_ret (pe_and (pe_d D_IsWhole hr (pa_cons (pv 0) pa_nil)) (pe_and (pe_cmpR op_ge (pv 0) pe_int (nomark _)) (pe_one (pe_cmpR op_lt (pe_op op_mod (pv 0) pe_int) pe_int (nomark _))))))), ?_⟩
    have e0 : start N_IsMeasure [x] = [some x] := rfl
    rw [e0]
    simp only [cxK, wipe, tYes, List.map_cons, List.map_nil, rIxL, rSum, tSl, rSlL, tNoPart, tPart, exists_and_left, and_assoc, V.ref.injEq, HO.lst.injEq, HO.tup.injEq, tFor_eq, iRng1, iRng2, iList, iTup, tLc_eq, tLst, tTup, gSub, rSetL, gT, gL, gTup, gCons, gNil, atI_0, atI_1, atI_2, atI_3, List.length_cons, List.length_nil, Nat.zero_add, Nat.reduceAdd, Nat.reduceLeDiff, ixN_30, ixN_31, ixN_32, Int.reduceLT, Int.reduceLE, Int.reduceNeg, upd_same, reduceCtorEq, false_and, exists_false, or_false, false_or, tSeq, tNext, tIfS, tRet, tRetN, tDrop, tAsg, gName, tPar, tPar3, tAug, ipI, tVar, tC, tOp, tUn, tCB, tD, tDK, tCons, tNil, rI, rI0, rU, tB, tTest, tCallS, tErr, tAnd, tOr, tNot, tAndV, tOrV, tNotV, tIf, rEq, rNe, scal_ii, scal_bb, scal_ss, rGcd_eq, tBits, List.set_cons_zero, List.set_cons_succ, List.getElem?_cons_zero, List.getElem?_cons_succ, Option.some.injEq, exists_eq_left', V.int.injEq, V.bl.injEq, V.str.injEq, true_and, and_true, decide_eq_true_eq, List.cons.injEq, exists_eq_left, Bool.false_eq_true, if_false, if_true, ite_true, ite_false, Bool.not_eq_true', decide_eq_false_iff_not, Bool.not_not]
    refine ⟨x, rfl, hO, isIntV x, rfl, ?_⟩
    cases x with
    | int i =>
      refine iteT ⟨i, rfl, ite2 (fun h5 => ⟨i, rfl, ?_⟩) (fun h5 => ?_)⟩
      · have e : measB (.int i) = decide (i % 4 < 2) := by rw [measB_int, decide_eq_true h5, Bool.true_and]
        rw [e] at kk
        exact kk
      · have e : measB (.int i) = false := by rw [measB_int, decide_eq_false h5, Bool.false_and]
        rw [e] at kk
        exact kk
    | _ => exact iteF kk

theorem okCheckMeasure {f : Addr} {fd : FuncData} (F : Fun K "check_measure" "check_measure" s_CheckMeasure f fd) (T : Txt K mg) {C_InvalidMeasure f_InvalidMeasure : Addr} {fd_InvalidMeasure : FuncData} (E_InvalidMeasure : ErrN P w K mg base "InvalidMeasure" C_InvalidMeasure f_InvalidMeasure fd_InvalidMeasure) {fIsMeasure : Addr} {fdIsMeasure : FuncData} (D_IsMeasure : DefAt P w K mg base 2 "is_measure" fIsMeasure fdIsMeasure ["value"] (spIsMeasure)) : FnOk P w K mg base CX0 3 f fd ["measure"] (spCheckMeasure0) := by
  refine F.ok scCheckMeasure (fun vs H Q E h => ?_) (fun cdv A outer s H vs Q E hr h => ?_)
  · obtain ⟨D, rfl, _⟩ := h
    rfl
  · obtain ⟨D, rfl, ⟨h1, h2⟩, kk⟩ := h
    refine ⟨_, (pss_one (ps_if (pt_not (pt_val (pe_d D_IsMeasure hr (pa_cons (pv 0) pa_nil)))) (pss_one ps_never) pss_nil)), ?_⟩
    have e0 : start N_CheckMeasure [.int D] = [some (.int D)] := rfl
    rw [e0]
    simp only [cxK, wipe, tYes, List.map_cons, List.map_nil, rIxL, rSum, tSl, rSlL, tNoPart, tPart, exists_and_left, and_assoc, V.ref.injEq, HO.lst.injEq, HO.tup.injEq, tFor_eq, iRng1, iRng2, iList, iTup, tLc_eq, tLst, tTup, gSub, rSetL, gT, gL, gTup, gCons, gNil, atI_0, atI_1, atI_2, atI_3, List.length_cons, List.length_nil, Nat.zero_add, Nat.reduceAdd, Nat.reduceLeDiff, ixN_30, ixN_31, ixN_32, Int.reduceLT, Int.reduceLE, Int.reduceNeg, upd_same, reduceCtorEq, false_and, exists_false, or_false, false_or, tSeq, tNext, tIfS, tRet, tRetN, tDrop, tAsg, gName, tPar, tPar3, tAug, ipI, tVar, tC, tOp, tUn, tCB, tD, tDK, tCons, tNil, rI, rI0, rU, tB, tTest, tCallS, tErr, tAnd, tOr, tNot, tAndV, tOrV, tNotV, tIf, rEq, rNe, scal_ii, scal_bb, scal_ss, rGcd_eq, tBits, List.set_cons_zero, List.set_cons_succ, List.getElem?_cons_zero, List.getElem?_cons_succ, Option.some.injEq, exists_eq_left', V.int.injEq, V.bl.injEq, V.str.injEq, true_and, and_true, decide_eq_true_eq, List.cons.injEq, exists_eq_left, Bool.false_eq_true, if_false, if_true, ite_true, ite_false, Bool.not_eq_true', decide_eq_false_iff_not, Bool.not_not]
    have e : measB (.int D) = true := by rw [measB_int, decide_eq_true h1, decide_eq_true h2]; rfl
    refine ⟨.int D, rfl, ⟨"int", rfl⟩, ?_⟩
    rw [e]
    refine ⟨true, rfl, ?_⟩
    rw [if_neg (by decide)]
    exact kk

theorem okAreWithoutDivisor {f : Addr} {fd : FuncData} (F : Fun K "_are_without_divisor" "_are_without_divisor" s_AreWithoutDivisor f fd) (T : Txt K mg) : FnOk P w K mg base CX0 1 f fd ["one", "other", "third"] (spApart) := by
  refine F.ok scAreWithoutDivisor (fun vs H Q E h => ?_) (fun cdv A outer s H vs Q E hr h => ?_)
  · obtain ⟨a, b, c, rfl, _⟩ := h
    rfl
  · obtain ⟨a, b, c, rfl, kk⟩ := h
    refine ⟨_, (pss_one (ps_ret (pe_cmpR op_eq (pe_callBfun cr_gcd (by rfl) T.gcd (pa_cons (pe_callBfun cr_gcd (by rfl) T.gcd (pa_cons (pv 0) (pa_cons (pv 1) pa_nil))) (pa_cons (pv 2) pa_nil))) pe_int (nomark _)))), ?_⟩
    have e0 : start N_AreWithoutDivisor [.int a, .int b, .int c] = [some (.int a), some (.int b), some (.int c)] := rfl
    rw [e0]
    simp only [cxK, wipe, tYes, List.map_cons, List.map_nil, rIxL, rSum, tSl, rSlL, tNoPart, tPart, exists_and_left, and_assoc, V.ref.injEq, HO.lst.injEq, HO.tup.injEq, tFor_eq, iRng1, iRng2, iList, iTup, tLc_eq, tLst, tTup, gSub, rSetL, gT, gL, gTup, gCons, gNil, atI_0, atI_1, atI_2, atI_3, List.length_cons, List.length_nil, Nat.zero_add, Nat.reduceAdd, Nat.reduceLeDiff, ixN_30, ixN_31, ixN_32, Int.reduceLT, Int.reduceLE, Int.reduceNeg, upd_same, reduceCtorEq, false_and, exists_false, or_false, false_or, tSeq, tNext, tIfS, tRet, tRetN, tDrop, tAsg, gName, tPar, tPar3, tAug, ipI, tVar, tC, tOp, tUn, tCB, tD, tDK, tCons, tNil, rI, rI0, rU, tB, tTest, tCallS, tErr, tAnd, tOr, tNot, tAndV, tOrV, tNotV, tIf, rEq, rNe, scal_ii, scal_bb, scal_ss, rGcd_eq, tBits, List.set_cons_zero, List.set_cons_succ, List.getElem?_cons_zero, List.getElem?_cons_succ, Option.some.injEq, exists_eq_left', V.int.injEq, V.bl.injEq, V.str.injEq, true_and, and_true, decide_eq_true_eq, List.cons.injEq, exists_eq_left, Bool.false_eq_true, if_false, if_true, ite_true, ite_false, Bool.not_eq_true', decide_eq_false_iff_not, Bool.not_not]
    exact kk

theorem okIsCutting {f : Addr} {fd : FuncData} (F : Fun K "is_cutting" "is_cutting" s_IsCutting f fd) (T : Txt K mg) {fAreWholes : Addr} {fdAreWholes : FuncData} (D_AreWholes : DefAt P w K mg base 2 "are_wholes" fAreWholes fdAreWholes ["value", "many"] (spWholes)) {fAreWithoutDivisor : Addr} {fdAreWithoutDivisor : FuncData} (D_AreWithoutDivisor : DefAt P w K mg base 1 "_are_without_divisor" fAreWithoutDivisor fdAreWithoutDivisor ["one", "other", "third"] (spApart)) : FnOk P w K mg base CX0 3 f fd ["value"] (spIsCutting) := by
  refine F.ok scIsCutting (fun vs H Q E h => ?_) (fun cdv A outer s H vs Q E hr h => ?_)
  · obtain ⟨x, rfl, _⟩ := h
    rfl
  · obtain ⟨x, rfl, hV, kk⟩ := h
    refine ⟨_, (pss_cons (ps_if (pt_not (pt_val (pe_d D_AreWholes hr (pa_cons (pv 0) (pa_cons pe_int pa_nil))))) (pss_one (ps_ret pe_bl)) pss_nil)
        (pss_cons (ps_asg (pv 0) (pg_tupT 4 rfl (pgs_cons (pg_name (i := 1) scIsCutting.nd rfl (Or.inl rfl)) (pgs_cons (pg_name (i := 2) scIsCutting.nd rfl (Or.inl rfl)) (pgs_cons (pg_name (i := 3) scIsCutting.nd rfl (Or.inl rfl)) (pgs_cons (pg_name (i := 4) scIsCutting.nd rfl (Or.inl rfl)) pgs_nil))))))
        (pss_cons (ps_if (PW.pt (pw_or (pt_cmpR op_lt (pv 2) pe_int (nomark _)) (pw_or (pt_cmpR op_lt (pv 3) pe_int (nomark _)) (pw_or1 (pt_cmpR op_ge (pe_op op_add (pv 3) (pv 4)) (pv 2) (nomark _)))))) (pss_one (ps_ret pe_bl)) pss_nil)
        (pss_cons (ps_set (i := 5) scIsCutting.nd rfl (Or.inl rfl) (pe_callBfun cr_gcd (by rfl) T.gcd (pa_cons (pv 2) (pa_cons (pv 3) pa_nil))))
        (pss_one (ps_ret (pe_and (pe_chain op_le op_lt pe_int (pv 1) (pv 5)) (pe_one (pe_d D_AreWithoutDivisor hr (pa_cons (pv 1) (pa_cons (pv 5) (pa_cons (pv 4) pa_nil)))))))))))), ?_⟩
    have e0 : start N_IsCutting [x] = [some x, none, none, none, none, none] := rfl
    rw [e0]
    simp only [cxK, wipe, tYes, List.map_cons, List.map_nil, rIxL, rSum, tSl, rSlL, tNoPart, tPart, exists_and_left, and_assoc, V.ref.injEq, HO.lst.injEq, HO.tup.injEq, tFor_eq, iRng1, iRng2, iList, iTup, tLc_eq, tLst, tTup, gSub, rSetL, gT, gL, gTup, gCons, gNil, atI_0, atI_1, atI_2, atI_3, List.length_cons, List.length_nil, Nat.zero_add, Nat.reduceAdd, Nat.reduceLeDiff, ixN_30, ixN_31, ixN_32, Int.reduceLT, Int.reduceLE, Int.reduceNeg, upd_same, reduceCtorEq, false_and, exists_false, or_false, false_or, tSeq, tNext, tIfS, tRet, tRetN, tDrop, tAsg, gName, tPar, tPar3, tAug, ipI, tVar, tC, tOp, tUn, tCB, tD, tDK, tCons, tNil, rI, rI0, rU, tB, tTest, tCallS, tErr, tAnd, tOr, tNot, tAndV, tOrV, tNotV, tIf, rEq, rNe, scal_ii, scal_bb, scal_ss, rGcd_eq, tBits, List.set_cons_zero, List.set_cons_succ, List.getElem?_cons_zero, List.getElem?_cons_succ, Option.some.injEq, exists_eq_left', V.int.injEq, V.bl.injEq, V.str.injEq, true_and, and_true, decide_eq_true_eq, List.cons.injEq, exists_eq_left, Bool.false_eq_true, if_false, if_true, ite_true, ite_false, Bool.not_eq_true', decide_eq_false_iff_not, Bool.not_not]
    refine ⟨x, 4, rfl, by decide, hV, fun H1 s1 => ⟨_, rfl, ?_⟩⟩
    cases hw : wholesB H 4 x with
    | false =>
      rw [if_pos rfl]
      rw [cutB_not hw] at kk
      exact kk _ s1
    | true =>
      rw [if_neg (by decide)]
      obtain ⟨p, a, b, c, e, rfl, ha⟩ := wholes4 hw
      rw [cutB4 ha] at kk
      have e1 := s1 _ _ ha
      simp only [cxK, wipe, tYes, List.map_cons, List.map_nil, rIxL, rSum, tSl, rSlL, tNoPart, tPart, exists_and_left, and_assoc, V.ref.injEq, HO.lst.injEq, HO.tup.injEq, tFor_eq, iRng1, iRng2, iList, iTup, tLc_eq, tLst, tTup, gSub, rSetL, gT, gL, gTup, gCons, gNil, atI_0, atI_1, atI_2, atI_3, List.length_cons, List.length_nil, Nat.zero_add, Nat.reduceAdd, Nat.reduceLeDiff, ixN_30, ixN_31, ixN_32, Int.reduceLT, Int.reduceLE, Int.reduceNeg, upd_same, reduceCtorEq, false_and, exists_false, or_false, false_or, tSeq, tNext, tIfS, tRet, tRetN, tDrop, tAsg, gName, tPar, tPar3, tAug, ipI, tVar, tC, tOp, tUn, tCB, tD, tDK, tCons, tNil, rI, rI0, rU, tB, tTest, tCallS, tErr, tAnd, tOr, tNot, tAndV, tOrV, tNotV, tIf, rEq, rNe, scal_ii, scal_bb, scal_ss, rGcd_eq, tBits, List.set_cons_zero, List.set_cons_succ, List.getElem?_cons_zero, List.getElem?_cons_succ, Option.some.injEq, exists_eq_left', V.int.injEq, V.bl.injEq, V.str.injEq, true_and, and_true, decide_eq_true_eq, List.cons.injEq, exists_eq_left, Bool.false_eq_true, if_false, if_true, ite_true, ite_false, Bool.not_eq_true', decide_eq_false_iff_not, Bool.not_not, e1]
      unfold CutOk at kk
      refine ite2 (fun h1 => ?_) (fun h1 => ?_)
      · rw [decide_eq_false (show ¬ 1 ≤ b by omega), Bool.false_and] at kk
        exact kk _ s1
      · rw [decide_eq_true (show 1 ≤ b by omega), Bool.true_and] at kk
        refine ite2 (fun h2 => ?_) (fun h2 => ?_)
        · rw [decide_eq_false (show ¬ 1 ≤ c by omega), Bool.false_and] at kk
          exact kk _ s1
        · rw [decide_eq_true (show 1 ≤ c by omega), Bool.true_and] at kk
          refine ite2 (fun h3 => ?_) (fun h3 => ?_)
          · rw [decide_eq_false (show ¬ c + e < b by omega), Bool.false_and] at kk
            exact kk _ s1
          · rw [decide_eq_true (show c + e < b by omega), Bool.true_and] at kk
            simp only [cxK, wipe, tYes, List.map_cons, List.map_nil, rIxL, rSum, tSl, rSlL, tNoPart, tPart, exists_and_left, and_assoc, V.ref.injEq, HO.lst.injEq, HO.tup.injEq, tFor_eq, iRng1, iRng2, iList, iTup, tLc_eq, tLst, tTup, gSub, rSetL, gT, gL, gTup, gCons, gNil, atI_0, atI_1, atI_2, atI_3, List.length_cons, List.length_nil, Nat.zero_add, Nat.reduceAdd, Nat.reduceLeDiff, ixN_30, ixN_31, ixN_32, Int.reduceLT, Int.reduceLE, Int.reduceNeg, upd_same, reduceCtorEq, false_and, exists_false, or_false, false_or, tSeq, tNext, tIfS, tRet, tRetN, tDrop, tAsg, gName, tPar, tPar3, tAug, ipI, tVar, tC, tOp, tUn, tCB, tD, tDK, tCons, tNil, rI, rI0, rU, tB, tTest, tCallS, tErr, tAnd, tOr, tNot, tAndV, tOrV, tNotV, tIf, rEq, rNe, scal_ii, scal_bb, scal_ss, rGcd_eq, tBits, List.set_cons_zero, List.set_cons_succ, List.getElem?_cons_zero, List.getElem?_cons_succ, Option.some.injEq, exists_eq_left', V.int.injEq, V.bl.injEq, V.str.injEq, true_and, and_true, decide_eq_true_eq, List.cons.injEq, exists_eq_left, Bool.false_eq_true, if_false, if_true, ite_true, ite_false, Bool.not_eq_true', decide_eq_false_iff_not, Bool.not_not, tChain]
            refine ite2 (fun h4 => ?_) (fun h4 => ?_)
            · rw [decide_eq_true h4, Bool.true_and] at kk
              refine ite2 (fun h5 => ?_) (fun h5 => ?_)
              · rw [decide_eq_true h5, Bool.true_and] at kk
                exact ⟨a, gcdI b c, e, rfl, kk _ s1⟩
              · rw [decide_eq_false h5, Bool.false_and] at kk
                exact kk _ s1
            · rw [decide_eq_false h4, Bool.false_and] at kk
              exact kk _ s1

theorem okLawMeasure {f : Addr} {fd : FuncData} (F : Fun K "_law_measure" "_law_measure" s_LawMeasure f fd) (T : Txt K mg) : FnOk P w K mg base CX0 1 f fd ["_law_cutting"] (spLawMeasure4) := by
  refine F.ok scLawMeasure (fun vs H Q E h => ?_) (fun cdv A outer s H vs Q E hr h => ?_)
  · obtain ⟨p, q, rfl, _⟩ := h
    rfl
  · obtain ⟨p, q, rfl, hC, hz, kk⟩ := h
    refine ⟨_, (pss_one (ps_ret (pe_op op_add (pe_op op_mulU (pe_ix ixT (pv 0) pe_int (fun _ _ => rfl)) (pe_ix ixT (pv 0) pe_int (fun _ _ => rfl))) (pe_op op_mulU (pe_op op_mulU pe_int (pe_ix ixT (pv 0) pe_int (fun _ _ => rfl))) (pe_ix ixT (pv 0) pe_int (fun _ _ => rfl)))))), ?_⟩
    have e0 : start N_LawMeasure [.ref p] = [some (.ref p)] := rfl
    rw [e0]
    have e1 : H p = some (.tup [.int q.1, .int q.2.1, .int q.2.2.1, .int q.2.2.2]) := hC
    simp only [cxK, wipe, tYes, List.map_cons, List.map_nil, rIxL, rSum, tSl, rSlL, tNoPart, tPart, exists_and_left, and_assoc, V.ref.injEq, HO.lst.injEq, HO.tup.injEq, tFor_eq, iRng1, iRng2, iList, iTup, tLc_eq, tLst, tTup, gSub, rSetL, gT, gL, gTup, gCons, gNil, atI_0, atI_1, atI_2, atI_3, List.length_cons, List.length_nil, Nat.zero_add, Nat.reduceAdd, Nat.reduceLeDiff, ixN_30, ixN_31, ixN_32, Int.reduceLT, Int.reduceLE, Int.reduceNeg, upd_same, reduceCtorEq, false_and, exists_false, or_false, false_or, tSeq, tNext, tIfS, tRet, tRetN, tDrop, tAsg, gName, tPar, tPar3, tAug, ipI, tVar, tC, tOp, tUn, tCB, tD, tDK, tCons, tNil, rI, rI0, rU, tB, tTest, tCallS, tErr, tAnd, tOr, tNot, tAndV, tOrV, tNotV, tIf, rEq, rNe, scal_ii, scal_bb, scal_ss, rGcd_eq, tBits, List.set_cons_zero, List.set_cons_succ, List.getElem?_cons_zero, List.getElem?_cons_succ, Option.some.injEq, exists_eq_left', V.int.injEq, V.bl.injEq, V.str.injEq, true_and, and_true, decide_eq_true_eq, List.cons.injEq, exists_eq_left, Bool.false_eq_true, if_false, if_true, ite_true, ite_false, Bool.not_eq_true', decide_eq_false_iff_not, Bool.not_not, e1]
    obtain ⟨z1, z2, z3, z4⟩ := hz
    exact ⟨okm z4 z4 (by decide) (by decide), okm (n := 3) (by decide) z2 (by decide) (by decide), okm (wide_lt (show (4 : Int).natAbs < 2 ^ 3 by decide) z2) z3 (by decide) (by decide), kk⟩

theorem okLawIsCutting {f : Addr} {fd : FuncData} (F : Fun K "_law_is_cutting" "_law_is_cutting" s_LawIsCutting f fd) (T : Txt K mg) {fLawCommon : Addr} {fdLawCommon : FuncData} (D_LawCommon : DefAt P w K mg base 1 "_law_common" fLawCommon fdLawCommon ["_law_one", "_law_other"] (spCommon)) : FnOk P w K mg base CX0 2 f fd ["_law_a", "_law_b", "_law_c", "_law_e"] (spLawIsCutting) := by
  refine F.ok scLawIsCutting (fun vs H Q E h => ?_) (fun cdv A outer s H vs Q E hr h => ?_)
  · obtain ⟨a, b, c, e, rfl, _⟩ := h
    rfl
  · obtain ⟨a, b, c, e, rfl, kk⟩ := h
    refine ⟨_, (pss_cons (ps_if (PW.pt (pw_or (pt_cmpR op_lt (pv 1) pe_int (nomark _)) (pw_or (pt_cmpR op_lt (pv 2) pe_int (nomark _)) (pw_or (pt_cmpR op_ge (pe_op op_add (pv 2) (pv 3)) (pv 1) (nomark _)) (pw_or1 (pt_not (pt_chain op_le op_lt pe_int (pv 0) (pe_d D_LawCommon hr (pa_cons (pv 1) (pa_cons (pv 2) pa_nil)))))))))) (pss_one (ps_ret pe_bl)) pss_nil)
        (pss_one (ps_ret (pe_cmpR op_eq (pe_d D_LawCommon hr (pa_cons (pe_d D_LawCommon hr (pa_cons (pv 0) (pa_cons (pv 1) pa_nil))) (pa_cons (pe_d D_LawCommon hr (pa_cons (pv 2) (pa_cons (pv 3) pa_nil))) pa_nil))) pe_int (nomark _))))), ?_⟩
    have e0 : start N_LawIsCutting [.int a, .int b, .int c, .int e] = [some (.int a), some (.int b), some (.int c), some (.int e)] := rfl
    rw [e0]
    simp only [cxK, wipe, tYes, List.map_cons, List.map_nil, rIxL, rSum, tSl, rSlL, tNoPart, tPart, exists_and_left, and_assoc, V.ref.injEq, HO.lst.injEq, HO.tup.injEq, tFor_eq, iRng1, iRng2, iList, iTup, tLc_eq, tLst, tTup, gSub, rSetL, gT, gL, gTup, gCons, gNil, atI_0, atI_1, atI_2, atI_3, List.length_cons, List.length_nil, Nat.zero_add, Nat.reduceAdd, Nat.reduceLeDiff, ixN_30, ixN_31, ixN_32, Int.reduceLT, Int.reduceLE, Int.reduceNeg, upd_same, reduceCtorEq, false_and, exists_false, or_false, false_or, tSeq, tNext, tIfS, tRet, tRetN, tDrop, tAsg, gName, tPar, tPar3, tAug, ipI, tVar, tC, tOp, tUn, tCB, tD, tDK, tCons, tNil, rI, rI0, rU, tB, tTest, tCallS, tErr, tAnd, tOr, tNot, tAndV, tOrV, tNotV, tIf, rEq, rNe, scal_ii, scal_bb, scal_ss, rGcd_eq, tBits, List.set_cons_zero, List.set_cons_succ, List.getElem?_cons_zero, List.getElem?_cons_succ, Option.some.injEq, exists_eq_left', V.int.injEq, V.bl.injEq, V.str.injEq, true_and, and_true, decide_eq_true_eq, List.cons.injEq, exists_eq_left, Bool.false_eq_true, if_false, if_true, ite_true, ite_false, Bool.not_eq_true', decide_eq_false_iff_not, Bool.not_not]
    unfold CutOk at kk
    refine ite2 (fun h1 => ?_) (fun h1 => ?_)
    · rw [decide_eq_false (show ¬ 1 ≤ b by omega), Bool.false_and] at kk
      exact kk
    · rw [decide_eq_true (show 1 ≤ b by omega), Bool.true_and] at kk
      refine ite2 (fun h2 => ?_) (fun h2 => ?_)
      · rw [decide_eq_false (show ¬ 1 ≤ c by omega), Bool.false_and] at kk
        exact kk
      · rw [decide_eq_true (show 1 ≤ c by omega), Bool.true_and] at kk
        refine ite2 (fun h3 => ?_) (fun h3 => ?_)
        · rw [decide_eq_false (show ¬ c + e < b by omega), Bool.false_and] at kk
          exact kk
        · rw [decide_eq_true (show c + e < b by omega), Bool.true_and] at kk
          simp only [cxK, wipe, tYes, List.map_cons, List.map_nil, rIxL, rSum, tSl, rSlL, tNoPart, tPart, exists_and_left, and_assoc, V.ref.injEq, HO.lst.injEq, HO.tup.injEq, tFor_eq, iRng1, iRng2, iList, iTup, tLc_eq, tLst, tTup, gSub, rSetL, gT, gL, gTup, gCons, gNil, atI_0, atI_1, atI_2, atI_3, List.length_cons, List.length_nil, Nat.zero_add, Nat.reduceAdd, Nat.reduceLeDiff, ixN_30, ixN_31, ixN_32, Int.reduceLT, Int.reduceLE, Int.reduceNeg, upd_same, reduceCtorEq, false_and, exists_false, or_false, false_or, tSeq, tNext, tIfS, tRet, tRetN, tDrop, tAsg, gName, tPar, tPar3, tAug, ipI, tVar, tC, tOp, tUn, tCB, tD, tDK, tCons, tNil, rI, rI0, rU, tB, tTest, tCallS, tErr, tAnd, tOr, tNot, tAndV, tOrV, tNotV, tIf, rEq, rNe, scal_ii, scal_bb, scal_ss, rGcd_eq, tBits, List.set_cons_zero, List.set_cons_succ, List.getElem?_cons_zero, List.getElem?_cons_succ, Option.some.injEq, exists_eq_left', V.int.injEq, V.bl.injEq, V.str.injEq, true_and, and_true, decide_eq_true_eq, List.cons.injEq, exists_eq_left, Bool.false_eq_true, if_false, if_true, ite_true, ite_false, Bool.not_eq_true', decide_eq_false_iff_not, Bool.not_not, tChain]
          refine ite2 (fun h4 => ?_) (fun h4 => ?_)
          · rw [decide_eq_true h4, Bool.true_and] at kk
            refine ⟨b, c, rfl, _, rfl, ite2 (fun h5 => ?_) (fun h5 => ?_)⟩
            · rw [decide_eq_false h5, Bool.false_and] at kk
              exact kk
            · rw [decide_eq_true (Decidable.not_not.mp h5), Bool.true_and] at kk
              refine ⟨a, b, rfl, c, e, rfl, _, _, rfl, ?_⟩
              simp only [cxK, wipe, tYes, List.map_cons, List.map_nil, rIxL, rSum, tSl, rSlL, tNoPart, tPart, exists_and_left, and_assoc, V.ref.injEq, HO.lst.injEq, HO.tup.injEq, tFor_eq, iRng1, iRng2, iList, iTup, tLc_eq, tLst, tTup, gSub, rSetL, gT, gL, gTup, gCons, gNil, atI_0, atI_1, atI_2, atI_3, List.length_cons, List.length_nil, Nat.zero_add, Nat.reduceAdd, Nat.reduceLeDiff, ixN_30, ixN_31, ixN_32, Int.reduceLT, Int.reduceLE, Int.reduceNeg, upd_same, reduceCtorEq, false_and, exists_false, or_false, false_or, tSeq, tNext, tIfS, tRet, tRetN, tDrop, tAsg, gName, tPar, tPar3, tAug, ipI, tVar, tC, tOp, tUn, tCB, tD, tDK, tCons, tNil, rI, rI0, rU, tB, tTest, tCallS, tErr, tAnd, tOr, tNot, tAndV, tOrV, tNotV, tIf, rEq, rNe, scal_ii, scal_bb, scal_ss, rGcd_eq, tBits, List.set_cons_zero, List.set_cons_succ, List.getElem?_cons_zero, List.getElem?_cons_succ, Option.some.injEq, exists_eq_left', V.int.injEq, V.bl.injEq, V.str.injEq, true_and, and_true, decide_eq_true_eq, List.cons.injEq, exists_eq_left, Bool.false_eq_true, if_false, if_true, ite_true, ite_false, Bool.not_eq_true', decide_eq_false_iff_not, Bool.not_not]
              rw [gcd4]
              exact kk
          · rw [decide_eq_false h4, Bool.false_and] at kk
            exact kk

theorem okFirsts {f : Addr} {fd : FuncData} (F : Fun K "_firsts" "_firsts" s_Firsts f fd) (T : Txt K mg) {fAreWithoutDivisor : Addr} {fdAreWithoutDivisor : FuncData} (D_AreWithoutDivisor : DefAt P w K mg base 1 "_are_without_divisor" fAreWithoutDivisor fdAreWithoutDivisor ["one", "other", "third"] (spApart)) : FnOk P w K mg base CX0 2 f fd ["b", "c", "e"] (spFirstsN) := by
  refine F.ok scFirsts (fun vs H Q E h => ?_) (fun cdv A outer s H vs Q E hr h => ?_)
  · obtain ⟨b, c, e, rfl, _⟩ := h
    rfl
  · obtain ⟨b, c, e, rfl, hb, hc, hc2, kk⟩ := h
    refine ⟨_, (pss_cons (ps_set (i := 3) scFirsts.nd rfl (Or.inr rfl) (pe_callBfun cr_gcd (by rfl) T.gcd (pa_cons (pv 0) (pa_cons (pv 1) pa_nil))))
        (pss_one (ps_ret (pe_lc (own := [("a", 4)]) (g := gName 4) rfl scFirsts.nd (pi_range1 rfl T.range (pa_cons (pv 3) pa_nil)) (blkOk_by (N := N_Firsts) (sc := defScope s_Firsts) (by decide +kernel)) (fun _ _ _ _ _ => pg_name (i := 4) scFirsts.nd rfl (Or.inl rfl)) (fun _ _ _ _ _ => (pts_one (pt_val (pe_d D_AreWithoutDivisor hr (pa_cons (pv 4) (pa_cons (pv 3) (pa_cons (pv 2) pa_nil))))))) (fun _ _ _ _ _ => (pv 4)))))), ?_⟩
    have e0 : start N_Firsts [.int b, .int c, .int e] = [some (.int b), some (.int c), some (.int e), none, none] := rfl
    rw [e0]
    simp only [cxK, wipe, tYes, List.map_cons, List.map_nil, rIxL, rSum, tSl, rSlL, tNoPart, tPart, exists_and_left, and_assoc, V.ref.injEq, HO.lst.injEq, HO.tup.injEq, tFor_eq, iRng1, iRng2, iList, iTup, tLc_eq, tLst, tTup, gSub, rSetL, gT, gL, gTup, gCons, gNil, atI_0, atI_1, atI_2, atI_3, List.length_cons, List.length_nil, Nat.zero_add, Nat.reduceAdd, Nat.reduceLeDiff, ixN_30, ixN_31, ixN_32, Int.reduceLT, Int.reduceLE, Int.reduceNeg, upd_same, reduceCtorEq, false_and, exists_false, or_false, false_or, tSeq, tNext, tIfS, tRet, tRetN, tDrop, tAsg, gName, tPar, tPar3, tAug, ipI, tVar, tC, tOp, tUn, tCB, tD, tDK, tCons, tNil, rI, rI0, rU, tB, tTest, tCallS, tErr, tAnd, tOr, tNot, tAndV, tOrV, tNotV, tIf, rEq, rNe, scal_ii, scal_bb, scal_ss, rGcd_eq, tBits, List.set_cons_zero, List.set_cons_succ, List.getElem?_cons_zero, List.getElem?_cons_succ, Option.some.injEq, exists_eq_left', V.int.injEq, V.bl.injEq, V.str.injEq, true_and, and_true, decide_eq_true_eq, List.cons.injEq, exists_eq_left, Bool.false_eq_true, if_false, if_true, ite_true, ite_false, Bool.not_eq_true', decide_eq_false_iff_not, Bool.not_not]
    have hg1 := gcdI_pos (a := b) (b := c) (by omega)
    have hg2 := gcdI_le (a := b) (b := c) (by omega)
    generalize hgg : gcdI b c = g at *
    refine ⟨by omega, by omega, fun Dd nD => ?_⟩
    refine lcW_range (InvFi H Dd g e) ⟨Same.upd nD, upd_same⟩ (fun i HB hi z => ?_) (fun HB z => ?_)
    · refine ⟨rfl, ?_⟩
      simp only [cxK, wipe, tYes, List.map_cons, List.map_nil, rIxL, rSum, tSl, rSlL, tNoPart, tPart, exists_and_left, and_assoc, V.ref.injEq, HO.lst.injEq, HO.tup.injEq, tFor_eq, iRng1, iRng2, iList, iTup, tLc_eq, tLst, tTup, gSub, rSetL, gT, gL, gTup, gCons, gNil, atI_0, atI_1, atI_2, atI_3, List.length_cons, List.length_nil, Nat.zero_add, Nat.reduceAdd, Nat.reduceLeDiff, ixN_30, ixN_31, ixN_32, Int.reduceLT, Int.reduceLE, Int.reduceNeg, upd_same, reduceCtorEq, false_and, exists_false, or_false, false_or, tSeq, tNext, tIfS, tRet, tRetN, tDrop, tAsg, gName, tPar, tPar3, tAug, ipI, tVar, tC, tOp, tUn, tCB, tD, tDK, tCons, tNil, rI, rI0, rU, tB, tTest, tCallS, tErr, tAnd, tOr, tNot, tAndV, tOrV, tNotV, tIf, rEq, rNe, scal_ii, scal_bb, scal_ss, rGcd_eq, tBits, List.set_cons_zero, List.set_cons_succ, List.getElem?_cons_zero, List.getElem?_cons_succ, Option.some.injEq, exists_eq_left', V.int.injEq, V.bl.injEq, V.str.injEq, true_and, and_true, decide_eq_true_eq, List.cons.injEq, exists_eq_left, Bool.false_eq_true, if_false, if_true, ite_true, ite_false, Bool.not_eq_true', decide_eq_false_iff_not, Bool.not_not]
      obtain ⟨sB, eB⟩ := z
      rw [Int.zero_add]
      refine ⟨(i : Int), g, e, rfl, _, rfl, ?_⟩
      by_cases h1 : gcdI (gcdI (i : Int) g) e = 1
      · rw [if_pos (decide_eq_true h1)]
        have := firstsL_le g e i
        refine ⟨_, eB, ?_, Same.upd2 sB nD, ?_⟩
        · rw [List.length_map]
          exact Nat.lt_of_lt_of_le (show _ < 1000000 by omega) (Nat.le_of_ble_eq_true rfl)
        · rw [upd_same, firstsL_succ, if_pos h1, List.map_append]
          rfl
      · rw [if_neg (by rw [decide_eq_false h1]; decide)]
        refine ⟨sB, ?_⟩
        rw [firstsL_succ, if_neg h1, List.append_nil]
        exact eB
    · obtain ⟨sB, eB⟩ := z
      exact kk Dd HB nD sB eB

theorem okMiddles {f : Addr} {fd : FuncData} (F : Fun K "_middles" "_middles" s_Middles f fd) (T : Txt K mg) : FnOk P w K mg base CX0 1 f fd ["measure", "e"] (spMiddlesN) := by
  refine F.ok scMiddles (fun vs H Q E h => ?_) (fun cdv A outer s H vs Q E hr h => ?_)
  · obtain ⟨D, e, rfl, _⟩ := h
    rfl
  · obtain ⟨D, e, rfl, hM, hD, he, kk⟩ := h
    refine ⟨_, (pss_cons (ps_if (PW.pt (pw_or (pt_cmpR op_ge (pe_op op_mulU (pv 1) (pv 1)) (pv 0) (nomark _)) (pw_or1 (pt_cmpR op_eq (pe_op op_mod (pe_op op_sub (pv 0) (pv 1)) pe_int) pe_int (nomark _))))) (pss_one (ps_ret (pe_lst pa_nil))) pss_nil)
        (pss_cons (ps_set (i := 2) scMiddles.nd rfl (Or.inr rfl) (pe_op op_fdivX (pe_op op_sub (pv 0) (pe_op op_mulU (pv 1) (pv 1))) pe_int))
        (pss_cons (ps_set (i := 3) scMiddles.nd rfl (Or.inl rfl) (pe_op op_fdivX (pe_op op_sub (pe_callBfun cr_isqrt (by rfl) T.isqrt (pa_cons (pe_op op_sub (pv 0) pe_int) pa_nil)) (pv 1)) pe_int))
        (pss_one (ps_ret (pe_lc (own := [("c", 4)]) (g := gName 4) rfl scMiddles.nd (pi_range2 rfl T.range (pa_cons pe_int (pa_cons (pe_op op_add (pv 3) pe_int) pa_nil))) (blkOk_by (N := N_Middles) (sc := defScope s_Middles) (by decide +kernel)) (fun _ _ _ _ _ => pg_name (i := 4) scMiddles.nd rfl (Or.inl rfl)) (fun _ _ _ _ _ => (pts_one (pt_cmpR op_eq (pe_op op_mod (pv 2) (pv 4)) pe_int (nomark _)))) (fun _ _ _ _ _ => (pe_tup (pa_cons (pe_op op_fdivX (pv 2) (pv 4)) (pa_cons (pv 4) pa_nil)))))))))), ?_⟩
    have e0 : start N_Middles [.int D, .int e] = [some (.int D), some (.int e), none, none, none] := rfl
    rw [e0]
    simp only [cxK, wipe, tYes, List.map_cons, List.map_nil, rIxL, rSum, tSl, rSlL, tNoPart, tPart, exists_and_left, and_assoc, V.ref.injEq, HO.lst.injEq, HO.tup.injEq, tFor_eq, iRng1, iRng2, iList, iTup, tLc_eq, tLst, tTup, gSub, rSetL, gT, gL, gTup, gCons, gNil, atI_0, atI_1, atI_2, atI_3, List.length_cons, List.length_nil, Nat.zero_add, Nat.reduceAdd, Nat.reduceLeDiff, ixN_30, ixN_31, ixN_32, Int.reduceLT, Int.reduceLE, Int.reduceNeg, upd_same, reduceCtorEq, false_and, exists_false, or_false, false_or, tSeq, tNext, tIfS, tRet, tRetN, tDrop, tAsg, gName, tPar, tPar3, tAug, ipI, tVar, tC, tOp, tUn, tCB, tD, tDK, tCons, tNil, rI, rI0, rU, tB, tTest, tCallS, tErr, tAnd, tOr, tNot, tAndV, tOrV, tNotV, tIf, rEq, rNe, scal_ii, scal_bb, scal_ss, rGcd_eq, tBits, List.set_cons_zero, List.set_cons_succ, List.getElem?_cons_zero, List.getElem?_cons_succ, Option.some.injEq, exists_eq_left', V.int.injEq, V.bl.injEq, V.str.injEq, true_and, and_true, decide_eq_true_eq, List.cons.injEq, exists_eq_left, Bool.false_eq_true, if_false, if_true, ite_true, ite_false, Bool.not_eq_true', decide_eq_false_iff_not, Bool.not_not]
    have h5 := hM.1
    refine ⟨okm he he (by decide) (by decide), ?_⟩
    have two : ∀ x : Int, x.fdiv 2 = x / 2 := fun x => Int.fdiv_eq_ediv_of_nonneg _ (by decide)
    have four : ∀ x : Int, x.fdiv 4 = x / 4 := fun x => Int.fdiv_eq_ediv_of_nonneg _ (by decide)
    by_cases h1 : D ≤ e * e
    · rw [if_pos h1]
      exact ⟨sml (Nat.zero_le _), fun p np => kk p [] _ np (Same.upd np) upd_same (by unfold midsD; rw [if_pos (.inl h1)]; exact .nil)⟩
    rw [if_neg h1]
    by_cases h2 : (D - e) % 2 = 1
    · rw [if_pos h2]
      exact ⟨sml (Nat.zero_le _), fun p np => kk p [] _ np (Same.upd np) upd_same (by unfold midsD; rw [if_pos (.inr h2)]; exact .nil)⟩
    rw [if_neg h2, two, four]
    have hr := rt_le (n := D - 1) (by omega)
    have hb : e.natAbs < 400 := by
      by_cases hb : e.natAbs < 400
      · exact hb
      · have := sq_mono (x := 400) (y := (e.natAbs : Int)) (by omega) (by omega)
        have e2 : (e.natAbs : Int) * (e.natAbs : Int) = e * e := Int.natAbs_mul_self' e
        omega
    refine ⟨okm he he (by decide) (by decide), cdiv (by decide) (by decide) (by decide), by omega, lg (by omega), cdiv (by decide) (by decide) (by decide), by omega, by omega, by omega, by omega, fun Dd nD => ?_⟩
    have hG : ((rt (D - 1) - e) / 2 + 1 - 1).toNat = ((rt (D - 1) - e) / 2).toNat := by omega
    rw [hG]
    refine lcW_range (InvMi H Dd (qn D e)) ⟨Same.upd nD, [], upd_same, .nil⟩ (fun i HB hi z => ?_) (fun HB z => ?_)
    · refine ⟨rfl, ?_⟩
      simp only [cxK, wipe, tYes, List.map_cons, List.map_nil, rIxL, rSum, tSl, rSlL, tNoPart, tPart, exists_and_left, and_assoc, V.ref.injEq, HO.lst.injEq, HO.tup.injEq, tFor_eq, iRng1, iRng2, iList, iTup, tLc_eq, tLst, tTup, gSub, rSetL, gT, gL, gTup, gCons, gNil, atI_0, atI_1, atI_2, atI_3, List.length_cons, List.length_nil, Nat.zero_add, Nat.reduceAdd, Nat.reduceLeDiff, ixN_30, ixN_31, ixN_32, Int.reduceLT, Int.reduceLE, Int.reduceNeg, upd_same, reduceCtorEq, false_and, exists_false, or_false, false_or, tSeq, tNext, tIfS, tRet, tRetN, tDrop, tAsg, gName, tPar, tPar3, tAug, ipI, tVar, tC, tOp, tUn, tCB, tD, tDK, tCons, tNil, rI, rI0, rU, tB, tTest, tCallS, tErr, tAnd, tOr, tNot, tAndV, tOrV, tNotV, tIf, rEq, rNe, scal_ii, scal_bb, scal_ss, rGcd_eq, tBits, List.set_cons_zero, List.set_cons_succ, List.getElem?_cons_zero, List.getElem?_cons_succ, Option.some.injEq, exists_eq_left', V.int.injEq, V.bl.injEq, V.str.injEq, true_and, and_true, decide_eq_true_eq, List.cons.injEq, exists_eq_left, Bool.false_eq_true, if_false, if_true, ite_true, ite_false, Bool.not_eq_true', decide_eq_false_iff_not, Bool.not_not]
      have e1 : (D - e * e) / 4 = qn D e := rfl
      rw [e1, show (1 : Int) + (i : Int) = (i : Int) + 1 by omega]
      refine ⟨by omega, ?_⟩
      by_cases hd : qn D e % ((i : Int) + 1) = 0
      · rw [if_pos hd]
        have hf : (qn D e).fdiv ((i : Int) + 1) = qn D e / ((i : Int) + 1) := Int.fdiv_eq_ediv_of_nonneg _ (by omega)
        refine ⟨cdiv (by omega) (by omega) (by omega), sml (by decide), fun p np => ?_⟩
        rw [hf]
        exact z.push nD (Same.upd np) hd upd_same (by omega)
      · rw [if_neg hd]
        exact z.skip (Same.refl _) hd
    · obtain ⟨sB, ls, eB, hQ⟩ := z
      refine kk Dd ls HB nD sB eB ?_
      unfold midsD
      rw [if_neg (fun h => h.elim h1 h2)]
      exact hQ

theorem okHowManyWith {f : Addr} {fd : FuncData} (F : Fun K "_how_many_with" "_how_many_with" s_HowManyWith f fd) (T : Txt K mg) {fFirsts : Addr} {fdFirsts : FuncData} (D_Firsts : DefAt P w K mg base 2 "_firsts" fFirsts fdFirsts ["b", "c", "e"] (spFirstsN)) {fMiddles : Addr} {fdMiddles : FuncData} (D_Middles : DefAt P w K mg base 1 "_middles" fMiddles fdMiddles ["measure", "e"] (spMiddlesN)) : FnOk P w K mg base CX0 3 f fd ["measure", "e"] (spHmw) := by
  refine F.ok scHowManyWith (fun vs H Q E h => ?_) (fun cdv A outer s H vs Q E hr h => ?_)
  · obtain ⟨D, e, rfl, _⟩ := h
    rfl
  · obtain ⟨D, e, rfl, hM, hD, he, kk⟩ := h
    refine ⟨_, (pss_one (ps_ret (pe_callB (cr_sum rfl) (by rfl) T.sum (by decide +kernel) (pa_cons (pe_lc (own := [("b", 2), ("c", 3)]) (g := gT 2 (gCons (gName 2) (gCons (gName 3) gNil))) (tt := tYes) rfl scHowManyWith.nd (pi_list (pe_d D_Middles hr (pa_cons (pv 0) (pa_cons (pv 1) pa_nil)))) (blkOk_by (N := N_HowManyWith) (sc := defScope s_HowManyWith) (by decide +kernel)) (fun _ _ _ _ _ => pg_tupT 2 rfl (pgs_cons (pg_name (i := 2) scHowManyWith.nd rfl (Or.inl rfl)) (pgs_cons (pg_name (i := 3) scHowManyWith.nd rfl (Or.inl rfl)) pgs_nil))) (fun _ _ _ _ _ => pts_nil) (fun _ _ _ _ _ => (pe_callB lenL (by rfl) T.len (by decide +kernel) (pa_cons (pe_d D_Firsts hr (pa_cons (pv 2) (pa_cons (pv 3) (pa_cons (pv 1) pa_nil)))) pa_nil)))) pa_nil)))), ?_⟩
    have e0 : start N_HowManyWith [.int D, .int e] = [some (.int D), some (.int e), none, none] := rfl
    rw [e0]
    simp only [cxK, wipe, tYes, List.map_cons, List.map_nil, rIxL, rSum, tSl, rSlL, tNoPart, tPart, exists_and_left, and_assoc, V.ref.injEq, HO.lst.injEq, HO.tup.injEq, tFor_eq, iRng1, iRng2, iList, iTup, tLc_eq, tLst, tTup, gSub, rSetL, gT, gL, gTup, gCons, gNil, atI_0, atI_1, atI_2, atI_3, List.length_cons, List.length_nil, Nat.zero_add, Nat.reduceAdd, Nat.reduceLeDiff, ixN_30, ixN_31, ixN_32, Int.reduceLT, Int.reduceLE, Int.reduceNeg, upd_same, reduceCtorEq, false_and, exists_false, or_false, false_or, tSeq, tNext, tIfS, tRet, tRetN, tDrop, tAsg, gName, tPar, tPar3, tAug, ipI, tVar, tC, tOp, tUn, tCB, tD, tDK, tCons, tNil, rI, rI0, rU, tB, tTest, tCallS, tErr, tAnd, tOr, tNot, tAndV, tOrV, tNotV, tIf, rEq, rNe, scal_ii, scal_bb, scal_ss, rGcd_eq, tBits, List.set_cons_zero, List.set_cons_succ, List.getElem?_cons_zero, List.getElem?_cons_succ, Option.some.injEq, exists_eq_left', V.int.injEq, V.bl.injEq, V.str.injEq, true_and, and_true, decide_eq_true_eq, List.cons.injEq, exists_eq_left, Bool.false_eq_true, if_false, if_true, ite_true, ite_false, Bool.not_eq_true', decide_eq_false_iff_not, Bool.not_not]
    refine ⟨D, e, rfl, hM, hD, he, fun q ls H1 _ s1 eq hQ => ?_⟩
    obtain ⟨hl, hp⟩ := mids_all (e := e) hM hD
    refine ⟨_, rfl, ⟨_, SqL.of eq⟩, fun Dd nD => ?_⟩
    have hlen := hQ.len
    refine lcW_list (xs := ls.map V.ref) (InvSu H1 Dd fun i => (((midsD D e).take i).map fun p => fstN (gcdI p.1 p.2) e).sum) ⟨Same.upd nD, [], upd_same, rfl, rfl⟩ (fun i HB _ z => SqL.of (z.1 _ _ eq)) ?_ ?_
    · rintro i x HB hx z
      rw [List.getElem?_map] at hx
      obtain ⟨l, hl2, rfl⟩ := Option.map_eq_some_iff.mp hx
      obtain ⟨pr, hq1, hq2⟩ := hQ.get hl2
      have hi := (List.getElem?_eq_some_iff.mp hq1).1
      obtain ⟨p1, p2, p3⟩ := hp pr (List.mem_of_getElem? hq1)
      have eB := z.1 _ _ hq2
      simp only [cxK, wipe, tYes, List.map_cons, List.map_nil, rIxL, rSum, tSl, rSlL, tNoPart, tPart, exists_and_left, and_assoc, V.ref.injEq, HO.lst.injEq, HO.tup.injEq, tFor_eq, iRng1, iRng2, iList, iTup, tLc_eq, tLst, tTup, gSub, rSetL, gT, gL, gTup, gCons, gNil, atI_0, atI_1, atI_2, atI_3, List.length_cons, List.length_nil, Nat.zero_add, Nat.reduceAdd, Nat.reduceLeDiff, ixN_30, ixN_31, ixN_32, Int.reduceLT, Int.reduceLE, Int.reduceNeg, upd_same, reduceCtorEq, false_and, exists_false, or_false, false_or, tSeq, tNext, tIfS, tRet, tRetN, tDrop, tAsg, gName, tPar, tPar3, tAug, ipI, tVar, tC, tOp, tUn, tCB, tD, tDK, tCons, tNil, rI, rI0, rU, tB, tTest, tCallS, tErr, tAnd, tOr, tNot, tAndV, tOrV, tNotV, tIf, rEq, rNe, scal_ii, scal_bb, scal_ss, rGcd_eq, tBits, List.set_cons_zero, List.set_cons_succ, List.getElem?_cons_zero, List.getElem?_cons_succ, Option.some.injEq, exists_eq_left', V.int.injEq, V.bl.injEq, V.str.injEq, true_and, and_true, decide_eq_true_eq, List.cons.injEq, exists_eq_left, Bool.false_eq_true, if_false, if_true, ite_true, ite_false, Bool.not_eq_true', decide_eq_false_iff_not, Bool.not_not]
      refine ⟨_, eB, rfl, _, _, rfl, _, _, rfl, rfl, pr.1, pr.2, e, rfl, p1, p2, p3, fun q3 H3 _ s3 e3 => ?_⟩
      refine ⟨q3, rfl, _, e3, ?_⟩
      rw [List.length_map, firstsL_len]
      exact z.push nD s3 (sum_take hq1) (by omega)
    · rintro HB ⟨sB, ns, eB, hn, hs⟩
      refine ⟨_, rfl, ns, SqL.of eB, ?_⟩
      rw [List.length_map, hlen] at hs
      simp only [List.take_length] at hs
      rw [hs, mids_sum]
      exact kk _ (s1.trans sB)

theorem okLasts {f : Addr} {fd : FuncData} (F : Fun K "_lasts" "_lasts" s_Lasts f fd) (T : Txt K mg) : FnOk P w K mg base CX0 1 f fd ["measure"] (spLasts) := by
  refine F.ok scLasts (fun vs H Q E h => ?_) (fun cdv A outer s H vs Q E hr h => ?_)
  · obtain ⟨D, rfl, _⟩ := h
    rfl
  · obtain ⟨D, rfl, hM, hD, kk⟩ := h
    refine ⟨_, (pss_cons (ps_set (i := 1) scLasts.nd rfl (Or.inl rfl) (pe_callBfun cr_isqrt (by rfl) T.isqrt (pa_cons (pv 0) pa_nil)))
        (pss_one (ps_ret (pe_listRg rfl (by rfl) T.list (prg_2 (by rfl) T.range (pe_un un_neg (pv 1)) (pe_op op_add (pv 1) pe_int)))))), ?_⟩
    have e0 : start N_Lasts [.int D] = [some (.int D), none] := rfl
    rw [e0]
    simp only [cxK, wipe, tYes, List.map_cons, List.map_nil, rIxL, rSum, tSl, rSlL, tNoPart, tPart, exists_and_left, and_assoc, V.ref.injEq, HO.lst.injEq, HO.tup.injEq, tFor_eq, iRng1, iRng2, iList, iTup, tLc_eq, tLst, tTup, gSub, rSetL, gT, gL, gTup, gCons, gNil, atI_0, atI_1, atI_2, atI_3, List.length_cons, List.length_nil, Nat.zero_add, Nat.reduceAdd, Nat.reduceLeDiff, ixN_30, ixN_31, ixN_32, Int.reduceLT, Int.reduceLE, Int.reduceNeg, upd_same, reduceCtorEq, false_and, exists_false, or_false, false_or, tSeq, tNext, tIfS, tRet, tRetN, tDrop, tAsg, gName, tPar, tPar3, tAug, ipI, tVar, tC, tOp, tUn, tCB, tD, tDK, tCons, tNil, rI, rI0, rU, tB, tTest, tCallS, tErr, tAnd, tOr, tNot, tAndV, tOrV, tNotV, tIf, rEq, rNe, scal_ii, scal_bb, scal_ss, rGcd_eq, tBits, List.set_cons_zero, List.set_cons_succ, List.getElem?_cons_zero, List.getElem?_cons_succ, Option.some.injEq, exists_eq_left', V.int.injEq, V.bl.injEq, V.str.injEq, true_and, and_true, decide_eq_true_eq, List.cons.injEq, exists_eq_left, Bool.false_eq_true, if_false, if_true, ite_true, ite_false, Bool.not_eq_true', decide_eq_false_iff_not, Bool.not_not, tLstRg, tRg2]
    have h5 := hM.1
    have hr := rt_le (n := D) (by omega)
    exact ⟨by omega, lg (by omega), ⟨by omega, by omega, by omega, by omega, by omega⟩, kk⟩

theorem okHowManyCuttings {f : Addr} {fd : FuncData} (F : Fun K "how_many_cuttings" "how_many_cuttings" s_HowManyCuttings f fd) (T : Txt K mg) {fCheckMeasure : Addr} {fdCheckMeasure : FuncData} (D_CheckMeasure : DefAt P w K mg base 3 "check_measure" fCheckMeasure fdCheckMeasure ["measure"] (spCheckMeasure0)) {fHowManyWith : Addr} {fdHowManyWith : FuncData} (D_HowManyWith : DefAt P w K mg base 3 "_how_many_with" fHowManyWith fdHowManyWith ["measure", "e"] (spHmw)) {fLasts : Addr} {fdLasts : FuncData} (D_Lasts : DefAt P w K mg base 1 "_lasts" fLasts fdLasts ["measure"] (spLasts)) : FnOk P w K mg base CX0 4 f fd ["measure"] (spHmc) := by
  refine F.ok scHowManyCuttings (fun vs H Q E h => ?_) (fun cdv A outer s H vs Q E hr h => ?_)
  · obtain ⟨D, rfl, _⟩ := h
    rfl
  · obtain ⟨D, rfl, hM, hD, kk⟩ := h
    refine ⟨_, (pss_cons (ps_expr (pe_d D_CheckMeasure hr (pa_cons (pv 0) pa_nil)))
        (pss_one (ps_ret (pe_callB (cr_sum rfl) (by rfl) T.sum (by decide +kernel) (pa_cons (pe_lc (own := [("e", 1)]) (g := gName 1) (tt := tYes) rfl scHowManyCuttings.nd (pi_list (pe_d D_Lasts hr (pa_cons (pv 0) pa_nil))) (blkOk_by (N := N_HowManyCuttings) (sc := defScope s_HowManyCuttings) (by decide +kernel)) (fun _ _ _ _ _ => pg_name (i := 1) scHowManyCuttings.nd rfl (Or.inl rfl)) (fun _ _ _ _ _ => pts_nil) (fun _ _ _ _ _ => (pe_d D_HowManyWith hr (pa_cons (pv 0) (pa_cons (pv 1) pa_nil))))) pa_nil))))), ?_⟩
    have e0 : start N_HowManyCuttings [.int D] = [some (.int D), none] := rfl
    rw [e0]
    simp only [cxK, wipe, tYes, List.map_cons, List.map_nil, rIxL, rSum, tSl, rSlL, tNoPart, tPart, exists_and_left, and_assoc, V.ref.injEq, HO.lst.injEq, HO.tup.injEq, tFor_eq, iRng1, iRng2, iList, iTup, tLc_eq, tLst, tTup, gSub, rSetL, gT, gL, gTup, gCons, gNil, atI_0, atI_1, atI_2, atI_3, List.length_cons, List.length_nil, Nat.zero_add, Nat.reduceAdd, Nat.reduceLeDiff, ixN_30, ixN_31, ixN_32, Int.reduceLT, Int.reduceLE, Int.reduceNeg, upd_same, reduceCtorEq, false_and, exists_false, or_false, false_or, tSeq, tNext, tIfS, tRet, tRetN, tDrop, tAsg, gName, tPar, tPar3, tAug, ipI, tVar, tC, tOp, tUn, tCB, tD, tDK, tCons, tNil, rI, rI0, rU, tB, tTest, tCallS, tErr, tAnd, tOr, tNot, tAndV, tOrV, tNotV, tIf, rEq, rNe, scal_ii, scal_bb, scal_ss, rGcd_eq, tBits, List.set_cons_zero, List.set_cons_succ, List.getElem?_cons_zero, List.getElem?_cons_succ, Option.some.injEq, exists_eq_left', V.int.injEq, V.bl.injEq, V.str.injEq, true_and, and_true, decide_eq_true_eq, List.cons.injEq, exists_eq_left, Bool.false_eq_true, if_false, if_true, ite_true, ite_false, Bool.not_eq_true', decide_eq_false_iff_not, Bool.not_not]
    have h5 := hM.1
    have hr := rt_le (n := D) (by omega)
    refine ⟨D, rfl, hM, D, rfl, hM, hD, fun q nq => ?_⟩
    have eq : upd H q (.lst (rgV (-rt D) (rt D + 1))) q = some (.lst (rgV (-rt D) (rt D + 1))) := upd_same
    have s1 := Same.upd (o := .lst (rgV (-rt D) (rt D + 1))) nq
    generalize upd H q (.lst (rgV (-rt D) (rt D + 1))) = H1 at *
    refine ⟨q, rfl, ⟨_, SqL.of eq⟩, fun Dd nD => ?_⟩
    refine lcW_list (xs := rgV (-rt D) (rt D + 1)) (InvSu H1 Dd fun i => rs i fun j => hmw D (j - rt D)) ⟨Same.upd nD, [], upd_same, rfl, rfl⟩ (fun i HB _ z => SqL.of (z.1 _ _ eq)) ?_ ?_
    · rintro i x HB hx z
      have hlen := (List.getElem?_eq_some_iff.mp hx).1
      rw [rgV_length] at hlen
      obtain rfl : x = V.int (-rt D + (i : Int)) := by
        unfold rgV at hx
        rw [List.getElem?_map, List.getElem?_range (by omega)] at hx
        exact (Option.some.inj hx).symm
      refine ⟨rfl, ?_⟩
      simp only [cxK, wipe, tYes, List.map_cons, List.map_nil, rIxL, rSum, tSl, rSlL, tNoPart, tPart, exists_and_left, and_assoc, V.ref.injEq, HO.lst.injEq, HO.tup.injEq, tFor_eq, iRng1, iRng2, iList, iTup, tLc_eq, tLst, tTup, gSub, rSetL, gT, gL, gTup, gCons, gNil, atI_0, atI_1, atI_2, atI_3, List.length_cons, List.length_nil, Nat.zero_add, Nat.reduceAdd, Nat.reduceLeDiff, ixN_30, ixN_31, ixN_32, Int.reduceLT, Int.reduceLE, Int.reduceNeg, upd_same, reduceCtorEq, false_and, exists_false, or_false, false_or, tSeq, tNext, tIfS, tRet, tRetN, tDrop, tAsg, gName, tPar, tPar3, tAug, ipI, tVar, tC, tOp, tUn, tCB, tD, tDK, tCons, tNil, rI, rI0, rU, tB, tTest, tCallS, tErr, tAnd, tOr, tNot, tAndV, tOrV, tNotV, tIf, rEq, rNe, scal_ii, scal_bb, scal_ss, rGcd_eq, tBits, List.set_cons_zero, List.set_cons_succ, List.getElem?_cons_zero, List.getElem?_cons_succ, Option.some.injEq, exists_eq_left', V.int.injEq, V.bl.injEq, V.str.injEq, true_and, and_true, decide_eq_true_eq, List.cons.injEq, exists_eq_left, Bool.false_eq_true, if_false, if_true, ite_true, ite_false, Bool.not_eq_true', decide_eq_false_iff_not, Bool.not_not]
      refine ⟨D, _, rfl, hM, hD, by omega, fun H2 s2 => ?_⟩
      exact z.push nD s2 (by rw [rs, show (i : Int) - rt D = -rt D + (i : Int) by omega]) (by omega)
    · rintro HB ⟨sB, ns, eB, hn, hs⟩
      refine ⟨_, rfl, ns, SqL.of eB, ?_⟩
      rw [rgV_length] at hs
      have hR : rt D = ((rt D).toNat : Int) := by omega
      have e2 : rs (2 * (rt D).toNat + 1) (fun j => hmw D (j - rt D)) = es (rt D).toNat (hmw D) := by
        rw [← es_loop]
        exact rs_congr fun i _ => by rw [← hR]
      rw [hs, show (rt D + 1 - -rt D).toNat = 2 * (rt D).toNat + 1 by omega]
      show Q (.int (rs (2 * (rt D).toNat + 1) fun j => hmw D (j - rt D))) HB
      rw [e2]
      exact kk _ (s1.trans sB)

theorem okGathered {f : Addr} {fd : FuncData} (F : Fun K "_gathered" "_gathered" s_Gathered f fd) (T : Txt K mg) {fLasts : Addr} {fdLasts : FuncData} (D_Lasts : DefAt P w K mg base 1 "_lasts" fLasts fdLasts ["measure"] (spLasts)) {fMiddles : Addr} {fdMiddles : FuncData} (D_Middles : DefAt P w K mg base 1 "_middles" fMiddles fdMiddles ["measure", "e"] (spMiddlesN)) {fFirsts : Addr} {fdFirsts : FuncData} (D_Firsts : DefAt P w K mg base 2 "_firsts" fFirsts fdFirsts ["b", "c", "e"] (spFirstsN)) : FnOk P w K mg base CX0 3 f fd ["measure"] (spGathered) := by
  refine F.ok scGathered (fun vs H Q E h => ?_) (fun cdv A outer s H vs Q E hr h => ?_)
  · obtain ⟨D, rfl, _⟩ := h
    rfl
  · obtain ⟨D, rfl, hM, hD, hL, kk⟩ := h
    refine ⟨_, (pss_one (ps_ret (pe_lc3 (own := [("e", 1), ("b", 2), ("c", 3), ("a", 4)]) (g0 := (gName 1)) (q0 := tYes) (g1 := (gT 2 (gCons (gName 2) (gCons (gName 3) gNil)))) (q1 := tYes) (g2 := (gName 4)) (q2 := tYes) (v1 := [2, 3, 4]) (v2 := [4]) rfl scGathered.nd (pi_list (pe_d D_Lasts hr (pa_cons (pv 0) pa_nil))) (blkOk_by (N := N_Gathered) (sc := defScope s_Gathered) (by decide +kernel)) (by decide) (by decide) (fun _ _ _ _ _ => (pg_name (i := 1) scGathered.nd rfl (Or.inl rfl))) (fun _ _ _ _ _ => pts_nil) (fun _ _ _ _ _ => (pi_listK (K := K) rfl (pe_d D_Middles hr (pa_cons (pv 0) (pa_cons (pv 1) pa_nil))))) (fun _ _ _ _ _ => (pg_tupT 2 rfl (pgs_cons (pg_name (i := 2) scGathered.nd rfl (Or.inl rfl)) (pgs_cons (pg_name (i := 3) scGathered.nd rfl (Or.inl rfl)) pgs_nil)))) (fun _ _ _ _ _ => pts_nil) (fun _ _ _ _ _ => (pi_listK (K := K) rfl (pe_d D_Firsts hr (pa_cons (pv 2) (pa_cons (pv 3) (pa_cons (pv 1) pa_nil)))))) (fun _ _ _ _ _ => (pg_name (i := 4) scGathered.nd rfl (Or.inl rfl))) (fun _ _ _ _ _ => pts_nil) (fun _ _ _ _ _ => (pe_tup (pa_cons (pv 4) (pa_cons (pv 2) (pa_cons (pv 3) (pa_cons (pv 1) pa_nil))))))))), ?_⟩
    have e0 : start N_Gathered [.int D] = [some (.int D), none, none, none, none] := rfl
    rw [e0]
    simp only [cxK, wipe, tYes, List.map_cons, List.map_nil, rIxL, rSum, tSl, rSlL, tNoPart, tPart, exists_and_left, and_assoc, V.ref.injEq, HO.lst.injEq, HO.tup.injEq, tFor_eq, iRng1, iRng2, iList, iTup, tLc_eq, tLst, tTup, gSub, rSetL, gT, gL, gTup, gCons, gNil, atI_0, atI_1, atI_2, atI_3, List.length_cons, List.length_nil, Nat.zero_add, Nat.reduceAdd, Nat.reduceLeDiff, ixN_30, ixN_31, ixN_32, Int.reduceLT, Int.reduceLE, Int.reduceNeg, upd_same, reduceCtorEq, false_and, exists_false, or_false, false_or, tSeq, tNext, tIfS, tRet, tRetN, tDrop, tAsg, gName, tPar, tPar3, tAug, ipI, tVar, tC, tOp, tUn, tCB, tD, tDK, tCons, tNil, rI, rI0, rU, tB, tTest, tCallS, tErr, tAnd, tOr, tNot, tAndV, tOrV, tNotV, tIf, rEq, rNe, scal_ii, scal_bb, scal_ss, rGcd_eq, tBits, List.set_cons_zero, List.set_cons_succ, List.getElem?_cons_zero, List.getElem?_cons_succ, Option.some.injEq, exists_eq_left', V.int.injEq, V.bl.injEq, V.str.injEq, true_and, and_true, decide_eq_true_eq, List.cons.injEq, exists_eq_left, Bool.false_eq_true, if_false, if_true, ite_true, ite_false, Bool.not_eq_true', decide_eq_false_iff_not, Bool.not_not, tLcN_eq]
    have h5 := hM.1
    obtain ⟨r0, r1⟩ := rt_le (n := D) (by omega)
    have hr400 : rt D < 400 := by
      obtain ⟨s0, s1, s2⟩ := rt_spec (n := D) (by omega)
      by_cases h : rt D < 400
      · exact h
      · have := sq_mono (x := 400) (y := rt D) (by omega) (by omega)
        omega
    refine ⟨D, rfl, hM, hD, fun q nq => ?_⟩
    have eq : upd H q (.lst (rgV (-rt D) (rt D + 1))) q = some (.lst (rgV (-rt D) (rt D + 1))) := upd_same
    have sq := Same.upd (o := .lst (rgV (-rt D) (rt D + 1))) nq
    generalize upd H q (.lst (rgV (-rt D) (rt D + 1))) = H1 at *
    have hlen : (rgV (-rt D) (rt D + 1)).length = 2 * (rt D).toNat + 1 := by rw [rgV_length]; omega
    refine ⟨q, rfl, ⟨_, SqL.of eq⟩, fun Dd nD => ?_⟩
    refine lnW_list (xs := rgV (-rt D) (rt D + 1)) (fun i HB => Grow H1 H1 Dd (cutsR D i) HB) (Grow.start nD) (fun i HB z => SqL.of (z.iv.1 _ _ eq)) ?_ ?_
    · rintro i x HB hx z
      have hi := (List.getElem?_eq_some_iff.mp hx).1
      rw [hlen] at hi
      obtain rfl : x = V.int (-rt D + (i : Int)) := by
        unfold rgV at hx
        rw [List.getElem?_map, List.getElem?_range (by omega)] at hx
        exact (Option.some.inj hx).symm
      refine ⟨rfl, ?_⟩
      simp only [cxK, wipe, tYes, List.map_cons, List.map_nil, rIxL, rSum, tSl, rSlL, tNoPart, tPart, exists_and_left, and_assoc, V.ref.injEq, HO.lst.injEq, HO.tup.injEq, tFor_eq, iRng1, iRng2, iList, iTup, tLc_eq, tLst, tTup, gSub, rSetL, gT, gL, gTup, gCons, gNil, atI_0, atI_1, atI_2, atI_3, List.length_cons, List.length_nil, Nat.zero_add, Nat.reduceAdd, Nat.reduceLeDiff, ixN_30, ixN_31, ixN_32, Int.reduceLT, Int.reduceLE, Int.reduceNeg, upd_same, reduceCtorEq, false_and, exists_false, or_false, false_or, tSeq, tNext, tIfS, tRet, tRetN, tDrop, tAsg, gName, tPar, tPar3, tAug, ipI, tVar, tC, tOp, tUn, tCB, tD, tDK, tCons, tNil, rI, rI0, rU, tB, tTest, tCallS, tErr, tAnd, tOr, tNot, tAndV, tOrV, tNotV, tIf, rEq, rNe, scal_ii, scal_bb, scal_ss, rGcd_eq, tBits, List.set_cons_zero, List.set_cons_succ, List.getElem?_cons_zero, List.getElem?_cons_succ, Option.some.injEq, exists_eq_left', V.int.injEq, V.bl.injEq, V.str.injEq, true_and, and_true, decide_eq_true_eq, List.cons.injEq, exists_eq_left, Bool.false_eq_true, if_false, if_true, ite_true, ite_false, Bool.not_eq_true', decide_eq_false_iff_not, Bool.not_not, tWithin_eq]
      obtain ⟨e, he⟩ : ∃ e : Int, e = (i : Int) - rt D := ⟨_, rfl⟩
      rw [show -rt D + (i : Int) = e by omega]
      refine ⟨D, e, rfl, hM, hD, by omega, fun q2 ls2 H2 nq2 s2 eq2 hQ2 => ?_⟩
      have nq2' : q2 ≠ Dd := z.ne nq2
      have z2 := z.same s2
      refine ⟨q2, rfl, ⟨_, SqL.of eq2⟩, ?_⟩
      refine clW_list (xs := ls2.map V.ref) (fun j HJ => Grow H1 H2 Dd (cutsR D i ++ ((midsD D e).take j).flatMap (firsE e)) HJ) (by
        have w := z2.from
        simp only [List.take_zero, List.flatMap_nil, List.append_nil]
        exact w) (fun j HJ w => SqL.of (w.kp _ _ nq2' eq2)) ?_ ?_
      · rintro j y HJ hy zJ
        rw [List.getElem?_map] at hy
        obtain ⟨l, hl, rfl⟩ := Option.map_eq_some_iff.mp hy
        obtain ⟨pr, hpr, el⟩ := hQ2.get hl
        obtain ⟨b, c⟩ := pr
        obtain ⟨p1, p2, p3⟩ := (mids_all (e := e) hM hD).2 (b, c) (List.mem_of_getElem? hpr)
        simp only at p1 p2 p3 el
        have hlD : l ≠ Dd := fun h => by
          obtain ⟨ls, eD, _⟩ := z2.at
          rw [← h, el] at eD
          cases eD
        have eJ := zJ.kp _ _ hlD el
        simp only [cxK, wipe, tYes, List.map_cons, List.map_nil, rIxL, rSum, tSl, rSlL, tNoPart, tPart, exists_and_left, and_assoc, V.ref.injEq, HO.lst.injEq, HO.tup.injEq, tFor_eq, iRng1, iRng2, iList, iTup, tLc_eq, tLst, tTup, gSub, rSetL, gT, gL, gTup, gCons, gNil, atI_0, atI_1, atI_2, atI_3, List.length_cons, List.length_nil, Nat.zero_add, Nat.reduceAdd, Nat.reduceLeDiff, ixN_30, ixN_31, ixN_32, Int.reduceLT, Int.reduceLE, Int.reduceNeg, upd_same, reduceCtorEq, false_and, exists_false, or_false, false_or, tSeq, tNext, tIfS, tRet, tRetN, tDrop, tAsg, gName, tPar, tPar3, tAug, ipI, tVar, tC, tOp, tUn, tCB, tD, tDK, tCons, tNil, rI, rI0, rU, tB, tTest, tCallS, tErr, tAnd, tOr, tNot, tAndV, tOrV, tNotV, tIf, rEq, rNe, scal_ii, scal_bb, scal_ss, rGcd_eq, tBits, List.set_cons_zero, List.set_cons_succ, List.getElem?_cons_zero, List.getElem?_cons_succ, Option.some.injEq, exists_eq_left', V.int.injEq, V.bl.injEq, V.str.injEq, true_and, and_true, decide_eq_true_eq, List.cons.injEq, exists_eq_left, Bool.false_eq_true, if_false, if_true, ite_true, ite_false, Bool.not_eq_true', decide_eq_false_iff_not, Bool.not_not, tPush]
        refine ⟨_, eJ, rfl, _, _, rfl, _, _, rfl, rfl, ?_⟩
        refine ⟨b, c, e, rfl, p1, p2, p3, fun q3 H3 nq3 s3 eq3 => ?_⟩
        have nq3' : q3 ≠ Dd := zJ.ne nq3
        refine ⟨q3, rfl, ⟨_, SqL.of eq3⟩, ?_⟩
        refine clW_list (xs := (firstsL (gcdI b c) e (gcdI b c).toNat).map V.int) (fun k HK => Grow H1 H3 Dd (cutsR D i ++ (((midsD D e).take j).flatMap (firsE e) ++ ((firstsL (gcdI b c) e (gcdI b c).toNat).take k).map fun a => (a, b, c, e))) HK) (by
          have w := (zJ.same s3).from
          simp only [List.take_zero, List.map_nil, List.append_nil]
          exact w) (fun k HK w => SqL.of (w.kp _ _ nq3' eq3)) ?_ ?_
        · rintro k v HK hv zK
          rw [List.getElem?_map] at hv
          obtain ⟨a, ha, rfl⟩ := Option.map_eq_some_iff.mp hv
          have hk := (List.getElem?_eq_some_iff.mp ha).1
          simp only [cxK, wipe, tYes, List.map_cons, List.map_nil, rIxL, rSum, tSl, rSlL, tNoPart, tPart, exists_and_left, and_assoc, V.ref.injEq, HO.lst.injEq, HO.tup.injEq, tFor_eq, iRng1, iRng2, iList, iTup, tLc_eq, tLst, tTup, gSub, rSetL, gT, gL, gTup, gCons, gNil, atI_0, atI_1, atI_2, atI_3, List.length_cons, List.length_nil, Nat.zero_add, Nat.reduceAdd, Nat.reduceLeDiff, ixN_30, ixN_31, ixN_32, Int.reduceLT, Int.reduceLE, Int.reduceNeg, upd_same, reduceCtorEq, false_and, exists_false, or_false, false_or, tSeq, tNext, tIfS, tRet, tRetN, tDrop, tAsg, gName, tPar, tPar3, tAug, ipI, tVar, tC, tOp, tUn, tCB, tD, tDK, tCons, tNil, rI, rI0, rU, tB, tTest, tCallS, tErr, tAnd, tOr, tNot, tAndV, tOrV, tNotV, tIf, rEq, rNe, scal_ii, scal_bb, scal_ss, rGcd_eq, tBits, List.set_cons_zero, List.set_cons_succ, List.getElem?_cons_zero, List.getElem?_cons_succ, Option.some.injEq, exists_eq_left', V.int.injEq, V.bl.injEq, V.str.injEq, true_and, and_true, decide_eq_true_eq, List.cons.injEq, exists_eq_left, Bool.false_eq_true, if_false, if_true, ite_true, ite_false, Bool.not_eq_true', decide_eq_false_iff_not, Bool.not_not, tPush]
          refine ⟨sml (by decide), fun p np => ?_⟩
          have hX : (((firstsL (gcdI b c) e (gcdI b c).toNat).take k).map fun a => ((a, b, c, e) : Q4)).length ≤ (firsE e (b, c)).length := by
            unfold firsE
            rw [List.length_map, List.length_map, List.length_take]
            simp only
            omega
          have hle := part_le (D := D) (i := i) (j := j) (X := ((firstsL (gcdI b c) e (gcdI b c).toNat).take k).map fun a => (a, b, c, e)) (p := (b, c)) hi (by rw [← he]; exact hpr) (by rw [← he]; exact hX)
          rw [← he] at hle
          obtain ⟨acc, g1, g2, g3⟩ := zK.push (q := (a, b, c, e)) nD (Same.upd np) upd_same (by omega)
          refine ⟨acc, g1, g2, ?_⟩
          rw [List.take_succ, ha, List.map_append, ← List.append_assoc, ← List.append_assoc]
          rw [← List.append_assoc] at g3
          exact g3
        · intro HK zK
          simp only [List.length_map, List.take_length] at zK
          rw [take_next hpr]
          exact (zJ.same s3).then zK
      · intro HJ zJ
        simp only [List.length_map, hQ2.len, List.take_length] at zJ
        rw [show cutsR D (i + 1) = cutsR D i ++ cutsE D ((i : Int) - rt D) from fm_succ _ _, ← he]
        exact z2.then zJ
    · intro HB z
      rw [hlen] at z
      obtain ⟨ls, eB, hQ⟩ := z.at
      exact kk Dd ls HB (sq.free nD) (sq.trans z.iv.1) eB hQ

theorem okAllCuttings {f : Addr} {fd : FuncData} (F : Fun K "all_cuttings" "all_cuttings" s_AllCuttings f fd) (T : Txt K mg) {fGathered : Addr} {fdGathered : FuncData} (D_Gathered : DefAt P w K mg base 3 "_gathered" fGathered fdGathered ["measure"] (spGathered)) : FnOk P w K mg base CX0 4 f fd ["measure"] (spAllCut) := by
  refine F.ok scAllCuttings (fun vs H Q E h => ?_) (fun cdv A outer s H vs Q E hr h => ?_)
  · obtain ⟨D, rfl, _⟩ := h
    rfl
  · obtain ⟨D, rfl, hM, hD, hL, kk⟩ := h
    refine ⟨_, (pss_one (ps_ret (pe_callB cr_sortedTK (by rfl) T.sorted (by decide +kernel) (pa_cons (pe_d D_Gathered hr (pa_cons (pv 0) pa_nil)) pa_nil)))), ?_⟩
    have e0 : start N_AllCuttings [.int D] = [some (.int D)] := rfl
    rw [e0]
    simp only [cxK, wipe, tYes, List.map_cons, List.map_nil, rIxL, rSum, tSl, rSlL, tNoPart, tPart, exists_and_left, and_assoc, V.ref.injEq, HO.lst.injEq, HO.tup.injEq, tFor_eq, iRng1, iRng2, iList, iTup, tLc_eq, tLst, tTup, gSub, rSetL, gT, gL, gTup, gCons, gNil, atI_0, atI_1, atI_2, atI_3, List.length_cons, List.length_nil, Nat.zero_add, Nat.reduceAdd, Nat.reduceLeDiff, ixN_30, ixN_31, ixN_32, Int.reduceLT, Int.reduceLE, Int.reduceNeg, upd_same, reduceCtorEq, false_and, exists_false, or_false, false_or, tSeq, tNext, tIfS, tRet, tRetN, tDrop, tAsg, gName, tPar, tPar3, tAug, ipI, tVar, tC, tOp, tUn, tCB, tD, tDK, tCons, tNil, rI, rI0, rU, tB, tTest, tCallS, tErr, tAnd, tOr, tNot, tAndV, tOrV, tNotV, tIf, rEq, rNe, scal_ii, scal_bb, scal_ss, rGcd_eq, tBits, List.set_cons_zero, List.set_cons_succ, List.getElem?_cons_zero, List.getElem?_cons_succ, Option.some.injEq, exists_eq_left', V.int.injEq, V.bl.injEq, V.str.injEq, true_and, and_true, decide_eq_true_eq, List.cons.injEq, exists_eq_left, Bool.false_eq_true, if_false, if_true, ite_true, ite_false, Bool.not_eq_true', decide_eq_false_iff_not, Bool.not_not]
    refine ⟨D, rfl, hM, hD, hL, fun p ls H1 np s1 e1 hQ => ?_⟩
    refine sorted_quads e1 hQ fun q ms H2 nq s2 e2 hQ2 => ?_
    exact kk q ms H2 (s1.free nq) (s1.trans s2) e2 hQ2

theorem okCuttings {f : Addr} {fd : FuncData} (F : Fun K "cuttings" "cuttings" s_Cuttings f fd) (T : Txt K mg) {C_TooMany f_TooMany : Addr} {fd_TooMany : FuncData} (E_TooMany : ErrN P w K mg base "TooMany" C_TooMany f_TooMany fd_TooMany) {fHowManyCuttings : Addr} {fdHowManyCuttings : FuncData} (D_HowManyCuttings : DefAt P w K mg base 4 "how_many_cuttings" fHowManyCuttings fdHowManyCuttings ["measure"] (spHmc)) {fAllCuttings : Addr} {fdAllCuttings : FuncData} (D_AllCuttings : DefAt P w K mg base 4 "all_cuttings" fAllCuttings fdAllCuttings ["measure"] (spAllCut)) : FnOk P w K mg base CX0 5 f fd ["measure"] (spCuttings) := by
  refine F.ok scCuttings (fun vs H Q E h => ?_) (fun cdv A outer s H vs Q E hr h => ?_)
  · obtain ⟨D, rfl, _⟩ := h
    rfl
  · obtain ⟨D, rfl, hM, hD, hL, kk⟩ := h
    refine ⟨_, (pss_cons (ps_set (i := 1) scCuttings.nd rfl (Or.inl rfl) (pe_d D_HowManyCuttings hr (pa_cons (pv 0) pa_nil)))
        (pss_cons (ps_if (pt_cmpR op_gt (pv 1) (pe_globV (by rfl) T.MOST_TOLD) (nomark _)) (pss_one ps_never) pss_nil)
        (pss_one (ps_ret (pe_d D_AllCuttings hr (pa_cons (pv 0) pa_nil)))))), ?_⟩
    have e0 : start N_Cuttings [.int D] = [some (.int D), none] := rfl
    rw [e0]
    simp only [cxK, wipe, tYes, List.map_cons, List.map_nil, rIxL, rSum, tSl, rSlL, tNoPart, tPart, exists_and_left, and_assoc, V.ref.injEq, HO.lst.injEq, HO.tup.injEq, tFor_eq, iRng1, iRng2, iList, iTup, tLc_eq, tLst, tTup, gSub, rSetL, gT, gL, gTup, gCons, gNil, atI_0, atI_1, atI_2, atI_3, List.length_cons, List.length_nil, Nat.zero_add, Nat.reduceAdd, Nat.reduceLeDiff, ixN_30, ixN_31, ixN_32, Int.reduceLT, Int.reduceLE, Int.reduceNeg, upd_same, reduceCtorEq, false_and, exists_false, or_false, false_or, tSeq, tNext, tIfS, tRet, tRetN, tDrop, tAsg, gName, tPar, tPar3, tAug, ipI, tVar, tC, tOp, tUn, tCB, tD, tDK, tCons, tNil, rI, rI0, rU, tB, tTest, tCallS, tErr, tAnd, tOr, tNot, tAndV, tOrV, tNotV, tIf, rEq, rNe, scal_ii, scal_bb, scal_ss, rGcd_eq, tBits, List.set_cons_zero, List.set_cons_succ, List.getElem?_cons_zero, List.getElem?_cons_succ, Option.some.injEq, exists_eq_left', V.int.injEq, V.bl.injEq, V.str.injEq, true_and, and_true, decide_eq_true_eq, List.cons.injEq, exists_eq_left, Bool.false_eq_true, if_false, if_true, ite_true, ite_false, Bool.not_eq_true', decide_eq_false_iff_not, Bool.not_not]
    have h5 := hM.1
    refine ⟨D, rfl, hM, hD, fun H1 s1 => ?_⟩
    rw [← cutsL_len (by omega)]
    refine ⟨_, rfl, ?_⟩
    rw [if_neg (by omega)]
    refine ⟨D, rfl, hM, hD, by omega, fun p ls H2 np s2 e2 hQ => ?_⟩
    exact kk p ls H2 (s1.free np) (s1.trans s2) e2 hQ

theorem okLawWith {f : Addr} {fd : FuncData} (F : Fun K "_law_with" "_law_with" s_LawWith f fd) (T : Txt K mg) {fLawCommon : Addr} {fdLawCommon : FuncData} (D_LawCommon : DefAt P w K mg base 1 "_law_common" fLawCommon fdLawCommon ["_law_one", "_law_other"] (spCommon)) {fLawIsCutting : Addr} {fdLawIsCutting : FuncData} (D_LawIsCutting : DefAt P w K mg base 2 "_law_is_cutting" fLawIsCutting fdLawIsCutting ["_law_a", "_law_b", "_law_c", "_law_e"] (spLawIsCutting)) : FnOk P w K mg base CX0 3 f fd ["_law_measure_here", "_law_e"] (spLawWith) := by
  refine F.ok scLawWith (fun vs H Q E h => ?_) (fun cdv A outer s H vs Q E hr h => ?_)
  · obtain ⟨D, e, rfl, _⟩ := h
    rfl
  · obtain ⟨D, e, rfl, hM, hD, he, kk⟩ := h
    refine ⟨_, (pss_cons (ps_par (i := 2) (j := 3) rfl scLawWith.nd rfl rfl (by decide) rfl rfl (pa_cons (pe_lst pa_nil) (pa_cons (pe_op op_sub (pv 0) (pe_op op_mulU (pv 1) (pv 1))) pa_nil)) rfl)
        (pss_cons (ps_if (PW.pt (pw_or (pt_cmpR op_le (pv 3) pe_int (nomark _)) (pw_or1 (pt_cmpR op_ne (pe_op op_mod (pe_callTy cr_int (by rfl) T.int (by decide +kernel) (pa_cons (pv 3) pa_nil)) pe_int) pe_int (nomark _))))) (pss_one (ps_ret (pe_lst pa_nil))) pss_nil)
        (pss_cons (ps_for PassesOwn.never rfl (pi_range2 rfl T.range (pa_cons pe_int (pa_cons (pe_op op_add (pe_op op_fdivX (pv 3) pe_int) pe_int) pa_nil))) (pg_name (i := 4) scLawWith.nd rfl (Or.inl rfl)) (pss_one (ps_if (pt_cmpR op_eq (pe_op op_mod (pe_callTy cr_int (by rfl) T.int (by decide +kernel) (pa_cons (pe_op op_fdivX (pv 3) pe_int) pa_nil)) (pv 4)) pe_int (nomark _)) (pss_cons (ps_set (i := 5) scLawWith.nd rfl (Or.inl rfl) (pe_op op_fdivX (pe_op op_fdivX (pv 3) pe_int) (pv 4)))
        (pss_one (ps_for PassesOwn.never rfl (pi_range1 rfl T.range (pa_cons (pe_d D_LawCommon hr (pa_cons (pv 5) (pa_cons (pv 4) pa_nil))) pa_nil)) (pg_name (i := 6) scLawWith.nd rfl (Or.inl rfl)) (pss_one (ps_if (pt_val (pe_d D_LawIsCutting hr (pa_cons (pv 6) (pa_cons (pv 5) (pa_cons (pv 4) (pa_cons (pv 1) pa_nil)))))) (pss_one (ps_expr (pe_bm PySem.F.plainAttrs_list PySem.F.slot_list_append PySem.F.type_list_append mt_append (pv 2) (pa_cons (pe_tup (pa_cons (pv 6) (pa_cons (pv 5) (pa_cons (pv 4) (pa_cons (pv 1) pa_nil))))) pa_nil)))) pss_nil))))) pss_nil)))
        (pss_one (ps_ret (pv 2)))))), ?_⟩
    have e0 : start N_LawWith [.int D, .int e] = [some (.int D), some (.int e), none, none, none, none, none] := rfl
    rw [e0]
    refine seq_gen fun C1 hC1 => ?_
    simp only [cxK, wipe, tYes, List.map_cons, List.map_nil, rIxL, rSum, tSl, rSlL, tNoPart, tPart, exists_and_left, and_assoc, V.ref.injEq, HO.lst.injEq, HO.tup.injEq, tFor_eq, iRng1, iRng2, iList, iTup, tLc_eq, tLst, tTup, gSub, rSetL, gT, gL, gTup, gCons, gNil, atI_0, atI_1, atI_2, atI_3, List.length_cons, List.length_nil, Nat.zero_add, Nat.reduceAdd, Nat.reduceLeDiff, ixN_30, ixN_31, ixN_32, Int.reduceLT, Int.reduceLE, Int.reduceNeg, upd_same, reduceCtorEq, false_and, exists_false, or_false, false_or, tNext, tIfS, tRet, tRetN, tDrop, tAsg, gName, tPar, tPar3, tAug, ipI, tVar, tC, tOp, tUn, tCB, tD, tDK, tCons, tNil, rI, rI0, rU, tB, tTest, tCallS, tErr, tAnd, tOr, tNot, tAndV, tOrV, tNotV, tIf, rEq, rNe, scal_ii, scal_bb, scal_ss, rGcd_eq, tBits, List.set_cons_zero, List.set_cons_succ, List.getElem?_cons_zero, List.getElem?_cons_succ, Option.some.injEq, exists_eq_left', V.int.injEq, V.bl.injEq, V.str.injEq, true_and, and_true, decide_eq_true_eq, List.cons.injEq, exists_eq_left, Bool.false_eq_true, if_false, if_true, ite_true, ite_false, Bool.not_eq_true', decide_eq_false_iff_not, Bool.not_not]
    have h5 := hM.1
    refine ⟨sml (by decide), fun pf nf => ⟨okm he he (by decide) (by decide), ?_⟩⟩
    refine Eq.mpr (hC1 _ _) ?_
    refine seq_gen fun C2 hC2 => ?_
    simp only [cxK, wipe, tYes, List.map_cons, List.map_nil, rIxL, rSum, tSl, rSlL, tNoPart, tPart, exists_and_left, and_assoc, V.ref.injEq, HO.lst.injEq, HO.tup.injEq, tFor_eq, iRng1, iRng2, iList, iTup, tLc_eq, tLst, tTup, gSub, rSetL, gT, gL, gTup, gCons, gNil, atI_0, atI_1, atI_2, atI_3, List.length_cons, List.length_nil, Nat.zero_add, Nat.reduceAdd, Nat.reduceLeDiff, ixN_30, ixN_31, ixN_32, Int.reduceLT, Int.reduceLE, Int.reduceNeg, upd_same, reduceCtorEq, false_and, exists_false, or_false, false_or, tNext, tIfS, tRet, tRetN, tDrop, tAsg, gName, tPar, tPar3, tAug, ipI, tVar, tC, tOp, tUn, tCB, tD, tDK, tCons, tNil, rI, rI0, rU, tB, tTest, tCallS, tErr, tAnd, tOr, tNot, tAndV, tOrV, tNotV, tIf, rEq, rNe, scal_ii, scal_bb, scal_ss, rGcd_eq, tBits, List.set_cons_zero, List.set_cons_succ, List.getElem?_cons_zero, List.getElem?_cons_succ, Option.some.injEq, exists_eq_left', V.int.injEq, V.bl.injEq, V.str.injEq, true_and, and_true, decide_eq_true_eq, List.cons.injEq, exists_eq_left, Bool.false_eq_true, if_false, if_true, ite_true, ite_false, Bool.not_eq_true', decide_eq_false_iff_not, Bool.not_not]
    have four : ∀ x : Int, x.fdiv 4 = x / 4 := fun x => Int.fdiv_eq_ediv_of_nonneg _ (by decide)
    by_cases hc : D - e * e ≤ 0 ∨ ¬ (D - e * e) % 4 = 0
    · have out : ∀ J, Same H J → J = upd H pf (.lst []) → ∀ p, J p = none → Q (.ref p) (upd J p (.lst [])) := fun J sJ _ p np => kk p [] _ (sJ.free np) (sJ.trans (Same.upd np)) upd_same (by unfold withE; rw [if_pos hc]; exact .nil)
      have out2 := out _ (Same.upd nf) rfl
      rcases hc with hc | hc
      · rw [if_pos hc]
        exact ⟨sml (by decide), out2⟩
      · by_cases hc2 : D - e * e ≤ 0
        · rw [if_pos hc2]
          exact ⟨sml (by decide), out2⟩
        · rw [if_neg hc2, if_pos hc]
          exact ⟨sml (by decide), out2⟩
    · have h4 : (D - e * e) % 4 = 0 := by
        by_cases h4 : (D - e * e) % 4 = 0
        · exact h4
        · exact absurd (.inr h4) hc
      have he2 : 0 < D - e * e := by
        by_cases he2 : 0 < D - e * e
        · exact he2
        · exact absurd (.inl (by omega)) hc
      rw [if_neg (by omega), if_neg (fun z => z h4)]
      refine Eq.mpr (hC2 _ _) ?_
      refine seq_gen fun C3 hC3 => ?_
      simp only [cxK, wipe, tYes, List.map_cons, List.map_nil, rIxL, rSum, tSl, rSlL, tNoPart, tPart, exists_and_left, and_assoc, V.ref.injEq, HO.lst.injEq, HO.tup.injEq, tFor_eq, iRng1, iRng2, iList, iTup, tLc_eq, tLst, tTup, gSub, rSetL, gT, gL, gTup, gCons, gNil, atI_0, atI_1, atI_2, atI_3, List.length_cons, List.length_nil, Nat.zero_add, Nat.reduceAdd, Nat.reduceLeDiff, ixN_30, ixN_31, ixN_32, Int.reduceLT, Int.reduceLE, Int.reduceNeg, upd_same, reduceCtorEq, false_and, exists_false, or_false, false_or, tNext, tIfS, tRet, tRetN, tDrop, tAsg, gName, tPar, tPar3, tAug, ipI, tVar, tC, tOp, tUn, tCB, tD, tDK, tCons, tNil, rI, rI0, rU, tB, tTest, tCallS, tErr, tAnd, tOr, tNot, tAndV, tOrV, tNotV, tIf, rEq, rNe, scal_ii, scal_bb, scal_ss, rGcd_eq, tBits, List.set_cons_zero, List.set_cons_succ, List.getElem?_cons_zero, List.getElem?_cons_succ, Option.some.injEq, exists_eq_left', V.int.injEq, V.bl.injEq, V.str.injEq, true_and, and_true, decide_eq_true_eq, List.cons.injEq, exists_eq_left, Bool.false_eq_true, if_false, if_true, ite_true, ite_false, Bool.not_eq_true', decide_eq_false_iff_not, Bool.not_not]
      rw [four, show (D - e * e) / 4 = qn D e from rfl]
      have hee := sq_nonneg' e
      have hqd : qn D e ≤ 900 ∧ 0 ≤ qn D e := by unfold qn; omega
      refine ⟨cdiv (by decide) (by decide) (by decide), by decide, by decide, by omega, by omega, ?_⟩
      rw [show (qn D e + 1 - 1).toNat = (qn D e).toNat by omega]
      refine forW_range (InvW1 D e pf H) ⟨none, none, none, rfl, Same.upd nf, [], upd_same, .nil⟩ ?_ (fun σ' H2 z => ?_)
      · rintro i σ' H2 hi ⟨t4, t5, t6, rfl, zi⟩
        simp only [cxK, wipe, tYes, List.map_cons, List.map_nil, rIxL, rSum, tSl, rSlL, tNoPart, tPart, exists_and_left, and_assoc, V.ref.injEq, HO.lst.injEq, HO.tup.injEq, tFor_eq, iRng1, iRng2, iList, iTup, tLc_eq, tLst, tTup, gSub, rSetL, gT, gL, gTup, gCons, gNil, atI_0, atI_1, atI_2, atI_3, List.length_cons, List.length_nil, Nat.zero_add, Nat.reduceAdd, Nat.reduceLeDiff, ixN_30, ixN_31, ixN_32, Int.reduceLT, Int.reduceLE, Int.reduceNeg, upd_same, reduceCtorEq, false_and, exists_false, or_false, false_or, tNext, tIfS, tRet, tRetN, tDrop, tAsg, gName, tPar, tPar3, tAug, ipI, tVar, tC, tOp, tUn, tCB, tD, tDK, tCons, tNil, rI, rI0, rU, tB, tTest, tCallS, tErr, tAnd, tOr, tNot, tAndV, tOrV, tNotV, tIf, rEq, rNe, scal_ii, scal_bb, scal_ss, rGcd_eq, tBits, List.set_cons_zero, List.set_cons_succ, List.getElem?_cons_zero, List.getElem?_cons_succ, Option.some.injEq, exists_eq_left', V.int.injEq, V.bl.injEq, V.str.injEq, true_and, and_true, decide_eq_true_eq, List.cons.injEq, exists_eq_left, Bool.false_eq_true, if_false, if_true, ite_true, ite_false, Bool.not_eq_true', decide_eq_false_iff_not, Bool.not_not]
        refine ⟨cdiv (by decide) (by decide) (by decide), by omega, ?_⟩
        rw [four, show (D - e * e) / 4 = qn D e from rfl]
        rw [show (1 : Int) + (i : Int) = (i : Int) + 1 by omega]
        by_cases hd : qn D e % ((i : Int) + 1) = 0
        · rw [if_pos hd]
          refine seq_gen fun C4 hC4 => ?_
          simp only [cxK, wipe, tYes, List.map_cons, List.map_nil, rIxL, rSum, tSl, rSlL, tNoPart, tPart, exists_and_left, and_assoc, V.ref.injEq, HO.lst.injEq, HO.tup.injEq, tFor_eq, iRng1, iRng2, iList, iTup, tLc_eq, tLst, tTup, gSub, rSetL, gT, gL, gTup, gCons, gNil, atI_0, atI_1, atI_2, atI_3, List.length_cons, List.length_nil, Nat.zero_add, Nat.reduceAdd, Nat.reduceLeDiff, ixN_30, ixN_31, ixN_32, Int.reduceLT, Int.reduceLE, Int.reduceNeg, upd_same, reduceCtorEq, false_and, exists_false, or_false, false_or, tNext, tIfS, tRet, tRetN, tDrop, tAsg, gName, tPar, tPar3, tAug, ipI, tVar, tC, tOp, tUn, tCB, tD, tDK, tCons, tNil, rI, rI0, rU, tB, tTest, tCallS, tErr, tAnd, tOr, tNot, tAndV, tOrV, tNotV, tIf, rEq, rNe, scal_ii, scal_bb, scal_ss, rGcd_eq, tBits, List.set_cons_zero, List.set_cons_succ, List.getElem?_cons_zero, List.getElem?_cons_succ, Option.some.injEq, exists_eq_left', V.int.injEq, V.bl.injEq, V.str.injEq, true_and, and_true, decide_eq_true_eq, List.cons.injEq, exists_eq_left, Bool.false_eq_true, if_false, if_true, ite_true, ite_false, Bool.not_eq_true', decide_eq_false_iff_not, Bool.not_not]
          refine ⟨cdiv (by decide) (by decide) (by decide), cdiv (by omega) (by omega) (by omega), ?_⟩
          refine Eq.mpr (hC4 _ _) ?_
          rw [four, show (D - e * e) / 4 = qn D e from rfl, show (qn D e).fdiv ((i : Int) + 1) = qn D e / ((i : Int) + 1) from Int.fdiv_eq_ediv_of_nonneg _ (by omega)]
          obtain ⟨b, hb⟩ : ∃ b : Int, b = qn D e / ((i : Int) + 1) := ⟨_, rfl⟩
          rw [← hb]
          have hg1 := gcdI_pos (a := b) (b := (i : Int) + 1) (by omega)
          have hg2 := gcdI_le (a := b) (b := (i : Int) + 1) (by omega)
          simp only [cxK, wipe, tYes, List.map_cons, List.map_nil, rIxL, rSum, tSl, rSlL, tNoPart, tPart, exists_and_left, and_assoc, V.ref.injEq, HO.lst.injEq, HO.tup.injEq, tFor_eq, iRng1, iRng2, iList, iTup, tLc_eq, tLst, tTup, gSub, rSetL, gT, gL, gTup, gCons, gNil, atI_0, atI_1, atI_2, atI_3, List.length_cons, List.length_nil, Nat.zero_add, Nat.reduceAdd, Nat.reduceLeDiff, ixN_30, ixN_31, ixN_32, Int.reduceLT, Int.reduceLE, Int.reduceNeg, upd_same, reduceCtorEq, false_and, exists_false, or_false, false_or, tNext, tIfS, tRet, tRetN, tDrop, tAsg, gName, tPar, tPar3, tAug, ipI, tVar, tC, tOp, tUn, tCB, tD, tDK, tCons, tNil, rI, rI0, rU, tB, tTest, tCallS, tErr, tAnd, tOr, tNot, tAndV, tOrV, tNotV, tIf, rEq, rNe, scal_ii, scal_bb, scal_ss, rGcd_eq, tBits, List.set_cons_zero, List.set_cons_succ, List.getElem?_cons_zero, List.getElem?_cons_succ, Option.some.injEq, exists_eq_left', V.int.injEq, V.bl.injEq, V.str.injEq, true_and, and_true, decide_eq_true_eq, List.cons.injEq, exists_eq_left, Bool.false_eq_true, if_false, if_true, ite_true, ite_false, Bool.not_eq_true', decide_eq_false_iff_not, Bool.not_not]
          refine ⟨_, _, rfl, _, rfl, by omega, by omega, ?_⟩
          refine forW_range (InvW2 D e b ((i : Int) + 1) pf i H) ⟨t6, rfl, ?_⟩ ?_ (fun σ3 H3 z => ?_)
          · obtain ⟨sB, ls, eB, hQ⟩ := zi
            exact ⟨sB, ls, eB, by simp only [lawEk, List.range_zero, List.filter_nil, List.map_nil, List.append_nil]; exact hQ⟩
          · rintro j σ3 H3 hj ⟨t6', rfl, zj⟩
            simp only [cxK, wipe, tYes, List.map_cons, List.map_nil, rIxL, rSum, tSl, rSlL, tNoPart, tPart, exists_and_left, and_assoc, V.ref.injEq, HO.lst.injEq, HO.tup.injEq, tFor_eq, iRng1, iRng2, iList, iTup, tLc_eq, tLst, tTup, gSub, rSetL, gT, gL, gTup, gCons, gNil, atI_0, atI_1, atI_2, atI_3, List.length_cons, List.length_nil, Nat.zero_add, Nat.reduceAdd, Nat.reduceLeDiff, ixN_30, ixN_31, ixN_32, Int.reduceLT, Int.reduceLE, Int.reduceNeg, upd_same, reduceCtorEq, false_and, exists_false, or_false, false_or, tNext, tIfS, tRet, tRetN, tDrop, tAsg, gName, tPar, tPar3, tAug, ipI, tVar, tC, tOp, tUn, tCB, tD, tDK, tCons, tNil, rI, rI0, rU, tB, tTest, tCallS, tErr, tAnd, tOr, tNot, tAndV, tOrV, tNotV, tIf, rEq, rNe, scal_ii, scal_bb, scal_ss, rGcd_eq, tBits, List.set_cons_zero, List.set_cons_succ, List.getElem?_cons_zero, List.getElem?_cons_succ, Option.some.injEq, exists_eq_left', V.int.injEq, V.bl.injEq, V.str.injEq, true_and, and_true, decide_eq_true_eq, List.cons.injEq, exists_eq_left, Bool.false_eq_true, if_false, if_true, ite_true, ite_false, Bool.not_eq_true', decide_eq_false_iff_not, Bool.not_not, tBM]
            refine ⟨_, _, _, _, rfl, _, rfl, ?_⟩
            rw [Int.zero_add]
            by_cases hok : CutOk (j : Int) b ((i : Int) + 1) e = true
            · rw [if_pos hok]
              obtain ⟨_, eH3, _⟩ := zj.2
              refine ⟨.inl ⟨rfl, _, SqL.of eH3⟩, sml (by decide), fun p np => ?_⟩
              have hpre : ((fun j => (midsL (qn D e) i).flatMap (lawE e) ++ lawEk e (b, (i : Int) + 1) j) j).length < sizeLine := by
                have a1 := flat_le (n := qn D e) (e := e) (i := i) (by omega)
                have a2 := lawEk_le e (b, (i : Int) + 1) j
                simp only [List.length_append]
                exact Nat.lt_of_lt_of_le (show _ < 2000000 by omega) (Nat.le_of_ble_eq_true rfl)
              obtain ⟨acc, g1, g2, g3⟩ := InvQs.push zj nf (Same.upd np) (e := upd_same) (q := ((j : Int), b, (i : Int) + 1, e)) (by simp only [lawEk_succ, if_pos hok, ← List.append_assoc]) hpre
              refine ⟨pf, _, _, rfl, rfl, g1, g2, ?_⟩
              exact ⟨_, rfl, g3⟩
            · rw [if_neg hok]
              refine ⟨_, rfl, zj.1, ?_⟩
              obtain ⟨ls, eB, hQ⟩ := zj.2
              exact ⟨ls, eB, by simp only [lawEk_succ, if_neg hok, List.append_nil]; exact hQ⟩
          · obtain ⟨t6', rfl, sB, ls, eB, hQ⟩ := z
            refine ⟨_, _, _, rfl, sB, ls, eB, ?_⟩
            simp only [midsL_succ, if_pos hd, List.flatMap_append, List.flatMap_cons, List.flatMap_nil, List.append_nil, ← hb]
            exact hQ
        · rw [if_neg hd]
          refine ⟨_, _, _, rfl, zi.1, ?_⟩
          obtain ⟨ls, eB, hQ⟩ := zi.2
          exact ⟨ls, eB, by simp only [midsL_succ, if_neg hd, List.append_nil]; exact hQ⟩
      · obtain ⟨t4, t5, t6, rfl, z⟩ := z
        refine Eq.mpr (hC3 _ _) ?_
        simp only [cxK, wipe, tYes, List.map_cons, List.map_nil, rIxL, rSum, tSl, rSlL, tNoPart, tPart, exists_and_left, and_assoc, V.ref.injEq, HO.lst.injEq, HO.tup.injEq, tFor_eq, iRng1, iRng2, iList, iTup, tLc_eq, tLst, tTup, gSub, rSetL, gT, gL, gTup, gCons, gNil, atI_0, atI_1, atI_2, atI_3, List.length_cons, List.length_nil, Nat.zero_add, Nat.reduceAdd, Nat.reduceLeDiff, ixN_30, ixN_31, ixN_32, Int.reduceLT, Int.reduceLE, Int.reduceNeg, upd_same, reduceCtorEq, false_and, exists_false, or_false, false_or, tNext, tIfS, tRet, tRetN, tDrop, tAsg, gName, tPar, tPar3, tAug, ipI, tVar, tC, tOp, tUn, tCB, tD, tDK, tCons, tNil, rI, rI0, rU, tB, tTest, tCallS, tErr, tAnd, tOr, tNot, tAndV, tOrV, tNotV, tIf, rEq, rNe, scal_ii, scal_bb, scal_ss, rGcd_eq, tBits, List.set_cons_zero, List.set_cons_succ, List.getElem?_cons_zero, List.getElem?_cons_succ, Option.some.injEq, exists_eq_left', V.int.injEq, V.bl.injEq, V.str.injEq, true_and, and_true, decide_eq_true_eq, List.cons.injEq, exists_eq_left, Bool.false_eq_true, if_false, if_true, ite_true, ite_false, Bool.not_eq_true', decide_eq_false_iff_not, Bool.not_not]
        obtain ⟨sB, ls, eB, hQ⟩ := z
        exact kk pf ls H2 nf sB eB (by unfold withE; rw [if_neg hc]; exact hQ)

theorem okLawTurns {f : Addr} {fd : FuncData} (F : Fun K "_law_turns" "_law_turns" s_LawTurns f fd) (T : Txt K mg) : FnOk P w K mg base CX0 1 f fd ["_law_measure_here"] (spLawTurns) := by
  refine F.ok scLawTurns (fun vs H Q E h => ?_) (fun cdv A outer s H vs Q E hr h => ?_)
  · obtain ⟨D, rfl, _⟩ := h
    rfl
  · obtain ⟨D, rfl, hD, kk⟩ := h
    refine ⟨_, (pss_one (ps_ret (pe_lc (own := [("_law_e", 1)]) (g := gName 1) rfl scLawTurns.nd (pi_range2 rfl T.range (pa_cons (pe_un un_neg pe_int) (pa_cons pe_int pa_nil))) (blkOk_by (N := N_LawTurns) (sc := defScope s_LawTurns) (by decide +kernel)) (fun _ _ _ _ _ => pg_name (i := 1) scLawTurns.nd rfl (Or.inl rfl)) (fun _ _ _ _ _ => (pts_one (pt_cmpR op_lt (pe_op op_mulU (pv 1) (pv 1)) (pv 0) (nomark _)))) (fun _ _ _ _ _ => (pv 1))))), ?_⟩
    have e0 : start N_LawTurns [.int D] = [some (.int D), none] := rfl
    rw [e0]
    simp only [cxK, wipe, tYes, List.map_cons, List.map_nil, rIxL, rSum, tSl, rSlL, tNoPart, tPart, exists_and_left, and_assoc, V.ref.injEq, HO.lst.injEq, HO.tup.injEq, tFor_eq, iRng1, iRng2, iList, iTup, tLc_eq, tLst, tTup, gSub, rSetL, gT, gL, gTup, gCons, gNil, atI_0, atI_1, atI_2, atI_3, List.length_cons, List.length_nil, Nat.zero_add, Nat.reduceAdd, Nat.reduceLeDiff, ixN_30, ixN_31, ixN_32, Int.reduceLT, Int.reduceLE, Int.reduceNeg, upd_same, reduceCtorEq, false_and, exists_false, or_false, false_or, tSeq, tNext, tIfS, tRet, tRetN, tDrop, tAsg, gName, tPar, tPar3, tAug, ipI, tVar, tC, tOp, tUn, tCB, tD, tDK, tCons, tNil, rI, rI0, rU, tB, tTest, tCallS, tErr, tAnd, tOr, tNot, tAndV, tOrV, tNotV, tIf, rEq, rNe, scal_ii, scal_bb, scal_ss, rGcd_eq, tBits, List.set_cons_zero, List.set_cons_succ, List.getElem?_cons_zero, List.getElem?_cons_succ, Option.some.injEq, exists_eq_left', V.int.injEq, V.bl.injEq, V.str.injEq, true_and, and_true, decide_eq_true_eq, List.cons.injEq, exists_eq_left, Bool.false_eq_true, if_false, if_true, ite_true, ite_false, Bool.not_eq_true', decide_eq_false_iff_not, Bool.not_not]
    refine ⟨by decide, by decide, by decide, by decide, fun Dd nD => ?_⟩
    refine lcW_range (InvTu D H Dd) ⟨Same.upd nD, upd_same⟩ (fun i HB hi z => ?_) (fun HB z => ?_)
    · refine ⟨rfl, ?_⟩
      simp only [cxK, wipe, tYes, List.map_cons, List.map_nil, rIxL, rSum, tSl, rSlL, tNoPart, tPart, exists_and_left, and_assoc, V.ref.injEq, HO.lst.injEq, HO.tup.injEq, tFor_eq, iRng1, iRng2, iList, iTup, tLc_eq, tLst, tTup, gSub, rSetL, gT, gL, gTup, gCons, gNil, atI_0, atI_1, atI_2, atI_3, List.length_cons, List.length_nil, Nat.zero_add, Nat.reduceAdd, Nat.reduceLeDiff, ixN_30, ixN_31, ixN_32, Int.reduceLT, Int.reduceLE, Int.reduceNeg, upd_same, reduceCtorEq, false_and, exists_false, or_false, false_or, tSeq, tNext, tIfS, tRet, tRetN, tDrop, tAsg, gName, tPar, tPar3, tAug, ipI, tVar, tC, tOp, tUn, tCB, tD, tDK, tCons, tNil, rI, rI0, rU, tB, tTest, tCallS, tErr, tAnd, tOr, tNot, tAndV, tOrV, tNotV, tIf, rEq, rNe, scal_ii, scal_bb, scal_ss, rGcd_eq, tBits, List.set_cons_zero, List.set_cons_succ, List.getElem?_cons_zero, List.getElem?_cons_succ, Option.some.injEq, exists_eq_left', V.int.injEq, V.bl.injEq, V.str.injEq, true_and, and_true, decide_eq_true_eq, List.cons.injEq, exists_eq_left, Bool.false_eq_true, if_false, if_true, ite_true, ite_false, Bool.not_eq_true', decide_eq_false_iff_not, Bool.not_not]
      have hi2 : i < 121 := hi
      rw [show (-60 : Int) + (i : Int) = (i : Int) - 60 by omega]
      refine ⟨cml (by omega) (by omega), ?_⟩
      obtain ⟨sB, eB⟩ := z
      by_cases h : ((i : Int) - 60) * ((i : Int) - 60) < D
      · rw [if_pos h]
        have := turnsL_le D i
        refine ⟨_, eB, small1000 (by rw [List.length_map]; omega), Same.upd2 sB nD, ?_⟩
        rw [upd_same, turnsL_succ, if_pos h, List.map_append]
        rfl
      · rw [if_neg h]
        refine ⟨sB, ?_⟩
        rw [turnsL_succ, if_neg h, List.append_nil]
        exact eB
    · exact kk Dd HB nD z.1 z.2

theorem okLawAll {f : Addr} {fd : FuncData} (F : Fun K "_law_all" "_law_all" s_LawAll f fd) (T : Txt K mg) {fLawTurns : Addr} {fdLawTurns : FuncData} (D_LawTurns : DefAt P w K mg base 1 "_law_turns" fLawTurns fdLawTurns ["_law_measure_here"] (spLawTurns)) {fLawWith : Addr} {fdLawWith : FuncData} (D_LawWith : DefAt P w K mg base 3 "_law_with" fLawWith fdLawWith ["_law_measure_here", "_law_e"] (spLawWith)) : FnOk P w K mg base CX0 4 f fd ["_law_measure_here"] (spLawAll) := by
  refine F.ok scLawAll (fun vs H Q E h => ?_) (fun cdv A outer s H vs Q E hr h => ?_)
  · obtain ⟨D, rfl, _⟩ := h
    rfl
  · obtain ⟨D, rfl, hM, hD, kk⟩ := h
    refine ⟨_, (pss_cons (ps_set (i := 1) scLawAll.nd rfl (Or.inl rfl) (pe_lst pa_nil))
        (pss_cons (ps_for PassesOwn.never rfl (pi_list (pe_d D_LawTurns hr (pa_cons (pv 0) pa_nil))) (pg_name (i := 2) scLawAll.nd rfl (Or.inl rfl)) (pss_one (ps_set (i := 1) scLawAll.nd rfl (Or.inl rfl) (pe_op op_cat (pv 1) (pe_d D_LawWith hr (pa_cons (pv 0) (pa_cons (pv 2) pa_nil)))))))
        (pss_one (ps_ret (pe_callB cr_sortedTK (by rfl) T.sorted (by decide +kernel) (pa_cons (pv 1) pa_nil)))))), ?_⟩
    have e0 : start N_LawAll [.int D] = [some (.int D), none, none] := rfl
    rw [e0]
    refine seq_gen fun C1 hC1 => ?_
    simp only [cxK, wipe, tYes, List.map_cons, List.map_nil, rIxL, rSum, tSl, rSlL, tNoPart, tPart, exists_and_left, and_assoc, V.ref.injEq, HO.lst.injEq, HO.tup.injEq, tFor_eq, iRng1, iRng2, iList, iTup, tLc_eq, tLst, tTup, gSub, rSetL, gT, gL, gTup, gCons, gNil, atI_0, atI_1, atI_2, atI_3, List.length_cons, List.length_nil, Nat.zero_add, Nat.reduceAdd, Nat.reduceLeDiff, ixN_30, ixN_31, ixN_32, Int.reduceLT, Int.reduceLE, Int.reduceNeg, upd_same, reduceCtorEq, false_and, exists_false, or_false, false_or, tNext, tIfS, tRet, tRetN, tDrop, tAsg, gName, tPar, tPar3, tAug, ipI, tVar, tC, tOp, tUn, tCB, tD, tDK, tCons, tNil, rI, rI0, rU, tB, tTest, tCallS, tErr, tAnd, tOr, tNot, tAndV, tOrV, tNotV, tIf, rEq, rNe, scal_ii, scal_bb, scal_ss, rGcd_eq, tBits, List.set_cons_zero, List.set_cons_succ, List.getElem?_cons_zero, List.getElem?_cons_succ, Option.some.injEq, exists_eq_left', V.int.injEq, V.bl.injEq, V.str.injEq, true_and, and_true, decide_eq_true_eq, List.cons.injEq, exists_eq_left, Bool.false_eq_true, if_false, if_true, ite_true, ite_false, Bool.not_eq_true', decide_eq_false_iff_not, Bool.not_not]
    have h5 := hM.1
    refine ⟨sml (by decide), fun pf nf => ?_⟩
    refine Eq.mpr (hC1 _ _) ?_
    refine seq_gen fun C2 hC2 => ?_
    simp only [cxK, wipe, tYes, List.map_cons, List.map_nil, rIxL, rSum, tSl, rSlL, tNoPart, tPart, exists_and_left, and_assoc, V.ref.injEq, HO.lst.injEq, HO.tup.injEq, tFor_eq, iRng1, iRng2, iList, iTup, tLc_eq, tLst, tTup, gSub, rSetL, gT, gL, gTup, gCons, gNil, atI_0, atI_1, atI_2, atI_3, List.length_cons, List.length_nil, Nat.zero_add, Nat.reduceAdd, Nat.reduceLeDiff, ixN_30, ixN_31, ixN_32, Int.reduceLT, Int.reduceLE, Int.reduceNeg, upd_same, reduceCtorEq, false_and, exists_false, or_false, false_or, tNext, tIfS, tRet, tRetN, tDrop, tAsg, gName, tPar, tPar3, tAug, ipI, tVar, tC, tOp, tUn, tCB, tD, tDK, tCons, tNil, rI, rI0, rU, tB, tTest, tCallS, tErr, tAnd, tOr, tNot, tAndV, tOrV, tNotV, tIf, rEq, rNe, scal_ii, scal_bb, scal_ss, rGcd_eq, tBits, List.set_cons_zero, List.set_cons_succ, List.getElem?_cons_zero, List.getElem?_cons_succ, Option.some.injEq, exists_eq_left', V.int.injEq, V.bl.injEq, V.str.injEq, true_and, and_true, decide_eq_true_eq, List.cons.injEq, exists_eq_left, Bool.false_eq_true, if_false, if_true, ite_true, ite_false, Bool.not_eq_true', decide_eq_false_iff_not, Bool.not_not]
    refine ⟨D, rfl, by omega, fun pt H1 nt s1 et => ?_⟩
    have ef := s1 _ _ (show upd H pf (.lst []) pf = some (.lst []) from upd_same)
    refine ⟨pt, rfl, ⟨_, SqL.of et⟩, ?_⟩
    refine forW_list (xs := (turnsL D 121).map V.int) (fun i σ H2 => InvA8 D H1 i σ H2) ⟨pf, [], none, rfl, Same.refl _, ef, by rw [List.take_zero]; exact .nil⟩ (fun i σ' H2 _ z => ?_) ?_ (fun σ' H2 z => ?_)
    · obtain ⟨_, _, _, _, s2, _⟩ := z
      exact SqL.of (s2 _ _ et)
    · rintro i x σ' H2 hx ⟨p, ls, t2, rfl, s2, ep, hQ⟩
      rw [List.getElem?_map] at hx
      obtain ⟨e, he, rfl⟩ := Option.map_eq_some_iff.mp hx
      obtain ⟨e1, e2, e3⟩ := turnsL_mem (List.mem_of_getElem? he)
      simp only [cxK, wipe, tYes, List.map_cons, List.map_nil, rIxL, rSum, tSl, rSlL, tNoPart, tPart, exists_and_left, and_assoc, V.ref.injEq, HO.lst.injEq, HO.tup.injEq, tFor_eq, iRng1, iRng2, iList, iTup, tLc_eq, tLst, tTup, gSub, rSetL, gT, gL, gTup, gCons, gNil, atI_0, atI_1, atI_2, atI_3, List.length_cons, List.length_nil, Nat.zero_add, Nat.reduceAdd, Nat.reduceLeDiff, ixN_30, ixN_31, ixN_32, Int.reduceLT, Int.reduceLE, Int.reduceNeg, upd_same, reduceCtorEq, false_and, exists_false, or_false, false_or, tSeq, tNext, tIfS, tRet, tRetN, tDrop, tAsg, gName, tPar, tPar3, tAug, ipI, tVar, tC, tOp, tUn, tCB, tD, tDK, tCons, tNil, rI, rI0, rU, tB, tTest, tCallS, tErr, tAnd, tOr, tNot, tAndV, tOrV, tNotV, tIf, rEq, rNe, scal_ii, scal_bb, scal_ss, rGcd_eq, tBits, List.set_cons_zero, List.set_cons_succ, List.getElem?_cons_zero, List.getElem?_cons_succ, Option.some.injEq, exists_eq_left', V.int.injEq, V.bl.injEq, V.str.injEq, true_and, and_true, decide_eq_true_eq, List.cons.injEq, exists_eq_left, Bool.false_eq_true, if_false, if_true, ite_true, ite_false, Bool.not_eq_true', decide_eq_false_iff_not, Bool.not_not]
      refine ⟨D, e, rfl, hM, by omega, by omega, fun q ms H3 nq s3 eq hQ3 => ?_⟩
      have hn := take_next (f := withE D) he
      have hw := wlen (i := i + 1) hM hD
      rw [hn, List.length_append] at hw
      have l1 := hQ.len
      have l2 := hQ3.len
      refine ⟨p, q, _, _, rfl, rfl, s3 _ _ ep, eq, Nat.le_trans (show _ ≤ 2000 by rw [List.length_map, List.length_map]; omega) (Nat.le_of_ble_eq_true rfl), fun r nr => ?_⟩
      have sr := Same.upd (o := .lst (ls.map V.ref ++ ms.map V.ref)) nr
      refine ⟨r, ls ++ ms, _, rfl, (s2.trans s3).trans sr, by rw [upd_same, List.map_append], ?_⟩
      rw [hn]
      exact ((hQ.same s3).append hQ3).same sr
    · obtain ⟨p, ls, t2, rfl, s2, ep, hQ⟩ := z
      rw [List.length_map, List.take_length, all_cuts hM (by omega)] at hQ
      refine Eq.mpr (hC2 _ _) ?_
      simp only [cxK, wipe, tYes, List.map_cons, List.map_nil, rIxL, rSum, tSl, rSlL, tNoPart, tPart, exists_and_left, and_assoc, V.ref.injEq, HO.lst.injEq, HO.tup.injEq, tFor_eq, iRng1, iRng2, iList, iTup, tLc_eq, tLst, tTup, gSub, rSetL, gT, gL, gTup, gCons, gNil, atI_0, atI_1, atI_2, atI_3, List.length_cons, List.length_nil, Nat.zero_add, Nat.reduceAdd, Nat.reduceLeDiff, ixN_30, ixN_31, ixN_32, Int.reduceLT, Int.reduceLE, Int.reduceNeg, upd_same, reduceCtorEq, false_and, exists_false, or_false, false_or, tSeq, tNext, tIfS, tRet, tRetN, tDrop, tAsg, gName, tPar, tPar3, tAug, ipI, tVar, tC, tOp, tUn, tCB, tD, tDK, tCons, tNil, rI, rI0, rU, tB, tTest, tCallS, tErr, tAnd, tOr, tNot, tAndV, tOrV, tNotV, tIf, rEq, rNe, scal_ii, scal_bb, scal_ss, rGcd_eq, tBits, List.set_cons_zero, List.set_cons_succ, List.getElem?_cons_zero, List.getElem?_cons_succ, Option.some.injEq, exists_eq_left', V.int.injEq, V.bl.injEq, V.str.injEq, true_and, and_true, decide_eq_true_eq, List.cons.injEq, exists_eq_left, Bool.false_eq_true, if_false, if_true, ite_true, ite_false, Bool.not_eq_true', decide_eq_false_iff_not, Bool.not_not]
      have s02 : Same H H2 := ((Same.upd nf).trans s1).trans s2
      refine sorted_quads ep hQ fun q ms H3 nq s3 e3 hQ3 => ?_
      exact kk q ms H3 (s02.free nq) (s02.trans s3) e3 hQ3

theorem okLawDrawnMeasure {f : Addr} {fd : FuncData} (F : Fun K "_law_drawn_measure" "_law_drawn_measure" s_LawDrawnMeasure f fd) (T : Txt K mg) {fLawRandom : Addr} {fdLawRandom : FuncData} (D_LawRandom : DefAt P w K mg base 2 "_law_random" fLawRandom fdLawRandom ["_law_generator_here", "_law_bound"] (spRandom)) : FnOk P w K mg base CX0 3 f fd ["_law_generator_here", "_law_most"] (spDrawnM8) := by
  refine F.ok scLawDrawnMeasure (fun vs H Q E h => ?_) (fun cdv A outer s H vs Q E hr h => ?_)
  · obtain ⟨g, n, k, rfl, _⟩ := h
    rfl
  · obtain ⟨g, n, k, rfl, hG, hk, hn1, hn2, kk⟩ := h
    refine ⟨_, (pss_cons (ps_set (i := 2) scLawDrawnMeasure.nd rfl (Or.inl rfl) (pe_op op_add (pe_op op_add pe_int (pe_op op_mulU pe_int (pe_d D_LawRandom hr (pa_cons (pv 0) (pa_cons (pv 1) pa_nil))))) (pe_d D_LawRandom hr (pa_cons (pv 0) (pa_cons pe_int pa_nil)))))
        (pss_one (ps_ret (pe_ifExp (pt_cmpR op_gt (pv 2) pe_int (nomark _)) (pv 2) pe_int)))), ?_⟩
    have e0 : start N_LawDrawnMeasure [.ref g, .int n] = [some (.ref g), some (.int n), none] := rfl
    rw [e0]
    simp only [cxK, wipe, tYes, List.map_cons, List.map_nil, rIxL, rSum, tSl, rSlL, tNoPart, tPart, exists_and_left, and_assoc, V.ref.injEq, HO.lst.injEq, HO.tup.injEq, tFor_eq, iRng1, iRng2, iList, iTup, tLc_eq, tLst, tTup, gSub, rSetL, gT, gL, gTup, gCons, gNil, atI_0, atI_1, atI_2, atI_3, List.length_cons, List.length_nil, Nat.zero_add, Nat.reduceAdd, Nat.reduceLeDiff, ixN_30, ixN_31, ixN_32, Int.reduceLT, Int.reduceLE, Int.reduceNeg, upd_same, reduceCtorEq, false_and, exists_false, or_false, false_or, tSeq, tNext, tIfS, tRet, tRetN, tDrop, tAsg, gName, tPar, tPar3, tAug, ipI, tVar, tC, tOp, tUn, tCB, tD, tDK, tCons, tNil, rI, rI0, rU, tB, tTest, tCallS, tErr, tAnd, tOr, tNot, tAndV, tOrV, tNotV, tIf, rEq, rNe, scal_ii, scal_bb, scal_ss, rGcd_eq, tBits, List.set_cons_zero, List.set_cons_succ, List.getElem?_cons_zero, List.getElem?_cons_succ, Option.some.injEq, exists_eq_left', V.int.injEq, V.bl.injEq, V.str.injEq, true_and, and_true, decide_eq_true_eq, List.cons.injEq, exists_eq_left, Bool.false_eq_true, if_false, if_true, ite_true, ite_false, Bool.not_eq_true', decide_eq_false_iff_not, Bool.not_not]
    refine ⟨g, n, k, rfl, hG, by omega, hn1, by omega, fun x H1 x0 x1 G1 K1 => ⟨x, rfl, cml (by decide) (by decide), ?_⟩⟩
    refine ⟨g, 2, k + 20, rfl, G1, by omega, by decide, by decide, fun y H2 y0 y1 G2 K2 => ⟨y, rfl, ?_⟩⟩
    refine ite2 (fun hc => ?_) (fun hc => ?_)
    · exact kk _ _ ⟨by omega, by omega⟩ (by omega) (G2.mono (by omega)) (K1.trans K2)
    · exact kk _ _ ⟨by decide, by decide⟩ (by omega) (G2.mono (by omega)) (K1.trans K2)

theorem okXCheckMeasure {f : Addr} {fd : FuncData} (F : Fun K "check_measure" "check_measure" s_CheckMeasure f fd) (T : Txt K mg) {C_InvalidMeasure f_InvalidMeasure : Addr} {fd_InvalidMeasure : FuncData} (E_InvalidMeasure : ErrN P w K mg base "InvalidMeasure" C_InvalidMeasure f_InvalidMeasure fd_InvalidMeasure) {fIsMeasure : Addr} {fdIsMeasure : FuncData} (D_IsMeasure : DefAt P w K mg base 2 "is_measure" fIsMeasure fdIsMeasure ["value"] (spIsMeasure)) : FnOk P w K mg base (L2.CX P w) 3 f fd ["measure"] (spCheckMeasureX C_InvalidMeasure) := by
  refine F.okX scCheckMeasure (fun vs H Q E h => ?_) (fun cdv A outer s H vs Q E hr h => ?_)
  · obtain ⟨x, rfl, _⟩ := h
    rfl
  · obtain ⟨x, rfl, hO, k1, k2⟩ := h
    refine ⟨_, (pss_one (ps_if (pt_not (pt_val (pe_d D_IsMeasure hr (pa_cons (pv 0) pa_nil)))) (pss_one (ps_raise rfl takes_def (pmk_err E_InvalidMeasure.c hr (pa_cons (pv 0) pa_nil)))) pss_nil)), ?_⟩
    have e0 : start N_CheckMeasure [x] = [some x] := rfl
    rw [e0]
    simp only [cxK, wipe, tYes, List.map_cons, List.map_nil, rIxL, rSum, tSl, rSlL, tNoPart, tPart, exists_and_left, and_assoc, V.ref.injEq, HO.lst.injEq, HO.tup.injEq, tFor_eq, iRng1, iRng2, iList, iTup, tLc_eq, tLst, tTup, gSub, rSetL, gT, gL, gTup, gCons, gNil, atI_0, atI_1, atI_2, atI_3, List.length_cons, List.length_nil, Nat.zero_add, Nat.reduceAdd, Nat.reduceLeDiff, ixN_30, ixN_31, ixN_32, Int.reduceLT, Int.reduceLE, Int.reduceNeg, upd_same, reduceCtorEq, false_and, exists_false, or_false, false_or, tSeq, tNext, tIfS, tRet, tRetN, tDrop, tAsg, gName, tPar, tPar3, tAug, ipI, tVar, tC, tOp, tUn, tCB, tD, tDK, tCons, tNil, rI, rI0, rU, tB, tTest, tCallS, tErr, tAnd, tOr, tNot, tAndV, tOrV, tNotV, tIf, rEq, rNe, scal_ii, scal_bb, scal_ss, rGcd_eq, tBits, List.set_cons_zero, List.set_cons_succ, List.getElem?_cons_zero, List.getElem?_cons_succ, Option.some.injEq, exists_eq_left', V.int.injEq, V.bl.injEq, V.str.injEq, true_and, and_true, decide_eq_true_eq, List.cons.injEq, exists_eq_left, Bool.false_eq_true, if_false, if_true, ite_true, ite_false, Bool.not_eq_true', decide_eq_false_iff_not, Bool.not_not]
    refine ⟨x, rfl, hO, _, rfl, ?_⟩
    cases hm : measB x with
    | true =>
      rw [if_neg (by decide)]
      exact k1 hm
    | false =>
      rw [if_pos rfl]
      exact (k2 hm).now (Same.refl _)

theorem okXCheckCutting {f : Addr} {fd : FuncData} (F : Fun K "check_cutting" "check_cutting" s_CheckCutting f fd) (T : Txt K mg) {C_InvalidCutting f_InvalidCutting : Addr} {fd_InvalidCutting : FuncData} (E_InvalidCutting : ErrN P w K mg base "InvalidCutting" C_InvalidCutting f_InvalidCutting fd_InvalidCutting) {fIsCutting : Addr} {fdIsCutting : FuncData} (D_IsCutting : DefAt P w K mg base 3 "is_cutting" fIsCutting fdIsCutting ["value"] (spIsCutting)) : FnOk P w K mg base (L2.CX P w) 4 f fd ["cutting"] (spCheckCutX C_InvalidCutting) := by
  refine F.okX scCheckCutting (fun vs H Q E h => ?_) (fun cdv A outer s H vs Q E hr h => ?_)
  · obtain ⟨x, rfl, _⟩ := h
    rfl
  · obtain ⟨x, rfl, hO, k1, k2⟩ := h
    refine ⟨_, (pss_one (ps_if (pt_not (pt_val (pe_d D_IsCutting hr (pa_cons (pv 0) pa_nil)))) (pss_one (ps_raise rfl takes_def (pmk_err E_InvalidCutting.c hr (pa_cons (pv 0) pa_nil)))) pss_nil)), ?_⟩
    have e0 : start N_CheckCutting [x] = [some x] := rfl
    rw [e0]
    simp only [cxK, wipe, tYes, List.map_cons, List.map_nil, rIxL, rSum, tSl, rSlL, tNoPart, tPart, exists_and_left, and_assoc, V.ref.injEq, HO.lst.injEq, HO.tup.injEq, tFor_eq, iRng1, iRng2, iList, iTup, tLc_eq, tLst, tTup, gSub, rSetL, gT, gL, gTup, gCons, gNil, atI_0, atI_1, atI_2, atI_3, List.length_cons, List.length_nil, Nat.zero_add, Nat.reduceAdd, Nat.reduceLeDiff, ixN_30, ixN_31, ixN_32, Int.reduceLT, Int.reduceLE, Int.reduceNeg, upd_same, reduceCtorEq, false_and, exists_false, or_false, false_or, tSeq, tNext, tIfS, tRet, tRetN, tDrop, tAsg, gName, tPar, tPar3, tAug, ipI, tVar, tC, tOp, tUn, tCB, tD, tDK, tCons, tNil, rI, rI0, rU, tB, tTest, tCallS, tErr, tAnd, tOr, tNot, tAndV, tOrV, tNotV, tIf, rEq, rNe, scal_ii, scal_bb, scal_ss, rGcd_eq, tBits, List.set_cons_zero, List.set_cons_succ, List.getElem?_cons_zero, List.getElem?_cons_succ, Option.some.injEq, exists_eq_left', V.int.injEq, V.bl.injEq, V.str.injEq, true_and, and_true, decide_eq_true_eq, List.cons.injEq, exists_eq_left, Bool.false_eq_true, if_false, if_true, ite_true, ite_false, Bool.not_eq_true', decide_eq_false_iff_not, Bool.not_not]
    refine ⟨x, rfl, hO, fun H1 s1 => ⟨_, rfl, ?_⟩⟩
    cases hm : cutB H x with
    | true =>
      rw [if_neg (by decide)]
      exact k1 hm _ s1
    | false =>
      rw [if_pos rfl]
      exact (k2 hm).now s1

theorem okXMeasureOf {f : Addr} {fd : FuncData} (F : Fun K "measure_of" "measure_of" s_MeasureOf f fd) (T : Txt K mg) {fxCheckCutting : Addr} {fdxCheckCutting : FuncData} (X_CheckCutting : DefX P w K mg base 4 "check_cutting" fxCheckCutting fdxCheckCutting ["cutting"] (spCheckCutX C_InvalidCutting)) : FnOk P w K mg base (L2.CX P w) 5 f fd ["cutting"] (spMeasX C_InvalidCutting) := by
  refine F.okX scMeasureOf (fun vs H Q E h => ?_) (fun cdv A outer s H vs Q E hr h => ?_)
  · obtain ⟨x, rfl, _⟩ := h
    rfl
  · obtain ⟨x, rfl, kk⟩ := h
    refine ⟨_, (pss_cons (ps_expr (pe_dS X_CheckCutting takes_def hr (pa_cons (pv 0) pa_nil)))
        (pss_cons (ps_asg (pv 0) (pg_tupT 4 rfl (pgs_cons (pg_name (i := 1) scMeasureOf.nd rfl (Or.inl rfl)) (pgs_cons (pg_name (i := 2) scMeasureOf.nd rfl (Or.inl rfl)) (pgs_cons (pg_name (i := 3) scMeasureOf.nd rfl (Or.inl rfl)) (pgs_cons (pg_name (i := 4) scMeasureOf.nd rfl (Or.inl rfl)) pgs_nil))))))
        (pss_one (ps_ret (pe_op op_add (pe_op op_mulU (pv 4) (pv 4)) (pe_op op_mulU (pe_op op_mulU pe_int (pv 2)) (pv 3))))))), ?_⟩
    have e0 : start N_MeasureOf [x] = [some x, none, none, none, none] := rfl
    rw [e0]
    rcases kk with ⟨hO, hc, hE⟩ | ⟨p, q, rfl, hC, hz, kk⟩
    · simp only [cxK, wipe, tYes, List.map_cons, List.map_nil, rIxL, rSum, tSl, rSlL, tNoPart, tPart, exists_and_left, and_assoc, V.ref.injEq, HO.lst.injEq, HO.tup.injEq, tFor_eq, iRng1, iRng2, iList, iTup, tLc_eq, tLst, tTup, gSub, rSetL, gT, gL, gTup, gCons, gNil, atI_0, atI_1, atI_2, atI_3, List.length_cons, List.length_nil, Nat.zero_add, Nat.reduceAdd, Nat.reduceLeDiff, ixN_30, ixN_31, ixN_32, Int.reduceLT, Int.reduceLE, Int.reduceNeg, upd_same, reduceCtorEq, false_and, exists_false, or_false, false_or, tSeq, tNext, tIfS, tRet, tRetN, tDrop, tAsg, gName, tPar, tPar3, tAug, ipI, tVar, tC, tOp, tUn, tCB, tD, tDK, tCons, tNil, rI, rI0, rU, tB, tTest, tCallS, tErr, tAnd, tOr, tNot, tAndV, tOrV, tNotV, tIf, rEq, rNe, scal_ii, scal_bb, scal_ss, rGcd_eq, tBits, List.set_cons_zero, List.set_cons_succ, List.getElem?_cons_zero, List.getElem?_cons_succ, Option.some.injEq, exists_eq_left', V.int.injEq, V.bl.injEq, V.str.injEq, true_and, and_true, decide_eq_true_eq, List.cons.injEq, exists_eq_left, Bool.false_eq_true, if_false, if_true, ite_true, ite_false, Bool.not_eq_true', decide_eq_false_iff_not, Bool.not_not]
      exact ⟨x, rfl, hO, fun h => absurd (hc.symm.trans h) (by decide), fun _ => hE⟩
    · simp only [cxK, wipe, tYes, List.map_cons, List.map_nil, rIxL, rSum, tSl, rSlL, tNoPart, tPart, exists_and_left, and_assoc, V.ref.injEq, HO.lst.injEq, HO.tup.injEq, tFor_eq, iRng1, iRng2, iList, iTup, tLc_eq, tLst, tTup, gSub, rSetL, gT, gL, gTup, gCons, gNil, atI_0, atI_1, atI_2, atI_3, List.length_cons, List.length_nil, Nat.zero_add, Nat.reduceAdd, Nat.reduceLeDiff, ixN_30, ixN_31, ixN_32, Int.reduceLT, Int.reduceLE, Int.reduceNeg, upd_same, reduceCtorEq, false_and, exists_false, or_false, false_or, tSeq, tNext, tIfS, tRet, tRetN, tDrop, tAsg, gName, tPar, tPar3, tAug, ipI, tVar, tC, tOp, tUn, tCB, tD, tDK, tCons, tNil, rI, rI0, rU, tB, tTest, tCallS, tErr, tAnd, tOr, tNot, tAndV, tOrV, tNotV, tIf, rEq, rNe, scal_ii, scal_bb, scal_ss, rGcd_eq, tBits, List.set_cons_zero, List.set_cons_succ, List.getElem?_cons_zero, List.getElem?_cons_succ, Option.some.injEq, exists_eq_left', V.int.injEq, V.bl.injEq, V.str.injEq, true_and, and_true, decide_eq_true_eq, List.cons.injEq, exists_eq_left, Bool.false_eq_true, if_false, if_true, ite_true, ite_false, Bool.not_eq_true', decide_eq_false_iff_not, Bool.not_not]
      refine ⟨.ref p, rfl, cutAt_okV hC.at', fun _ H1 s1 => ?_, fun h => ?_⟩
      · have e1 : H1 p = some (.tup [.int q.1, .int q.2.1, .int q.2.2.1, .int q.2.2.2]) := s1 _ _ hC.at'
        obtain ⟨z1, z2, z3, z4⟩ := hz
        simp only [cxK, wipe, tYes, List.map_cons, List.map_nil, rIxL, rSum, tSl, rSlL, tNoPart, tPart, exists_and_left, and_assoc, V.ref.injEq, HO.lst.injEq, HO.tup.injEq, tFor_eq, iRng1, iRng2, iList, iTup, tLc_eq, tLst, tTup, gSub, rSetL, gT, gL, gTup, gCons, gNil, atI_0, atI_1, atI_2, atI_3, List.length_cons, List.length_nil, Nat.zero_add, Nat.reduceAdd, Nat.reduceLeDiff, ixN_30, ixN_31, ixN_32, Int.reduceLT, Int.reduceLE, Int.reduceNeg, upd_same, reduceCtorEq, false_and, exists_false, or_false, false_or, tSeq, tNext, tIfS, tRet, tRetN, tDrop, tAsg, gName, tPar, tPar3, tAug, ipI, tVar, tC, tOp, tUn, tCB, tD, tDK, tCons, tNil, rI, rI0, rU, tB, tTest, tCallS, tErr, tAnd, tOr, tNot, tAndV, tOrV, tNotV, tIf, rEq, rNe, scal_ii, scal_bb, scal_ss, rGcd_eq, tBits, List.set_cons_zero, List.set_cons_succ, List.getElem?_cons_zero, List.getElem?_cons_succ, Option.some.injEq, exists_eq_left', V.int.injEq, V.bl.injEq, V.str.injEq, true_and, and_true, decide_eq_true_eq, List.cons.injEq, exists_eq_left, Bool.false_eq_true, if_false, if_true, ite_true, ite_false, Bool.not_eq_true', decide_eq_false_iff_not, Bool.not_not, e1]
        exact ⟨okm z4 z4 (by decide) (by decide), okm (n := 3) (by decide) z2 (by decide) (by decide), okm (wide_lt (show (4 : Int).natAbs < 2 ^ 3 by decide) z2) z3 (by decide) (by decide), kk _ s1⟩
      · rw [cutB_q hC.at', hC.ok] at h
        cases h

theorem okXCuttingNumber {f : Addr} {fd : FuncData} (F : Fun K "cutting_number" "cutting_number" s_CuttingNumber f fd) (T : Txt K mg) {fxMeasureOf : Addr} {fdxMeasureOf : FuncData} (X_MeasureOf : DefX P w K mg base 5 "measure_of" fxMeasureOf fdxMeasureOf ["cutting"] (spMeasX C_InvalidCutting)) {fGathered : Addr} {fdGathered : FuncData} (D_Gathered : DefAt P w K mg base 3 "_gathered" fGathered fdGathered ["measure"] (spGathered)) : FnOk P w K mg base (L2.CX P w) 6 f fd ["cutting"] (spBadX C_InvalidCutting) := by
  refine F.okX scCuttingNumber (fun vs H Q E h => ?_) (fun cdv A outer s H vs Q E hr h => ?_)
  · obtain ⟨x, rfl, _⟩ := h
    rfl
  · obtain ⟨x, rfl, hO, hc, hE⟩ := h
    refine ⟨_, (pss_cons (ps_set (i := 1) scCuttingNumber.nd rfl (Or.inl rfl) (pe_dS X_MeasureOf takes_def hr (pa_cons (pv 0) pa_nil)))
        (pss_one (ps_ret (pe_callB lenL (by rfl) T.len (by decide +kernel) (pa_cons (pe_lc (own := [("other", 2)]) (g := gName 2) rfl scCuttingNumber.nd (pi_list (pe_d D_Gathered hr (pa_cons (pv 1) pa_nil))) (blkOk_by (N := N_CuttingNumber) (sc := defScope s_CuttingNumber) (by decide +kernel)) (fun _ _ _ _ _ => pg_name (i := 2) scCuttingNumber.nd rfl (Or.inl rfl)) (fun _ _ _ _ _ => (pts_one (pt_cmpR (op_ltTK (K := K) rfl hr.units0) (pv 2) (pv 0) (nomark _)))) (fun _ _ _ _ _ => (pv 2))) pa_nil))))), ?_⟩
    have e0 : start N_CuttingNumber [x] = [some x, none, none] := rfl
    rw [e0]
    refine seq_gen fun C1 hC1 => ?_
    simp only [cxK, wipe, tYes, List.map_cons, List.map_nil, rIxL, rSum, tSl, rSlL, tNoPart, tPart, exists_and_left, and_assoc, V.ref.injEq, HO.lst.injEq, HO.tup.injEq, tFor_eq, iRng1, iRng2, iList, iTup, tLc_eq, tLst, tTup, gSub, rSetL, gT, gL, gTup, gCons, gNil, atI_0, atI_1, atI_2, atI_3, List.length_cons, List.length_nil, Nat.zero_add, Nat.reduceAdd, Nat.reduceLeDiff, ixN_30, ixN_31, ixN_32, Int.reduceLT, Int.reduceLE, Int.reduceNeg, upd_same, reduceCtorEq, false_and, exists_false, or_false, false_or, tNext, tIfS, tRet, tRetN, tDrop, tAsg, gName, tPar, tPar3, tAug, ipI, tVar, tC, tOp, tUn, tCB, tD, tDK, tCons, tNil, rI, rI0, rU, tB, tTest, tCallS, tErr, tAnd, tOr, tNot, tAndV, tOrV, tNotV, tIf, rEq, rNe, scal_ii, scal_bb, scal_ss, rGcd_eq, tBits, List.set_cons_zero, List.set_cons_succ, List.getElem?_cons_zero, List.getElem?_cons_succ, Option.some.injEq, exists_eq_left', V.int.injEq, V.bl.injEq, V.str.injEq, true_and, and_true, decide_eq_true_eq, List.cons.injEq, exists_eq_left, Bool.false_eq_true, if_false, if_true, ite_true, ite_false, Bool.not_eq_true', decide_eq_false_iff_not, Bool.not_not]
    exact ⟨x, rfl, .inl ⟨hO, hc, hE⟩⟩

theorem okXNextCutting {f : Addr} {fd : FuncData} (F : Fun K "next_cutting" "next_cutting" s_NextCutting f fd) (T : Txt K mg) {fxMeasureOf : Addr} {fdxMeasureOf : FuncData} (X_MeasureOf : DefX P w K mg base 5 "measure_of" fxMeasureOf fdxMeasureOf ["cutting"] (spMeasX C_InvalidCutting)) {fGathered : Addr} {fdGathered : FuncData} (D_Gathered : DefAt P w K mg base 3 "_gathered" fGathered fdGathered ["measure"] (spGathered)) : FnOk P w K mg base (L2.CX P w) 6 f fd ["cutting"] (spBadX C_InvalidCutting) := by
  refine F.okX scNextCutting (fun vs H Q E h => ?_) (fun cdv A outer s H vs Q E hr h => ?_)
  · obtain ⟨x, rfl, _⟩ := h
    rfl
  · obtain ⟨x, rfl, hO, hc, hE⟩ := h
    refine ⟨_, (pss_cons (ps_set (i := 1) scNextCutting.nd rfl (Or.inl rfl) (pe_dS X_MeasureOf takes_def hr (pa_cons (pv 0) pa_nil)))
        (pss_one (ps_ret (pe_callBK (cr_minDQ rfl hr.units) (by rfl) T.min (by decide +kernel) (pa_cons (pe_lc (own := [("other", 2)]) (g := gName 2) rfl scNextCutting.nd (pi_list (pe_d D_Gathered hr (pa_cons (pv 1) pa_nil))) (blkOk_by (N := N_NextCutting) (sc := defScope s_NextCutting) (by decide +kernel)) (fun _ _ _ _ _ => pg_name (i := 2) scNextCutting.nd rfl (Or.inl rfl)) (fun _ _ _ _ _ => (pts_one (pt_cmpR (op_gtQK (K := K) rfl hr.units0) (pv 2) (pv 0) (nomark _)))) (fun _ _ _ _ _ => (pv 2))) pa_nil) (pk_cons pe_non pk_nil))))), ?_⟩
    have e0 : start N_NextCutting [x] = [some x, none, none] := rfl
    rw [e0]
    refine seq_gen fun C1 hC1 => ?_
    simp only [cxK, wipe, tYes, List.map_cons, List.map_nil, rIxL, rSum, tSl, rSlL, tNoPart, tPart, exists_and_left, and_assoc, V.ref.injEq, HO.lst.injEq, HO.tup.injEq, tFor_eq, iRng1, iRng2, iList, iTup, tLc_eq, tLst, tTup, gSub, rSetL, gT, gL, gTup, gCons, gNil, atI_0, atI_1, atI_2, atI_3, List.length_cons, List.length_nil, Nat.zero_add, Nat.reduceAdd, Nat.reduceLeDiff, ixN_30, ixN_31, ixN_32, Int.reduceLT, Int.reduceLE, Int.reduceNeg, upd_same, reduceCtorEq, false_and, exists_false, or_false, false_or, tNext, tIfS, tRet, tRetN, tDrop, tAsg, gName, tPar, tPar3, tAug, ipI, tVar, tC, tOp, tUn, tCB, tD, tDK, tCons, tNil, rI, rI0, rU, tB, tTest, tCallS, tErr, tAnd, tOr, tNot, tAndV, tOrV, tNotV, tIf, rEq, rNe, scal_ii, scal_bb, scal_ss, rGcd_eq, tBits, List.set_cons_zero, List.set_cons_succ, List.getElem?_cons_zero, List.getElem?_cons_succ, Option.some.injEq, exists_eq_left', V.int.injEq, V.bl.injEq, V.str.injEq, true_and, and_true, decide_eq_true_eq, List.cons.injEq, exists_eq_left, Bool.false_eq_true, if_false, if_true, ite_true, ite_false, Bool.not_eq_true', decide_eq_false_iff_not, Bool.not_not]
    exact ⟨x, rfl, .inl ⟨hO, hc, hE⟩⟩

theorem okXHowManyCuttings {f : Addr} {fd : FuncData} (F : Fun K "how_many_cuttings" "how_many_cuttings" s_HowManyCuttings f fd) (T : Txt K mg) {fxCheckMeasure : Addr} {fdxCheckMeasure : FuncData} (X_CheckMeasure : DefX P w K mg base 3 "check_measure" fxCheckMeasure fdxCheckMeasure ["measure"] (spCheckMeasureX C_InvalidMeasure)) {fHowManyWith : Addr} {fdHowManyWith : FuncData} (D_HowManyWith : DefAt P w K mg base 3 "_how_many_with" fHowManyWith fdHowManyWith ["measure", "e"] (spHmw)) {fLasts : Addr} {fdLasts : FuncData} (D_Lasts : DefAt P w K mg base 1 "_lasts" fLasts fdLasts ["measure"] (spLasts)) : FnOk P w K mg base (L2.CX P w) 4 f fd ["measure"] (spHmcX C_InvalidMeasure) := by
  refine F.okX scHowManyCuttings (fun vs H Q E h => ?_) (fun cdv A outer s H vs Q E hr h => ?_)
  · obtain ⟨x, rfl, _⟩ := h
    rfl
  · obtain ⟨x, rfl, kk⟩ := h
    refine ⟨_, (pss_cons (ps_expr (pe_dS X_CheckMeasure takes_def hr (pa_cons (pv 0) pa_nil)))
        (pss_one (ps_ret (pe_callB (cr_sum rfl) (by rfl) T.sum (by decide +kernel) (pa_cons (pe_lc (own := [("e", 1)]) (g := gName 1) (tt := tYes) rfl scHowManyCuttings.nd (pi_list (pe_d D_Lasts hr (pa_cons (pv 0) pa_nil))) (blkOk_by (N := N_HowManyCuttings) (sc := defScope s_HowManyCuttings) (by decide +kernel)) (fun _ _ _ _ _ => pg_name (i := 1) scHowManyCuttings.nd rfl (Or.inl rfl)) (fun _ _ _ _ _ => pts_nil) (fun _ _ _ _ _ => (pe_d D_HowManyWith hr (pa_cons (pv 0) (pa_cons (pv 1) pa_nil))))) pa_nil))))), ?_⟩
    have e0 : start N_HowManyCuttings [x] = [some x, none] := rfl
    rw [e0]
    rcases kk with ⟨hO, hc, hE⟩ | ⟨D, rfl, hM, hD, kk⟩
    · simp only [cxK, wipe, tYes, List.map_cons, List.map_nil, rIxL, rSum, tSl, rSlL, tNoPart, tPart, exists_and_left, and_assoc, V.ref.injEq, HO.lst.injEq, HO.tup.injEq, tFor_eq, iRng1, iRng2, iList, iTup, tLc_eq, tLst, tTup, gSub, rSetL, gT, gL, gTup, gCons, gNil, atI_0, atI_1, atI_2, atI_3, List.length_cons, List.length_nil, Nat.zero_add, Nat.reduceAdd, Nat.reduceLeDiff, ixN_30, ixN_31, ixN_32, Int.reduceLT, Int.reduceLE, Int.reduceNeg, upd_same, reduceCtorEq, false_and, exists_false, or_false, false_or, tSeq, tNext, tIfS, tRet, tRetN, tDrop, tAsg, gName, tPar, tPar3, tAug, ipI, tVar, tC, tOp, tUn, tCB, tD, tDK, tCons, tNil, rI, rI0, rU, tB, tTest, tCallS, tErr, tAnd, tOr, tNot, tAndV, tOrV, tNotV, tIf, rEq, rNe, scal_ii, scal_bb, scal_ss, rGcd_eq, tBits, List.set_cons_zero, List.set_cons_succ, List.getElem?_cons_zero, List.getElem?_cons_succ, Option.some.injEq, exists_eq_left', V.int.injEq, V.bl.injEq, V.str.injEq, true_and, and_true, decide_eq_true_eq, List.cons.injEq, exists_eq_left, Bool.false_eq_true, if_false, if_true, ite_true, ite_false, Bool.not_eq_true', decide_eq_false_iff_not, Bool.not_not]
      exact ⟨x, rfl, hO, fun h => absurd (hc.symm.trans h) (by decide), fun _ => hE⟩
    · have hm : measB (.int D) = true := by rw [measB_int, decide_eq_true hM.1, decide_eq_true hM.2]; rfl
      simp only [cxK, wipe, tYes, List.map_cons, List.map_nil, rIxL, rSum, tSl, rSlL, tNoPart, tPart, exists_and_left, and_assoc, V.ref.injEq, HO.lst.injEq, HO.tup.injEq, tFor_eq, iRng1, iRng2, iList, iTup, tLc_eq, tLst, tTup, gSub, rSetL, gT, gL, gTup, gCons, gNil, atI_0, atI_1, atI_2, atI_3, List.length_cons, List.length_nil, Nat.zero_add, Nat.reduceAdd, Nat.reduceLeDiff, ixN_30, ixN_31, ixN_32, Int.reduceLT, Int.reduceLE, Int.reduceNeg, upd_same, reduceCtorEq, false_and, exists_false, or_false, false_or, tSeq, tNext, tIfS, tRet, tRetN, tDrop, tAsg, gName, tPar, tPar3, tAug, ipI, tVar, tC, tOp, tUn, tCB, tD, tDK, tCons, tNil, rI, rI0, rU, tB, tTest, tCallS, tErr, tAnd, tOr, tNot, tAndV, tOrV, tNotV, tIf, rEq, rNe, scal_ii, scal_bb, scal_ss, rGcd_eq, tBits, List.set_cons_zero, List.set_cons_succ, List.getElem?_cons_zero, List.getElem?_cons_succ, Option.some.injEq, exists_eq_left', V.int.injEq, V.bl.injEq, V.str.injEq, true_and, and_true, decide_eq_true_eq, List.cons.injEq, exists_eq_left, Bool.false_eq_true, if_false, if_true, ite_true, ite_false, Bool.not_eq_true', decide_eq_false_iff_not, Bool.not_not]
      have h5 := hM.1
      have hr := rt_le (n := D) (by omega)
      refine ⟨.int D, rfl, ⟨"int", rfl⟩, fun _ => ⟨D, rfl, hM, hD, fun q nq => ?_⟩, fun h => absurd (hm.symm.trans h) (by decide)⟩
      have eq : upd H q (.lst (rgV (-rt D) (rt D + 1))) q = some (.lst (rgV (-rt D) (rt D + 1))) := upd_same
      have s1 := Same.upd (o := .lst (rgV (-rt D) (rt D + 1))) nq
      generalize upd H q (.lst (rgV (-rt D) (rt D + 1))) = H1 at *
      refine ⟨q, rfl, ⟨_, SqL.of eq⟩, fun Dd nD => ?_⟩
      refine lcW_list (xs := rgV (-rt D) (rt D + 1)) (InvSu H1 Dd fun i => rs i fun j => hmw D (j - rt D)) ⟨Same.upd nD, [], upd_same, rfl, rfl⟩ (fun i HB _ z => SqL.of (z.1 _ _ eq)) ?_ ?_
      · rintro i x HB hx z
        have hlen := (List.getElem?_eq_some_iff.mp hx).1
        rw [rgV_length] at hlen
        obtain rfl : x = V.int (-rt D + (i : Int)) := by
          unfold rgV at hx
          rw [List.getElem?_map, List.getElem?_range (by omega)] at hx
          exact (Option.some.inj hx).symm
        refine ⟨rfl, ?_⟩
        simp only [cxK, wipe, tYes, List.map_cons, List.map_nil, rIxL, rSum, tSl, rSlL, tNoPart, tPart, exists_and_left, and_assoc, V.ref.injEq, HO.lst.injEq, HO.tup.injEq, tFor_eq, iRng1, iRng2, iList, iTup, tLc_eq, tLst, tTup, gSub, rSetL, gT, gL, gTup, gCons, gNil, atI_0, atI_1, atI_2, atI_3, List.length_cons, List.length_nil, Nat.zero_add, Nat.reduceAdd, Nat.reduceLeDiff, ixN_30, ixN_31, ixN_32, Int.reduceLT, Int.reduceLE, Int.reduceNeg, upd_same, reduceCtorEq, false_and, exists_false, or_false, false_or, tSeq, tNext, tIfS, tRet, tRetN, tDrop, tAsg, gName, tPar, tPar3, tAug, ipI, tVar, tC, tOp, tUn, tCB, tD, tDK, tCons, tNil, rI, rI0, rU, tB, tTest, tCallS, tErr, tAnd, tOr, tNot, tAndV, tOrV, tNotV, tIf, rEq, rNe, scal_ii, scal_bb, scal_ss, rGcd_eq, tBits, List.set_cons_zero, List.set_cons_succ, List.getElem?_cons_zero, List.getElem?_cons_succ, Option.some.injEq, exists_eq_left', V.int.injEq, V.bl.injEq, V.str.injEq, true_and, and_true, decide_eq_true_eq, List.cons.injEq, exists_eq_left, Bool.false_eq_true, if_false, if_true, ite_true, ite_false, Bool.not_eq_true', decide_eq_false_iff_not, Bool.not_not]
        refine ⟨D, _, rfl, hM, hD, by omega, fun H2 s2 => ?_⟩
        exact z.push nD s2 (by rw [rs, show (i : Int) - rt D = -rt D + (i : Int) by omega]) (by omega)
      · rintro HB ⟨sB, ns, eB, hn, hs⟩
        refine ⟨_, rfl, ns, SqL.of eB, ?_⟩
        rw [rgV_length] at hs
        have hR : rt D = ((rt D).toNat : Int) := by omega
        have e2 : rs (2 * (rt D).toNat + 1) (fun j => hmw D (j - rt D)) = es (rt D).toNat (hmw D) := by
          rw [← es_loop]
          exact rs_congr fun i _ => by rw [← hR]
        rw [hs, show (rt D + 1 - -rt D).toNat = 2 * (rt D).toNat + 1 by omega]
        show Q (.int (rs (2 * (rt D).toNat + 1) fun j => hmw D (j - rt D))) HB
        rw [e2]
        exact kk _ (s1.trans sB)

theorem okXCuttings {f : Addr} {fd : FuncData} (F : Fun K "cuttings" "cuttings" s_Cuttings f fd) (T : Txt K mg) {C_TooMany f_TooMany : Addr} {fd_TooMany : FuncData} (E_TooMany : ErrN P w K mg base "TooMany" C_TooMany f_TooMany fd_TooMany) {fxHowManyCuttings : Addr} {fdxHowManyCuttings : FuncData} (X_HowManyCuttings : DefX P w K mg base 4 "how_many_cuttings" fxHowManyCuttings fdxHowManyCuttings ["measure"] (spHmcX C_InvalidMeasure)) {fAllCuttings : Addr} {fdAllCuttings : FuncData} (D_AllCuttings : DefAt P w K mg base 4 "all_cuttings" fAllCuttings fdAllCuttings ["measure"] (spAllCut)) : FnOk P w K mg base (L2.CX P w) 5 f fd ["measure"] (spCutsX C_InvalidMeasure C_TooMany) := by
  refine F.okX scCuttings (fun vs H Q E h => ?_) (fun cdv A outer s H vs Q E hr h => ?_)
  · obtain ⟨x, rfl, _⟩ := h
    rfl
  · obtain ⟨x, rfl, kk⟩ := h
    refine ⟨_, (pss_cons (ps_set (i := 1) scCuttings.nd rfl (Or.inl rfl) (pe_dS X_HowManyCuttings takes_def hr (pa_cons (pv 0) pa_nil)))
        (pss_cons (ps_if (pt_cmpR op_gt (pv 1) (pe_globV (by rfl) T.MOST_TOLD) (nomark _)) (pss_one (ps_raise rfl takes_def (pmk_err E_TooMany.c hr (pa_cons (pv 1) pa_nil)))) pss_nil)
        (pss_one (ps_ret (pe_d D_AllCuttings hr (pa_cons (pv 0) pa_nil)))))), ?_⟩
    have e0 : start N_Cuttings [x] = [some x, none] := rfl
    rw [e0]
    rcases kk with ⟨hO, hc, hE⟩ | ⟨D, rfl, hM, hD, hl, hE⟩
    · refine seq_gen fun C1 hC1 => ?_
      simp only [cxK, wipe, tYes, List.map_cons, List.map_nil, rIxL, rSum, tSl, rSlL, tNoPart, tPart, exists_and_left, and_assoc, V.ref.injEq, HO.lst.injEq, HO.tup.injEq, tFor_eq, iRng1, iRng2, iList, iTup, tLc_eq, tLst, tTup, gSub, rSetL, gT, gL, gTup, gCons, gNil, atI_0, atI_1, atI_2, atI_3, List.length_cons, List.length_nil, Nat.zero_add, Nat.reduceAdd, Nat.reduceLeDiff, ixN_30, ixN_31, ixN_32, Int.reduceLT, Int.reduceLE, Int.reduceNeg, upd_same, reduceCtorEq, false_and, exists_false, or_false, false_or, tNext, tIfS, tRet, tRetN, tDrop, tAsg, gName, tPar, tPar3, tAug, ipI, tVar, tC, tOp, tUn, tCB, tD, tDK, tCons, tNil, rI, rI0, rU, tB, tTest, tCallS, tErr, tAnd, tOr, tNot, tAndV, tOrV, tNotV, tIf, rEq, rNe, scal_ii, scal_bb, scal_ss, rGcd_eq, tBits, List.set_cons_zero, List.set_cons_succ, List.getElem?_cons_zero, List.getElem?_cons_succ, Option.some.injEq, exists_eq_left', V.int.injEq, V.bl.injEq, V.str.injEq, true_and, and_true, decide_eq_true_eq, List.cons.injEq, exists_eq_left, Bool.false_eq_true, if_false, if_true, ite_true, ite_false, Bool.not_eq_true', decide_eq_false_iff_not, Bool.not_not]
      exact ⟨x, rfl, .inl ⟨hO, hc, hE⟩⟩
    · have h5 := hM.1
      simp only [cxK, wipe, tYes, List.map_cons, List.map_nil, rIxL, rSum, tSl, rSlL, tNoPart, tPart, exists_and_left, and_assoc, V.ref.injEq, HO.lst.injEq, HO.tup.injEq, tFor_eq, iRng1, iRng2, iList, iTup, tLc_eq, tLst, tTup, gSub, rSetL, gT, gL, gTup, gCons, gNil, atI_0, atI_1, atI_2, atI_3, List.length_cons, List.length_nil, Nat.zero_add, Nat.reduceAdd, Nat.reduceLeDiff, ixN_30, ixN_31, ixN_32, Int.reduceLT, Int.reduceLE, Int.reduceNeg, upd_same, reduceCtorEq, false_and, exists_false, or_false, false_or, tSeq, tNext, tIfS, tRet, tRetN, tDrop, tAsg, gName, tPar, tPar3, tAug, ipI, tVar, tC, tOp, tUn, tCB, tD, tDK, tCons, tNil, rI, rI0, rU, tB, tTest, tCallS, tErr, tAnd, tOr, tNot, tAndV, tOrV, tNotV, tIf, rEq, rNe, scal_ii, scal_bb, scal_ss, rGcd_eq, tBits, List.set_cons_zero, List.set_cons_succ, List.getElem?_cons_zero, List.getElem?_cons_succ, Option.some.injEq, exists_eq_left', V.int.injEq, V.bl.injEq, V.str.injEq, true_and, and_true, decide_eq_true_eq, List.cons.injEq, exists_eq_left, Bool.false_eq_true, if_false, if_true, ite_true, ite_false, Bool.not_eq_true', decide_eq_false_iff_not, Bool.not_not]
      refine ⟨.int D, rfl, .inr ⟨D, rfl, hM, hD, fun H1 s1 => ?_⟩⟩
      rw [← cutsL_len (by omega)]
      refine ⟨_, rfl, ?_⟩
      rw [if_pos (by omega)]
      exact hE.now s1

theorem okXHowManyWithLast {f : Addr} {fd : FuncData} (F : Fun K "how_many_with_last" "how_many_with_last" s_HowManyWithLast f fd) (T : Txt K mg) {C_InvalidNumber f_InvalidNumber : Addr} {fd_InvalidNumber : FuncData} (E_InvalidNumber : ErrN P w K mg base "InvalidNumber" C_InvalidNumber f_InvalidNumber fd_InvalidNumber) {fxCheckMeasure : Addr} {fdxCheckMeasure : FuncData} (X_CheckMeasure : DefX P w K mg base 3 "check_measure" fxCheckMeasure fdxCheckMeasure ["measure"] (spCheckMeasureX C_InvalidMeasure)) {fHowManyWith : Addr} {fdHowManyWith : FuncData} (D_HowManyWith : DefAt P w K mg base 3 "_how_many_with" fHowManyWith fdHowManyWith ["measure", "e"] (spHmw)) {fIsWhole : Addr} {fdIsWhole : FuncData} (D_IsWhole : DefAt P w K mg base 1 "is_whole" fIsWhole fdIsWhole ["value"] (spWhole)) : FnOk P w K mg base (L2.CX P w) 4 f fd ["measure", "e"] (spLastX C_InvalidMeasure C_InvalidNumber) := by
  refine F.okX scHowManyWithLast (fun vs H Q E h => ?_) (fun cdv A outer s H vs Q E hr h => ?_)
  · obtain ⟨x, y, rfl, _⟩ := h
    rfl
  · obtain ⟨x, y, rfl, kk⟩ := h
    refine ⟨_, (pss_cons (ps_expr (pe_dS X_CheckMeasure takes_def hr (pa_cons (pv 0) pa_nil)))
        (pss_cons (ps_if (pt_not (pt_val (pe_d D_IsWhole hr (pa_cons (pv 1) pa_nil)))) (pss_one (ps_raise rfl takes_def (pmk_err E_InvalidNumber.c hr (pa_cons (pv 1) pa_nil)))) pss_nil)
        (pss_one (ps_ret (pe_d D_HowManyWith hr (pa_cons (pv 0) (pa_cons (pv 1) pa_nil))))))), ?_⟩
    have e0 : start N_HowManyWithLast [x, y] = [some x, some y] := rfl
    rw [e0]
    rcases kk with ⟨hO, hc, hE⟩ | ⟨D, rfl, hM, hD, kk⟩
    · simp only [cxK, wipe, tYes, List.map_cons, List.map_nil, rIxL, rSum, tSl, rSlL, tNoPart, tPart, exists_and_left, and_assoc, V.ref.injEq, HO.lst.injEq, HO.tup.injEq, tFor_eq, iRng1, iRng2, iList, iTup, tLc_eq, tLst, tTup, gSub, rSetL, gT, gL, gTup, gCons, gNil, atI_0, atI_1, atI_2, atI_3, List.length_cons, List.length_nil, Nat.zero_add, Nat.reduceAdd, Nat.reduceLeDiff, ixN_30, ixN_31, ixN_32, Int.reduceLT, Int.reduceLE, Int.reduceNeg, upd_same, reduceCtorEq, false_and, exists_false, or_false, false_or, tSeq, tNext, tIfS, tRet, tRetN, tDrop, tAsg, gName, tPar, tPar3, tAug, ipI, tVar, tC, tOp, tUn, tCB, tD, tDK, tCons, tNil, rI, rI0, rU, tB, tTest, tCallS, tErr, tAnd, tOr, tNot, tAndV, tOrV, tNotV, tIf, rEq, rNe, scal_ii, scal_bb, scal_ss, rGcd_eq, tBits, List.set_cons_zero, List.set_cons_succ, List.getElem?_cons_zero, List.getElem?_cons_succ, Option.some.injEq, exists_eq_left', V.int.injEq, V.bl.injEq, V.str.injEq, true_and, and_true, decide_eq_true_eq, List.cons.injEq, exists_eq_left, Bool.false_eq_true, if_false, if_true, ite_true, ite_false, Bool.not_eq_true', decide_eq_false_iff_not, Bool.not_not]
      exact ⟨x, rfl, hO, fun h => absurd (hc.symm.trans h) (by decide), fun _ => hE⟩
    · have hm : measB (.int D) = true := by rw [measB_int, decide_eq_true hM.1, decide_eq_true hM.2]; rfl
      simp only [cxK, wipe, tYes, List.map_cons, List.map_nil, rIxL, rSum, tSl, rSlL, tNoPart, tPart, exists_and_left, and_assoc, V.ref.injEq, HO.lst.injEq, HO.tup.injEq, tFor_eq, iRng1, iRng2, iList, iTup, tLc_eq, tLst, tTup, gSub, rSetL, gT, gL, gTup, gCons, gNil, atI_0, atI_1, atI_2, atI_3, List.length_cons, List.length_nil, Nat.zero_add, Nat.reduceAdd, Nat.reduceLeDiff, ixN_30, ixN_31, ixN_32, Int.reduceLT, Int.reduceLE, Int.reduceNeg, upd_same, reduceCtorEq, false_and, exists_false, or_false, false_or, tSeq, tNext, tIfS, tRet, tRetN, tDrop, tAsg, gName, tPar, tPar3, tAug, ipI, tVar, tC, tOp, tUn, tCB, tD, tDK, tCons, tNil, rI, rI0, rU, tB, tTest, tCallS, tErr, tAnd, tOr, tNot, tAndV, tOrV, tNotV, tIf, rEq, rNe, scal_ii, scal_bb, scal_ss, rGcd_eq, tBits, List.set_cons_zero, List.set_cons_succ, List.getElem?_cons_zero, List.getElem?_cons_succ, Option.some.injEq, exists_eq_left', V.int.injEq, V.bl.injEq, V.str.injEq, true_and, and_true, decide_eq_true_eq, List.cons.injEq, exists_eq_left, Bool.false_eq_true, if_false, if_true, ite_true, ite_false, Bool.not_eq_true', decide_eq_false_iff_not, Bool.not_not]
      refine ⟨.int D, rfl, ⟨"int", rfl⟩, fun _ => ?_, fun h => absurd (hm.symm.trans h) (by decide)⟩
      rcases kk with ⟨hy, hi, hE⟩ | ⟨e, rfl, he, kk⟩
      · refine ⟨y, rfl, hy, _, rfl, ?_⟩
        rw [hi, if_pos rfl]
        exact hE.now (Same.refl _)
      · refine ⟨.int e, rfl, ⟨"int", rfl⟩, true, rfl, ?_⟩
        rw [if_neg (by decide)]
        exact ⟨D, e, rfl, hM, hD, he, fun H' s => kk _ _ s⟩

theorem okXCuttingNumbered {f : Addr} {fd : FuncData} (F : Fun K "cutting_numbered" "cutting_numbered" s_CuttingNumbered f fd) (T : Txt K mg) {C_InvalidNumber f_InvalidNumber : Addr} {fd_InvalidNumber : FuncData} (E_InvalidNumber : ErrN P w K mg base "InvalidNumber" C_InvalidNumber f_InvalidNumber fd_InvalidNumber) {fxCheckMeasure : Addr} {fdxCheckMeasure : FuncData} (X_CheckMeasure : DefX P w K mg base 3 "check_measure" fxCheckMeasure fdxCheckMeasure ["measure"] (spCheckMeasureX C_InvalidMeasure)) {fAllCuttings : Addr} {fdAllCuttings : FuncData} (D_AllCuttings : DefAt P w K mg base 4 "all_cuttings" fAllCuttings fdAllCuttings ["measure"] (spAllCut)) {fIsWhole : Addr} {fdIsWhole : FuncData} (D_IsWhole : DefAt P w K mg base 1 "is_whole" fIsWhole fdIsWhole ["value"] (spWhole)) : FnOk P w K mg base (L2.CX P w) 5 f fd ["measure", "number"] (spNumX C_InvalidMeasure C_InvalidNumber) := by
  refine F.okX scCuttingNumbered (fun vs H Q E h => ?_) (fun cdv A outer s H vs Q E hr h => ?_)
  · obtain ⟨x, y, rfl, _⟩ := h
    rfl
  · obtain ⟨x, y, rfl, kk⟩ := h
    refine ⟨_, (pss_cons (ps_expr (pe_dS X_CheckMeasure takes_def hr (pa_cons (pv 0) pa_nil)))
        (pss_cons (ps_if (PW.pt (pw_or (pt_not (pt_val (pe_d D_IsWhole hr (pa_cons (pv 1) pa_nil)))) (pw_or1 (pt_cmpR op_lt (pv 1) pe_int (nomark _))))) (pss_one (ps_raise rfl takes_def (pmk_err E_InvalidNumber.c hr (pa_cons (pv 1) pa_nil)))) pss_nil)
        (pss_cons (ps_set (i := 2) scCuttingNumbered.nd rfl (Or.inl rfl) (pe_d D_AllCuttings hr (pa_cons (pv 0) pa_nil)))
        (pss_cons (ps_if (pt_cmpR op_ge (pv 1) (pe_callB lenL (by rfl) T.len (by decide +kernel) (pa_cons (pv 2) pa_nil)) (nomark _)) (pss_one (ps_raise rfl takes_def (pmk_err E_InvalidNumber.c hr (pa_cons (pv 1) pa_nil)))) pss_nil)
        (pss_one (ps_ret (pe_ix ixL (pv 2) (pv 1) (fun _ _ => rfl)))))))), ?_⟩
    have e0 : start N_CuttingNumbered [x, y] = [some x, some y, none] := rfl
    rw [e0]
    rcases kk with ⟨hO, hc, hE⟩ | ⟨D, rfl, hM, hD, kk⟩
    · refine seq_gen fun C1 hC1 => ?_
      simp only [cxK, wipe, tYes, List.map_cons, List.map_nil, rIxL, rSum, tSl, rSlL, tNoPart, tPart, exists_and_left, and_assoc, V.ref.injEq, HO.lst.injEq, HO.tup.injEq, tFor_eq, iRng1, iRng2, iList, iTup, tLc_eq, tLst, tTup, gSub, rSetL, gT, gL, gTup, gCons, gNil, atI_0, atI_1, atI_2, atI_3, List.length_cons, List.length_nil, Nat.zero_add, Nat.reduceAdd, Nat.reduceLeDiff, ixN_30, ixN_31, ixN_32, Int.reduceLT, Int.reduceLE, Int.reduceNeg, upd_same, reduceCtorEq, false_and, exists_false, or_false, false_or, tNext, tIfS, tRet, tRetN, tDrop, tAsg, gName, tPar, tPar3, tAug, ipI, tVar, tC, tOp, tUn, tCB, tD, tDK, tCons, tNil, rI, rI0, rU, tB, tTest, tCallS, tErr, tAnd, tOr, tNot, tAndV, tOrV, tNotV, tIf, rEq, rNe, scal_ii, scal_bb, scal_ss, rGcd_eq, tBits, List.set_cons_zero, List.set_cons_succ, List.getElem?_cons_zero, List.getElem?_cons_succ, Option.some.injEq, exists_eq_left', V.int.injEq, V.bl.injEq, V.str.injEq, true_and, and_true, decide_eq_true_eq, List.cons.injEq, exists_eq_left, Bool.false_eq_true, if_false, if_true, ite_true, ite_false, Bool.not_eq_true', decide_eq_false_iff_not, Bool.not_not]
      exact ⟨x, rfl, hO, fun h => absurd (hc.symm.trans h) (by decide), fun _ => hE⟩
    · have hm : measB (.int D) = true := by rw [measB_int, decide_eq_true hM.1, decide_eq_true hM.2]; rfl
      refine seq_gen fun C1 hC1 => ?_
      simp only [cxK, wipe, tYes, List.map_cons, List.map_nil, rIxL, rSum, tSl, rSlL, tNoPart, tPart, exists_and_left, and_assoc, V.ref.injEq, HO.lst.injEq, HO.tup.injEq, tFor_eq, iRng1, iRng2, iList, iTup, tLc_eq, tLst, tTup, gSub, rSetL, gT, gL, gTup, gCons, gNil, atI_0, atI_1, atI_2, atI_3, List.length_cons, List.length_nil, Nat.zero_add, Nat.reduceAdd, Nat.reduceLeDiff, ixN_30, ixN_31, ixN_32, Int.reduceLT, Int.reduceLE, Int.reduceNeg, upd_same, reduceCtorEq, false_and, exists_false, or_false, false_or, tNext, tIfS, tRet, tRetN, tDrop, tAsg, gName, tPar, tPar3, tAug, ipI, tVar, tC, tOp, tUn, tCB, tD, tDK, tCons, tNil, rI, rI0, rU, tB, tTest, tCallS, tErr, tAnd, tOr, tNot, tAndV, tOrV, tNotV, tIf, rEq, rNe, scal_ii, scal_bb, scal_ss, rGcd_eq, tBits, List.set_cons_zero, List.set_cons_succ, List.getElem?_cons_zero, List.getElem?_cons_succ, Option.some.injEq, exists_eq_left', V.int.injEq, V.bl.injEq, V.str.injEq, true_and, and_true, decide_eq_true_eq, List.cons.injEq, exists_eq_left, Bool.false_eq_true, if_false, if_true, ite_true, ite_false, Bool.not_eq_true', decide_eq_false_iff_not, Bool.not_not]
      refine ⟨.int D, rfl, ⟨"int", rfl⟩, fun _ => ?_, fun h => absurd (hm.symm.trans h) (by decide)⟩
      refine Eq.mpr (hC1 _ _) ?_
      refine seq_gen fun C2 hC2 => ?_
      simp only [cxK, wipe, tYes, List.map_cons, List.map_nil, rIxL, rSum, tSl, rSlL, tNoPart, tPart, exists_and_left, and_assoc, V.ref.injEq, HO.lst.injEq, HO.tup.injEq, tFor_eq, iRng1, iRng2, iList, iTup, tLc_eq, tLst, tTup, gSub, rSetL, gT, gL, gTup, gCons, gNil, atI_0, atI_1, atI_2, atI_3, List.length_cons, List.length_nil, Nat.zero_add, Nat.reduceAdd, Nat.reduceLeDiff, ixN_30, ixN_31, ixN_32, Int.reduceLT, Int.reduceLE, Int.reduceNeg, upd_same, reduceCtorEq, false_and, exists_false, or_false, false_or, tNext, tIfS, tRet, tRetN, tDrop, tAsg, gName, tPar, tPar3, tAug, ipI, tVar, tC, tOp, tUn, tCB, tD, tDK, tCons, tNil, rI, rI0, rU, tB, tTest, tCallS, tErr, tAnd, tOr, tNot, tAndV, tOrV, tNotV, tIf, rEq, rNe, scal_ii, scal_bb, scal_ss, rGcd_eq, tBits, List.set_cons_zero, List.set_cons_succ, List.getElem?_cons_zero, List.getElem?_cons_succ, Option.some.injEq, exists_eq_left', V.int.injEq, V.bl.injEq, V.str.injEq, true_and, and_true, decide_eq_true_eq, List.cons.injEq, exists_eq_left, Bool.false_eq_true, if_false, if_true, ite_true, ite_false, Bool.not_eq_true', decide_eq_false_iff_not, Bool.not_not]
      rcases kk with ⟨hy, hi, hE⟩ | ⟨n, rfl, kk⟩
      · refine ⟨y, rfl, hy, _, rfl, ?_⟩
        rw [hi, if_pos rfl]
        exact hE.now (Same.refl _)
      · refine ⟨.int n, rfl, ⟨"int", rfl⟩, true, rfl, ?_⟩
        rw [if_neg (by decide)]
        rcases kk with ⟨hn, hE⟩ | ⟨hn, hL, kk⟩
        · refine ⟨n, rfl, ?_⟩
          rw [if_pos hn]
          exact hE.now (Same.refl _)
        · refine ⟨n, rfl, ?_⟩
          rw [if_neg (by omega)]
          refine Eq.mpr (hC2 _ _) ?_
          refine seq_gen fun C3 hC3 => ?_
          simp only [cxK, wipe, tYes, List.map_cons, List.map_nil, rIxL, rSum, tSl, rSlL, tNoPart, tPart, exists_and_left, and_assoc, V.ref.injEq, HO.lst.injEq, HO.tup.injEq, tFor_eq, iRng1, iRng2, iList, iTup, tLc_eq, tLst, tTup, gSub, rSetL, gT, gL, gTup, gCons, gNil, atI_0, atI_1, atI_2, atI_3, List.length_cons, List.length_nil, Nat.zero_add, Nat.reduceAdd, Nat.reduceLeDiff, ixN_30, ixN_31, ixN_32, Int.reduceLT, Int.reduceLE, Int.reduceNeg, upd_same, reduceCtorEq, false_and, exists_false, or_false, false_or, tNext, tIfS, tRet, tRetN, tDrop, tAsg, gName, tPar, tPar3, tAug, ipI, tVar, tC, tOp, tUn, tCB, tD, tDK, tCons, tNil, rI, rI0, rU, tB, tTest, tCallS, tErr, tAnd, tOr, tNot, tAndV, tOrV, tNotV, tIf, rEq, rNe, scal_ii, scal_bb, scal_ss, rGcd_eq, tBits, List.set_cons_zero, List.set_cons_succ, List.getElem?_cons_zero, List.getElem?_cons_succ, Option.some.injEq, exists_eq_left', V.int.injEq, V.bl.injEq, V.str.injEq, true_and, and_true, decide_eq_true_eq, List.cons.injEq, exists_eq_left, Bool.false_eq_true, if_false, if_true, ite_true, ite_false, Bool.not_eq_true', decide_eq_false_iff_not, Bool.not_not]
          refine ⟨D, rfl, hM, hD, hL, fun pg ls H1 npg s1 eg hQ => ?_⟩
          refine Eq.mpr (hC3 _ _) ?_
          simp only [cxK, wipe, tYes, List.map_cons, List.map_nil, rIxL, rSum, tSl, rSlL, tNoPart, tPart, exists_and_left, and_assoc, V.ref.injEq, HO.lst.injEq, HO.tup.injEq, tFor_eq, iRng1, iRng2, iList, iTup, tLc_eq, tLst, tTup, gSub, rSetL, gT, gL, gTup, gCons, gNil, atI_0, atI_1, atI_2, atI_3, List.length_cons, List.length_nil, Nat.zero_add, Nat.reduceAdd, Nat.reduceLeDiff, ixN_30, ixN_31, ixN_32, Int.reduceLT, Int.reduceLE, Int.reduceNeg, upd_same, reduceCtorEq, false_and, exists_false, or_false, false_or, tSeq, tNext, tIfS, tRet, tRetN, tDrop, tAsg, gName, tPar, tPar3, tAug, ipI, tVar, tC, tOp, tUn, tCB, tD, tDK, tCons, tNil, rI, rI0, rU, tB, tTest, tCallS, tErr, tAnd, tOr, tNot, tAndV, tOrV, tNotV, tIf, rEq, rNe, scal_ii, scal_bb, scal_ss, rGcd_eq, tBits, List.set_cons_zero, List.set_cons_succ, List.getElem?_cons_zero, List.getElem?_cons_succ, Option.some.injEq, exists_eq_left', V.int.injEq, V.bl.injEq, V.str.injEq, true_and, and_true, decide_eq_true_eq, List.cons.injEq, exists_eq_left, Bool.false_eq_true, if_false, if_true, ite_true, ite_false, Bool.not_eq_true', decide_eq_false_iff_not, Bool.not_not]
          have hlen := hQ.len
          rw [srtQ_len] at hlen
          refine ⟨_, eg, ?_⟩
          rw [List.length_map]
          rcases kk with ⟨hn2, hE⟩ | ⟨hn2, kk⟩
          · rw [if_pos (by omega)]
            exact hE.now s1
          · rw [if_neg (by omega)]
            have hl : n.toNat < ls.length := by omega
            refine ⟨_, eg, .ref (ls[n.toNat]), ?_, kk _ _ s1⟩
            have h := atI_nat (xs := ls.map V.ref) (j := n.toNat) (v := V.ref (ls[n.toNat])) (by rw [List.getElem?_map, List.getElem?_eq_getElem hl]; rfl)
            rwa [show ((n.toNat : Nat) : Int) = n by omega] at h

theorem okXLawAsked {f : Addr} {fd : FuncData} (F : Fun K "_law_asked" "_law_asked" s_LawAsked f fd) (T : Txt K mg) {C_InvalidCutting f_InvalidCutting : Addr} {fd_InvalidCutting : FuncData} (E_InvalidCutting : ErrN P w K mg base "InvalidCutting" C_InvalidCutting f_InvalidCutting fd_InvalidCutting) {C_InvalidMeasure f_InvalidMeasure : Addr} {fd_InvalidMeasure : FuncData} (E_InvalidMeasure : ErrN P w K mg base "InvalidMeasure" C_InvalidMeasure f_InvalidMeasure fd_InvalidMeasure) {C_InvalidNumber f_InvalidNumber : Addr} {fd_InvalidNumber : FuncData} (E_InvalidNumber : ErrN P w K mg base "InvalidNumber" C_InvalidNumber f_InvalidNumber fd_InvalidNumber) {C_TooMany f_TooMany : Addr} {fd_TooMany : FuncData} (E_TooMany : ErrN P w K mg base "TooMany" C_TooMany f_TooMany fd_TooMany) {fxHowManyWithLast : Addr} {fdxHowManyWithLast : FuncData} (X_HowManyWithLast : DefX P w K mg base 4 "how_many_with_last" fxHowManyWithLast fdxHowManyWithLast ["measure", "e"] (spLastX C_InvalidMeasure C_InvalidNumber)) {fxCuttingNumbered : Addr} {fdxCuttingNumbered : FuncData} (X_CuttingNumbered : DefX P w K mg base 5 "cutting_numbered" fxCuttingNumbered fdxCuttingNumbered ["measure", "number"] (spNumX C_InvalidMeasure C_InvalidNumber)) {fxMeasureOf : Addr} {fdxMeasureOf : FuncData} (X_MeasureOf : DefX P w K mg base 5 "measure_of" fxMeasureOf fdxMeasureOf ["cutting"] (spMeasX C_InvalidCutting)) {fxCuttingNumber : Addr} {fdxCuttingNumber : FuncData} (X_CuttingNumber : DefX P w K mg base 6 "cutting_number" fxCuttingNumber fdxCuttingNumber ["cutting"] (spBadX C_InvalidCutting)) {fxNextCutting : Addr} {fdxNextCutting : FuncData} (X_NextCutting : DefX P w K mg base 6 "next_cutting" fxNextCutting fdxNextCutting ["cutting"] (spBadX C_InvalidCutting)) {fxHowManyCuttings : Addr} {fdxHowManyCuttings : FuncData} (X_HowManyCuttings : DefX P w K mg base 4 "how_many_cuttings" fxHowManyCuttings fdxHowManyCuttings ["measure"] (spHmcX C_InvalidMeasure)) {fxCuttings : Addr} {fdxCuttings : FuncData} (X_Cuttings : DefX P w K mg base 5 "cuttings" fxCuttings fdxCuttings ["measure"] (spCutsX C_InvalidMeasure C_TooMany)) : FnOk P w K mg base (L2.CX P w) 7 f fd ["_law_which", "_law_one", "_law_more"] (spAsk11 C_InvalidCutting C_InvalidMeasure C_InvalidNumber C_TooMany) := by
  refine F.okX scLawAsked (fun vs H Q E h => ?_) (fun cdv A outer s H vs Q E hr h => ?_)
  · obtain ⟨u, x, y, oc, rfl, _⟩ := h
    rfl
  · obtain ⟨u, x, y, oc, rfl, hA, kk⟩ := h
    refine ⟨_, (pss_cons (ps_if (pt_cmpR op_lt (pv 0) pe_int (nomark _)) (pss_one (ps_ret (pe_ixcallK (P := P) (w := w) (K := K) (mg := mg) (base := base) rfl rfl rfl rfl rfl (pe_ix ixL (pe_lst (pa_cons (pe_glob (v := .ref fxMeasureOf) (by rfl) X_MeasureOf.m (by rfl)) (pa_cons (pe_glob (v := .ref fxCuttingNumber) (by rfl) X_CuttingNumber.m (by rfl)) (pa_cons (pe_glob (v := .ref fxNextCutting) (by rfl) X_NextCutting.m (by rfl)) pa_nil)))) (pv 0) (fun _ _ => rfl)) takes_def hr (pa_cons (pv 1) pa_nil)))) pss_nil)
        (pss_cons (ps_if (pt_cmpR op_lt (pv 0) pe_int (nomark _)) (pss_one (ps_ret (pe_ixcallK (P := P) (w := w) (K := K) (mg := mg) (base := base) rfl rfl rfl rfl rfl (pe_ix ixL (pe_lst (pa_cons (pe_glob (v := .ref fxHowManyCuttings) (by rfl) X_HowManyCuttings.m (by rfl)) (pa_cons (pe_glob (v := .ref fxCuttings) (by rfl) X_Cuttings.m (by rfl)) pa_nil))) (pe_op op_sub (pv 0) pe_int) (fun _ _ => rfl)) takes_def hr (pa_cons (pv 1) pa_nil)))) pss_nil)
        (pss_one (ps_ret (pe_ifExp (pt_cmpR op_eq (pv 0) pe_int (nomark _)) (pe_dS X_HowManyWithLast takes_def hr (pa_cons (pv 1) (pa_cons (pv 2) pa_nil))) (pe_dS X_CuttingNumbered takes_def hr (pa_cons (pv 1) (pa_cons (pv 2) pa_nil)))))))), ?_⟩
    have e0 : start N_LawAsked [.int u, x, y] = [some (.int u), some x, some y] := rfl
    rw [e0]
    simp only [cxK, wipe, tYes, List.map_cons, List.map_nil, rIxL, rSum, tSl, rSlL, tNoPart, tPart, exists_and_left, and_assoc, V.ref.injEq, HO.lst.injEq, HO.tup.injEq, tFor_eq, iRng1, iRng2, iList, iTup, tLc_eq, tLst, tTup, gSub, rSetL, gT, gL, gTup, gCons, gNil, atI_0, atI_1, atI_2, atI_3, List.length_cons, List.length_nil, Nat.zero_add, Nat.reduceAdd, Nat.reduceLeDiff, ixN_30, ixN_31, ixN_32, Int.reduceLT, Int.reduceLE, Int.reduceNeg, upd_same, reduceCtorEq, false_and, exists_false, or_false, false_or, tSeq, tNext, tIfS, tRet, tRetN, tDrop, tAsg, gName, tPar, tPar3, tAug, ipI, tVar, tC, tOp, tUn, tCB, tD, tDK, tCons, tNil, rI, rI0, rU, tB, tTest, tCallS, tErr, tAnd, tOr, tNot, tAndV, tOrV, tNotV, tIf, rEq, rNe, scal_ii, scal_bb, scal_ss, rGcd_eq, tBits, List.set_cons_zero, List.set_cons_succ, List.getElem?_cons_zero, List.getElem?_cons_succ, Option.some.injEq, exists_eq_left', V.int.injEq, V.bl.injEq, V.str.injEq, true_and, and_true, decide_eq_true_eq, List.cons.injEq, exists_eq_left, Bool.false_eq_true, if_false, if_true, ite_true, ite_false, Bool.not_eq_true', decide_eq_false_iff_not, Bool.not_not, tIxCall]
    cases hA with
    | cut hu hO hc =>
      rw [if_pos (by omega)]
      refine ⟨sml (by decide), fun p np => ?_⟩
      have s := Same.upd (o := .lst [V.ref fxMeasureOf, V.ref fxCuttingNumber, V.ref fxNextCutting]) np
      have hO' := hO.same s
      have hc' := (cutB_same s hO.1).trans hc
      have hE := Err.same kk s
      rcases (show u = 0 ∨ u = 1 ∨ u = 2 by omega) with rfl | rfl | rfl
      · exact ⟨_, atI_nat (j := 0) rfl, _, rfl, _, X_MeasureOf.at', x, rfl, .inl ⟨hO', hc', hE⟩⟩
      · exact ⟨_, atI_nat (j := 1) rfl, _, rfl, _, X_CuttingNumber.at', x, rfl, hO', hc', hE⟩
      · exact ⟨_, atI_nat (j := 2) rfl, _, rfl, _, X_NextCutting.at', x, rfl, hO', hc', hE⟩
    | @good p q y hC hz =>
      rw [if_pos (by decide)]
      refine ⟨sml (by decide), fun p2 np => ?_⟩
      have s := Same.upd (o := .lst [V.ref fxMeasureOf, V.ref fxCuttingNumber, V.ref fxNextCutting]) np
      exact ⟨_, atI_nat (j := 0) rfl, _, rfl, _, X_MeasureOf.at', _, rfl, .inr ⟨p, q, rfl, hC.same s, hz, fun H' s' => kk _ _ (s.trans s')⟩⟩
    | meas h3 h7 hO hm =>
      rw [if_neg (by omega)]
      rcases (show u = 3 ∨ u = 4 ∨ u = 5 ∨ u = 6 by omega) with rfl | rfl | rfl | rfl
      · rw [if_pos (by decide)]
        refine ⟨sml (by decide), fun p np => ?_⟩
        have s := Same.upd (o := .lst [V.ref fxHowManyCuttings, V.ref fxCuttings]) np
        exact ⟨_, atI_nat (j := 0) rfl, _, rfl, _, X_HowManyCuttings.at', x, rfl, .inl ⟨hO.same s, hm, Err.same kk s⟩⟩
      · rw [if_pos (by decide)]
        refine ⟨sml (by decide), fun p np => ?_⟩
        have s := Same.upd (o := .lst [V.ref fxHowManyCuttings, V.ref fxCuttings]) np
        exact ⟨_, atI_nat (j := 1) rfl, _, rfl, _, X_Cuttings.at', x, rfl, .inl ⟨hO.same s, hm, Err.same kk s⟩⟩
      · rw [if_neg (by decide), if_pos (by decide)]
        exact ⟨x, y, rfl, .inl ⟨hO, hm, kk⟩⟩
      · rw [if_neg (by decide), if_neg (by decide)]
        exact ⟨x, y, rfl, .inl ⟨hO, hm, kk⟩⟩
    | num hu hM hD hO hi =>
      rcases hu with rfl | rfl
      · rw [if_neg (by decide), if_neg (by decide), if_pos (by decide)]
        exact ⟨_, y, rfl, .inr ⟨_, rfl, hM, hD, .inl ⟨hO, hi, kk⟩⟩⟩
      · rw [if_neg (by decide), if_neg (by decide), if_neg (by decide)]
        exact ⟨_, y, rfl, .inr ⟨_, rfl, hM, hD, .inl ⟨hO, hi, kk⟩⟩⟩
    | last hM hD he =>
      rw [if_neg (by decide), if_neg (by decide), if_pos (by decide)]
      exact ⟨_, _, rfl, .inr ⟨_, rfl, hM, hD, .inr ⟨_, rfl, he, kk⟩⟩⟩
    | neg hM hD hn =>
      rw [if_neg (by decide), if_neg (by decide), if_neg (by decide)]
      exact ⟨_, _, rfl, .inr ⟨_, rfl, hM, hD, .inr ⟨_, rfl, .inl ⟨hn, kk⟩⟩⟩⟩
    | big hM hD hL hn =>
      rw [if_neg (by decide), if_neg (by decide), if_neg (by decide)]
      exact ⟨_, _, rfl, .inr ⟨_, rfl, hM, hD, .inr ⟨_, rfl, .inr ⟨by omega, hL, .inl ⟨hn, kk⟩⟩⟩⟩⟩
    | «at» hM hD hL hn =>
      rw [if_neg (by decide), if_neg (by decide), if_neg (by decide)]
      exact ⟨_, _, rfl, .inr ⟨_, rfl, hM, hD, .inr ⟨_, rfl, .inr ⟨by omega, hL, .inr ⟨by omega, kk⟩⟩⟩⟩⟩
    | many hM hD hn =>
      rw [if_neg (by decide), if_pos (by decide)]
      refine ⟨sml (by decide), fun p np => ?_⟩
      have s := Same.upd (o := .lst [V.ref fxHowManyCuttings, V.ref fxCuttings]) np
      exact ⟨_, atI_nat (j := 1) rfl, _, rfl, _, X_Cuttings.at', _, rfl, .inr ⟨_, rfl, hM, hD, hn, Err.same kk s⟩⟩

theorem okLawCaught {f : Addr} {fd : FuncData} (F : Fun K "_law_caught" "_law_caught" s_LawCaught f fd) (T : Txt K mg) {C_InvalidCutting f_InvalidCutting : Addr} {fd_InvalidCutting : FuncData} (E_InvalidCutting : ErrN P w K mg base "InvalidCutting" C_InvalidCutting f_InvalidCutting fd_InvalidCutting) {C_InvalidMeasure f_InvalidMeasure : Addr} {fd_InvalidMeasure : FuncData} (E_InvalidMeasure : ErrN P w K mg base "InvalidMeasure" C_InvalidMeasure f_InvalidMeasure fd_InvalidMeasure) {C_InvalidNumber f_InvalidNumber : Addr} {fd_InvalidNumber : FuncData} (E_InvalidNumber : ErrN P w K mg base "InvalidNumber" C_InvalidNumber f_InvalidNumber fd_InvalidNumber) {C_TooMany f_TooMany : Addr} {fd_TooMany : FuncData} (E_TooMany : ErrN P w K mg base "TooMany" C_TooMany f_TooMany fd_TooMany) {C_SheetError : Addr} (E_SheetError : ErrP K mg "SheetError" C_SheetError [.type "ValueError", .type "Exception", .type "BaseException", .type "object"] "ValueError" "ValueError.__new__" "ValueError.__init__") {fxLawAsked : Addr} {fdxLawAsked : FuncData} (X_LawAsked : DefX P w K mg base 7 "_law_asked" fxLawAsked fdxLawAsked ["_law_which", "_law_one", "_law_more"] (spAsk11 C_InvalidCutting C_InvalidMeasure C_InvalidNumber C_TooMany)) (KT : KitE K [C_InvalidCutting, C_InvalidMeasure, C_InvalidNumber, C_TooMany] C_SheetError) (KN : ∀ C ∈ [C_InvalidCutting, C_InvalidMeasure, C_InvalidNumber, C_TooMany], PySem.W.kitOne K (.type "NoneType") (.ref C) = some false) : FnG P w K mg base 8 f fd ["_law_which", "_law_one", "_law_more"] (spCau11 K C_InvalidCutting C_InvalidMeasure C_InvalidNumber C_TooMany) := by
  refine fnG_mk F scLawCaught (fun vs H Q E h => ?_) (fun cdv A outer s H vs Q E gd hr h => ?_)
  · obtain ⟨u, x, y, oc, d, rfl, _⟩ := h
    rfl
  · obtain ⟨u, x, y, oc, d, rfl, hA, hR, kk⟩ := h
    refine ⟨_, (pss_cons (ps_par (i := 3) (j := 4) rfl scLawCaught.nd rfl rfl (by decide) rfl rfl (pa_cons pe_non (pa_cons (pe_callB (cr_reprW gd hr.units) (by rfl) T.repr (by decide +kernel) (pa_cons (pe_lstB (pa_cons (pv 1) (pa_cons (pv 2) pa_nil))) pa_nil)) pa_nil)) rfl)
        (pss_cons (ps_try_keep rfl rfl scLawCaught.nd (i := 5) rfl rfl ⟨rfl, by decide, .inl E_SheetError.m⟩ takes0 (fun W pn xe tk _ => (pss_one (ps_expr (pe_dS X_LawAsked tk hr (pa_cons (pv 0) (pa_cons (pv 1) (pa_cons (pv 2) pa_nil))))))) (fun a cls d pn => (pss_one (ps_set (i := 3) scLawCaught.nd rfl (Or.inl rfl) (pv 5)))))
        (pss_cons (ps_if (pt_cmpR op_ne (pe_callB (cr_reprW gd hr.units) (by rfl) T.repr (by decide +kernel) (pa_cons (pe_lstB (pa_cons (pv 1) (pa_cons (pv 2) pa_nil))) pa_nil)) (pv 4) (nomark _)) (pss_one (ps_ret (pe_tup (pa_cons (pe_lst pa_nil) (pa_cons pe_non pa_nil))))) pss_nil)
        (pss_cons (ps_set (i := 6) scLawCaught.nd rfl (Or.inl rfl) (pe_lst (pa_cons (pe_callB call_isKN (by rfl) T.isinstance (by decide +kernel) (pa_cons (pv 3) (pa_cons (pe_glob (v := .ref C_InvalidCutting) rfl E_InvalidCutting.m rfl) pa_nil))) (pa_cons (pe_callB call_isKN (by rfl) T.isinstance (by decide +kernel) (pa_cons (pv 3) (pa_cons (pe_glob (v := .ref C_InvalidMeasure) rfl E_InvalidMeasure.m rfl) pa_nil))) (pa_cons (pe_callB call_isKN (by rfl) T.isinstance (by decide +kernel) (pa_cons (pv 3) (pa_cons (pe_glob (v := .ref C_InvalidNumber) rfl E_InvalidNumber.m rfl) pa_nil))) (pa_cons (pe_callB call_isKN (by rfl) T.isinstance (by decide +kernel) (pa_cons (pv 3) (pa_cons (pe_glob (v := .ref C_TooMany) rfl E_TooMany.m rfl) pa_nil))) pa_nil))))))
        (pss_one (ps_ret (pe_tup (pa_cons (pv 6) (pa_cons (pe_ifExp (pt_cmpR op_isN (pv 3) pe_non (nomark _)) pe_non (pe_xk (pv 3))) pa_nil))))))))), ?_⟩
    have e0 : start N_LawCaught [.int u, x, y] = [some (.int u), some (x), some (y), none, none, none, none] := rfl
    rw [e0]
    refine seq_gen fun C1 hC1 => ?_
    simp only [cxK, wipe, tYes, List.map_cons, List.map_nil, rIxL, rSum, tSl, rSlL, tNoPart, tPart, exists_and_left, and_assoc, V.ref.injEq, HO.lst.injEq, HO.tup.injEq, tFor_eq, iRng1, iRng2, iList, iTup, tLc_eq, tLst, tTup, gSub, rSetL, gT, gL, gTup, gCons, gNil, atI_0, atI_1, atI_2, atI_3, List.length_cons, List.length_nil, Nat.zero_add, Nat.reduceAdd, Nat.reduceLeDiff, ixN_30, ixN_31, ixN_32, Int.reduceLT, Int.reduceLE, Int.reduceNeg, upd_same, reduceCtorEq, false_and, exists_false, or_false, false_or, tNext, tIfS, tRet, tRetN, tDrop, tAsg, gName, tPar, tPar3, tAug, ipI, tVar, tC, tOp, tUn, tCB, tD, tDK, tCons, tNil, rI, rI0, rU, tB, tTest, tCallS, tErr, tAnd, tOr, tNot, tAndV, tOrV, tNotV, tIf, rEq, rNe, scal_ii, scal_bb, scal_ss, rGcd_eq, tBits, List.set_cons_zero, List.set_cons_succ, List.getElem?_cons_zero, List.getElem?_cons_succ, Option.some.injEq, exists_eq_left', V.int.injEq, V.bl.injEq, V.str.injEq, true_and, and_true, decide_eq_true_eq, List.cons.injEq, exists_eq_left, Bool.false_eq_true, if_false, if_true, ite_true, ite_false, Bool.not_eq_true', decide_eq_false_iff_not, Bool.not_not, tLstB]
    refine ⟨sml (by decide), fun L nL nsL => ?_⟩
    have s1 := Same.upd (o := .lst [x, y]) nL
    refine ⟨_, hR L _ s1 nsL upd_same, ?_⟩
    generalize upd H L (.lst [x, y]) = H1 at *
    refine Eq.mpr (hC1 _ _) ?_
    refine seq_gen fun C2 hC2 => ?_
    try (simp only [cxK, wipe, tYes, List.map_cons, List.map_nil, rIxL, rSum, tSl, rSlL, tNoPart, tPart, exists_and_left, and_assoc, V.ref.injEq, HO.lst.injEq, HO.tup.injEq, tFor_eq, iRng1, iRng2, iList, iTup, tLc_eq, tLst, tTup, gSub, rSetL, gT, gL, gTup, gCons, gNil, atI_0, atI_1, atI_2, atI_3, List.length_cons, List.length_nil, Nat.zero_add, Nat.reduceAdd, Nat.reduceLeDiff, ixN_30, ixN_31, ixN_32, Int.reduceLT, Int.reduceLE, Int.reduceNeg, upd_same, reduceCtorEq, false_and, exists_false, or_false, false_or, tNext, tIfS, tRet, tRetN, tDrop, tAsg, gName, tPar, tPar3, tAug, ipI, tVar, tC, tOp, tUn, tCB, tD, tDK, tCons, tNil, rI, rI0, rU, tB, tTest, tCallS, tErr, tAnd, tOr, tNot, tAndV, tOrV, tNotV, tIf, rEq, rNe, scal_ii, scal_bb, scal_ss, rGcd_eq, tBits, List.set_cons_zero, List.set_cons_succ, List.getElem?_cons_zero, List.getElem?_cons_succ, Option.some.injEq, exists_eq_left', V.int.injEq, V.bl.injEq, V.str.injEq, true_and, and_true, decide_eq_true_eq, List.cons.injEq, exists_eq_left, Bool.false_eq_true, if_false, if_true, ite_true, ite_false, Bool.not_eq_true', decide_eq_false_iff_not, Bool.not_not])
    refine ⟨u, x, y, oc, rfl, hA.same s1, ?_⟩
    have tail : ∀ (ev : V) (H3 : Hp), Same H H3 → (∀ C, C ∈ [C_InvalidCutting, C_InvalidMeasure, C_InvalidNumber, C_TooMany] → ∀ (h : Hp) (Qx : VK), Same H3 h → Qx (.bl (match oc with | .ok => false | .err D _ => decide (D = C))) h → rIsKN K [ev, .ref C] h Qx) → (oc = .ok → ev = .non) → (∀ C v, oc = .err C v → ∃ a dx, ev = .ref a ∧ H3 a = some (ExK (.ref C) (some dx) a) ∧ H3 dx = some (.xd [("value", v)]) ∧ XfC K C ∧ PySem.W.findIn K (.ref C) "value" = some none) → ∀ t6 t7 : Option V, C2 [some (.int u), some x, some y, some ev, some (.str d.shown), t6, t7] H3 := by
      intro ev H3 s3 his hev1 hev2 t6 t7
      refine Eq.mpr (hC2 _ _) ?_
      refine seq_gen fun C3 hC3 => ?_
      simp only [cxK, wipe, tYes, List.map_cons, List.map_nil, rIxL, rSum, tSl, rSlL, tNoPart, tPart, exists_and_left, and_assoc, V.ref.injEq, HO.lst.injEq, HO.tup.injEq, tFor_eq, iRng1, iRng2, iList, iTup, tLc_eq, tLst, tTup, gSub, rSetL, gT, gL, gTup, gCons, gNil, atI_0, atI_1, atI_2, atI_3, List.length_cons, List.length_nil, Nat.zero_add, Nat.reduceAdd, Nat.reduceLeDiff, ixN_30, ixN_31, ixN_32, Int.reduceLT, Int.reduceLE, Int.reduceNeg, upd_same, reduceCtorEq, false_and, exists_false, or_false, false_or, tNext, tIfS, tRet, tRetN, tDrop, tAsg, gName, tPar, tPar3, tAug, ipI, tVar, tC, tOp, tUn, tCB, tD, tDK, tCons, tNil, rI, rI0, rU, tB, tTest, tCallS, tErr, tAnd, tOr, tNot, tAndV, tOrV, tNotV, tIf, rEq, rNe, scal_ii, scal_bb, scal_ss, rGcd_eq, tBits, List.set_cons_zero, List.set_cons_succ, List.getElem?_cons_zero, List.getElem?_cons_succ, Option.some.injEq, exists_eq_left', V.int.injEq, V.bl.injEq, V.str.injEq, true_and, and_true, decide_eq_true_eq, List.cons.injEq, exists_eq_left, Bool.false_eq_true, if_false, if_true, ite_true, ite_false, Bool.not_eq_true', decide_eq_false_iff_not, Bool.not_not, tLstB]
      refine ⟨sml (by decide), fun L2 nL2 nsL2 => ?_⟩
      have s4 := Same.upd (o := .lst [x, y]) nL2
      refine ⟨_, hR L2 _ (s3.trans s4) nsL2 upd_same, ?_⟩
      rw [if_neg (fun h => h rfl)]
      generalize upd H3 L2 (.lst [x, y]) = H4 at *
      refine Eq.mpr (hC3 _ _) ?_
      refine seq_gen fun C4 hC4 => ?_
      simp only [cxK, wipe, tYes, List.map_cons, List.map_nil, rIxL, rSum, tSl, rSlL, tNoPart, tPart, exists_and_left, and_assoc, V.ref.injEq, HO.lst.injEq, HO.tup.injEq, tFor_eq, iRng1, iRng2, iList, iTup, tLc_eq, tLst, tTup, gSub, rSetL, gT, gL, gTup, gCons, gNil, atI_0, atI_1, atI_2, atI_3, List.length_cons, List.length_nil, Nat.zero_add, Nat.reduceAdd, Nat.reduceLeDiff, ixN_30, ixN_31, ixN_32, Int.reduceLT, Int.reduceLE, Int.reduceNeg, upd_same, reduceCtorEq, false_and, exists_false, or_false, false_or, tNext, tIfS, tRet, tRetN, tDrop, tAsg, gName, tPar, tPar3, tAug, ipI, tVar, tC, tOp, tUn, tCB, tD, tDK, tCons, tNil, rI, rI0, rU, tB, tTest, tCallS, tErr, tAnd, tOr, tNot, tAndV, tOrV, tNotV, tIf, rEq, rNe, scal_ii, scal_bb, scal_ss, rGcd_eq, tBits, List.set_cons_zero, List.set_cons_succ, List.getElem?_cons_zero, List.getElem?_cons_succ, Option.some.injEq, exists_eq_left', V.int.injEq, V.bl.injEq, V.str.injEq, true_and, and_true, decide_eq_true_eq, List.cons.injEq, exists_eq_left, Bool.false_eq_true, if_false, if_true, ite_true, ite_false, Bool.not_eq_true', decide_eq_false_iff_not, Bool.not_not]
      refine his _ (by simp) _ _ s4 ?_
      refine his _ (by simp) _ _ s4 ?_
      refine his _ (by simp) _ _ s4 ?_
      refine his _ (by simp) _ _ s4 ?_
      refine ⟨sml (by decide), fun L3 nL3 => ?_⟩
      refine Eq.mpr (hC4 _ _) ?_
      simp only [cxK, wipe, tYes, List.map_cons, List.map_nil, rIxL, rSum, tSl, rSlL, tNoPart, tPart, exists_and_left, and_assoc, V.ref.injEq, HO.lst.injEq, HO.tup.injEq, tFor_eq, iRng1, iRng2, iList, iTup, tLc_eq, tLst, tTup, gSub, rSetL, gT, gL, gTup, gCons, gNil, atI_0, atI_1, atI_2, atI_3, List.length_cons, List.length_nil, Nat.zero_add, Nat.reduceAdd, Nat.reduceLeDiff, ixN_30, ixN_31, ixN_32, Int.reduceLT, Int.reduceLE, Int.reduceNeg, upd_same, reduceCtorEq, false_and, exists_false, or_false, false_or, tSeq, tNext, tIfS, tRet, tRetN, tDrop, tAsg, gName, tPar, tPar3, tAug, ipI, tVar, tC, tOp, tUn, tCB, tD, tDK, tCons, tNil, rI, rI0, rU, tB, tTest, tCallS, tErr, tAnd, tOr, tNot, tAndV, tOrV, tNotV, tIf, rEq, rNe, scal_ii, scal_bb, scal_ss, rGcd_eq, tBits, List.set_cons_zero, List.set_cons_succ, List.getElem?_cons_zero, List.getElem?_cons_succ, Option.some.injEq, exists_eq_left', V.int.injEq, V.bl.injEq, V.str.injEq, true_and, and_true, decide_eq_true_eq, List.cons.injEq, exists_eq_left, Bool.false_eq_true, if_false, if_true, ite_true, ite_false, Bool.not_eq_true', decide_eq_false_iff_not, Bool.not_not, tXk]
      have s34 := s3.trans s4
      cases oc with
      | ok =>
        have e := hev1 rfl
        subst e
        rw [if_pos rfl]
        refine ⟨sml (by decide), fun p np => ?_⟩
        have s5 := Same.upd (o := .lst [V.bl false, V.bl false, V.bl false, V.bl false]) nL3
        have hne : p ≠ L3 := fun e => by rw [e, upd_same] at np; cases np
        exact kk p L3 _ (s34.free (s5.free np)) (s34.free nL3) hne ((s34.trans s5).trans (Same.upd np)) upd_same ((Same.upd np) _ _ upd_same)
      | err C v =>
        obtain ⟨a, dx, rfl, ea, ed, xf, nv⟩ := hev2 C v rfl
        have s5 := Same.upd (o := .lst [V.bl (decide (C = C_InvalidCutting)), V.bl (decide (C = C_InvalidMeasure)), V.bl (decide (C = C_InvalidNumber)), V.bl (decide (C = C_TooMany))]) nL3
        rw [if_neg (by simp)]
        refine ⟨_, rfl, C, dx, s5 _ _ (s4 _ _ ea), xf, nv, _, s5 _ _ (s4 _ _ ed), v, look1, sml (by decide), fun p np => ?_⟩
        have hne : p ≠ L3 := fun e => by rw [e, upd_same] at np; cases np
        exact kk p L3 _ (s34.free (s5.free np)) (s34.free nL3) hne ((s34.trans s5).trans (Same.upd np)) upd_same ((Same.upd np) _ _ upd_same)
    cases oc with
    | ok =>
      exact fun r H' s => tail .non H' (s1.trans s) (fun C hC h Qx _ q => isN (KN C hC) q) (fun _ => rfl) (fun C v e => by cases e) none none
    | err C v =>
      refine fun dx H2 s2 ed => ?_
      obtain ⟨i, hi, hCi⟩ := hA.inn
      have hC : C ∈ [C_InvalidCutting, C_InvalidMeasure, C_InvalidNumber, C_TooMany] := List.mem_of_getElem? hCi
      refine ⟨true, KT.ex C hC, fun _ a na => ?_, fun h => Bool.noConfusion h⟩
      have s3 : Same H2 (upd H2 a (ExK (.ref C) (some dx) a)) := Same.upd na
      have ea : (upd H2 a (ExK (.ref C) (some dx) a)) a = some (ExK (.ref C) (some dx) a) := upd_same
      have ed2 := s3 _ _ ed
      generalize upd H2 a (ExK (.ref C) (some dx) a) = H3 at *
      simp only [cxK, wipe, tYes, List.map_cons, List.map_nil, rIxL, rSum, tSl, rSlL, tNoPart, tPart, exists_and_left, and_assoc, V.ref.injEq, HO.lst.injEq, HO.tup.injEq, tFor_eq, iRng1, iRng2, iList, iTup, tLc_eq, tLst, tTup, gSub, rSetL, gT, gL, gTup, gCons, gNil, atI_0, atI_1, atI_2, atI_3, List.length_cons, List.length_nil, Nat.zero_add, Nat.reduceAdd, Nat.reduceLeDiff, ixN_30, ixN_31, ixN_32, Int.reduceLT, Int.reduceLE, Int.reduceNeg, upd_same, reduceCtorEq, false_and, exists_false, or_false, false_or, tNext, tIfS, tRet, tRetN, tDrop, tAsg, gName, tPar, tPar3, tAug, ipI, tVar, tC, tOp, tUn, tCB, tD, tDK, tCons, tNil, rI, rI0, rU, tB, tTest, tCallS, tErr, tAnd, tOr, tNot, tAndV, tOrV, tNotV, tIf, rEq, rNe, scal_ii, scal_bb, scal_ss, rGcd_eq, tBits, List.set_cons_zero, List.set_cons_succ, List.getElem?_cons_zero, List.getElem?_cons_succ, Option.some.injEq, exists_eq_left', V.int.injEq, V.bl.injEq, V.str.injEq, true_and, and_true, decide_eq_true_eq, List.cons.injEq, exists_eq_left, Bool.false_eq_true, if_false, if_true, ite_true, ite_false, Bool.not_eq_true', decide_eq_false_iff_not, Bool.not_not]
      refine tail (.ref a) H3 ((s1.trans s2).trans s3) (fun D hD h Qx sh q => ?_) (fun e => by cases e) (fun C' v' e => ?_) _ _
      · obtain ⟨j, hj⟩ := List.getElem?_of_mem hD
        refine .inl (isKe (sh _ _ ea) (sh _ _ ed2) (KT.ec C hC) (fun _ h => h) (KT.kit i j C D hCi hj) ?_)
        have heq : decide (j = i) = decide (C = D) := by
          by_cases e : j = i
          · subst e
            rw [hCi] at hj
            rw [decide_eq_true rfl, decide_eq_true (Option.some.inj hj)]
          · rw [decide_eq_false e]
            refine (decide_eq_false fun e2 => ?_).symm
            subst e2
            have k1 := KT.kit i j C C hCi hj
            have k2 := KT.kit i i C C hCi hCi
            rw [k1] at k2
            have := Option.some.inj k2
            rw [decide_eq_false e, decide_eq_true rfl] at this
            cases this
        rw [heq]
        exact q
      · cases e
        exact ⟨a, dx, rfl, ea, ed2, KT.xf C hC, KT.nv C hC⟩

theorem okLawOnly {f : Addr} {fd : FuncData} (F : Fun K "_law_only" "_law_only" s_LawOnly f fd) (T : Txt K mg) : FnG P w K mg base 1 f fd ["_law_told", "_law_place", "_law_bad"] (spOnly11 K) := by
  refine fnG_mk F scLawOnly (fun vs H Q E h => ?_) (fun cdv A outer s H vs Q E gd hr h => ?_)
  · obtain ⟨p, L, j, x, d, rfl, _⟩ := h
    rfl
  · obtain ⟨p, L, j, x, d, rfl, hp, hj, hL, hx, hx2, kk⟩ := h
    refine ⟨_, (pss_one (ps_ret (pe_and (pe_cmpR (op_eqD hr.units) (pe_ix ixT (pv 0) pe_int (fun _ _ => rfl)) (pe_lc (own := [("_law_at", 3)]) (g := gName 3) (tt := tYes) rfl scLawOnly.nd (pi_range1 rfl T.range (pa_cons pe_int pa_nil)) (blkOk_by (N := N_LawOnly) (sc := defScope s_LawOnly) (by decide +kernel)) (fun _ _ _ _ _ => pg_name (i := 3) scLawOnly.nd rfl (Or.inl rfl)) (fun _ _ _ _ _ => pts_nil) (fun _ _ _ _ _ => (pe_cmpR op_eq (pv 3) (pv 1) (nomark _)))) (nomark _)) (pe_one (pe_cmpR op_eq (pe_callB (cr_reprQ gd hr.units) (by rfl) T.repr (by decide +kernel) (pa_cons (pe_ix ixT (pv 0) pe_int (fun _ _ => rfl)) pa_nil)) (pe_callB (cr_reprQ gd hr.units) (by rfl) T.repr (by decide +kernel) (pa_cons (pv 2) pa_nil)) (nomark _)))))), ?_⟩
    have e0 : start N_LawOnly [.ref p, .int j, x] = [some (.ref p), some (.int j), some (x), none] := rfl
    rw [e0]
    simp only [cxK, wipe, tYes, List.map_cons, List.map_nil, rIxL, rSum, tSl, rSlL, tNoPart, tPart, exists_and_left, and_assoc, V.ref.injEq, HO.lst.injEq, HO.tup.injEq, tFor_eq, iRng1, iRng2, iList, iTup, tLc_eq, tLst, tTup, gSub, rSetL, gT, gL, gTup, gCons, gNil, atI_0, atI_1, atI_2, atI_3, List.length_cons, List.length_nil, Nat.zero_add, Nat.reduceAdd, Nat.reduceLeDiff, ixN_30, ixN_31, ixN_32, Int.reduceLT, Int.reduceLE, Int.reduceNeg, upd_same, reduceCtorEq, false_and, exists_false, or_false, false_or, tSeq, tNext, tIfS, tRet, tRetN, tDrop, tAsg, gName, tPar, tPar3, tAug, ipI, tVar, tC, tOp, tUn, tCB, tD, tDK, tCons, tNil, rI, rI0, rU, tB, tTest, tCallS, tErr, tAnd, tOr, tNot, tAndV, tOrV, tNotV, tIf, rEq, rNe, scal_ii, scal_bb, scal_ss, rGcd_eq, tBits, List.set_cons_zero, List.set_cons_succ, List.getElem?_cons_zero, List.getElem?_cons_succ, Option.some.injEq, exists_eq_left', V.int.injEq, V.bl.injEq, V.str.injEq, true_and, and_true, decide_eq_true_eq, List.cons.injEq, exists_eq_left, Bool.false_eq_true, if_false, if_true, ite_true, ite_false, Bool.not_eq_true', decide_eq_false_iff_not, Bool.not_not]
    refine ⟨_, hp, .ref L, atI_0, by decide, by decide, fun D nD => ?_⟩
    refine lcW_range (InvOn11 H D j) ⟨Same.upd nD, upd_same⟩ (fun i h hi z => ?_) (fun h z => ?_)
    · refine ⟨rfl, ?_⟩
      have hi4 : i < 4 := hi
      simp only [cxK, wipe, tYes, List.map_cons, List.map_nil, rIxL, rSum, tSl, rSlL, tNoPart, tPart, exists_and_left, and_assoc, V.ref.injEq, HO.lst.injEq, HO.tup.injEq, tFor_eq, iRng1, iRng2, iList, iTup, tLc_eq, tLst, tTup, gSub, rSetL, gT, gL, gTup, gCons, gNil, atI_0, atI_1, atI_2, atI_3, List.length_cons, List.length_nil, Nat.zero_add, Nat.reduceAdd, Nat.reduceLeDiff, ixN_30, ixN_31, ixN_32, Int.reduceLT, Int.reduceLE, Int.reduceNeg, upd_same, reduceCtorEq, false_and, exists_false, or_false, false_or, tSeq, tNext, tIfS, tRet, tRetN, tDrop, tAsg, gName, tPar, tPar3, tAug, ipI, tVar, tC, tOp, tUn, tCB, tD, tDK, tCons, tNil, rI, rI0, rU, tB, tTest, tCallS, tErr, tAnd, tOr, tNot, tAndV, tOrV, tNotV, tIf, rEq, rNe, scal_ii, scal_bb, scal_ss, rGcd_eq, tBits, List.set_cons_zero, List.set_cons_succ, List.getElem?_cons_zero, List.getElem?_cons_succ, Option.some.injEq, exists_eq_left', V.int.injEq, V.bl.injEq, V.str.injEq, true_and, and_true, decide_eq_true_eq, List.cons.injEq, exists_eq_left, Bool.false_eq_true, if_false, if_true, ite_true, ite_false, Bool.not_eq_true', decide_eq_false_iff_not, Bool.not_not]
      refine ⟨_, z.2, Nat.le_trans (show _ ≤ 2001 by rw [List.length_map, List.length_range]; omega) (Nat.le_of_ble_eq_true rfl), Same.upd2 z.1 nD, ?_⟩
      rw [upd_same, List.range_succ, List.map_append]
      congr 3
      simp
      omega
    · replace z : InvOn11 H D j 4 h := z
      obtain ⟨s, eD⟩ := z
      have e1 : ∀ n : Nat, ((List.range n).map fun i => V.bl (decide (i = j))) = (((List.range n).map fun i => decide (i = j)).map V.bl) := fun n => by rw [List.map_map]; rfl
      rw [e1] at eD hL
      refine eq_bools _ (s _ _ hL) eD ⟨true, rfl, ?_⟩
      rw [if_pos rfl]
      refine ⟨_, s _ _ hp, x, atI_1, d, hx2 _ s, d, hx2 _ s, ?_⟩
      rw [decide_eq_true rfl]
      exact kk _ s

theorem okLaw {f : Addr} {fd : FuncData} (F : Fun K "law" "law" s_Law f fd) (T : Txt K mg) {C_InvalidCutting f_InvalidCutting : Addr} {fd_InvalidCutting : FuncData} (E_InvalidCutting : ErrN P w K mg base "InvalidCutting" C_InvalidCutting f_InvalidCutting fd_InvalidCutting) {C_InvalidMeasure f_InvalidMeasure : Addr} {fd_InvalidMeasure : FuncData} (E_InvalidMeasure : ErrN P w K mg base "InvalidMeasure" C_InvalidMeasure f_InvalidMeasure fd_InvalidMeasure) {C_InvalidNumber f_InvalidNumber : Addr} {fd_InvalidNumber : FuncData} (E_InvalidNumber : ErrN P w K mg base "InvalidNumber" C_InvalidNumber f_InvalidNumber fd_InvalidNumber) {C_TooMany f_TooMany : Addr} {fd_TooMany : FuncData} (E_TooMany : ErrN P w K mg base "TooMany" C_TooMany f_TooMany fd_TooMany) {fLawGenerator : Addr} {fdLawGenerator : FuncData} (D_LawGenerator : DefAt P w K mg base 2 "_law_generator" fLawGenerator fdLawGenerator ["_law_script", "_law_index"] (spGen K)) {fLawAll : Addr} {fdLawAll : FuncData} (D_LawAll : DefAt P w K mg base 4 "_law_all" fLawAll fdLawAll ["_law_measure_here"] (spLawAll)) {fLawMeasure : Addr} {fdLawMeasure : FuncData} (D_LawMeasure : DefAt P w K mg base 1 "_law_measure" fLawMeasure fdLawMeasure ["_law_cutting"] (spLawMeasure4)) {fLawCaught : Addr} {fdLawCaught : FuncData} (D_LawCaught : DefG P w K mg base 8 "_law_caught" fLawCaught fdLawCaught ["_law_which", "_law_one", "_law_more"] (spCau11 K C_InvalidCutting C_InvalidMeasure C_InvalidNumber C_TooMany)) {fLawDrawnMeasure : Addr} {fdLawDrawnMeasure : FuncData} (D_LawDrawnMeasure : DefAt P w K mg base 3 "_law_drawn_measure" fLawDrawnMeasure fdLawDrawnMeasure ["_law_generator_here", "_law_most"] (spDrawnM8)) {fLawRandom : Addr} {fdLawRandom : FuncData} (D_LawRandom : DefAt P w K mg base 2 "_law_random" fLawRandom fdLawRandom ["_law_generator_here", "_law_bound"] (spRandom)) {fLawOnly : Addr} {fdLawOnly : FuncData} (D_LawOnly : DefG P w K mg base 1 "_law_only" fLawOnly fdLawOnly ["_law_told", "_law_place", "_law_bad"] (spOnly11 K)) {fHowManyCuttings : Addr} {fdHowManyCuttings : FuncData} (D_HowManyCuttings : DefAt P w K mg base 4 "how_many_cuttings" fHowManyCuttings fdHowManyCuttings ["measure"] (spHmc)) {fCuttings : Addr} {fdCuttings : FuncData} (D_Cuttings : DefAt P w K mg base 5 "cuttings" fCuttings fdCuttings ["measure"] (spCuttings)) (NE : [C_InvalidCutting, C_InvalidMeasure, C_InvalidNumber, C_TooMany].Nodup) : FnG P w K mg base 9 f fd ["_law_script"] (spLaw K) := by
  refine fnG_mk F scLaw (fun vs H Q E h => ?_) (fun cdv A outer s H vs Q E gd hr h => ?_)
  · obtain ⟨a, ns, rfl, _⟩ := h
    rfl
  · obtain ⟨a, ns, rfl, hS, hl, kk⟩ := h
    refine ⟨_, (pss_cons (ps_set (i := 1) scLaw.nd rfl (Or.inl rfl) (pe_d D_LawGenerator hr (pa_cons (pv 0) (pa_cons pe_int pa_nil))))
        (pss_cons (ps_set (i := 2) scLaw.nd rfl (Or.inl rfl) (pe_d D_LawAll hr (pa_cons (pe_d D_LawDrawnMeasure hr (pa_cons (pv 1) (pa_cons pe_int pa_nil))) pa_nil)))
        (pss_cons (ps_asg (pe_ix ixL (pv 2) (pe_d D_LawRandom hr (pa_cons (pv 1) (pa_cons (pe_callB lenL (by rfl) T.len (by decide +kernel) (pa_cons (pv 2) pa_nil)) pa_nil))) (fun _ _ => rfl)) (pg_tupT 4 rfl (pgs_cons (pg_name (i := 3) scLaw.nd rfl (Or.inl rfl)) (pgs_cons (pg_name (i := 4) scLaw.nd rfl (Or.inl rfl)) (pgs_cons (pg_name (i := 5) scLaw.nd rfl (Or.inl rfl)) (pgs_cons (pg_name (i := 6) scLaw.nd rfl (Or.inl rfl)) pgs_nil))))))
        (pss_cons (ps_set (i := 7) scLaw.nd rfl (Or.inl rfl) (pe_lst (pa_cons pe_non (pa_cons pe_int (pa_cons pe_str (pa_cons (pe_tup pa_nil) (pa_cons (pe_lst (pa_cons (pv 3) (pa_cons (pv 4) (pa_cons (pv 5) (pa_cons (pv 6) pa_nil))))) (pa_cons (pe_tup (pa_cons (pv 3) (pa_cons (pv 4) (pa_cons (pv 5) pa_nil)))) (pa_cons (pe_tup (pa_cons (pv 3) (pa_cons (pv 4) (pa_cons (pv 5) (pa_cons (pv 6) (pa_cons pe_int pa_nil)))))) (pa_cons (pe_tup (pa_cons (pv 3) (pa_cons (pv 4) (pa_cons pe_int (pa_cons (pv 6) pa_nil))))) (pa_cons (pe_tup (pa_cons (pv 3) (pa_cons pe_int (pa_cons (pv 5) (pa_cons (pv 6) pa_nil))))) (pa_cons (pe_tup (pa_cons (pv 3) (pa_cons (pv 4) (pa_cons (pv 5) (pa_cons (pe_op op_sub (pv 4) (pv 5)) pa_nil))))) (pa_cons (pe_tup (pa_cons (pe_un un_neg pe_int) (pa_cons (pv 4) (pa_cons (pv 5) (pa_cons (pv 6) pa_nil))))) (pa_cons (pe_tup (pa_cons (pv 4) (pa_cons (pv 4) (pa_cons (pv 5) (pa_cons (pv 6) pa_nil))))) pa_nil))))))))))))))
        (pss_cons (ps_set (i := 7) scLaw.nd rfl (Or.inl rfl) (pe_op op_cat (pv 7) (pe_lst (pa_cons (pe_tup (pa_cons (pv 3) (pa_cons (pv 4) (pa_cons (pv 5) (pa_cons pe_non pa_nil))))) (pa_cons (pe_tup (pa_cons (pv 3) (pa_cons pe_bl (pa_cons (pv 5) (pa_cons (pv 6) pa_nil))))) (pa_cons (pe_tup (pa_cons pe_non (pa_cons (pv 4) (pa_cons (pv 5) (pa_cons (pv 6) pa_nil))))) (pa_cons (pe_tup (pa_cons (pv 3) (pa_cons (pv 4) (pa_cons pe_str (pa_cons (pv 6) pa_nil))))) (pa_cons (pe_tup (pa_cons pe_int (pa_cons pe_int (pa_cons pe_int (pa_cons (pe_un un_neg pe_int) pa_nil))))) (pa_cons pe_dnewK (pa_cons (pe_lst (pa_cons pe_non pa_nil)) (pa_cons (pe_tup (pa_cons (pe_tup (pa_cons (pv 3) pa_nil)) (pa_cons (pv 4) (pa_cons (pv 5) (pa_cons (pv 6) pa_nil))))) pa_nil)))))))))))
        (pss_cons (ps_for PassesOwn.never rfl (pi_list (pv 7)) (pg_name (i := 8) scLaw.nd rfl (Or.inr rfl)) (pss_one (ps_if (pt_cmpR (op_neD hr.units) (pe_lc (own := [("_law_which", 15)]) (g := gName 15) rfl scLaw.nd (pi_range1 rfl T.range (pa_cons pe_int pa_nil)) (blkOk_by (N := N_Law) (sc := defScope s_Law) (by decide +kernel)) (fun _ _ _ _ _ => pg_name (i := 15) scLaw.nd rfl (Or.inl rfl)) (fun _ _ _ _ _ => (pts_one (pt_not (pt_val (pe_g D_LawOnly gd hr (pa_cons (pe_g D_LawCaught gd hr (pa_cons (pv 15) (pa_cons (pv 8) (pa_cons pe_non pa_nil)))) (pa_cons pe_int (pa_cons (pv 8) pa_nil)))))))) (fun _ _ _ _ _ => (pv 15))) (pe_lst pa_nil) (nomark _)) (pss_one (ps_ret pe_bl)) pss_nil)))
        (pss_cons (ps_for PassesOwn.never rfl (pi_list (pe_lst (pa_cons pe_non (pa_cons pe_int (pa_cons pe_int (pa_cons pe_int (pa_cons pe_int (pa_cons pe_int (pa_cons (pe_un un_neg pe_int) (pa_cons (pe_un un_neg pe_int) (pa_cons pe_bl (pa_cons pe_str (pa_cons (pe_lst (pa_cons pe_int pa_nil)) (pa_cons (pe_tup (pa_cons pe_int pa_nil)) (pa_cons (pe_op op_add (pe_op op_powX pe_int pe_int) pe_int) pa_nil))))))))))))))) (pg_name (i := 8) scLaw.nd rfl (Or.inr rfl)) (pss_one (ps_for PassesOwn.never rfl (pi_list (pe_lst (pa_cons pe_non (pa_cons pe_int pa_nil)))) (pg_name (i := 9) scLaw.nd rfl (Or.inr rfl)) (pss_one (ps_if (pt_cmpR (op_neD hr.units) (pe_lc (own := [("_law_which", 15)]) (g := gName 15) rfl scLaw.nd (pi_range2 rfl T.range (pa_cons pe_int (pa_cons pe_int pa_nil))) (blkOk_by (N := N_Law) (sc := defScope s_Law) (by decide +kernel)) (fun _ _ _ _ _ => pg_name (i := 15) scLaw.nd rfl (Or.inl rfl)) (fun _ _ _ _ _ => (pts_one (pt_not (pt_val (pe_g D_LawOnly gd hr (pa_cons (pe_g D_LawCaught gd hr (pa_cons (pv 15) (pa_cons (pv 8) (pa_cons (pv 9) pa_nil)))) (pa_cons pe_int (pa_cons (pv 8) pa_nil)))))))) (fun _ _ _ _ _ => (pv 15))) (pe_lst pa_nil) (nomark _)) (pss_one (ps_ret pe_bl)) pss_nil)))))
        (pss_cons (ps_set (i := 10) scLaw.nd rfl (Or.inl rfl) (pe_d D_LawMeasure hr (pa_cons (pe_tup (pa_cons (pv 3) (pa_cons (pv 4) (pa_cons (pv 5) (pa_cons (pv 6) pa_nil))))) pa_nil)))
        (pss_cons (ps_for PassesOwn.never rfl (pi_list (pe_lst (pa_cons pe_non (pa_cons pe_bl (pa_cons pe_str (pa_cons (pe_lst (pa_cons pe_int pa_nil)) (pa_cons (pe_tup pa_nil) pa_nil))))))) (pg_name (i := 8) scLaw.nd rfl (Or.inr rfl)) (pss_one (ps_if (PW.pt (pw_or (pt_not (pt_val (pe_g D_LawOnly gd hr (pa_cons (pe_g D_LawCaught gd hr (pa_cons pe_int (pa_cons (pv 10) (pa_cons (pv 8) pa_nil)))) (pa_cons pe_int (pa_cons (pv 8) pa_nil)))))) (pw_or1 (pt_not (pt_val (pe_g D_LawOnly gd hr (pa_cons (pe_g D_LawCaught gd hr (pa_cons pe_int (pa_cons (pv 10) (pa_cons (pv 8) pa_nil)))) (pa_cons pe_int (pa_cons (pv 8) pa_nil))))))))) (pss_one (ps_ret pe_bl)) pss_nil)))
        (pss_cons (ps_if (PW.pt (pw_or (pt_not (pt_val (pe_g D_LawOnly gd hr (pa_cons (pe_g D_LawCaught gd hr (pa_cons pe_int (pa_cons (pv 10) (pa_cons (pe_un un_neg pe_int) pa_nil)))) (pa_cons pe_int (pa_cons (pe_un un_neg pe_int) pa_nil)))))) (pw_or1 (pt_not (pt_val (pe_g D_LawOnly gd hr (pa_cons (pe_g D_LawCaught gd hr (pa_cons pe_int (pa_cons (pv 10) (pa_cons (pe_callB lenL (by rfl) T.len (by decide +kernel) (pa_cons (pv 2) pa_nil)) pa_nil)))) (pa_cons pe_int (pa_cons (pe_callB lenL (by rfl) T.len (by decide +kernel) (pa_cons (pv 2) pa_nil)) pa_nil))))))))) (pss_one (ps_ret pe_bl)) pss_nil)
        (pss_cons (ps_if (pt_cmpR op_eq (pe_d D_LawRandom hr (pa_cons (pv 1) (pa_cons pe_int pa_nil))) pe_int (nomark _)) (pss_cons (ps_asg (pe_ix ixL (pe_lst (pa_cons (pe_tup (pa_cons pe_int (pa_cons pe_int pa_nil))) (pa_cons (pe_tup (pa_cons pe_int (pa_cons pe_int pa_nil))) pa_nil))) (pe_d D_LawRandom hr (pa_cons (pv 1) (pa_cons pe_int pa_nil))) (fun _ _ => rfl)) (pg_tupT 2 rfl (pgs_cons (pg_name (i := 11) scLaw.nd rfl (Or.inl rfl)) (pgs_cons (pg_name (i := 12) scLaw.nd rfl (Or.inl rfl)) pgs_nil))))
        (pss_cons (ps_if (PW.pt (pw_or (pt_not (pt_val (pe_g D_LawOnly gd hr (pa_cons (pe_g D_LawCaught gd hr (pa_cons pe_int (pa_cons (pv 11) (pa_cons pe_non pa_nil)))) (pa_cons pe_int (pa_cons (pv 12) pa_nil)))))) (pw_or1 (pt_cmpR op_ne (pe_d D_HowManyCuttings hr (pa_cons (pv 11) pa_nil)) (pv 12) (nomark _))))) (pss_one (ps_ret pe_bl)) pss_nil)
        (pss_one (ps_if (PW.pt (pw_or (pt_cmpR op_ne (pe_callB lenL (by rfl) T.len (by decide +kernel) (pa_cons (pe_d D_Cuttings hr (pa_cons pe_int pa_nil)) pa_nil)) pe_int (nomark _)) (pw_or1 (pt_cmpR op_ne (pe_d D_HowManyCuttings hr (pa_cons pe_int pa_nil)) pe_int (nomark _))))) (pss_one (ps_ret pe_bl)) pss_nil)))) pss_nil)
        (pss_cons (ps_set (i := 13) scLaw.nd rfl (Or.inl rfl) (pe_lst (pa_cons pe_non pa_nil)))
        (pss_cons (ps_set (i := 14) scLaw.nd rfl (Or.inl rfl) (pe_g D_LawCaught gd hr (pa_cons pe_int (pa_cons (pv 13) (pa_cons pe_non pa_nil)))))
        (pss_cons (ps_expr (pe_bm PySem.F.plainAttrs_list PySem.F.slot_list_append PySem.F.type_list_append mt_append (pv 13) (pa_cons pe_int pa_nil)))
        (pss_cons (ps_if (PW.pt (pw_or (pt_cmpR (op_neD hr.units) (pe_ix ixT (pv 14) pe_int (fun _ _ => rfl)) (pe_lst (pa_cons pe_non (pa_cons pe_int pa_nil))) (nomark _)) (pw_or (pt_cmpR (op_neD hr.units) (pe_g D_LawCaught gd hr (pa_cons pe_int (pa_cons (pv 10) (pa_cons pe_int pa_nil)))) (pe_tup (pa_cons (pe_op op_rep (pe_lst (pa_cons pe_bl pa_nil)) pe_int) (pa_cons pe_non pa_nil))) (nomark _)) (pw_or1 (pt_cmpR (op_neD hr.units) (pe_g D_LawCaught gd hr (pa_cons pe_int (pa_cons (pv 10) (pa_cons (pe_un un_neg (pe_op op_powX pe_int pe_int)) pa_nil)))) (pe_tup (pa_cons (pe_op op_rep (pe_lst (pa_cons pe_bl pa_nil)) pe_int) (pa_cons pe_non pa_nil))) (nomark _)))))) (pss_one (ps_ret pe_bl)) pss_nil)
        (pss_one (ps_ret (pe_cmpR (op_eqD hr.units) (pe_g D_LawCaught gd hr (pa_cons pe_int (pa_cons (pe_tup (pa_cons (pv 3) (pa_cons (pv 4) (pa_cons (pv 5) (pa_cons (pv 6) pa_nil))))) (pa_cons pe_non pa_nil)))) (pe_tup (pa_cons (pe_op op_rep (pe_lst (pa_cons pe_bl pa_nil)) pe_int) (pa_cons pe_non pa_nil))) (nomark _))))))))))))))))))), ?_⟩
    have e0 : start N_Law [.ref a] = [some (.ref a), none, none, none, none, none, none, none, none, none, none, none, none, none, none, none] := rfl
    rw [e0]
    refine seq_gen fun C1 hC1 => ?_
    simp only [cxK, wipe, tYes, List.map_cons, List.map_nil, rIxL, rSum, tSl, rSlL, tNoPart, tPart, exists_and_left, and_assoc, V.ref.injEq, HO.lst.injEq, HO.tup.injEq, tFor_eq, iRng1, iRng2, iList, iTup, tLc_eq, tLst, tTup, gSub, rSetL, gT, gL, gTup, gCons, gNil, atI_0, atI_1, atI_2, atI_3, List.length_cons, List.length_nil, Nat.zero_add, Nat.reduceAdd, Nat.reduceLeDiff, ixN_30, ixN_31, ixN_32, Int.reduceLT, Int.reduceLE, Int.reduceNeg, upd_same, reduceCtorEq, false_and, exists_false, or_false, false_or, tNext, tIfS, tRet, tRetN, tDrop, tAsg, gName, tPar, tPar3, tAug, ipI, tVar, tC, tOp, tUn, tCB, tD, tDK, tCons, tNil, rI, rI0, rU, tB, tTest, tCallS, tErr, tAnd, tOr, tNot, tAndV, tOrV, tNotV, tIf, rEq, rNe, scal_ii, scal_bb, scal_ss, rGcd_eq, tBits, List.set_cons_zero, List.set_cons_succ, List.getElem?_cons_zero, List.getElem?_cons_succ, Option.some.injEq, exists_eq_left', V.int.injEq, V.bl.injEq, V.str.injEq, true_and, and_true, decide_eq_true_eq, List.cons.injEq, exists_eq_left, Bool.false_eq_true, if_false, if_true, ite_true, ite_false, Bool.not_eq_true', decide_eq_false_iff_not, Bool.not_not]
    refine ⟨a, ns, 0, rfl, hS, by decide, by decide, fun g H1 ng s1 G1 => ?_⟩
    refine Eq.mpr (hC1 _ _) ?_
    refine seq_gen fun C2 hC2 => ?_
    simp only [cxK, wipe, tYes, List.map_cons, List.map_nil, rIxL, rSum, tSl, rSlL, tNoPart, tPart, exists_and_left, and_assoc, V.ref.injEq, HO.lst.injEq, HO.tup.injEq, tFor_eq, iRng1, iRng2, iList, iTup, tLc_eq, tLst, tTup, gSub, rSetL, gT, gL, gTup, gCons, gNil, atI_0, atI_1, atI_2, atI_3, List.length_cons, List.length_nil, Nat.zero_add, Nat.reduceAdd, Nat.reduceLeDiff, ixN_30, ixN_31, ixN_32, Int.reduceLT, Int.reduceLE, Int.reduceNeg, upd_same, reduceCtorEq, false_and, exists_false, or_false, false_or, tNext, tIfS, tRet, tRetN, tDrop, tAsg, gName, tPar, tPar3, tAug, ipI, tVar, tC, tOp, tUn, tCB, tD, tDK, tCons, tNil, rI, rI0, rU, tB, tTest, tCallS, tErr, tAnd, tOr, tNot, tAndV, tOrV, tNotV, tIf, rEq, rNe, scal_ii, scal_bb, scal_ss, rGcd_eq, tBits, List.set_cons_zero, List.set_cons_succ, List.getElem?_cons_zero, List.getElem?_cons_succ, Option.some.injEq, exists_eq_left', V.int.injEq, V.bl.injEq, V.str.injEq, true_and, and_true, decide_eq_true_eq, List.cons.injEq, exists_eq_left, Bool.false_eq_true, if_false, if_true, ite_true, ite_false, Bool.not_eq_true', decide_eq_false_iff_not, Bool.not_not]
    refine ⟨g, 40, _, rfl, G1, by decide, by decide, by decide, fun D H2 hM hD G2 K2 => ?_⟩
    refine ⟨D, rfl, hM, by omega, fun pl ls H3 npl s3 el hQ => ?_⟩
    have hS2 := sqL_keep9 hS ng s1 K2
    have hD2 : D ≤ 161 := by omega
    have G3 := G2.same s3
    have hplg : pl ≠ g := G2.nn npl
    have hfew := cuts_few hM (show D ≤ 1501 by omega)
    have hsome := cuts_some hM (show D ≤ 1501 by omega)
    have hLs := srtQ_len (cutsL D)
    have hpos : 0 < (cutsL D).length := List.length_pos_iff.mpr hsome
    have hlen := hQ.len
    refine Eq.mpr (hC2 _ _) ?_
    refine seq_gen fun C3 hC3 => ?_
    simp only [cxK, wipe, tYes, List.map_cons, List.map_nil, rIxL, rSum, tSl, rSlL, tNoPart, tPart, exists_and_left, and_assoc, V.ref.injEq, HO.lst.injEq, HO.tup.injEq, tFor_eq, iRng1, iRng2, iList, iTup, tLc_eq, tLst, tTup, gSub, rSetL, gT, gL, gTup, gCons, gNil, atI_0, atI_1, atI_2, atI_3, List.length_cons, List.length_nil, Nat.zero_add, Nat.reduceAdd, Nat.reduceLeDiff, ixN_30, ixN_31, ixN_32, Int.reduceLT, Int.reduceLE, Int.reduceNeg, upd_same, reduceCtorEq, false_and, exists_false, or_false, false_or, tNext, tIfS, tRet, tRetN, tDrop, tAsg, gName, tPar, tPar3, tAug, ipI, tVar, tC, tOp, tUn, tCB, tD, tDK, tCons, tNil, rI, rI0, rU, tB, tTest, tCallS, tErr, tAnd, tOr, tNot, tAndV, tOrV, tNotV, tIf, rEq, rNe, scal_ii, scal_bb, scal_ss, rGcd_eq, tBits, List.set_cons_zero, List.set_cons_succ, List.getElem?_cons_zero, List.getElem?_cons_succ, Option.some.injEq, exists_eq_left', V.int.injEq, V.bl.injEq, V.str.injEq, true_and, and_true, decide_eq_true_eq, List.cons.injEq, exists_eq_left, Bool.false_eq_true, if_false, if_true, ite_true, ite_false, Bool.not_eq_true', decide_eq_false_iff_not, Bool.not_not]
    refine ⟨_, el, g, _, _, rfl, G3, by omega, by rw [List.length_map]; omega, by rw [List.length_map]; omega, fun x H4 x0 x1 G4 K4 => ?_⟩
    rw [List.length_map] at x1
    have hxl : x.toNat < ls.length := by omega
    obtain ⟨q, hq, eq⟩ := hQ.get (List.getElem?_eq_getElem hxl)
    obtain ⟨okq, mq⟩ := mem_ok hM (by omega) (List.mem_of_getElem? hq)
    have hat : atI (ls.map V.ref) x = some (.ref (ls[x.toNat])) := by
      have h := atI_nat (xs := ls.map V.ref) (j := x.toNat) (v := V.ref (ls[x.toNat])) (by rw [List.getElem?_map, List.getElem?_eq_getElem hxl]; rfl)
      rwa [show ((x.toNat : Nat) : Int) = x by omega] at h
    have eq4 : H4 (ls[x.toNat]) = some (.tup [.int q.1, .int q.2.1, .int q.2.2.1, .int q.2.2.2]) := K4 _ _ (G3.ne eq) eq
    have el4 := K4 _ _ hplg el
    refine ⟨_, x, rfl, el4, _, hat, _, rfl, _, eq4, rfl, _, _, rfl, _, _, rfl, _, _, rfl, _, _, rfl, rfl, ?_⟩
    have hO4 : OkItem H4 (.ref pl) := ⟨"list", tyS_lst el4⟩
    have nn4 : ∀ {h : Hp}, Same H4 h → GenAt h g (0 + 100000 + 40 + 20) := fun s => (G4.same s).mono (by omega)
    obtain ⟨c3, b3, _, e3⟩ := small_q okq (show measC q ≤ 400 by omega)
    obtain ⟨o1, o2, o3, o4, o5, o6⟩ := okQ_get okq
    have hgle := Int.le_of_dvd (by omega) (gcdI_dvdl q.2.1 q.2.2.1)
    have za : q.1.natAbs < 2 ^ 10 := by omega
    have zb : q.2.1.natAbs < 2 ^ 10 := by omega
    have zc : q.2.2.1.natAbs < 2 ^ 10 := by omega
    have ze : q.2.2.2.natAbs < 2 ^ 10 := by omega
    have zbc : (q.2.1 - q.2.2.1).natAbs < 2 ^ 10 := by omega
    refine Eq.mpr (hC3 _ _) ?_
    refine seq_gen fun C5 hC5 => ?_
    simp only [cxK, wipe, tYes, List.map_cons, List.map_nil, rIxL, rSum, tSl, rSlL, tNoPart, tPart, exists_and_left, and_assoc, V.ref.injEq, HO.lst.injEq, HO.tup.injEq, tFor_eq, iRng1, iRng2, iList, iTup, tLc_eq, tLst, tTup, gSub, rSetL, gT, gL, gTup, gCons, gNil, atI_0, atI_1, atI_2, atI_3, List.length_cons, List.length_nil, Nat.zero_add, Nat.reduceAdd, Nat.reduceLeDiff, ixN_30, ixN_31, ixN_32, Int.reduceLT, Int.reduceLE, Int.reduceNeg, upd_same, reduceCtorEq, false_and, exists_false, or_false, false_or, tNext, tIfS, tRet, tRetN, tDrop, tAsg, gName, tPar, tPar3, tAug, ipI, tVar, tC, tOp, tUn, tCB, tD, tDK, tCons, tNil, rI, rI0, rU, tB, tTest, tCallS, tErr, tAnd, tOr, tNot, tAndV, tOrV, tNotV, tIf, rEq, rNe, scal_ii, scal_bb, scal_ss, rGcd_eq, tBits, List.set_cons_zero, List.set_cons_succ, List.getElem?_cons_zero, List.getElem?_cons_succ, Option.some.injEq, exists_eq_left', V.int.injEq, V.bl.injEq, V.str.injEq, true_and, and_true, decide_eq_true_eq, List.cons.injEq, exists_eq_left, Bool.false_eq_true, if_false, if_true, ite_true, ite_false, Bool.not_eq_true', decide_eq_false_iff_not, Bool.not_not]
    have a0 : Same H4 H4 := Same.refl _
    refine ⟨by decide, fun p1 n1 => ?_⟩
    have s1 : Same H4 (upd H4 p1 (.tup [])) := Same.upd n1
    have e1 : (upd H4 p1 (.tup [])) p1 = some (.tup []) := upd_same
    have a1 := a0.trans s1
    generalize upd H4 p1 (.tup []) = w1 at s1 e1 a1 ⊢
    refine ⟨by decide, fun p2 n2 => ?_⟩
    have s2 : Same w1 (upd w1 p2 (.lst [V.int q.1, V.int q.2.1, V.int q.2.2.1, V.int q.2.2.2])) := Same.upd n2
    have e2 : (upd w1 p2 (.lst [V.int q.1, V.int q.2.1, V.int q.2.2.1, V.int q.2.2.2])) p2 = some (.lst [V.int q.1, V.int q.2.1, V.int q.2.2.1, V.int q.2.2.2]) := upd_same
    have a2 := a1.trans s2
    generalize upd w1 p2 (.lst [V.int q.1, V.int q.2.1, V.int q.2.2.1, V.int q.2.2.2]) = w2 at s2 e2 a2 ⊢
    refine ⟨by decide, fun p3 n3 => ?_⟩
    have s3 : Same w2 (upd w2 p3 (.tup [V.int q.1, V.int q.2.1, V.int q.2.2.1])) := Same.upd n3
    have e3 : (upd w2 p3 (.tup [V.int q.1, V.int q.2.1, V.int q.2.2.1])) p3 = some (.tup [V.int q.1, V.int q.2.1, V.int q.2.2.1]) := upd_same
    have a3 := a2.trans s3
    generalize upd w2 p3 (.tup [V.int q.1, V.int q.2.1, V.int q.2.2.1]) = w3 at s3 e3 a3 ⊢
    refine ⟨by decide, fun p4 n4 => ?_⟩
    have s4 : Same w3 (upd w3 p4 (.tup [V.int q.1, V.int q.2.1, V.int q.2.2.1, V.int q.2.2.2, V.int 0])) := Same.upd n4
    have e4 : (upd w3 p4 (.tup [V.int q.1, V.int q.2.1, V.int q.2.2.1, V.int q.2.2.2, V.int 0])) p4 = some (.tup [V.int q.1, V.int q.2.1, V.int q.2.2.1, V.int q.2.2.2, V.int 0]) := upd_same
    have a4 := a3.trans s4
    generalize upd w3 p4 (.tup [V.int q.1, V.int q.2.1, V.int q.2.2.1, V.int q.2.2.2, V.int 0]) = w4 at s4 e4 a4 ⊢
    refine ⟨by decide, fun p5 n5 => ?_⟩
    have s5 : Same w4 (upd w4 p5 (.tup [V.int q.1, V.int q.2.1, V.int 0, V.int q.2.2.2])) := Same.upd n5
    have e5 : (upd w4 p5 (.tup [V.int q.1, V.int q.2.1, V.int 0, V.int q.2.2.2])) p5 = some (.tup [V.int q.1, V.int q.2.1, V.int 0, V.int q.2.2.2]) := upd_same
    have a5 := a4.trans s5
    generalize upd w4 p5 (.tup [V.int q.1, V.int q.2.1, V.int 0, V.int q.2.2.2]) = w5 at s5 e5 a5 ⊢
    refine ⟨by decide, fun p6 n6 => ?_⟩
    have s6 : Same w5 (upd w5 p6 (.tup [V.int q.1, V.int 0, V.int q.2.2.1, V.int q.2.2.2])) := Same.upd n6
    have e6 : (upd w5 p6 (.tup [V.int q.1, V.int 0, V.int q.2.2.1, V.int q.2.2.2])) p6 = some (.tup [V.int q.1, V.int 0, V.int q.2.2.1, V.int q.2.2.2]) := upd_same
    have a6 := a5.trans s6
    generalize upd w5 p6 (.tup [V.int q.1, V.int 0, V.int q.2.2.1, V.int q.2.2.2]) = w6 at s6 e6 a6 ⊢
    refine ⟨by decide, fun p7 n7 => ?_⟩
    have s7 : Same w6 (upd w6 p7 (.tup [V.int q.1, V.int q.2.1, V.int q.2.2.1, V.int (q.2.1 - q.2.2.1)])) := Same.upd n7
    have e7 : (upd w6 p7 (.tup [V.int q.1, V.int q.2.1, V.int q.2.2.1, V.int (q.2.1 - q.2.2.1)])) p7 = some (.tup [V.int q.1, V.int q.2.1, V.int q.2.2.1, V.int (q.2.1 - q.2.2.1)]) := upd_same
    have a7 := a6.trans s7
    generalize upd w6 p7 (.tup [V.int q.1, V.int q.2.1, V.int q.2.2.1, V.int (q.2.1 - q.2.2.1)]) = w7 at s7 e7 a7 ⊢
    refine ⟨by decide, fun p8 n8 => ?_⟩
    have s8 : Same w7 (upd w7 p8 (.tup [V.int (-1), V.int q.2.1, V.int q.2.2.1, V.int q.2.2.2])) := Same.upd n8
    have e8 : (upd w7 p8 (.tup [V.int (-1), V.int q.2.1, V.int q.2.2.1, V.int q.2.2.2])) p8 = some (.tup [V.int (-1), V.int q.2.1, V.int q.2.2.1, V.int q.2.2.2]) := upd_same
    have a8 := a7.trans s8
    generalize upd w7 p8 (.tup [V.int (-1), V.int q.2.1, V.int q.2.2.1, V.int q.2.2.2]) = w8 at s8 e8 a8 ⊢
    refine ⟨by decide, fun p9 n9 => ?_⟩
    have s9 : Same w8 (upd w8 p9 (.tup [V.int q.2.1, V.int q.2.1, V.int q.2.2.1, V.int q.2.2.2])) := Same.upd n9
    have e9 : (upd w8 p9 (.tup [V.int q.2.1, V.int q.2.1, V.int q.2.2.1, V.int q.2.2.2])) p9 = some (.tup [V.int q.2.1, V.int q.2.1, V.int q.2.2.1, V.int q.2.2.2]) := upd_same
    have a9 := a8.trans s9
    generalize upd w8 p9 (.tup [V.int q.2.1, V.int q.2.1, V.int q.2.2.1, V.int q.2.2.2]) = w9 at s9 e9 a9 ⊢
    refine ⟨by decide, fun p10 n10 => ?_⟩
    have s10 : Same w9 (upd w9 p10 (.lst [V.non, V.int 0, V.str (Str.ofString "0111"), V.ref p1, V.ref p2, V.ref p3, V.ref p4, V.ref p5, V.ref p6, V.ref p7, V.ref p8, V.ref p9])) := Same.upd n10
    have e10 : (upd w9 p10 (.lst [V.non, V.int 0, V.str (Str.ofString "0111"), V.ref p1, V.ref p2, V.ref p3, V.ref p4, V.ref p5, V.ref p6, V.ref p7, V.ref p8, V.ref p9])) p10 = some (.lst [V.non, V.int 0, V.str (Str.ofString "0111"), V.ref p1, V.ref p2, V.ref p3, V.ref p4, V.ref p5, V.ref p6, V.ref p7, V.ref p8, V.ref p9]) := upd_same
    have a10 := a9.trans s10
    generalize upd w9 p10 (.lst [V.non, V.int 0, V.str (Str.ofString "0111"), V.ref p1, V.ref p2, V.ref p3, V.ref p4, V.ref p5, V.ref p6, V.ref p7, V.ref p8, V.ref p9]) = w10 at s10 e10 a10 ⊢
    refine Eq.mpr (hC5 _ _) ?_
    refine seq_gen fun C6 hC6 => ?_
    simp only [cxK, wipe, tYes, List.map_cons, List.map_nil, rIxL, rSum, tSl, rSlL, tNoPart, tPart, exists_and_left, and_assoc, V.ref.injEq, HO.lst.injEq, HO.tup.injEq, tFor_eq, iRng1, iRng2, iList, iTup, tLc_eq, tLst, tTup, gSub, rSetL, gT, gL, gTup, gCons, gNil, atI_0, atI_1, atI_2, atI_3, List.length_cons, List.length_nil, Nat.zero_add, Nat.reduceAdd, Nat.reduceLeDiff, ixN_30, ixN_31, ixN_32, Int.reduceLT, Int.reduceLE, Int.reduceNeg, upd_same, reduceCtorEq, false_and, exists_false, or_false, false_or, tNext, tIfS, tRet, tRetN, tDrop, tAsg, gName, tPar, tPar3, tAug, ipI, tVar, tC, tOp, tUn, tCB, tD, tDK, tCons, tNil, rI, rI0, rU, tB, tTest, tCallS, tErr, tAnd, tOr, tNot, tAndV, tOrV, tNotV, tIf, rEq, rNe, scal_ii, scal_bb, scal_ss, rGcd_eq, tBits, List.set_cons_zero, List.set_cons_succ, List.getElem?_cons_zero, List.getElem?_cons_succ, Option.some.injEq, exists_eq_left', V.int.injEq, V.bl.injEq, V.str.injEq, true_and, and_true, decide_eq_true_eq, List.cons.injEq, exists_eq_left, Bool.false_eq_true, if_false, if_true, ite_true, ite_false, Bool.not_eq_true', decide_eq_false_iff_not, Bool.not_not, tDNewK]
    refine ⟨by decide, fun p11 n11 => ?_⟩
    have s11 : Same w10 (upd w10 p11 (.tup [V.int q.1, V.int q.2.1, V.int q.2.2.1, V.non])) := Same.upd n11
    have e11 : (upd w10 p11 (.tup [V.int q.1, V.int q.2.1, V.int q.2.2.1, V.non])) p11 = some (.tup [V.int q.1, V.int q.2.1, V.int q.2.2.1, V.non]) := upd_same
    have a11 := a10.trans s11
    generalize upd w10 p11 (.tup [V.int q.1, V.int q.2.1, V.int q.2.2.1, V.non]) = w11 at s11 e11 a11 ⊢
    refine ⟨by decide, fun p12 n12 => ?_⟩
    have s12 : Same w11 (upd w11 p12 (.tup [V.int q.1, V.bl true, V.int q.2.2.1, V.int q.2.2.2])) := Same.upd n12
    have e12 : (upd w11 p12 (.tup [V.int q.1, V.bl true, V.int q.2.2.1, V.int q.2.2.2])) p12 = some (.tup [V.int q.1, V.bl true, V.int q.2.2.1, V.int q.2.2.2]) := upd_same
    have a12 := a11.trans s12
    generalize upd w11 p12 (.tup [V.int q.1, V.bl true, V.int q.2.2.1, V.int q.2.2.2]) = w12 at s12 e12 a12 ⊢
    refine ⟨by decide, fun p13 n13 => ?_⟩
    have s13 : Same w12 (upd w12 p13 (.tup [V.non, V.int q.2.1, V.int q.2.2.1, V.int q.2.2.2])) := Same.upd n13
    have e13 : (upd w12 p13 (.tup [V.non, V.int q.2.1, V.int q.2.2.1, V.int q.2.2.2])) p13 = some (.tup [V.non, V.int q.2.1, V.int q.2.2.1, V.int q.2.2.2]) := upd_same
    have a13 := a12.trans s13
    generalize upd w12 p13 (.tup [V.non, V.int q.2.1, V.int q.2.2.1, V.int q.2.2.2]) = w13 at s13 e13 a13 ⊢
    refine ⟨by decide, fun p14 n14 => ?_⟩
    have s14 : Same w13 (upd w13 p14 (.tup [V.int q.1, V.int q.2.1, V.str (Str.ofString "1"), V.int q.2.2.2])) := Same.upd n14
    have e14 : (upd w13 p14 (.tup [V.int q.1, V.int q.2.1, V.str (Str.ofString "1"), V.int q.2.2.2])) p14 = some (.tup [V.int q.1, V.int q.2.1, V.str (Str.ofString "1"), V.int q.2.2.2]) := upd_same
    have a14 := a13.trans s14
    generalize upd w13 p14 (.tup [V.int q.1, V.int q.2.1, V.str (Str.ofString "1"), V.int q.2.2.2]) = w14 at s14 e14 a14 ⊢
    refine ⟨by decide, fun p15 n15 => ?_⟩
    have s15 : Same w14 (upd w14 p15 (.tup [V.int 0, V.int 2, V.int 2, V.int (-2)])) := Same.upd n15
    have e15 : (upd w14 p15 (.tup [V.int 0, V.int 2, V.int 2, V.int (-2)])) p15 = some (.tup [V.int 0, V.int 2, V.int 2, V.int (-2)]) := upd_same
    have a15 := a14.trans s15
    generalize upd w14 p15 (.tup [V.int 0, V.int 2, V.int 2, V.int (-2)]) = w15 at s15 e15 a15 ⊢
    refine fun p16 n16 => ?_
    have s16 : Same w15 (upd w15 p16 (.dK [])) := Same.upd n16
    have e16 : (upd w15 p16 (.dK [])) p16 = some (.dK []) := upd_same
    have a16 := a15.trans s16
    generalize upd w15 p16 (.dK []) = w16 at s16 e16 a16 ⊢
    refine ⟨by decide, fun p17 n17 => ?_⟩
    have s17 : Same w16 (upd w16 p17 (.lst [V.non])) := Same.upd n17
    have e17 : (upd w16 p17 (.lst [V.non])) p17 = some (.lst [V.non]) := upd_same
    have a17 := a16.trans s17
    generalize upd w16 p17 (.lst [V.non]) = w17 at s17 e17 a17 ⊢
    refine ⟨by decide, fun p18 n18 => ?_⟩
    have s18 : Same w17 (upd w17 p18 (.tup [V.int q.1])) := Same.upd n18
    have e18 : (upd w17 p18 (.tup [V.int q.1])) p18 = some (.tup [V.int q.1]) := upd_same
    have a18 := a17.trans s18
    generalize upd w17 p18 (.tup [V.int q.1]) = w18 at s18 e18 a18 ⊢
    refine ⟨by decide, fun p19 n19 => ?_⟩
    have s19 : Same w18 (upd w18 p19 (.tup [V.ref p18, V.int q.2.1, V.int q.2.2.1, V.int q.2.2.2])) := Same.upd n19
    have e19 : (upd w18 p19 (.tup [V.ref p18, V.int q.2.1, V.int q.2.2.1, V.int q.2.2.2])) p19 = some (.tup [V.ref p18, V.int q.2.1, V.int q.2.2.1, V.int q.2.2.2]) := upd_same
    have a19 := a18.trans s19
    generalize upd w18 p19 (.tup [V.ref p18, V.int q.2.1, V.int q.2.2.1, V.int q.2.2.2]) = w19 at s19 e19 a19 ⊢
    refine ⟨by decide, fun p20 n20 => ?_⟩
    have s20 : Same w19 (upd w19 p20 (.lst [V.ref p11, V.ref p12, V.ref p13, V.ref p14, V.ref p15, V.ref p16, V.ref p17, V.ref p19])) := Same.upd n20
    have e20 : (upd w19 p20 (.lst [V.ref p11, V.ref p12, V.ref p13, V.ref p14, V.ref p15, V.ref p16, V.ref p17, V.ref p19])) p20 = some (.lst [V.ref p11, V.ref p12, V.ref p13, V.ref p14, V.ref p15, V.ref p16, V.ref p17, V.ref p19]) := upd_same
    have a20 := a19.trans s20
    generalize upd w19 p20 (.lst [V.ref p11, V.ref p12, V.ref p13, V.ref p14, V.ref p15, V.ref p16, V.ref p17, V.ref p19]) = w20 at s20 e20 a20 ⊢
    refine ⟨p10, p20, _, _, rfl, rfl, ((((((((((s11.trans s12).trans s13).trans s14).trans s15).trans s16).trans s17).trans s18).trans s19).trans s20)) _ _ e10, e20, sml (Nat.le_of_ble_eq_true rfl), fun p21 n21 => ?_⟩
    have s21 : Same w20 (upd w20 p21 (.lst ([V.non, V.int 0, V.str (Str.ofString "0111"), V.ref p1, V.ref p2, V.ref p3, V.ref p4, V.ref p5, V.ref p6, V.ref p7, V.ref p8, V.ref p9] ++ [V.ref p11, V.ref p12, V.ref p13, V.ref p14, V.ref p15, V.ref p16, V.ref p17, V.ref p19]))) := Same.upd n21
    have e21 : (upd w20 p21 (.lst ([V.non, V.int 0, V.str (Str.ofString "0111"), V.ref p1, V.ref p2, V.ref p3, V.ref p4, V.ref p5, V.ref p6, V.ref p7, V.ref p8, V.ref p9] ++ [V.ref p11, V.ref p12, V.ref p13, V.ref p14, V.ref p15, V.ref p16, V.ref p17, V.ref p19]))) p21 = some (.lst ([V.non, V.int 0, V.str (Str.ofString "0111"), V.ref p1, V.ref p2, V.ref p3, V.ref p4, V.ref p5, V.ref p6, V.ref p7, V.ref p8, V.ref p9] ++ [V.ref p11, V.ref p12, V.ref p13, V.ref p14, V.ref p15, V.ref p16, V.ref p17, V.ref p19])) := upd_same
    have a21 := a20.trans s21
    generalize upd w20 p21 (.lst ([V.non, V.int 0, V.str (Str.ofString "0111"), V.ref p1, V.ref p2, V.ref p3, V.ref p4, V.ref p5, V.ref p6, V.ref p7, V.ref p8, V.ref p9] ++ [V.ref p11, V.ref p12, V.ref p13, V.ref p14, V.ref p15, V.ref p16, V.ref p17, V.ref p19])) = w21 at s21 e21 a21 ⊢
    have items : ∀ x ∈ [V.non, V.int 0, V.str (Str.ofString "0111"), V.ref p1, V.ref p2, V.ref p3, V.ref p4, V.ref p5, V.ref p6, V.ref p7, V.ref p8, V.ref p9] ++ [V.ref p11, V.ref p12, V.ref p13, V.ref p14, V.ref p15, V.ref p16, V.ref p17, V.ref p19], Bad11 K w21 x := by
      intro x hx
      simp only [List.mem_append, List.mem_cons, List.not_mem_nil, or_false] at hx
      rcases hx with (rfl | rfl | rfl | rfl | rfl | rfl | rfl | rfl | rfl | rfl | rfl | rfl) | (rfl | rfl | rfl | rfl | rfl | rfl | rfl | rfl)
      · exact no_non
      · exact no_int (by decide)
      · exact no_str ⟨by decide +kernel, by decide +kernel, by decide +kernel⟩
      · exact (no_tup e1 .nil (Nat.le_of_ble_eq_true rfl) (Nat.le_of_ble_eq_true rfl) (fun i hi => by simp at hi) rfl).same (((((((((((((((((((s2.trans s3).trans s4).trans s5).trans s6).trans s7).trans s8).trans s9).trans s10).trans s11).trans s12).trans s13).trans s14).trans s15).trans s16).trans s17).trans s18).trans s19).trans s20).trans s21)
      · exact (no_lst e2 (.cons (.int za (by decide)) (.cons (.int zb (by decide)) (.cons (.int zc (by decide)) (.cons (.int ze (by decide)) .nil)))) (Nat.le_of_ble_eq_true rfl) (Nat.le_of_ble_eq_true rfl)).same ((((((((((((((((((s3.trans s4).trans s5).trans s6).trans s7).trans s8).trans s9).trans s10).trans s11).trans s12).trans s13).trans s14).trans s15).trans s16).trans s17).trans s18).trans s19).trans s20).trans s21)
      · exact (no_tup e3 (.cons (.int za (by decide)) (.cons (.int zb (by decide)) (.cons (.int zc (by decide)) .nil))) (Nat.le_of_ble_eq_true rfl) (Nat.le_of_ble_eq_true rfl) (fun i hi => by simp only [List.mem_cons, V.int.injEq, List.not_mem_nil, or_false, reduceCtorEq, false_or] at hi; rcases hi with rfl | rfl | rfl <;> first | decide | omega) rfl).same (((((((((((((((((s4.trans s5).trans s6).trans s7).trans s8).trans s9).trans s10).trans s11).trans s12).trans s13).trans s14).trans s15).trans s16).trans s17).trans s18).trans s19).trans s20).trans s21)
      · exact (no_tup e4 (.cons (.int za (by decide)) (.cons (.int zb (by decide)) (.cons (.int zc (by decide)) (.cons (.int ze (by decide)) (.cons (.int (n := 10) (by decide) (by decide)) .nil))))) (Nat.le_of_ble_eq_true rfl) (Nat.le_of_ble_eq_true rfl) (fun i hi => by simp only [List.mem_cons, V.int.injEq, List.not_mem_nil, or_false, reduceCtorEq, false_or] at hi; rcases hi with rfl | rfl | rfl | rfl | rfl <;> first | decide | omega) rfl).same ((((((((((((((((s5.trans s6).trans s7).trans s8).trans s9).trans s10).trans s11).trans s12).trans s13).trans s14).trans s15).trans s16).trans s17).trans s18).trans s19).trans s20).trans s21)
      · exact (no_four e5 (by omega) (by omega) (by decide) (by omega) (fun h => by have := (okQ_get h).2.1; simp at this)).same (((((((((((((((s6.trans s7).trans s8).trans s9).trans s10).trans s11).trans s12).trans s13).trans s14).trans s15).trans s16).trans s17).trans s18).trans s19).trans s20).trans s21)
      · exact (no_four e6 (by omega) (by decide) (by omega) (by omega) (fun h => by have := (okQ_get h).1; simp at this)).same ((((((((((((((s7.trans s8).trans s9).trans s10).trans s11).trans s12).trans s13).trans s14).trans s15).trans s16).trans s17).trans s18).trans s19).trans s20).trans s21)
      · exact (no_four e7 (by omega) (by omega) (by omega) (by omega) (fun h => by have := (okQ_get h).2.2.1; simp only at this; omega)).same (((((((((((((s8.trans s9).trans s10).trans s11).trans s12).trans s13).trans s14).trans s15).trans s16).trans s17).trans s18).trans s19).trans s20).trans s21)
      · exact (no_four e8 (by decide) (by omega) (by omega) (by omega) (fun h => by have := (okQ_get h).2.2.2.1; simp at this)).same ((((((((((((s9.trans s10).trans s11).trans s12).trans s13).trans s14).trans s15).trans s16).trans s17).trans s18).trans s19).trans s20).trans s21)
      · exact (no_four e9 (by omega) (by omega) (by omega) (by omega) (fun h => by have h1 := (okQ_get h).2.2.2.2.1; have h2 := Int.le_of_dvd (by omega) (gcdI_dvdl q.2.1 q.2.2.1); simp only at h1; omega)).same (((((((((((s10.trans s11).trans s12).trans s13).trans s14).trans s15).trans s16).trans s17).trans s18).trans s19).trans s20).trans s21)
      · exact (no_tup e11 (.cons (.int za (by decide)) (.cons (.int zb (by decide)) (.cons (.int zc (by decide)) (.cons (.non) .nil)))) (Nat.le_of_ble_eq_true rfl) (Nat.le_of_ble_eq_true rfl) (fun i hi => by simp only [List.mem_cons, V.int.injEq, List.not_mem_nil, or_false, reduceCtorEq, false_or] at hi; rcases hi with rfl | rfl | rfl <;> first | decide | omega) rfl).same (((((((((s12.trans s13).trans s14).trans s15).trans s16).trans s17).trans s18).trans s19).trans s20).trans s21)
      · exact (no_tup e12 (.cons (.int za (by decide)) (.cons (.bl) (.cons (.int zc (by decide)) (.cons (.int ze (by decide)) .nil)))) (Nat.le_of_ble_eq_true rfl) (Nat.le_of_ble_eq_true rfl) (fun i hi => by simp only [List.mem_cons, V.int.injEq, List.not_mem_nil, or_false, reduceCtorEq, false_or] at hi; rcases hi with rfl | rfl | rfl <;> first | decide | omega) rfl).same ((((((((s13.trans s14).trans s15).trans s16).trans s17).trans s18).trans s19).trans s20).trans s21)
      · exact (no_tup e13 (.cons (.non) (.cons (.int zb (by decide)) (.cons (.int zc (by decide)) (.cons (.int ze (by decide)) .nil)))) (Nat.le_of_ble_eq_true rfl) (Nat.le_of_ble_eq_true rfl) (fun i hi => by simp only [List.mem_cons, V.int.injEq, List.not_mem_nil, or_false, reduceCtorEq, false_or] at hi; rcases hi with rfl | rfl | rfl <;> first | decide | omega) rfl).same (((((((s14.trans s15).trans s16).trans s17).trans s18).trans s19).trans s20).trans s21)
      · exact (no_tup e14 (.cons (.int za (by decide)) (.cons (.int zb (by decide)) (.cons (.str (by decide +kernel) (by decide +kernel) (by decide +kernel)) (.cons (.int ze (by decide)) .nil)))) (Nat.le_of_ble_eq_true rfl) (by simp only [costAll, cost]; decide +kernel) (fun i hi => by simp only [List.mem_cons, V.int.injEq, List.not_mem_nil, or_false, reduceCtorEq, false_or] at hi; rcases hi with rfl | rfl | rfl <;> first | decide | omega) rfl).same ((((((s15.trans s16).trans s17).trans s18).trans s19).trans s20).trans s21)
      · exact (no_four e15 (by decide) (by decide) (by decide) (by decide) (fun h => by revert h; decide +kernel)).same (((((s16.trans s17).trans s18).trans s19).trans s20).trans s21)
      · exact (no_dict e16).same ((((s17.trans s18).trans s19).trans s20).trans s21)
      · exact (no_lst e17 (.cons (.non) .nil) (Nat.le_of_ble_eq_true rfl) (Nat.le_of_ble_eq_true rfl)).same (((s18.trans s19).trans s20).trans s21)
      · exact (no_tup e19 (.cons (it_tup (s19 _ _ e18) (.cons (.int za (by decide)) .nil) (Nat.le_of_ble_eq_true rfl) (Nat.le_of_ble_eq_true rfl)) (.cons (.int zb (by decide)) (.cons (.int zc (by decide)) (.cons (.int ze (by decide)) .nil)))) (Nat.le_of_ble_eq_true rfl) (Nat.le_of_ble_eq_true rfl) (fun i hi => by simp only [List.mem_cons, V.int.injEq, List.not_mem_nil, or_false, reduceCtorEq, false_or] at hi; rcases hi with rfl | rfl | rfl <;> first | decide | omega) rfl).same (s20.trans s21)
    refine Eq.mpr (hC6 _ _) ?_
    refine seq_gen fun C7 hC7 => ?_
    simp only [cxK, wipe, tYes, List.map_cons, List.map_nil, rIxL, rSum, tSl, rSlL, tNoPart, tPart, exists_and_left, and_assoc, V.ref.injEq, HO.lst.injEq, HO.tup.injEq, tFor_eq, iRng1, iRng2, iList, iTup, tLc_eq, tLst, tTup, gSub, rSetL, gT, gL, gTup, gCons, gNil, atI_0, atI_1, atI_2, atI_3, List.length_cons, List.length_nil, Nat.zero_add, Nat.reduceAdd, Nat.reduceLeDiff, ixN_30, ixN_31, ixN_32, Int.reduceLT, Int.reduceLE, Int.reduceNeg, upd_same, reduceCtorEq, false_and, exists_false, or_false, false_or, tNext, tIfS, tRet, tRetN, tDrop, tAsg, gName, tPar, tPar3, tAug, ipI, tVar, tC, tOp, tUn, tCB, tD, tDK, tCons, tNil, rI, rI0, rU, tB, tTest, tCallS, tErr, tAnd, tOr, tNot, tAndV, tOrV, tNotV, tIf, rEq, rNe, scal_ii, scal_bb, scal_ss, rGcd_eq, tBits, List.set_cons_zero, List.set_cons_succ, List.getElem?_cons_zero, List.getElem?_cons_succ, Option.some.injEq, exists_eq_left', V.int.injEq, V.bl.injEq, V.str.injEq, true_and, and_true, decide_eq_true_eq, List.cons.injEq, exists_eq_left, Bool.false_eq_true, if_false, if_true, ite_true, ite_false, Bool.not_eq_true', decide_eq_false_iff_not, Bool.not_not]
    refine ⟨⟨_, SqL.of e21⟩, ?_⟩
    refine forW_list (xs := [V.non, V.int 0, V.str (Str.ofString "0111"), V.ref p1, V.ref p2, V.ref p3, V.ref p4, V.ref p5, V.ref p6, V.ref p7, V.ref p8, V.ref p9] ++ [V.ref p11, V.ref p12, V.ref p13, V.ref p14, V.ref p15, V.ref p16, V.ref p17, V.ref p19]) (InvL11 [some (.ref a), some (.ref g), some (.ref pl), some (.int q.1), some (.int q.2.1), some (.int q.2.2.1), some (.int q.2.2.2), some (.ref p21)] [none, none, none, none, none, none, none] w21) ⟨none, rfl, Same.refl _⟩ (fun _ _ _ _ z => ?_) (fun i v σ' h hv z => ?_) (fun σ' h z => ?_)
    · obtain ⟨_, _, s⟩ := z
      exact SqL.of (s _ _ e21)
    · obtain ⟨t, rfl, sh⟩ := z
      have hb := (items v (List.mem_of_getElem? hv)).same sh
      simp only [cxK, wipe, tYes, List.map_cons, List.map_nil, rIxL, rSum, tSl, rSlL, tNoPart, tPart, exists_and_left, and_assoc, V.ref.injEq, HO.lst.injEq, HO.tup.injEq, tFor_eq, iRng1, iRng2, iList, iTup, tLc_eq, tLst, tTup, gSub, rSetL, gT, gL, gTup, gCons, gNil, atI_0, atI_1, atI_2, atI_3, List.length_cons, List.length_nil, Nat.zero_add, Nat.reduceAdd, Nat.reduceLeDiff, ixN_30, ixN_31, ixN_32, Int.reduceLT, Int.reduceLE, Int.reduceNeg, upd_same, reduceCtorEq, false_and, exists_false, or_false, false_or, tSeq, tNext, tIfS, tRet, tRetN, tDrop, tAsg, gName, tPar, tPar3, tAug, ipI, tVar, tC, tOp, tUn, tCB, tD, tDK, tCons, tNil, rI, rI0, rU, tB, tTest, tCallS, tErr, tAnd, tOr, tNot, tAndV, tOrV, tNotV, tIf, rEq, rNe, scal_ii, scal_bb, scal_ss, rGcd_eq, tBits, List.set_cons_zero, List.set_cons_succ, List.getElem?_cons_zero, List.getElem?_cons_succ, Option.some.injEq, exists_eq_left', V.int.injEq, V.bl.injEq, V.str.injEq, true_and, and_true, decide_eq_true_eq, List.cons.injEq, exists_eq_left, Bool.false_eq_true, if_false, if_true, ite_true, ite_false, Bool.not_eq_true', decide_eq_false_iff_not, Bool.not_not, List.cons_append, List.nil_append]
      refine ⟨by decide, by decide, fun Dd nD => ?_⟩
      refine lcW_range (InvC11 h Dd) ⟨Same.upd nD, upd_same⟩ (fun j h2 hj z => ?_) (fun h2 z => ?_)
      · obtain ⟨s2, e2⟩ := z
        refine ⟨rfl, ?_⟩
        simp only [cxK, wipe, tYes, List.map_cons, List.map_nil, rIxL, rSum, tSl, rSlL, tNoPart, tPart, exists_and_left, and_assoc, V.ref.injEq, HO.lst.injEq, HO.tup.injEq, tFor_eq, iRng1, iRng2, iList, iTup, tLc_eq, tLst, tTup, gSub, rSetL, gT, gL, gTup, gCons, gNil, atI_0, atI_1, atI_2, atI_3, List.length_cons, List.length_nil, Nat.zero_add, Nat.reduceAdd, Nat.reduceLeDiff, ixN_30, ixN_31, ixN_32, Int.reduceLT, Int.reduceLE, Int.reduceNeg, upd_same, reduceCtorEq, false_and, exists_false, or_false, false_or, tSeq, tNext, tIfS, tRet, tRetN, tDrop, tAsg, gName, tPar, tPar3, tAug, ipI, tVar, tC, tOp, tUn, tCB, tD, tDK, tCons, tNil, rI, rI0, rU, tB, tTest, tCallS, tErr, tAnd, tOr, tNot, tAndV, tOrV, tNotV, tIf, rEq, rNe, scal_ii, scal_bb, scal_ss, rGcd_eq, tBits, List.set_cons_zero, List.set_cons_succ, List.getElem?_cons_zero, List.getElem?_cons_succ, Option.some.injEq, exists_eq_left', V.int.injEq, V.bl.injEq, V.str.injEq, true_and, and_true, decide_eq_true_eq, List.cons.injEq, exists_eq_left, Bool.false_eq_true, if_false, if_true, ite_true, ite_false, Bool.not_eq_true', decide_eq_false_iff_not, Bool.not_not]
        rw [Int.zero_add]
        have hb2 := hb.same s2
        obtain ⟨d2, hw⟩ := hb2.w
        obtain ⟨dv, hO, hc⟩ := id hb2
        have hj3 : j < 3 := hj
        refine ⟨j, v, .non, .err C_InvalidCutting v, d2, rfl, .cut hj3 hO.ok hc, hw, fun p L H' np nL hpL s3 ep eL => ?_⟩
        rw [kind_at NE (j := 0) rfl] at eL
        refine ⟨p, L, 0, v, dv, rfl, ep, by decide, eL, (hO.same s3).q.dq, fun H'' s4 => (hO.same (s3.trans s4)).q.dq, fun H'' s4 => ⟨true, rfl, ?_⟩⟩
        rw [if_neg (by decide)]
        exact ⟨s2.trans (s3.trans s4), s4 _ _ (s3 _ _ e2)⟩
      · obtain ⟨s2, e2⟩ := z
        refine ⟨sml (by decide), fun E nE => ?_⟩
        refine ne_nil ((Same.upd nE) _ _ e2) upd_same ⟨false, rfl, ?_⟩
        rw [if_neg (by decide)]
        exact ⟨_, rfl, sh.trans (s2.trans (Same.upd nE))⟩
    obtain ⟨t8, rfl, s5⟩ := z
    have s6 := a21.trans s5
    clear items
    refine Eq.mpr (hC7 _ _) ?_
    simp only [cxK, wipe, tYes, List.map_cons, List.map_nil, rIxL, rSum, tSl, rSlL, tNoPart, tPart, exists_and_left, and_assoc, V.ref.injEq, HO.lst.injEq, HO.tup.injEq, tFor_eq, iRng1, iRng2, iList, iTup, tLc_eq, tLst, tTup, gSub, rSetL, gT, gL, gTup, gCons, gNil, atI_0, atI_1, atI_2, atI_3, List.length_cons, List.length_nil, Nat.zero_add, Nat.reduceAdd, Nat.reduceLeDiff, ixN_30, ixN_31, ixN_32, Int.reduceLT, Int.reduceLE, Int.reduceNeg, upd_same, reduceCtorEq, false_and, exists_false, or_false, false_or, tNext, tIfS, tRet, tRetN, tDrop, tAsg, gName, tPar, tPar3, tAug, ipI, tVar, tC, tOp, tUn, tCB, tD, tDK, tCons, tNil, rI, rI0, rU, tB, tTest, tCallS, tErr, tAnd, tOr, tNot, tAndV, tOrV, tNotV, tIf, rEq, rNe, scal_ii, scal_bb, scal_ss, rGcd_eq, tBits, List.set_cons_zero, List.set_cons_succ, List.getElem?_cons_zero, List.getElem?_cons_succ, Option.some.injEq, exists_eq_left', V.int.injEq, V.bl.injEq, V.str.injEq, true_and, and_true, decide_eq_true_eq, List.cons.injEq, exists_eq_left, Bool.false_eq_true, if_false, if_true, ite_true, ite_false, Bool.not_eq_true', decide_eq_false_iff_not, Bool.not_not, List.cons_append, List.nil_append]
    refine seq_gen fun C8 hC8 => ?_
    simp only [cxK, wipe, tYes, List.map_cons, List.map_nil, rIxL, rSum, tSl, rSlL, tNoPart, tPart, exists_and_left, and_assoc, V.ref.injEq, HO.lst.injEq, HO.tup.injEq, tFor_eq, iRng1, iRng2, iList, iTup, tLc_eq, tLst, tTup, gSub, rSetL, gT, gL, gTup, gCons, gNil, atI_0, atI_1, atI_2, atI_3, List.length_cons, List.length_nil, Nat.zero_add, Nat.reduceAdd, Nat.reduceLeDiff, ixN_30, ixN_31, ixN_32, Int.reduceLT, Int.reduceLE, Int.reduceNeg, upd_same, reduceCtorEq, false_and, exists_false, or_false, false_or, tNext, tIfS, tRet, tRetN, tDrop, tAsg, gName, tPar, tPar3, tAug, ipI, tVar, tC, tOp, tUn, tCB, tD, tDK, tCons, tNil, rI, rI0, rU, tB, tTest, tCallS, tErr, tAnd, tOr, tNot, tAndV, tOrV, tNotV, tIf, rEq, rNe, scal_ii, scal_bb, scal_ss, rGcd_eq, tBits, List.set_cons_zero, List.set_cons_succ, List.getElem?_cons_zero, List.getElem?_cons_succ, Option.some.injEq, exists_eq_left', V.int.injEq, V.bl.injEq, V.str.injEq, true_and, and_true, decide_eq_true_eq, List.cons.injEq, exists_eq_left, Bool.false_eq_true, if_false, if_true, ite_true, ite_false, Bool.not_eq_true', decide_eq_false_iff_not, Bool.not_not]
    refine ⟨sml (by decide), fun b1 m1 => ⟨sml (by decide), fun b2 m2 => ⟨cpow (by decide) (by decide) (by decide) (by decide), sml (by decide), fun b3 m3 => ?_⟩⟩⟩
    have z29 : (10 : Int) ^ Int.toNat 29 + 2 = 100000000000000000000000000002 := by decide +kernel
    rw [z29]
    have t1 := Same.upd (o := .lst [V.int 5]) m1
    have t2 := Same.upd (o := .tup [V.int 5]) m2
    have t3 := Same.upd (o := .lst [.non, .int 0, .int 1, .int 4, .int 6, .int 7, .int (-8), .int (-7), .bl true, .str "5", .ref b1, .ref b2, .int 100000000000000000000000000002]) m3
    obtain ⟨H7, hH7⟩ : ∃ h7, h7 = upd (upd (upd h b1 (.lst [V.int 5])) b2 (.tup [V.int 5])) b3 (.lst [.non, .int 0, .int 1, .int 4, .int 6, .int 7, .int (-8), .int (-7), .bl true, .str "5", .ref b1, .ref b2, .int 100000000000000000000000000002]) := ⟨_, rfl⟩
    have eb1 : H7 b1 = some (.lst [V.int 5]) := by rw [hH7]; exact t3 _ _ (t2 _ _ upd_same)
    have eb2 : H7 b2 = some (.tup [V.int 5]) := by rw [hH7]; exact t3 _ _ upd_same
    have eb3 : H7 b3 = some (.lst [.non, .int 0, .int 1, .int 4, .int 6, .int 7, .int (-8), .int (-7), .bl true, .str "5", .ref b1, .ref b2, .int 100000000000000000000000000002]) := by rw [hH7]; exact upd_same
    have t7 : Same h H7 := by rw [hH7]; exact (t1.trans t2).trans t3
    have ihex : upd (upd (upd h b1 (.lst [V.int 5])) b2 (.tup [V.int 5])) b3 (.lst [.non, .int 0, .int 1, .int 4, .int 6, .int 7, .int (-8), .int (-7), .bl true, .str (Str.ofString "5"), .ref b1, .ref b2, .int 100000000000000000000000000002]) = H7 := hH7.symm
    rw [ihex]
    clear ihex hH7 t1 t2 t3
    have i5 : It K H7 (.int 5) (.int 5) := .int (n := 10) (by decide) (by decide)
    have items2 : ∀ v ∈ ([.non, .int 0, .int 1, .int 4, .int 6, .int 7, .int (-8), .int (-7), .bl true, .str "5", .ref b1, .ref b2, .int 100000000000000000000000000002] : List V), BM K H7 v := by
      intro v hv
      simp only [List.mem_cons, List.not_mem_nil, or_false] at hv
      have fi : ∀ i : Int, i.natAbs < 2 ^ 150 → measB (.int i) = false → BM K H7 (.int i) := fun i hi hm => ⟨_, .int hi (by decide), ⟨"int", rfl⟩, hm⟩
      rcases hv with rfl | rfl | rfl | rfl | rfl | rfl | rfl | rfl | rfl | rfl | rfl | rfl | rfl
      · exact ⟨_, .non, ⟨"NoneType", rfl⟩, rfl⟩
      · exact fi _ (by decide) (by decide)
      · exact fi _ (by decide) (by decide)
      · exact fi _ (by decide) (by decide)
      · exact fi _ (by decide) (by decide)
      · exact fi _ (by decide) (by decide)
      · exact fi _ (by decide) (by decide)
      · exact fi _ (by decide) (by decide)
      · exact ⟨_, .bl, ⟨"bool", rfl⟩, rfl⟩
      · exact ⟨_, .str (by decide +kernel) (by decide +kernel) (by decide +kernel), ⟨"str", rfl⟩, rfl⟩
      · exact ⟨_, it_lst eb1 (.cons i5 .nil) (Nat.le_of_ble_eq_true rfl) (Nat.le_of_ble_eq_true rfl), ⟨"list", tyS_lst eb1⟩, rfl⟩
      · exact ⟨_, it_tup eb2 (.cons i5 .nil) (Nat.le_of_ble_eq_true rfl) (Nat.le_of_ble_eq_true rfl), ⟨"tuple", tyS_tup eb2⟩, rfl⟩
      · exact fi _ (by decide) (by decide)
    refine ⟨⟨_, SqL.of eb3⟩, ?_⟩
    refine forW_list (xs := [.non, .int 0, .int 1, .int 4, .int 6, .int 7, .int (-8), .int (-7), .bl true, .str "5", .ref b1, .ref b2, .int 100000000000000000000000000002]) (InvL11x [some (.ref a), some (.ref g), some (.ref pl), some (.int q.1), some (.int q.2.1), some (.int q.2.2.1), some (.int q.2.2.2), some (.ref p21)] [none, none, none, none, none, none] H7) ⟨_, none, rfl, Same.refl _⟩ (fun _ _ _ _ z => ?_) (fun i v σ' h8 hv z => ?_) (fun σ' h8 z => ?_)
    · obtain ⟨_, _, _, s⟩ := z
      exact SqL.of (s _ _ eb3)
    · obtain ⟨t, t', rfl, sh⟩ := z
      have hb := (items2 v (List.mem_of_getElem? hv)).same sh
      simp only [cxK, wipe, tYes, List.map_cons, List.map_nil, rIxL, rSum, tSl, rSlL, tNoPart, tPart, exists_and_left, and_assoc, V.ref.injEq, HO.lst.injEq, HO.tup.injEq, tFor_eq, iRng1, iRng2, iList, iTup, tLc_eq, tLst, tTup, gSub, rSetL, gT, gL, gTup, gCons, gNil, atI_0, atI_1, atI_2, atI_3, List.length_cons, List.length_nil, Nat.zero_add, Nat.reduceAdd, Nat.reduceLeDiff, ixN_30, ixN_31, ixN_32, Int.reduceLT, Int.reduceLE, Int.reduceNeg, upd_same, reduceCtorEq, false_and, exists_false, or_false, false_or, tNext, tIfS, tRet, tRetN, tDrop, tAsg, gName, tPar, tPar3, tAug, ipI, tVar, tC, tOp, tUn, tCB, tD, tDK, tCons, tNil, rI, rI0, rU, tB, tTest, tCallS, tErr, tAnd, tOr, tNot, tAndV, tOrV, tNotV, tIf, rEq, rNe, scal_ii, scal_bb, scal_ss, rGcd_eq, tBits, List.set_cons_zero, List.set_cons_succ, List.getElem?_cons_zero, List.getElem?_cons_succ, Option.some.injEq, exists_eq_left', V.int.injEq, V.bl.injEq, V.str.injEq, true_and, and_true, decide_eq_true_eq, List.cons.injEq, exists_eq_left, Bool.false_eq_true, if_false, if_true, ite_true, ite_false, Bool.not_eq_true', decide_eq_false_iff_not, Bool.not_not, List.cons_append, List.nil_append]
      refine ⟨sml (by decide), fun pm nm => ⟨⟨_, SqL.of upd_same⟩, ?_⟩⟩
      have sm := Same.upd (o := .lst [V.non, V.int 0]) nm
      have em : upd h8 pm (.lst [V.non, V.int 0]) pm = some (.lst [V.non, V.int 0]) := upd_same
      generalize upd h8 pm (.lst [V.non, V.int 0]) = h9 at *
      replace hb := hb.same sm
      refine forW_list (xs := [V.non, V.int 0]) (InvL11 [some (.ref a), some (.ref g), some (.ref pl), some (.int q.1), some (.int q.2.1), some (.int q.2.2.1), some (.int q.2.2.2), some (.ref p21), some v] [none, none, none, none, none, none] h9) ⟨_, rfl, Same.refl _⟩ (fun _ _ _ _ z => ?_) (fun i2 y σ' h10 hv2 z => ?_) (fun σ' h10 z => ?_)
      · obtain ⟨_, _, s⟩ := z
        exact SqL.of (s _ _ em)
      · obtain ⟨t9, rfl, s10⟩ := z
        obtain ⟨dy, iy⟩ : ∃ dy, It K h10 y dy := by
          have hm := List.mem_of_getElem? hv2
          simp only [List.mem_cons, List.not_mem_nil, or_false] at hm
          rcases hm with rfl | rfl
          · exact ⟨_, .non⟩
          · exact ⟨_, .int (n := 10) (by decide) (by decide)⟩
        obtain ⟨dv, iv, hO, hm⟩ := hb.same s10
        simp only [cxK, wipe, tYes, List.map_cons, List.map_nil, rIxL, rSum, tSl, rSlL, tNoPart, tPart, exists_and_left, and_assoc, V.ref.injEq, HO.lst.injEq, HO.tup.injEq, tFor_eq, iRng1, iRng2, iList, iTup, tLc_eq, tLst, tTup, gSub, rSetL, gT, gL, gTup, gCons, gNil, atI_0, atI_1, atI_2, atI_3, List.length_cons, List.length_nil, Nat.zero_add, Nat.reduceAdd, Nat.reduceLeDiff, ixN_30, ixN_31, ixN_32, Int.reduceLT, Int.reduceLE, Int.reduceNeg, upd_same, reduceCtorEq, false_and, exists_false, or_false, false_or, tSeq, tNext, tIfS, tRet, tRetN, tDrop, tAsg, gName, tPar, tPar3, tAug, ipI, tVar, tC, tOp, tUn, tCB, tD, tDK, tCons, tNil, rI, rI0, rU, tB, tTest, tCallS, tErr, tAnd, tOr, tNot, tAndV, tOrV, tNotV, tIf, rEq, rNe, scal_ii, scal_bb, scal_ss, rGcd_eq, tBits, List.set_cons_zero, List.set_cons_succ, List.getElem?_cons_zero, List.getElem?_cons_succ, Option.some.injEq, exists_eq_left', V.int.injEq, V.bl.injEq, V.str.injEq, true_and, and_true, decide_eq_true_eq, List.cons.injEq, exists_eq_left, Bool.false_eq_true, if_false, if_true, ite_true, ite_false, Bool.not_eq_true', decide_eq_false_iff_not, Bool.not_not, List.cons_append, List.nil_append]
        refine ⟨by decide, by decide, by decide, by decide, fun Dd nD => ?_⟩
        refine lcW_range (InvC11 h10 Dd) ⟨Same.upd nD, upd_same⟩ (fun j h2 hj z => ?_) (fun h2 z => ?_)
        · obtain ⟨s2, e2⟩ := z
          refine ⟨rfl, ?_⟩
          simp only [cxK, wipe, tYes, List.map_cons, List.map_nil, rIxL, rSum, tSl, rSlL, tNoPart, tPart, exists_and_left, and_assoc, V.ref.injEq, HO.lst.injEq, HO.tup.injEq, tFor_eq, iRng1, iRng2, iList, iTup, tLc_eq, tLst, tTup, gSub, rSetL, gT, gL, gTup, gCons, gNil, atI_0, atI_1, atI_2, atI_3, List.length_cons, List.length_nil, Nat.zero_add, Nat.reduceAdd, Nat.reduceLeDiff, ixN_30, ixN_31, ixN_32, Int.reduceLT, Int.reduceLE, Int.reduceNeg, upd_same, reduceCtorEq, false_and, exists_false, or_false, false_or, tSeq, tNext, tIfS, tRet, tRetN, tDrop, tAsg, gName, tPar, tPar3, tAug, ipI, tVar, tC, tOp, tUn, tCB, tD, tDK, tCons, tNil, rI, rI0, rU, tB, tTest, tCallS, tErr, tAnd, tOr, tNot, tAndV, tOrV, tNotV, tIf, rEq, rNe, scal_ii, scal_bb, scal_ss, rGcd_eq, tBits, List.set_cons_zero, List.set_cons_succ, List.getElem?_cons_zero, List.getElem?_cons_succ, Option.some.injEq, exists_eq_left', V.int.injEq, V.bl.injEq, V.str.injEq, true_and, and_true, decide_eq_true_eq, List.cons.injEq, exists_eq_left, Bool.false_eq_true, if_false, if_true, ite_true, ite_false, Bool.not_eq_true', decide_eq_false_iff_not, Bool.not_not]
          have hj4 : j < 4 := hj
          rw [show (3 : Int) + (j : Int) = ((3 + j : Nat) : Int) by omega]
          refine ⟨3 + j, v, y, .err C_InvalidMeasure v, _, rfl, .meas (by omega) (by omega) (hO.same s2) hm, (iv.same s2).w (iy.same s2), fun p L H' np nL hpL s3 ep eL => ?_⟩
          rw [kind_at NE (j := 1) rfl] at eL
          refine ⟨p, L, 1, v, dv, rfl, ep, by decide, eL, (iv.same (s2.trans s3)).dq, fun H'' s4 => (iv.same ((s2.trans s3).trans s4)).dq, fun H'' s4 => ⟨true, rfl, ?_⟩⟩
          rw [if_neg (by decide)]
          exact ⟨s2.trans (s3.trans s4), s4 _ _ (s3 _ _ e2)⟩
        · obtain ⟨s2, e2⟩ := z
          refine ⟨sml (by decide), fun E nE => ?_⟩
          refine ne_nil ((Same.upd nE) _ _ e2) upd_same ⟨false, rfl, ?_⟩
          rw [if_neg (by decide)]
          exact ⟨_, rfl, s10.trans (s2.trans (Same.upd nE))⟩
      · obtain ⟨t9, rfl, s10⟩ := z
        exact ⟨_, _, rfl, sh.trans (sm.trans s10)⟩
    obtain ⟨t8', t9', rfl, s8⟩ := z
    have s9 := (s6.trans t7).trans s8
    clear items2 eb1 eb2 eb3 i5 s6 t7 s8
    refine Eq.mpr (hC8 _ _) ?_
    simp only [cxK, wipe, tYes, List.map_cons, List.map_nil, rIxL, rSum, tSl, rSlL, tNoPart, tPart, exists_and_left, and_assoc, V.ref.injEq, HO.lst.injEq, HO.tup.injEq, tFor_eq, iRng1, iRng2, iList, iTup, tLc_eq, tLst, tTup, gSub, rSetL, gT, gL, gTup, gCons, gNil, atI_0, atI_1, atI_2, atI_3, List.length_cons, List.length_nil, Nat.zero_add, Nat.reduceAdd, Nat.reduceLeDiff, ixN_30, ixN_31, ixN_32, Int.reduceLT, Int.reduceLE, Int.reduceNeg, upd_same, reduceCtorEq, false_and, exists_false, or_false, false_or, tNext, tIfS, tRet, tRetN, tDrop, tAsg, gName, tPar, tPar3, tAug, ipI, tVar, tC, tOp, tUn, tCB, tD, tDK, tCons, tNil, rI, rI0, rU, tB, tTest, tCallS, tErr, tAnd, tOr, tNot, tAndV, tOrV, tNotV, tIf, rEq, rNe, scal_ii, scal_bb, scal_ss, rGcd_eq, tBits, List.set_cons_zero, List.set_cons_succ, List.getElem?_cons_zero, List.getElem?_cons_succ, Option.some.injEq, exists_eq_left', V.int.injEq, V.bl.injEq, V.str.injEq, true_and, and_true, decide_eq_true_eq, List.cons.injEq, exists_eq_left, Bool.false_eq_true, if_false, if_true, ite_true, ite_false, Bool.not_eq_true', decide_eq_false_iff_not, Bool.not_not, List.cons_append, List.nil_append]
    refine seq_gen fun C9 hC9 => ?_
    simp only [cxK, wipe, tYes, List.map_cons, List.map_nil, rIxL, rSum, tSl, rSlL, tNoPart, tPart, exists_and_left, and_assoc, V.ref.injEq, HO.lst.injEq, HO.tup.injEq, tFor_eq, iRng1, iRng2, iList, iTup, tLc_eq, tLst, tTup, gSub, rSetL, gT, gL, gTup, gCons, gNil, atI_0, atI_1, atI_2, atI_3, List.length_cons, List.length_nil, Nat.zero_add, Nat.reduceAdd, Nat.reduceLeDiff, ixN_30, ixN_31, ixN_32, Int.reduceLT, Int.reduceLE, Int.reduceNeg, upd_same, reduceCtorEq, false_and, exists_false, or_false, false_or, tNext, tIfS, tRet, tRetN, tDrop, tAsg, gName, tPar, tPar3, tAug, ipI, tVar, tC, tOp, tUn, tCB, tD, tDK, tCons, tNil, rI, rI0, rU, tB, tTest, tCallS, tErr, tAnd, tOr, tNot, tAndV, tOrV, tNotV, tIf, rEq, rNe, scal_ii, scal_bb, scal_ss, rGcd_eq, tBits, List.set_cons_zero, List.set_cons_succ, List.getElem?_cons_zero, List.getElem?_cons_succ, Option.some.injEq, exists_eq_left', V.int.injEq, V.bl.injEq, V.str.injEq, true_and, and_true, decide_eq_true_eq, List.cons.injEq, exists_eq_left, Bool.false_eq_true, if_false, if_true, ite_true, ite_false, Bool.not_eq_true', decide_eq_false_iff_not, Bool.not_not]
    refine ⟨sml (by decide), fun pq npq => ?_⟩
    have tq := Same.upd (o := .tup [V.int q.1, V.int q.2.1, V.int q.2.2.1, V.int q.2.2.2]) npq
    refine ⟨pq, q, rfl, upd_same, (sz_meas okq (by omega)).up (by decide), ?_⟩
    rw [mq]
    have s10 := s9.trans tq
    generalize upd h8 pq (.tup [V.int q.1, V.int q.2.1, V.int q.2.2.1, V.int q.2.2.2]) = H10 at *
    have hD0 : (5 : Int) ≤ D := hM.1
    have iD : ∀ {h : Hp}, It K h (.int D) (.int D) := .int (n := 20) (by omega) (by decide)
    refine Eq.mpr (hC9 _ _) ?_
    refine seq_gen fun C10 hC10 => ?_
    simp only [cxK, wipe, tYes, List.map_cons, List.map_nil, rIxL, rSum, tSl, rSlL, tNoPart, tPart, exists_and_left, and_assoc, V.ref.injEq, HO.lst.injEq, HO.tup.injEq, tFor_eq, iRng1, iRng2, iList, iTup, tLc_eq, tLst, tTup, gSub, rSetL, gT, gL, gTup, gCons, gNil, atI_0, atI_1, atI_2, atI_3, List.length_cons, List.length_nil, Nat.zero_add, Nat.reduceAdd, Nat.reduceLeDiff, ixN_30, ixN_31, ixN_32, Int.reduceLT, Int.reduceLE, Int.reduceNeg, upd_same, reduceCtorEq, false_and, exists_false, or_false, false_or, tNext, tIfS, tRet, tRetN, tDrop, tAsg, gName, tPar, tPar3, tAug, ipI, tVar, tC, tOp, tUn, tCB, tD, tDK, tCons, tNil, rI, rI0, rU, tB, tTest, tCallS, tErr, tAnd, tOr, tNot, tAndV, tOrV, tNotV, tIf, rEq, rNe, scal_ii, scal_bb, scal_ss, rGcd_eq, tBits, List.set_cons_zero, List.set_cons_succ, List.getElem?_cons_zero, List.getElem?_cons_succ, Option.some.injEq, exists_eq_left', V.int.injEq, V.bl.injEq, V.str.injEq, true_and, and_true, decide_eq_true_eq, List.cons.injEq, exists_eq_left, Bool.false_eq_true, if_false, if_true, ite_true, ite_false, Bool.not_eq_true', decide_eq_false_iff_not, Bool.not_not]
    refine ⟨sml (by decide), fun b1 m1 => ⟨sml (by decide), fun b2 m2 => ⟨sml (by decide), fun b3 m3 => ?_⟩⟩⟩
    have t1 := Same.upd (o := .lst [V.int 0]) m1
    have t2 := Same.upd (o := .tup []) m2
    have t3 := Same.upd (o := .lst [.non, .bl true, .str "0", .ref b1, .ref b2]) m3
    obtain ⟨H11, hH⟩ : ∃ h7, h7 = upd (upd (upd H10 b1 (.lst [V.int 0])) b2 (.tup [])) b3 (.lst [.non, .bl true, .str "0", .ref b1, .ref b2]) := ⟨_, rfl⟩
    have eb1 : H11 b1 = some (.lst [V.int 0]) := by rw [hH]; exact t3 _ _ (t2 _ _ upd_same)
    have eb2 : H11 b2 = some (.tup []) := by rw [hH]; exact t3 _ _ upd_same
    have eb3 : H11 b3 = some (.lst [.non, .bl true, .str "0", .ref b1, .ref b2]) := by rw [hH]; exact upd_same
    have t11 : Same H10 H11 := by rw [hH]; exact (t1.trans t2).trans t3
    have ihex : upd (upd (upd H10 b1 (.lst [V.int 0])) b2 (.tup [])) b3 (.lst [.non, .bl true, .str (Str.ofString "0"), .ref b1, .ref b2]) = H11 := hH.symm
    rw [ihex]
    clear ihex hH t1 t2 t3
    have i0 : It K H11 (.int 0) (.int 0) := .int (n := 10) (by decide) (by decide)
    have items3 : ∀ v ∈ ([.non, .bl true, .str "0", .ref b1, .ref b2] : List V), BN K H11 v := by
      intro v hv
      simp only [List.mem_cons, List.not_mem_nil, or_false] at hv
      rcases hv with rfl | rfl | rfl | rfl | rfl
      · exact ⟨_, .non, ⟨"NoneType", rfl⟩, rfl⟩
      · exact ⟨_, .bl, ⟨"bool", rfl⟩, rfl⟩
      · exact ⟨_, .str (by decide +kernel) (by decide +kernel) (by decide +kernel), ⟨"str", rfl⟩, rfl⟩
      · exact ⟨_, it_lst eb1 (.cons i0 .nil) (Nat.le_of_ble_eq_true rfl) (Nat.le_of_ble_eq_true rfl), ⟨"list", tyS_lst eb1⟩, rfl⟩
      · exact ⟨_, it_tup eb2 .nil (Nat.le_of_ble_eq_true rfl) (Nat.le_of_ble_eq_true rfl), ⟨"tuple", tyS_tup eb2⟩, rfl⟩
    refine ⟨⟨_, SqL.of eb3⟩, ?_⟩
    refine forW_list (xs := [.non, .bl true, .str "0", .ref b1, .ref b2]) (InvL11x [some (.ref a), some (.ref g), some (.ref pl), some (.int q.1), some (.int q.2.1), some (.int q.2.2.1), some (.int q.2.2.2), some (.ref p21)] [some (.int D), none, none, none, none, none] H11) ⟨_, _, rfl, Same.refl _⟩ (fun _ _ _ _ z => ?_) (fun i v σ' h8 hv z => ?_) (fun σ' h12 z => ?_)
    · obtain ⟨_, _, _, s⟩ := z
      exact SqL.of (s _ _ eb3)
    · obtain ⟨t, t', rfl, sh⟩ := z
      obtain ⟨dv, iv, hO, hm⟩ := (items3 v (List.mem_of_getElem? hv)).same sh
      simp only [cxK, wipe, tYes, List.map_cons, List.map_nil, rIxL, rSum, tSl, rSlL, tNoPart, tPart, exists_and_left, and_assoc, V.ref.injEq, HO.lst.injEq, HO.tup.injEq, tFor_eq, iRng1, iRng2, iList, iTup, tLc_eq, tLst, tTup, gSub, rSetL, gT, gL, gTup, gCons, gNil, atI_0, atI_1, atI_2, atI_3, List.length_cons, List.length_nil, Nat.zero_add, Nat.reduceAdd, Nat.reduceLeDiff, ixN_30, ixN_31, ixN_32, Int.reduceLT, Int.reduceLE, Int.reduceNeg, upd_same, reduceCtorEq, false_and, exists_false, or_false, false_or, tSeq, tNext, tIfS, tRet, tRetN, tDrop, tAsg, gName, tPar, tPar3, tAug, ipI, tVar, tC, tOp, tUn, tCB, tD, tDK, tCons, tNil, rI, rI0, rU, tB, tTest, tCallS, tErr, tAnd, tOr, tNot, tAndV, tOrV, tNotV, tIf, rEq, rNe, scal_ii, scal_bb, scal_ss, rGcd_eq, tBits, List.set_cons_zero, List.set_cons_succ, List.getElem?_cons_zero, List.getElem?_cons_succ, Option.some.injEq, exists_eq_left', V.int.injEq, V.bl.injEq, V.str.injEq, true_and, and_true, decide_eq_true_eq, List.cons.injEq, exists_eq_left, Bool.false_eq_true, if_false, if_true, ite_true, ite_false, Bool.not_eq_true', decide_eq_false_iff_not, Bool.not_not, List.cons_append, List.nil_append]
      refine ⟨5, .int D, v, .err C_InvalidNumber v, _, rfl, .num (.inl rfl) hM (by omega) hO hm, iD.w iv, fun p L H' np nL hpL s3 ep eL => ?_⟩
      rw [kind_at NE (j := 2) rfl] at eL
      refine ⟨p, L, 2, v, dv, rfl, ep, by decide, eL, (iv.same s3).dq, fun H'' s4 => (iv.same (s3.trans s4)).dq, fun H'' s4 => ⟨true, rfl, ?_⟩⟩
      rw [if_neg (by decide)]
      have s34 := s3.trans s4
      refine ⟨6, .int D, v, .err C_InvalidNumber v, _, rfl, .num (.inr rfl) hM (by omega) (hO.same s34) hm, iD.w (iv.same s34), fun p L H3 np nL hpL s5 ep eL => ?_⟩
      rw [kind_at NE (j := 2) rfl] at eL
      refine ⟨p, L, 2, v, dv, rfl, ep, by decide, eL, (iv.same (s34.trans s5)).dq, fun H'' s6 => (iv.same ((s34.trans s5).trans s6)).dq, fun H'' s6 => ⟨true, rfl, ?_⟩⟩
      rw [if_neg (by decide)]
      exact ⟨_, _, rfl, sh.trans ((s34.trans s5).trans s6)⟩
    obtain ⟨t8', t9', rfl, s12⟩ := z
    have s13 := (s10.trans t11).trans s12
    clear items3 eb1 eb2 eb3 i0 s9 s10 tq t11 s12
    refine Eq.mpr (hC10 _ _) ?_
    simp only [cxK, wipe, tYes, List.map_cons, List.map_nil, rIxL, rSum, tSl, rSlL, tNoPart, tPart, exists_and_left, and_assoc, V.ref.injEq, HO.lst.injEq, HO.tup.injEq, tFor_eq, iRng1, iRng2, iList, iTup, tLc_eq, tLst, tTup, gSub, rSetL, gT, gL, gTup, gCons, gNil, atI_0, atI_1, atI_2, atI_3, List.length_cons, List.length_nil, Nat.zero_add, Nat.reduceAdd, Nat.reduceLeDiff, ixN_30, ixN_31, ixN_32, Int.reduceLT, Int.reduceLE, Int.reduceNeg, upd_same, reduceCtorEq, false_and, exists_false, or_false, false_or, tNext, tIfS, tRet, tRetN, tDrop, tAsg, gName, tPar, tPar3, tAug, ipI, tVar, tC, tOp, tUn, tCB, tD, tDK, tCons, tNil, rI, rI0, rU, tB, tTest, tCallS, tErr, tAnd, tOr, tNot, tAndV, tOrV, tNotV, tIf, rEq, rNe, scal_ii, scal_bb, scal_ss, rGcd_eq, tBits, List.set_cons_zero, List.set_cons_succ, List.getElem?_cons_zero, List.getElem?_cons_succ, Option.some.injEq, exists_eq_left', V.int.injEq, V.bl.injEq, V.str.injEq, true_and, and_true, decide_eq_true_eq, List.cons.injEq, exists_eq_left, Bool.false_eq_true, if_false, if_true, ite_true, ite_false, Bool.not_eq_true', decide_eq_false_iff_not, Bool.not_not, List.cons_append, List.nil_append]
    refine seq_gen fun C11 hC11 => ?_
    simp only [cxK, wipe, tYes, List.map_cons, List.map_nil, rIxL, rSum, tSl, rSlL, tNoPart, tPart, exists_and_left, and_assoc, V.ref.injEq, HO.lst.injEq, HO.tup.injEq, tFor_eq, iRng1, iRng2, iList, iTup, tLc_eq, tLst, tTup, gSub, rSetL, gT, gL, gTup, gCons, gNil, atI_0, atI_1, atI_2, atI_3, List.length_cons, List.length_nil, Nat.zero_add, Nat.reduceAdd, Nat.reduceLeDiff, ixN_30, ixN_31, ixN_32, Int.reduceLT, Int.reduceLE, Int.reduceNeg, upd_same, reduceCtorEq, false_and, exists_false, or_false, false_or, tNext, tIfS, tRet, tRetN, tDrop, tAsg, gName, tPar, tPar3, tAug, ipI, tVar, tC, tOp, tUn, tCB, tD, tDK, tCons, tNil, rI, rI0, rU, tB, tTest, tCallS, tErr, tAnd, tOr, tNot, tAndV, tOrV, tNotV, tIf, rEq, rNe, scal_ii, scal_bb, scal_ss, rGcd_eq, tBits, List.set_cons_zero, List.set_cons_succ, List.getElem?_cons_zero, List.getElem?_cons_succ, Option.some.injEq, exists_eq_left', V.int.injEq, V.bl.injEq, V.str.injEq, true_and, and_true, decide_eq_true_eq, List.cons.injEq, exists_eq_left, Bool.false_eq_true, if_false, if_true, ite_true, ite_false, Bool.not_eq_true', decide_eq_false_iff_not, Bool.not_not]
    have iN : ∀ {h : Hp} {i : Int}, i.natAbs < 2 ^ 100 → It K h (.int i) (.int i) := fun h => .int (n := 100) h (by decide)
    refine ⟨6, .int D, .int (-1), .err C_InvalidNumber (.int (-1)), _, rfl, .neg hM (by omega) (by decide), iD.w (iN (by decide)), fun p1 L1 H14 np1 nL1 hpL1 s14 ep1 eL1 => ?_⟩
    rw [kind_at NE (j := 2) rfl] at eL1
    refine ⟨p1, L1, 2, .int (-1), _, rfl, ep1, by decide, eL1, (iN (by decide)).dq, fun H'' s6 => (iN (by decide)).dq, fun H15 s15 => ⟨true, rfl, ?_⟩⟩
    rw [if_neg (by decide)]
    have s16 := (s13.trans s14).trans s15
    have el16 := s16 _ _ el4
    refine ⟨_, el16, ?_⟩
    rw [List.length_map, hlen, hLs]
    refine ⟨6, .int D, .int ((cutsL D).length : Nat), .err C_InvalidNumber (.int ((cutsL D).length : Nat)), _, rfl, .big hM (by omega) (by omega) (Int.le_refl _), iD.w (iN (by omega)), fun p2 L2 H17 np2 nL2 hpL2 s17 ep2 eL2 => ?_⟩
    rw [kind_at NE (j := 2) rfl] at eL2
    refine ⟨_, s17 _ _ el16, ?_⟩
    rw [List.length_map, hlen, hLs]
    refine ⟨p2, L2, 2, .int ((cutsL D).length : Nat), _, rfl, ep2, by decide, eL2, (iN (by omega)).dq, fun H'' s6 => (iN (by omega)).dq, fun H18 s18 => ⟨true, rfl, ?_⟩⟩
    rw [if_neg (by decide)]
    have s19 := (s16.trans s17).trans s18
    clear s13 s14 s15 s16 s17 s18 ep1 eL1 ep2 eL2 el16
    refine Eq.mpr (hC11 _ _) ?_
    refine seq_gen fun C12 hC12 => ?_
    simp only [cxK, wipe, tYes, List.map_cons, List.map_nil, rIxL, rSum, tSl, rSlL, tNoPart, tPart, exists_and_left, and_assoc, V.ref.injEq, HO.lst.injEq, HO.tup.injEq, tFor_eq, iRng1, iRng2, iList, iTup, tLc_eq, tLst, tTup, gSub, rSetL, gT, gL, gTup, gCons, gNil, atI_0, atI_1, atI_2, atI_3, List.length_cons, List.length_nil, Nat.zero_add, Nat.reduceAdd, Nat.reduceLeDiff, ixN_30, ixN_31, ixN_32, Int.reduceLT, Int.reduceLE, Int.reduceNeg, upd_same, reduceCtorEq, false_and, exists_false, or_false, false_or, tNext, tIfS, tRet, tRetN, tDrop, tAsg, gName, tPar, tPar3, tAug, ipI, tVar, tC, tOp, tUn, tCB, tD, tDK, tCons, tNil, rI, rI0, rU, tB, tTest, tCallS, tErr, tAnd, tOr, tNot, tAndV, tOrV, tNotV, tIf, rEq, rNe, scal_ii, scal_bb, scal_ss, rGcd_eq, tBits, List.set_cons_zero, List.set_cons_succ, List.getElem?_cons_zero, List.getElem?_cons_succ, Option.some.injEq, exists_eq_left', V.int.injEq, V.bl.injEq, V.str.injEq, true_and, and_true, decide_eq_true_eq, List.cons.injEq, exists_eq_left, Bool.false_eq_true, if_false, if_true, ite_true, ite_false, Bool.not_eq_true', decide_eq_false_iff_not, Bool.not_not]
    refine ⟨g, 4, _, rfl, nn4 s19, by omega, by decide, by decide, fun r1 H20 r10 r11 G20 K20 => ?_⟩
    have rest : ∀ (t11 t12 : Option V) (H : Hp), C12 [some (V.ref a), some (V.ref g), some (V.ref pl), some (V.int q.1), some (V.int q.2.1), some (V.int q.2.2.1), some (V.int q.2.2.2), some (V.ref p21), t8', t9', some (V.int D), t11, t12, none, none, none] H := fun t11 t12 H => by
      clear nn4 el4 hO4 s19 G20 K20
      refine Eq.mpr (hC12 _ _) ?_
      refine seq_gen fun C13 hC13 => ?_
      simp only [cxK, wipe, tYes, List.map_cons, List.map_nil, rIxL, rSum, tSl, rSlL, tNoPart, tPart, exists_and_left, and_assoc, V.ref.injEq, HO.lst.injEq, HO.tup.injEq, tFor_eq, iRng1, iRng2, iList, iTup, tLc_eq, tLst, tTup, gSub, rSetL, gT, gL, gTup, gCons, gNil, atI_0, atI_1, atI_2, atI_3, List.length_cons, List.length_nil, Nat.zero_add, Nat.reduceAdd, Nat.reduceLeDiff, ixN_30, ixN_31, ixN_32, Int.reduceLT, Int.reduceLE, Int.reduceNeg, upd_same, reduceCtorEq, false_and, exists_false, or_false, false_or, tNext, tIfS, tRet, tRetN, tDrop, tAsg, gName, tPar, tPar3, tAug, ipI, tVar, tC, tOp, tUn, tCB, tD, tDK, tCons, tNil, rI, rI0, rU, tB, tTest, tCallS, tErr, tAnd, tOr, tNot, tAndV, tOrV, tNotV, tIf, rEq, rNe, scal_ii, scal_bb, scal_ss, rGcd_eq, tBits, List.set_cons_zero, List.set_cons_succ, List.getElem?_cons_zero, List.getElem?_cons_succ, Option.some.injEq, exists_eq_left', V.int.injEq, V.bl.injEq, V.str.injEq, true_and, and_true, decide_eq_true_eq, List.cons.injEq, exists_eq_left, Bool.false_eq_true, if_false, if_true, ite_true, ite_false, Bool.not_eq_true', decide_eq_false_iff_not, Bool.not_not]
      refine ⟨sml (by decide), fun pt npt => ?_⟩
      have et : upd H pt (.lst [V.non]) pt = some (.lst [V.non]) := upd_same
      generalize upd H pt (.lst [V.non]) = H1 at *
      have hO : OkV H1 (.ref pt) := okV_of (tyS_lst et) (by decide)
      have hc : cutB H1 (.ref pt) = false := no_of (tyS_lst et) (by decide)
      have ipt : It K H1 (.ref pt) (.list [.none]) := it_lst et (.cons .non .nil) (Nat.le_of_ble_eq_true rfl) (Nat.le_of_ble_eq_true rfl)
      refine Eq.mpr (hC13 _ _) ?_
      refine seq_gen fun C14 hC14 => ?_
      simp only [cxK, wipe, tYes, List.map_cons, List.map_nil, rIxL, rSum, tSl, rSlL, tNoPart, tPart, exists_and_left, and_assoc, V.ref.injEq, HO.lst.injEq, HO.tup.injEq, tFor_eq, iRng1, iRng2, iList, iTup, tLc_eq, tLst, tTup, gSub, rSetL, gT, gL, gTup, gCons, gNil, atI_0, atI_1, atI_2, atI_3, List.length_cons, List.length_nil, Nat.zero_add, Nat.reduceAdd, Nat.reduceLeDiff, ixN_30, ixN_31, ixN_32, Int.reduceLT, Int.reduceLE, Int.reduceNeg, upd_same, reduceCtorEq, false_and, exists_false, or_false, false_or, tNext, tIfS, tRet, tRetN, tDrop, tAsg, gName, tPar, tPar3, tAug, ipI, tVar, tC, tOp, tUn, tCB, tD, tDK, tCons, tNil, rI, rI0, rU, tB, tTest, tCallS, tErr, tAnd, tOr, tNot, tAndV, tOrV, tNotV, tIf, rEq, rNe, scal_ii, scal_bb, scal_ss, rGcd_eq, tBits, List.set_cons_zero, List.set_cons_succ, List.getElem?_cons_zero, List.getElem?_cons_succ, Option.some.injEq, exists_eq_left', V.int.injEq, V.bl.injEq, V.str.injEq, true_and, and_true, decide_eq_true_eq, List.cons.injEq, exists_eq_left, Bool.false_eq_true, if_false, if_true, ite_true, ite_false, Bool.not_eq_true', decide_eq_false_iff_not, Bool.not_not]
      refine ⟨0, .ref pt, .non, .err C_InvalidCutting (.ref pt), _, rfl, .cut (by decide) hO hc, ipt.w .non, fun p1 L1 H2 np1 nL1 hpL1 s2 ep1 eL1 => ?_⟩
      have et2 := s2 _ _ et
      refine Eq.mpr (hC14 _ _) ?_
      refine seq_gen fun C15 hC15 => ?_
      simp only [cxK, wipe, tYes, List.map_cons, List.map_nil, rIxL, rSum, tSl, rSlL, tNoPart, tPart, exists_and_left, and_assoc, V.ref.injEq, HO.lst.injEq, HO.tup.injEq, tFor_eq, iRng1, iRng2, iList, iTup, tLc_eq, tLst, tTup, gSub, rSetL, gT, gL, gTup, gCons, gNil, atI_0, atI_1, atI_2, atI_3, List.length_cons, List.length_nil, Nat.zero_add, Nat.reduceAdd, Nat.reduceLeDiff, ixN_30, ixN_31, ixN_32, Int.reduceLT, Int.reduceLE, Int.reduceNeg, upd_same, reduceCtorEq, false_and, exists_false, or_false, false_or, tNext, tIfS, tRet, tRetN, tDrop, tAsg, gName, tPar, tPar3, tAug, ipI, tVar, tC, tOp, tUn, tCB, tD, tDK, tCons, tNil, rI, rI0, rU, tB, tTest, tCallS, tErr, tAnd, tOr, tNot, tAndV, tOrV, tNotV, tIf, rEq, rNe, scal_ii, scal_bb, scal_ss, rGcd_eq, tBits, List.set_cons_zero, List.set_cons_succ, List.getElem?_cons_zero, List.getElem?_cons_succ, Option.some.injEq, exists_eq_left', V.int.injEq, V.bl.injEq, V.str.injEq, true_and, and_true, decide_eq_true_eq, List.cons.injEq, exists_eq_left, Bool.false_eq_true, if_false, if_true, ite_true, ite_false, Bool.not_eq_true', decide_eq_false_iff_not, Bool.not_not, tBM]
      refine ⟨.inl ⟨rfl, _, SqL.of et2⟩, pt, _, _, rfl, rfl, et2, Nat.le_trans (show _ ≤ 2001 by decide) (Nat.le_of_ble_eq_true rfl), ?_⟩
      have hp1 : p1 ≠ pt := fun e => by rw [e, et] at np1; cases np1
      have ep3 : upd H2 pt (.lst ([V.non] ++ [V.int 7])) p1 = some (.tup [.ref L1, .ref pt]) := (upd_ne hp1).trans ep1
      have et3 : upd H2 pt (.lst ([V.non] ++ [V.int 7])) pt = some (.lst [V.non, V.int 7]) := upd_same
      generalize upd H2 pt (.lst ([V.non] ++ [V.int 7])) = H3 at *
      clear ep1 et2 et hO hc ipt eL1
      refine Eq.mpr (hC15 _ _) ?_
      refine seq_gen fun C16 hC16 => ?_
      simp only [cxK, wipe, tYes, List.map_cons, List.map_nil, rIxL, rSum, tSl, rSlL, tNoPart, tPart, exists_and_left, and_assoc, V.ref.injEq, HO.lst.injEq, HO.tup.injEq, tFor_eq, iRng1, iRng2, iList, iTup, tLc_eq, tLst, tTup, gSub, rSetL, gT, gL, gTup, gCons, gNil, atI_0, atI_1, atI_2, atI_3, List.length_cons, List.length_nil, Nat.zero_add, Nat.reduceAdd, Nat.reduceLeDiff, ixN_30, ixN_31, ixN_32, Int.reduceLT, Int.reduceLE, Int.reduceNeg, upd_same, reduceCtorEq, false_and, exists_false, or_false, false_or, tNext, tIfS, tRet, tRetN, tDrop, tAsg, gName, tPar, tPar3, tAug, ipI, tVar, tC, tOp, tUn, tCB, tD, tDK, tCons, tNil, rI, rI0, rU, tB, tTest, tCallS, tErr, tAnd, tOr, tNot, tAndV, tOrV, tNotV, tIf, rEq, rNe, scal_ii, scal_bb, scal_ss, rGcd_eq, tBits, List.set_cons_zero, List.set_cons_succ, List.getElem?_cons_zero, List.getElem?_cons_succ, Option.some.injEq, exists_eq_left', V.int.injEq, V.bl.injEq, V.str.injEq, true_and, and_true, decide_eq_true_eq, List.cons.injEq, exists_eq_left, Bool.false_eq_true, if_false, if_true, ite_true, ite_false, Bool.not_eq_true', decide_eq_false_iff_not, Bool.not_not]
      refine ⟨_, ep3, _, atI_1, sml (by decide), fun pn npn => ?_⟩
      have d37 : ∀ {h : Hp} {b : Addr}, h b = some (.lst [V.non, V.int 7]) → Dp K h (.ref b) (.list [.none, .int 7]) := fun e => .lst (SqL.of e) (.cons .non (.cons (.int 7) .nil))
      refine ne_data (d37 ((Same.upd npn) _ _ et3)) (d37 upd_same) rfl ⟨false, rfl, ?_⟩
      rw [if_neg (by decide)]
      have dok : ∀ {h : Hp} {p L : Addr}, h p = some (.tup [.ref L, .non]) → h L = some (.lst [V.bl false, V.bl false, V.bl false, V.bl false]) → Dp K h (.ref p) (.tuple [.list [.bool false, .bool false, .bool false, .bool false], .none]) := fun e1 e2 => .tup (SqT.of e1) (.cons (.lst (SqL.of e2) (.cons (.bl false) (.cons (.bl false) (.cons (.bl false) (.cons (.bl false) .nil))))) (.cons .non .nil))
      have okEq : ∀ {h1 : Hp} {p L : Addr} {R2x : R2} {Qx : VK}, h1 p = some (.tup [.ref L, .non]) → h1 L = some (.lst [V.bl false, V.bl false, V.bl false, V.bl false]) → (∀ (p2 : Addr) (h2 : Hp), Same h1 h2 → Dp K h2 (.ref p) (.tuple [.list [.bool false, .bool false, .bool false, .bool false], .none]) → Dp K h2 (.ref p2) (.tuple [.list [.bool false, .bool false, .bool false, .bool false], .none]) → R2x (V.ref p) (V.ref p2) h2 Qx) →
          1 ≤ sizeLine ∧ ∀ p1 : Addr, h1 p1 = none → rRep (V.ref p1) (V.int 4) (upd h1 p1 (.lst [V.bl false])) fun x2 H1 => 2 ≤ sizeLine ∧ ∀ p2 : Addr, H1 p2 = none → R2x (V.ref p) (V.ref p2) (upd H1 p2 (.tup [x2, V.non])) Qx := fun {h1 p L R2x Qx} e1 e2 k => by
        refine ⟨sml (by decide), fun p1 np1 => ⟨p1, 4, [V.bl false], rfl, rfl, upd_same, by decide, by decide, sml (show 4 ≤ 1000 by decide), fun p3 np3 => ⟨sml (by decide), fun p2 np2 => ?_⟩⟩⟩
        have a1 := Same.upd (o := .lst [V.bl false]) np1
        have a2 := Same.upd (o := .lst (List.replicate (Int.toNat 4) [V.bl false]).flatten) np3
        have a3 := Same.upd (o := .tup [V.ref p3, V.non]) np2
        have a13 := (a1.trans a2).trans a3
        exact k p2 _ a13 (dok (a13 _ _ e1) (a13 _ _ e2)) (dok upd_same (a3 _ _ upd_same))
      refine ⟨6, .int D, .int 0, .ok, _, rfl, .at (n := 0) hM (by omega) (by omega) (by omega), iD.w (iN (by decide)), fun p5 L5 H5 np5 nL5 hpL5 s5 ep5 eL5 => ?_⟩
      refine okEq ep5 eL5 fun p6 H6 s6 d1 d2 => ne_data d1 d2 rfl ⟨false, rfl, ?_⟩
      rw [if_neg (by decide)]
      have z20 : -10 ^ Int.toNat 20 = (-100000000000000000000 : Int) := by decide +kernel
      rw [z20]
      refine ⟨cpow (by decide) (by decide) (by decide) (by decide), 5, .int D, .int (-100000000000000000000), .ok, _, rfl, .last hM (by omega) (by decide), iD.w (iN (by decide)), fun p7 L7 H7 np7 nL7 hpL7 s7 ep7 eL7 => ?_⟩
      refine okEq ep7 eL7 fun p8 H8 s8 d1 d2 => ne_data d1 d2 rfl ⟨false, rfl, ?_⟩
      rw [if_neg (by decide)]
      refine Eq.mpr (hC16 _ _) ?_
      simp only [cxK, wipe, tYes, List.map_cons, List.map_nil, rIxL, rSum, tSl, rSlL, tNoPart, tPart, exists_and_left, and_assoc, V.ref.injEq, HO.lst.injEq, HO.tup.injEq, tFor_eq, iRng1, iRng2, iList, iTup, tLc_eq, tLst, tTup, gSub, rSetL, gT, gL, gTup, gCons, gNil, atI_0, atI_1, atI_2, atI_3, List.length_cons, List.length_nil, Nat.zero_add, Nat.reduceAdd, Nat.reduceLeDiff, ixN_30, ixN_31, ixN_32, Int.reduceLT, Int.reduceLE, Int.reduceNeg, upd_same, reduceCtorEq, false_and, exists_false, or_false, false_or, tSeq, tNext, tIfS, tRet, tRetN, tDrop, tAsg, gName, tPar, tPar3, tAug, ipI, tVar, tC, tOp, tUn, tCB, tD, tDK, tCons, tNil, rI, rI0, rU, tB, tTest, tCallS, tErr, tAnd, tOr, tNot, tAndV, tOrV, tNotV, tIf, rEq, rNe, scal_ii, scal_bb, scal_ss, rGcd_eq, tBits, List.set_cons_zero, List.set_cons_succ, List.getElem?_cons_zero, List.getElem?_cons_succ, Option.some.injEq, exists_eq_left', V.int.injEq, V.bl.injEq, V.str.injEq, true_and, and_true, decide_eq_true_eq, List.cons.injEq, exists_eq_left, Bool.false_eq_true, if_false, if_true, ite_true, ite_false, Bool.not_eq_true', decide_eq_false_iff_not, Bool.not_not]
      refine ⟨sml (by decide), fun p9 n9 => ?_⟩
      have hq9 : CutAt (upd H8 p9 (.tup [V.int q.1, V.int q.2.1, V.int q.2.2.1, V.int q.2.2.2])) p9 q := ⟨upd_same, okq⟩
      have i9 : It K (upd H8 p9 (.tup [V.int q.1, V.int q.2.1, V.int q.2.2.1, V.int q.2.2.2])) (.ref p9) (.tuple [.int q.1, .int q.2.1, .int q.2.2.1, .int q.2.2.2]) := it_tup upd_same (.cons (.int za (by decide)) (.cons (.int zb (by decide)) (.cons (.int zc (by decide)) (.cons (.int ze (by decide)) .nil)))) (Nat.le_of_ble_eq_true rfl) (Nat.le_of_ble_eq_true rfl)
      refine ⟨0, .ref p9, .non, .ok, _, rfl, .good hq9 (sz_meas okq (by omega)), i9.w .non, fun p10 L10 H10 np10 nL10 hpL10 s10 ep10 eL10 => ?_⟩
      exact okEq ep10 eL10 fun p11 H11 s11 d1 d2 => eq_data d1 d2 rfl (kk _)
    by_cases hr : V.int r1 = V.int 0
    · refine ⟨rfl, ?_⟩
      rw [if_pos hr]
      refine seq_gen fun D1 hD1 => ?_
      simp only [cxK, wipe, tYes, List.map_cons, List.map_nil, rIxL, rSum, tSl, rSlL, tNoPart, tPart, exists_and_left, and_assoc, V.ref.injEq, HO.lst.injEq, HO.tup.injEq, tFor_eq, iRng1, iRng2, iList, iTup, tLc_eq, tLst, tTup, gSub, rSetL, gT, gL, gTup, gCons, gNil, atI_0, atI_1, atI_2, atI_3, List.length_cons, List.length_nil, Nat.zero_add, Nat.reduceAdd, Nat.reduceLeDiff, ixN_30, ixN_31, ixN_32, Int.reduceLT, Int.reduceLE, Int.reduceNeg, upd_same, reduceCtorEq, false_and, exists_false, or_false, false_or, tNext, tIfS, tRet, tRetN, tDrop, tAsg, gName, tPar, tPar3, tAug, ipI, tVar, tC, tOp, tUn, tCB, tD, tDK, tCons, tNil, rI, rI0, rU, tB, tTest, tCallS, tErr, tAnd, tOr, tNot, tAndV, tOrV, tNotV, tIf, rEq, rNe, scal_ii, scal_bb, scal_ss, rGcd_eq, tBits, List.set_cons_zero, List.set_cons_succ, List.getElem?_cons_zero, List.getElem?_cons_succ, Option.some.injEq, exists_eq_left', V.int.injEq, V.bl.injEq, V.str.injEq, true_and, and_true, decide_eq_true_eq, List.cons.injEq, exists_eq_left, Bool.false_eq_true, if_false, if_true, ite_true, ite_false, Bool.not_eq_true', decide_eq_false_iff_not, Bool.not_not]
      refine ⟨sml (by decide), fun b1 m1 => ⟨sml (by decide), fun b2 m2 => ⟨sml (by decide), fun b3 m3 => ?_⟩⟩⟩
      have u1 := Same.upd (o := .tup [V.int 14041, V.int 2476]) m1
      have u2 := Same.upd (o := .tup [V.int 16273, V.int 2002]) m2
      have u3 := Same.upd (o := .lst [V.ref b1, V.ref b2]) m3
      have eb1 : upd (upd (upd H20 b1 (.tup [V.int 14041, V.int 2476])) b2 (.tup [V.int 16273, V.int 2002])) b3 (.lst [V.ref b1, V.ref b2]) b1 = some (.tup [V.int 14041, V.int 2476]) := u3 _ _ (u2 _ _ upd_same)
      have eb2 : upd (upd (upd H20 b1 (.tup [V.int 14041, V.int 2476])) b2 (.tup [V.int 16273, V.int 2002])) b3 (.lst [V.ref b1, V.ref b2]) b2 = some (.tup [V.int 16273, V.int 2002]) := u3 _ _ upd_same
      have eb3 : upd (upd (upd H20 b1 (.tup [V.int 14041, V.int 2476])) b2 (.tup [V.int 16273, V.int 2002])) b3 (.lst [V.ref b1, V.ref b2]) b3 = some (.lst [V.ref b1, V.ref b2]) := upd_same
      have G21 := ((G20.same u1).same u2).same u3
      generalize upd (upd (upd H20 b1 (.tup [V.int 14041, V.int 2476])) b2 (.tup [V.int 16273, V.int 2002])) b3 (.lst [V.ref b1, V.ref b2]) = H21 at *
      refine ⟨g, 2, _, rfl, G21, by omega, by decide, by decide, fun r2 H22 r20 r21 G22 K22 => ?_⟩
      obtain ⟨b, gr, mn, hb, ebx, hgM, hgD, hgl, hgm⟩ : ∃ (b : Addr) (gr mn : Int), atI [V.ref b1, V.ref b2] r2 = some (.ref b) ∧ H21 b = some (.tup [V.int gr, V.int mn]) ∧ Meas gr ∧ gr < 100000 ∧ ((cutsL gr).length : Int) = mn ∧ 2000 < mn ∧ mn < 2 ^ 90 := by
        rcases (show r2 = 0 ∨ r2 = 1 by omega) with rfl | rfl
        · exact ⟨b1, 14041, 2476, rfl, eb1, ⟨by decide, by decide⟩, by decide, by rw [len_14041]; rfl, by decide⟩
        · exact ⟨b2, 16273, 2002, rfl, eb2, ⟨by decide, by decide⟩, by decide, len_16273, by decide⟩
      have hb3g : b3 ≠ g := fun e => by
        obtain ⟨_, _, _, e2, _⟩ := G21
        rw [← e, eb3] at e2
        cases e2
      refine ⟨_, r2, rfl, K22 _ _ hb3g eb3, _, hb, b, rfl, _, K22 _ _ (G21.ne ebx) ebx, rfl, _, _, rfl, _, _, rfl, rfl, ?_⟩
      refine Eq.mpr (hD1 _ _) ?_
      refine seq_gen fun D2 hD2 => ?_
      simp only [cxK, wipe, tYes, List.map_cons, List.map_nil, rIxL, rSum, tSl, rSlL, tNoPart, tPart, exists_and_left, and_assoc, V.ref.injEq, HO.lst.injEq, HO.tup.injEq, tFor_eq, iRng1, iRng2, iList, iTup, tLc_eq, tLst, tTup, gSub, rSetL, gT, gL, gTup, gCons, gNil, atI_0, atI_1, atI_2, atI_3, List.length_cons, List.length_nil, Nat.zero_add, Nat.reduceAdd, Nat.reduceLeDiff, ixN_30, ixN_31, ixN_32, Int.reduceLT, Int.reduceLE, Int.reduceNeg, upd_same, reduceCtorEq, false_and, exists_false, or_false, false_or, tNext, tIfS, tRet, tRetN, tDrop, tAsg, gName, tPar, tPar3, tAug, ipI, tVar, tC, tOp, tUn, tCB, tD, tDK, tCons, tNil, rI, rI0, rU, tB, tTest, tCallS, tErr, tAnd, tOr, tNot, tAndV, tOrV, tNotV, tIf, rEq, rNe, scal_ii, scal_bb, scal_ss, rGcd_eq, tBits, List.set_cons_zero, List.set_cons_succ, List.getElem?_cons_zero, List.getElem?_cons_succ, Option.some.injEq, exists_eq_left', V.int.injEq, V.bl.injEq, V.str.injEq, true_and, and_true, decide_eq_true_eq, List.cons.injEq, exists_eq_left, Bool.false_eq_true, if_false, if_true, ite_true, ite_false, Bool.not_eq_true', decide_eq_false_iff_not, Bool.not_not]
      have hg5 := hgM.1
      refine ⟨4, .int gr, .non, .err C_TooMany (.int ((cutsL gr).length : Nat)), _, rfl, .many hgM hgD (by omega), (iN (by omega)).w .non, fun p1 L1 H23 np1 nL1 hpL1 s23 ep1 eL1 => ?_⟩
      rw [kind_at NE (j := 3) rfl] at eL1
      have ep1' : H23 p1 = some (.tup [.ref L1, .int mn]) := by rw [← hgl]; exact ep1
      refine ⟨p1, L1, 3, .int mn, _, rfl, ep1', by decide, eL1, (iN (by omega)).dq, fun H'' s6 => (iN (by omega)).dq, fun H24 s24 => ⟨true, rfl, ?_⟩⟩
      rw [if_neg (by decide)]
      refine ⟨gr, rfl, hgM, hgD, fun H25 s25 => ?_⟩
      rw [es_len (by omega), hgl]
      refine ⟨rfl, ?_⟩
      rw [if_neg (fun h => h rfl)]
      refine Eq.mpr (hD2 _ _) ?_
      simp only [cxK, wipe, tYes, List.map_cons, List.map_nil, rIxL, rSum, tSl, rSlL, tNoPart, tPart, exists_and_left, and_assoc, V.ref.injEq, HO.lst.injEq, HO.tup.injEq, tFor_eq, iRng1, iRng2, iList, iTup, tLc_eq, tLst, tTup, gSub, rSetL, gT, gL, gTup, gCons, gNil, atI_0, atI_1, atI_2, atI_3, List.length_cons, List.length_nil, Nat.zero_add, Nat.reduceAdd, Nat.reduceLeDiff, ixN_30, ixN_31, ixN_32, Int.reduceLT, Int.reduceLE, Int.reduceNeg, upd_same, reduceCtorEq, false_and, exists_false, or_false, false_or, tSeq, tNext, tIfS, tRet, tRetN, tDrop, tAsg, gName, tPar, tPar3, tAug, ipI, tVar, tC, tOp, tUn, tCB, tD, tDK, tCons, tNil, rI, rI0, rU, tB, tTest, tCallS, tErr, tAnd, tOr, tNot, tAndV, tOrV, tNotV, tIf, rEq, rNe, scal_ii, scal_bb, scal_ss, rGcd_eq, tBits, List.set_cons_zero, List.set_cons_succ, List.getElem?_cons_zero, List.getElem?_cons_succ, Option.some.injEq, exists_eq_left', V.int.injEq, V.bl.injEq, V.str.injEq, true_and, and_true, decide_eq_true_eq, List.cons.injEq, exists_eq_left, Bool.false_eq_true, if_false, if_true, ite_true, ite_false, Bool.not_eq_true', decide_eq_false_iff_not, Bool.not_not]
      have h2000 : (cutsL 16041).length = 2000 := by have := len_16041; omega
      refine ⟨16041, rfl, ⟨by decide, by decide⟩, by decide, by omega, fun p3 l3 H26 n3 s26 e3 hQ3 => ⟨p3, rfl, _, e3, ?_⟩⟩
      rw [List.length_map, hQ3.len, srtQ_len, h2000, if_neg (fun h => h rfl)]
      refine ⟨16041, rfl, ⟨by decide, by decide⟩, by decide, fun H27 s27 => ?_⟩
      rw [es_len (by decide), h2000]
      refine ⟨rfl, ?_⟩
      rw [if_neg (fun h => h rfl)]
      exact rest _ _ _
    · refine ⟨rfl, ?_⟩
      rw [if_neg hr]
      exact rest _ _ _

end
theorem all_mk {l : PySem.W.OpenLaw} {w : World} {K : PySem.W.Frag} {h : Heap} {mg : Str → Option Value} {fa : Addr} (X : K.In h) (G : h.Ns mainGlobals mg) (hfa : mg "law" = some (.ref fa))
    {od0 an0 : Option Addr} {sl0 : Array (Option Value)} {oc0 kV0 dc0 pm0 cd0 ct0 : Value} {f0 : Addr} (a0 : PySem.W.nsIn K mainGlobals "is_whole" = some (some (.ref f0))) (l0 : K.lookup f0 = some ⟨oc0, od0, .func (PySem.W.fnOf "is_whole" "is_whole" (defArgs s_IsWhole) (defBody s_IsWhole) (defScope s_IsWhole) .none kV0 dc0 pm0 an0 cd0 ct0), sl0⟩) (c0 : PySem.W.codeIn K cd0 "is_whole" = true) (k0 : PySem.W.keepIn K (.ref f0) = true)
    {od1 an1 : Option Addr} {sl1 : Array (Option Value)} {oc1 kV1 dc1 pm1 cd1 ct1 : Value} {f1 : Addr} (a1 : PySem.W.nsIn K mainGlobals "_lasts" = some (some (.ref f1))) (l1 : K.lookup f1 = some ⟨oc1, od1, .func (PySem.W.fnOf "_lasts" "_lasts" (defArgs s_Lasts) (defBody s_Lasts) (defScope s_Lasts) .none kV1 dc1 pm1 an1 cd1 ct1), sl1⟩) (c1 : PySem.W.codeIn K cd1 "_lasts" = true) (k1 : PySem.W.keepIn K (.ref f1) = true)
    {od2 an2 : Option Addr} {sl2 : Array (Option Value)} {oc2 kV2 dc2 pm2 cd2 ct2 : Value} {f2 : Addr} (a2 : PySem.W.nsIn K mainGlobals "_middles" = some (some (.ref f2))) (l2 : K.lookup f2 = some ⟨oc2, od2, .func (PySem.W.fnOf "_middles" "_middles" (defArgs s_Middles) (defBody s_Middles) (defScope s_Middles) .none kV2 dc2 pm2 an2 cd2 ct2), sl2⟩) (c2 : PySem.W.codeIn K cd2 "_middles" = true) (k2 : PySem.W.keepIn K (.ref f2) = true)
    {od3 an3 : Option Addr} {sl3 : Array (Option Value)} {oc3 kV3 dc3 pm3 cd3 ct3 : Value} {f3 : Addr} (a3 : PySem.W.nsIn K mainGlobals "_are_without_divisor" = some (some (.ref f3))) (l3 : K.lookup f3 = some ⟨oc3, od3, .func (PySem.W.fnOf "_are_without_divisor" "_are_without_divisor" (defArgs s_AreWithoutDivisor) (defBody s_AreWithoutDivisor) (defScope s_AreWithoutDivisor) .none kV3 dc3 pm3 an3 cd3 ct3), sl3⟩) (c3 : PySem.W.codeIn K cd3 "_are_without_divisor" = true) (k3 : PySem.W.keepIn K (.ref f3) = true)
    {od4 an4 : Option Addr} {sl4 : Array (Option Value)} {oc4 kV4 dc4 pm4 cd4 ct4 : Value} {f4 : Addr} (a4 : PySem.W.nsIn K mainGlobals "_law_hash" = some (some (.ref f4))) (l4 : K.lookup f4 = some ⟨oc4, od4, .func (PySem.W.fnOf "_law_hash" "_law_hash" (defArgs s_LawHash) (defBody s_LawHash) (defScope s_LawHash) .none kV4 dc4 pm4 an4 cd4 ct4), sl4⟩) (c4 : PySem.W.codeIn K cd4 "_law_hash" = true) (k4 : PySem.W.keepIn K (.ref f4) = true)
    {od5 an5 : Option Addr} {sl5 : Array (Option Value)} {oc5 kV5 dc5 pm5 cd5 ct5 : Value} {f5 : Addr} (a5 : PySem.W.nsIn K mainGlobals "_law_cell" = some (some (.ref f5))) (l5 : K.lookup f5 = some ⟨oc5, od5, .func (PySem.W.fnOf "_law_cell" "_law_cell" (defArgs s_LawCell) (defBody s_LawCell) (defScope s_LawCell) .none kV5 dc5 pm5 an5 cd5 ct5), sl5⟩) (c5 : PySem.W.codeIn K cd5 "_law_cell" = true) (k5 : PySem.W.keepIn K (.ref f5) = true)
    {od6 an6 : Option Addr} {sl6 : Array (Option Value)} {oc6 kV6 dc6 pm6 cd6 ct6 : Value} {f6 : Addr} (a6 : PySem.W.nsIn K mainGlobals "_law_common" = some (some (.ref f6))) (l6 : K.lookup f6 = some ⟨oc6, od6, .func (PySem.W.fnOf "_law_common" "_law_common" (defArgs s_LawCommon) (defBody s_LawCommon) (defScope s_LawCommon) .none kV6 dc6 pm6 an6 cd6 ct6), sl6⟩) (c6 : PySem.W.codeIn K cd6 "_law_common" = true) (k6 : PySem.W.keepIn K (.ref f6) = true)
    {od7 an7 : Option Addr} {sl7 : Array (Option Value)} {oc7 kV7 dc7 pm7 cd7 ct7 : Value} {f7 : Addr} (a7 : PySem.W.nsIn K mainGlobals "_law_measure" = some (some (.ref f7))) (l7 : K.lookup f7 = some ⟨oc7, od7, .func (PySem.W.fnOf "_law_measure" "_law_measure" (defArgs s_LawMeasure) (defBody s_LawMeasure) (defScope s_LawMeasure) .none kV7 dc7 pm7 an7 cd7 ct7), sl7⟩) (c7 : PySem.W.codeIn K cd7 "_law_measure" = true) (k7 : PySem.W.keepIn K (.ref f7) = true)
    {od8 an8 : Option Addr} {sl8 : Array (Option Value)} {oc8 kV8 dc8 pm8 cd8 ct8 : Value} {f8 : Addr} (a8 : PySem.W.nsIn K mainGlobals "_law_turns" = some (some (.ref f8))) (l8 : K.lookup f8 = some ⟨oc8, od8, .func (PySem.W.fnOf "_law_turns" "_law_turns" (defArgs s_LawTurns) (defBody s_LawTurns) (defScope s_LawTurns) .none kV8 dc8 pm8 an8 cd8 ct8), sl8⟩) (c8 : PySem.W.codeIn K cd8 "_law_turns" = true) (k8 : PySem.W.keepIn K (.ref f8) = true)
    {od9 an9 : Option Addr} {sl9 : Array (Option Value)} {oc9 kV9 dc9 pm9 cd9 ct9 : Value} {f9 : Addr} (a9 : PySem.W.nsIn K mainGlobals "_law_only" = some (some (.ref f9))) (l9 : K.lookup f9 = some ⟨oc9, od9, .func (PySem.W.fnOf "_law_only" "_law_only" (defArgs s_LawOnly) (defBody s_LawOnly) (defScope s_LawOnly) .none kV9 dc9 pm9 an9 cd9 ct9), sl9⟩) (c9 : PySem.W.codeIn K cd9 "_law_only" = true) (k9 : PySem.W.keepIn K (.ref f9) = true)
    {od10 an10 : Option Addr} {sl10 : Array (Option Value)} {oc10 kV10 dc10 pm10 cd10 ct10 : Value} {f10 : Addr} (a10 : PySem.W.nsIn K mainGlobals "are_wholes" = some (some (.ref f10))) (l10 : K.lookup f10 = some ⟨oc10, od10, .func (PySem.W.fnOf "are_wholes" "are_wholes" (defArgs s_AreWholes) (defBody s_AreWholes) (defScope s_AreWholes) .none kV10 dc10 pm10 an10 cd10 ct10), sl10⟩) (c10 : PySem.W.codeIn K cd10 "are_wholes" = true) (k10 : PySem.W.keepIn K (.ref f10) = true)
    {od11 an11 : Option Addr} {sl11 : Array (Option Value)} {oc11 kV11 dc11 pm11 cd11 ct11 : Value} {f11 : Addr} (a11 : PySem.W.nsIn K mainGlobals "is_measure" = some (some (.ref f11))) (l11 : K.lookup f11 = some ⟨oc11, od11, .func (PySem.W.fnOf "is_measure" "is_measure" (defArgs s_IsMeasure) (defBody s_IsMeasure) (defScope s_IsMeasure) .none kV11 dc11 pm11 an11 cd11 ct11), sl11⟩) (c11 : PySem.W.codeIn K cd11 "is_measure" = true) (k11 : PySem.W.keepIn K (.ref f11) = true)
    {od12 an12 : Option Addr} {sl12 : Array (Option Value)} {oc12 kV12 dc12 pm12 cd12 ct12 : Value} {f12 : Addr} (a12 : PySem.W.nsIn K mainGlobals "_firsts" = some (some (.ref f12))) (l12 : K.lookup f12 = some ⟨oc12, od12, .func (PySem.W.fnOf "_firsts" "_firsts" (defArgs s_Firsts) (defBody s_Firsts) (defScope s_Firsts) .none kV12 dc12 pm12 an12 cd12 ct12), sl12⟩) (c12 : PySem.W.codeIn K cd12 "_firsts" = true) (k12 : PySem.W.keepIn K (.ref f12) = true)
    {od13 an13 : Option Addr} {sl13 : Array (Option Value)} {oc13 kV13 dc13 pm13 cd13 ct13 : Value} {f13 : Addr} (a13 : PySem.W.nsIn K mainGlobals "_law_random" = some (some (.ref f13))) (l13 : K.lookup f13 = some ⟨oc13, od13, .func (PySem.W.fnOf "_law_random" "_law_random" (defArgs s_LawRandom) (defBody s_LawRandom) (defScope s_LawRandom) .none kV13 dc13 pm13 an13 cd13 ct13), sl13⟩) (c13 : PySem.W.codeIn K cd13 "_law_random" = true) (k13 : PySem.W.keepIn K (.ref f13) = true)
    {od14 an14 : Option Addr} {sl14 : Array (Option Value)} {oc14 kV14 dc14 pm14 cd14 ct14 : Value} {f14 : Addr} (a14 : PySem.W.nsIn K mainGlobals "_law_generator" = some (some (.ref f14))) (l14 : K.lookup f14 = some ⟨oc14, od14, .func (PySem.W.fnOf "_law_generator" "_law_generator" (defArgs s_LawGenerator) (defBody s_LawGenerator) (defScope s_LawGenerator) .none kV14 dc14 pm14 an14 cd14 ct14), sl14⟩) (c14 : PySem.W.codeIn K cd14 "_law_generator" = true) (k14 : PySem.W.keepIn K (.ref f14) = true)
    {od15 an15 : Option Addr} {sl15 : Array (Option Value)} {oc15 kV15 dc15 pm15 cd15 ct15 : Value} {f15 : Addr} (a15 : PySem.W.nsIn K mainGlobals "_law_is_cutting" = some (some (.ref f15))) (l15 : K.lookup f15 = some ⟨oc15, od15, .func (PySem.W.fnOf "_law_is_cutting" "_law_is_cutting" (defArgs s_LawIsCutting) (defBody s_LawIsCutting) (defScope s_LawIsCutting) .none kV15 dc15 pm15 an15 cd15 ct15), sl15⟩) (c15 : PySem.W.codeIn K cd15 "_law_is_cutting" = true) (k15 : PySem.W.keepIn K (.ref f15) = true)
    {od16 an16 : Option Addr} {sl16 : Array (Option Value)} {oc16 kV16 dc16 pm16 cd16 ct16 : Value} {f16 : Addr} (a16 : PySem.W.nsIn K mainGlobals "check_measure" = some (some (.ref f16))) (l16 : K.lookup f16 = some ⟨oc16, od16, .func (PySem.W.fnOf "check_measure" "check_measure" (defArgs s_CheckMeasure) (defBody s_CheckMeasure) (defScope s_CheckMeasure) .none kV16 dc16 pm16 an16 cd16 ct16), sl16⟩) (c16 : PySem.W.codeIn K cd16 "check_measure" = true) (k16 : PySem.W.keepIn K (.ref f16) = true)
    {od17 an17 : Option Addr} {sl17 : Array (Option Value)} {oc17 kV17 dc17 pm17 cd17 ct17 : Value} {f17 : Addr} (a17 : PySem.W.nsIn K mainGlobals "is_cutting" = some (some (.ref f17))) (l17 : K.lookup f17 = some ⟨oc17, od17, .func (PySem.W.fnOf "is_cutting" "is_cutting" (defArgs s_IsCutting) (defBody s_IsCutting) (defScope s_IsCutting) .none kV17 dc17 pm17 an17 cd17 ct17), sl17⟩) (c17 : PySem.W.codeIn K cd17 "is_cutting" = true) (k17 : PySem.W.keepIn K (.ref f17) = true)
    {od18 an18 : Option Addr} {sl18 : Array (Option Value)} {oc18 kV18 dc18 pm18 cd18 ct18 : Value} {f18 : Addr} (a18 : PySem.W.nsIn K mainGlobals "_gathered" = some (some (.ref f18))) (l18 : K.lookup f18 = some ⟨oc18, od18, .func (PySem.W.fnOf "_gathered" "_gathered" (defArgs s_Gathered) (defBody s_Gathered) (defScope s_Gathered) .none kV18 dc18 pm18 an18 cd18 ct18), sl18⟩) (c18 : PySem.W.codeIn K cd18 "_gathered" = true) (k18 : PySem.W.keepIn K (.ref f18) = true)
    {od19 an19 : Option Addr} {sl19 : Array (Option Value)} {oc19 kV19 dc19 pm19 cd19 ct19 : Value} {f19 : Addr} (a19 : PySem.W.nsIn K mainGlobals "_how_many_with" = some (some (.ref f19))) (l19 : K.lookup f19 = some ⟨oc19, od19, .func (PySem.W.fnOf "_how_many_with" "_how_many_with" (defArgs s_HowManyWith) (defBody s_HowManyWith) (defScope s_HowManyWith) .none kV19 dc19 pm19 an19 cd19 ct19), sl19⟩) (c19 : PySem.W.codeIn K cd19 "_how_many_with" = true) (k19 : PySem.W.keepIn K (.ref f19) = true)
    {od20 an20 : Option Addr} {sl20 : Array (Option Value)} {oc20 kV20 dc20 pm20 cd20 ct20 : Value} {f20 : Addr} (a20 : PySem.W.nsIn K mainGlobals "_law_with" = some (some (.ref f20))) (l20 : K.lookup f20 = some ⟨oc20, od20, .func (PySem.W.fnOf "_law_with" "_law_with" (defArgs s_LawWith) (defBody s_LawWith) (defScope s_LawWith) .none kV20 dc20 pm20 an20 cd20 ct20), sl20⟩) (c20 : PySem.W.codeIn K cd20 "_law_with" = true) (k20 : PySem.W.keepIn K (.ref f20) = true)
    {od21 an21 : Option Addr} {sl21 : Array (Option Value)} {oc21 kV21 dc21 pm21 cd21 ct21 : Value} {f21 : Addr} (a21 : PySem.W.nsIn K mainGlobals "_law_drawn_measure" = some (some (.ref f21))) (l21 : K.lookup f21 = some ⟨oc21, od21, .func (PySem.W.fnOf "_law_drawn_measure" "_law_drawn_measure" (defArgs s_LawDrawnMeasure) (defBody s_LawDrawnMeasure) (defScope s_LawDrawnMeasure) .none kV21 dc21 pm21 an21 cd21 ct21), sl21⟩) (c21 : PySem.W.codeIn K cd21 "_law_drawn_measure" = true) (k21 : PySem.W.keepIn K (.ref f21) = true)
    {od22 an22 : Option Addr} {sl22 : Array (Option Value)} {oc22 kV22 dc22 pm22 cd22 ct22 : Value} {f22 : Addr} (a22 : PySem.W.nsIn K mainGlobals "check_cutting" = some (some (.ref f22))) (l22 : K.lookup f22 = some ⟨oc22, od22, .func (PySem.W.fnOf "check_cutting" "check_cutting" (defArgs s_CheckCutting) (defBody s_CheckCutting) (defScope s_CheckCutting) .none kV22 dc22 pm22 an22 cd22 ct22), sl22⟩) (c22 : PySem.W.codeIn K cd22 "check_cutting" = true) (k22 : PySem.W.keepIn K (.ref f22) = true)
    {od23 an23 : Option Addr} {sl23 : Array (Option Value)} {oc23 kV23 dc23 pm23 cd23 ct23 : Value} {f23 : Addr} (a23 : PySem.W.nsIn K mainGlobals "how_many_cuttings" = some (some (.ref f23))) (l23 : K.lookup f23 = some ⟨oc23, od23, .func (PySem.W.fnOf "how_many_cuttings" "how_many_cuttings" (defArgs s_HowManyCuttings) (defBody s_HowManyCuttings) (defScope s_HowManyCuttings) .none kV23 dc23 pm23 an23 cd23 ct23), sl23⟩) (c23 : PySem.W.codeIn K cd23 "how_many_cuttings" = true) (k23 : PySem.W.keepIn K (.ref f23) = true)
    {od24 an24 : Option Addr} {sl24 : Array (Option Value)} {oc24 kV24 dc24 pm24 cd24 ct24 : Value} {f24 : Addr} (a24 : PySem.W.nsIn K mainGlobals "all_cuttings" = some (some (.ref f24))) (l24 : K.lookup f24 = some ⟨oc24, od24, .func (PySem.W.fnOf "all_cuttings" "all_cuttings" (defArgs s_AllCuttings) (defBody s_AllCuttings) (defScope s_AllCuttings) .none kV24 dc24 pm24 an24 cd24 ct24), sl24⟩) (c24 : PySem.W.codeIn K cd24 "all_cuttings" = true) (k24 : PySem.W.keepIn K (.ref f24) = true)
    {od25 an25 : Option Addr} {sl25 : Array (Option Value)} {oc25 kV25 dc25 pm25 cd25 ct25 : Value} {f25 : Addr} (a25 : PySem.W.nsIn K mainGlobals "how_many_with_last" = some (some (.ref f25))) (l25 : K.lookup f25 = some ⟨oc25, od25, .func (PySem.W.fnOf "how_many_with_last" "how_many_with_last" (defArgs s_HowManyWithLast) (defBody s_HowManyWithLast) (defScope s_HowManyWithLast) .none kV25 dc25 pm25 an25 cd25 ct25), sl25⟩) (c25 : PySem.W.codeIn K cd25 "how_many_with_last" = true) (k25 : PySem.W.keepIn K (.ref f25) = true)
    {od26 an26 : Option Addr} {sl26 : Array (Option Value)} {oc26 kV26 dc26 pm26 cd26 ct26 : Value} {f26 : Addr} (a26 : PySem.W.nsIn K mainGlobals "_law_all" = some (some (.ref f26))) (l26 : K.lookup f26 = some ⟨oc26, od26, .func (PySem.W.fnOf "_law_all" "_law_all" (defArgs s_LawAll) (defBody s_LawAll) (defScope s_LawAll) .none kV26 dc26 pm26 an26 cd26 ct26), sl26⟩) (c26 : PySem.W.codeIn K cd26 "_law_all" = true) (k26 : PySem.W.keepIn K (.ref f26) = true)
    {od27 an27 : Option Addr} {sl27 : Array (Option Value)} {oc27 kV27 dc27 pm27 cd27 ct27 : Value} {f27 : Addr} (a27 : PySem.W.nsIn K mainGlobals "measure_of" = some (some (.ref f27))) (l27 : K.lookup f27 = some ⟨oc27, od27, .func (PySem.W.fnOf "measure_of" "measure_of" (defArgs s_MeasureOf) (defBody s_MeasureOf) (defScope s_MeasureOf) .none kV27 dc27 pm27 an27 cd27 ct27), sl27⟩) (c27 : PySem.W.codeIn K cd27 "measure_of" = true) (k27 : PySem.W.keepIn K (.ref f27) = true)
    {od28 an28 : Option Addr} {sl28 : Array (Option Value)} {oc28 kV28 dc28 pm28 cd28 ct28 : Value} {f28 : Addr} (a28 : PySem.W.nsIn K mainGlobals "cuttings" = some (some (.ref f28))) (l28 : K.lookup f28 = some ⟨oc28, od28, .func (PySem.W.fnOf "cuttings" "cuttings" (defArgs s_Cuttings) (defBody s_Cuttings) (defScope s_Cuttings) .none kV28 dc28 pm28 an28 cd28 ct28), sl28⟩) (c28 : PySem.W.codeIn K cd28 "cuttings" = true) (k28 : PySem.W.keepIn K (.ref f28) = true)
    {od29 an29 : Option Addr} {sl29 : Array (Option Value)} {oc29 kV29 dc29 pm29 cd29 ct29 : Value} {f29 : Addr} (a29 : PySem.W.nsIn K mainGlobals "cutting_numbered" = some (some (.ref f29))) (l29 : K.lookup f29 = some ⟨oc29, od29, .func (PySem.W.fnOf "cutting_numbered" "cutting_numbered" (defArgs s_CuttingNumbered) (defBody s_CuttingNumbered) (defScope s_CuttingNumbered) .none kV29 dc29 pm29 an29 cd29 ct29), sl29⟩) (c29 : PySem.W.codeIn K cd29 "cutting_numbered" = true) (k29 : PySem.W.keepIn K (.ref f29) = true)
    {od30 an30 : Option Addr} {sl30 : Array (Option Value)} {oc30 kV30 dc30 pm30 cd30 ct30 : Value} {f30 : Addr} (a30 : PySem.W.nsIn K mainGlobals "cutting_number" = some (some (.ref f30))) (l30 : K.lookup f30 = some ⟨oc30, od30, .func (PySem.W.fnOf "cutting_number" "cutting_number" (defArgs s_CuttingNumber) (defBody s_CuttingNumber) (defScope s_CuttingNumber) .none kV30 dc30 pm30 an30 cd30 ct30), sl30⟩) (c30 : PySem.W.codeIn K cd30 "cutting_number" = true) (k30 : PySem.W.keepIn K (.ref f30) = true)
    {od31 an31 : Option Addr} {sl31 : Array (Option Value)} {oc31 kV31 dc31 pm31 cd31 ct31 : Value} {f31 : Addr} (a31 : PySem.W.nsIn K mainGlobals "next_cutting" = some (some (.ref f31))) (l31 : K.lookup f31 = some ⟨oc31, od31, .func (PySem.W.fnOf "next_cutting" "next_cutting" (defArgs s_NextCutting) (defBody s_NextCutting) (defScope s_NextCutting) .none kV31 dc31 pm31 an31 cd31 ct31), sl31⟩) (c31 : PySem.W.codeIn K cd31 "next_cutting" = true) (k31 : PySem.W.keepIn K (.ref f31) = true)
    {od32 an32 : Option Addr} {sl32 : Array (Option Value)} {oc32 kV32 dc32 pm32 cd32 ct32 : Value} {f32 : Addr} (a32 : PySem.W.nsIn K mainGlobals "_law_asked" = some (some (.ref f32))) (l32 : K.lookup f32 = some ⟨oc32, od32, .func (PySem.W.fnOf "_law_asked" "_law_asked" (defArgs s_LawAsked) (defBody s_LawAsked) (defScope s_LawAsked) .none kV32 dc32 pm32 an32 cd32 ct32), sl32⟩) (c32 : PySem.W.codeIn K cd32 "_law_asked" = true) (k32 : PySem.W.keepIn K (.ref f32) = true)
    {od33 an33 : Option Addr} {sl33 : Array (Option Value)} {oc33 kV33 dc33 pm33 cd33 ct33 : Value} {f33 : Addr} (a33 : PySem.W.nsIn K mainGlobals "_law_caught" = some (some (.ref f33))) (l33 : K.lookup f33 = some ⟨oc33, od33, .func (PySem.W.fnOf "_law_caught" "_law_caught" (defArgs s_LawCaught) (defBody s_LawCaught) (defScope s_LawCaught) .none kV33 dc33 pm33 an33 cd33 ct33), sl33⟩) (c33 : PySem.W.codeIn K cd33 "_law_caught" = true) (k33 : PySem.W.keepIn K (.ref f33) = true)
    {od34 an34 : Option Addr} {sl34 : Array (Option Value)} {oc34 kV34 dc34 pm34 cd34 ct34 : Value} {f34 : Addr} (a34 : PySem.W.nsIn K mainGlobals "law" = some (some (.ref f34))) (l34 : K.lookup f34 = some ⟨oc34, od34, .func (PySem.W.fnOf "law" "law" (defArgs s_Law) (defBody s_Law) (defScope s_Law) .none kV34 dc34 pm34 an34 cd34 ct34), sl34⟩) (c34 : PySem.W.codeIn K cd34 "law" = true) (k34 : PySem.W.keepIn K (.ref f34) = true) (z_abs : PySem.W.nsIn K mainGlobals "abs" = some none) (z_all : PySem.W.nsIn K mainGlobals "all" = some none) (z_bool : PySem.W.nsIn K mainGlobals "bool" = some none) (z_int : PySem.W.nsIn K mainGlobals "int" = some none) (z_isinstance : PySem.W.nsIn K mainGlobals "isinstance" = some none) (z_len : PySem.W.nsIn K mainGlobals "len" = some none) (z_list : PySem.W.nsIn K mainGlobals "list" = some none) (z_max : PySem.W.nsIn K mainGlobals "max" = some none) (z_min : PySem.W.nsIn K mainGlobals "min" = some none) (z_range : PySem.W.nsIn K mainGlobals "range" = some none) (z_repr : PySem.W.nsIn K mainGlobals "repr" = some none) (z_sorted : PySem.W.nsIn K mainGlobals "sorted" = some none) (z_sum : PySem.W.nsIn K mainGlobals "sum" = some none) (z_tuple : PySem.W.nsIn K mainGlobals "tuple" = some none) (z_gcd : PySem.W.nsIn K mainGlobals "gcd" = some (some (.builtin "math.gcd"))) (z_isqrt : PySem.W.nsIn K mainGlobals "isqrt" = some (some (.builtin "math.isqrt"))) {tok_MOST_TOLD : Tok} (z_MOST_TOLD : PySem.W.nsIn K mainGlobals "MOST_TOLD" = some (some (.int 2000 tok_MOST_TOLD)))
    {C_SheetError : Addr} (aC_SheetError : PySem.W.nsIn K mainGlobals "SheetError" = some (some (.ref C_SheetError))) (xS_SheetError : PySem.W.excIn K C_SheetError [.type "ValueError", .type "Exception", .type "BaseException", .type "object"] "ValueError.__new__" = true) (hn_g : PySem.W.specialIn K (.builtin "object.__class__") "__get__" = some (some (.builtin "getset_descriptor.__get__"))) (ht_g : PySem.W.takesIn K (.builtin "object.__class__") = some true) (ga_SheetError : PySem.W.findIn K (.ref C_SheetError) "__getattribute__" = some (some (.builtin "BaseException.__getattribute__"))) (gg_SheetError : PySem.W.findIn K (.ref C_SheetError) "__getattr__" = some none) (hc_SheetError : PySem.W.findIn K (.ref C_SheetError) "__class__" = some (some (.builtin "object.__class__"))) (kC_SheetError : PySem.W.keepIn K (.ref C_SheetError) = true) (eC_SheetError : PySem.W.subIn K (.ref C_SheetError) (.type "BaseException") = some true) (tC_SheetError : PySem.W.typeIn K (.ref C_SheetError) = some (.type "type")) (hD_SheetError : PySem.W.hasDictIn K C_SheetError = true) (iS_SheetError : PySem.W.isClsIn K C_SheetError = true) (mo_SheetError : PySem.W.mroIn K C_SheetError (.type "object") = some true) (sv_SheetError : PySem.W.subIn K (.ref C_SheetError) (.type "ValueError") = some true)
    {C_InvalidCutting f_InvalidCutting t_InvalidCutting N_InvalidCutting : Addr} {nm_InvalidCutting q_InvalidCutting : Str} {bs_InvalidCutting sub_InvalidCutting : List Value} {sn_InvalidCutting : List Str} {ab_InvalidCutting : Bool} {col_InvalidCutting : Option Bool} {dd_InvalidCutting od_InvalidCutting an_InvalidCutting tod_InvalidCutting : Option Addr} {m0_InvalidCutting m1_InvalidCutting m2_InvalidCutting m3_InvalidCutting m5_InvalidCutting : Option Value} {sl_InvalidCutting tsl_InvalidCutting : Array (Option Value)} {oc_InvalidCutting kV_InvalidCutting dc_InvalidCutting pm_InvalidCutting cd_InvalidCutting ct_InvalidCutting toc_InvalidCutting : Value} {tn_InvalidCutting : Nat} (aC_InvalidCutting : PySem.W.nsIn K mainGlobals "InvalidCutting" = some (some (.ref C_InvalidCutting))) (xL_InvalidCutting : K.lookup C_InvalidCutting = some (PySem.excClassObj nm_InvalidCutting q_InvalidCutting C_InvalidCutting N_InvalidCutting bs_InvalidCutting [.ref C_SheetError, .type "ValueError", .type "Exception", .type "BaseException", .type "object"] true sn_InvalidCutting sub_InvalidCutting ab_InvalidCutting col_InvalidCutting dd_InvalidCutting m0_InvalidCutting m1_InvalidCutting m2_InvalidCutting m3_InvalidCutting m5_InvalidCutting "ValueError.__new__")) (sa_InvalidCutting : PySem.W.findIn K (.ref C_InvalidCutting) "__setattr__" = some (some (.builtin "object.__setattr__"))) (nv_InvalidCutting : PySem.W.findIn K (.ref C_InvalidCutting) "value" = some none) (iC_InvalidCutting : PySem.W.findIn K (.ref C_InvalidCutting) "__init__" = some (some (.ref f_InvalidCutting))) (tI_InvalidCutting : PySem.W.typeIn K (.ref f_InvalidCutting) = some (.type "function")) (l_InvalidCutting : K.lookup f_InvalidCutting = some ⟨oc_InvalidCutting, od_InvalidCutting, .func (PySem.W.fnOf "__init__" "InvalidCutting.__init__" (defArgs s_iInvalidCutting) (defBody s_iInvalidCutting) (defScope s_iInvalidCutting) (.ref t_InvalidCutting) kV_InvalidCutting dc_InvalidCutting pm_InvalidCutting an_InvalidCutting cd_InvalidCutting ct_InvalidCutting), sl_InvalidCutting⟩) (c_InvalidCutting : PySem.W.codeIn K cd_InvalidCutting "InvalidCutting.__init__" = true) (kf_InvalidCutting : PySem.W.keepIn K (.ref f_InvalidCutting) = true) (lt_InvalidCutting : K.lookup t_InvalidCutting = some ⟨toc_InvalidCutting, tod_InvalidCutting, .seq (List.toArray [.none]) tn_InvalidCutting, tsl_InvalidCutting⟩) (ss_InvalidCutting : PySem.W.subIn K (.ref C_InvalidCutting) (.ref C_SheetError) = some true) (sf_InvalidCutting : PySem.W.subIn K (.ref C_SheetError) (.ref C_InvalidCutting) = some false) (ga_InvalidCutting : PySem.W.findIn K (.ref C_InvalidCutting) "__getattribute__" = some (some (.builtin "BaseException.__getattribute__"))) (gg_InvalidCutting : PySem.W.findIn K (.ref C_InvalidCutting) "__getattr__" = some none) (hc_InvalidCutting : PySem.W.findIn K (.ref C_InvalidCutting) "__class__" = some (some (.builtin "object.__class__"))) (kC_InvalidCutting : PySem.W.keepIn K (.ref C_InvalidCutting) = true) (eC_InvalidCutting : PySem.W.subIn K (.ref C_InvalidCutting) (.type "BaseException") = some true) (tC_InvalidCutting : PySem.W.typeIn K (.ref C_InvalidCutting) = some (.type "type")) (hD_InvalidCutting : PySem.W.hasDictIn K C_InvalidCutting = true) (iS_InvalidCutting : PySem.W.isClsIn K C_InvalidCutting = true) (mo_InvalidCutting : PySem.W.mroIn K C_InvalidCutting (.type "object") = some true) (sv_InvalidCutting : PySem.W.subIn K (.ref C_InvalidCutting) (.type "ValueError") = some true)
    {C_InvalidMeasure f_InvalidMeasure t_InvalidMeasure N_InvalidMeasure : Addr} {nm_InvalidMeasure q_InvalidMeasure : Str} {bs_InvalidMeasure sub_InvalidMeasure : List Value} {sn_InvalidMeasure : List Str} {ab_InvalidMeasure : Bool} {col_InvalidMeasure : Option Bool} {dd_InvalidMeasure od_InvalidMeasure an_InvalidMeasure tod_InvalidMeasure : Option Addr} {m0_InvalidMeasure m1_InvalidMeasure m2_InvalidMeasure m3_InvalidMeasure m5_InvalidMeasure : Option Value} {sl_InvalidMeasure tsl_InvalidMeasure : Array (Option Value)} {oc_InvalidMeasure kV_InvalidMeasure dc_InvalidMeasure pm_InvalidMeasure cd_InvalidMeasure ct_InvalidMeasure toc_InvalidMeasure : Value} {tn_InvalidMeasure : Nat} (aC_InvalidMeasure : PySem.W.nsIn K mainGlobals "InvalidMeasure" = some (some (.ref C_InvalidMeasure))) (xL_InvalidMeasure : K.lookup C_InvalidMeasure = some (PySem.excClassObj nm_InvalidMeasure q_InvalidMeasure C_InvalidMeasure N_InvalidMeasure bs_InvalidMeasure [.ref C_SheetError, .type "ValueError", .type "Exception", .type "BaseException", .type "object"] true sn_InvalidMeasure sub_InvalidMeasure ab_InvalidMeasure col_InvalidMeasure dd_InvalidMeasure m0_InvalidMeasure m1_InvalidMeasure m2_InvalidMeasure m3_InvalidMeasure m5_InvalidMeasure "ValueError.__new__")) (sa_InvalidMeasure : PySem.W.findIn K (.ref C_InvalidMeasure) "__setattr__" = some (some (.builtin "object.__setattr__"))) (nv_InvalidMeasure : PySem.W.findIn K (.ref C_InvalidMeasure) "value" = some none) (iC_InvalidMeasure : PySem.W.findIn K (.ref C_InvalidMeasure) "__init__" = some (some (.ref f_InvalidMeasure))) (tI_InvalidMeasure : PySem.W.typeIn K (.ref f_InvalidMeasure) = some (.type "function")) (l_InvalidMeasure : K.lookup f_InvalidMeasure = some ⟨oc_InvalidMeasure, od_InvalidMeasure, .func (PySem.W.fnOf "__init__" "InvalidMeasure.__init__" (defArgs s_iInvalidMeasure) (defBody s_iInvalidMeasure) (defScope s_iInvalidMeasure) (.ref t_InvalidMeasure) kV_InvalidMeasure dc_InvalidMeasure pm_InvalidMeasure an_InvalidMeasure cd_InvalidMeasure ct_InvalidMeasure), sl_InvalidMeasure⟩) (c_InvalidMeasure : PySem.W.codeIn K cd_InvalidMeasure "InvalidMeasure.__init__" = true) (kf_InvalidMeasure : PySem.W.keepIn K (.ref f_InvalidMeasure) = true) (lt_InvalidMeasure : K.lookup t_InvalidMeasure = some ⟨toc_InvalidMeasure, tod_InvalidMeasure, .seq (List.toArray [.none]) tn_InvalidMeasure, tsl_InvalidMeasure⟩) (ss_InvalidMeasure : PySem.W.subIn K (.ref C_InvalidMeasure) (.ref C_SheetError) = some true) (sf_InvalidMeasure : PySem.W.subIn K (.ref C_SheetError) (.ref C_InvalidMeasure) = some false) (ga_InvalidMeasure : PySem.W.findIn K (.ref C_InvalidMeasure) "__getattribute__" = some (some (.builtin "BaseException.__getattribute__"))) (gg_InvalidMeasure : PySem.W.findIn K (.ref C_InvalidMeasure) "__getattr__" = some none) (hc_InvalidMeasure : PySem.W.findIn K (.ref C_InvalidMeasure) "__class__" = some (some (.builtin "object.__class__"))) (kC_InvalidMeasure : PySem.W.keepIn K (.ref C_InvalidMeasure) = true) (eC_InvalidMeasure : PySem.W.subIn K (.ref C_InvalidMeasure) (.type "BaseException") = some true) (tC_InvalidMeasure : PySem.W.typeIn K (.ref C_InvalidMeasure) = some (.type "type")) (hD_InvalidMeasure : PySem.W.hasDictIn K C_InvalidMeasure = true) (iS_InvalidMeasure : PySem.W.isClsIn K C_InvalidMeasure = true) (mo_InvalidMeasure : PySem.W.mroIn K C_InvalidMeasure (.type "object") = some true) (sv_InvalidMeasure : PySem.W.subIn K (.ref C_InvalidMeasure) (.type "ValueError") = some true)
    {C_InvalidNumber f_InvalidNumber t_InvalidNumber N_InvalidNumber : Addr} {nm_InvalidNumber q_InvalidNumber : Str} {bs_InvalidNumber sub_InvalidNumber : List Value} {sn_InvalidNumber : List Str} {ab_InvalidNumber : Bool} {col_InvalidNumber : Option Bool} {dd_InvalidNumber od_InvalidNumber an_InvalidNumber tod_InvalidNumber : Option Addr} {m0_InvalidNumber m1_InvalidNumber m2_InvalidNumber m3_InvalidNumber m5_InvalidNumber : Option Value} {sl_InvalidNumber tsl_InvalidNumber : Array (Option Value)} {oc_InvalidNumber kV_InvalidNumber dc_InvalidNumber pm_InvalidNumber cd_InvalidNumber ct_InvalidNumber toc_InvalidNumber : Value} {tn_InvalidNumber : Nat} (aC_InvalidNumber : PySem.W.nsIn K mainGlobals "InvalidNumber" = some (some (.ref C_InvalidNumber))) (xL_InvalidNumber : K.lookup C_InvalidNumber = some (PySem.excClassObj nm_InvalidNumber q_InvalidNumber C_InvalidNumber N_InvalidNumber bs_InvalidNumber [.ref C_SheetError, .type "ValueError", .type "Exception", .type "BaseException", .type "object"] true sn_InvalidNumber sub_InvalidNumber ab_InvalidNumber col_InvalidNumber dd_InvalidNumber m0_InvalidNumber m1_InvalidNumber m2_InvalidNumber m3_InvalidNumber m5_InvalidNumber "ValueError.__new__")) (sa_InvalidNumber : PySem.W.findIn K (.ref C_InvalidNumber) "__setattr__" = some (some (.builtin "object.__setattr__"))) (nv_InvalidNumber : PySem.W.findIn K (.ref C_InvalidNumber) "value" = some none) (iC_InvalidNumber : PySem.W.findIn K (.ref C_InvalidNumber) "__init__" = some (some (.ref f_InvalidNumber))) (tI_InvalidNumber : PySem.W.typeIn K (.ref f_InvalidNumber) = some (.type "function")) (l_InvalidNumber : K.lookup f_InvalidNumber = some ⟨oc_InvalidNumber, od_InvalidNumber, .func (PySem.W.fnOf "__init__" "InvalidNumber.__init__" (defArgs s_iInvalidNumber) (defBody s_iInvalidNumber) (defScope s_iInvalidNumber) (.ref t_InvalidNumber) kV_InvalidNumber dc_InvalidNumber pm_InvalidNumber an_InvalidNumber cd_InvalidNumber ct_InvalidNumber), sl_InvalidNumber⟩) (c_InvalidNumber : PySem.W.codeIn K cd_InvalidNumber "InvalidNumber.__init__" = true) (kf_InvalidNumber : PySem.W.keepIn K (.ref f_InvalidNumber) = true) (lt_InvalidNumber : K.lookup t_InvalidNumber = some ⟨toc_InvalidNumber, tod_InvalidNumber, .seq (List.toArray [.none]) tn_InvalidNumber, tsl_InvalidNumber⟩) (ss_InvalidNumber : PySem.W.subIn K (.ref C_InvalidNumber) (.ref C_SheetError) = some true) (sf_InvalidNumber : PySem.W.subIn K (.ref C_SheetError) (.ref C_InvalidNumber) = some false) (ga_InvalidNumber : PySem.W.findIn K (.ref C_InvalidNumber) "__getattribute__" = some (some (.builtin "BaseException.__getattribute__"))) (gg_InvalidNumber : PySem.W.findIn K (.ref C_InvalidNumber) "__getattr__" = some none) (hc_InvalidNumber : PySem.W.findIn K (.ref C_InvalidNumber) "__class__" = some (some (.builtin "object.__class__"))) (kC_InvalidNumber : PySem.W.keepIn K (.ref C_InvalidNumber) = true) (eC_InvalidNumber : PySem.W.subIn K (.ref C_InvalidNumber) (.type "BaseException") = some true) (tC_InvalidNumber : PySem.W.typeIn K (.ref C_InvalidNumber) = some (.type "type")) (hD_InvalidNumber : PySem.W.hasDictIn K C_InvalidNumber = true) (iS_InvalidNumber : PySem.W.isClsIn K C_InvalidNumber = true) (mo_InvalidNumber : PySem.W.mroIn K C_InvalidNumber (.type "object") = some true) (sv_InvalidNumber : PySem.W.subIn K (.ref C_InvalidNumber) (.type "ValueError") = some true)
    {C_TooMany f_TooMany t_TooMany N_TooMany : Addr} {nm_TooMany q_TooMany : Str} {bs_TooMany sub_TooMany : List Value} {sn_TooMany : List Str} {ab_TooMany : Bool} {col_TooMany : Option Bool} {dd_TooMany od_TooMany an_TooMany tod_TooMany : Option Addr} {m0_TooMany m1_TooMany m2_TooMany m3_TooMany m5_TooMany : Option Value} {sl_TooMany tsl_TooMany : Array (Option Value)} {oc_TooMany kV_TooMany dc_TooMany pm_TooMany cd_TooMany ct_TooMany toc_TooMany : Value} {tn_TooMany : Nat} (aC_TooMany : PySem.W.nsIn K mainGlobals "TooMany" = some (some (.ref C_TooMany))) (xL_TooMany : K.lookup C_TooMany = some (PySem.excClassObj nm_TooMany q_TooMany C_TooMany N_TooMany bs_TooMany [.ref C_SheetError, .type "ValueError", .type "Exception", .type "BaseException", .type "object"] true sn_TooMany sub_TooMany ab_TooMany col_TooMany dd_TooMany m0_TooMany m1_TooMany m2_TooMany m3_TooMany m5_TooMany "ValueError.__new__")) (sa_TooMany : PySem.W.findIn K (.ref C_TooMany) "__setattr__" = some (some (.builtin "object.__setattr__"))) (nv_TooMany : PySem.W.findIn K (.ref C_TooMany) "value" = some none) (iC_TooMany : PySem.W.findIn K (.ref C_TooMany) "__init__" = some (some (.ref f_TooMany))) (tI_TooMany : PySem.W.typeIn K (.ref f_TooMany) = some (.type "function")) (l_TooMany : K.lookup f_TooMany = some ⟨oc_TooMany, od_TooMany, .func (PySem.W.fnOf "__init__" "TooMany.__init__" (defArgs s_iTooMany) (defBody s_iTooMany) (defScope s_iTooMany) (.ref t_TooMany) kV_TooMany dc_TooMany pm_TooMany an_TooMany cd_TooMany ct_TooMany), sl_TooMany⟩) (c_TooMany : PySem.W.codeIn K cd_TooMany "TooMany.__init__" = true) (kf_TooMany : PySem.W.keepIn K (.ref f_TooMany) = true) (lt_TooMany : K.lookup t_TooMany = some ⟨toc_TooMany, tod_TooMany, .seq (List.toArray [.none]) tn_TooMany, tsl_TooMany⟩) (ss_TooMany : PySem.W.subIn K (.ref C_TooMany) (.ref C_SheetError) = some true) (sf_TooMany : PySem.W.subIn K (.ref C_SheetError) (.ref C_TooMany) = some false) (ga_TooMany : PySem.W.findIn K (.ref C_TooMany) "__getattribute__" = some (some (.builtin "BaseException.__getattribute__"))) (gg_TooMany : PySem.W.findIn K (.ref C_TooMany) "__getattr__" = some none) (hc_TooMany : PySem.W.findIn K (.ref C_TooMany) "__class__" = some (some (.builtin "object.__class__"))) (kC_TooMany : PySem.W.keepIn K (.ref C_TooMany) = true) (eC_TooMany : PySem.W.subIn K (.ref C_TooMany) (.type "BaseException") = some true) (tC_TooMany : PySem.W.typeIn K (.ref C_TooMany) = some (.type "type")) (hD_TooMany : PySem.W.hasDictIn K C_TooMany = true) (iS_TooMany : PySem.W.isClsIn K C_TooMany = true) (mo_TooMany : PySem.W.mroIn K C_TooMany (.type "object") = some true) (sv_TooMany : PySem.W.subIn K (.ref C_TooMany) (.type "ValueError") = some true) (p_SheetError_SheetError : PySem.W.subIn K (.ref C_SheetError) (.ref C_SheetError) = some true) (p_InvalidCutting_InvalidCutting : PySem.W.subIn K (.ref C_InvalidCutting) (.ref C_InvalidCutting) = some true) (p_InvalidCutting_InvalidMeasure : PySem.W.subIn K (.ref C_InvalidCutting) (.ref C_InvalidMeasure) = some false) (p_InvalidCutting_InvalidNumber : PySem.W.subIn K (.ref C_InvalidCutting) (.ref C_InvalidNumber) = some false) (p_InvalidCutting_TooMany : PySem.W.subIn K (.ref C_InvalidCutting) (.ref C_TooMany) = some false) (p_InvalidMeasure_InvalidCutting : PySem.W.subIn K (.ref C_InvalidMeasure) (.ref C_InvalidCutting) = some false) (p_InvalidMeasure_InvalidMeasure : PySem.W.subIn K (.ref C_InvalidMeasure) (.ref C_InvalidMeasure) = some true) (p_InvalidMeasure_InvalidNumber : PySem.W.subIn K (.ref C_InvalidMeasure) (.ref C_InvalidNumber) = some false) (p_InvalidMeasure_TooMany : PySem.W.subIn K (.ref C_InvalidMeasure) (.ref C_TooMany) = some false) (p_InvalidNumber_InvalidCutting : PySem.W.subIn K (.ref C_InvalidNumber) (.ref C_InvalidCutting) = some false) (p_InvalidNumber_InvalidMeasure : PySem.W.subIn K (.ref C_InvalidNumber) (.ref C_InvalidMeasure) = some false) (p_InvalidNumber_InvalidNumber : PySem.W.subIn K (.ref C_InvalidNumber) (.ref C_InvalidNumber) = some true) (p_InvalidNumber_TooMany : PySem.W.subIn K (.ref C_InvalidNumber) (.ref C_TooMany) = some false) (p_TooMany_InvalidCutting : PySem.W.subIn K (.ref C_TooMany) (.ref C_InvalidCutting) = some false) (p_TooMany_InvalidMeasure : PySem.W.subIn K (.ref C_TooMany) (.ref C_InvalidMeasure) = some false) (p_TooMany_InvalidNumber : PySem.W.subIn K (.ref C_TooMany) (.ref C_InvalidNumber) = some false) (p_TooMany_TooMany : PySem.W.subIn K (.ref C_TooMany) (.ref C_TooMany) = some true) :
    ∃ fd : FuncData, (∀ (s : Shared) (v : Value), BindsTo s fd ⟨[v], []⟩ [("_law_script", v)]) ∧ ∀ base : Heap, K.In base → base.Ns mainGlobals mg → FnG l.prog w K mg base 9 fa fd ["_law_script"] (Kx.spLaw K) := by
  have e := hfa.symm.trans (PySem.W.mg_of X G a34)
  cases e
  have T : Txt K mg := ⟨PySem.W.mg_none_of X G z_abs, PySem.W.mg_none_of X G z_all, PySem.W.mg_none_of X G z_bool, PySem.W.mg_none_of X G z_int, PySem.W.mg_none_of X G z_isinstance, PySem.W.mg_none_of X G z_len, PySem.W.mg_none_of X G z_list, PySem.W.mg_none_of X G z_max, PySem.W.mg_none_of X G z_min, PySem.W.mg_none_of X G z_range, PySem.W.mg_none_of X G z_repr, PySem.W.mg_none_of X G z_sorted, PySem.W.mg_none_of X G z_sum, PySem.W.mg_none_of X G z_tuple, PySem.W.mg_of X G z_gcd, PySem.W.mg_of X G z_isqrt, ⟨_, PySem.W.mg_of X G z_MOST_TOLD, _, rfl⟩⟩
  have F0 := fun_mk (st := s_IsWhole) l0 c0 k0
  have b0 := F0.binds (ps := ["value"]) fun _ _ _ _ _ _ us hl => match us, hl with | [_], _ => rfl
  have F1 := fun_mk (st := s_Lasts) l1 c1 k1
  have b1 := F1.binds (ps := ["measure"]) fun _ _ _ _ _ _ us hl => match us, hl with | [_], _ => rfl
  have F2 := fun_mk (st := s_Middles) l2 c2 k2
  have b2 := F2.binds (ps := ["measure", "e"]) fun _ _ _ _ _ _ us hl => match us, hl with | [_, _], _ => rfl
  have F3 := fun_mk (st := s_AreWithoutDivisor) l3 c3 k3
  have b3 := F3.binds (ps := ["one", "other", "third"]) fun _ _ _ _ _ _ us hl => match us, hl with | [_, _, _], _ => rfl
  have F4 := fun_mk (st := s_LawHash) l4 c4 k4
  have b4 := F4.binds (ps := ["_law_seed", "_law_index"]) fun _ _ _ _ _ _ us hl => match us, hl with | [_, _], _ => rfl
  have F5 := fun_mk (st := s_LawCell) l5 c5 k5
  have b5 := F5.binds (ps := ["_law_script", "_law_index"]) fun _ _ _ _ _ _ us hl => match us, hl with | [_, _], _ => rfl
  have F6 := fun_mk (st := s_LawCommon) l6 c6 k6
  have b6 := F6.binds (ps := ["_law_one", "_law_other"]) fun _ _ _ _ _ _ us hl => match us, hl with | [_, _], _ => rfl
  have F7 := fun_mk (st := s_LawMeasure) l7 c7 k7
  have b7 := F7.binds (ps := ["_law_cutting"]) fun _ _ _ _ _ _ us hl => match us, hl with | [_], _ => rfl
  have F8 := fun_mk (st := s_LawTurns) l8 c8 k8
  have b8 := F8.binds (ps := ["_law_measure_here"]) fun _ _ _ _ _ _ us hl => match us, hl with | [_], _ => rfl
  have F9 := fun_mk (st := s_LawOnly) l9 c9 k9
  have b9 := F9.binds (ps := ["_law_told", "_law_place", "_law_bad"]) fun _ _ _ _ _ _ us hl => match us, hl with | [_, _, _], _ => rfl
  have F10 := fun_mk (st := s_AreWholes) l10 c10 k10
  have b10 := F10.binds (ps := ["value", "many"]) fun _ _ _ _ _ _ us hl => match us, hl with | [_, _], _ => rfl
  have F11 := fun_mk (st := s_IsMeasure) l11 c11 k11
  have b11 := F11.binds (ps := ["value"]) fun _ _ _ _ _ _ us hl => match us, hl with | [_], _ => rfl
  have F12 := fun_mk (st := s_Firsts) l12 c12 k12
  have b12 := F12.binds (ps := ["b", "c", "e"]) fun _ _ _ _ _ _ us hl => match us, hl with | [_, _, _], _ => rfl
  have F13 := fun_mk (st := s_LawRandom) l13 c13 k13
  have b13 := F13.binds (ps := ["_law_generator_here", "_law_bound"]) fun _ _ _ _ _ _ us hl => match us, hl with | [_, _], _ => rfl
  have F14 := fun_mk (st := s_LawGenerator) l14 c14 k14
  have b14 := F14.binds (ps := ["_law_script", "_law_index"]) fun _ _ _ _ _ _ us hl => match us, hl with | [_, _], _ => rfl
  have F15 := fun_mk (st := s_LawIsCutting) l15 c15 k15
  have b15 := F15.binds (ps := ["_law_a", "_law_b", "_law_c", "_law_e"]) fun _ _ _ _ _ _ us hl => match us, hl with | [_, _, _, _], _ => rfl
  have F16 := fun_mk (st := s_CheckMeasure) l16 c16 k16
  have b16 := F16.binds (ps := ["measure"]) fun _ _ _ _ _ _ us hl => match us, hl with | [_], _ => rfl
  have F17 := fun_mk (st := s_IsCutting) l17 c17 k17
  have b17 := F17.binds (ps := ["value"]) fun _ _ _ _ _ _ us hl => match us, hl with | [_], _ => rfl
  have F18 := fun_mk (st := s_Gathered) l18 c18 k18
  have b18 := F18.binds (ps := ["measure"]) fun _ _ _ _ _ _ us hl => match us, hl with | [_], _ => rfl
  have F19 := fun_mk (st := s_HowManyWith) l19 c19 k19
  have b19 := F19.binds (ps := ["measure", "e"]) fun _ _ _ _ _ _ us hl => match us, hl with | [_, _], _ => rfl
  have F20 := fun_mk (st := s_LawWith) l20 c20 k20
  have b20 := F20.binds (ps := ["_law_measure_here", "_law_e"]) fun _ _ _ _ _ _ us hl => match us, hl with | [_, _], _ => rfl
  have F21 := fun_mk (st := s_LawDrawnMeasure) l21 c21 k21
  have b21 := F21.binds (ps := ["_law_generator_here", "_law_most"]) fun _ _ _ _ _ _ us hl => match us, hl with | [_, _], _ => rfl
  have F22 := fun_mk (st := s_CheckCutting) l22 c22 k22
  have b22 := F22.binds (ps := ["cutting"]) fun _ _ _ _ _ _ us hl => match us, hl with | [_], _ => rfl
  have F23 := fun_mk (st := s_HowManyCuttings) l23 c23 k23
  have b23 := F23.binds (ps := ["measure"]) fun _ _ _ _ _ _ us hl => match us, hl with | [_], _ => rfl
  have F24 := fun_mk (st := s_AllCuttings) l24 c24 k24
  have b24 := F24.binds (ps := ["measure"]) fun _ _ _ _ _ _ us hl => match us, hl with | [_], _ => rfl
  have F25 := fun_mk (st := s_HowManyWithLast) l25 c25 k25
  have b25 := F25.binds (ps := ["measure", "e"]) fun _ _ _ _ _ _ us hl => match us, hl with | [_, _], _ => rfl
  have F26 := fun_mk (st := s_LawAll) l26 c26 k26
  have b26 := F26.binds (ps := ["_law_measure_here"]) fun _ _ _ _ _ _ us hl => match us, hl with | [_], _ => rfl
  have F27 := fun_mk (st := s_MeasureOf) l27 c27 k27
  have b27 := F27.binds (ps := ["cutting"]) fun _ _ _ _ _ _ us hl => match us, hl with | [_], _ => rfl
  have F28 := fun_mk (st := s_Cuttings) l28 c28 k28
  have b28 := F28.binds (ps := ["measure"]) fun _ _ _ _ _ _ us hl => match us, hl with | [_], _ => rfl
  have F29 := fun_mk (st := s_CuttingNumbered) l29 c29 k29
  have b29 := F29.binds (ps := ["measure", "number"]) fun _ _ _ _ _ _ us hl => match us, hl with | [_, _], _ => rfl
  have F30 := fun_mk (st := s_CuttingNumber) l30 c30 k30
  have b30 := F30.binds (ps := ["cutting"]) fun _ _ _ _ _ _ us hl => match us, hl with | [_], _ => rfl
  have F31 := fun_mk (st := s_NextCutting) l31 c31 k31
  have b31 := F31.binds (ps := ["cutting"]) fun _ _ _ _ _ _ us hl => match us, hl with | [_], _ => rfl
  have F32 := fun_mk (st := s_LawAsked) l32 c32 k32
  have b32 := F32.binds (ps := ["_law_which", "_law_one", "_law_more"]) fun _ _ _ _ _ _ us hl => match us, hl with | [_, _, _], _ => rfl
  have F33 := fun_mk (st := s_LawCaught) l33 c33 k33
  have b33 := F33.binds (ps := ["_law_which", "_law_one", "_law_more"]) fun _ _ _ _ _ _ us hl => match us, hl with | [_, _, _], _ => rfl
  have F34 := fun_mk (st := s_Law) l34 c34 k34
  have b34 := F34.binds (ps := ["_law_script"]) fun _ _ _ _ _ _ us hl => match us, hl with | [_], _ => rfl
  refine ⟨PySem.W.fnOf "law" "law" (defArgs s_Law) (defBody s_Law) (defScope s_Law) .none kV34 dc34 pm34 an34 cd34 ct34, fun s v => .of_eq rfl, fun base _ _ => ?_⟩
  have EC_SheetError : L2.ExcC K C_SheetError := ⟨ga_SheetError, gg_SheetError, eC_SheetError, hD_SheetError, hc_SheetError, hn_g, ht_g, mo_SheetError⟩
  have EC_InvalidCutting : L2.ExcC K C_InvalidCutting := ⟨ga_InvalidCutting, gg_InvalidCutting, eC_InvalidCutting, hD_InvalidCutting, hc_InvalidCutting, hn_g, ht_g, mo_InvalidCutting⟩
  have EC_InvalidMeasure : L2.ExcC K C_InvalidMeasure := ⟨ga_InvalidMeasure, gg_InvalidMeasure, eC_InvalidMeasure, hD_InvalidMeasure, hc_InvalidMeasure, hn_g, ht_g, mo_InvalidMeasure⟩
  have EC_InvalidNumber : L2.ExcC K C_InvalidNumber := ⟨ga_InvalidNumber, gg_InvalidNumber, eC_InvalidNumber, hD_InvalidNumber, hc_InvalidNumber, hn_g, ht_g, mo_InvalidNumber⟩
  have EC_TooMany : L2.ExcC K C_TooMany := ⟨ga_TooMany, gg_TooMany, eC_TooMany, hD_TooMany, hc_TooMany, hn_g, ht_g, mo_TooMany⟩
  have E_SheetError : ErrP K mg "SheetError" C_SheetError [.type "ValueError", .type "Exception", .type "BaseException", .type "object"] "ValueError" "ValueError.__new__" "ValueError.__init__" := ⟨F.excBase_ValueError, xS_SheetError, PySem.W.mg_of X G aC_SheetError, kC_SheetError, EC_SheetError⟩
  have T_InvalidCutting : OexC K C_InvalidCutting := ⟨⟨_, _, _, _, _, _, _, _, _, _, _, _, _, _, _, xL_InvalidCutting, rfl⟩, sa_InvalidCutting, eC_InvalidCutting, tC_InvalidCutting, kC_InvalidCutting⟩
  have FI_InvalidCutting : FunD K "__init__" "InvalidCutting.__init__" (defArgs s_iInvalidCutting) (defBody s_iInvalidCutting) (defScope s_iInvalidCutting) [V.non] [] f_InvalidCutting (PySem.W.fnOf "__init__" "InvalidCutting.__init__" (defArgs s_iInvalidCutting) (defBody s_iInvalidCutting) (defScope s_iInvalidCutting) (.ref t_InvalidCutting) kV_InvalidCutting dc_InvalidCutting pm_InvalidCutting an_InvalidCutting cd_InvalidCutting ct_InvalidCutting) := ⟨⟨oc_InvalidCutting, od_InvalidCutting, .ref t_InvalidCutting, kV_InvalidCutting, dc_InvalidCutting, pm_InvalidCutting, an_InvalidCutting, cd_InvalidCutting, ct_InvalidCutting, sl_InvalidCutting, rfl, l_InvalidCutting, c_InvalidCutting, .inr ⟨by simp, t_InvalidCutting, _, [.none], tn_InvalidCutting, rfl, lt_InvalidCutting, rfl, .cons rfl .nil⟩, .inl rfl⟩, kf_InvalidCutting⟩
  have E_InvalidCutting : ErrN l.prog w K mg base "InvalidCutting" C_InvalidCutting f_InvalidCutting _ := errN_mk iC_InvalidCutting tI_InvalidCutting (okiInvalidCutting FI_InvalidCutting T_InvalidCutting nv_InvalidCutting) (bdiInvalidCutting FI_InvalidCutting) T_InvalidCutting (PySem.W.mg_of X G aC_InvalidCutting) ga_InvalidCutting gg_InvalidCutting hD_InvalidCutting EC_InvalidCutting nv_InvalidCutting
  have T_InvalidMeasure : OexC K C_InvalidMeasure := ⟨⟨_, _, _, _, _, _, _, _, _, _, _, _, _, _, _, xL_InvalidMeasure, rfl⟩, sa_InvalidMeasure, eC_InvalidMeasure, tC_InvalidMeasure, kC_InvalidMeasure⟩
  have FI_InvalidMeasure : FunD K "__init__" "InvalidMeasure.__init__" (defArgs s_iInvalidMeasure) (defBody s_iInvalidMeasure) (defScope s_iInvalidMeasure) [V.non] [] f_InvalidMeasure (PySem.W.fnOf "__init__" "InvalidMeasure.__init__" (defArgs s_iInvalidMeasure) (defBody s_iInvalidMeasure) (defScope s_iInvalidMeasure) (.ref t_InvalidMeasure) kV_InvalidMeasure dc_InvalidMeasure pm_InvalidMeasure an_InvalidMeasure cd_InvalidMeasure ct_InvalidMeasure) := ⟨⟨oc_InvalidMeasure, od_InvalidMeasure, .ref t_InvalidMeasure, kV_InvalidMeasure, dc_InvalidMeasure, pm_InvalidMeasure, an_InvalidMeasure, cd_InvalidMeasure, ct_InvalidMeasure, sl_InvalidMeasure, rfl, l_InvalidMeasure, c_InvalidMeasure, .inr ⟨by simp, t_InvalidMeasure, _, [.none], tn_InvalidMeasure, rfl, lt_InvalidMeasure, rfl, .cons rfl .nil⟩, .inl rfl⟩, kf_InvalidMeasure⟩
  have E_InvalidMeasure : ErrN l.prog w K mg base "InvalidMeasure" C_InvalidMeasure f_InvalidMeasure _ := errN_mk iC_InvalidMeasure tI_InvalidMeasure (okiInvalidMeasure FI_InvalidMeasure T_InvalidMeasure nv_InvalidMeasure) (bdiInvalidMeasure FI_InvalidMeasure) T_InvalidMeasure (PySem.W.mg_of X G aC_InvalidMeasure) ga_InvalidMeasure gg_InvalidMeasure hD_InvalidMeasure EC_InvalidMeasure nv_InvalidMeasure
  have T_InvalidNumber : OexC K C_InvalidNumber := ⟨⟨_, _, _, _, _, _, _, _, _, _, _, _, _, _, _, xL_InvalidNumber, rfl⟩, sa_InvalidNumber, eC_InvalidNumber, tC_InvalidNumber, kC_InvalidNumber⟩
  have FI_InvalidNumber : FunD K "__init__" "InvalidNumber.__init__" (defArgs s_iInvalidNumber) (defBody s_iInvalidNumber) (defScope s_iInvalidNumber) [V.non] [] f_InvalidNumber (PySem.W.fnOf "__init__" "InvalidNumber.__init__" (defArgs s_iInvalidNumber) (defBody s_iInvalidNumber) (defScope s_iInvalidNumber) (.ref t_InvalidNumber) kV_InvalidNumber dc_InvalidNumber pm_InvalidNumber an_InvalidNumber cd_InvalidNumber ct_InvalidNumber) := ⟨⟨oc_InvalidNumber, od_InvalidNumber, .ref t_InvalidNumber, kV_InvalidNumber, dc_InvalidNumber, pm_InvalidNumber, an_InvalidNumber, cd_InvalidNumber, ct_InvalidNumber, sl_InvalidNumber, rfl, l_InvalidNumber, c_InvalidNumber, .inr ⟨by simp, t_InvalidNumber, _, [.none], tn_InvalidNumber, rfl, lt_InvalidNumber, rfl, .cons rfl .nil⟩, .inl rfl⟩, kf_InvalidNumber⟩
  have E_InvalidNumber : ErrN l.prog w K mg base "InvalidNumber" C_InvalidNumber f_InvalidNumber _ := errN_mk iC_InvalidNumber tI_InvalidNumber (okiInvalidNumber FI_InvalidNumber T_InvalidNumber nv_InvalidNumber) (bdiInvalidNumber FI_InvalidNumber) T_InvalidNumber (PySem.W.mg_of X G aC_InvalidNumber) ga_InvalidNumber gg_InvalidNumber hD_InvalidNumber EC_InvalidNumber nv_InvalidNumber
  have T_TooMany : OexC K C_TooMany := ⟨⟨_, _, _, _, _, _, _, _, _, _, _, _, _, _, _, xL_TooMany, rfl⟩, sa_TooMany, eC_TooMany, tC_TooMany, kC_TooMany⟩
  have FI_TooMany : FunD K "__init__" "TooMany.__init__" (defArgs s_iTooMany) (defBody s_iTooMany) (defScope s_iTooMany) [V.non] [] f_TooMany (PySem.W.fnOf "__init__" "TooMany.__init__" (defArgs s_iTooMany) (defBody s_iTooMany) (defScope s_iTooMany) (.ref t_TooMany) kV_TooMany dc_TooMany pm_TooMany an_TooMany cd_TooMany ct_TooMany) := ⟨⟨oc_TooMany, od_TooMany, .ref t_TooMany, kV_TooMany, dc_TooMany, pm_TooMany, an_TooMany, cd_TooMany, ct_TooMany, sl_TooMany, rfl, l_TooMany, c_TooMany, .inr ⟨by simp, t_TooMany, _, [.none], tn_TooMany, rfl, lt_TooMany, rfl, .cons rfl .nil⟩, .inl rfl⟩, kf_TooMany⟩
  have E_TooMany : ErrN l.prog w K mg base "TooMany" C_TooMany f_TooMany _ := errN_mk iC_TooMany tI_TooMany (okiTooMany FI_TooMany T_TooMany nv_TooMany) (bdiTooMany FI_TooMany) T_TooMany (PySem.W.mg_of X G aC_TooMany) ga_TooMany gg_TooMany hD_TooMany EC_TooMany nv_TooMany
  have KT : KitE K [C_InvalidCutting, C_InvalidMeasure, C_InvalidNumber, C_TooMany] C_SheetError := by
    refine ⟨fun C hC => ?_, fun i j C D hC hD => ?_, fun C hC => ?_, fun C hC => ?_, fun C hC => ?_, fun C hC => ?_⟩
    · simp only [List.mem_cons, List.not_mem_nil, or_false] at hC
      rcases hC with rfl | rfl | rfl | rfl
      · exact PySem.W.exm_ref eC_SheetError hD_SheetError tC_SheetError ss_InvalidCutting
      · exact PySem.W.exm_ref eC_SheetError hD_SheetError tC_SheetError ss_InvalidMeasure
      · exact PySem.W.exm_ref eC_SheetError hD_SheetError tC_SheetError ss_InvalidNumber
      · exact PySem.W.exm_ref eC_SheetError hD_SheetError tC_SheetError ss_TooMany
    · have hi : i < 4 := (List.getElem?_eq_some_iff.mp hC).1
      have hj : j < 4 := (List.getElem?_eq_some_iff.mp hD).1
      rcases (show i = 0 ∨ i = 1 ∨ i = 2 ∨ i = 3 by omega) with rfl | rfl | rfl | rfl
      · cases hC
        rcases (show j = 0 ∨ j = 1 ∨ j = 2 ∨ j = 3 by omega) with rfl | rfl | rfl | rfl
        · cases hD; exact kit_ref iS_InvalidCutting tC_InvalidCutting p_InvalidCutting_InvalidCutting p_InvalidCutting_InvalidCutting
        · cases hD; exact kit_ref iS_InvalidMeasure tC_InvalidMeasure p_InvalidMeasure_InvalidMeasure p_InvalidCutting_InvalidMeasure
        · cases hD; exact kit_ref iS_InvalidNumber tC_InvalidNumber p_InvalidNumber_InvalidNumber p_InvalidCutting_InvalidNumber
        · cases hD; exact kit_ref iS_TooMany tC_TooMany p_TooMany_TooMany p_InvalidCutting_TooMany
      · cases hC
        rcases (show j = 0 ∨ j = 1 ∨ j = 2 ∨ j = 3 by omega) with rfl | rfl | rfl | rfl
        · cases hD; exact kit_ref iS_InvalidCutting tC_InvalidCutting p_InvalidCutting_InvalidCutting p_InvalidMeasure_InvalidCutting
        · cases hD; exact kit_ref iS_InvalidMeasure tC_InvalidMeasure p_InvalidMeasure_InvalidMeasure p_InvalidMeasure_InvalidMeasure
        · cases hD; exact kit_ref iS_InvalidNumber tC_InvalidNumber p_InvalidNumber_InvalidNumber p_InvalidMeasure_InvalidNumber
        · cases hD; exact kit_ref iS_TooMany tC_TooMany p_TooMany_TooMany p_InvalidMeasure_TooMany
      · cases hC
        rcases (show j = 0 ∨ j = 1 ∨ j = 2 ∨ j = 3 by omega) with rfl | rfl | rfl | rfl
        · cases hD; exact kit_ref iS_InvalidCutting tC_InvalidCutting p_InvalidCutting_InvalidCutting p_InvalidNumber_InvalidCutting
        · cases hD; exact kit_ref iS_InvalidMeasure tC_InvalidMeasure p_InvalidMeasure_InvalidMeasure p_InvalidNumber_InvalidMeasure
        · cases hD; exact kit_ref iS_InvalidNumber tC_InvalidNumber p_InvalidNumber_InvalidNumber p_InvalidNumber_InvalidNumber
        · cases hD; exact kit_ref iS_TooMany tC_TooMany p_TooMany_TooMany p_InvalidNumber_TooMany
      · cases hC
        rcases (show j = 0 ∨ j = 1 ∨ j = 2 ∨ j = 3 by omega) with rfl | rfl | rfl | rfl
        · cases hD; exact kit_ref iS_InvalidCutting tC_InvalidCutting p_InvalidCutting_InvalidCutting p_TooMany_InvalidCutting
        · cases hD; exact kit_ref iS_InvalidMeasure tC_InvalidMeasure p_InvalidMeasure_InvalidMeasure p_TooMany_InvalidMeasure
        · cases hD; exact kit_ref iS_InvalidNumber tC_InvalidNumber p_InvalidNumber_InvalidNumber p_TooMany_InvalidNumber
        · cases hD; exact kit_ref iS_TooMany tC_TooMany p_TooMany_TooMany p_TooMany_TooMany
    · simp only [List.mem_cons, List.not_mem_nil, or_false] at hC
      rcases hC with rfl | rfl | rfl | rfl
      · exact kit_ve sv_InvalidCutting
      · exact kit_ve sv_InvalidMeasure
      · exact kit_ve sv_InvalidNumber
      · exact kit_ve sv_TooMany
    · simp only [List.mem_cons, List.not_mem_nil, or_false] at hC
      rcases hC with rfl | rfl | rfl | rfl
      · exact EC_InvalidCutting
      · exact EC_InvalidMeasure
      · exact EC_InvalidNumber
      · exact EC_TooMany
    · simp only [List.mem_cons, List.not_mem_nil, or_false] at hC
      rcases hC with rfl | rfl | rfl | rfl
      · exact E_InvalidCutting.xf
      · exact E_InvalidMeasure.xf
      · exact E_InvalidNumber.xf
      · exact E_TooMany.xf
    · simp only [List.mem_cons, List.not_mem_nil, or_false] at hC
      rcases hC with rfl | rfl | rfl | rfl
      · exact nv_InvalidCutting
      · exact nv_InvalidMeasure
      · exact nv_InvalidNumber
      · exact nv_TooMany
  have KN : ∀ C ∈ [C_InvalidCutting, C_InvalidMeasure, C_InvalidNumber, C_TooMany], PySem.W.kitOne K (.type "NoneType") (.ref C) = some false := by
    intro C hC
    simp only [List.mem_cons, List.not_mem_nil, or_false] at hC
    rcases hC with rfl | rfl | rfl | rfl
    · exact kit_non iS_InvalidCutting tC_InvalidCutting
    · exact kit_non iS_InvalidMeasure tC_InvalidMeasure
    · exact kit_non iS_InvalidNumber tC_InvalidNumber
    · exact kit_non iS_TooMany tC_TooMany
  have D_LawHash : DefAt l.prog w K mg base 1 "_law_hash" f4 _ ["_law_seed", "_law_index"] (spHash) := ⟨(okLawHash (P := l.prog) (w := w) (mg := mg) (base := base) F4 T    ), PySem.W.mg_of X G a4, k4, b4⟩
  have D_LawCell : DefAt l.prog w K mg base 1 "_law_cell" f5 _ ["_law_script", "_law_index"] (spCell K) := ⟨(okLawCell (P := l.prog) (w := w) (mg := mg) (base := base) F5 T    ), PySem.W.mg_of X G a5, k5, b5⟩
  have D_LawCommon : DefAt l.prog w K mg base 1 "_law_common" f6 _ ["_law_one", "_law_other"] (spCommon) := ⟨(okLawCommon (P := l.prog) (w := w) (mg := mg) (base := base) F6 T    ), PySem.W.mg_of X G a6, k6, b6⟩
  have D_IsWhole : DefAt l.prog w K mg base 1 "is_whole" f0 _ ["value"] (spWhole) := ⟨(okIsWhole (P := l.prog) (w := w) (mg := mg) (base := base) F0 T    ), PySem.W.mg_of X G a0, k0, b0⟩
  have D_AreWithoutDivisor : DefAt l.prog w K mg base 1 "_are_without_divisor" f3 _ ["one", "other", "third"] (spApart) := ⟨(okAreWithoutDivisor (P := l.prog) (w := w) (mg := mg) (base := base) F3 T    ), PySem.W.mg_of X G a3, k3, b3⟩
  have D_LawMeasure : DefAt l.prog w K mg base 1 "_law_measure" f7 _ ["_law_cutting"] (spLawMeasure4) := ⟨(okLawMeasure (P := l.prog) (w := w) (mg := mg) (base := base) F7 T    ), PySem.W.mg_of X G a7, k7, b7⟩
  have D_Middles : DefAt l.prog w K mg base 1 "_middles" f2 _ ["measure", "e"] (spMiddlesN) := ⟨(okMiddles (P := l.prog) (w := w) (mg := mg) (base := base) F2 T    ), PySem.W.mg_of X G a2, k2, b2⟩
  have D_Lasts : DefAt l.prog w K mg base 1 "_lasts" f1 _ ["measure"] (spLasts) := ⟨(okLasts (P := l.prog) (w := w) (mg := mg) (base := base) F1 T    ), PySem.W.mg_of X G a1, k1, b1⟩
  have D_LawTurns : DefAt l.prog w K mg base 1 "_law_turns" f8 _ ["_law_measure_here"] (spLawTurns) := ⟨(okLawTurns (P := l.prog) (w := w) (mg := mg) (base := base) F8 T    ), PySem.W.mg_of X G a8, k8, b8⟩
  have D_LawOnly : DefG l.prog w K mg base 1 "_law_only" f9 _ ["_law_told", "_law_place", "_law_bad"] (spOnly11 K) := ⟨(okLawOnly (P := l.prog) (w := w) (mg := mg) (base := base) F9 T    ), PySem.W.mg_of X G a9, k9, b9⟩
  have D_LawRandom : DefAt l.prog w K mg base 2 "_law_random" f13 _ ["_law_generator_here", "_law_bound"] (spRandom) := ⟨(okLawRandom (P := l.prog) (w := w) (mg := mg) (base := base) F13 T  D_LawHash  ), PySem.W.mg_of X G a13, k13, b13⟩
  have D_LawGenerator : DefAt l.prog w K mg base 2 "_law_generator" f14 _ ["_law_script", "_law_index"] (spGen K) := ⟨(okLawGenerator (P := l.prog) (w := w) (mg := mg) (base := base) F14 T  D_LawCell  ), PySem.W.mg_of X G a14, k14, b14⟩
  have D_AreWholes : DefAt l.prog w K mg base 2 "are_wholes" f10 _ ["value", "many"] (spWholes) := ⟨(okAreWholes (P := l.prog) (w := w) (mg := mg) (base := base) F10 T  D_IsWhole  ), PySem.W.mg_of X G a10, k10, b10⟩
  have D_IsMeasure : DefAt l.prog w K mg base 2 "is_measure" f11 _ ["value"] (spIsMeasure) := ⟨(okIsMeasure (P := l.prog) (w := w) (mg := mg) (base := base) F11 T  D_IsWhole  ), PySem.W.mg_of X G a11, k11, b11⟩
  have D_LawIsCutting : DefAt l.prog w K mg base 2 "_law_is_cutting" f15 _ ["_law_a", "_law_b", "_law_c", "_law_e"] (spLawIsCutting) := ⟨(okLawIsCutting (P := l.prog) (w := w) (mg := mg) (base := base) F15 T  D_LawCommon  ), PySem.W.mg_of X G a15, k15, b15⟩
  have D_Firsts : DefAt l.prog w K mg base 2 "_firsts" f12 _ ["b", "c", "e"] (spFirstsN) := ⟨(okFirsts (P := l.prog) (w := w) (mg := mg) (base := base) F12 T  D_AreWithoutDivisor  ), PySem.W.mg_of X G a12, k12, b12⟩
  have D_CheckMeasure : DefAt l.prog w K mg base 3 "check_measure" f16 _ ["measure"] (spCheckMeasure0) := ⟨(okCheckMeasure (P := l.prog) (w := w) (mg := mg) (base := base) F16 T E_InvalidMeasure D_IsMeasure  ), PySem.W.mg_of X G a16, k16, b16⟩
  have D_IsCutting : DefAt l.prog w K mg base 3 "is_cutting" f17 _ ["value"] (spIsCutting) := ⟨(okIsCutting (P := l.prog) (w := w) (mg := mg) (base := base) F17 T  D_AreWholes D_AreWithoutDivisor  ), PySem.W.mg_of X G a17, k17, b17⟩
  have D_HowManyWith : DefAt l.prog w K mg base 3 "_how_many_with" f19 _ ["measure", "e"] (spHmw) := ⟨(okHowManyWith (P := l.prog) (w := w) (mg := mg) (base := base) F19 T  D_Firsts D_Middles  ), PySem.W.mg_of X G a19, k19, b19⟩
  have D_Gathered : DefAt l.prog w K mg base 3 "_gathered" f18 _ ["measure"] (spGathered) := ⟨(okGathered (P := l.prog) (w := w) (mg := mg) (base := base) F18 T  D_Lasts D_Middles D_Firsts  ), PySem.W.mg_of X G a18, k18, b18⟩
  have D_LawWith : DefAt l.prog w K mg base 3 "_law_with" f20 _ ["_law_measure_here", "_law_e"] (spLawWith) := ⟨(okLawWith (P := l.prog) (w := w) (mg := mg) (base := base) F20 T  D_LawCommon D_LawIsCutting  ), PySem.W.mg_of X G a20, k20, b20⟩
  have D_LawDrawnMeasure : DefAt l.prog w K mg base 3 "_law_drawn_measure" f21 _ ["_law_generator_here", "_law_most"] (spDrawnM8) := ⟨(okLawDrawnMeasure (P := l.prog) (w := w) (mg := mg) (base := base) F21 T  D_LawRandom  ), PySem.W.mg_of X G a21, k21, b21⟩
  have X_CheckMeasure : DefX l.prog w K mg base 3 "check_measure" f16 _ ["measure"] (spCheckMeasureX C_InvalidMeasure) := ⟨(okXCheckMeasure (P := l.prog) (w := w) (mg := mg) (base := base) F16 T E_InvalidMeasure D_IsMeasure  ), PySem.W.mg_of X G a16, k16, b16⟩
  have D_HowManyCuttings : DefAt l.prog w K mg base 4 "how_many_cuttings" f23 _ ["measure"] (spHmc) := ⟨(okHowManyCuttings (P := l.prog) (w := w) (mg := mg) (base := base) F23 T  D_CheckMeasure D_HowManyWith D_Lasts  ), PySem.W.mg_of X G a23, k23, b23⟩
  have D_AllCuttings : DefAt l.prog w K mg base 4 "all_cuttings" f24 _ ["measure"] (spAllCut) := ⟨(okAllCuttings (P := l.prog) (w := w) (mg := mg) (base := base) F24 T  D_Gathered  ), PySem.W.mg_of X G a24, k24, b24⟩
  have D_LawAll : DefAt l.prog w K mg base 4 "_law_all" f26 _ ["_law_measure_here"] (spLawAll) := ⟨(okLawAll (P := l.prog) (w := w) (mg := mg) (base := base) F26 T  D_LawTurns D_LawWith  ), PySem.W.mg_of X G a26, k26, b26⟩
  have X_CheckCutting : DefX l.prog w K mg base 4 "check_cutting" f22 _ ["cutting"] (spCheckCutX C_InvalidCutting) := ⟨(okXCheckCutting (P := l.prog) (w := w) (mg := mg) (base := base) F22 T E_InvalidCutting D_IsCutting  ), PySem.W.mg_of X G a22, k22, b22⟩
  have X_HowManyCuttings : DefX l.prog w K mg base 4 "how_many_cuttings" f23 _ ["measure"] (spHmcX C_InvalidMeasure) := ⟨(okXHowManyCuttings (P := l.prog) (w := w) (mg := mg) (base := base) F23 T  X_CheckMeasure D_HowManyWith D_Lasts  ), PySem.W.mg_of X G a23, k23, b23⟩
  have X_HowManyWithLast : DefX l.prog w K mg base 4 "how_many_with_last" f25 _ ["measure", "e"] (spLastX C_InvalidMeasure C_InvalidNumber) := ⟨(okXHowManyWithLast (P := l.prog) (w := w) (mg := mg) (base := base) F25 T E_InvalidNumber X_CheckMeasure D_HowManyWith D_IsWhole  ), PySem.W.mg_of X G a25, k25, b25⟩
  have D_Cuttings : DefAt l.prog w K mg base 5 "cuttings" f28 _ ["measure"] (spCuttings) := ⟨(okCuttings (P := l.prog) (w := w) (mg := mg) (base := base) F28 T E_TooMany D_HowManyCuttings D_AllCuttings  ), PySem.W.mg_of X G a28, k28, b28⟩
  have X_MeasureOf : DefX l.prog w K mg base 5 "measure_of" f27 _ ["cutting"] (spMeasX C_InvalidCutting) := ⟨(okXMeasureOf (P := l.prog) (w := w) (mg := mg) (base := base) F27 T  X_CheckCutting  ), PySem.W.mg_of X G a27, k27, b27⟩
  have X_Cuttings : DefX l.prog w K mg base 5 "cuttings" f28 _ ["measure"] (spCutsX C_InvalidMeasure C_TooMany) := ⟨(okXCuttings (P := l.prog) (w := w) (mg := mg) (base := base) F28 T E_TooMany X_HowManyCuttings D_AllCuttings  ), PySem.W.mg_of X G a28, k28, b28⟩
  have X_CuttingNumbered : DefX l.prog w K mg base 5 "cutting_numbered" f29 _ ["measure", "number"] (spNumX C_InvalidMeasure C_InvalidNumber) := ⟨(okXCuttingNumbered (P := l.prog) (w := w) (mg := mg) (base := base) F29 T E_InvalidNumber X_CheckMeasure D_AllCuttings D_IsWhole  ), PySem.W.mg_of X G a29, k29, b29⟩
  have X_CuttingNumber : DefX l.prog w K mg base 6 "cutting_number" f30 _ ["cutting"] (spBadX C_InvalidCutting) := ⟨(okXCuttingNumber (P := l.prog) (w := w) (mg := mg) (base := base) F30 T  X_MeasureOf D_Gathered  ), PySem.W.mg_of X G a30, k30, b30⟩
  have X_NextCutting : DefX l.prog w K mg base 6 "next_cutting" f31 _ ["cutting"] (spBadX C_InvalidCutting) := ⟨(okXNextCutting (P := l.prog) (w := w) (mg := mg) (base := base) F31 T  X_MeasureOf D_Gathered  ), PySem.W.mg_of X G a31, k31, b31⟩
  have X_LawAsked : DefX l.prog w K mg base 7 "_law_asked" f32 _ ["_law_which", "_law_one", "_law_more"] (spAsk11 C_InvalidCutting C_InvalidMeasure C_InvalidNumber C_TooMany) := ⟨(okXLawAsked (P := l.prog) (w := w) (mg := mg) (base := base) F32 T E_InvalidCutting E_InvalidMeasure E_InvalidNumber E_TooMany X_HowManyWithLast X_CuttingNumbered X_MeasureOf X_CuttingNumber X_NextCutting X_HowManyCuttings X_Cuttings  ), PySem.W.mg_of X G a32, k32, b32⟩
  have D_LawCaught : DefG l.prog w K mg base 8 "_law_caught" f33 _ ["_law_which", "_law_one", "_law_more"] (spCau11 K C_InvalidCutting C_InvalidMeasure C_InvalidNumber C_TooMany) := ⟨(okLawCaught (P := l.prog) (w := w) (mg := mg) (base := base) F33 T E_InvalidCutting E_InvalidMeasure E_InvalidNumber E_TooMany E_SheetError X_LawAsked KT KN ), PySem.W.mg_of X G a33, k33, b33⟩
  exact (okLaw (P := l.prog) (w := w) (mg := mg) (base := base) F34 T E_InvalidCutting E_InvalidMeasure E_InvalidNumber E_TooMany D_LawGenerator D_LawAll D_LawMeasure D_LawCaught D_LawDrawnMeasure D_LawRandom D_LawOnly D_HowManyCuttings D_Cuttings KT.nodup )
theorem walk {l : PySem.W.OpenLaw} {q : Program} {loose : List Str} {XP : (Str → Option Value) → Heap → Prop} {YP : World → Heap → Prop} {d : DefRec} {K : Params → PySem.W.Frag} (hn : l.most = some 63) (hdf : d.params.defaults = [])
    (hY : ∀ (w : World) (h : Heap), YP w h → (K w.params).In h)
    (F : ∀ (w : World) (mg : Str → Option Value) (fa : Addr) (h : Heap), (K w.params).In h → h.Ns mainGlobals mg → mg d.name = some (.ref fa) →
      ∃ fd : FuncData, (∀ (s : Shared) (u : Value), BindsTo s fd ⟨[u], []⟩ [("_law_script", u)]) ∧ ∀ base : Heap, (K w.params).In base → base.Ns mainGlobals mg → FnG l.prog w (K w.params) mg base 9 fa fd ["_law_script"] (Kx.spLaw (K w.params))) :
    PySem.W.WalkO q loose XP YP l.row.toRowW d [] (fun f vs => PySem.call f vs) :=
  Kx.walkG (n := 63) (k := 9) (x := "_law_script") (sp := fun w => Kx.spLaw (K w.params)) hn (by decide) hdf ⟨rfl, by decide, by decide⟩ hY F (fun _ _ a ns hl _ hS => ⟨a, ns, rfl, hS, hl, fun _ => rfl⟩)
end L11

open PySem PySem.W PyProof.Rows
set_option maxRecDepth 100000 in
set_option maxHeartbeats 0 in
theorem PySem.Challenge.cw_slitsheets_k11_cuttings_refused_holds : PySem.Challenge.rw_slitsheets_k11_cuttings_refused.Holds := by
  w_on; o_law; k_head; (case hw => w_witness2)
  k_fill
  refine L11.walk (l := PySem.Challenge.rw_slitsheets_k11_cuttings_refused) rfl rfl (fun w h Y => PySem.W.kIn_of Y) ?F
  case F =>
    intro w mg fa h KX G hmg
    refine' L11.all_mk KX G hmg ?a0 ?l0 ?c0 ?k0 ?a1 ?l1 ?c1 ?k1 ?a2 ?l2 ?c2 ?k2 ?a3 ?l3 ?c3 ?k3 ?a4 ?l4 ?c4 ?k4 ?a5 ?l5 ?c5 ?k5 ?a6 ?l6 ?c6 ?k6 ?a7 ?l7 ?c7 ?k7 ?a8 ?l8 ?c8 ?k8 ?a9 ?l9 ?c9 ?k9 ?a10 ?l10 ?c10 ?k10 ?a11 ?l11 ?c11 ?k11 ?a12 ?l12 ?c12 ?k12 ?a13 ?l13 ?c13 ?k13 ?a14 ?l14 ?c14 ?k14 ?a15 ?l15 ?c15 ?k15 ?a16 ?l16 ?c16 ?k16 ?a17 ?l17 ?c17 ?k17 ?a18 ?l18 ?c18 ?k18 ?a19 ?l19 ?c19 ?k19 ?a20 ?l20 ?c20 ?k20 ?a21 ?l21 ?c21 ?k21 ?a22 ?l22 ?c22 ?k22 ?a23 ?l23 ?c23 ?k23 ?a24 ?l24 ?c24 ?k24 ?a25 ?l25 ?c25 ?k25 ?a26 ?l26 ?c26 ?k26 ?a27 ?l27 ?c27 ?k27 ?a28 ?l28 ?c28 ?k28 ?a29 ?l29 ?c29 ?k29 ?a30 ?l30 ?c30 ?k30 ?a31 ?l31 ?c31 ?k31 ?a32 ?l32 ?c32 ?k32 ?a33 ?l33 ?c33 ?k33 ?a34 ?l34 ?c34 ?k34 ?z_abs ?z_all ?z_bool ?z_int ?z_isinstance ?z_len ?z_list ?z_max ?z_min ?z_range ?z_repr ?z_sorted ?z_sum ?z_tuple ?z_gcd ?z_isqrt ?z_MOST_TOLD ?aC_SheetError ?xS_SheetError ?hn_g ?ht_g ?ga_SheetError ?gg_SheetError ?hc_SheetError ?kC_SheetError ?eC_SheetError ?tC_SheetError ?hD_SheetError ?iS_SheetError ?mo_SheetError ?sv_SheetError ?aC_InvalidCutting ?xL_InvalidCutting ?sa_InvalidCutting ?nv_InvalidCutting ?iC_InvalidCutting ?tI_InvalidCutting ?l_InvalidCutting ?c_InvalidCutting ?kf_InvalidCutting ?lt_InvalidCutting ?ss_InvalidCutting ?sf_InvalidCutting ?ga_InvalidCutting ?gg_InvalidCutting ?hc_InvalidCutting ?kC_InvalidCutting ?eC_InvalidCutting ?tC_InvalidCutting ?hD_InvalidCutting ?iS_InvalidCutting ?mo_InvalidCutting ?sv_InvalidCutting ?aC_InvalidMeasure ?xL_InvalidMeasure ?sa_InvalidMeasure ?nv_InvalidMeasure ?iC_InvalidMeasure ?tI_InvalidMeasure ?l_InvalidMeasure ?c_InvalidMeasure ?kf_InvalidMeasure ?lt_InvalidMeasure ?ss_InvalidMeasure ?sf_InvalidMeasure ?ga_InvalidMeasure ?gg_InvalidMeasure ?hc_InvalidMeasure ?kC_InvalidMeasure ?eC_InvalidMeasure ?tC_InvalidMeasure ?hD_InvalidMeasure ?iS_InvalidMeasure ?mo_InvalidMeasure ?sv_InvalidMeasure ?aC_InvalidNumber ?xL_InvalidNumber ?sa_InvalidNumber ?nv_InvalidNumber ?iC_InvalidNumber ?tI_InvalidNumber ?l_InvalidNumber ?c_InvalidNumber ?kf_InvalidNumber ?lt_InvalidNumber ?ss_InvalidNumber ?sf_InvalidNumber ?ga_InvalidNumber ?gg_InvalidNumber ?hc_InvalidNumber ?kC_InvalidNumber ?eC_InvalidNumber ?tC_InvalidNumber ?hD_InvalidNumber ?iS_InvalidNumber ?mo_InvalidNumber ?sv_InvalidNumber ?aC_TooMany ?xL_TooMany ?sa_TooMany ?nv_TooMany ?iC_TooMany ?tI_TooMany ?l_TooMany ?c_TooMany ?kf_TooMany ?lt_TooMany ?ss_TooMany ?sf_TooMany ?ga_TooMany ?gg_TooMany ?hc_TooMany ?kC_TooMany ?eC_TooMany ?tC_TooMany ?hD_TooMany ?iS_TooMany ?mo_TooMany ?sv_TooMany ?p_SheetError_SheetError ?p_InvalidCutting_InvalidCutting ?p_InvalidCutting_InvalidMeasure ?p_InvalidCutting_InvalidNumber ?p_InvalidCutting_TooMany ?p_InvalidMeasure_InvalidCutting ?p_InvalidMeasure_InvalidMeasure ?p_InvalidMeasure_InvalidNumber ?p_InvalidMeasure_TooMany ?p_InvalidNumber_InvalidCutting ?p_InvalidNumber_InvalidMeasure ?p_InvalidNumber_InvalidNumber ?p_InvalidNumber_TooMany ?p_TooMany_InvalidCutting ?p_TooMany_InvalidMeasure ?p_TooMany_InvalidNumber ?p_TooMany_TooMany
    (case a0 => first | k_is | rfl)
    (case l0 => first | k_is | rfl)
    (case c0 => first | k_is | rfl)
    (case k0 => first | k_is | rfl)
    (case a1 => first | k_is | rfl)
    (case l1 => first | k_is | rfl)
    (case c1 => first | k_is | rfl)
    (case k1 => first | k_is | rfl)
    (case a2 => first | k_is | rfl)
    (case l2 => first | k_is | rfl)
    (case c2 => first | k_is | rfl)
    (case k2 => first | k_is | rfl)
    (case a3 => first | k_is | rfl)
    (case l3 => first | k_is | rfl)
    (case c3 => first | k_is | rfl)
    (case k3 => first | k_is | rfl)
    (case a4 => first | k_is | rfl)
    (case l4 => first | k_is | rfl)
    (case c4 => first | k_is | rfl)
    (case k4 => first | k_is | rfl)
    (case a5 => first | k_is | rfl)
    (case l5 => first | k_is | rfl)
    (case c5 => first | k_is | rfl)
    (case k5 => first | k_is | rfl)
    (case a6 => first | k_is | rfl)
    (case l6 => first | k_is | rfl)
    (case c6 => first | k_is | rfl)
    (case k6 => first | k_is | rfl)
    (case a7 => first | k_is | rfl)
    (case l7 => first | k_is | rfl)
    (case c7 => first | k_is | rfl)
    (case k7 => first | k_is | rfl)
    (case a8 => first | k_is | rfl)
    (case l8 => first | k_is | rfl)
    (case c8 => first | k_is | rfl)
    (case k8 => first | k_is | rfl)
    (case a9 => first | k_is | rfl)
    (case l9 => first | k_is | rfl)
    (case c9 => first | k_is | rfl)
    (case k9 => first | k_is | rfl)
    (case a10 => first | k_is | rfl)
    (case l10 => first | k_is | rfl)
    (case c10 => first | k_is | rfl)
    (case k10 => first | k_is | rfl)
    (case a11 => first | k_is | rfl)
    (case l11 => first | k_is | rfl)
    (case c11 => first | k_is | rfl)
    (case k11 => first | k_is | rfl)
    (case a12 => first | k_is | rfl)
    (case l12 => first | k_is | rfl)
    (case c12 => first | k_is | rfl)
    (case k12 => first | k_is | rfl)
    (case a13 => first | k_is | rfl)
    (case l13 => first | k_is | rfl)
    (case c13 => first | k_is | rfl)
    (case k13 => first | k_is | rfl)
    (case a14 => first | k_is | rfl)
    (case l14 => first | k_is | rfl)
    (case c14 => first | k_is | rfl)
    (case k14 => first | k_is | rfl)
    (case a15 => first | k_is | rfl)
    (case l15 => first | k_is | rfl)
    (case c15 => first | k_is | rfl)
    (case k15 => first | k_is | rfl)
    (case a16 => first | k_is | rfl)
    (case l16 => first | k_is | rfl)
    (case c16 => first | k_is | rfl)
    (case k16 => first | k_is | rfl)
    (case a17 => first | k_is | rfl)
    (case l17 => first | k_is | rfl)
    (case c17 => first | k_is | rfl)
    (case k17 => first | k_is | rfl)
    (case a18 => first | k_is | rfl)
    (case l18 => first | k_is | rfl)
    (case c18 => first | k_is | rfl)
    (case k18 => first | k_is | rfl)
    (case a19 => first | k_is | rfl)
    (case l19 => first | k_is | rfl)
    (case c19 => first | k_is | rfl)
    (case k19 => first | k_is | rfl)
    (case a20 => first | k_is | rfl)
    (case l20 => first | k_is | rfl)
    (case c20 => first | k_is | rfl)
    (case k20 => first | k_is | rfl)
    (case a21 => first | k_is | rfl)
    (case l21 => first | k_is | rfl)
    (case c21 => first | k_is | rfl)
    (case k21 => first | k_is | rfl)
    (case a22 => first | k_is | rfl)
    (case l22 => first | k_is | rfl)
    (case c22 => first | k_is | rfl)
    (case k22 => first | k_is | rfl)
    (case a23 => first | k_is | rfl)
    (case l23 => first | k_is | rfl)
    (case c23 => first | k_is | rfl)
    (case k23 => first | k_is | rfl)
    (case a24 => first | k_is | rfl)
    (case l24 => first | k_is | rfl)
    (case c24 => first | k_is | rfl)
    (case k24 => first | k_is | rfl)
    (case a25 => first | k_is | rfl)
    (case l25 => first | k_is | rfl)
    (case c25 => first | k_is | rfl)
    (case k25 => first | k_is | rfl)
    (case a26 => first | k_is | rfl)
    (case l26 => first | k_is | rfl)
    (case c26 => first | k_is | rfl)
    (case k26 => first | k_is | rfl)
    (case a27 => first | k_is | rfl)
    (case l27 => first | k_is | rfl)
    (case c27 => first | k_is | rfl)
    (case k27 => first | k_is | rfl)
    (case a28 => first | k_is | rfl)
    (case l28 => first | k_is | rfl)
    (case c28 => first | k_is | rfl)
    (case k28 => first | k_is | rfl)
    (case a29 => first | k_is | rfl)
    (case l29 => first | k_is | rfl)
    (case c29 => first | k_is | rfl)
    (case k29 => first | k_is | rfl)
    (case a30 => first | k_is | rfl)
    (case l30 => first | k_is | rfl)
    (case c30 => first | k_is | rfl)
    (case k30 => first | k_is | rfl)
    (case a31 => first | k_is | rfl)
    (case l31 => first | k_is | rfl)
    (case c31 => first | k_is | rfl)
    (case k31 => first | k_is | rfl)
    (case a32 => first | k_is | rfl)
    (case l32 => first | k_is | rfl)
    (case c32 => first | k_is | rfl)
    (case k32 => first | k_is | rfl)
    (case a33 => first | k_is | rfl)
    (case l33 => first | k_is | rfl)
    (case c33 => first | k_is | rfl)
    (case k33 => first | k_is | rfl)
    (case a34 => first | k_is | rfl)
    (case l34 => first | k_is | rfl)
    (case c34 => first | k_is | rfl)
    (case k34 => first | k_is | rfl)
    (case z_abs => first | k_is | rfl)
    (case z_all => first | k_is | rfl)
    (case z_bool => first | k_is | rfl)
    (case z_int => first | k_is | rfl)
    (case z_isinstance => first | k_is | rfl)
    (case z_len => first | k_is | rfl)
    (case z_list => first | k_is | rfl)
    (case z_max => first | k_is | rfl)
    (case z_min => first | k_is | rfl)
    (case z_range => first | k_is | rfl)
    (case z_repr => first | k_is | rfl)
    (case z_sorted => first | k_is | rfl)
    (case z_sum => first | k_is | rfl)
    (case z_tuple => first | k_is | rfl)
    (case z_gcd => first | k_is | rfl)
    (case z_isqrt => first | k_is | rfl)
    (case z_MOST_TOLD => first | k_is | rfl)
    (case aC_SheetError => first | k_is | rfl)
    (case xS_SheetError => k_exc)
    (case hn_g => first | k_is | rfl)
    (case ht_g => first | k_is | rfl)
    (case ga_SheetError => first | k_is | rfl)
    (case gg_SheetError => first | k_is | rfl)
    (case hc_SheetError => first | k_is | rfl)
    (case kC_SheetError => first | k_is | rfl)
    (case eC_SheetError => first | k_is | rfl)
    (case tC_SheetError => first | k_is | rfl)
    (case hD_SheetError => first | k_is | rfl)
    (case iS_SheetError => first | k_is | rfl)
    (case mo_SheetError => first | k_is | rfl)
    (case sv_SheetError => first | k_is | rfl)
    (case aC_InvalidCutting => first | k_is | rfl)
    (case xL_InvalidCutting => first | k_is | rfl)
    (case sa_InvalidCutting => first | k_is | rfl)
    (case nv_InvalidCutting => first | k_is | rfl)
    (case iC_InvalidCutting => first | k_is | rfl)
    (case tI_InvalidCutting => first | k_is | rfl)
    (case l_InvalidCutting => first | k_is | rfl)
    (case c_InvalidCutting => first | k_is | rfl)
    (case kf_InvalidCutting => first | k_is | rfl)
    (case lt_InvalidCutting => first | k_is | rfl)
    (case ss_InvalidCutting => first | k_is | rfl)
    (case sf_InvalidCutting => first | k_is | rfl)
    (case ga_InvalidCutting => first | k_is | rfl)
    (case gg_InvalidCutting => first | k_is | rfl)
    (case hc_InvalidCutting => first | k_is | rfl)
    (case kC_InvalidCutting => first | k_is | rfl)
    (case eC_InvalidCutting => first | k_is | rfl)
    (case tC_InvalidCutting => first | k_is | rfl)
    (case hD_InvalidCutting => first | k_is | rfl)
    (case iS_InvalidCutting => first | k_is | rfl)
    (case mo_InvalidCutting => first | k_is | rfl)
    (case sv_InvalidCutting => first | k_is | rfl)
    (case aC_InvalidMeasure => first | k_is | rfl)
    (case xL_InvalidMeasure => first | k_is | rfl)
    (case sa_InvalidMeasure => first | k_is | rfl)
    (case nv_InvalidMeasure => first | k_is | rfl)
    (case iC_InvalidMeasure => first | k_is | rfl)
    (case tI_InvalidMeasure => first | k_is | rfl)
    (case l_InvalidMeasure => first | k_is | rfl)
    (case c_InvalidMeasure => first | k_is | rfl)
    (case kf_InvalidMeasure => first | k_is | rfl)
    (case lt_InvalidMeasure => first | k_is | rfl)
    (case ss_InvalidMeasure => first | k_is | rfl)
    (case sf_InvalidMeasure => first | k_is | rfl)
    (case ga_InvalidMeasure => first | k_is | rfl)
    (case gg_InvalidMeasure => first | k_is | rfl)
    (case hc_InvalidMeasure => first | k_is | rfl)
    (case kC_InvalidMeasure => first | k_is | rfl)
    (case eC_InvalidMeasure => first | k_is | rfl)
    (case tC_InvalidMeasure => first | k_is | rfl)
    (case hD_InvalidMeasure => first | k_is | rfl)
    (case iS_InvalidMeasure => first | k_is | rfl)
    (case mo_InvalidMeasure => first | k_is | rfl)
    (case sv_InvalidMeasure => first | k_is | rfl)
    (case aC_InvalidNumber => first | k_is | rfl)
    (case xL_InvalidNumber => first | k_is | rfl)
    (case sa_InvalidNumber => first | k_is | rfl)
    (case nv_InvalidNumber => first | k_is | rfl)
    (case iC_InvalidNumber => first | k_is | rfl)
    (case tI_InvalidNumber => first | k_is | rfl)
    (case l_InvalidNumber => first | k_is | rfl)
    (case c_InvalidNumber => first | k_is | rfl)
    (case kf_InvalidNumber => first | k_is | rfl)
    (case lt_InvalidNumber => first | k_is | rfl)
    (case ss_InvalidNumber => first | k_is | rfl)
    (case sf_InvalidNumber => first | k_is | rfl)
    (case ga_InvalidNumber => first | k_is | rfl)
    (case gg_InvalidNumber => first | k_is | rfl)
    (case hc_InvalidNumber => first | k_is | rfl)
    (case kC_InvalidNumber => first | k_is | rfl)
    (case eC_InvalidNumber => first | k_is | rfl)
    (case tC_InvalidNumber => first | k_is | rfl)
    (case hD_InvalidNumber => first | k_is | rfl)
    (case iS_InvalidNumber => first | k_is | rfl)
    (case mo_InvalidNumber => first | k_is | rfl)
    (case sv_InvalidNumber => first | k_is | rfl)
    (case aC_TooMany => first | k_is | rfl)
    (case xL_TooMany => first | k_is | rfl)
    (case sa_TooMany => first | k_is | rfl)
    (case nv_TooMany => first | k_is | rfl)
    (case iC_TooMany => first | k_is | rfl)
    (case tI_TooMany => first | k_is | rfl)
    (case l_TooMany => first | k_is | rfl)
    (case c_TooMany => first | k_is | rfl)
    (case kf_TooMany => first | k_is | rfl)
    (case lt_TooMany => first | k_is | rfl)
    (case ss_TooMany => first | k_is | rfl)
    (case sf_TooMany => first | k_is | rfl)
    (case ga_TooMany => first | k_is | rfl)
    (case gg_TooMany => first | k_is | rfl)
    (case hc_TooMany => first | k_is | rfl)
    (case kC_TooMany => first | k_is | rfl)
    (case eC_TooMany => first | k_is | rfl)
    (case tC_TooMany => first | k_is | rfl)
    (case hD_TooMany => first | k_is | rfl)
    (case iS_TooMany => first | k_is | rfl)
    (case mo_TooMany => first | k_is | rfl)
    (case sv_TooMany => first | k_is | rfl)
    (case p_SheetError_SheetError => first | k_is | rfl)
    (case p_InvalidCutting_InvalidCutting => first | k_is | rfl)
    (case p_InvalidCutting_InvalidMeasure => first | k_is | rfl)
    (case p_InvalidCutting_InvalidNumber => first | k_is | rfl)
    (case p_InvalidCutting_TooMany => first | k_is | rfl)
    (case p_InvalidMeasure_InvalidCutting => first | k_is | rfl)
    (case p_InvalidMeasure_InvalidMeasure => first | k_is | rfl)
    (case p_InvalidMeasure_InvalidNumber => first | k_is | rfl)
    (case p_InvalidMeasure_TooMany => first | k_is | rfl)
    (case p_InvalidNumber_InvalidCutting => first | k_is | rfl)
    (case p_InvalidNumber_InvalidMeasure => first | k_is | rfl)
    (case p_InvalidNumber_InvalidNumber => first | k_is | rfl)
    (case p_InvalidNumber_TooMany => first | k_is | rfl)
    (case p_TooMany_InvalidCutting => first | k_is | rfl)
    (case p_TooMany_InvalidMeasure => first | k_is | rfl)
    (case p_TooMany_InvalidNumber => first | k_is | rfl)
    (case p_TooMany_TooMany => first | k_is | rfl)
