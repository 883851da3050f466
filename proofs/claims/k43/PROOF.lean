import PyProof.Rows.All
import Wide.All
import OpenK.AllK
import Wide.FinOn
import PyProof.EqAt
import PyProof.EqKinds
import PyProof.TupleCall
import HandS.ForMost
import HandS.IsInst
import HandS.Conv
import HandS.Gcd
import HandS.Wide
import HandS.WideBits
import HandS.Style
import HandS.ForExc
import Flt.RightSqrt
import HandS.OwnEq
import HandS.TupAny
import HandS.Exc
import HandS.ExcInit
import HandS.ExcField
import HandS.ExcValue
import HandS.WordsExc
import HandS.ExcIs
import KE.KExcIs
import HandS.Defaults
import HandS.Sort
import HandS.SortOrd
import HandS.SortRule
import HandS.Comp
import PySem.Challenge.RW_slitsheets_k43_tables_that_keep_crossing
set_option Elab.async false
set_option linter.all false
set_option maxRecDepth 100000
set_option maxHeartbeats 4000000
set_option exponentiation.threshold 4000
/-! Rules and words that all laws share. -/
namespace Kx
open PySem PySem.Spec PyProof.Rows L2

abbrev SV := L2.St
/-! ### a def of the text under its name -/
structure DefAt (P : Program) (w : World) (K : PySem.W.Frag) (mg : Str → Option Value) (base : Heap) (k : Nat) (x : Str) (f : Addr) (fd : FuncData) (ps : List Str) (sp : Sp) : Prop where
  F : FnOk P w K mg base CX0 k f fd ps sp
  m : mg x = some (.ref f)
  kp : PySem.W.keepIn K (.ref f) = true
  b : Binds K fd ps []
def tD (sp : Sp) (t : TA) : TE := fun σ H Q => t σ H fun vs H1 => sp vs H1 Q E0
def tDK (sp : Sp) (gV : List V → List V) (t : TA) : TE := fun σ H Q => t σ H fun zs H1 => sp (gV zs) H1 Q E0
section
variable {X : Cx} {k j : Nat} {f : Addr} {fd : FuncData} {ps ks : List Str} {sp : Sp} {x : Str} {p pos : Pos} {e : Expr} {es : List Expr} {t tk : TA} {kws : List Keyword}
theorem pe_d (D : DefAt X.prog X.w X.K X.mg X.base k x f fd ps sp) (hr : Room j X.A) (ha : PA X (e :: es) t) (hkj : k ≤ j := by decide) (hg : Gl X x := by rfl) (hdb : (x == ("__debug__" : Str)) = false := by decide)
    (he : starEach (e :: es) X.env = (false, eval e X.env) :: starEach es X.env := by rfl) (hpl : (backTo pos (starEach es X.env)).any (·.1) = false := by rfl) : PE X (.Call (.Name x p) (e :: es) [] pos) (tD sp t) := by
  refine ⟨fun pins s σ H Q I h => ?_⟩
  refine (pe_call (dvs := []) D.F (hr.mono hkj) hg D.m D.kp D.b .nil pass0 ha hdb he hpl).run pins s σ H Q I ?_
  have e : (tCall sp [] E0 t) = tD sp t := by funext a b c; unfold tCall tD; simp only [List.append_nil]
  rw [e]
  exact h
/-- how a call by keywords alone binds -/
structure KB0 (K : PySem.W.Frag) (fd : FuncData) (ps ks : List Str) (g : List Value → List Value) (gV : List V → List V) : Prop where
  to : ∀ (s : Shared) (ws : List Value), ws.length = ks.length → BindsTo s fd ⟨[], ks.zip ws⟩ (ps.zip (g ws))
  rel : ∀ {zs : List V} {ws : List Value}, zs.length = ks.length → Vals zs ws → Vals (gV zs) (g ws)
  ln : ∀ zs : List V, (gV zs).length = ps.length → zs.length = ks.length
/-- f(k = v, ..): keywords alone -/
theorem pe_dk {g : List Value → List Value} {gV : List V → List V} (D : DefAt X.prog X.w X.K X.mg X.base k x f fd ps sp) (hr : Room j X.A) (hb : KB0 X.K fd ps ks g gV) (hkw : PK X kws tk) (hkj : k ≤ j := by decide) (hg : Gl X x := by rfl)
    (hall : (backToKw pos (keywordEach kws X.env)).all (·.1.isSome) = true := by rfl) (hks : (backToKw pos (keywordEach kws X.env)).filterMap (·.1) = ks := by rfl) (hdb : (x == ("__debug__" : Str)) = false := by decide)
    (hpl : ((backTo pos (starEach [] X.env)).any (·.1) || (backToKw pos (keywordEach kws X.env)).any (·.1.isNone)) = false := by rfl) :
    PE X (.Call (.Name x p) [] kws pos) (tDK sp gV tk) := by
  refine ⟨fun pins s σ H Q I h => ?_⟩
  refine wpAny_Call_Name_kw (ld_glob I hg D.m ?_ hdb)
  refine PySem.W.callWith_KW0 (h₀ := X.base) I.ok.mod.kin D.kp hall ?_ hpl
  refine thn (hkw.run pos pins s σ H _ I h) fun ws s2 ⟨zs, H2, I2, rz, q2⟩ => ⟨I2.kIn, ?_⟩
  rw [hks]
  have lz := hb.ln zs (D.F.len _ _ _ _ q2)
  have b := hb.to s2 ws (rz.length.symm.trans lz)
  refine wpAny_call (codeAny_mono (D.F.run X.A X.stack s2 H2 ⟨[], ks.zip ws⟩ (g ws) (gV zs) Q E0 (hr.mono hkj) I2.env0 b (hb.rel lz rz) q2) fun r s' hq => ?_)
  cases r with
  | error e => exact (hq : False).elim
  | ok fl =>
    cases fl with
    | ret u => exact I2.after hq
    | next => exact False.elim hq
    | brk => exact False.elim hq
    | cont => exact False.elim hq
theorem kb_mk {K : PySem.W.Frag} {x qual : Str} {st : Stmt} {f : Addr} {fd : FuncData} {ps ks : List Str} {g : List Value → List Value} {gV : List V → List V} (F : Fun K x qual st f fd)
    (h : ∀ (kV doc pm : Value) (an : Option Addr) (cdv ct : Value) (ws : List Value), ws.length = ks.length → bindArgs (PySem.W.fnOf x qual (defArgs st) (defBody st) (defScope st) .none kV doc pm an cdv ct) ⟨[], ks.zip ws⟩ = pure (ps.zip (g ws)))
    (hr : ∀ {zs : List V} {ws : List Value}, zs.length = ks.length → Vals zs ws → Vals (gV zs) (g ws)) (hl : ∀ zs : List V, (gV zs).length = ps.length → zs.length = ks.length) : KB0 K fd ps ks g gV := by
  obtain ⟨oc, od, kV, doc, pm, an, cdv, ct, osl, rfl, lk, hcd⟩ := F.ex
  exact ⟨fun s ws hw => .of_eq (h kV doc pm an cdv ct ws hw), hr, hl⟩
end

/-! ### numbers -/
/-- a divisor but 0 of at most 9000 bits -/
def DivOk (j : Int) : Prop := j ≠ 0 ∧ j.natAbs.log2 < 9000
def PowOk (i j : Int) : Prop := 0 ≤ j ∧ (Builtin.Int.intBits i : Int) * j ≤ 2 ^ 27
section
variable {X : Cx}
theorem op_fdivX : OpR X (binaryOp .FloorDiv) (rI (fun _ j => DivOk j) fun i j => .int (i.fdiv j)) := opI fun i j _ _ _ _ _ hc q =>
  floordiv_int hc.1 q (.inl (PyProof.noPylong_of_log2 hc.2))
theorem op_mulU : OpR X (binaryOp .Mult) (rI IntMulOk fun i j => .int (i * j)) := opI fun _ _ _ _ _ _ _ hc q => mul_int q hc
/-- ** of numbers whose power has at most 2 ^ 27 bits -/
theorem op_powX : OpR X (binaryOp .Pow) (rI PowOk fun i j => .int (i ^ j.toNat)) := opI fun _ _ _ _ _ _ _ hc q => pow_int hc.1 hc.2 q
/-- math.isqrt -/
def rt (n : Int) : Int := ((Float64.isqrt n.toNat : Nat) : Int)
theorem cr_isqrt : CallR X (.builtin "math.isqrt") (fun vs H Q => ∃ a : Int, vs = [.int a] ∧ 0 ≤ a ∧ a.toNat.log2 < 13000 ∧ Q (.int (rt a)) H) := by
  intro pins s σ H vs us Q I r h
  obtain ⟨a, rfl, h0, h1, q⟩ := h
  obtain ⟨u, rfl, t, rfl⟩ := vals1 r
  exact call_function_meets PySem.W.MGF.kind_isqrt PySem.W.MGF.plain_isqrt PySem.W.MGF.entry_isqrt (PySem.W.MGF.args_isqrt _) (PySem.W.mg_run_isqrt a t (by omega) (by omega) (by omega)).meets ⟨.int _, H, I.tok _, ⟨_, rfl⟩, q⟩
theorem cr_int : CallR X (.type "int") (fun xs H Q => ∃ i, xs = [.int i] ∧ Q (.int i) H) := fun pins s σ H xs us Q I r h => call_int1 pins s σ H xs us Q I r (.inl h)
/-- repr of a number, of True, False, None -/
def flatText : V → Option Str
  | .int i => if i.natAbs.log2 < 1920 then some (toString i) else none
  | .bl b => some (if b then "True" else "False")
  | .non => some "None"
  | _ => none
theorem cr_repr : CallR X (.builtin "repr") (fun vs H Q => ∃ (x : V) (z : Str), vs = [x] ∧ flatText x = some z ∧ Q (.str z) H) := by
  intro pins s σ H vs us Q I r h
  obtain ⟨x, z, rfl, hz, q⟩ := h
  obtain ⟨u, rfl, rx⟩ := vals1 r
  cases x with
  | int i =>
    obtain ⟨t, rfl⟩ := rx
    have hz2 : (if i.natAbs.log2 < 1920 then some (toString i : Str) else Option.none) = some z := hz
    by_cases hl : i.natAbs.log2 < 1920
    · rw [if_pos hl] at hz2
      have hz3 := Option.some.inj hz2
      subst hz3
      exact PySem.P.repr_of_int hl ⟨.str _, H, I.tok _, ⟨_, rfl⟩, q⟩
    · rw [if_neg hl] at hz2
      cases hz2
  | bl b =>
    cases rx
    cases hz
    exact PySem.P.repr_of_bool ⟨.str _, H, I.tok _, ⟨_, rfl⟩, q⟩
  | non =>
    cases rx
    cases hz
    exact PySem.P.repr_of_none ⟨.str _, H, I.tok _, ⟨_, rfl⟩, q⟩
  | str _ => cases hz
  | byt _ => cases hz
  | flt _ => cases hz
  | ref _ => cases hz
  | ty _ => cases hz
end

/-! ### loops, opened by hand -/
section
variable {wi : TI} {g : TG} {tb : TS} {D : Ends} {σ : SV} {H : Hp} {c : TT} {tt : TT} {te : TE} {vs : List Nat}
def ForW (J : It) (g : TG) (tb : TS) (D : Ends) (σ : SV) (H1 : Hp) : Prop := ∃ W : Nat → Nat → SV → Hp → Prop, (∃ m, W 0 m σ H1) ∧ ∀ i m σ H, W i m σ H →
  (J.stop i H ∧ D.nx σ H) ∨ (J.go i H ∧ ∃ N : SV → Hp → Prop, (∀ σ' H', N σ' H' → ∃ m', m' < m ∧ W (i + 1) m' σ' H') ∧ ∀ x H', J.yld i H x H' → g x σ H' fun σ2 H2 => tb { D with nx := N, ct := N, bk := D.nx } σ2 H2)
theorem tFor_eq : tFor wi g tb = fun D σ H => wi σ H fun J H1 => ForW J g tb D σ H1 := rfl
theorem forW_range {n : Nat} {lo : Int} (Pv : Nat → SV → Hp → Prop) (h0 : Pv 0 σ H) (hs : ∀ i σ' H', i < n → Pv i σ' H' → g (.int (lo + i)) σ' H' fun σ2 H2 => tb { D with nx := Pv (i + 1), ct := Pv (i + 1), bk := D.nx } σ2 H2)
    (hd : ∀ σ' H', Pv n σ' H' → D.nx σ' H') : ForW (Itr lo n) g tb D σ H := for_range Pv h0 hs hd
theorem forW_list {K : PySem.W.Frag} {a : Addr} {xs : List V} (Pv : Nat → SV → Hp → Prop) (h0 : Pv 0 σ H) (hl : ∀ i σ H, i ≤ xs.length → Pv i σ H → SqL K H a xs)
    (hs : ∀ i x σ' H', xs[i]? = some x → Pv i σ' H' → g x σ' H' fun σ2 H2 => tb { D with nx := Pv (i + 1), ct := Pv (i + 1), bk := D.nx } σ2 H2) (hd : ∀ σ' H', Pv xs.length σ' H' → D.nx σ' H') : ForW (Itl K a) g tb D σ H := for_list Pv h0 hl hs hd
theorem forW_tup {K : PySem.W.Frag} {a : Addr} {xs : List V} (Pv : Nat → SV → Hp → Prop) (h0 : Pv 0 σ H) (hl : ∀ i σ H, i ≤ xs.length → Pv i σ H → SqT K H a xs)
    (hs : ∀ i x σ' H', xs[i]? = some x → Pv i σ' H' → g x σ' H' fun σ2 H2 => tb { D with nx := Pv (i + 1), ct := Pv (i + 1), bk := D.nx } σ2 H2) (hd : ∀ σ' H', Pv xs.length σ' H' → D.nx σ' H') : ForW (Itt K a) g tb D σ H := for_tup Pv h0 hl hs hd
def WStep (W : Nat → SV → Hp → Prop) (m : Nat) (tb : TS) (D : Ends) (σ : SV) (H1 : Hp) : Prop := ∃ N : SV → Hp → Prop, (∀ σ' H', N σ' H' → ∃ m', m' < m ∧ W m' σ' H') ∧ tb { D with nx := N, ct := N, bk := D.nx } σ H1
theorem whileI (Pv : SV → Hp → Prop) (μ : SV → Hp → Nat) (h0 : Pv σ H) (hs : ∀ σ' H', Pv σ' H' → c σ' H' fun b H1 => if b = true then WStep (fun m σ H => m = μ σ H ∧ Pv σ H) (μ σ' H') tb D σ' H1 else D.nx σ' H1) : tWhile c tb D σ H :=
  ⟨fun m σ H => m = μ σ H ∧ Pv σ H, ⟨_, rfl, h0⟩, by
    rintro m σ1 H1 ⟨rfl, p⟩
    exact hs σ1 H1 p⟩
theorem wstep {Pv : SV → Hp → Prop} {μ : SV → Hp → Nat} {m : Nat} {H1 : Hp} (h : tb { D with nx := fun σ' H' => Pv σ' H' ∧ μ σ' H' < m, ct := fun σ' H' => Pv σ' H' ∧ μ σ' H' < m, bk := D.nx } σ H1) : WStep (fun m σ H => m = μ σ H ∧ Pv σ H) m tb D σ H1 :=
  ⟨_, fun σ' H' z => ⟨_, z.2, rfl, z.1⟩, h⟩
def LcW (J : It) (g : TG) (tt : TT) (te : TE) (vs : List Nat) (D : Addr) (σ : SV) (H1 : Hp) (Q : VK) : Prop := ∃ W : Nat → Nat → Hp → Prop, (∃ m, W 0 m (upd H1 D (.lst []))) ∧ ∀ i m H, W i m H →
  (J.stop i H ∧ Q (.ref D) H) ∨ (J.go i H ∧ ∃ Ny : Hp → Prop, (∀ H', Ny H' → ∃ m', m' < m ∧ W (i + 1) m' H') ∧ ∀ x H', J.yld i H x H' → g x (wipe σ vs) H' fun σ2 H2 => wipe σ2 vs = wipe σ vs ∧ tt σ2 H2 fun b H3 =>
    if b = true then te σ2 H3 fun y H4 => ∃ acc, H4 D = some (.lst acc) ∧ acc.length < sizeLine ∧ Ny (upd H4 D (.lst (acc ++ [y]))) else Ny H3)
theorem tLc_eq : tLc wi g tt te vs = fun σ H Q => wi σ H fun J H1 => ∀ D, H1 D = none → LcW J g tt te vs D σ H1 Q := rfl
section
variable {Dd : Addr} {Q : VK}
theorem lcW_range {n : Nat} {lo : Int} (Pv : Nat → Hp → Prop) (h0 : Pv 0 (upd H Dd (.lst [])))
    (hs : ∀ i H, i < n → Pv i H → g (.int (lo + i)) (wipe σ vs) H fun σ2 H2 => wipe σ2 vs = wipe σ vs ∧ tt σ2 H2 fun b H3 =>
      if b = true then te σ2 H3 fun y H4 => ∃ acc, H4 Dd = some (.lst acc) ∧ acc.length < sizeLine ∧ Pv (i + 1) (upd H4 Dd (.lst (acc ++ [y]))) else Pv (i + 1) H3) (hd : ∀ H, Pv n H → Q (.ref Dd) H) : LcW (Itr lo n) g tt te vs Dd σ H Q := lc_range Pv h0 hs hd
theorem lcW_list {K : PySem.W.Frag} {a : Addr} {xs : List V} (Pv : Nat → Hp → Prop) (h0 : Pv 0 (upd H Dd (.lst []))) (hl : ∀ i H, i ≤ xs.length → Pv i H → SqL K H a xs)
    (hs : ∀ i x H, xs[i]? = some x → Pv i H → g x (wipe σ vs) H fun σ2 H2 => wipe σ2 vs = wipe σ vs ∧ tt σ2 H2 fun b H3 =>
      if b = true then te σ2 H3 fun y H4 => ∃ acc, H4 Dd = some (.lst acc) ∧ acc.length < sizeLine ∧ Pv (i + 1) (upd H4 Dd (.lst (acc ++ [y]))) else Pv (i + 1) H3) (hd : ∀ H, Pv xs.length H → Q (.ref Dd) H) : LcW (Itl K a) g tt te vs Dd σ H Q := lc_list Pv h0 hl hs hd
theorem lcW_tup {K : PySem.W.Frag} {a : Addr} {xs : List V} (Pv : Nat → Hp → Prop) (h0 : Pv 0 (upd H Dd (.lst []))) (hl : ∀ i H, i ≤ xs.length → Pv i H → SqT K H a xs)
    (hs : ∀ i x H, xs[i]? = some x → Pv i H → g x (wipe σ vs) H fun σ2 H2 => wipe σ2 vs = wipe σ vs ∧ tt σ2 H2 fun b H3 =>
      if b = true then te σ2 H3 fun y H4 => ∃ acc, H4 Dd = some (.lst acc) ∧ acc.length < sizeLine ∧ Pv (i + 1) (upd H4 Dd (.lst (acc ++ [y]))) else Pv (i + 1) H3) (hd : ∀ H, Pv xs.length H → Q (.ref Dd) H) : LcW (Itt K a) g tt te vs Dd σ H Q := lc_tup Pv h0 hl hs hd
end
end

/-! ### items of what is tracked -/
section
variable {X : Cx}
theorem ixL : IxR X (fun x y H Q => ∃ p xs i v, x = .ref p ∧ y = .int i ∧ H p = some (.lst xs) ∧ atI xs i = some v ∧ Q v H) := by
  intro value slice pins s σ H x y v u Q I rx ry h hs
  obtain ⟨p, xs, i, z, e1, e2, h1, h2, q⟩ := h
  exact ix_list value slice pins s σ H x y v u Q I rx ry ⟨p, xs, i, z, e1, e2, SqL.of h1, h2, q⟩ hs
theorem ixT : IxR X (fun x y H Q => ∃ p xs i v, x = .ref p ∧ y = .int i ∧ H p = some (.tup xs) ∧ atI xs i = some v ∧ Q v H) := by
  intro value slice pins s σ H x y v u Q I rx ry h hs
  obtain ⟨p, xs, i, z, e1, e2, h1, h2, q⟩ := h
  exact ix_tup value slice pins s σ H x y v u Q I rx ry ⟨p, xs, i, z, e1, e2, SqT.of h1, h2, q⟩ hs
end
/-- a, b, .. = a tracked tuple of n items -/
def gT (n : Nat) (t : TGs) : TG := fun v σ H Q => ∃ a xs, v = .ref a ∧ H a = some (.tup xs) ∧ xs.length = n ∧ t xs σ H Q
theorem pg_tupT {X : Cx} {es : List Expr} {k : Nat} {t : TGs} {pos : Pos} (n : Nat) (hc : X.calm = true) (h : PGs X es t) (hn : (assignEach es X.env).length = n := by rfl) (hst : (assignEach es X.env).findIdx? (·.1) = none := by rfl) : PG X (.Tuple es k pos) (gT n t) := by
  refine ⟨fun pins s σ H v u Q I r hw => ?_⟩
  obtain ⟨a, xs, e1, hq, hl, hw⟩ := hw
  exact (pg_tup hc h hn hst).run pins s σ H v u Q I r ⟨a, xs, e1, SqT.of hq, hl, hw⟩
/-- a, b, .. = a tracked list of n items -/
def gL (n : Nat) (t : TGs) : TG := fun v σ H Q => ∃ a xs, v = .ref a ∧ H a = some (.lst xs) ∧ xs.length = n ∧ t xs σ H Q
theorem pg_lstT {X : Cx} {es : List Expr} {k : Nat} {t : TGs} {pos : Pos} (n : Nat) (hc : X.calm = true) (h : PGs X es t) (hn : (assignEach es X.env).length = n := by rfl) (hst : (assignEach es X.env).findIdx? (·.1) = none := by rfl) : PG X (.Tuple es k pos) (gL n t) := by
  refine ⟨fun pins s σ H v u Q I r hw => ?_⟩
  obtain ⟨a, xs, e1, hq, hl, hw⟩ := hw
  exact (pg_lst hc h hn hst).run pins s σ H v u Q I r ⟨a, xs, e1, SqL.of hq, hl, hw⟩
theorem lenL {X : Cx} : CallR X (.builtin "len") (fun xs H Q => ∃ p ys, xs = [.ref p] ∧ H p = some (.lst ys) ∧ Q (.int ys.length) H) := by
  intro pins s σ H xs us Q I r h
  obtain ⟨p, ys, e, h1, q⟩ := h
  exact call_len_seq pins s σ H xs us Q I r ⟨p, ys, e, .inl (SqL.of h1), q⟩
theorem lenT {X : Cx} : CallR X (.builtin "len") (fun xs H Q => ∃ p ys, xs = [.ref p] ∧ H p = some (.tup ys) ∧ Q (.int ys.length) H) := by
  intro pins s σ H xs us Q I r h
  obtain ⟨p, ys, e, h1, q⟩ := h
  exact call_len_seq pins s σ H xs us Q I r ⟨p, ys, e, .inr (SqT.of h1), q⟩
theorem cxK {CX : CXT} {P : Program} {w : World} {K : PySem.W.Frag} {mg : Str → Option Value} {base : Heap} {N : List Str} {qual : Str} {sc : Scope} {f : Addr} {cd : Value} {A : Around} {outer : List Env} {s : Shared} {H : Hp} {E : XK} : (cxOf CX P w K mg base N qual sc f cd A outer s H E).K = K := rfl
theorem atI_0 {α : Type} {x : α} {l : List α} : atI (x :: l) 0 = some x := atI_nat (j := 0) rfl
theorem atI_1 {α : Type} {x y : α} {l : List α} : atI (x :: y :: l) 1 = some y := atI_nat (j := 1) rfl
theorem atI_2 {α : Type} {x y z : α} {l : List α} : atI (x :: y :: z :: l) 2 = some z := atI_nat (j := 2) rfl
theorem atI_3 {α : Type} {x y z u : α} {l : List α} : atI (x :: y :: z :: u :: l) 3 = some u := atI_nat (j := 3) rfl
theorem ixN_30 : ixN 3 0 = some 0 := by decide
theorem ixN_31 : ixN 3 1 = some 1 := by decide
theorem ixN_32 : ixN 3 2 = some 2 := by decide

/-! ### sizes -/
theorem cmw {i j : Int} (h1 : -(2 ^ 2500) < i) (h2 : i < 2 ^ 2500) (h3 : -(2 ^ 2500) < j) (h4 : j < 2 ^ 2500) : IntMulOk i j :=
  CMulW.ok (wide_mul (a := 2500) (b := 2500) (by omega) (by omega) (by decide) (by decide) (by decide))
theorem cmr {i j : Int} (h1 : -(2 ^ 64) < j) (h2 : j < 2 ^ 64) : IntMulOk i j := CMul.ok (.inr ⟨h1, h2⟩)
theorem cml {i j : Int} (h1 : -(2 ^ 64) < i) (h2 : i < 2 ^ 64) : IntMulOk i j := CMul.ok (.inl ⟨h1, h2⟩)
theorem cpow {i : Int} {j : Int} (h0 : 0 ≤ j) (h1 : j ≤ 1000) (h2 : -(2 ^ 2500) < i) (h3 : i < 2 ^ 2500) : PowOk i j := by
  have h := PyProof.Rows.intBits_le (show i.natAbs < 2 ^ 2500 by omega)
  refine ⟨h0, ?_⟩
  have h4 : (Builtin.Int.intBits i : Int) ≤ 2500 := by omega
  have h5 := Int.mul_le_mul h4 h1 h0 (by decide)
  exact Int.le_trans h5 (by decide)
theorem cdiv {j : Int} (h0 : j ≠ 0) (h1 : -(2 ^ 2500) < j) (h2 : j < 2 ^ 2500) : DivOk j :=
  ⟨h0, Nat.lt_of_lt_of_le (PySem.Flt.log2_lt_of (by decide) (show j.natAbs < 2 ^ 2500 by omega)) (by decide)⟩

theorem cut1 (xs : List V) : cutV xs none (some 1) = xs.take 1 := by
  unfold cutV
  cases xs with
  | nil => rfl
  | cons x l =>
    have e : HT.sIx (x :: l).length (x :: l).length (some 1) = 1 := by simp [HT.sIx]
    have e2 : HT.sIx (x :: l).length 0 (Option.none) = 0 := rfl
    rw [e, e2]
    rfl
/-! ### the draws -/
def Keep (g : Addr) (H H' : Hp) : Prop := ∀ b o, b ≠ g → H b = some o → H' b = some o
theorem Keep.refl (g : Addr) (H : Hp) : Keep g H H := fun _ _ _ h => h
theorem Keep.trans {g : Addr} {H H1 H2 : Hp} (a : Keep g H H1) (b : Keep g H1 H2) : Keep g H H2 := fun c o n h => b c o n (a c o n h)
theorem Keep.of {g : Addr} {H H' : Hp} (a : Same H H') : Keep g H H' := fun c o _ h => a c o h
theorem Same.upd {H : Hp} {a : Addr} {o : HO} (h : H a = none) : Same H (upd H a o) := fun b u e => by
  rw [upd_ne (ne_of_none e h)]
  exact e
theorem Same.upd2 {H H1 : Hp} {a : Addr} {o : HO} (s : Same H H1) (h : H a = none) : Same H (L2.upd H1 a o) := fun b u e => by
  rw [upd_ne (ne_of_none e h)]
  exact s b u e
def GenAt (H : Hp) (g : Addr) (k : Nat) : Prop := ∃ a b c : Int, H g = some (.lst [.int a, .int b, .int c]) ∧ 0 ≤ a ∧ a < 2 ^ 2000 ∧ 0 ≤ b ∧ b < 2 ^ 32 ∧ 0 ≤ c ∧ c ≤ k
theorem GenAt.mono {H : Hp} {g : Addr} {j k : Nat} (h : GenAt H g j) (l : j ≤ k) : GenAt H g k := by
  obtain ⟨a, b, c, e, h1, h2, h3, h4, h5, h6⟩ := h
  exact ⟨a, b, c, e, h1, h2, h3, h4, h5, by omega⟩
theorem GenAt.same {H H' : Hp} {g : Addr} {k : Nat} (h : GenAt H g k) (s : Same H H') : GenAt H' g k := by
  obtain ⟨a, b, c, e, r⟩ := h
  exact ⟨a, b, c, s _ _ e, r⟩
def spHash : Sp := fun vs H Q _ => ∃ a i : Int, vs = [.int a, .int i] ∧ 0 ≤ a ∧ a < 2 ^ 32 ∧ 0 ≤ i ∧ i < 2 ^ 60 ∧ ∀ h : Int, 0 ≤ h → h < 2147483647 → Q (.int h) H
def spRandom : Sp := fun vs H Q _ => ∃ (g : Addr) (n : Int) (k : Nat), vs = [.ref g, .int n] ∧ GenAt H g k ∧ k ≤ 2 ^ 40 ∧ 1 ≤ n ∧ n < 2 ^ 300 ∧ ∀ (r : Int) (H' : Hp), 0 ≤ r → r < n → GenAt H' g (k + 20) → Keep g H H' → Q (.int r) H'
def spCell (K : PySem.W.Frag) : Sp := fun vs H Q _ => ∃ (a : Addr) (ns : List Int) (i : Int), vs = [.ref a, .int i] ∧ SqL K H a (ns.map V.int) ∧ 0 ≤ i ∧ i < 100 ∧ ∀ (r : Int) (H' : Hp), Same H H' → Q (.int r) H'
def spGen (K : PySem.W.Frag) : Sp := fun vs H Q _ => ∃ (a : Addr) (ns : List Int) (i : Int), vs = [.ref a, .int i] ∧ SqL K H a (ns.map V.int) ∧ 0 ≤ i ∧ i < 100 ∧ ∀ (g : Addr) (H' : Hp), H g = none → Same H H' → GenAt H' g 100000 → Q (.ref g) H'
/-- a def of two ints that hands back an int reckoned by F -/
def gcdI (a b : Int) : Int := ((Nat.gcd a.natAbs b.natAbs : Nat) : Int)
def spCommon : Sp := fun vs H Q _ => ∃ a b : Int, vs = [.int a, .int b] ∧ Q (.int (gcdI a b)) H
def spRoot : Sp := fun vs H Q _ => ∃ n : Int, vs = [.int n] ∧ 0 ≤ n ∧ n < 2 ^ 2000 ∧ ∀ H', Same H H' → Q (.int (rt n)) H'

/-- the number in a slot, for a measure -/
def slotN (σ : SV) (i : Nat) : Nat := match σ[i]? with
  | some (some (.int v)) => v.toNat
  | _ => 0
theorem gcdI_step {x y : Int} (hx : 0 ≤ x) (hy : 0 < y) : gcdI y (x % y) = gcdI x y := by
  unfold gcdI
  have e : (x % y).natAbs = x.natAbs % y.natAbs := by
    have h1 := Int.emod_nonneg x (show y ≠ 0 by omega)
    have h2 : ((x.natAbs % y.natAbs : Nat) : Int) = x % y := by
      rw [Int.natCast_emod, Int.natAbs_of_nonneg hx, Int.natAbs_of_nonneg (by omega)]
    omega
  rw [e, Nat.gcd_comm, ← Nat.gcd_rec, Nat.gcd_comm]
theorem gcdI_zero {x : Int} (hx : 0 ≤ x) : gcdI x 0 = x := by
  unfold gcdI
  rw [show (0 : Int).natAbs = 0 from rfl, Nat.gcd_zero_right]
  omega
theorem gcdI_abs (a b : Int) : gcdI (if a < 0 then -a else a) (if b < 0 then -b else b) = gcdI a b := by
  unfold gcdI
  have h : ∀ z : Int, (if z < 0 then -z else z).natAbs = z.natAbs := fun z => by split <;> omega
  rw [h, h]
theorem rt_spec {n : Int} (h : 0 ≤ n) : 0 ≤ rt n ∧ rt n * rt n ≤ n ∧ n < (rt n + 1) * (rt n + 1) := by
  obtain ⟨m, rfl⟩ := Int.eq_ofNat_of_zero_le h
  have q := PySem.Float64.isqrt_spec m
  unfold rt
  rw [Int.toNat_natCast]
  refine ⟨Int.natCast_nonneg _, ?_, ?_⟩
  · exact_mod_cast q.1
  · exact_mod_cast q.2
theorem sq_mono {x y : Int} (h : 0 ≤ x) (h2 : x ≤ y) : x * x ≤ y * y := Int.mul_le_mul h2 h2 h (by omega)
theorem rt_unique {n r : Int} (h : 0 ≤ n) (h0 : 0 ≤ r) (h1 : r * r ≤ n) (h2 : n < (r + 1) * (r + 1)) : r = rt n := by
  obtain ⟨s0, s1, s2⟩ := rt_spec h
  have a : ¬ r + 1 ≤ rt n := fun z => by
    have q := sq_mono (by omega) z
    omega
  have b : ¬ rt n + 1 ≤ r := fun z => by
    have q := sq_mono (by omega) z
    omega
  omega
theorem lg {n : Int} (h : n < 2 ^ 3900) : n.toNat.log2 < 13000 := by
  by_cases h0 : n.toNat = 0
  · rw [h0]; decide
  · have h2 : n.toNat < 2 ^ 3900 := by omega
    have := (Nat.log2_lt h0).mpr h2
    omega
theorem rGcd_eq : rGcd = fun vs H Q => ∃ a b : Int, vs = [.int a, .int b] ∧ Q (.int (gcdI a b)) H := rfl
theorem scal_ii {a b : Int} : scal (.int a) (.int b) = true := rfl
theorem scal_bb {a b : Bool} : scal (.bl a) (.bl b) = true := rfl
theorem scal_ss {a b : Str} : scal (.str a) (.str b) = true := rfl
end Kx

set_option Elab.async false
set_option linter.all false
set_option maxRecDepth 100000
set_option maxHeartbeats 4000000
set_option exponentiation.threshold 4000
/-! Root numbers as plain functions. -/
namespace Kx
open PySem

def Sq (D : Int) : Prop := rt D * rt D = D
instance (D : Int) : Decidable (Sq D) := by unfold Sq; infer_instance
def sgn (x : Int) : Int := if x = 0 then 0 else if 0 < x then 1 else -1
def sideF (D x y : Int) : Int :=
  if x = 0 ∧ y = 0 then 0 else if 0 ≤ x ∧ 0 ≤ y then 1 else if x ≤ 0 ∧ y ≤ 0 then -1 else
  if x * x - D * y * y = 0 then 0 else if (decide (0 < x * x - D * y * y) = decide (0 < x)) then 1 else -1
def sideP (D x y : Int) : Int := if D * y * y < x * x then sgn x else sgn y
theorem sq_of {D x y : Int} (hD : 0 ≤ D) (hy : y ≠ 0) (h : x * x = D * y * y) : Sq D := by
  have hyn : 0 < y.natAbs := Int.natAbs_pos.mpr hy
  obtain ⟨m, rfl⟩ := Int.eq_ofNat_of_zero_le hD
  have hn : x.natAbs * x.natAbs = m * (y.natAbs * y.natAbs) := by
    have e := congrArg Int.natAbs h
    rw [Int.natAbs_mul, Int.natAbs_mul, Int.natAbs_mul, Int.natAbs_natCast, Nat.mul_assoc] at e
    exact e
  have hd : y.natAbs ∣ x.natAbs := by
    have h1 : y.natAbs ^ 2 ∣ x.natAbs ^ 2 := ⟨m, by rw [Nat.pow_two, Nat.pow_two, hn]; exact Nat.mul_comm _ _⟩
    exact (Nat.pow_dvd_pow_iff (by decide)).mp h1
  obtain ⟨k, hk⟩ := hd
  have hm : k * k = m := by
    rw [hk] at hn
    have e : y.natAbs * y.natAbs * (k * k) = y.natAbs * y.natAbs * m := by
      rw [Nat.mul_comm (y.natAbs * y.natAbs) m, ← hn]
      simp only [Nat.mul_assoc, Nat.mul_left_comm]
    exact Nat.eq_of_mul_eq_mul_left (Nat.mul_pos hyn hyn) e
  have e : ((k : Nat) : Int) = rt (m : Int) := by
    refine rt_unique (Int.natCast_nonneg _) (Int.natCast_nonneg _) ?_ ?_
    · rw [← hm]
      exact Int.le_of_eq (Int.natCast_mul k k).symm
    · rw [← hm]
      have : (((k * k : Nat)) : Int) = (k : Int) * (k : Int) := Int.natCast_mul k k
      rw [this]
      have h2 : ((k : Int) + 1) * ((k : Int) + 1) = (k : Int) * k + 2 * k + 1 := by grind
      omega
  unfold Sq
  rw [← e, ← hm]
  exact (Int.natCast_mul k k).symm
theorem dyy_nn {D y : Int} (hD : 0 ≤ D) : 0 ≤ D * y * y := by
  rw [Int.mul_assoc]
  exact Int.mul_nonneg hD (by
    rcases Int.le_total 0 y with h | h
    · exact Int.mul_nonneg h h
    · exact Int.mul_nonneg_of_nonpos_of_nonpos h h)
theorem dyy_pos {D y : Int} (hD : 0 < D) (hy : y ≠ 0) : 0 < D * y * y := by
  have h1 : 0 < y * y := by
    rcases Int.lt_or_gt_of_ne hy with h | h
    · exact Int.mul_pos_of_neg_of_neg h h
    · exact Int.mul_pos h h
  rw [Int.mul_assoc]
  exact Int.mul_pos hD h1
theorem xx_pos {x : Int} (hx : x ≠ 0) : 0 < x * x := by
  rcases Int.lt_or_gt_of_ne hx with h | h
  · exact Int.mul_pos_of_neg_of_neg h h
  · exact Int.mul_pos h h
theorem side_eq {D x y : Int} (hD : 0 < D) (h : y = 0 ∨ ¬ Sq D) : sideP D x y = sideF D x y := by
  have hne : y ≠ 0 → x * x ≠ D * y * y := fun hy e => by
    rcases h with h | h
    · exact hy h
    · exact h (sq_of (by omega) hy e)
  have f1 : x = 0 → x * x = 0 := fun e => by rw [e]; rfl
  have f2 : x ≠ 0 → 0 < x * x := xx_pos
  have f3 : y = 0 → D * y * y = 0 := fun e => by rw [e, Int.mul_zero]
  have f4 : y ≠ 0 → 0 < D * y * y := dyy_pos hD
  unfold sideP sideF sgn
  simp only [decide_eq_decide]
  generalize x * x = u at *
  generalize D * y * y = v at *
  repeat' split
  all_goals omega
/-- the floor of y times the root -/
def flM (D y : Int) : Int := if 0 ≤ y then rt (D * y * y) else -rt (D * y * y - 1) - 1
theorem floor_low {D y z : Int} (hD : 0 < D) (h : -flM D y ≤ z) : 0 ≤ sideF D z y := by
  unfold flM at h
  unfold sideF
  by_cases hy : 0 ≤ y
  · rw [if_pos hy] at h
    obtain ⟨s0, s1, s2⟩ := rt_spec (dyy_nn (y := y) (Int.le_of_lt hD))
    by_cases hz : 0 ≤ z
    · by_cases h0 : z = 0 ∧ y = 0
      · rw [if_pos h0]; decide
      · rw [if_neg h0, if_pos ⟨hz, hy⟩]; decide
    · have h1 : z * z ≤ D * y * y := by
        have := sq_mono (x := -z) (y := rt (D * y * y)) (by omega) (by omega)
        have e : -z * -z = z * z := by grind
        omega
      have hy0 : y ≠ 0 := fun e => by
        subst e
        have h2 : 0 < z * z := xx_pos (by omega)
        rw [Int.mul_zero] at h1
        omega
      rw [if_neg (by omega), if_neg (by omega), if_neg (by omega)]
      by_cases h4 : z * z - D * y * y = 0
      · rw [if_pos h4]; decide
      · rw [if_neg h4, if_pos (by rw [decide_eq_false (by omega), decide_eq_false (by omega)])]; decide
  · rw [if_neg hy] at h
    have hp := dyy_pos hD (show y ≠ 0 by omega)
    obtain ⟨s0, s1, s2⟩ := rt_spec (show 0 ≤ D * y * y - 1 by omega)
    have hz : 0 < z := by omega
    have h1 : D * y * y ≤ z * z := by
      have := sq_mono (x := rt (D * y * y - 1) + 1) (y := z) (by omega) (by omega)
      omega
    rw [if_neg (by omega), if_neg (by omega), if_neg (by omega)]
    by_cases h4 : z * z - D * y * y = 0
    · rw [if_pos h4]; decide
    · rw [if_neg h4, if_pos (by rw [decide_eq_true (by omega), decide_eq_true hz])]; decide
theorem floor_high {D y z : Int} (hD : 0 < D) (h : z ≤ -1 - flM D y) : sideF D z y < 0 := by
  unfold flM at h
  unfold sideF
  by_cases hy : 0 ≤ y
  · rw [if_pos hy] at h
    obtain ⟨s0, s1, s2⟩ := rt_spec (dyy_nn (y := y) (Int.le_of_lt hD))
    by_cases hy0 : y = 0
    · rw [if_neg (by omega), if_neg (by omega), if_pos (by omega)]; decide
    · have h1 : D * y * y < z * z := by
        have := sq_mono (x := rt (D * y * y) + 1) (y := -z) (by omega) (by omega)
        have e : -z * -z = z * z := by grind
        omega
      rw [if_neg (by omega), if_neg (by omega), if_neg (by omega), if_neg (by omega), if_neg (by rw [decide_eq_true (show 0 < z * z - D * y * y by omega), decide_eq_false (by omega)]; decide)]
      decide
  · rw [if_neg hy] at h
    have hp := dyy_pos hD (show y ≠ 0 by omega)
    obtain ⟨s0, s1, s2⟩ := rt_spec (show 0 ≤ D * y * y - 1 by omega)
    by_cases hz : z ≤ 0
    · rw [if_neg (by omega), if_neg (by omega), if_pos (by omega)]; decide
    · have h1 : z * z < D * y * y := by
        have := sq_mono (x := z) (y := rt (D * y * y - 1)) (by omega) (by omega)
        omega
      rw [if_neg (by omega), if_neg (by omega), if_neg (by omega), if_neg (by omega), if_neg (by rw [decide_eq_false (show ¬ 0 < z * z - D * y * y by omega), decide_eq_true (by omega)]; decide)]
      decide
/-! ### least terms -/
def lsg (x y b : Int) : Int := if b < 0 then 0 - gcdI (gcdI x y) b else gcdI (gcdI x y) b
def red (x y b : Int) : Int × Int × Int := (x.fdiv (lsg x y b), y.fdiv (lsg x y b), b.fdiv (lsg x y b))
def least (D x y b : Int) : Int × Int × Int := if rt D * rt D = D then red (x + y * rt D) 0 b else red x y b
theorem gcdI_nn (a b : Int) : 0 ≤ gcdI a b := Int.natCast_nonneg _
theorem gcdI_dvdl (a b : Int) : gcdI a b ∣ a := Int.gcd_dvd_left a b
theorem gcdI_dvdr (a b : Int) : gcdI a b ∣ b := Int.gcd_dvd_right a b
theorem gcdI_pos {a b : Int} (h : b ≠ 0) : 0 < gcdI a b := by
  unfold gcdI
  have := Nat.gcd_pos_of_pos_right a.natAbs (Int.natAbs_pos.mpr h)
  omega
theorem gcdI_le {a b : Int} (h : b ≠ 0) : gcdI a b ≤ b.natAbs := by
  unfold gcdI
  have := Nat.gcd_le_right a.natAbs (Int.natAbs_pos.mpr h)
  omega
theorem gcdI_mul (k a b : Int) : gcdI (k * a) (k * b) = k.natAbs * gcdI a b := by
  have h := Int.gcd_mul_left k a b
  unfold gcdI
  have h2 : ((k * a).natAbs.gcd (k * b).natAbs) = k.natAbs * (a.natAbs.gcd b.natAbs) := h
  rw [h2, Int.natCast_mul]
theorem lsg_ne {x y b : Int} (h : b ≠ 0) : lsg x y b ≠ 0 := by
  have := gcdI_pos (a := gcdI x y) h
  unfold lsg
  split <;> omega
theorem lsg_size {x y b : Int} (h : b ≠ 0) : (lsg x y b).natAbs ≤ b.natAbs := by
  have h1 := gcdI_le (a := gcdI x y) h
  have h2 := gcdI_nn (gcdI x y) b
  unfold lsg
  split <;> omega
theorem lsg_abs {x y b : Int} : ((lsg x y b).natAbs : Int) = gcdI (gcdI x y) b := by
  have h2 := gcdI_nn (gcdI x y) b
  unfold lsg
  split <;> omega
/-- the three numbers as multiples -/
theorem red_mul {x y b : Int} (h : b ≠ 0) : x = lsg x y b * (red x y b).1 ∧ y = lsg x y b * (red x y b).2.1 ∧ b = lsg x y b * (red x y b).2.2 := by
  have hs := lsg_ne (x := x) (y := y) h
  have hd : ∀ z : Int, gcdI (gcdI x y) b ∣ z → z = lsg x y b * (z.fdiv (lsg x y b)) := fun z hz => by
    have h1 : lsg x y b ∣ z := by
      unfold lsg
      split
      · rw [Int.zero_sub]; exact Int.neg_dvd.mpr hz
      · exact hz
    obtain ⟨q, e⟩ := h1
    have e2 : z.fdiv (lsg x y b) = q := by
      have := Int.mul_fdiv_cancel_left (a := lsg x y b) q hs
      rw [← e] at this
      exact this
    rw [e2]; exact e
  exact ⟨hd x (Int.dvd_trans (gcdI_dvdl _ _) (gcdI_dvdl _ _)), hd y (Int.dvd_trans (gcdI_dvdl _ _) (gcdI_dvdr _ _)), hd b (gcdI_dvdr _ _)⟩
theorem gcd3_mul (k a b c : Int) : gcdI (gcdI (k * a) (k * b)) (k * c) = k.natAbs * gcdI (gcdI a b) c := by
  rw [gcdI_mul]
  have : gcdI ((k.natAbs : Int) * gcdI a b) (k * c) = gcdI (k * gcdI a b) (k * c) := by
    unfold gcdI
    rw [Int.natAbs_mul, Int.natAbs_mul k, Int.natAbs_natCast, Int.natAbs_mul k]
  rw [this, gcdI_mul]
theorem red_gcd {x y b : Int} (h : b ≠ 0) : gcdI (gcdI (red x y b).1 (red x y b).2.1) (red x y b).2.2 = 1 := by
  obtain ⟨e1, e2, e3⟩ := red_mul (x := x) (y := y) h
  have hp := gcdI_pos (a := gcdI x y) h
  have hg : gcdI (gcdI x y) b = (lsg x y b).natAbs * gcdI (gcdI (red x y b).1 (red x y b).2.1) (red x y b).2.2 := by
    rw [← gcd3_mul, ← e1, ← e2, ← e3]
  rw [lsg_abs] at hg
  have h2 : gcdI (gcdI x y) b * 1 = gcdI (gcdI x y) b * gcdI (gcdI (red x y b).1 (red x y b).2.1) (red x y b).2.2 := by
    rw [Int.mul_one]; exact hg
  exact (Int.eq_of_mul_eq_mul_left (by omega) h2).symm
theorem red_below {x y b : Int} (h : b ≠ 0) : 1 ≤ (red x y b).2.2 := by
  obtain ⟨_, _, e3⟩ := red_mul (x := x) (y := y) h
  have hs := lsg_ne (x := x) (y := y) h
  have hp := gcdI_pos (a := gcdI x y) h
  generalize (red x y b).2.2 = q at *
  by_cases hb : b < 0
  · have hl : lsg x y b < 0 := by unfold lsg; rw [if_pos hb]; omega
    by_cases hq : 1 ≤ q
    · exact hq
    · have := Int.mul_nonneg_of_nonpos_of_nonpos (Int.le_of_lt hl) (show q ≤ 0 by omega)
      omega
  · have hl : 0 < lsg x y b := by unfold lsg; rw [if_neg hb]; omega
    by_cases hq : 1 ≤ q
    · exact hq
    · have := Int.mul_nonpos_of_nonneg_of_nonpos (Int.le_of_lt hl) (show q ≤ 0 by omega)
      omega
theorem fdiv_size {z s q : Int} (hs : s ≠ 0) (e : z = s * q) : q.natAbs ≤ z.natAbs := by
  rw [e, Int.natAbs_mul]
  exact Nat.le_mul_of_pos_left _ (Int.natAbs_pos.mpr hs)
theorem red_size {x y b : Int} (h : b ≠ 0) : (red x y b).1.natAbs ≤ x.natAbs ∧ (red x y b).2.1.natAbs ≤ y.natAbs ∧ (red x y b).2.2.natAbs ≤ b.natAbs := by
  obtain ⟨e1, e2, e3⟩ := red_mul (x := x) (y := y) h
  have hs := lsg_ne (x := x) (y := y) h
  exact ⟨fdiv_size hs e1, fdiv_size hs e2, fdiv_size hs e3⟩
/-- what a triple needs to be the one: unique -/
theorem red_unique {x y b X Y B s : Int} (hs : s ≠ 0) (hB : 1 ≤ B) (hg : gcdI (gcdI X Y) B = 1) (e1 : x = s * X) (e2 : y = s * Y) (e3 : b = s * B) : red x y b = (X, Y, B) := by
  have hl : lsg x y b = s := by
    have hgc : gcdI (gcdI x y) b = s.natAbs := by rw [e1, e2, e3, gcd3_mul, hg, Int.mul_one]
    unfold lsg
    rw [hgc]
    by_cases h : s < 0
    · have : b < 0 := by rw [e3]; exact Int.mul_neg_of_neg_of_pos h (by omega)
      rw [if_pos this]; omega
    · have : ¬ b < 0 := by
        have := Int.mul_nonneg (show 0 ≤ s by omega) (show 0 ≤ B by omega)
        rw [e3]; omega
      rw [if_neg this]; omega
  unfold red
  rw [hl, e1, e2, e3, Int.mul_fdiv_cancel_left _ hs, Int.mul_fdiv_cancel_left _ hs, Int.mul_fdiv_cancel_left _ hs]
theorem red_scale {x y b k : Int} (hk : k ≠ 0) (hb : b ≠ 0) : red (k * x) (k * y) (k * b) = red x y b := by
  obtain ⟨e1, e2, e3⟩ := red_mul (x := x) (y := y) hb
  refine red_unique (s := k * lsg x y b) (Int.mul_ne_zero hk (lsg_ne hb)) (red_below hb) (red_gcd hb) ?_ ?_ ?_
  · rw [Int.mul_assoc]; exact congrArg (k * ·) e1
  · rw [Int.mul_assoc]; exact congrArg (k * ·) e2
  · rw [Int.mul_assoc]; exact congrArg (k * ·) e3
theorem least_scale {D x y b k : Int} (hk : k ≠ 0) (hb : b ≠ 0) : least D (k * x) (k * y) (k * b) = least D x y b := by
  unfold least
  split
  · rw [show k * x + k * y * rt D = k * (x + y * rt D) by grind]
    have := red_scale (x := x + y * rt D) (y := 0) hk hb
    rwa [Int.mul_zero] at this
  · exact red_scale hk hb
/-- a triple in least terms -/
def Good (D : Int) (t : Int × Int × Int) : Prop := 1 ≤ t.2.2 ∧ gcdI (gcdI t.1 t.2.1) t.2.2 = 1 ∧ (t.2.1 = 0 ∨ ¬ Sq D)
theorem least_good {D x y b : Int} (hb : b ≠ 0) : Good D (least D x y b) := by
  unfold least
  by_cases h : rt D * rt D = D
  · rw [if_pos h]
    refine ⟨red_below hb, red_gcd hb, .inl ?_⟩
    unfold red
    exact Int.zero_fdiv (lsg (x + y * rt D) 0 b)
  · rw [if_neg h]
    exact ⟨red_below hb, red_gcd hb, .inr h⟩
theorem red_self {X Y B : Int} (hB : 1 ≤ B) (hg : gcdI (gcdI X Y) B = 1) : red X Y B = (X, Y, B) :=
  red_unique (s := 1) (by decide) hB hg (Int.one_mul _).symm (Int.one_mul _).symm (Int.one_mul _).symm
theorem least_self {D : Int} {t : Int × Int × Int} (h : Good D t) : least D t.1 t.2.1 t.2.2 = t := by
  obtain ⟨h1, h2, h3⟩ := h
  unfold least
  split
  · rename_i hs
    rcases h3 with h3 | h3
    · rw [h3] at h2 ⊢
      rw [Int.zero_mul, Int.add_zero, red_self h1 h2]
      exact Prod.ext rfl (Prod.ext h3.symm rfl)
    · exact absurd hs h3
  · rw [red_self h1 h2]
end Kx
namespace Kx
open PySem PySem.Spec PyProof.Rows L2
/-! ### kinds of values -/
def tyS (H : Hp) : V → Option String
  | .non => some "NoneType"
  | .bl _ => some "bool"
  | .int _ => some "int"
  | .str _ => some "str"
  | .ref a => match H a with
    | some (.lst _) => some "list"
    | some (.tup _) => some "tuple"
    | some (.dK _) => some "dict"
    | _ => none
  | _ => none
def isIntV : V → Bool
  | .int _ => true
  | _ => false
theorem tyS_of {K : PySem.W.Frag} {H : Hp} {x : V} {t : String} (h : tyS H x = some t) : TyX K H x (.type t) ∧ t ∈ ["NoneType", "bool", "int", "str", "list", "tuple", "dict"] ∧ (isIntV x = (t == "int")) := by
  cases x with
  | non => cases h; exact ⟨.base .non, by decide, (show false = ("NoneType" == "int") by decide)⟩
  | bl b => cases h; exact ⟨.base (.bl b), by decide, (show false = ("bool" == "int") by decide)⟩
  | int i => cases h; exact ⟨.base (.int i), by decide, (show true = ("int" == "int") by decide)⟩
  | str z => cases h; exact ⟨.base (.str z), by decide, (show false = ("str" == "int") by decide)⟩
  | byt _ => cases h
  | flt _ => cases h
  | ty _ => cases h
  | ref a =>
    have h2 : (match H a with | some (.lst _) => some "list" | some (.tup _) => some "tuple" | some (.dK _) => some "dict" | _ => none) = some t := h
    cases e : H a with
    | none => rw [e] at h2; cases h2
    | some o =>
      rw [e] at h2
      cases o with
      | lst xs => cases h2; exact ⟨.base (.lst e), by decide, (show false = ("list" == "int") by decide)⟩
      | tup xs => cases h2; exact ⟨.base (.tup e), by decide, (show false = ("tuple" == "int") by decide)⟩
      | dK kvs => cases h2; exact ⟨.base (.dK e), by decide, (show false = ("dict" == "int") by decide)⟩
      | _ => cases h2
theorem tyS_same {H H' : Hp} {x : V} {t : String} (s : Same H H') (h : tyS H x = some t) : tyS H' x = some t := by
  cases x with
  | ref a =>
    have h2 : (match H a with | some (.lst _) => some "list" | some (.tup _) => some "tuple" | some (.dK _) => some "dict" | _ => none) = some t := h
    show (match H' a with | some (.lst _) => some "list" | some (.tup _) => some "tuple" | some (.dK _) => some "dict" | _ => none) = some t
    cases e : H a with
    | none => rw [e] at h2; cases h2
    | some o => rw [s a o e]; rw [e] at h2; exact h2
  | _ => exact h
def OkItem (H : Hp) (x : V) : Prop := ∃ t, tyS H x = some t
theorem OkItem.same {H H' : Hp} {x : V} (h : OkItem H x) (s : Same H H') : OkItem H' x := let ⟨t, e⟩ := h; ⟨t, tyS_same s e⟩
/-- a value that the judging defs may be asked for -/
def OkV (H : Hp) (x : V) : Prop := OkItem H x ∧ ∀ a xs, x = .ref a → H a = some (.tup xs) → ∀ y ∈ xs, OkItem H y
def wholesB (H : Hp) (m : Int) : V → Bool
  | .ref a => match H a with
    | some (.tup xs) => decide ((xs.length : Int) = m) && xs.all isIntV
    | _ => false
  | _ => false
def spWhole : Sp := fun vs H Q _ => ∃ x, vs = [x] ∧ OkItem H x ∧ Q (.bl (isIntV x)) H
def spWholes : Sp := fun vs H Q _ => ∃ (x : V) (m : Int), vs = [x, .int m] ∧ m ≤ 1000 ∧ OkV H x ∧ ∀ H', Same H H' → Q (.bl (wholesB H m x)) H'
def measB : V → Bool
  | .int i => decide (5 ≤ i) && decide (i % 4 < 2)
  | _ => false
def spIsMeasure : Sp := fun vs H Q _ => ∃ x, vs = [x] ∧ OkItem H x ∧ Q (.bl (measB x)) H
def Meas (D : Int) : Prop := 5 ≤ D ∧ D % 4 < 2
/-- where the measure is one -/
def spCheckMeasure0 : Sp := fun vs H Q _ => ∃ D : Int, vs = [.int D] ∧ Meas D ∧ Q .non H
def spHasRoot : Sp := fun vs H Q _ => ∃ D : Int, vs = [.int D] ∧ 0 ≤ D ∧ D < 2 ^ 2000 ∧ Q (.bl (decide (Sq D))) H
def rootB (D : Int) (H : Hp) (x : V) : Bool := wholesB H 3 x && (match x with
  | .ref a => match H a with
    | some (.tup [.int x, .int y, .int b]) => decide (1 ≤ b) && (decide (gcdI (gcdI x y) b ≤ 1) && (decide (y = 0) || !decide (Sq D)))
    | _ => false
  | _ => false)
def spIsRootOf : Sp := fun vs H Q _ => ∃ (D : Int) (x : V), vs = [.int D, x] ∧ 0 ≤ D ∧ D < 2 ^ 2000 ∧ OkV H x ∧ ∀ H', Same H H' → Q (.bl (rootB D H x)) H'
def rootV (t : Int × Int × Int) : List V := [.int t.1, .int t.2.1, .int t.2.2]
/-- a root number stands at a -/
def RootAt (D : Int) (H : Hp) (a : Addr) (t : Int × Int × Int) : Prop := H a = some (.tup (rootV t)) ∧ Good D t
theorem RootAt.same {D : Int} {H H' : Hp} {a : Addr} {t : Int × Int × Int} (h : RootAt D H a t) (s : Same H H') : RootAt D H' a t := ⟨s _ _ h.1, h.2⟩
theorem RootAt.okV {D : Int} {H : Hp} {a : Addr} {t : Int × Int × Int} (h : RootAt D H a t) : OkV H (.ref a) := by
  refine ⟨⟨"tuple", ?_⟩, fun b xs e1 e2 y hy => ?_⟩
  · show (match H a with | some (.lst _) => some "list" | some (.tup _) => some "tuple" | some (.dK _) => some "dict" | _ => none) = some "tuple"
    rw [h.1]
  · cases e1
    rw [h.1] at e2
    cases e2
    simp only [rootV, List.mem_cons, List.not_mem_nil, or_false] at hy
    rcases hy with rfl | rfl | rfl <;> exact ⟨"int", rfl⟩
theorem RootAt.isRoot {D : Int} {H : Hp} {a : Addr} {t : Int × Int × Int} (h : RootAt D H a t) : rootB D H (.ref a) = true := by
  obtain ⟨h1, h2, h3, h4⟩ := h
  unfold rootB wholesB
  simp only [h1, rootV, List.length_cons, List.length_nil, List.all_cons, List.all_nil, isIntV]
  rw [decide_eq_true h2, decide_eq_true (show gcdI (gcdI t.1 t.2.1) t.2.2 ≤ 1 by omega)]
  rcases h4 with h4 | h4
  · rw [decide_eq_true h4]; rfl
  · rw [decide_eq_false h4]; simp
/-- where every item is a root number -/
def spCheck0 : Sp := fun vs H Q _ => ∃ (D : Int) (a : Addr) (rs : List Addr), vs = [.int D, .ref a] ∧ Meas D ∧ D < 2 ^ 2000 ∧ H a = some (.tup (rs.map V.ref)) ∧ (∀ r ∈ rs, ∃ t, RootAt D H r t) ∧ ∀ H', Same H H' → Q .non H'
def spSgn : Sp := fun vs H Q _ => ∃ x : Int, vs = [.int x] ∧ Q (.int (sgn x)) H
def spFlM : Sp := fun vs H Q _ => ∃ D y : Int, vs = [.int D, .int y] ∧ 0 < D ∧ D < 2 ^ 1000 ∧ -(2 ^ 1000) < y ∧ y < 2 ^ 1000 ∧ Q (.int (flM D y)) H
/-- no part is too large -/
def Small (t : Int × Int × Int) : Prop := t.1.natAbs < 2 ^ 900 ∧ t.2.1.natAbs < 2 ^ 900 ∧ t.2.2.natAbs < 2 ^ 900
def spRootSide : Sp := fun vs H Q _ => ∃ (D : Int) (a : Addr) (t : Int × Int × Int), vs = [.int D, .ref a] ∧ Meas D ∧ D < 2 ^ 500 ∧ RootAt D H a t ∧ Small t ∧ ∀ H', Same H H' → Q (.int (sideP D t.1 t.2.1)) H'
def spRootFloor : Sp := fun vs H Q _ => ∃ (D : Int) (a : Addr) (t : Int × Int × Int), vs = [.int D, .ref a] ∧ Meas D ∧ D < 2 ^ 500 ∧ RootAt D H a t ∧ Small t ∧ ∀ H', Same H H' → Q (.int ((t.1 + flM D t.2.1).fdiv t.2.2)) H'
/-! ### the law's own -/
def spMeasure : Sp := fun vs H Q _ => ∃ (g : Addr) (n : Int) (k : Nat), vs = [.ref g, .int n] ∧ GenAt H g k ∧ k ≤ 2 ^ 39 ∧ 1 ≤ n ∧ n ≤ 40 ∧ ∀ (D : Int) (H' : Hp), Meas D → D < 2 ^ 200 → GenAt H' g (k + 100) → Keep g H H' → Q (.int D) H'
def spLeast : Sp := fun vs H Q _ => ∃ D x y b : Int, vs = [.int D, .int x, .int y, .int b] ∧ 0 ≤ D ∧ D < 2 ^ 1000 ∧ x.natAbs < 2 ^ 2000 ∧ y.natAbs < 2 ^ 2000 ∧ b.natAbs < 2 ^ 2000 ∧ b ≠ 0 ∧ ∀ (p : Addr) (H' : Hp), H p = none → Same H H' → H' p = some (.tup (rootV (least D x y b))) → Q (.ref p) H'
def spSideF : Sp := fun vs H Q _ => ∃ D x y : Int, vs = [.int D, .int x, .int y] ∧ 0 ≤ D ∧ D < 2 ^ 1000 ∧ x.natAbs < 2 ^ 2450 ∧ y.natAbs < 2 ^ 1000 ∧ Q (.int (sideF D x y)) H
def spDrawn : Sp := fun vs H Q _ => ∃ (g : Addr) (D n : Int) (k : Nat), vs = [.ref g, .int D, .int n] ∧ GenAt H g k ∧ k ≤ 2 ^ 39 ∧ 0 ≤ D ∧ D < 2 ^ 500 ∧ 1 ≤ n ∧ n ≤ 40 ∧
  ∀ (x y b : Int) (p : Addr) (H' : Hp), x.natAbs < 2 ^ 150 → y.natAbs < 2 ^ 150 → 1 ≤ b → b < 2 ^ 150 → H p = none → H' p = some (.tup (rootV (least D x y b))) → GenAt H' g (k + 100) → Keep g H H' → Q (.ref p) H'
def spFloorRight : Sp := fun vs H Q _ => ∃ (D : Int) (a : Addr) (t : Int × Int × Int), vs = [.int D, .ref a] ∧ Meas D ∧ D < 2 ^ 500 ∧ RootAt D H a t ∧ Small t ∧ ∀ H', Same H H' → Q (.bl true) H'
theorem Keep.free {g p : Addr} {H H' : Hp} (k : Keep g H H') (hp : p ≠ g) (h : H' p = none) : H p = none := by
  cases e : H p with
  | none => rfl
  | some o =>
    rw [k p o hp e] at h
    cases h
theorem wholes_get {H : Hp} {m : Int} {x : V} (h : wholesB H m x = true) : ∃ a xs, x = .ref a ∧ H a = some (.tup xs) ∧ (xs.length : Int) = m ∧ xs.all isIntV = true := by
  cases x with
  | ref a =>
    have h2 : (match H a with | some (.tup xs) => decide ((xs.length : Int) = m) && xs.all isIntV | _ => false) = true := h
    cases e : H a with
    | none => rw [e] at h2; cases h2
    | some o =>
      rw [e] at h2
      cases o with
      | tup xs =>
        obtain ⟨p, q⟩ := Bool.and_eq_true_iff.mp h2
        exact ⟨a, xs, rfl, e, of_decide_eq_true p, q⟩
      | _ => cases h2
  | _ => cases h
theorem isInt_get {x : V} (h : isIntV x = true) : ∃ i, x = .int i := by
  cases x with
  | int i => exact ⟨i, rfl⟩
  | _ => cases h
theorem wholes3 {H : Hp} {x : V} (h : wholesB H 3 x = true) : ∃ a i j k, x = .ref a ∧ H a = some (.tup [.int i, .int j, .int k]) := by
  obtain ⟨a, xs, e, ha, hl, hall⟩ := wholes_get h
  have hl3 : xs.length = 3 := by omega
  match xs, hl3 with
  | [u, v, w'], _ =>
    simp only [List.all_cons, List.all_nil, Bool.and_true, Bool.and_eq_true] at hall
    obtain ⟨h1, h2, h3⟩ := hall
    obtain ⟨i, rfl⟩ := isInt_get h1
    obtain ⟨j, rfl⟩ := isInt_get h2
    obtain ⟨l, rfl⟩ := isInt_get h3
    exact ⟨a, i, j, l, e, ha⟩
theorem rootB3 {D : Int} {H : Hp} {a : Addr} {i j k : Int} (h : H a = some (.tup [.int i, .int j, .int k])) : rootB D H (.ref a) = (decide (1 ≤ k) && (decide (gcdI (gcdI i j) k ≤ 1) && (decide (j = 0) || !decide (Sq D)))) := by
  unfold rootB wholesB
  simp only [h, List.length_cons, List.length_nil, List.all_cons, List.all_nil, isIntV, Bool.and_self, Bool.and_true]
  rfl
theorem rootB_not {D : Int} {H : Hp} {x : V} (h : wholesB H 3 x = false) : rootB D H x = false := by
  unfold rootB
  rw [h, Bool.false_and]
theorem measB_int {i : Int} : measB (.int i) = (decide (5 ≤ i) && decide (i % 4 < 2)) := rfl
theorem rIsi_ty {K : PySem.W.Frag} {H : Hp} {x : V} {t c : String} {b : Bool} {Q : VK} (ht : tyS H x = some t) (hb : kitB t c = some b) (q : Q (.bl b) H) : rIsi K [x, .ty c] H Q :=
  ⟨x, .ty c, .type t, .type c, b, rfl, .ty c, (tyS_of ht).1, kit_ty hb, q⟩
theorem tyS_tuple {H : Hp} {x : V} (h : tyS H x = some "tuple") : ∃ a xs, x = .ref a ∧ H a = some (.tup xs) := by
  cases x with
  | ref a =>
    have h2 : (match H a with | some (.lst _) => some "list" | some (.tup _) => some "tuple" | some (.dK _) => some "dict" | _ => none) = some "tuple" := h
    cases e : H a with
    | none => rw [e] at h2; cases h2
    | some o =>
      rw [e] at h2
      cases o with
      | tup xs => exact ⟨a, xs, rfl, e⟩
      | lst xs => exact absurd (Option.some.inj h2) (by decide)
      | dK xs => exact absurd (Option.some.inj h2) (by decide)
      | _ => cases h2
  | non => exact absurd (Option.some.inj h) (by decide)
  | bl _ => exact absurd (Option.some.inj h) (by decide)
  | int _ => exact absurd (Option.some.inj h) (by decide)
  | str _ => exact absurd (Option.some.inj h) (by decide)
  | _ => cases h
theorem tyS_tup {H : Hp} {a : Addr} {xs : List V} (h : H a = some (.tup xs)) : tyS H (.ref a) = some "tuple" := by
  show (match H a with | some (.lst _) => some "list" | some (.tup _) => some "tuple" | some (.dK _) => some "dict" | _ => none) = some "tuple"
  rw [h]
theorem wholes_not {H : Hp} {m : Int} {x : V} {t : String} (h : tyS H x = some t) (ht : t ≠ "tuple") : wholesB H m x = false := by
  cases hw : wholesB H m x with
  | false => rfl
  | true =>
    obtain ⟨a, xs, rfl, ha, _⟩ := wholes_get hw
    rw [tyS_tup ha] at h
    exact absurd (Option.some.inj h).symm ht
theorem wholes_tup {H : Hp} {m : Int} {a : Addr} {xs : List V} (h : H a = some (.tup xs)) : wholesB H m (.ref a) = (decide ((xs.length : Int) = m) && xs.all isIntV) := by
  unfold wholesB
  simp only [h]
theorem any_tuple (K : PySem.W.Frag) {H : Hp} {x : V} (h : OkItem H x) : (∃ t, tyS H x = some t ∧ kitB t "tuple" = some false ∧ t ≠ "tuple") ∨ (∃ a xs, x = .ref a ∧ H a = some (.tup xs)) := by
  obtain ⟨t, ht⟩ := h
  have hm := (tyS_of (K := K) ht).2.1
  simp only [List.mem_cons, List.not_mem_nil, or_false] at hm
  rcases hm with rfl | rfl | rfl | rfl | rfl | rfl | rfl
  · exact .inl ⟨_, ht, by decide +kernel, by decide⟩
  · exact .inl ⟨_, ht, by decide +kernel, by decide⟩
  · exact .inl ⟨_, ht, by decide +kernel, by decide⟩
  · exact .inl ⟨_, ht, by decide +kernel, by decide⟩
  · exact .inl ⟨_, ht, by decide +kernel, by decide⟩
  · exact .inr (tyS_tuple ht)
  · exact .inl ⟨_, ht, by decide +kernel, by decide⟩
theorem rt_le {n : Int} (h : 0 ≤ n) : 0 ≤ rt n ∧ rt n ≤ n := by
  obtain ⟨s0, s1, s2⟩ := rt_spec h
  refine ⟨s0, ?_⟩
  by_cases h : rt n ≤ 0
  · omega
  · have := Int.mul_le_mul_of_nonneg_right (show 1 ≤ rt n by omega) s0
    omega
theorem ediv_size {x b : Int} (h : 1 ≤ b) : (x / b).natAbs ≤ x.natAbs + 1 := by
  have h1 := Int.emod_nonneg x (show b ≠ 0 by omega)
  have h2 := Int.emod_lt_of_pos x (show 0 < b by omega)
  have h3 := Int.mul_ediv_add_emod x b
  by_cases hx : 0 ≤ x
  · have h4 := Int.ediv_nonneg hx (show 0 ≤ b by omega)
    have h5 := Int.ediv_le_self b hx
    omega
  · have hq : x / b ≤ -1 := by
      by_cases h : x / b ≤ -1
      · exact h
      · have := Int.mul_nonneg (show 0 ≤ b by omega) (show 0 ≤ x / b by omega)
        omega
    have h6 := Int.mul_le_mul_of_nonpos_right h (show x / b + 1 ≤ 0 by omega)
    rw [Int.mul_add, Int.mul_one] at h6
    omega
theorem flat_int {i : Int} (h : i.natAbs < 2 ^ 1900) : flatText (.int i) = some (toString i : Str) := by
  have h2 : i.natAbs.log2 < 1920 := Nat.lt_of_lt_of_le (PySem.Flt.log2_lt_of (by decide) h) (by decide)
  show (if i.natAbs.log2 < 1920 then some (toString i : Str) else none) = _
  rw [if_pos h2]
theorem sideF_small (D x y : Int) : (sideF D x y).natAbs ≤ 1 := by
  unfold sideF
  repeat' split
  all_goals decide
theorem least_small {D x y b : Int} (h0 : 0 ≤ D) (h1 : D < 2 ^ 200) (hx : x.natAbs < 2 ^ 600) (hy : y.natAbs < 2 ^ 600) (hb : b.natAbs < 2 ^ 600) (hb0 : b ≠ 0) : Small (least D x y b) := by
  obtain ⟨r0, r1⟩ := rt_le h0
  unfold least Small
  split
  · have w1 : (y * rt D).natAbs < 2 ^ (600 + 200) := wide_lt hy (by omega)
    simp only [Nat.reduceAdd] at w1
    obtain ⟨p, q, r⟩ := red_size (x := x + y * rt D) (y := 0) hb0
    exact ⟨by omega, by omega, by omega⟩
  · obtain ⟨p, q, r⟩ := red_size (x := x) (y := y) hb0
    exact ⟨by omega, by omega, by omega⟩
theorem RootAt.least {D x y b : Int} {H : Hp} {a : Addr} (h : H a = some (.tup (rootV (least D x y b)))) (hb0 : b ≠ 0) : RootAt D H a (least D x y b) := ⟨h, least_good hb0⟩
/-- behind all draws: what stood stands, a generator apart -/
def spRight (K : PySem.W.Frag) : Sp := fun vs H Q _ => ∃ g : Addr, vs = [.ref g] ∧ GenAt H g 100000 ∧ ∀ H', Keep g H H' → Q (.bl true) H'
def spLaw (K : PySem.W.Frag) : Sp := fun vs H Q _ => ∃ (a : Addr) (ns : List Int), vs = [.ref a] ∧ SqL K H a (ns.map V.int) ∧ ns.length ≤ 63 ∧ ∀ H', Q (.bl true) H'

theorem dpAll_ints {K : PySem.W.Frag} {H : Hp} : ∀ ns : List Int, DpAll K H (ns.map V.int) (ns.map PyData.int)
  | [] => .nil
  | n :: ns => .cons (.int n) (dpAll_ints ns)
theorem dp_ints {K : PySem.W.Frag} {H : Hp} {a : Addr} {ns : List Int} (h : H a = some (.lst (ns.map V.int))) : Dp K H (.ref a) (.list (ns.map PyData.int)) := .lst (SqL.of h) (dpAll_ints ns)
theorem eqv_same {d : PyData} (h : SeqAt.shaped d = true) : PyData.eqv d d = true := SeqAt.eqv_refl d (SeqAt.canLay_of_shaped h)
/-- two lists of the same ints -/
theorem ne_ints {K : PySem.W.Frag} {H : Hp} {a b : Addr} {Q : VK} (ns : List Int) (h1 : H a = some (.lst (ns.map V.int))) (h2 : H b = some (.lst (ns.map V.int))) (hs : SeqAt.shaped (.list (ns.map PyData.int)) = true) (q : Q (.bl false) H) : rNeD K (.ref a) (.ref b) H Q :=
  ⟨_, _, dp_ints h1, dp_ints h2, hs, hs, by rw [eqv_same hs]; exact q⟩
theorem eq_ints {K : PySem.W.Frag} {H : Hp} {a b : Addr} {Q : VK} (ns : List Int) (h1 : H a = some (.lst (ns.map V.int))) (h2 : H b = some (.lst (ns.map V.int))) (hs : SeqAt.shaped (.list (ns.map PyData.int)) = true) (q : Q (.bl true) H) : rEqD K (.ref a) (.ref b) H Q :=
  ⟨_, _, dp_ints h1, dp_ints h2, hs, hs, by rw [eqv_same hs]; exact q⟩
theorem ne_new {H : Hp} {p q : Addr} {o : HO} (h : upd H p o q = none) : p ≠ q := fun z => by
  rw [← z, upd_same] at h
  cases h
end Kx

set_option Elab.async false
set_option linter.all false
set_option maxRecDepth 100000
set_option maxHeartbeats 4000000
set_option exponentiation.threshold 4000
/-! Defs that ask for the repr of data: no repr is under way around them. -/
namespace Kx
open PySem PySem.Spec PyProof.Rows L2

structure FnG (P : Program) (w : World) (K : PySem.W.Frag) (mg : Str → Option Value) (base : Heap) (k : Nat) (f : Addr) (fd : FuncData) (ps : List Str) (sp : Sp) : Prop where
  len : ∀ vs H Q E, sp vs H Q E → vs.length = ps.length
  run : ∀ (A : Around) (outer : List Env) (s : Shared) (H : Hp) (args : Args) (us : List Value) (vs : List V) (Q : VK) (E : XK), A.guards = some [] → Room k A → Env0 P w K mg base A outer s H → BindsTo s fd args (ps.zip us) → Vals vs us → sp vs H Q E →
    codeAny (model P w) A (.call (.ref f) args) (CR CX0 outer P w H s Q E) s
theorem FnG.of {P : Program} {w : World} {K : PySem.W.Frag} {mg : Str → Option Value} {base : Heap} {k : Nat} {f : Addr} {fd : FuncData} {ps : List Str} {sp : Sp} (F : FnOk P w K mg base CX0 k f fd ps sp) : FnG P w K mg base k f fd ps sp :=
  ⟨F.len, fun A outer s H args us vs Q E _ => F.run A outer s H args us vs Q E⟩
section
variable {P : Program} {w : World} {K : PySem.W.Frag} {mg : Str → Option Value} {base : Heap}
/-- a def by its body, which may lean on the guards -/
theorem fnG_mk {x qual : Str} {st : Stmt} {f : Addr} {fd : FuncData} {N ps : List Str} {k : Nat} {sp : Sp} (F : Fun K x qual st f fd) (S : FnScope N ps (defScope st)) (hlen : ∀ vs H Q E, sp vs H Q E → vs.length = ps.length)
    (body : ∀ (cdv : Value) (A : Around) (outer : List Env) (s : Shared) (H : Hp) (vs : List V) (Q : VK) (E : XK), (A.deeper (envOfC qual (defScope st) s.heap.objs.size f cdv)).guards = some [] → Room k (A.deeper (envOfC qual (defScope st) s.heap.objs.size f cdv)) → sp vs H Q E →
      ∃ t, PSs (cxOf CX0 P w K mg base N qual (defScope st) f cdv A outer s H E).nox (defBody st) t ∧ t { nx := fun _ H' => Q .non H', rt := Q } (L2.start N vs) H) : FnG P w K mg base (k + 1) f fd ps sp := by
  obtain ⟨cls0, dct0, kwd0, doc0, mod0, ann0, cdv, typ0, slots0, rfl, look, code⟩ := F.ex
  constructor
  · exact hlen
  · intro A outer s H args us vs Q E gd room e0 binds rel hsp
    have ln := hlen _ _ _ _ hsp
    have kept : ∀ b o, base.get? b = some o → s.heap.get? b = some o := fun b o z => (e0.bs b o z).1
    have kin := e0.mod.kin.keeps kept
    have kinds : ∀ y ∈ ps.zip us, (defScope st).names.lookup y.1 = some .local ∨ ((defScope st).names.lookup y.1 = some .cell ∧ ((cellsFrom (s.heap.objs.size + 1) (defScope st).names []).lookup y.1).isSome = true) := by
      rintro ⟨nm, vl⟩ hy
      rcases S.par nm (List.of_mem_zip hy).1 with h | h
      · left; exact h
      · right; exact ⟨h, PySem.W.cellsFrom_some _ _ _ (.inl h)⟩
    apply codeAny_call_function room.depth (kin _ _ look) rfl S.co S.gen rfl (PySem.W.codeRec_of kin code)
    apply binds
    refine wpAny_newFunctionEnv_cells S.kind kinds fun env henv s1 ic => ?_
    subst henv
    refine ⟨(e0.mod.nolimit.keeps kept).keeps ic.toInCall.keep, codeAny_func ?_⟩
    obtain ⟨t, der, rd⟩ := body cdv A outer s H vs Q E gd (room.deeper _) hsp
    have inv0 : Inv (cxOf CX0 P w K mg base N qual (defScope st) f cdv A outer s H E) [] (L2.start N vs) H s1 := inv_start S room.hd e0 ln rel ic
    have back : ∀ {σ1 : SV} {H1 : Hp} {s2 : Shared} {v : V} {u : Value}, Inv (cxOf CX0 P w K mg base N qual (defScope st) f cdv A outer s H E) [] σ1 H1 s2 → RelV v u → Q v H1 → CE outer P w H s Q u s2 := by
      intro σ1 H1 s2 v u J rv q
      exact ⟨v, H1, J.os, J.bare, J.base, J.hok, rv, q⟩
    refine wpAny_mono (der.nox.run [] s1 (L2.start N vs) H _ inv0 rd) (fun fl s2 hs => ?_) fun e s2 hs => hs
    cases fl with
    | ret u => exact let ⟨v, σ1, H1, J, rv, q⟩ := hs; back J rv q
    | next => exact let ⟨σ1, H1, J, q⟩ := hs; back (v := V.non) (u := Value.none) J rfl q
    | brk => exact let ⟨_, _, _, q⟩ := hs; q.elim
    | cont => exact let ⟨_, _, _, q⟩ := hs; q.elim
end
structure DefG (P : Program) (w : World) (K : PySem.W.Frag) (mg : Str → Option Value) (base : Heap) (k : Nat) (x : Str) (f : Addr) (fd : FuncData) (ps : List Str) (sp : Sp) : Prop where
  F : FnG P w K mg base k f fd ps sp
  m : mg x = some (.ref f)
  kp : PySem.W.keepIn K (.ref f) = true
  b : Binds K fd ps []
section
variable {X : Cx} {k j : Nat} {f : Addr} {fd : FuncData} {ps ks : List Str} {sp : Sp} {x : Str} {p pos : Pos} {e : Expr} {es : List Expr} {t tk : TA} {kws : List Keyword}
theorem pe_g (D : DefG X.prog X.w X.K X.mg X.base k x f fd ps sp) (gd : X.A.guards = some []) (hr : Room j X.A) (ha : PA X (e :: es) t) (hkj : k ≤ j := by decide) (hg : Gl X x := by rfl) (hdb : (x == ("__debug__" : Str)) = false := by decide)
    (he : starEach (e :: es) X.env = (false, eval e X.env) :: starEach es X.env := by rfl) (hpl : (backTo pos (starEach es X.env)).any (·.1) = false := by rfl) : PE X (.Call (.Name x p) (e :: es) [] pos) (tD sp t) := by
  refine ⟨fun pins s σ H Q I h => wpAny_Call_Name_kw (ld_glob I hg D.m ?_ hdb)⟩
  refine PySem.W.callWith_K (h₀ := X.base) I.ok.mod.kin D.kp (thn (ha.run pos pins s σ H _ I h) fun us s1 ⟨vs, H1, I1, r, q⟩ => ⟨I1.kIn, ?_⟩) he hpl
  have hl : us.length = ps.length := r.length.symm.trans (D.F.len _ _ _ _ q)
  have hb := D.b s1 us I1.kIn (by rw [List.append_nil]; exact hl)
  rw [List.append_nil] at hb
  refine wpAny_call (codeAny_mono (D.F.run X.A X.stack s1 H1 ⟨us, []⟩ us vs Q E0 gd (hr.mono hkj) I1.env0 hb r q) fun rr s2 hq => ?_)
  cases rr with
  | error er => exact (hq : False).elim
  | ok fl =>
    cases fl with
    | ret u => exact I1.after hq
    | next => exact False.elim hq
    | brk => exact False.elim hq
    | cont => exact False.elim hq
end
/-- repr of data -/
theorem cr_reprD {X : Cx} (gd : X.A.guards = some []) (hu : X.A.units + 64 < cLine) : CallR X (.builtin "repr") (fun vs H Q => ∃ (x : V) (d : PyData), vs = [x] ∧ Dp X.K H x d ∧ d.showable = true ∧ d.hasDict = false ∧ d.depth ≤ 60 ∧ d.shown.length ≤ sizeLine ∧ Q (.str d.shown) H) := by
  intro pins s σ H vs us Q I r h
  obtain ⟨x, d, rfl, hd, h1, h2, h3, h4, q⟩ := h
  obtain ⟨u, rfl, rx⟩ := vals1 r
  cases x with
  | ref a =>
    cases rx
    obtain ⟨as, rd⟩ := Dp.reads I d (.ref a) (.ref a) hd rfl
    exact repr_of_reads' rd h1 (PyData.noDict_hsm h2) gd (by omega) (fun _ _ z => z) (fun h' t tk hk => ⟨.str d.shown, H, I.kept hk, ⟨_, rfl⟩, q⟩) h4
  | int i =>
    cases hd
    obtain ⟨t, rfl⟩ := rx
    exact PySem.P.repr_of_int (by simpa [PyData.showable] using h1) ⟨.str _, H, I.tok _, ⟨_, rfl⟩, by simpa only [PyData.shown] using q⟩
  | bl b =>
    cases hd
    cases rx
    exact PySem.P.repr_of_bool ⟨.str _, H, I.tok _, ⟨_, rfl⟩, by simpa only [PyData.shown] using q⟩
  | non =>
    cases hd
    cases rx
    exact PySem.P.repr_of_none ⟨.str _, H, I.tok _, ⟨_, rfl⟩, by simpa only [PyData.shown] using q⟩
  | str z =>
    cases hd
    obtain ⟨t, rfl⟩ := rx
    exact PySem.P.repr_of_str ⟨.str _, H, I.tok _, ⟨_, rfl⟩, by simpa only [PyData.shown] using q⟩ (by simpa only [PyData.shown] using h4)
  | _ => cases hd
end Kx
namespace Kx
open PySem PySem.Spec PyProof.Rows L2
section
variable {P : Program} {w : World} {K : PySem.W.Frag} {mg mb : Str → Option Value} {k : Nat} {fa a : Addr} {fd : FuncData} {x : Str} {sp : Sp} {s₁ : Shared} {vs : List Value} {ns : List Int}
/-- the law's def at a heap in which nothing but the script is tracked -/
theorem lawG_at (kin : K.In s₁.heap) (gl : s₁.heap.Ns mainGlobals mg) (bl : s₁.heap.Ns builtinsNs mb) (bb : ∀ x : Str, x ≠ "__name__" → mb x = bootBuiltins x) (lim : s₁.heap.NoLimit) (gens : s₁.gens = #[])
    (sc : s₁.heap.get? a = some { cls := .type "list", data := .seq vs.toArray }) (hr : Room k callerA)
    (F : ∀ base : Heap, K.In base → base.Ns mainGlobals mg → FnG P w K mg base k fa fd [x] sp) (bind : ∀ (s : Shared) (u : Value), BindsTo s fd ⟨[u], []⟩ [(x, u)])
    (H : Hp) (only : Only H) (ok : HOk P w H s₁.heap) (lone : ∀ b, H b ≠ none → b = a) (notK : H a ≠ none → K.lookup a = none) (want : sp [.ref a] H (fun v _ => v = .bl true) E0) :
    codeAny (model P w) callerA (.call (.ref fa) ⟨[.ref a], []⟩) (fun r s' => r = .ok (.ret (.bool true)) ∧ OldK s₁.heap s'.heap ∧ s'.os = s₁.os ∧ AllBare s'.gens) s₁ := by
  have free : ∀ {b : Addr}, b ≠ a → H b = none := fun {b} hb => by
    cases q : H b with
    | none => rfl
    | some u => exact (hb (lone b (by rw [q]; exact Option.some_ne_none u))).elim
  have dictFree : ∀ {b : Addr} {o : Obj} {es : Array DictEntry} {ep : Nat}, s₁.heap.get? b = some o → o.data = .dict es ep → H b = none := fun {b o es ep} e d => by
    by_cases hb : b = a
    · subst hb
      rw [sc] at e
      cases e
      exact absurd d (fun z => by cases z)
    · exact free hb
  have kNs : ∀ {b : Addr} {m : Str → Option Value}, s₁.heap.Ns b m → (hidT s₁.heap H).Ns b m := by
    rintro b m ⟨o, es, ep, e, d, r⟩
    exact ⟨o, es, ep, hidT_get e (dictFree e d), d, r⟩
  have kFree : ∀ b o, K.lookup b = some o → H b = none := fun b o e => by
    by_cases hb : b = a
    · subst hb
      cases q : H b with
      | none => rfl
      | some u =>
        rw [notK (by rw [q]; exact Option.some_ne_none u)] at e
        cases e
    · exact free hb
  have kinB : K.In (hidT s₁.heap H) := fun b o e => hidT_get (kin b o e) (kFree b o e)
  have modB : Mod K mg (hidT s₁.heap H) := ⟨kinB, kNs gl, ⟨mb, kNs bl, bb⟩, by
    obtain ⟨mc, l1, l2⟩ := lim
    exact ⟨mc, kNs l1, l2⟩⟩
  have entry : Env0 P w K mg (hidT s₁.heap H) callerA [] s₁ H :=
    { frames := rfl, mod := modB, bs := fun b o e => of_hidT e, bsz := Nat.le_of_eq (hidT_size _ _), funs := trivial, frf := fun b hb => (by cases hb), hok := ok, bare := .of_eq gens }
  have go := (F _ kinB (kNs gl)).run callerA [] s₁ H ⟨[.ref a], []⟩ [.ref a] [.ref a] (fun v _ => v = .bl true) E0 rfl hr entry (bind s₁ (.ref a)) (.cons rfl .nil) want
  refine codeAny_mono go fun r s' h => ?_
  match r, h with
  | .error _, h => exact (h : False).elim
  | .ok .next, h => exact (h : False).elim
  | .ok .brk, h => exact (h : False).elim
  | .ok .cont, h => exact (h : False).elim
  | .ok (.ret u), h =>
    obtain ⟨v, H1, os, bare, un, ok1, rel, q⟩ := h
    have q1 : v = .bl true := q
    rw [q1] at rel
    have ru : u = Value.bool true := rel
    rw [ru]
    refine ⟨rfl, OldK.of_keep fun b o e => ?_, os, bare⟩
    cases hb : H b with
    | none => exact un.keep b o e hb (fun z => by cases z) (fun z => by cases z)
    | some t =>
      rcases only b with z | ⟨ob, xs, z⟩
      · rw [hb] at z; cases z
      · have e1 := (ok b _ z).1
        rw [e] at e1
        cases e1
        exact (ok1 b _ (un.frzs b _ _ z)).1
theorem lawG (kin : K.In s₁.heap) (gl : s₁.heap.Ns mainGlobals mg) (bl : s₁.heap.Ns builtinsNs mb) (bb : ∀ x : Str, x ≠ "__name__" → mb x = bootBuiltins x) (lim : s₁.heap.NoLimit) (gens : s₁.gens = #[])
    (sc : s₁.heap.get? a = some { cls := .type "list", data := .seq vs.toArray }) (hints : IntsAre vs ns) (hl : ns.length ≤ sizeLine) (hr : Room k callerA)
    (F : ∀ base : Heap, K.In base → base.Ns mainGlobals mg → FnG P w K mg base k fa fd [x] sp) (bind : ∀ (s : Shared) (u : Value), BindsTo s fd ⟨[u], []⟩ [(x, u)])
    (want : ∀ H : Hp, Only H → SqL K H a (ns.map V.int) → sp [.ref a] H (fun v _ => v = .bl true) E0) :
    codeAny (model P w) callerA (.call (.ref fa) ⟨[.ref a], []⟩) (fun r s' => r = .ok (.ret (.bool true)) ∧ OldK s₁.heap s'.heap ∧ s'.os = s₁.os ∧ AllBare s'.gens) s₁ := by
  have rv := vals_ints hints
  have lenV := hints.length
  cases hk : K.lookup a with
  | some o =>
    have e := kin a o hk
    rw [sc] at e
    cases e
    have on : Only (fun _ => none) := fun _ => .inl rfl
    refine lawG_at kin gl bl bb lim gens sc hr F bind (fun _ => none) on (fun b u z => by cases z) (fun b z => (z rfl).elim) (fun z => (z rfl).elim) (want _ on ?_)
    exact .inr ⟨_, vs.toArray, _, hk, rfl, rfl, rfl, by rw [List.size_toArray, lenV]; exact hl, by simpa using rv⟩
  | none =>
    have on : Only (fun b => if b = a then some (.frz { cls := .type "list", data := .seq vs.toArray } (.lst (ns.map V.int))) else none) := fun b => by
      by_cases hb : b = a
      · exact .inr ⟨_, _, if_pos hb⟩
      · exact .inl (if_neg hb)
    refine lawG_at kin gl bl bb lim gens sc hr F bind _ on (fun b u z => ?_) (fun b z => ?_) (fun _ => hk) (want _ on (.inl (.inr ⟨_, if_pos rfl⟩)))
    · by_cases hb : b = a
      · have z1 := (if_pos hb).symm.trans z
        cases z1
        rw [hb]
        exact ⟨sc, by rw [List.length_map]; exact hl, vs, _, rv, sc⟩
      · have z1 := (if_neg hb).symm.trans z
        cases z1
    · by_cases hb : b = a
      · exact hb
      · exact (z (if_neg hb)).elim
end
theorem walkG {l : PySem.W.OpenLaw} {n k : Nat} {q : Program} {loose : List Str} {XP : (Str → Option Value) → Heap → Prop} {YP : World → Heap → Prop} {d : DefRec} {K : Params → PySem.W.Frag} {sp : World → Sp} {x : Str}
    (hn : l.most = some n) (hn2 : n ≤ sizeLine) (hdf : d.params.defaults = []) (hr : Room k callerA) (hY : ∀ (w : World) (h : Heap), YP w h → (K w.params).In h)
    (F : ∀ (w : World) (mg : Str → Option Value) (fa : Addr) (h : Heap), (K w.params).In h → h.Ns mainGlobals mg → mg d.name = some (.ref fa) →
      ∃ fd : FuncData, (∀ (s : Shared) (u : Value), BindsTo s fd ⟨[u], []⟩ [(x, u)]) ∧ ∀ base : Heap, (K w.params).In base → base.Ns mainGlobals mg → FnG l.prog w (K w.params) mg base k fa fd [x] (sp w))
    (want : ∀ (w : World) (H : Hp) (a : Addr) (ns : List Int), ns.length ≤ n → Only H → SqL (K w.params) H a (ns.map V.int) → sp w [.ref a] H (fun v _ => v = .bl true) E0) :
    PySem.W.WalkO q loose XP YP l.row.toRowW d [] (fun f vs => PySem.call f vs) := by
  apply Att.attach_call hn hdf
  intro w s₀ s₁ mg mb fa o pm cd doc a vs ns G Y ho hd hcd hmg hobj hints hlen hg
  obtain ⟨fd, hb, hF⟩ := F w mg fa _ (hY w _ Y) G.T.g hmg
  exact lawG (hY w _ Y) G.T.g G.T.b G.T.builtins G.T.nolimit hg hobj hints (Nat.le_trans hlen hn2) hr hF hb (fun H hO hS => want w H a ns hlen hO hS)
end Kx

set_option Elab.async false
set_option linter.all false
set_option maxRecDepth 100000
set_option maxHeartbeats 4000000
set_option exponentiation.threshold 4000
/-! The reckoning of root numbers. -/
namespace Kx
open PySem
theorem least_red {D x y b : Int} (h : Sq D → y = 0) : least D x y b = red x y b := by
  unfold least
  split
  · rename_i hs
    rw [h hs, Int.zero_mul, Int.add_zero]
  · rfl
def plusT (D s : Int) (t u : Int × Int × Int) : Int × Int × Int := least D (t.1 * u.2.2 + s * u.1 * t.2.2) (t.2.1 * u.2.2 + s * u.2.1 * t.2.2) (t.2.2 * u.2.2)
def timesT (D : Int) (t u : Int × Int × Int) : Int × Int × Int := least D (t.1 * u.1 + D * t.2.1 * u.2.1) (t.1 * u.2.1 + t.2.1 * u.1) (t.2.2 * u.2.2)
def normT (D : Int) (u : Int × Int × Int) : Int := u.1 * u.1 - D * u.2.1 * u.2.1
def invT (D : Int) (u : Int × Int × Int) : Int × Int × Int := least D (u.2.2 * u.1) (-u.2.2 * u.2.1) (normT D u)
theorem Good.flat {D : Int} {t : Int × Int × Int} (h : Good D t) (s : Sq D) : t.2.1 = 0 := by
  rcases h.2.2 with h | h
  · exact h
  · exact absurd s h
theorem mul_ne {a b : Int} (h : a ≠ 0) (h2 : b ≠ 0) : a * b ≠ 0 := Int.mul_ne_zero h h2
theorem below_ne {D : Int} {t : Int × Int × Int} (h : Good D t) : t.2.2 ≠ 0 := by have := h.1; omega
theorem plus_good {D s : Int} {t u : Int × Int × Int} (ht : Good D t) (hu : Good D u) : Good D (plusT D s t u) := least_good (mul_ne (below_ne ht) (below_ne hu))
theorem times_good {D : Int} {t u : Int × Int × Int} (ht : Good D t) (hu : Good D u) : Good D (timesT D t u) := least_good (mul_ne (below_ne ht) (below_ne hu))
theorem norm_ne {D : Int} {u : Int × Int × Int} (h0 : 0 ≤ D) (hu : Good D u) (hz : ¬ (u.1 = 0 ∧ u.2.1 = 0)) : normT D u ≠ 0 := fun e => by
  unfold normT at e
  by_cases hy : u.2.1 = 0
  · rw [hy] at e
    have h1 : u.1 ≠ 0 := fun z => hz ⟨z, hy⟩
    have h2 := xx_pos h1
    rw [Int.mul_zero] at e
    omega
  · rcases hu.2.2 with h | h
    · exact hy h
    · exact h (sq_of (x := u.1) h0 hy (by omega))
theorem plus_red {D s : Int} {t u : Int × Int × Int} (ht : Good D t) (hu : Good D u) : plusT D s t u = red (t.1 * u.2.2 + s * u.1 * t.2.2) (t.2.1 * u.2.2 + s * u.2.1 * t.2.2) (t.2.2 * u.2.2) :=
  least_red fun h => by rw [ht.flat h, hu.flat h, Int.zero_mul, Int.mul_zero, Int.zero_mul]; rfl
theorem times_red {D : Int} {t u : Int × Int × Int} (ht : Good D t) (hu : Good D u) : timesT D t u = red (t.1 * u.1 + D * t.2.1 * u.2.1) (t.1 * u.2.1 + t.2.1 * u.1) (t.2.2 * u.2.2) :=
  least_red fun h => by rw [ht.flat h, hu.flat h, Int.zero_mul, Int.mul_zero]; rfl
theorem inv_red {D : Int} {u : Int × Int × Int} (hu : Good D u) : invT D u = red (u.2.2 * u.1) (-u.2.2 * u.2.1) (normT D u) :=
  least_red fun h => by rw [hu.flat h, Int.mul_zero]
theorem inv_good {D : Int} {u : Int × Int × Int} (h0 : 0 ≤ D) (hu : Good D u) (hz : ¬ (u.1 = 0 ∧ u.2.1 = 0)) : Good D (invT D u) := least_good (norm_ne h0 hu hz)
theorem ringA (a3 p a1 P1 D a2 P2 : Int) : a3 * p * (a1 * P1 + D * a2 * P2) = a3 * (a1 * (p * P1) + D * a2 * (p * P2)) := by grind
theorem ringB (u v U1 V3 V1 U3 : Int) : u * v * (U1 * V3 + 1 * V1 * U3) = (u * U1) * (v * V3) + 1 * (v * V1) * (u * U3) := by grind
theorem ringC (a1 a2 a3 b1 b2 b3 c1 c2 c3 D : Int) : a3 * (a1 * (b1 * c3 + 1 * c1 * b3) + D * a2 * (b2 * c3 + 1 * c2 * b3)) = (a1 * b1 + D * a2 * b2) * (a3 * c3) + 1 * (a1 * c1 + D * a2 * c2) * (a3 * b3) := by grind
theorem ringD (a3 p a1 P1 a2 P2 : Int) : a3 * p * (a1 * P2 + a2 * P1) = a3 * (a1 * (p * P2) + a2 * (p * P1)) := by grind
theorem ringE (a1 a2 a3 b1 b2 b3 c1 c2 c3 : Int) : a3 * (a1 * (b2 * c3 + 1 * c2 * b3) + a2 * (b1 * c3 + 1 * c1 * b3)) = (a1 * b2 + a2 * b1) * (a3 * c3) + 1 * (a1 * c2 + a2 * c1) * (a3 * b3) := by grind
theorem ringF (a3 p P3 : Int) : a3 * p * (a3 * P3) = a3 * (a3 * (p * P3)) := by grind
theorem ringG (u v U3 V3 : Int) : u * v * (U3 * V3) = (u * U3) * (v * V3) := by grind
theorem ringH (a3 b3 c3 : Int) : a3 * (a3 * (b3 * c3)) = (a3 * b3) * (a3 * c3) := by grind
theorem ringI (q i T1 b1 D T2 b2 : Int) : q * i * (T1 * b1 + D * T2 * b2) = i * (b1 * (q * T1) + D * b2 * (q * T2)) := by grind
theorem ringJ (i a1 I1 D a2 I2 b1 b2 : Int) : i * (b1 * (a1 * I1 + D * a2 * I2) + D * b2 * (a1 * I2 + a2 * I1)) = b1 * (a1 * (i * I1) + D * a2 * (i * I2)) + D * b2 * (a1 * (i * I2) + a2 * (i * I1)) := by grind
theorem ringK (a1 a2 b1 b2 b3 D : Int) : b1 * (a1 * (b3 * b1) + D * a2 * (-b3 * b2)) + D * b2 * (a1 * (-b3 * b2) + a2 * (b3 * b1)) = b3 * (b1 * b1 - D * b2 * b2) * a1 := by grind
theorem ringL (q i T1 b1 T2 b2 : Int) : q * i * (T1 * b2 + T2 * b1) = i * (b2 * (q * T1) + b1 * (q * T2)) := by grind
theorem ringM (i a1 I1 D a2 I2 b1 b2 : Int) : i * (b2 * (a1 * I1 + D * a2 * I2) + b1 * (a1 * I2 + a2 * I1)) = b2 * (a1 * (i * I1) + D * a2 * (i * I2)) + b1 * (a1 * (i * I2) + a2 * (i * I1)) := by grind
theorem ringN (a1 a2 b1 b2 b3 D : Int) : b2 * (a1 * (b3 * b1) + D * a2 * (-b3 * b2)) + b1 * (a1 * (-b3 * b2) + a2 * (b3 * b1)) = b3 * (b1 * b1 - D * b2 * b2) * a2 := by grind
theorem ringO (q i T3 b3 : Int) : q * i * (T3 * b3) = i * b3 * (q * T3) := by grind
theorem ringP (i a3 I3 b3 : Int) : i * b3 * (a3 * I3) = b3 * (i * I3) * a3 := by grind
theorem ringQ (q i U1 I1 D U2 I2 : Int) : q * i * (U1 * I1 + D * U2 * I2) = (q * U1) * (i * I1) + D * (q * U2) * (i * I2) := by grind
theorem ringR (a1 a2 b1 b2 b3 D : Int) : (a1 * b1 + D * a2 * b2) * (b3 * b1) + D * (a1 * b2 + a2 * b1) * (-b3 * b2) = b3 * (b1 * b1 - D * b2 * b2) * a1 := by grind
theorem ringS (q i U1 I1 U2 I2 : Int) : q * i * (U1 * I2 + U2 * I1) = (q * U1) * (i * I2) + (q * U2) * (i * I1) := by grind
theorem ringT (a1 a2 b1 b2 b3 D : Int) : (a1 * b1 + D * a2 * b2) * (-b3 * b2) + (a1 * b2 + a2 * b1) * (b3 * b1) = b3 * (b1 * b1 - D * b2 * b2) * a2 := by grind
theorem ringU (a3 b3 n : Int) : (a3 * b3) * n = b3 * n * a3 := by grind
/-- the sum's product is the products' sum -/
theorem distrib {D : Int} {a b c : Int × Int × Int} (ha : Good D a) (hb : Good D b) (hc : Good D c) : timesT D a (plusT D 1 b c) = plusT D 1 (timesT D a b) (timesT D a c) := by
  have na := below_ne ha
  have nb := below_ne hb
  have nc := below_ne hc
  have gP : Good D (plusT D 1 b c) := plus_good hb hc
  have gU : Good D (timesT D a b) := times_good ha hb
  have gV : Good D (timesT D a c) := times_good ha hc
  rw [times_red ha gP, plus_red gU gV]
  obtain ⟨p1, p2, p3⟩ := red_mul (x := b.1 * c.2.2 + 1 * c.1 * b.2.2) (y := b.2.1 * c.2.2 + 1 * c.2.1 * b.2.2) (mul_ne nb nc)
  obtain ⟨u1, u2, u3⟩ := red_mul (x := a.1 * b.1 + D * a.2.1 * b.2.1) (y := a.1 * b.2.1 + a.2.1 * b.1) (mul_ne na nb)
  obtain ⟨v1, v2, v3⟩ := red_mul (x := a.1 * c.1 + D * a.2.1 * c.2.1) (y := a.1 * c.2.1 + a.2.1 * c.1) (mul_ne na nc)
  rw [← plus_red hb hc] at p1 p2 p3
  rw [← times_red ha hb] at u1 u2 u3
  rw [← times_red ha hc] at v1 v2 v3
  have sp := lsg_ne (x := b.1 * c.2.2 + 1 * c.1 * b.2.2) (y := b.2.1 * c.2.2 + 1 * c.2.1 * b.2.2) (mul_ne nb nc)
  have su := lsg_ne (x := a.1 * b.1 + D * a.2.1 * b.2.1) (y := a.1 * b.2.1 + a.2.1 * b.1) (mul_ne na nb)
  have sv := lsg_ne (x := a.1 * c.1 + D * a.2.1 * c.2.1) (y := a.1 * c.2.1 + a.2.1 * c.1) (mul_ne na nc)
  have nP := below_ne gP
  have nU := below_ne gU
  have nV := below_ne gV
  generalize lsg (b.1 * c.2.2 + 1 * c.1 * b.2.2) (b.2.1 * c.2.2 + 1 * c.2.1 * b.2.2) (b.2.2 * c.2.2) = p at *
  generalize lsg (a.1 * b.1 + D * a.2.1 * b.2.1) (a.1 * b.2.1 + a.2.1 * b.1) (a.2.2 * b.2.2) = u at *
  generalize lsg (a.1 * c.1 + D * a.2.1 * c.2.1) (a.1 * c.2.1 + a.2.1 * c.1) (a.2.2 * c.2.2) = v at *
  generalize plusT D 1 b c = P at *
  generalize timesT D a b = U at *
  generalize timesT D a c = V at *
  rw [← red_scale (k := a.2.2 * p) (mul_ne na sp) (mul_ne na nP), ← red_scale (k := u * v) (mul_ne su sv) (mul_ne nU nV)]
  have e1 : a.2.2 * p * (a.1 * P.1 + D * a.2.1 * P.2.1) = u * v * (U.1 * V.2.2 + 1 * V.1 * U.2.2) := by rw [ringA, ← p1, ← p2, ringB u v, ← u1, ← v3, ← v1, ← u3, ringC]
  have e2 : a.2.2 * p * (a.1 * P.2.1 + a.2.1 * P.1) = u * v * (U.2.1 * V.2.2 + 1 * V.2.1 * U.2.2) := by rw [ringD, ← p1, ← p2, ringB u v, ← u2, ← v3, ← v2, ← u3, ringE]
  have e3 : a.2.2 * p * (a.2.2 * P.2.2) = u * v * (U.2.2 * V.2.2) := by rw [ringF, ← p3, ringG, ← u3, ← v3, ringH]
  rw [e1, e2, e3]
/-- what is divided by comes back -/
theorem over_times {D : Int} {a b : Int × Int × Int} (h0 : 0 ≤ D) (ha : Good D a) (hb : Good D b) (hz : ¬ (b.1 = 0 ∧ b.2.1 = 0)) : timesT D (timesT D a (invT D b)) b = a := by
  have na := below_ne ha
  have nb := below_ne hb
  have nn := norm_ne h0 hb hz
  have gI := inv_good h0 hb hz
  have gQ : Good D (timesT D a (invT D b)) := times_good ha gI
  rw [times_red gQ hb]
  obtain ⟨i1, i2, i3⟩ := red_mul (x := b.2.2 * b.1) (y := -b.2.2 * b.2.1) nn
  have si := lsg_ne (x := b.2.2 * b.1) (y := -b.2.2 * b.2.1) nn
  rw [← inv_red hb] at i1 i2 i3
  have nI := below_ne gI
  obtain ⟨q1, q2, q3⟩ := red_mul (x := a.1 * (invT D b).1 + D * a.2.1 * (invT D b).2.1) (y := a.1 * (invT D b).2.1 + a.2.1 * (invT D b).1) (mul_ne na nI)
  have sq := lsg_ne (x := a.1 * (invT D b).1 + D * a.2.1 * (invT D b).2.1) (y := a.1 * (invT D b).2.1 + a.2.1 * (invT D b).1) (mul_ne na nI)
  rw [← times_red ha gI] at q1 q2 q3
  have nQ := below_ne gQ
  generalize lsg (a.1 * (invT D b).1 + D * a.2.1 * (invT D b).2.1) (a.1 * (invT D b).2.1 + a.2.1 * (invT D b).1) (a.2.2 * (invT D b).2.2) = q at *
  generalize timesT D a (invT D b) = T at *
  generalize lsg (b.2.2 * b.1) (-b.2.2 * b.2.1) (normT D b) = i at *
  generalize invT D b = I at *
  have hn : normT D b = b.1 * b.1 - D * b.2.1 * b.2.1 := rfl
  generalize normT D b = n at *
  rw [← red_scale (k := q * i) (mul_ne sq si) (mul_ne nQ nb)]
  have e1 : q * i * (T.1 * b.1 + D * T.2.1 * b.2.1) = b.2.2 * n * a.1 := by rw [ringI, ← q1, ← q2, ringJ, ← i1, ← i2, ringK, ← hn]
  have e2 : q * i * (T.1 * b.2.1 + T.2.1 * b.1) = b.2.2 * n * a.2.1 := by rw [ringL, ← q1, ← q2, ringM, ← i1, ← i2, ringN, ← hn]
  have e3 : q * i * (T.2.2 * b.2.2) = b.2.2 * n * a.2.2 := by rw [ringO, ← q3, ringP, ← i3]
  rw [e1, e2, e3, red_scale (mul_ne nb nn) na]
  exact red_self ha.1 ha.2.1
theorem times_over {D : Int} {a b : Int × Int × Int} (h0 : 0 ≤ D) (ha : Good D a) (hb : Good D b) (hz : ¬ (b.1 = 0 ∧ b.2.1 = 0)) : timesT D (timesT D a b) (invT D b) = a := by
  have na := below_ne ha
  have nb := below_ne hb
  have nn := norm_ne h0 hb hz
  have gI := inv_good h0 hb hz
  have gU : Good D (timesT D a b) := times_good ha hb
  rw [times_red gU gI]
  obtain ⟨i1, i2, i3⟩ := red_mul (x := b.2.2 * b.1) (y := -b.2.2 * b.2.1) nn
  have si := lsg_ne (x := b.2.2 * b.1) (y := -b.2.2 * b.2.1) nn
  rw [← inv_red hb] at i1 i2 i3
  have nI := below_ne gI
  obtain ⟨q1, q2, q3⟩ := red_mul (x := a.1 * b.1 + D * a.2.1 * b.2.1) (y := a.1 * b.2.1 + a.2.1 * b.1) (mul_ne na nb)
  have sq := lsg_ne (x := a.1 * b.1 + D * a.2.1 * b.2.1) (y := a.1 * b.2.1 + a.2.1 * b.1) (mul_ne na nb)
  rw [← times_red ha hb] at q1 q2 q3
  have nU := below_ne gU
  generalize lsg (a.1 * b.1 + D * a.2.1 * b.2.1) (a.1 * b.2.1 + a.2.1 * b.1) (a.2.2 * b.2.2) = q at *
  generalize timesT D a b = U at *
  generalize lsg (b.2.2 * b.1) (-b.2.2 * b.2.1) (normT D b) = i at *
  generalize invT D b = I at *
  have hn : normT D b = b.1 * b.1 - D * b.2.1 * b.2.1 := rfl
  generalize normT D b = n at *
  rw [← red_scale (k := q * i) (mul_ne sq si) (mul_ne nU nI)]
  have e1 : q * i * (U.1 * I.1 + D * U.2.1 * I.2.1) = b.2.2 * n * a.1 := by rw [ringQ, ← q1, ← q2, ← i1, ← i2, ringR, ← hn]
  have e2 : q * i * (U.1 * I.2.1 + U.2.1 * I.1) = b.2.2 * n * a.2.1 := by rw [ringS, ← q1, ← q2, ← i1, ← i2, ringT, ← hn]
  have e3 : q * i * (U.2.2 * I.2.2) = b.2.2 * n * a.2.2 := by rw [ringG, ← q3, ← i3, ringU]
  rw [e1, e2, e3, red_scale (mul_ne nb nn) na]
  exact red_self ha.1 ha.2.1
end Kx
namespace Kx
open PySem PySem.Spec PyProof.Rows L2
/-! ### sizes -/
def Sz (n : Nat) (t : Int × Int × Int) : Prop := t.1.natAbs < 2 ^ n ∧ t.2.1.natAbs < 2 ^ n ∧ t.2.2.natAbs < 2 ^ n
theorem up {x n m : Nat} (h : x < 2 ^ n) (l : n ≤ m) : x < 2 ^ m := Nat.lt_of_lt_of_le h (Nat.pow_le_pow_right (by decide) l)
theorem Sz.up {n m : Nat} {t : Int × Int × Int} (h : Sz n t) (l : n ≤ m) : Sz m t := ⟨Kx.up h.1 l, Kx.up h.2.1 l, Kx.up h.2.2 l⟩
theorem sz_add {x y : Int} {k : Nat} (hx : x.natAbs < 2 ^ k) (hy : y.natAbs < 2 ^ k) : (x + y).natAbs < 2 ^ (k + 1) := by
  rw [Nat.pow_succ]
  omega
theorem sz_sub {x y : Int} {k : Nat} (hx : x.natAbs < 2 ^ k) (hy : y.natAbs < 2 ^ k) : (x - y).natAbs < 2 ^ (k + 1) := by
  rw [Nat.pow_succ]
  omega
theorem bnd {x : Int} {n : Nat} (h : x.natAbs < 2 ^ n) (l : n ≤ 2000) : x.natAbs < 2 ^ 2000 := up h l
theorem okm {i j : Int} {n m : Nat} (hi : i.natAbs < 2 ^ n) (hj : j.natAbs < 2 ^ m) (ln : n ≤ 2000) (lm : m ≤ 2000) : IntMulOk i j := by
  have h1 := bnd hi ln
  have h2 := bnd hj lm
  exact cmw (by omega) (by omega) (by omega) (by omega)
theorem red_sz {x y b : Int} {n : Nat} (hb : b ≠ 0) (h1 : x.natAbs < 2 ^ n) (h2 : y.natAbs < 2 ^ n) (h3 : b.natAbs < 2 ^ n) : Sz n (red x y b) := by
  obtain ⟨p, q, r⟩ := red_size (x := x) (y := y) hb
  exact ⟨Nat.lt_of_le_of_lt p h1, Nat.lt_of_le_of_lt q h2, Nat.lt_of_le_of_lt r h3⟩
section
variable {D s : Int} {t u : Int × Int × Int} {n m : Nat}
theorem one_mul_sz {s z : Int} {k : Nat} (hs : s = 1 ∨ s = -1) (hz : z.natAbs < 2 ^ k) : (s * z).natAbs < 2 ^ k := by
  rcases hs with rfl | rfl
  · rw [Int.one_mul]; exact hz
  · rw [Int.neg_mul, Int.one_mul, Int.natAbs_neg]; exact hz
theorem plus_sz (hs : s = 1 ∨ s = -1) (ht : Good D t) (hu : Good D u) (zt : Sz n t) (zu : Sz m u) : Sz (n + m + 1) (plusT D s t u) := by
  rw [plus_red ht hu]
  refine red_sz (mul_ne (below_ne ht) (below_ne hu)) (sz_add (wide_lt zt.1 zu.2.2) ?_) (sz_add (wide_lt zt.2.1 zu.2.2) ?_) (Kx.up (wide_lt zt.2.2 zu.2.2) (by omega))
  · rw [Nat.add_comm n m]; exact wide_lt (one_mul_sz hs zu.1) zt.2.2
  · rw [Nat.add_comm n m]; exact wide_lt (one_mul_sz hs zu.2.1) zt.2.2
theorem dmul_sz {k : Nat} (h0 : D.natAbs < 2 ^ 200) {x y : Int} (hx : x.natAbs < 2 ^ n) (hy : y.natAbs < 2 ^ m) (l : 200 + n + m ≤ k) : (D * x * y).natAbs < 2 ^ k := Kx.up (wide_lt (wide_lt h0 hx) hy) l
theorem times_sz (h0 : D.natAbs < 2 ^ 200) (ht : Good D t) (hu : Good D u) (zt : Sz n t) (zu : Sz m u) : Sz (n + m + 201) (timesT D t u) := by
  rw [times_red ht hu]
  refine red_sz (mul_ne (below_ne ht) (below_ne hu)) (sz_add (Kx.up (wide_lt zt.1 zu.1) (by omega)) (dmul_sz h0 zt.2.1 zu.2.1 (by omega))) (Kx.up (sz_add (wide_lt zt.1 zu.2.1) (wide_lt zt.2.1 zu.1)) (by omega)) (Kx.up (wide_lt zt.2.2 zu.2.2) (by omega))
theorem norm_sz (h0 : D.natAbs < 2 ^ 200) (zu : Sz m u) : (normT D u).natAbs < 2 ^ (2 * m + 201) := by
  unfold normT
  exact sz_sub (Kx.up (wide_lt zu.1 zu.1) (by omega)) (dmul_sz h0 zu.2.1 zu.2.1 (by omega))
theorem inv_sz (h0 : 0 ≤ D) (h1 : D.natAbs < 2 ^ 200) (hu : Good D u) (hz : ¬ (u.1 = 0 ∧ u.2.1 = 0)) (zu : Sz m u) : Sz (2 * m + 201) (invT D u) := by
  rw [inv_red hu]
  have hn : (-u.2.2).natAbs < 2 ^ m := by rw [Int.natAbs_neg]; exact zu.2.2
  exact red_sz (norm_ne h0 hu hz) (Kx.up (wide_lt zu.2.2 zu.1) (by omega)) (Kx.up (wide_lt hn zu.2.1) (by omega)) (norm_sz h1 zu)
end
/-! ### promises -/
def spReduced : Sp := fun vs H Q _ => ∃ D x y b : Int, vs = [.int D, .int x, .int y, .int b] ∧ 0 ≤ D ∧ D < 2 ^ 1000 ∧ x.natAbs < 2 ^ 2000 ∧ y.natAbs < 2 ^ 2000 ∧ b.natAbs < 2 ^ 2000 ∧ b ≠ 0 ∧ ∀ (p : Addr) (H' : Hp), H p = none → Same H H' → H' p = some (.tup (rootV (least D x y b))) → Q (.ref p) H'
/-- two root numbers at hand -/
structure Two (D : Int) (H : Hp) (a b : Addr) (t u : Int × Int × Int) (n m : Nat) : Prop where
  M : Meas D
  lt : D < 2 ^ 200
  ra : RootAt D H a t
  rb : RootAt D H b u
  za : Sz n t
  zb : Sz m u
theorem Two.same {D : Int} {H H' : Hp} {a b : Addr} {t u : Int × Int × Int} {n m : Nat} (h : Two D H a b t u n m) (s : Same H H') : Two D H' a b t u n m := ⟨h.M, h.lt, h.ra.same s, h.rb.same s, h.za, h.zb⟩
theorem Two.dn {D : Int} {H : Hp} {a b : Addr} {t u : Int × Int × Int} {n m : Nat} (h : Two D H a b t u n m) : 0 ≤ D ∧ D.natAbs < 2 ^ 200 := by
  have h1 := h.M.1
  have h2 := h.lt
  constructor <;> omega
def spTotal : Sp := fun vs H Q _ => ∃ (D s : Int) (a b : Addr) (t u : Int × Int × Int) (n m : Nat), vs = [.int D, .ref a, .ref b, .int s] ∧ (s = 1 ∨ s = -1) ∧ Two D H a b t u n m ∧ n + m ≤ 1700 ∧ ∀ (p : Addr) (H' : Hp), H p = none → Same H H' → RootAt D H' p (plusT D s t u) → Q (.ref p) H'
def spPlus (s : Int) : Sp := fun vs H Q _ => ∃ (D : Int) (a b : Addr) (t u : Int × Int × Int) (n m : Nat), vs = [.int D, .ref a, .ref b] ∧ Two D H a b t u n m ∧ n + m ≤ 1700 ∧ ∀ (p : Addr) (H' : Hp), H p = none → Same H H' → RootAt D H' p (plusT D s t u) → Q (.ref p) H'
def spTimes : Sp := fun vs H Q _ => ∃ (D : Int) (a b : Addr) (t u : Int × Int × Int) (n m : Nat), vs = [.int D, .ref a, .ref b] ∧ Two D H a b t u n m ∧ n + m ≤ 1700 ∧ ∀ (p : Addr) (H' : Hp), H p = none → Same H H' → RootAt D H' p (timesT D t u) → Q (.ref p) H'
def spOver : Sp := fun vs H Q _ => ∃ (D : Int) (a b : Addr) (t u : Int × Int × Int) (n m : Nat), vs = [.int D, .ref a, .ref b] ∧ Two D H a b t u n m ∧ n + 2 * m ≤ 1450 ∧ ¬ (u.1 = 0 ∧ u.2.1 = 0) ∧ ∀ (p : Addr) (H' : Hp), H p = none → Same H H' → RootAt D H' p (timesT D t (invT D u)) → Q (.ref p) H'
/-- the law's own sums: with the sign as the last argument -/
def spLawPlus : Sp := spTotal
/-! ### repr -/
mutual
def cost : PyData → Nat
  | .none => 4
  | .bool _ => 5
  | .int _ => 1925
  | .str x => (reprText x).length
  | .list xs => costAll xs + 3
  | .tuple xs => costAll xs + 3
  | .dict _ => 0
def costAll : List PyData → Nat
  | [] => 0
  | x :: xs => cost x + 2 + costAll xs
end
theorem listText_le : ∀ ts : List Str, (listText ts).length ≤ piled ts + 3
  | [] => by decide
  | t :: ts => by
    unfold listText
    show (textFrom 1 (("[" : Str) ++ t) ts ++ ("]" : Str)).length ≤ _
    have h := textFrom_length_pos ts 1 (("[" : Str) ++ t) (by decide)
    have e1 : ∀ a b : Str, (a ++ b).length = a.length + b.length := fun a b => Str.length_append a b
    rw [e1, h, e1, piled_cons]
    have e2 : ("[" : Str).length = 1 := by decide
    have e3 : ("]" : Str).length = 1 := by decide
    omega
theorem tupleText_le (ts : List Str) : (tupleText ts).length ≤ piled ts + 3 := by
  unfold tupleText
  have e1 : ∀ a b : Str, (a ++ b).length = a.length + b.length := fun a b => Str.length_append a b
  rw [e1, e1]
  have e2 : ("(" : Str).length = 1 := by decide
  have hj : (Str.join ", " ts).length ≤ piled ts := by
    cases ts with
    | nil => decide
    | cons t r =>
      have := join_length_add (t :: r) (by simp)
      omega
  have e3 : ∀ c : Bool, ((if c then ",)" else ")" : String) : Str).length ≤ 2 := fun c => by cases c <;> decide
  have := e3 (ts.length == 1)
  omega
mutual
theorem cost_ok : ∀ d : PyData, d.showable = true → d.hasDict = false → d.shown.length ≤ cost d
  | .none, _, _ => by simp only [PyData.shown, cost]; decide
  | .bool b, _, _ => by cases b <;> simp only [PyData.shown, cost] <;> decide
  | .int i, h, _ => by
    simp only [PyData.shown, cost]
    have h2 : i.natAbs.log2 < 1920 := by simpa [PyData.showable] using h
    exact Nat.le_trans (int_text_len_1921 h2) (by decide)
  | .str x, _, _ => by simp only [PyData.shown, cost]; exact Nat.le_refl _
  | .list xs, h, hd => by
    simp only [PyData.shown, cost]
    have := costAll_ok xs (by simpa [PyData.showable] using h) (by simpa [PyData.hasDict] using hd)
    have := listText_le (PyData.shownAll xs)
    omega
  | .tuple xs, h, hd => by
    simp only [PyData.shown, cost]
    have := costAll_ok xs (by simpa [PyData.showable] using h) (by simpa [PyData.hasDict] using hd)
    have := tupleText_le (PyData.shownAll xs)
    omega
  | .dict _, _, h => by simp [PyData.hasDict] at h
theorem costAll_ok : ∀ ds : List PyData, PyData.showableAll ds = true → PyData.hasDictAll ds = false → piled (PyData.shownAll ds) ≤ costAll ds
  | [], _, _ => by simp only [PyData.shownAll, costAll]; decide
  | d :: ds, h, hd => by
    have h1 : d.showable = true ∧ PyData.showableAll ds = true := by simpa [PyData.showableAll] using h
    have h2 : d.hasDict = false ∧ PyData.hasDictAll ds = false := by simpa [PyData.hasDictAll] using hd
    simp only [PyData.shownAll, costAll, piled_cons]
    have := cost_ok d h1.1 h2.1
    have := costAll_ok ds h1.2 h2.2
    omega
end
/-- data whose repr may be asked for -/
structure Rp (K : PySem.W.Frag) (H : Hp) (x : V) (d : PyData) : Prop where
  dp : Dp K H x d
  sh : d.showable = true
  nd : d.hasDict = false
  de : d.depth ≤ 60
  co : cost d ≤ 16000000
theorem cr_reprR {X : Cx} (gd : X.A.guards = some []) (hu : X.A.units + 64 < cLine) : CallR X (.builtin "repr") (fun vs H Q => ∃ (x : V) (d : PyData), vs = [x] ∧ Rp X.K H x d ∧ Q (.str d.shown) H) := by
  intro pins s σ H vs us Q I r h
  obtain ⟨x, d, e, R, q⟩ := h
  exact cr_reprD gd hu pins s σ H vs us Q I r ⟨x, d, e, R.dp, R.sh, R.nd, R.de, Nat.le_trans (cost_ok d R.sh R.nd) (Nat.le_trans R.co (by decide)), q⟩
def rootD (t : Int × Int × Int) : PyData := .tuple [.int t.1, .int t.2.1, .int t.2.2]
theorem dp_root {K : PySem.W.Frag} {H : Hp} {a : Addr} {t : Int × Int × Int} (h : H a = some (.tup (rootV t))) : Dp K H (.ref a) (rootD t) := .tup (SqT.of h) (.cons (.int _) (.cons (.int _) (.cons (.int _) .nil)))
theorem log_sz {x : Int} {n : Nat} (h : x.natAbs < 2 ^ n) (l : n ≤ 1900) : x.natAbs.log2 < 1920 := Nat.lt_of_lt_of_le (PySem.Flt.log2_lt_of (by decide) (up h l)) (by decide)
theorem root_show {t : Int × Int × Int} {n : Nat} (z : Sz n t) (l : n ≤ 1900) : (rootD t).showable = true := by
  simp only [rootD, PyData.showable, PyData.showableAll, log_sz z.1 l, log_sz z.2.1 l, log_sz z.2.2 l, decide_true, Bool.and_self]
theorem shaped_root (t : Int × Int × Int) : SeqAt.shaped (rootD t) = true := rfl
theorem ne_roots {K : PySem.W.Frag} {H : Hp} {a b : Addr} {t u : Int × Int × Int} {Q : VK} (h1 : H a = some (.tup (rootV t))) (h2 : H b = some (.tup (rootV u))) (e : t = u) (q : Q (.bl false) H) : rNeD K (.ref a) (.ref b) H Q := by
  subst e
  exact ⟨_, _, dp_root h1, dp_root h2, rfl, rfl, by rw [eqv_same rfl]; exact q⟩
theorem eq_roots {K : PySem.W.Frag} {H : Hp} {a b : Addr} {t u : Int × Int × Int} {Q : VK} (h1 : H a = some (.tup (rootV t))) (h2 : H b = some (.tup (rootV u))) (e : t = u) (q : Q (.bl true) H) : rEqD K (.ref a) (.ref b) H Q := by
  subst e
  exact ⟨_, _, dp_root h1, dp_root h2, rfl, rfl, by rw [eqv_same rfl]; exact q⟩
theorem rp_roots3 {K : PySem.W.Frag} {H : Hp} {L a b c : Addr} {t u v : Int × Int × Int} {n m l : Nat} (hL : H L = some (.lst [.ref a, .ref b, .ref c])) (h1 : H a = some (.tup (rootV t))) (h2 : H b = some (.tup (rootV u))) (h3 : H c = some (.tup (rootV v)))
    (z1 : Sz n t) (z2 : Sz m u) (z3 : Sz l v) (l1 : n ≤ 1900) (l2 : m ≤ 1900) (l3 : l ≤ 1900) : Rp K H (.ref L) (.list [rootD t, rootD u, rootD v]) where
  dp := .lst (SqL.of hL) (.cons (dp_root h1) (.cons (dp_root h2) (.cons (dp_root h3) .nil)))
  sh := by
    show (PyData.showableAll [rootD t, rootD u, rootD v]) = true
    simp only [PyData.showableAll, root_show z1 l1, root_show z2 l2, root_show z3 l3, Bool.and_self]
  nd := rfl
  de := Nat.le_of_ble_eq_true rfl
  co := Nat.le_of_ble_eq_true rfl
theorem GenAt.ne {H : Hp} {g a : Addr} {k : Nat} (G : GenAt H g k) {xs : List V} (h : H a = some (.tup xs)) : a ≠ g := fun z => by
  obtain ⟨_, _, _, e, _⟩ := G
  rw [z, e] at h
  cases h
theorem GenAt.nn {H : Hp} {g a : Addr} {k : Nat} (G : GenAt H g k) (h : H a = none) : a ≠ g := fun z => by
  obtain ⟨_, _, _, e, _⟩ := G
  rw [z, e] at h
  cases h
theorem GenAt.upd {H : Hp} {g d : Addr} {k : Nat} {o : HO} (G : GenAt H g k) (h : d ≠ g) : GenAt (L2.upd H d o) g k := by
  obtain ⟨a, b, c, e, r⟩ := G
  exact ⟨a, b, c, by rw [upd_ne (Ne.symm h)]; exact e, r⟩
theorem Keep.root {D : Int} {H H' : Hp} {g a : Addr} {k : Nat} {t : Int × Int × Int} (s : Keep g H H') (G : GenAt H g k) (r : RootAt D H a t) : RootAt D H' a t := ⟨s _ _ (G.ne r.1) r.1, r.2⟩
theorem RootAt.upd {D : Int} {H : Hp} {d a : Addr} {t : Int × Int × Int} {xs : List V} {o : HO} (r : RootAt D H a t) (h : H d = some (.lst xs)) : RootAt D (L2.upd H d o) a t := by
  refine ⟨?_, r.2⟩
  rw [upd_ne (fun z => ?_)]
  · exact r.1
  · have := r.1
    rw [z, h] at this
    cases this
theorem Keep.upd {H H' : Hp} {g d : Addr} {o : HO} (s : Keep g H H') (h : H d = none) : Keep g H (L2.upd H' d o) := fun b u hb e => by
  rw [upd_ne (ne_of_none e h)]
  exact s b u hb e
theorem rt_half {D : Int} (h0 : 0 ≤ D) (h1 : D < 2 ^ 200) : rt D < 2 ^ 100 := by
  obtain ⟨s0, s1, s2⟩ := rt_spec h0
  by_cases h : rt D < 2 ^ 100
  · exact h
  · have := sq_mono (x := 2 ^ 100) (y := rt D) (by decide) (by omega)
    omega
theorem least_sz {D x y b : Int} (h0 : 0 ≤ D) (h1 : D < 2 ^ 200) (hx : x.natAbs < 2 ^ 150) (hy : y.natAbs < 2 ^ 150) (hb : b.natAbs < 2 ^ 150) (hb0 : b ≠ 0) : Sz 251 (least D x y b) := by
  obtain ⟨r0, r1⟩ := rt_le h0
  have r2 := rt_half h0 h1
  have w1 : (y * rt D).natAbs < 2 ^ (150 + 100) := wide_lt hy (by omega)
  simp only [Nat.reduceAdd] at w1
  unfold least
  split
  · exact red_sz hb0 (sz_add (up hx (by decide)) w1) (by decide) (up hb (by decide))
  · exact red_sz hb0 (up hx (by decide)) (up hy (by decide)) (up hb (by decide))
theorem Good.le {D : Int} {t : Int × Int × Int} (h : Good D t) : t = least D t.1 t.2.1 t.2.2 := (least_self h).symm
theorem two_new {D : Int} {H : Hp} {p q : Addr} {t u : Int × Int × Int} (M : Meas D) (l : D < 2 ^ 200) (n1 : H p = none) (n2 : L2.upd H p (.tup (rootV t)) q = none) (gt : Good D t) (gu : Good D u) (zt : Sz 10 t) (zu : Sz 10 u) :
    Two D (L2.upd (L2.upd H p (.tup (rootV t))) q (.tup (rootV u))) p q t u 10 10 :=
  ⟨M, l, ⟨by rw [upd_ne (ne_new n2)]; exact upd_same, gt⟩, ⟨upd_same, gu⟩, zt, zu⟩
end Kx

set_option Elab.async false
set_option linter.all false
set_option maxRecDepth 100000
set_option maxHeartbeats 4000000
set_option exponentiation.threshold 4000
/-! Odd values: what they are, and that they stay. -/
namespace Kx
open PySem PySem.Spec PyProof.Rows L2
mutual
theorem dp_same {K : PySem.W.Frag} {H H' : Hp} (s : Same H H') : ∀ (d : PyData) (v : V), Dp K H v d → Dp K H' v d
  | .none, _, h => by cases h; exact .non
  | .bool _, _, h => by cases h; exact .bl _
  | .int _, _, h => by cases h; exact .int _
  | .str _, _, h => by cases h; exact .str _
  | .list ds, _, h => by
    cases h with
    | lst q r => exact .lst (SqL.ext q s) (dpAll_same s ds _ r)
  | .tuple ds, _, h => by
    cases h with
    | tup q r => exact .tup (SqT.ext q s) (dpAll_same s ds _ r)
  | .dict _, _, h => by cases h
theorem dpAll_same {K : PySem.W.Frag} {H H' : Hp} (s : Same H H') : ∀ (ds : List PyData) (vs : List V), DpAll K H vs ds → DpAll K H' vs ds
  | [], _, h => by cases h; exact .nil
  | d :: ds, _, h => by
    cases h with
    | cons q r => exact .cons (dp_same s d _ q) (dpAll_same s ds _ r)
end
theorem Rp.same {K : PySem.W.Frag} {H H' : Hp} {x : V} {d : PyData} (h : Rp K H x d) (s : Same H H') : Rp K H' x d := ⟨dp_same s _ _ h.dp, h.sh, h.nd, h.de, h.co⟩
theorem OkItem.at {H : Hp} {a : Addr} (h : OkItem H (.ref a)) : ∃ o, H a = some o := by
  obtain ⟨t, ht⟩ := h
  have h2 : (match H a with | some (.lst _) => some "list" | some (.tup _) => some "tuple" | some (.dK _) => some "dict" | _ => none) = some t := ht
  cases e : H a with
  | none => rw [e] at h2; cases h2
  | some o => exact ⟨o, rfl⟩
theorem OkV.same {H H' : Hp} {x : V} (h : OkV H x) (s : Same H H') : OkV H' x := by
  refine ⟨h.1.same s, fun a xs e1 e2 y hy => ?_⟩
  subst e1
  obtain ⟨o, ho⟩ := h.1.at
  have := s _ _ ho
  rw [e2] at this
  cases this
  exact (h.2 a xs rfl ho y hy).same s
def Flat (d : PyData) : Prop := d.canLay0 = true ∧ d.depth ≤ 20
theorem flat_lay : ∀ {ds : List PyData}, (∀ d ∈ ds, Flat d) → PyData.canLayAll0 ds = true ∧ PyData.depthAll ds ≤ 20
  | [], _ => ⟨rfl, by simp only [PyData.depthAll]; omega⟩
  | d :: ds, h => by
    obtain ⟨h1, h2⟩ := h d (List.mem_cons_self ..)
    obtain ⟨h3, h4⟩ := flat_lay (ds := ds) fun e he => h e (List.mem_cons_of_mem _ he)
    refine ⟨?_, ?_⟩
    · simp only [PyData.canLayAll0, h1, h3, Bool.and_self]
    · simp only [PyData.depthAll]
      omega
theorem flat_shaped {ds : List PyData} (h : ∀ d ∈ ds, Flat d) : SeqAt.shaped (.list ds) = true := by
  obtain ⟨h1, h2⟩ := flat_lay h
  have e1 : PyData.canLay0 (.list ds) = true := by simp only [PyData.canLay0]; exact h1
  have e2 : PyData.depth (.list ds) ≤ 64 := by simp only [PyData.depth]; omega
  unfold SeqAt.shaped
  rw [e1, decide_eq_true e2]
  rfl
theorem dp_filter {K : PySem.W.Frag} {H : Hp} {f : V → Bool} : ∀ {xs : List V} {ds : List PyData}, DpAll K H xs ds → (∀ d ∈ ds, Flat d) → ∃ es, DpAll K H (xs.filter f) es ∧ ∀ d ∈ es, Flat d
  | [], _, _, _ => ⟨[], .nil, fun d hd => absurd hd List.not_mem_nil⟩
  | x :: xs, _, h, hf => by
    cases h with
    | @cons _ _ d ds q r =>
      obtain ⟨es, h1, h2⟩ := dp_filter (f := f) r fun e he => hf e (List.mem_cons_of_mem _ he)
      cases hx : f x with
      | true =>
        rw [List.filter_cons_of_pos hx]
        refine ⟨d :: es, .cons q h1, fun e he => ?_⟩
        rcases List.mem_cons.mp he with rfl | he
        · exact hf e (List.mem_cons_self ..)
        · exact h2 e he
      | false =>
        rw [List.filter_cons_of_neg (by rw [hx]; decide)]
        exact ⟨es, h1, h2⟩
theorem dpAll_nil {K : PySem.W.Frag} {H : Hp} {xs : List V} {ds : List PyData} (h : DpAll K H xs ds) : xs.isEmpty = ds.isEmpty := by
  cases h <;> rfl
/-- a value that is asked for, with its data -/
structure Val (K : PySem.W.Frag) (H : Hp) (x : V) (d : PyData) : Prop where
  rp : Rp K H x d
  ok : OkV H x
  it : ∀ a xs, x = .ref a → H a = some (.tup xs) → ∃ ds, DpAll K H xs ds ∧ ∀ d ∈ ds, Flat d
theorem Val.same {K : PySem.W.Frag} {H H' : Hp} {x : V} {d : PyData} (h : Val K H x d) (s : Same H H') : Val K H' x d := by
  refine ⟨h.rp.same s, h.ok.same s, fun a xs e1 e2 => ?_⟩
  subst e1
  obtain ⟨o, ho⟩ := h.ok.1.at
  have := s _ _ ho
  rw [e2] at this
  cases this
  obtain ⟨ds, h1, h2⟩ := h.it a xs rfl ho
  exact ⟨ds, dpAll_same s _ _ h1, h2⟩
theorem all_filter (f : V → Bool) : ∀ xs : List V, (xs.filter fun x => !f x).isEmpty = xs.all f
  | [] => rfl
  | x :: xs => by
    cases h : f x with
    | true => rw [List.filter_cons_of_neg (by rw [h]; decide), List.all_cons, h, Bool.true_and, all_filter f xs]
    | false => rw [List.filter_cons_of_pos (by rw [h]; rfl), List.all_cons, h]; rfl
theorem eqv_nil (es : List PyData) : PyData.eqv (.list es) (.list []) = es.isEmpty := by cases es <;> rfl
/-- a list that holds what is not let is empty exactly if all is let -/
theorem ne_empty {K : PySem.W.Frag} {H : Hp} {L E : Addr} {xs : List V} {ds : List PyData} {f : V → Bool} {Q : VK} (hL : H L = some (.lst (xs.filter fun x => !f x))) (hE : H E = some (.lst [])) (hd : DpAll K H xs ds) (hf : ∀ d ∈ ds, Flat d) (q : Q (.bl (!xs.all f)) H) : rNeD K (.ref L) (.ref E) H Q := by
  obtain ⟨es, h1, h2⟩ := dp_filter (f := fun x => !f x) hd hf
  refine ⟨.list es, .list [], .lst (SqL.of hL) h1, .lst (SqL.of hE) .nil, flat_shaped h2, rfl, ?_⟩
  rw [eqv_nil, ← dpAll_nil h1, all_filter]
  exact q
def spLawIsRoot (K : PySem.W.Frag) : Sp := fun vs H Q _ => ∃ (D : Int) (x : V) (d : PyData), vs = [.int D, x] ∧ 0 ≤ D ∧ D < 2 ^ 2000 ∧ Val K H x d ∧ ∀ H', Same H H' → Q (.bl (rootB D H x)) H'
def spIsRoot : Sp := fun vs H Q _ => ∃ (D : Int) (x : V), vs = [.int D, x] ∧ Meas D ∧ D < 2 ^ 2000 ∧ OkV H x ∧ ∀ H', Same H H' → Q (.bl (rootB D H x)) H'
/-- where all three are numbers, the last one not 0 -/
def spRootNumber0 : Sp := fun vs H Q _ => ∃ D x y b : Int, vs = [.int D, .int x, .int y, .int b] ∧ Meas D ∧ D < 2 ^ 1000 ∧ x.natAbs < 2 ^ 2000 ∧ y.natAbs < 2 ^ 2000 ∧ b.natAbs < 2 ^ 2000 ∧ b ≠ 0 ∧ ∀ (p : Addr) (H' : Hp), H p = none → Same H H' → H' p = some (.tup (rootV (least D x y b))) → Q (.ref p) H'
/-! ### values made of plain items -/
structure It (K : PySem.W.Frag) (H : Hp) (v : V) (d : PyData) : Prop where
  dp : Dp K H v d
  sh : d.showable = true
  nd : d.hasDict = false
  de : d.depth ≤ 10
  co : cost d ≤ 100000
  la : d.canLay0 = true
  ok : OkItem H v
inductive ItAll (K : PySem.W.Frag) (H : Hp) : List V → List PyData → Prop
  | nil : ItAll K H [] []
  | cons {v : V} {d : PyData} {vs : List V} {ds : List PyData} : It K H v d → ItAll K H vs ds → ItAll K H (v :: vs) (d :: ds)
section
variable {K : PySem.W.Frag} {H : Hp}
theorem It.int {i : Int} {n : Nat} (h : i.natAbs < 2 ^ n) (l : n ≤ 1900) : It K H (.int i) (.int i) :=
  ⟨.int i, by simp only [PyData.showable, log_sz h l, decide_true], rfl, Nat.le_of_ble_eq_true rfl, Nat.le_of_ble_eq_true rfl, rfl, ⟨"int", rfl⟩⟩
theorem It.bl {b : Bool} : It K H (.bl b) (.bool b) := ⟨.bl b, rfl, rfl, Nat.le_of_ble_eq_true rfl, Nat.le_of_ble_eq_true rfl, rfl, ⟨"bool", rfl⟩⟩
theorem It.non : It K H .non .none := ⟨.non, rfl, rfl, Nat.le_of_ble_eq_true rfl, Nat.le_of_ble_eq_true rfl, rfl, ⟨"NoneType", rfl⟩⟩
theorem It.str {x : Str} (h1 : (PyData.str x).showable = true) (h2 : cost (.str x) ≤ 100000) (h3 : (PyData.str x).canLay0 = true) : It K H (.str x) (.str x) := ⟨.str x, h1, rfl, Nat.le_of_ble_eq_true rfl, h2, h3, ⟨"str", rfl⟩⟩
theorem itAll_facts : ∀ {vs : List V} {ds : List PyData}, ItAll K H vs ds → DpAll K H vs ds ∧ PyData.showableAll ds = true ∧ PyData.hasDictAll ds = false ∧ PyData.depthAll ds ≤ 10 ∧ costAll ds ≤ 100002 * vs.length ∧ PyData.canLayAll0 ds = true ∧ (∀ v ∈ vs, OkItem H v) ∧ ∀ d ∈ ds, Flat d
  | [], _, h => by
    cases h
    exact ⟨.nil, rfl, rfl, by simp only [PyData.depthAll]; omega, by simp only [costAll]; omega, rfl, fun v hv => absurd hv List.not_mem_nil, fun v hv => absurd hv List.not_mem_nil⟩
  | v :: vs, _, h => by
    cases h with
    | cons q r =>
      obtain ⟨h1, h2, h3, h4, h5, h6, h7, h8⟩ := itAll_facts r
      have a1 := q.de
      have a2 := q.co
      refine ⟨.cons q.dp h1, ?_, ?_, ?_, ?_, ?_, ?_, ?_⟩
      · simp only [PyData.showableAll, q.sh, h2, Bool.and_self]
      · simp only [PyData.hasDictAll, q.nd, h3, Bool.or_self]
      · simp only [PyData.depthAll]; omega
      · simp only [costAll, List.length_cons]; omega
      · simp only [PyData.canLayAll0, q.la, h6, Bool.and_self]
      · intro x hx
        rcases List.mem_cons.mp hx with rfl | hx
        · exact q.ok
        · exact h7 x hx
      · intro x hx
        rcases List.mem_cons.mp hx with rfl | hx
        · exact ⟨q.la, by omega⟩
        · exact h8 x hx
theorem val_tup {p : Addr} {xs : List V} {ds : List PyData} (h : H p = some (.tup xs)) (hi : ItAll K H xs ds) (hl : xs.length ≤ 100) : Val K H (.ref p) (.tuple ds) := by
  obtain ⟨h1, h2, h3, h4, h5, h6, h7, h8⟩ := itAll_facts hi
  refine ⟨⟨.tup (SqT.of h) h1, ?_, ?_, ?_, ?_⟩, ⟨⟨"tuple", tyS_tup h⟩, fun a ys e1 e2 y hy => ?_⟩, fun a ys e1 e2 => ?_⟩
  · simp only [PyData.showable]; exact h2
  · simp only [PyData.hasDict]; exact h3
  · simp only [PyData.depth]; omega
  · simp only [cost]; omega
  · cases e1
    rw [h] at e2
    cases e2
    exact h7 y hy
  · cases e1
    rw [h] at e2
    cases e2
    exact ⟨ds, h1, h8⟩
theorem tyS_lst {a : Addr} {xs : List V} (h : H a = some (.lst xs)) : tyS H (.ref a) = some "list" := by
  show (match H a with | some (.lst _) => some "list" | some (.tup _) => some "tuple" | some (.dK _) => some "dict" | _ => none) = some "list"
  rw [h]
theorem val_lst {p : Addr} {xs : List V} {ds : List PyData} (h : H p = some (.lst xs)) (hi : ItAll K H xs ds) (hl : xs.length ≤ 100) : Val K H (.ref p) (.list ds) := by
  obtain ⟨h1, h2, h3, h4, h5, h6, h7, h8⟩ := itAll_facts hi
  refine ⟨⟨.lst (SqL.of h) h1, ?_, ?_, ?_, ?_⟩, ⟨⟨"list", tyS_lst h⟩, fun a ys e1 e2 y hy => ?_⟩, fun a ys e1 e2 => ?_⟩
  · simp only [PyData.showable]; exact h2
  · simp only [PyData.hasDict]; exact h3
  · simp only [PyData.depth]; omega
  · simp only [cost]; omega
  · cases e1
    rw [h] at e2
    cases e2
  · cases e1
    rw [h] at e2
    cases e2
/-- a list of one int as an item -/
theorem It.lst1 {p : Addr} {i : Int} {n : Nat} (h : H p = some (.lst [.int i])) (hi : i.natAbs < 2 ^ n) (l : n ≤ 1900) : It K H (.ref p) (.list [.int i]) :=
  ⟨.lst (SqL.of h) (.cons (.int _) .nil), by simp only [PyData.showable, PyData.showableAll, log_sz hi l, decide_true, Bool.and_self], rfl, Nat.le_of_ble_eq_true rfl, Nat.le_of_ble_eq_true rfl, rfl, ⟨"list", tyS_lst h⟩⟩
theorem val_root {D : Int} {p : Addr} {t : Int × Int × Int} {n : Nat} (h : RootAt D H p t) (z : Sz n t) (l : n ≤ 1900) : Val K H (.ref p) (rootD t) := val_tup h.1 (.cons (.int z.1 l) (.cons (.int z.2.1 l) (.cons (.int z.2.2 l) .nil))) (Nat.le_of_ble_eq_true rfl)
end
theorem wholesB_same {H H' : Hp} {m : Int} {x : V} (s : Same H H') (h : OkItem H x) : wholesB H' m x = wholesB H m x := by
  cases x with
  | ref a =>
    obtain ⟨o, ho⟩ := h.at
    unfold wholesB
    simp only [ho, s _ _ ho]
  | _ => rfl
theorem rootB_same {D : Int} {H H' : Hp} {x : V} (s : Same H H') (h : OkItem H x) : rootB D H' x = rootB D H x := by
  unfold rootB
  rw [wholesB_same s h]
  cases x with
  | ref a =>
    obtain ⟨o, ho⟩ := h.at
    simp only [ho, s _ _ ho]
  | _ => rfl
theorem rp_bl {K : PySem.W.Frag} {H : Hp} {b : Bool} : Rp K H (.bl b) (.bool b) := ⟨.bl b, rfl, rfl, Nat.le_of_ble_eq_true rfl, Nat.le_of_ble_eq_true rfl⟩
theorem rp_root {K : PySem.W.Frag} {D : Int} {H : Hp} {a : Addr} {t : Int × Int × Int} {n : Nat} (h : RootAt D H a t) (z : Sz n t) (l : n ≤ 1900) : Rp K H (.ref a) (rootD t) := (val_root h z l).rp
theorem okV_of {H : Hp} {x : V} {t : String} (h : tyS H x = some t) (hn : t ≠ "tuple") : OkV H x := ⟨⟨t, h⟩, fun a xs e1 e2 => by
  subst e1
  rw [tyS_tup e2] at h
  exact absurd (Option.some.inj h).symm hn⟩
theorem okV_tup0 {H : Hp} {a : Addr} (h : H a = some (.tup [])) : OkV H (.ref a) := ⟨⟨"tuple", tyS_tup h⟩, fun b xs e1 e2 y hy => by
  cases e1
  rw [h] at e2
  cases e2
  exact absurd hy List.not_mem_nil⟩
theorem tyS_dK {H : Hp} {a : Addr} {kvs : List (Key × V)} (h : H a = some (.dK kvs)) : tyS H (.ref a) = some "dict" := by
  show (match H a with | some (.lst _) => some "list" | some (.tup _) => some "tuple" | some (.dK _) => some "dict" | _ => none) = some "dict"
  rw [h]
theorem rootB_of {D : Int} {H : Hp} {x : V} {t : String} (h : tyS H x = some t) (hn : t ≠ "tuple") : rootB D H x = false := rootB_not (wholes_not h hn)
theorem rootB_tup0 {D : Int} {H : Hp} {a : Addr} (h : H a = some (.tup [])) : rootB D H (.ref a) = false := rootB_not (by rw [wholes_tup h]; rfl)
/-- the empty list beside the empty list -/
theorem ne_nil {K : PySem.W.Frag} {H : Hp} {a b : Addr} {Q : VK} (h1 : H a = some (.lst [])) (h2 : H b = some (.lst [])) (q : Q (.bl false) H) : rNeD K (.ref a) (.ref b) H Q :=
  ⟨.list [], .list [], .lst (SqL.of h1) .nil, .lst (SqL.of h2) .nil, rfl, rfl, q⟩
/-! rules that name the frame themselves, for comprehensions -/
section
variable {X : Cx} {K : PySem.W.Frag}
theorem call_isiK (h : X.K = K) : CallR X (.builtin "isinstance") (rIsi K) := h ▸ call_isi
theorem op_neDK (h : X.K = K) (hu : X.A.units + 64 < cLine) : OpR X (compareOp .NotEq) (rNeD K) := h ▸ op_neD hu
theorem op_eqDK (h : X.K = K) (hu : X.A.units + 64 < cLine) : OpR X (compareOp .Eq) (rEqD K) := h ▸ op_eqD hu
theorem sl_tupK (h : X.K = K) : SlR X (rSlT K) := h ▸ sl_tup
theorem sl_listK (h : X.K = K) : SlR X (rSlL K) := h ▸ sl_list
theorem op_catTK (h : X.K = K) : OpR X (binaryOp .Add) (rCatT K) := h ▸ op_catT
theorem call_list_ofK (h : X.K = K) : CallR X (.type "list") (fun xs H Q => ∃ p ys, xs = [.ref p] ∧ (SqL K H p ys ∨ SqT K H p ys) ∧ ∀ l, H l = none → Q (.ref l) (upd H l (.lst ys))) := h ▸ call_list_of
end
/-- one statement at a time -/
theorem seq_gen {A B : TS} {D : Ends} {σ : SV} {H : Hp} (h : ∀ C : SV → Hp → Prop, (∀ σ H, C σ H = B D σ H) → A { D with nx := C } σ H) : tSeq A B D σ H := h _ fun _ _ => rfl
/-- f() -/
theorem pe_d0 {X : Cx} {k j : Nat} {f : Addr} {fd : FuncData} {ps : List Str} {sp : Sp} {x : Str} {p pos : Pos} (D : DefAt X.prog X.w X.K X.mg X.base k x f fd ps sp) (hr : Room j X.A) (hkj : k ≤ j := by decide) (hg : Gl X x := by rfl) (hdb : (x == ("__debug__" : Str)) = false := by decide) :
    PE X (.Call (.Name x p) [] [] pos) (tD sp tNil) := by
  refine ⟨fun pins s σ H Q I h => ?_⟩
  refine (pe_call0 (dvs := []) D.F (hr.mono hkj) hg D.m D.kp D.b .nil pass0 hdb).run pins s σ H Q I ?_
  have e : (tCall sp [] E0 tNil) = tD sp tNil := by funext a b c; unfold tCall tD; simp only [List.append_nil]
  rw [e]
  exact h
end Kx

set_option Elab.async false
set_option linter.all false
set_option maxRecDepth 100000
set_option maxHeartbeats 4000000
set_option exponentiation.threshold 4000
/-! Cuttings. -/
namespace Kx
open PySem PySem.Spec PyProof.Rows L2
def CutOk (a b c e : Int) : Bool := decide (1 ≤ b) && (decide (1 ≤ c) && (decide (c + e < b) && (decide (0 ≤ a) && (decide (a < gcdI b c) && decide (gcdI (gcdI a (gcdI b c)) e = 1)))))
theorem gcd4 (a b c e : Int) : gcdI (gcdI a b) (gcdI c e) = gcdI (gcdI a (gcdI b c)) e := by
  simp only [gcdI, Int.natAbs_natCast, Nat.gcd_assoc]
def cutB (H : Hp) (x : V) : Bool := wholesB H 4 x && (match x with
  | .ref p => match H p with
    | some (.tup [.int a, .int b, .int c, .int e]) => CutOk a b c e
    | _ => false
  | _ => false)
theorem wholes4 {H : Hp} {x : V} (h : wholesB H 4 x = true) : ∃ p a b c e, x = .ref p ∧ H p = some (.tup [.int a, .int b, .int c, .int e]) := by
  obtain ⟨p, xs, e, ha, hl, hall⟩ := wholes_get h
  have hl4 : xs.length = 4 := by omega
  match xs, hl4 with
  | [u, v, w', y], _ =>
    simp only [List.all_cons, List.all_nil, Bool.and_true, Bool.and_eq_true] at hall
    obtain ⟨h1, h2, h3, h4⟩ := hall
    obtain ⟨i, rfl⟩ := isInt_get h1
    obtain ⟨j, rfl⟩ := isInt_get h2
    obtain ⟨l, rfl⟩ := isInt_get h3
    obtain ⟨m, rfl⟩ := isInt_get h4
    exact ⟨p, i, j, l, m, e, ha⟩
theorem cutB4 {H : Hp} {p : Addr} {a b c e : Int} (h : H p = some (.tup [.int a, .int b, .int c, .int e])) : cutB H (.ref p) = CutOk a b c e := by
  unfold cutB wholesB
  simp only [h, List.length_cons, List.length_nil, List.all_cons, List.all_nil, isIntV, Bool.and_self, Bool.and_true]
  rfl
theorem cutB_not {H : Hp} {x : V} (h : wholesB H 4 x = false) : cutB H x = false := by
  unfold cutB
  rw [h, Bool.false_and]
theorem cutB_same {H H' : Hp} {x : V} (s : Same H H') (h : OkItem H x) : cutB H' x = cutB H x := by
  unfold cutB
  rw [wholesB_same s h]
  cases x with
  | ref a =>
    obtain ⟨o, ho⟩ := h.at
    simp only [ho, s _ _ ho]
  | _ => rfl
abbrev Q4 := Int × Int × Int × Int
def cutV4 (q : Q4) : List V := [.int q.1, .int q.2.1, .int q.2.2.1, .int q.2.2.2]
def okQ (q : Q4) : Bool := CutOk q.1 q.2.1 q.2.2.1 q.2.2.2
def measC (q : Q4) : Int := q.2.2.2 * q.2.2.2 + 4 * q.2.1 * q.2.2.1
structure CutAt (H : Hp) (p : Addr) (q : Q4) : Prop where
  at' : H p = some (.tup (cutV4 q))
  ok : okQ q = true
theorem CutAt.same {H H' : Hp} {p : Addr} {q : Q4} (h : CutAt H p q) (s : Same H H') : CutAt H' p q := ⟨s _ _ h.at', h.ok⟩
theorem okQ_get {q : Q4} (h : okQ q = true) : 1 ≤ q.2.1 ∧ 1 ≤ q.2.2.1 ∧ q.2.2.1 + q.2.2.2 < q.2.1 ∧ 0 ≤ q.1 ∧ q.1 < gcdI q.2.1 q.2.2.1 ∧ gcdI (gcdI q.1 (gcdI q.2.1 q.2.2.1)) q.2.2.2 = 1 := by
  unfold okQ CutOk at h
  simp only [Bool.and_eq_true, decide_eq_true_eq] at h
  exact h
theorem sq_mod4 (e : Int) : (e * e) % 4 = 0 ∨ (e * e) % 4 = 1 := by
  have h : e % 2 = 0 ∨ e % 2 = 1 := by omega
  rcases h with h | h
  · left
    have e1 : e = 2 * (e / 2) := by omega
    rw [e1, show 2 * (e / 2) * (2 * (e / 2)) = 4 * ((e / 2) * (e / 2)) by grind]
    omega
  · right
    have e1 : e = 2 * (e / 2) + 1 := by omega
    rw [e1, show (2 * (e / 2) + 1) * (2 * (e / 2) + 1) = 4 * ((e / 2) * (e / 2) + e / 2) + 1 by grind]
    omega
theorem meas_cut {q : Q4} (h : okQ q = true) : Meas (measC q) := by
  obtain ⟨h1, h2, h3, _⟩ := okQ_get h
  unfold Meas measC
  generalize q.2.1 = b at *
  generalize q.2.2.1 = c at *
  generalize q.2.2.2 = e at *
  have hm := sq_mod4 e
  have hbc : b ≤ b * c := by
    have := Int.mul_le_mul_of_nonneg_left h2 (show 0 ≤ b by omega)
    omega
  have hcb : c ≤ b * c := by
    have := Int.mul_le_mul_of_nonneg_right h1 (show 0 ≤ c by omega)
    omega
  have e1 : 4 * b * c = 4 * (b * c) := Int.mul_assoc 4 b c
  have hee : 0 ≤ e * e := by
    by_cases h : e = 0
    · rw [h]; decide
    · have := xx_pos h; omega
  have he0 : e ≠ 0 → 0 < e * e := xx_pos
  rw [e1]
  refine ⟨?_, by omega⟩
  by_cases he : e = 0
  · subst he
    omega
  · have := he0 he
    omega
def spIsCutting : Sp := fun vs H Q _ => ∃ x, vs = [x] ∧ OkV H x ∧ ∀ H', Same H H' → Q (.bl (cutB H x)) H'
/-- where it is one -/
def spCheckCut0 : Sp := fun vs H Q _ => ∃ (p : Addr) (q : Q4), vs = [.ref p] ∧ CutAt H p q ∧ ∀ H', Same H H' → Q .non H'
def Sz4 (n : Nat) (q : Q4) : Prop := q.1.natAbs < 2 ^ n ∧ q.2.1.natAbs < 2 ^ n ∧ q.2.2.1.natAbs < 2 ^ n ∧ q.2.2.2.natAbs < 2 ^ n
def spMeasureOf0 : Sp := fun vs H Q _ => ∃ (p : Addr) (q : Q4), vs = [.ref p] ∧ CutAt H p q ∧ Sz4 1000 q ∧ ∀ H', Same H H' → Q (.int (measC q)) H'
def spApart : Sp := fun vs H Q _ => ∃ a b c : Int, vs = [.int a, .int b, .int c] ∧ Q (.bl (decide (gcdI (gcdI a b) c = 1))) H
def spWholeRoot0 : Sp := fun vs H Q _ => ∃ D : Int, vs = [.int D] ∧ Meas D ∧ D < 2 ^ 2000 ∧ Q (.int (rt D)) H
def spLawIsCutting : Sp := fun vs H Q _ => ∃ a b c e : Int, vs = [.int a, .int b, .int c, .int e] ∧ Q (.bl (CutOk a b c e)) H
/-- four numbers at an address -/
def spLawMeasure4 : Sp := fun vs H Q _ => ∃ (p : Addr) (q : Q4), vs = [.ref p] ∧ H p = some (.tup (cutV4 q)) ∧ Sz4 1000 q ∧ Q (.int (measC q)) H
theorem cutAt_okV {H : Hp} {p : Addr} {q : Q4} (h : H p = some (.tup (cutV4 q))) : OkV H (.ref p) := by
  refine ⟨⟨"tuple", tyS_tup h⟩, fun b xs e1 e2 y hy => ?_⟩
  cases e1
  rw [h] at e2
  cases e2
  simp only [cutV4, List.mem_cons, List.not_mem_nil, or_false] at hy
  rcases hy with rfl | rfl | rfl | rfl <;> exact ⟨"int", rfl⟩
theorem cutB_q {H : Hp} {p : Addr} {q : Q4} (h : H p = some (.tup (cutV4 q))) : cutB H (.ref p) = okQ q := cutB4 h
theorem meas_sz {q : Q4} {n : Nat} (h : Sz4 n q) : (measC q).natAbs < 2 ^ (2 * n + 4) := by
  obtain ⟨_, h2, h3, h4⟩ := h
  unfold measC
  have w1 : (q.2.2.2 * q.2.2.2).natAbs < 2 ^ (2 * n + 3) := up (wide_lt h4 h4) (by omega)
  have w2 : (4 * q.2.1 * q.2.2.1).natAbs < 2 ^ (2 * n + 3) := up (wide_lt (wide_lt (show (4 : Int).natAbs < 2 ^ 3 by decide) h2) h3) (by omega)
  exact sz_add w1 w2
end Kx
namespace Kx
open PySem PySem.Spec PyProof.Rows L2
def spDrawnCut : Sp := fun vs H Q _ => ∃ (g : Addr) (n : Int) (k : Nat), vs = [.ref g, .int n] ∧ GenAt H g k ∧ k ≤ 2 ^ 39 ∧ 1 ≤ n ∧ n ≤ 10 ^ 15 ∧
  ∀ (q : Q4) (p : Addr) (H' : Hp), Sz4 70 q → H p = none → H' p = some (.tup (cutV4 q)) → GenAt H' g (k + 200) → Keep g H H' → Q (.ref p) H'
def spRootRight : Sp := fun vs H Q _ => ∃ D : Int, vs = [.int D] ∧ Meas D ∧ D < 2 ^ 1000 ∧ Q (.bl true) H
def spGreat : Sp := fun vs H Q _ => vs = [] ∧ ∀ H', Same H H' → Q (.bl true) H'
def spFour (n : Nat) : Sp := fun vs H Q _ => ∃ (p : Addr) (q : Q4), vs = [.ref p] ∧ H p = some (.tup (cutV4 q)) ∧ Sz4 n q ∧ ∀ H', Same H H' → Q (.bl true) H'
end Kx
namespace Kx
open PySem PySem.Spec PyProof.Rows L2
def setQ (q : Q4) (i : Nat) (v : V) : List V := (cutV4 q).set i v
theorem bend {K : PySem.W.Frag} {H : Hp} {p : Addr} {q : Q4} {i : Nat} {v : V} {Qf : VK} (hp : H p = some (.tup (cutV4 q))) (hi : i < 4) (k : ∀ r H', Same H H' → H' r = some (.tup (setQ q i v)) → Qf (.ref r) H') :
    rSlA K (.ref p) none (some (0 + (i : Int))) H fun x H1 => 1 ≤ sizeLine ∧ ∀ p1, H1 p1 = none → rCatA K x (.ref p1) (upd H1 p1 (.tup [v])) fun y H2 => rSlA K (.ref p) (some (0 + (i : Int) + 1)) none H2 fun z H3 => rCatA K y z H3 Qf := by
  rcases (show i = 0 ∨ i = 1 ∨ i = 2 ∨ i = 3 by omega) with rfl | rfl | rfl | rfl
  · refine ⟨p, cutV4 q, rfl, SqT.of hp, fun h => absurd h (show ¬ (HT.sIx 4 0 none = 0 ∧ HT.sIx 4 4 (some (0 + ((0 : Nat) : Int))) = 4) by decide), fun _ a na => ⟨by decide, fun b nb => ?_⟩⟩
    rw [show cutV (cutV4 q) none (some (0 + ((0 : Nat) : Int))) = [] from rfl] at nb ⊢
    have ea : (upd (upd H a (.tup [])) b (.tup [v])) a = some (.tup []) := (Same.upd nb) _ _ upd_same
    have eb : (upd (upd H a (.tup [])) b (.tup [v])) b = some (.tup [v]) := upd_same
    have s1 : Same H (upd (upd H a (.tup [])) b (.tup [v])) := (Same.upd na).trans (Same.upd nb)
    generalize upd (upd H a (.tup [])) b (.tup [v]) = h1 at *
    have rest : ∀ (r : Addr) (h2 : Hp), Same H h2 → h2 r = some (.tup [v]) → rSlA K (.ref p) (some (0 + ((0 : Nat) : Int) + 1)) none h2 fun z H3 => rCatA K (.ref r) z H3 Qf := by
      intro r h2 s2 er
      refine ⟨p, cutV4 q, rfl, SqT.of (s2 _ _ hp), fun h => absurd h (show ¬ (HT.sIx 4 0 (some (0 + ((0 : Nat) : Int) + 1)) = 0 ∧ HT.sIx 4 4 none = 4) by decide), fun _ c nc => ?_⟩
      rw [show cutV (cutV4 q) (some (0 + ((0 : Nat) : Int) + 1)) none = [V.int q.2.1, V.int q.2.2.1, V.int q.2.2.2] from rfl]
      refine ⟨r, c, [v], [V.int q.2.1, V.int q.2.2.1, V.int q.2.2.2], rfl, rfl, SqT.of ((Same.upd nc) _ _ er), SqT.of upd_same, (show 4 ≤ sizeLine by decide), fun h => absurd h (by simp), ?_, ?_⟩
      · exact fun _ h => absurd h (by simp)
      · exact fun _ _ d nd => k d _ ((s2.trans (Same.upd nc)).trans (Same.upd nd)) upd_same
    exact ⟨a, b, [], [v], rfl, rfl, SqT.of ea, SqT.of eb, (show 1 ≤ sizeLine by decide), fun _ => rest b _ s1 eb, fun h => absurd rfl h, fun h => absurd rfl h⟩
  · refine ⟨p, cutV4 q, rfl, SqT.of hp, fun h => absurd h (show ¬ (HT.sIx 4 0 none = 0 ∧ HT.sIx 4 4 (some (0 + ((1 : Nat) : Int))) = 4) by decide), fun _ a na => ⟨by decide, fun b nb => ?_⟩⟩
    rw [show cutV (cutV4 q) none (some (0 + ((1 : Nat) : Int))) = [V.int q.1] from rfl] at nb ⊢
    have ea : (upd (upd H a (.tup [V.int q.1])) b (.tup [v])) a = some (.tup [V.int q.1]) := (Same.upd nb) _ _ upd_same
    have eb : (upd (upd H a (.tup [V.int q.1])) b (.tup [v])) b = some (.tup [v]) := upd_same
    have s1 : Same H (upd (upd H a (.tup [V.int q.1])) b (.tup [v])) := (Same.upd na).trans (Same.upd nb)
    generalize upd (upd H a (.tup [V.int q.1])) b (.tup [v]) = h1 at *
    have rest : ∀ (r : Addr) (h2 : Hp), Same H h2 → h2 r = some (.tup [V.int q.1, v]) → rSlA K (.ref p) (some (0 + ((1 : Nat) : Int) + 1)) none h2 fun z H3 => rCatA K (.ref r) z H3 Qf := by
      intro r h2 s2 er
      refine ⟨p, cutV4 q, rfl, SqT.of (s2 _ _ hp), fun h => absurd h (show ¬ (HT.sIx 4 0 (some (0 + ((1 : Nat) : Int) + 1)) = 0 ∧ HT.sIx 4 4 none = 4) by decide), fun _ c nc => ?_⟩
      rw [show cutV (cutV4 q) (some (0 + ((1 : Nat) : Int) + 1)) none = [V.int q.2.2.1, V.int q.2.2.2] from rfl]
      refine ⟨r, c, [V.int q.1, v], [V.int q.2.2.1, V.int q.2.2.2], rfl, rfl, SqT.of ((Same.upd nc) _ _ er), SqT.of upd_same, (show 4 ≤ sizeLine by decide), fun h => absurd h (by simp), ?_, ?_⟩
      · exact fun _ h => absurd h (by simp)
      · exact fun _ _ d nd => k d _ ((s2.trans (Same.upd nc)).trans (Same.upd nd)) upd_same
    exact ⟨a, b, [V.int q.1], [v], rfl, rfl, SqT.of ea, SqT.of eb, (show 2 ≤ sizeLine by decide), fun h => absurd h (by simp), fun _ h => absurd h (by simp), fun _ _ r nr => rest r _ (s1.trans (Same.upd nr)) upd_same⟩
  · refine ⟨p, cutV4 q, rfl, SqT.of hp, fun h => absurd h (show ¬ (HT.sIx 4 0 none = 0 ∧ HT.sIx 4 4 (some (0 + ((2 : Nat) : Int))) = 4) by decide), fun _ a na => ⟨by decide, fun b nb => ?_⟩⟩
    rw [show cutV (cutV4 q) none (some (0 + ((2 : Nat) : Int))) = [V.int q.1, V.int q.2.1] from rfl] at nb ⊢
    have ea : (upd (upd H a (.tup [V.int q.1, V.int q.2.1])) b (.tup [v])) a = some (.tup [V.int q.1, V.int q.2.1]) := (Same.upd nb) _ _ upd_same
    have eb : (upd (upd H a (.tup [V.int q.1, V.int q.2.1])) b (.tup [v])) b = some (.tup [v]) := upd_same
    have s1 : Same H (upd (upd H a (.tup [V.int q.1, V.int q.2.1])) b (.tup [v])) := (Same.upd na).trans (Same.upd nb)
    generalize upd (upd H a (.tup [V.int q.1, V.int q.2.1])) b (.tup [v]) = h1 at *
    have rest : ∀ (r : Addr) (h2 : Hp), Same H h2 → h2 r = some (.tup [V.int q.1, V.int q.2.1, v]) → rSlA K (.ref p) (some (0 + ((2 : Nat) : Int) + 1)) none h2 fun z H3 => rCatA K (.ref r) z H3 Qf := by
      intro r h2 s2 er
      refine ⟨p, cutV4 q, rfl, SqT.of (s2 _ _ hp), fun h => absurd h (show ¬ (HT.sIx 4 0 (some (0 + ((2 : Nat) : Int) + 1)) = 0 ∧ HT.sIx 4 4 none = 4) by decide), fun _ c nc => ?_⟩
      rw [show cutV (cutV4 q) (some (0 + ((2 : Nat) : Int) + 1)) none = [V.int q.2.2.2] from rfl]
      refine ⟨r, c, [V.int q.1, V.int q.2.1, v], [V.int q.2.2.2], rfl, rfl, SqT.of ((Same.upd nc) _ _ er), SqT.of upd_same, (show 4 ≤ sizeLine by decide), fun h => absurd h (by simp), ?_, ?_⟩
      · exact fun _ h => absurd h (by simp)
      · exact fun _ _ d nd => k d _ ((s2.trans (Same.upd nc)).trans (Same.upd nd)) upd_same
    exact ⟨a, b, [V.int q.1, V.int q.2.1], [v], rfl, rfl, SqT.of ea, SqT.of eb, (show 3 ≤ sizeLine by decide), fun h => absurd h (by simp), fun _ h => absurd h (by simp), fun _ _ r nr => rest r _ (s1.trans (Same.upd nr)) upd_same⟩
  · refine ⟨p, cutV4 q, rfl, SqT.of hp, fun h => absurd h (show ¬ (HT.sIx 4 0 none = 0 ∧ HT.sIx 4 4 (some (0 + ((3 : Nat) : Int))) = 4) by decide), fun _ a na => ⟨by decide, fun b nb => ?_⟩⟩
    rw [show cutV (cutV4 q) none (some (0 + ((3 : Nat) : Int))) = [V.int q.1, V.int q.2.1, V.int q.2.2.1] from rfl] at nb ⊢
    have ea : (upd (upd H a (.tup [V.int q.1, V.int q.2.1, V.int q.2.2.1])) b (.tup [v])) a = some (.tup [V.int q.1, V.int q.2.1, V.int q.2.2.1]) := (Same.upd nb) _ _ upd_same
    have eb : (upd (upd H a (.tup [V.int q.1, V.int q.2.1, V.int q.2.2.1])) b (.tup [v])) b = some (.tup [v]) := upd_same
    have s1 : Same H (upd (upd H a (.tup [V.int q.1, V.int q.2.1, V.int q.2.2.1])) b (.tup [v])) := (Same.upd na).trans (Same.upd nb)
    generalize upd (upd H a (.tup [V.int q.1, V.int q.2.1, V.int q.2.2.1])) b (.tup [v]) = h1 at *
    have rest : ∀ (r : Addr) (h2 : Hp), Same H h2 → h2 r = some (.tup [V.int q.1, V.int q.2.1, V.int q.2.2.1, v]) → rSlA K (.ref p) (some (0 + ((3 : Nat) : Int) + 1)) none h2 fun z H3 => rCatA K (.ref r) z H3 Qf := by
      intro r h2 s2 er
      refine ⟨p, cutV4 q, rfl, SqT.of (s2 _ _ hp), fun h => absurd h (show ¬ (HT.sIx 4 0 (some (0 + ((3 : Nat) : Int) + 1)) = 0 ∧ HT.sIx 4 4 none = 4) by decide), fun _ c nc => ?_⟩
      rw [show cutV (cutV4 q) (some (0 + ((3 : Nat) : Int) + 1)) none = [] from rfl]
      refine ⟨r, c, [V.int q.1, V.int q.2.1, V.int q.2.2.1, v], [], rfl, rfl, SqT.of ((Same.upd nc) _ _ er), SqT.of upd_same, (show 4 ≤ sizeLine by decide), fun h => absurd h (by simp), ?_, ?_⟩
      · exact fun _ _ => k r _ (s2.trans (Same.upd nc)) ((Same.upd nc) _ _ er)
      · exact fun _ h => absurd rfl h
    exact ⟨a, b, [V.int q.1, V.int q.2.1, V.int q.2.2.1], [v], rfl, rfl, SqT.of ea, SqT.of eb, (show 4 ≤ sizeLine by decide), fun h => absurd h (by simp), fun _ h => absurd h (by simp), fun _ _ r nr => rest r _ (s1.trans (Same.upd nr)) upd_same⟩
def setZ (q : Q4) : Nat → Int → Q4
  | 0, n => (n, q.2.1, q.2.2.1, q.2.2.2)
  | 1, n => (q.1, n, q.2.2.1, q.2.2.2)
  | 2, n => (q.1, q.2.1, n, q.2.2.2)
  | _, n => (q.1, q.2.1, q.2.2.1, n)
theorem setQ_int {q : Q4} {i : Nat} {n : Int} (hi : i < 4) : setQ q i (.int n) = cutV4 (setZ q i n) := by
  rcases (show i = 0 ∨ i = 1 ∨ i = 2 ∨ i = 3 by omega) with rfl | rfl | rfl | rfl <;> rfl
theorem setZ_sz {q : Q4} {i : Nat} {n : Int} {m : Nat} (z : Sz4 m q) (hn : n.natAbs < 2 ^ m) : Sz4 m (setZ q i n) := by
  obtain ⟨z1, z2, z3, z4⟩ := z
  unfold setZ
  split
  · exact ⟨hn, z2, z3, z4⟩
  · exact ⟨z1, hn, z3, z4⟩
  · exact ⟨z1, z2, hn, z4⟩
  · exact ⟨z1, z2, z3, hn⟩
theorem Sz4.up {n m : Nat} {q : Q4} (h : Sz4 n q) (l : n ≤ m) : Sz4 m q := ⟨Kx.up h.1 l, Kx.up h.2.1 l, Kx.up h.2.2.1 l, Kx.up h.2.2.2 l⟩
/-- a tuple with an odd item is none -/
theorem setQ_odd {H : Hp} {r : Addr} {q : Q4} {i : Nat} {v : V} (hi : i < 4) (h : H r = some (.tup (setQ q i v))) (hv : isIntV v = false) : cutB H (.ref r) = false := by
  refine cutB_not ?_
  rw [wholes_tup h]
  have : (setQ q i v).all isIntV = false := by
    rcases (show i = 0 ∨ i = 1 ∨ i = 2 ∨ i = 3 by omega) with rfl | rfl | rfl | rfl <;> (simp [setQ, cutV4, isIntV]; exact hv)
  rw [this, Bool.and_false]
theorem setQ_ok {H : Hp} {r : Addr} {q : Q4} {i : Nat} {v : V} (hi : i < 4) (h : H r = some (.tup (setQ q i v))) (hv : OkItem H v) : OkV H (.ref r) := by
  refine ⟨⟨"tuple", tyS_tup h⟩, fun b xs e1 e2 y hy => ?_⟩
  cases e1
  rw [h] at e2
  cases e2
  have hm : y = v ∨ y ∈ cutV4 q := by
    rcases List.mem_or_eq_of_mem_set hy with h | h
    · exact .inr h
    · exact .inl h
  rcases hm with rfl | hm
  · exact hv
  · simp only [cutV4, List.mem_cons, List.not_mem_nil, or_false] at hm
    rcases hm with rfl | rfl | rfl | rfl <;> exact ⟨"int", rfl⟩
end Kx
namespace Kx
open PySem PySem.Spec PyProof.Rows L2
theorem cutB_of {H : Hp} {x : V} {t : String} (h : tyS H x = some t) (hn : t ≠ "tuple") : cutB H x = false := cutB_not (wholes_not h hn)
theorem cutB_len {H : Hp} {a : Addr} {xs : List V} (h : H a = some (.tup xs)) (hl : xs.length ≠ 4) : cutB H (.ref a) = false := cutB_not (by
  rw [wholes_tup h, decide_eq_false (by omega), Bool.false_and])
theorem okV_tup {H : Hp} {a : Addr} {xs : List V} (h : H a = some (.tup xs)) (hi : ∀ y ∈ xs, OkItem H y) : OkV H (.ref a) := ⟨⟨"tuple", tyS_tup h⟩, fun b ys e1 e2 y hy => by
  cases e1
  rw [h] at e2
  cases e2
  exact hi y hy⟩
theorem shaped_ints (ns : List Int) : SeqAt.shaped (.list (ns.map PyData.int)) = true := flat_shaped fun d hd => by
  obtain ⟨n, _, rfl⟩ := List.mem_map.mp hd
  exact ⟨rfl, Nat.le_of_ble_eq_true rfl⟩
end Kx
namespace Kx
open PySem PySem.Spec PyProof.Rows L2
theorem eq_nil {K : PySem.W.Frag} {H : Hp} {a b : Addr} {Q : VK} (h1 : H a = some (.lst [])) (h2 : H b = some (.lst [])) (q : Q (.bl true) H) : rEqD K (.ref a) (.ref b) H Q :=
  ⟨.list [], .list [], .lst (SqL.of h1) .nil, .lst (SqL.of h2) .nil, rfl, rfl, q⟩
end Kx
namespace Kx
open PySem PySem.Spec PyProof.Rows L2
theorem dpAll_bools {K : PySem.W.Frag} {H : Hp} : ∀ bs : List Bool, DpAll K H (bs.map V.bl) (bs.map PyData.bool)
  | [] => .nil
  | b :: bs => .cons (.bl b) (dpAll_bools bs)
theorem shaped_bools (bs : List Bool) : SeqAt.shaped (.list (bs.map PyData.bool)) = true := flat_shaped fun d hd => by
  obtain ⟨n, _, rfl⟩ := List.mem_map.mp hd
  exact ⟨rfl, Nat.le_of_ble_eq_true rfl⟩
theorem ne_bools {K : PySem.W.Frag} {H : Hp} {a b : Addr} {Q : VK} (bs : List Bool) (h1 : H a = some (.lst (bs.map V.bl))) (h2 : H b = some (.lst (bs.map V.bl))) (q : Q (.bl false) H) : rNeD K (.ref a) (.ref b) H Q :=
  ⟨_, _, .lst (SqL.of h1) (dpAll_bools bs), .lst (SqL.of h2) (dpAll_bools bs), shaped_bools bs, shaped_bools bs, by rw [eqv_same (shaped_bools bs)]; exact q⟩
end Kx

set_option Elab.async false
set_option linter.all false
set_option maxRecDepth 100000
set_option maxHeartbeats 4000000
set_option exponentiation.threshold 4000
/-! Caught errors that are kept behind their clause. -/
namespace Kx
open PySem PySem.Spec PyProof.Rows L2
/-- an exception object at a: its class, its dict -/
def ExK (cls : Value) (d : Option Addr) (a : Addr) : HO := .ext fun h => ∃ (oe : Obj) (vs : Array Value), h.get? a = some oe ∧ Zc cls d oe ∧ oe.data = .fields vs
theorem exK_ok {P : Program} {w : World} {H : Hp} {h : Heap} {a : Addr} {cls : Value} {d : Option Addr} {oe : Obj} {vs : Array Value} (e : h.get? a = some oe) (z : Zc cls d oe) (dd : oe.data = .fields vs) : ObjOk P w H h a (ExK cls d a) :=
  ⟨⟨oe, vs, e, z, dd⟩, ⟨oe, e⟩, fun _ _ ⟨o, v, q, r⟩ k => ⟨o, v, k o q, r⟩⟩
theorem exK_at {P : Program} {w : World} {H : Hp} {h : Heap} {a : Addr} {cls : Value} {d : Option Addr} (hok : HOk P w H h) (e : H a = some (ExK cls d a)) : ∃ (oe : Obj) (vs : Array Value), h.get? a = some oe ∧ Zc cls d oe ∧ oe.data = .fields vs := by
  have x : ObjOk P w H h a (.ext fun h => ∃ (oe : Obj) (vs : Array Value), h.get? a = some oe ∧ Zc cls d oe ∧ oe.data = .fields vs) := hok a _ e
  exact x.1
section
variable {X : Cx} {pins : List (Addr × Obj)} {σ : SV} {H : Hp} {s : Shared}
theorem inv_suite0 (I : Inv X pins σ H s) (a : Addr) : Inv (X.suite a (X.pn ++ pins)) [] σ H s :=
  ⟨I.ok.suite _ _, I.os, I.bare, I.base, I.loc, I.cell, I.free, I.freeC, fun p hp => I.pin p (by rw [List.append_nil] at hp; exact hp), I.hok, I.len⟩
theorem inv_unsuite0 {a : Addr} {pn' : List (Addr × Obj)} (I : Inv (X.suite a (X.pn ++ pins)) pn' σ H s) (ok : X.Ok) : Inv X pins σ H s :=
  ⟨ok, I.os, I.bare, I.base, I.loc, I.cell, I.free, I.freeC, fun p hp => I.pin p (List.mem_append_left _ hp), I.hok, I.len⟩
end
/-- what the clause 'except x as n' wishes where the exception stays tracked -/
def wKeep (K : PySem.W.Frag) (c : Value) (i : Nat) (ts : Addr → Value → Option Addr → TS) (Wout : WX) (D : Ends) : WX := fun cls d σ H =>
  ∃ b, PySem.W.exmOne K cls c = some b ∧ (b = true → ∀ a, H a = none → ts a cls d { nx := fun σ' H' => D.nx (σ'.set i none) H', rt := D.rt, bk := fun σ' H' => D.bk (σ'.set i none) H', ct := fun σ' H' => D.ct (σ'.set i none) H' } (σ.set i (some (.ref a))) (upd H a (ExK cls d a))) ∧
    (b = false → Wout cls d σ H)
section
variable {X : Cx} {x n : Str} {c : Value} {i : Nat} {body suite : List Stmt} {b₀ : Stmt} {np pos pos' : Pos} {tb : WX → TS} {ts : Addr → Value → Option Addr → TS} {Wout : WX}
theorem ps_try_keep (hs : X.stack = X.env :: X.outer) (hf : X.env.frame = some X.env.locals) (hN : X.N.Nodup) (hi : X.N[i]? = some n) (hln : X.env.kindOf n = some .local) (hc : Names X x c) (tk : Takes X Wout)
    (hb : ∀ (W : WX) (pn : List (Addr × Obj)) (xe : Value → Shared → Prop), Takes (X.tr pn xe) W → PassesOwn (model X.prog X.w) X.A X.env xe → PSs (X.tr pn xe) body (tb W))
    (hsu : ∀ (a : Addr) (cls : Value) (d : Option Addr) (pn : List (Addr × Obj)), PSs (X.suite a pn) (b₀ :: suite) (ts a cls d)) :
    PS X (.Try body [.ExceptHandler (some (.Name x np)) (some n) (b₀ :: suite) pos'] [] [] pos) (fun D σ H => tb (wKeep X.K c i ts Wout D) D σ H) := by
  refine ⟨fun pins s σ H D I h => ?_⟩
  have ok := I.ok
  have hfr : X.A.frames = some (X.env :: X.outer) := by rw [ok.frames, hs]
  have hloc : Loc X.env.scope n := .inl hln
  refine wpAny_Try_except ?_
  refine wpAny_mono ((hb (wKeep X.K c i ts Wout D) (X.pn ++ pins) (fun e s₁ => wpAny (model X.prog X.w) X.A (noteFrame e X.env) (fun _ s₂ => wpAny (model X.prog X.w) X.A (setFlight e none) (fun _ s₃ =>
    wpAny (model X.prog X.w) X.A (handleBy e X.env [.ExceptHandler (some (.Name x np)) (some n) (b₀ :: suite) pos']) (SP X pins D) X.xe s₃) X.xe s₂) X.xe s₁) (fun u s' xx => ?_) PassesOwn.looking).run [] s σ H D (I.toTry _) h) (fun f s1 hsp => ?_) (fun e s1 he => he)
  · -- the catch
    obtain ⟨a, B, sI, pins', σ', H', cls, d, rfl, J', nb, up, sky, na, os, ag, b, hb1, hyes, hno⟩ := xx
    have J : Inv X pins σ' H' sI := J'.ofTry ok
    have sky' : Sky B (X.env :: X.outer) a (Zc cls d) X.env.locals s'.heap := by rw [← hs]; exact sky
    show wpAny (model X.prog X.w) X.A (noteFrame (.ref a) X.env) _ _ _
    refine Sky.land Zc.steady hfr hf sky' fun h3 fl3 up3 => ?_
    have J3 : Inv X pins σ' H' { s' with heap := h3 } := J.landed nb fl3.1 (up.trans up3) os ag
    obtain ⟨oe3, vs3, he3, hz3, hd3⟩ := fl3.there
    have notFr : ∀ {h : Heap} {o : Obj} {vs : Array Value}, h.FunFrames B (X.env :: X.outer) → h.get? a = some o → o.data = .fields vs → a ∉ frs (X.env :: X.outer) := fun {h o vs} ff e dd hm => by
      obtain ⟨_, o', e', hnf⟩ := ff.mem hm
      rw [e] at e'; cases e'
      exact hnf _ dd
    have nfr := notFr fl3.2.2.1 he3 hd3
    have nL : a ≠ X.env.locals := fun z => nfr (List.mem_filterMap.mpr ⟨X.env, List.mem_cons_self, by rw [hf, z]⟩)
    have nF : a ∉ X.fs := fun hm => by
      obtain ⟨e, he, q⟩ := List.mem_filterMap.mp hm
      exact nfr (List.mem_filterMap.mpr ⟨e, List.mem_cons_of_mem _ he, q⟩)
    have S3 := J3.suite he3 hd3 na nL nF
    refine wpAny_handleBy_cons (codeAny_handlers_test ?_) (by intro q; cases q)
    have LT : PySem.W.Looks (model X.prog X.w) h3 (typeOf (.ref a)) cls := fun A Q E s k q => wpAny_typeOf_ref (k _ _ he3) (by rw [hz3.1]; exact q)
    have LM := PySem.W.exm_one (M := model X.prog X.w) (J3.kIn) LT hb1
    have test : ∀ {Q : Value → Shared → Prop} {E : Value → Shared → Prop}, Q c { s' with heap := h3 } → wpAny (model X.prog X.w) (X.A.mark (some (.ref a))) (eval (.Name x np) X.env) Q E { s' with heap := h3 } := fun {Q E} q => by
      obtain ⟨hg, hdbg, hm | ⟨hm, hv, hnn⟩⟩ := hc
      · exact ld_glob (X := X.suite a ((a, oe3) :: (X.pn ++ pins))) S3 hg hm q hdbg
      · exact ld_blt (X := X.suite a ((a, oe3) :: (X.pn ++ pins))) S3 hg hm hv q hnn hdbg
    refine test (LM.here ?_)
    cases b with
    | true =>
      refine codeAny_handlers_suite_as ?_
      refine HandSPX.lands_againZ fl3 fun h4 fl4 up4 => ?_
      obtain ⟨oe4, vs4, he4, hz4, hd4⟩ := fl4.there
      have nB : B.get? a = none := fl4.2.1
      have nI : sI.heap.get? a = none := by
        cases e : sI.heap.get? a with
        | none => rfl
        | some o =>
          have hnfr : a ∉ frs X.stack := by rw [hs]; exact nfr
          have z := nb a o e hnfr
          rw [nB] at z
          cases z
      obtain ⟨G, g1, g2⟩ := restrict h4 fun b => decide (b ≠ a)
      have gk : ∀ b, b ≠ a → G.get? b = h4.get? b := fun b hb => g1 b (decide_eq_true hb)
      have ga : G.get? a = none := g2 a (by simp)
      have gs : ∀ b o, G.get? b = some o → h4.get? b = some o := fun b o e => by
        by_cases hb : b = a
        · rw [hb, ga] at e
          cases e
        · rw [← gk b hb]
          exact e
      have stG : B.StaysIn G := fun b o e => by
        have hb : b ≠ a := fun z => by
          rw [z, nB] at e
          cases e
        rw [gk b hb]
        exact fl4.1 b o e
      have upG : sI.heap.UpToSlots G := fun b o e hnd => by
        have hb : b ≠ a := fun z => by
          rw [z, nI] at e
          cases e
        obtain ⟨sl, q⟩ := ((up.trans up3).trans up4) b o e hnd
        exact ⟨sl, by rw [gk b hb]; exact q⟩
      have JG : Inv X pins σ' H' { s' with heap := G } := J.landed (s' := { s' with heap := G }) nb stG upG os ag
      have J4 : Inv X pins σ' (upd H' a (ExK cls d a)) { s' with heap := h4 } := Inv.laidN (s := { s' with heap := G }) (t' := s'.toks) JG gs ga na (exK_ok he4 hz4 hd4)
      have S4 := inv_suite0 J4 a
      refine store_ok (X := X.suite a (X.pn ++ pins)) (v := .ref a) S4 hN hi hloc rfl (fun s5 S5 => ?_) (.inr hln)
      refine wpAny_mono ((hsu a cls d (X.pn ++ pins)).run [] s5 _ _ _ S5 (hyes rfl a na)) (fun f s6 hsp => ?_) (fun _ _ z => False.elim z)
      have end_ : ∀ {σ6 : SV} {H6 : Hp} {Q : Shared → Prop}, Inv (X.suite a (X.pn ++ pins)) [] σ6 H6 s6 → (∀ s7, Inv X pins (σ6.set i none) H6 s7 → Q s7) →
          wpAny (model X.prog X.w) X.A (do bindName X.env n .none; unbindBehindTheSuite X.env n pos') (fun _ s7 => Q s7) X.xe s6 := fun {σ6 H6 Q} S6 hq => gone_ok (inv_unsuite0 S6 ok) hN hi hln hq
      cases f with
      | next =>
        obtain ⟨σ6, H6, S6, q6⟩ := hsp
        exact end_ S6 fun s7 J7 => ⟨_, _, J7, q6⟩
      | brk =>
        obtain ⟨σ6, H6, S6, q6⟩ := hsp
        exact end_ S6 fun s7 J7 => ⟨_, _, J7, q6⟩
      | cont =>
        obtain ⟨σ6, H6, S6, q6⟩ := hsp
        exact end_ S6 fun s7 J7 => ⟨_, _, J7, q6⟩
      | ret u =>
        obtain ⟨v6, σ6, H6, S6, r6, q6⟩ := hsp
        exact end_ S6 fun s7 J7 => ⟨_, _, _, J7, r6, q6⟩
    | false =>
      show wpAny _ X.A (handleBy (.ref a) X.env []) _ _ _
      refine wpAny_handleBy_nil ?_
      obtain ⟨k1, k2, k3, oe, vs, T, oT, ts', he, hz, hd, h1, hr⟩ := id fl3
      unfold PySem.passOn
      refine wpAny_bind (wpAny_field he hd h1 ?_)
      rw [if_neg (show ¬ ((Value.ref T == Value.none) = true) from by simp)]
      have fin : wpAny (model X.prog X.w) X.A (setFlight (.ref a) X.env.frame) (fun _ s4 => wpAny (model X.prog X.w) X.A (throw (.ref a) : Sem Flow) (SP X pins D) X.xe s4) X.xe { s' with heap := h3 } := by
        rw [hf]
        refine HandSPX.setFlight_upZ fl3 fun h4 hh4 up4 => wpAny_throw (tk _ _ ?_)
        exact ⟨a, B, sI, pins, σ', H', cls, d, rfl, J, nb, (up.trans up3).trans up4, .inr (.inr (by rw [hs]; exact hh4)), na, os, ag, hno rfl⟩
      first
        | exact wpAny_bind (wpAny_pure (wpAny_bind fin))
        | exact wpAny_bind fin
  · cases f with
    | next =>
      obtain ⟨σ', H', J', q⟩ := hsp
      exact wpAny_execs_nil ⟨σ', H', J'.ofTry ok, q⟩
    | brk =>
      obtain ⟨σ', H', J', q⟩ := hsp
      exact ⟨σ', H', J'.ofTry ok, q⟩
    | cont =>
      obtain ⟨σ', H', J', q⟩ := hsp
      exact ⟨σ', H', J'.ofTry ok, q⟩
    | ret u =>
      obtain ⟨v, σ', H', J', r, q⟩ := hsp
      exact ⟨v, σ', H', J'.ofTry ok, r, q⟩
end
/-! ### what is asked of a kept exception -/
/-- isinstance(e, c) -/
def rIsK (K : PySem.W.Frag) : List V → Hp → VK → Prop := fun xs H Q => ∃ (a D : Addr) (dd : Addr) (fs : List (Str × V)) (c : V) (cv : Value) (b : Bool), xs = [.ref a, c] ∧ H a = some (ExK (.ref D) (some dd) a) ∧ H dd = some (.xd fs) ∧ L2.ExcC K D ∧ (∀ u, RelV c u → u = cv) ∧ PySem.W.kitOne K (.ref D) cv = some b ∧ Q (.bl b) H
theorem call_isK {X : Cx} : CallR X (.builtin "isinstance") (rIsK X.K) := by
  intro pins s σ H xs us Q I r h
  obtain ⟨a, D, dd, fs, c, cv, b, rfl, ha, hdd, C, hcv, e, q⟩ := h
  cases r with
  | cons rx rr =>
    cases rr with
    | cons rt rr =>
      cases rr
      cases rx
      have ec := hcv _ rt
      subst ec
      obtain ⟨oe, vs, hget, hz, hv⟩ := exK_at I.hok ha
      have hx : ObjOk X.prog X.w H s.heap dd (.xd fs) := I.hok dd _ hdd
      obtain ⟨mA, hns, hr⟩ := hx
      obtain ⟨od, ho, hl⟩ := lookIn_ns hns
      have J : PySem.W.InstAt s.heap a oe D (some od) := ⟨hget, hz.1, by unfold PySem.W.notCls; rw [hv] <;> rfl, by rw [hz.2]; exact ho⟩
      obtain ⟨cd, hcd, _⟩ := PySem.W.any_some C.hd
      exact PySem.W.kia_one (PySem.W.kitx_exc (by rw [hcd]; rfl) C.hg C.hk C.hs C.ha C.hn C.ht C.hm) I.kIn J e (fun z => nomatch z) fun tk => ⟨.bl b, H, I.kept (t' := tk) fun _ _ z => z, rfl, q⟩
/-- e.f -/
def tXk (K : PySem.W.Frag) (f : Str) (te : TE) : TE := fun σ H Q => te σ H fun x H1 => ∃ (a C dd : Addr) (fs : List (Str × V)) (v : V), x = .ref a ∧ H1 a = some (ExK (.ref C) (some dd) a) ∧ XfC K C ∧ PySem.W.findIn K (.ref C) f = some none ∧ H1 dd = some (.xd fs) ∧ fs.lookup f = some v ∧ Q v H1
theorem pe_xk {X : Cx} {e : Expr} {te : TE} {pos : Pos} {n : Str} (he : PE X e te) (hb : attributeBase e n X.env (eval e X.env) = eval e X.env := by rfl) : PE X (.Attribute e n pos) (tXk X.K n te) := by
  refine ⟨fun pins s σ H Q I h => ?_⟩
  refine attr_of hb (thn (he.run pins s σ H _ I h) fun u s1 hh => ?_)
  obtain ⟨x, H1, I1, rx, a, C, dd, fs, v, ex, ha, T, hno, ea, l, q⟩ := hh
  subst ex
  obtain rfl : u = Value.ref a := rx
  obtain ⟨oe, vs, hget, hz, hd⟩ := exK_at I1.hok ha
  have hx : ObjOk X.prog X.w H1 s1.heap dd (.xd fs) := I1.hok dd _ ea
  obtain ⟨mA, hns, hr⟩ := hx
  obtain ⟨od, ho, hl⟩ := lookIn_ns hns
  obtain ⟨u, hu, ru⟩ := RelO.some_of (v := v) (o := mA n) (by rw [← l]; exact hr n)
  have J : PySem.W.InstAt s1.heap a oe C (some od) := ⟨hget, hz.1, by unfold PySem.W.notCls; rw [hd] <;> rfl, by rw [hz.2]; exact ho⟩
  exact HandSPX.exc_get I1.kIn J T.ga T.gg T.exC (PySem.W.findObj_own T.hdC hno rfl (by rw [hl, hu])) (handed_of ru) ⟨v, H1, I1.tok _, ru, q⟩
end Kx
namespace Kx
open PySem PySem.Spec PyProof.Rows L2
def tMono (t : TA) : TA := fun σ H Q => ∃ Q0 : List V → Hp → Prop, t σ H Q0 ∧ ∀ vs H1, Q0 vs H1 → Q vs H1
theorem pa_mono {X : Cx} {es : List Expr} {t : TA} (h : PA X es t) : PA X es (tMono t) := ⟨fun pos pins s σ H Q I ⟨Q0, h0, m⟩ => thn (h.run pos pins s σ H Q0 I h0) fun us s1 ⟨vs, H1, I1, r, q⟩ => ⟨vs, H1, I1, r, m vs H1 q⟩⟩
/-- self.value = value -/
def spInit (C : Addr) : Sp := fun vs H Q _ => ∃ (a : Addr) (v : V), vs = [.ref a, v] ∧ H a = some (exo a C none) ∧ ∀ dx, H dx = none → dx ≠ a → Q .non (upd (upd H dx (exd dx [("value", v)])) a (exo a C (some dx)))
/-- a class of errors that bear one value -/
structure ErrC (P : Program) (w : World) (K : PySem.W.Frag) (mg : Str → Option Value) (base : Heap) (x : Str) (C : Addr) : Prop where
  ex : ∃ (fI : Addr) (fd : FuncData), PySem.W.findIn K (.ref C) "__init__" = some (some (.ref fI)) ∧ PySem.W.typeIn K (.ref fI) = some (.type "function") ∧ FnOk P w K mg base CX0 1 fI fd ["self", "value"] (spInit C) ∧ Binds K fd ["self", "value"] []
  T : OexC K C
  m : mg x = some (.ref C)
  xf : XfC K C
  ec : L2.ExcC K C
  nv : PySem.W.findIn K (.ref C) "value" = some none
def tErr (C : Addr) (ta : TA) : SV → Hp → XK → Prop := fun σ H Q => ta σ H fun vs H1 => ∃ v, vs = [v] ∧ ∀ d, H1 d = none → Q (.ref C) (some d) (upd H1 d (.xd [("value", v)]))
theorem pmk_err {X : Cx} {j : Nat} {x : Str} {C : Addr} {e : Expr} {ta : TA} {p pos : Pos} (E : ErrC X.prog X.w X.K X.mg X.base x C) (hr : Room j X.A) (ha : PA X [e] ta) (hj : 2 ≤ j := by decide) (hg : Gl X x := by rfl) (hdb : (x == ("__debug__" : Str)) = false := by decide)
    (he : starEach [e] X.env = (false, eval e X.env) :: starEach [] X.env := by rfl) (hpl : (backTo pos (starEach [] X.env)).any (·.1) = false := by rfl) : PMk X (.Call (.Name x p) [e] [] pos) (tErr C ta) := by
  intro pins s σ H Q I h
  obtain ⟨fI, fd, iC, tI, F1, hb⟩ := E.ex
  refine pmk_oex (dvs := []) (ds := []) E.T iC tI F1 (hr.mono hj) hb .nil pass0 hg E.m (pa_mono ha) hdb he hpl pins s σ H Q I ?_
  refine ⟨_, h, fun vs H1 z => ?_⟩
  obtain ⟨v, rfl, k⟩ := z
  refine ⟨show 1 ≤ 1000 by decide, fun a na => ⟨a, v, rfl, upd_same, fun dx ndx hne => ⟨rfl, dx, [("value", v)], upd_same, ?_, ?_, ?_⟩⟩⟩
  · rw [upd_ne hne]
    exact upd_same
  · rw [upd_ne hne] at ndx
    exact ndx
  · have hd : H1 dx = none := by
      rw [upd_ne hne] at ndx
      exact ndx
    have e1 : upd (L2.del (upd (upd (upd H1 a (exo a C none)) dx (exd dx [("value", v)])) a (exo a C (some dx))) a) dx (.xd [("value", v)]) = upd H1 dx (.xd [("value", v)]) := by
      funext b
      by_cases hb : b = dx
      · rw [hb, upd_same, upd_same]
      · rw [upd_ne hb, upd_ne hb]
        by_cases hba : b = a
        · rw [hba, L2.del_same]
          exact na.symm
        · rw [L2.del_ne hba, upd_ne hba, upd_ne hb, upd_ne hba]
    rw [e1]
    exact k dx hd
/-! ### defs that may raise -/
structure DefX (P : Program) (w : World) (K : PySem.W.Frag) (mg : Str → Option Value) (base : Heap) (k : Nat) (x : Str) (f : Addr) (fd : FuncData) (ps : List Str) (sp : Sp) : Prop where
  F : FnOk P w K mg base (L2.CX P w) k f fd ps sp
  m : mg x = some (.ref f)
  kp : PySem.W.keepIn K (.ref f) = true
  b : Binds K fd ps []
/-- .. by its address -/
def FnAt (P : Program) (w : World) (K : PySem.W.Frag) (mg : Str → Option Value) (base : Heap) (j : Nat) (f : Addr) (sp : Sp) : Prop :=
  ∃ (k : Nat) (fd : FuncData) (ps : List Str), k ≤ j ∧ FnOk P w K mg base (L2.CX P w) k f fd ps sp ∧ PySem.W.keepIn K (.ref f) = true ∧ Binds K fd ps []
section
variable {X : Cx} {W : WX} {k j : Nat} {f : Addr} {fd : FuncData} {ps : List Str} {sp : Sp} {x : Str} {p pos : Pos} {a b e : Expr} {es : List Expr} {t : TA} {tf : TE}
theorem DefX.at' {P : Program} {w : World} {K : PySem.W.Frag} {mg : Str → Option Value} {base : Heap} (D : DefX P w K mg base k x f fd ps sp) (h : k ≤ j := by decide) : FnAt P w K mg base j f sp := ⟨k, fd, ps, h, D.F, D.kp, D.b⟩
theorem pe_dS (D : DefX X.prog X.w X.K X.mg X.base k x f fd ps sp) (tk : Takes X W) (hr : Room j X.A) (ha : PA X (e :: es) t) (hkj : k ≤ j := by decide) (hg : Gl X x := by rfl) (hdb : (x == ("__debug__" : Str)) = false := by decide)
    (he : starEach (e :: es) X.env = (false, eval e X.env) :: starEach es X.env := by rfl) (hpl : (backTo pos (starEach es X.env)).any (·.1) = false := by rfl) : PE X (.Call (.Name x p) (e :: es) [] pos) (tCallS sp (WE W) t) :=
  pe_callS D.F (hr.mono hkj) hg D.m D.kp D.b (fun σ => passAt tk σ) ha hdb he hpl
/-- [f, g, ..][i](e, ..) -/
def tIxCall (P : Program) (w : World) (K : PySem.W.Frag) (mg : Str → Option Value) (base : Heap) (j : Nat) (E : SV → XK) (tf : TE) (t : TA) : TE := fun σ H Q => tf σ H fun x H1 => ∃ (f : Addr) (sp : Sp), x = .ref f ∧ FnAt P w K mg base j f sp ∧ t σ H1 fun vs H2 => sp vs H2 Q (E σ)
theorem pe_ixcall (hf : PE X (.Subscript a b p) tf) (tk : Takes X W) (hr : Room j X.A) (ha : PA X (e :: es) t) (he : starEach (e :: es) X.env = (false, eval e X.env) :: starEach es X.env := by rfl) (hpl : (backTo pos (starEach es X.env)).any (·.1) = false := by rfl) :
    PE X (.Call (.Subscript a b p) (e :: es) [] pos) (tIxCall X.prog X.w X.K X.mg X.base j (WE W) tf t) := by
  refine ⟨fun pins s σ H Q I h => ?_⟩
  have ev : eval (.Call (.Subscript a b p) (e :: es) [] pos) X.env = (do callWith pos (← eval (.Subscript a b p) X.env) [] (backTo pos (starEach (e :: es) X.env)) (backToKw pos (keywordEach [] X.env))) := rfl
  rw [ev]
  refine wpAny_bind (thn (hf.run pins s σ H _ I h) fun u s1 hh => ?_)
  obtain ⟨x, H1, I1, rx, f, sp, ex, ⟨k, fd, ps, hk, F, kp, hb⟩, q⟩ := hh
  subst ex
  obtain rfl : u = Value.ref f := rx
  refine PySem.W.callWith_K (h₀ := X.base) I1.ok.mod.kin kp (thn (ha.run pos pins s1 σ H1 _ I1 q) fun us s2 ⟨vs, H2, I2, r, q2⟩ => ⟨I2.kIn, ?_⟩) he hpl
  exact run_fnS F (hr.mono hk) hb (passAt tk σ) I2 r q2
end
/-- the body of a def that may raise takes what it wishes -/
theorem takes_def {P : Program} {w : World} {K : PySem.W.Frag} {mg : Str → Option Value} {base : Heap} {N : List Str} {qual : Str} {sc : Scope} {f : Addr} {cd : Value} {A : Around} {outer : List Env} {s : Shared} {H : Hp} {E : XK} :
    Takes (cxOf (L2.CX P w) P w K mg base N qual sc f cd A outer s H E) (fun cls d _ H' => E cls d H') := takes_of rfl rfl rfl rfl
end Kx

set_option Elab.async false
set_option linter.all false
set_option maxRecDepth 100000
set_option maxHeartbeats 4000000
set_option exponentiation.threshold 4000
namespace PySem
namespace NX
open PySem.W PySem.Calls PyProof.Rows PySem.HandSPX
section
variable {M : Model} {A : Around} {E : Value → Shared → Prop} {h : Heap} {g : Array GenState} {d : Drawn} {t : Nat} {os : OsState}
variable {nm q : Str} {C N : Addr} {bs bm bmB : List Value} {hdct : Bool} {sn : List Str} {sub : List Value} {ab : Bool} {col : Option Bool} {dd : Option Addr} {k0 k1 k2 k3 k5 : Option Value} {B newId initId : String}
theorem check_new_kw (F : ExcBaseFacts B newId initId bmB) (hT : ∀ X : String, bm.contains (.type X) = bmB.contains (.type X)) {kn : Str} {kv : Value} {Q : Unit → Shared → Prop}
    (hC : h.get? C = some (excClassObj nm q C N bs bm hdct sn sub ab col dd k0 k1 k2 k3 k5 newId)) (hq : Q () ⟨h, g, d, t, os⟩) : wpAny M A (checkBuiltinCall newId ⟨[.ref C], [(kn, kv)]⟩) Q E ⟨h, g, d, t, os⟩ := by
  have hcont : (Value.ref C :: bm).contains (.type B) = true := by rw [List.contains_cons, hT, F.hasB, Bool.or_true]
  have hstar := F.noStar
  simp only [checkBuiltinCall, F.newKind, F.newSplit, F.newRow]
  repeat (first | refine wpAny_loadPart_at hC ?_ | (refine wpAny_isSubtype_exc hC ?_; rw [hcont]) | refine wpAny_staticBase_exc hC ?_ | refine wpAny_madeBy_exc hC ?_ | simp only [bne_self_eq_false, Bool.false_eq_true, if_false] | wp_step)
  exact hq
end
section
variable {prog : Program} {w : World} {A : Around} {E : Value → Shared → Prop} {R : Result → Shared → Prop} {h : Heap} {g : Array GenState} {d : Drawn} {t : Nat} {os : OsState}
variable {nm q : Str} {C N : Addr} {bs bm bmB : List Value} {hdct : Bool} {sn : List Str} {sub : List Value} {ab : Bool} {col : Option Bool} {dd : Option Addr} {k0 k1 k2 k3 k5 : Option Value} {B newId initId : String}
theorem new_kw (F : ExcBaseFacts B newId initId bmB) (hT : ∀ X : String, bm.contains (.type X) = bmB.contains (.type X)) {kn : Str} {kv : Value}
    (hC : h.get? C = some (excClassObj nm q C N bs bm hdct sn sub ab col dd k0 k1 k2 k3 k5 newId))
    (hq : R (.ok (.ret (.ref (h.objs.size + 1)))) ⟨(h.push { cls := .type "tuple", data := .seq ([] : List Value).toArray }).push
      { cls := .ref C, data := .fields #[.ref h.objs.size, .none, .none, .none, .bool false, .none] }, g, d, t, os⟩) :
    codeAny (model prog w) A (.builtin newId ⟨[.ref C], [(kn, kv)]⟩) R ⟨h, g, d, t, os⟩ := by
  have hends := F.ends
  have hcB : (Value.ref C :: bm).contains (.type B) = true := by rw [List.contains_cons, hT, F.hasB, Bool.or_true]
  have hcA : (Value.ref C :: bm).contains (.type "AttributeError") = false := by rw [List.contains_cons, hT, F.noAttr]; rfl
  have hcN : (Value.ref C :: bm).contains (.type "NameError") = false := by rw [List.contains_cons, hT, F.noName]; rfl
  have hrest : ([] : List Value).length ≤ sizeLine := by decide
  refine codeAny_builtinAt F.entry ?_
  unfold Builtin.«BaseException.__new__»
  refine wpAt_bind ?_
  show wpAt _ _ _ (stack >>= _) _ _ _
  refine wpAt_bind (wpAt_stack fun p below => wpAt_of_wpAny ?_)
  wp_walk
  refine wpAt_of_wpAny ?_
  rw [F.owner]
  repeat (first | with_reducible refine wpAny_madeHere_exc F.canon hC ?_ | with_reducible refine wpAny_loadPart_at hC ?_ | (with_reducible refine wpAny_isSubtype_exc hC ?_; first | rw [hcB] | rw [hcA] | rw [hcN]) | wp_step)
  show R _ _
  rw [Heap.size_push]
  exact hq
theorem type_call_kw (F : ExcBaseFacts B newId initId bmB) (hT : ∀ X : String, bm.contains (.type X) = bmB.contains (.type X)) {kn : Str} {kv : Value} {fI : Addr} {Q : Fin → Shared → Prop}
    (hC : h.get? C = some (excClassObj nm q C N bs bm hdct sn sub ab col dd k0 k1 k2 k3 k5 newId))
    (hi : W.Looks (model prog w) h (typeLookup (.ref C) "__init__") (some (.ref fI))) (hb : ∀ self, W.Looks (model prog w) h (bindSpecial (.ref fI) self) (.ref fI, [self]))
    (hq : codeAny (model prog w) A (.call (.ref fI) ⟨[.ref (h.objs.size + 1)], [(kn, kv)]⟩)
      (fun r s' => match r with | .ok (.ret v) => v = .none ∧ Q (.done (.ret (.ref (h.objs.size + 1)))) s' | .ok _ => False | .error e => E e s')
      ⟨(h.push (W.kdv_tup [])).push (excO C h.objs.size), g, d, t, os⟩) :
    wpAny (model prog w) A (Builtin.«type.__call__» ⟨[.ref C], [(kn, kv)]⟩) Q E ⟨h, g, d, t, os⟩ := by
  repeat (first | with_reducible refine wpAny_loadPart_at hC ?_ | with_reducible refine wpAny_madeBy_exc hC ?_ | wp_step)
  refine codeAny_call_builtin_code (Code.quiet_builtin _ F.quiet) (check_new_kw F hT hC ?_)
  refine new_kw F hT hC ?_
  show wpAny _ _ _ _ _ _
  have k : ∀ b o, h.get? b = some o → ((h.push (W.kdv_tup [])).push (excO C h.objs.size)).get? b = some o := fun b o e => Heap.get?_push_of_some _ (Heap.get?_push_of_some _ e)
  have hC₁ := k _ _ hC
  have hget : ((h.push (W.kdv_tup [])).push (excO C h.objs.size)).get? (h.objs.size + 1) = some (excO C h.objs.size) := by heap_get
  have hcC : (Value.ref C :: bm).contains (.ref C) = true := by simp
  have i1 := hi.keeps k
  have b1 := (hb (.ref (h.objs.size + 1))).keeps k
  unfold isInstance
  repeat (first | with_reducible refine wpAny_loadPart_at hget ?_ | (with_reducible refine wpAny_isSubtype_exc hC₁ ?_; rw [hcC]) | wp_step)
  show wpAny _ _ (typeLookup (.ref C) _) _ _ _
  refine i1.at ?_
  refine wpAny_holding (wpAny_bind (b1.at ?_))
  refine wpAny_bind (wpAny_call (codeAny_mono hq fun r s' z => ?_))
  rcases r with e | (v | _ | _ | _) <;> first | exact z | exact z.elim | skip
  obtain ⟨rfl, z⟩ := z
  first
    | exact wpAny_pure (wpAny_pure z)
    | (wp_walk; exact z)
theorem call_kw (F : ExcBaseFacts B newId initId bmB) (hT : ∀ X : String, bm.contains (.type X) = bmB.contains (.type X)) {kn : Str} {kv : Value} {fI : Addr}
    (hC : h.get? C = some (excClassObj nm q C N bs bm hdct sn sub ab col dd k0 k1 k2 k3 k5 newId))
    (hi : W.Looks (model prog w) h (typeLookup (.ref C) "__init__") (some (.ref fI))) (hb : ∀ self, W.Looks (model prog w) h (bindSpecial (.ref fI) self) (.ref fI, [self]))
    (hq : codeAny (model prog w) (A.under (.builtin "type.__call__" ⟨[.ref C], [(kn, kv)]⟩)) (.call (.ref fI) ⟨[.ref (h.objs.size + 1)], [(kn, kv)]⟩) (W.InitBack (h.objs.size + 1) R)
      ⟨(h.push (W.kdv_tup [])).push (excO C h.objs.size), g, d, t, os⟩) :
    codeAny (model prog w) A (.call (.ref C) ⟨[], [(kn, kv)]⟩) R ⟨h, g, d, t, os⟩ := by
  have f1 := tc_lookup
  have f2 := tc_bind (.ref C)
  have hTy : (⟨h, g, d, t, os⟩ : Shared).TypeIs (.ref C) "type" := ⟨_, hC, rfl⟩
  refine codeAny_of_tree ?_
  show wpAny _ _ (callAny (.ref C) _) _ _ _
  repeat (any_goals (first | assumption | with_reducible refine wpAny_loadPart_at hC ?_ | wp_step))
  refine ⟨rfl, ?_⟩
  refine codeAny_call_builtin_at (Code.quiet_builtin _ (by decide +kernel)) entry_typeCall (wpAny_check_type_call_sub hC (type_call_kw F hT hC hi hb ?_))
  refine codeAny_mono hq fun r s' z => ?_
  rcases r with e | (v | _ | _ | _) <;> exact z
end
end NX
end PySem
namespace Kx
open PySem PySem.Spec PyProof.Rows L2
/-- an error made, not raised -/
structure Made (H1 H2 : Hp) (C a dx : Addr) (v : V) : Prop where
  na : H1 a = none
  nd : H1 dx = none
  ne : dx ≠ a
  ea : H2 a = some (exo a C (some dx))
  ed : H2 dx = some (exd dx [("value", v)])
  sm : Same H1 H2
/-- a class of errors with its own __init__ -/
structure ErrN (P : Program) (w : World) (K : PySem.W.Frag) (mg : Str → Option Value) (base : Heap) (x : Str) (C fI : Addr) (fd : FuncData) : Prop where
  iC : PySem.W.findIn K (.ref C) "__init__" = some (some (.ref fI))
  tI : PySem.W.typeIn K (.ref fI) = some (.type "function")
  F : FnOk P w K mg base CX0 1 fI fd ["self", "value"] (spInit C)
  b1 : Binds K fd ["self", "value"] []
  b0 : ∃ ds, Vals [V.non] ds ∧ Binds K fd ["self", "value"] ds
  bk : ∀ (s : Shared) (u v : Value), K.In s.heap → BindsTo s fd ⟨[u], [("value", v)]⟩ [("self", u), ("value", v)]
  T : OexC K C
  m : mg x = some (.ref C)
  xf : XfC K C
  ec : L2.ExcC K C
  nv : PySem.W.findIn K (.ref C) "value" = some none
section
variable {X : Cx} {pins : List (Addr × Obj)} {σ : SV} {H : Hp} {s : Shared} {x : Str} {C fI : Addr} {fd : FuncData} {j : Nat} {p pos : Pos} {e : Expr} {ta : TA} {te : TE} {Q : VK}
/-- the __init__'s own promise, met -/
theorem init_hq {v : V} {a : Addr} (na : H a = none) (k : ∀ a dx H2, Made H H2 C a dx v → Q (.ref a) H2) : spInit C [.ref a, v] (upd H a (exo a C none)) (fun r H2 => r = .non ∧ Q (.ref a) H2) (fun _ _ _ => False) := by
  refine ⟨a, v, rfl, upd_same, fun dx ndx hne => ⟨rfl, k a dx _ ⟨na, ?_, hne, upd_same, ?_, fun b u eb => ?_⟩⟩⟩
  · rw [upd_ne hne] at ndx
    exact ndx
  · rw [upd_ne hne]
    exact upd_same
  · have hba := ne_of_none eb na
    have hd : H dx = none := by
      rw [upd_ne hne] at ndx
      exact ndx
    rw [upd_ne hba, upd_ne (ne_of_none eb hd), upd_ne hba]
    exact eb
theorem run_new {us ds : List Value} {vs dvs : List V} {v : V} (E : ErrN X.prog X.w X.K X.mg X.base x C fI fd) (hr : Room j X.A) (hj : 2 ≤ j) (hb : Binds X.K fd ["self", "value"] ds) (hd : Vals dvs ds) (I : Inv X pins σ H s) (r : Vals vs us) (hv : vs ++ dvs = [v])
    (k : ∀ a dx H2, Made H H2 C a dx v → Q (.ref a) H2) : wpAny (model X.prog X.w) X.A (call (.ref C) us) (EP X pins σ Q) X.xe s := by
  obtain ⟨nm, q, N, bs, bm, sn, sub, ab, col, dd, k0, k1, k2, k3, k5, hC, hbm⟩ := E.T.cls
  obtain ⟨hp, g, dr, tk, os⟩ := s
  have hsz : hp.objs.size ≤ hp.objs.size + 1 := Nat.le_succ _
  have hn : H (hp.objs.size + 1) = none := I.hok.fresh hsz
  have hq := init_hq (Q := Q) (v := v) hn k
  have kk : ∀ b o, hp.get? b = some o → ((hp.push (PySem.W.kdv_tup us)).push (PySem.HandSPX.excO C hp.objs.size)).get? b = some o := fun b o e => Heap.get?_push_of_some _ (Heap.get?_push_of_some _ e)
  have hget : ((hp.push (PySem.W.kdv_tup us)).push (PySem.HandSPX.excO C hp.objs.size)).get? (hp.objs.size + 1) = some (PySem.HandSPX.excO C hp.objs.size) := by heap_get
  have I2 : Inv X pins σ (upd H (hp.objs.size + 1) (exo (hp.objs.size + 1) C none)) ⟨(hp.push (PySem.W.kdv_tup us)).push (PySem.HandSPX.excO C hp.objs.size), g, dr, tk, os⟩ :=
    I.laid (t' := tk) (a := hp.objs.size + 1) (o := exo (hp.objs.size + 1) C none) (h' := (hp.push (PySem.W.kdv_tup us)).push (PySem.HandSPX.excO C hp.objs.size)) kk hsz (exo_ok hget)
  have r2 : Vals (V.ref (hp.objs.size + 1) :: (vs ++ dvs)) (Value.ref (hp.objs.size + 1) :: (us ++ ds)) := .cons rfl (r.append hd)
  rw [hv] at r2
  have hl : (Value.ref (hp.objs.size + 1) :: us ++ ds).length = ["self", "value"].length := by
    have e := r2.length
    exact e.symm
  have hus : us.length ≤ sizeLine := by
    have e := r2.length
    simp only [List.length_cons, List.length_append, List.length_nil] at e
    rw [sizeLine_eq]
    omega
  refine wpAny_call (PySem.HandSPX.call_own F.excBase_ValueError (fun Y => PySem.HandSPX.refsVE_contains Y bm hbm) (I.kIn _ _ hC) (PySem.W.looks_findIn I.kIn E.iC) (fun self => PySem.W.bind_fn I.kIn self E.tI) hus
    (codeAny_mono (E.F.run _ X.stack _ _ ⟨Value.ref (hp.objs.size + 1) :: us, []⟩ (Value.ref (hp.objs.size + 1) :: (us ++ ds)) _ _ (fun _ _ _ => False) ((hr.mono hj).make C us []) (I2.env0.make C us []) (hb _ (Value.ref (hp.objs.size + 1) :: us) I2.kIn hl) r2 hq) fun r s' hq' => ?_))
  cases r with
  | error er => exact False.elim hq'
  | ok fl =>
    cases fl with
    | ret u =>
      obtain ⟨v', H', I3, rv, ev, q3⟩ := I2.after hq'
      subst ev
      exact ⟨rv, ⟨V.ref (hp.objs.size + 1), H', I3, rfl, q3⟩⟩
    | next => exact False.elim hq'
    | brk => exact False.elim hq'
    | cont => exact False.elim hq'
def tNew (C : Addr) (dvs : List V) (t : TA) : TE := fun σ H Q => t σ H fun vs H1 => ∃ v, vs ++ dvs = [v] ∧ ∀ a dx H2, Made H1 H2 C a dx v → Q (.ref a) H2
/-- C(e) -/
theorem pe_new1 (E : ErrN X.prog X.w X.K X.mg X.base x C fI fd) (hr : Room j X.A) (ha : PA X [e] ta) (hj : 2 ≤ j := by decide) (hg : Gl X x := by rfl) (hdb : (x == ("__debug__" : Str)) = false := by decide)
    (he : starEach [e] X.env = (false, eval e X.env) :: starEach [] X.env := by rfl) (hpl : (backTo pos (starEach [] X.env)).any (·.1) = false := by rfl) : PE X (.Call (.Name x p) [e] [] pos) (tNew C [] ta) := by
  refine ⟨fun pins s σ H Q I h => ?_⟩
  refine wpAny_Call_Name_kw (ld_glob I hg E.m ?_ hdb)
  refine PySem.W.callWith_K (h₀ := X.base) I.ok.mod.kin E.T.kC (thn (ha.run pos pins s σ H _ I h) fun us s1 ⟨vs, H1, I1, r1, v, ev, k⟩ => ⟨I1.kIn, ?_⟩) he hpl
  exact run_new E hr hj E.b1 .nil I1 r1 ev k
/-- C() -/
theorem pe_new0 (E : ErrN X.prog X.w X.K X.mg X.base x C fI fd) (hr : Room j X.A) (hj : 2 ≤ j := by decide) (hg : Gl X x := by rfl) (hdb : (x == ("__debug__" : Str)) = false := by decide) : PE X (.Call (.Name x p) [] [] pos) (tNew C [.non] tNil) := by
  refine ⟨fun pins s σ H Q I h => ?_⟩
  refine wpAny_Call_Name_kw (ld_glob I hg E.m ?_ hdb)
  obtain ⟨v, ev, k⟩ := h
  obtain ⟨ds, hd, hb⟩ := E.b0
  exact PySem.W.callWith_K0 I.kIn E.T.kC (run_new (us := []) E hr hj hb hd I .nil ev k)
def tNewK (C : Addr) (t : TA) : TE := fun σ H Q => t σ H fun zs H1 => ∃ v, zs = [v] ∧ ∀ a dx H2, Made H1 H2 C a dx v → Q (.ref a) H2
theorem run_newK {u : Value} {v : V} (E : ErrN X.prog X.w X.K X.mg X.base x C fI fd) (hr : Room j X.A) (hj : 2 ≤ j) (I : Inv X pins σ H s) (ru : RelV v u)
    (k : ∀ a dx H2, Made H H2 C a dx v → Q (.ref a) H2) : wpAny (model X.prog X.w) X.A (call (.ref C) [] [("value", u)]) (EP X pins σ Q) X.xe s := by
  obtain ⟨nm, q, N, bs, bm, sn, sub, ab, col, dd, k0, k1, k2, k3, k5, hC, hbm⟩ := E.T.cls
  obtain ⟨hp, g, dr, tk, os⟩ := s
  have hsz : hp.objs.size ≤ hp.objs.size + 1 := Nat.le_succ _
  have hn : H (hp.objs.size + 1) = none := I.hok.fresh hsz
  have hq := init_hq (Q := Q) (v := v) hn k
  have kk : ∀ b o, hp.get? b = some o → ((hp.push (PySem.W.kdv_tup [])).push (PySem.HandSPX.excO C hp.objs.size)).get? b = some o := fun b o e => Heap.get?_push_of_some _ (Heap.get?_push_of_some _ e)
  have hget : ((hp.push (PySem.W.kdv_tup [])).push (PySem.HandSPX.excO C hp.objs.size)).get? (hp.objs.size + 1) = some (PySem.HandSPX.excO C hp.objs.size) := by heap_get
  have I2 : Inv X pins σ (upd H (hp.objs.size + 1) (exo (hp.objs.size + 1) C none)) ⟨(hp.push (PySem.W.kdv_tup [])).push (PySem.HandSPX.excO C hp.objs.size), g, dr, tk, os⟩ :=
    I.laid (t' := tk) (a := hp.objs.size + 1) (o := exo (hp.objs.size + 1) C none) (h' := (hp.push (PySem.W.kdv_tup [])).push (PySem.HandSPX.excO C hp.objs.size)) kk hsz (exo_ok hget)
  have r2 : Vals [V.ref (hp.objs.size + 1), v] [Value.ref (hp.objs.size + 1), u] := .cons rfl (.cons ru .nil)
  refine wpAny_call (PySem.NX.call_kw F.excBase_ValueError (fun Y => PySem.HandSPX.refsVE_contains Y bm hbm) (I.kIn _ _ hC) (PySem.W.looks_findIn I.kIn E.iC) (fun self => PySem.W.bind_fn I.kIn self E.tI)
    (codeAny_mono (E.F.run _ X.stack _ _ ⟨[Value.ref (hp.objs.size + 1)], [("value", u)]⟩ [Value.ref (hp.objs.size + 1), u] _ _ (fun _ _ _ => False) ((hr.mono hj).make C [] [("value", u)]) (I2.env0.make C [] [("value", u)]) (E.bk _ _ _ I2.kIn) r2 hq) fun r s' hq' => ?_))
  cases r with
  | error er => exact False.elim hq'
  | ok fl =>
    cases fl with
    | ret u =>
      obtain ⟨v', H', I3, rv, ev, q3⟩ := I2.after hq'
      subst ev
      exact ⟨rv, ⟨V.ref (hp.objs.size + 1), H', I3, rfl, q3⟩⟩
    | next => exact False.elim hq'
    | brk => exact False.elim hq'
    | cont => exact False.elim hq'
/-- C(value = e) -/
theorem pe_newK {kws : List Keyword} {tk : TA} (E : ErrN X.prog X.w X.K X.mg X.base x C fI fd) (hr : Room j X.A) (hkw : PK X kws tk) (hj : 2 ≤ j := by decide) (hg : Gl X x := by rfl)
    (hall : (backToKw pos (keywordEach kws X.env)).all (·.1.isSome) = true := by rfl) (hks : (backToKw pos (keywordEach kws X.env)).filterMap (·.1) = (["value"] : List Str) := by rfl) (hdb : (x == ("__debug__" : Str)) = false := by decide)
    (hpl : ((backTo pos (starEach [] X.env)).any (·.1) || (backToKw pos (keywordEach kws X.env)).any (·.1.isNone)) = false := by rfl) : PE X (.Call (.Name x p) [] kws pos) (tNewK C tk) := by
  refine ⟨fun pins s σ H Q I h => ?_⟩
  refine wpAny_Call_Name_kw (ld_glob I hg E.m ?_ hdb)
  refine PySem.W.callWith_KW0 (h₀ := X.base) I.ok.mod.kin E.T.kC hall ?_ hpl
  refine thn (hkw.run pos pins s σ H _ I h) fun ws s2 ⟨zs, H2, I2, rz, v, ev, k⟩ => ⟨I2.kIn, ?_⟩
  rw [hks]
  subst ev
  cases rz with
  | cons ru rn =>
    cases rn
    exact run_newK E hr hj I2 ru k
/-- isinstance(e, c), e made -/
def rIsN (K : PySem.W.Frag) : List V → Hp → VK → Prop := fun xs H Q => ∃ (a D : Addr) (dd : Addr) (fs : List (Str × V)) (c : V) (cv : Value) (b : Bool), xs = [.ref a, c] ∧ H a = some (exo a D (some dd)) ∧ H dd = some (exd dd fs) ∧ L2.ExcC K D ∧ (∀ u, RelV c u → u = cv) ∧ PySem.W.kitOne K (.ref D) cv = some b ∧ Q (.bl b) H
theorem exo_inst {K : PySem.W.Frag} {P : Program} {w : World} {h : Heap} {a C dd : Addr} {fs : List (Str × V)} (hok : HOk P w H h) (ea : H a = some (exo a C (some dd))) (ed : H dd = some (exd dd fs)) :
    ∃ (oe od : Obj) (mA : Str → Option Value), PySem.W.InstAt h a oe C (some od) ∧ (∀ name, PySem.W.lookIn name od = some (mA name)) ∧ ∀ f, RelO (fs.lookup f) (mA f) := by
  obtain ⟨t1, hget⟩ := exo_at hok ea
  obtain ⟨mA, hns, hr⟩ := exd_at hok ed
  obtain ⟨od, ho, hl⟩ := lookIn_ns hns
  exact ⟨_, od, mA, ⟨hget, rfl, rfl, ho⟩, hl, hr⟩
theorem call_isN : CallR X (.builtin "isinstance") (rIsN X.K) := by
  intro pins s σ H xs us Q I r h
  obtain ⟨a, D, dd, fs, c, cv, b, rfl, ha, hdd, C, hcv, e, q⟩ := h
  cases r with
  | cons rx rr =>
    cases rr with
    | cons rt rr =>
      cases rr
      cases rx
      have ec := hcv _ rt
      subst ec
      obtain ⟨oe, od, mA, J, _, _⟩ := exo_inst (K := X.K) I.hok ha hdd
      obtain ⟨cd, hcd, _⟩ := PySem.W.any_some C.hd
      exact PySem.W.kia_one (PySem.W.kitx_exc (by rw [hcd]; rfl) C.hg C.hk C.hs C.ha C.hn C.ht C.hm) I.kIn J e (fun z => nomatch z) fun tk => ⟨.bl b, H, I.kept (t' := tk) fun _ _ z => z, rfl, q⟩
/-- e.f, e made -/
def tXn (K : PySem.W.Frag) (f : Str) (te : TE) : TE := fun σ H Q => te σ H fun x H1 => ∃ (a C dd : Addr) (fs : List (Str × V)) (v : V), x = .ref a ∧ H1 a = some (exo a C (some dd)) ∧ XfC K C ∧ PySem.W.findIn K (.ref C) f = some none ∧ H1 dd = some (exd dd fs) ∧ fs.lookup f = some v ∧ Q v H1
theorem pe_xn {n : Str} (he : PE X e te) (hb : attributeBase e n X.env (eval e X.env) = eval e X.env := by rfl) : PE X (.Attribute e n pos) (tXn X.K n te) := by
  refine ⟨fun pins s σ H Q I h => ?_⟩
  refine attr_of hb (thn (he.run pins s σ H _ I h) fun u s1 hh => ?_)
  obtain ⟨x, H1, I1, rx, a, C, dd, fs, v, ex, ha, T, hno, ea, l, q⟩ := hh
  subst ex
  obtain rfl : u = Value.ref a := rx
  obtain ⟨oe, od, mA, J, hl, hr⟩ := exo_inst (K := X.K) I1.hok ha ea
  obtain ⟨u, hu, ru⟩ := RelO.some_of (v := v) (o := mA n) (by rw [← l]; exact hr n)
  exact HandSPX.exc_get I1.kIn J T.ga T.gg T.exC (PySem.W.findObj_own T.hdC hno rfl (by rw [hl, hu])) (handed_of ru) ⟨v, H1, I1.tok _, ru, q⟩
end
end Kx
namespace Kx
open PySem PySem.Spec PyProof.Rows L2
/-- a class of errors without an __init__ of its own -/
structure ErrP (K : PySem.W.Frag) (mg : Str → Option Value) (x : Str) (C : Addr) (bmB : List Value) (B newId initId : String) : Prop where
  F : ExcBaseFacts B newId initId bmB
  q : PySem.W.excIn K C bmB newId = true
  m : mg x = some (.ref C)
  k : PySem.W.keepIn K (.ref C) = true
  ec : L2.ExcC K C
section
variable {X : Cx} {x : Str} {C : Addr} {p pos : Pos} {bmB : List Value} {B newId initId : String}
/-- C() -/
def tNewP (C : Addr) : TE := fun _ H Q => ∀ a, H a = none → Q (.ref a) (upd H a (ExO (.ref C) a))
theorem pe_exc0 (E : ErrP X.K X.mg x C bmB B newId initId) (hg : Gl X x := by rfl) (hdb : (x == ("__debug__" : Str)) = false := by decide) : PE X (.Call (.Name x p) [] [] pos) (tNewP C) := by
  refine ⟨fun pins s σ H Q I h => ?_⟩
  refine wpAny_Call_Name_kw (ld_glob I hg E.m ?_ hdb)
  refine PySem.W.callWith_K0 I.kIn E.k ?_
  show wpAny _ _ (call (.ref C) []) _ _ _
  obtain ⟨bm, N, nm, qn, bs, hdct, sn, sub, ab, col, dd, k0, k1, k2, k3, k5, mN, hC, hN, hni, T⟩ := exc_obj I.kIn E.q
  refine wpAny_call_exc_subT E.F T hC hN hni (fun h' a hm => ?_) (by show 0 ≤ sizeLine; exact Nat.zero_le _)
  have hn : H a = none := I.hok.gone hm.new
  obtain ⟨t, ht, _, _⟩ := hm.there
  exact ⟨.ref a, upd H a (ExO (.ref C) a), I.laidN hm.keeps hm.new hn (exO_ok ht ⟨rfl, rfl⟩ rfl rfl rfl (show 4 < 6 by decide)), rfl, h a hn⟩
/-- an error object of the class D at a -/
def ErrV (H : Hp) (a D : Addr) : Prop := (∃ dd fs, H a = some (exo a D (some dd)) ∧ H dd = some (exd dd fs)) ∨ H a = some (ExO (.ref D) a)
theorem ErrV.same {H H' : Hp} {a D : Addr} (h : ErrV H a D) (s : Same H H') : ErrV H' a D := by
  rcases h with ⟨dd, fs, e1, e2⟩ | e
  · exact .inl ⟨dd, fs, s _ _ e1, s _ _ e2⟩
  · exact .inr (s _ _ e)
def rIsA (K : PySem.W.Frag) : List V → Hp → VK → Prop := fun xs H Q => ∃ (a D : Addr) (c : V) (cv : Value) (b : Bool), xs = [.ref a, c] ∧ ErrV H a D ∧ L2.ExcC K D ∧ (∀ u, RelV c u → u = cv) ∧ PySem.W.kitOne K (.ref D) cv = some b ∧ Q (.bl b) H
theorem call_isA : CallR X (.builtin "isinstance") (rIsA X.K) := by
  intro pins s σ H xs us Q I r h
  obtain ⟨a, D, c, cv, b, rfl, hE, C, hcv, e, q⟩ := h
  cases r with
  | cons rx rr =>
    cases rr with
    | cons rt rr =>
      cases rr
      cases rx
      have ec := hcv _ rt
      subst ec
      have J : ∃ oe od, PySem.W.InstAt s.heap a oe D od := by
        rcases hE with ⟨dd, fs, e1, e2⟩ | e1
        · obtain ⟨oe, od, mA, J, _, _⟩ := exo_inst (K := X.K) I.hok e1 e2
          exact ⟨oe, some od, J⟩
        · obtain ⟨⟨oe, vs, ho, hz, hd, _⟩, _, _⟩ := I.hok a _ e1
          obtain ⟨oc, od, oda, osl⟩ := oe
          obtain ⟨h1, h2⟩ := hz
          dsimp only at h1 h2 hd
          subst h1 h2 hd
          exact ⟨_, none, ho, rfl, rfl, trivial⟩
      obtain ⟨oe, od, J⟩ := J
      obtain ⟨cd, hcd, _⟩ := PySem.W.any_some C.hd
      exact PySem.W.kia_one (PySem.W.kitx_exc (by rw [hcd]; rfl) C.hg C.hk C.hs C.ha C.hn C.ht C.hm) I.kIn J e (fun z => nomatch z) fun tk => ⟨.bl b, H, I.kept (t' := tk) fun _ _ z => z, rfl, q⟩
theorem kit_ref {K : PySem.W.Frag} {D C : Addr} {b : Bool} (h2 : PySem.W.isClsIn K C = true) (h3 : PySem.W.typeIn K (.ref C) = some (.type "type")) (hs : PySem.W.subIn K (.ref C) (.ref C) = some true) (h : PySem.W.subIn K (.ref D) (.ref C) = some b) : PySem.W.kitOne K (.ref D) (.ref C) = some b := by
  unfold PySem.W.kitOne
  by_cases e : D = C
  · subst e
    rw [h] at hs
    rw [if_pos (beq_self_eq_true _), hs]
  · rw [if_neg (by intro z; exact e (Value.ref.inj (beq_iff_eq.mp z)))]
    unfold PySem.W.kitCls
    have h2' : (PySem.W.clsIn K C).isSome = true := h2
    have e2 : ((PySem.W.clsIn K C).isSome && PySem.W.typeIn K (.ref C) == some (.type "type")) = true := by rw [h2', h3]; rfl
    show (if ((PySem.W.clsIn K C).isSome && PySem.W.typeIn K (.ref C) == some (.type "type")) = true then PySem.W.subIn K (.ref D) (.ref C) else none) = some b
    rw [if_pos e2, h]
theorem kit_ve {K : PySem.W.Frag} {D : Addr} (h : PySem.W.subIn K (.ref D) (.type "ValueError") = some true) : PySem.W.kitOne K (.ref D) (.type "ValueError") = some true := by
  unfold PySem.W.kitOne
  rw [if_neg (by intro z; cases (beq_iff_eq.mp z))]
  show (if PySem.W.kitMeta "ValueError" = true then PySem.W.subIn K (.ref D) (.type "ValueError") else none) = some true
  rw [if_pos (by decide +kernel), h]
end
end Kx

set_option Elab.async false
set_option linter.all false
set_option maxRecDepth 100000
set_option maxHeartbeats 4000000
set_option exponentiation.threshold 4000
namespace Kx
open PySem PySem.Spec PyProof.Rows L2
def strTimes (z : Str) (k : Int) : Str := if k < 1 then Str.empty else if (k == 1 || z.length == 0) = true then z else ⟨(List.replicate k.toNat z.cps).foldl (· ++ ·) #[]⟩
/-- a written text times a small count -/
def rMulS : R2 := fun x y H Q => ∃ (z : Str) (k : Int), x = .str z ∧ y = .int k ∧ 0 ≤ k ∧ k ≤ 100 ∧ z.length ≤ 100 ∧ (strTimes z k).length ≤ sizeLine ∧ Q (.str (strTimes z k)) H
theorem op_mulS {X : Cx} : OpR X (binaryOp .Mult) rMulS := by
  intro pins s σ H x y v u Q I rx ry h
  obtain ⟨z, k, rfl, rfl, h0, h1, h2, hl, q⟩ := h
  obtain ⟨t, rfl⟩ := rx
  obtain ⟨t2, rfl⟩ := ry
  have hmul : z.length * k.toNat ≤ 100 * 100 := Nat.mul_le_mul h2 (by omega)
  refine PySem.P.mul_str (by rw [decide_eq_false (by omega), decide_eq_false (by omega)]; rfl) (fun h3 _ => ?_) (fun _ _ => ?_) ?_
  · have : (2 ^ 63 - 1 : Int) / k ≥ (2 ^ 63 - 1) / 100 := by
      have e1 : (100 : Int) * ((2 ^ 63 - 1) / 100) ≤ 2 ^ 63 - 1 := by decide
      exact (Int.le_ediv_iff_mul_le (by omega)).mpr (Int.le_trans (Int.mul_le_mul_of_nonneg_left h1 (by decide)) (by decide))
    have e2 : ((2 ^ 63 - 1 : Int) / 100) = 92233720368547758 := by decide
    omega
  · show decide (_ > sizeLine) = false
    exact decide_eq_false (by rw [sizeLine_eq]; omega)
  · unfold strTimes at hl q
    split
    · rename_i hk
      rw [if_pos hk] at hl q
      exact ⟨hl, .str _, H, I.tok _, ⟨_, rfl⟩, q⟩
    · rename_i hk
      rw [if_neg hk] at hl q
      split
      · rename_i hk2
        rw [if_pos hk2] at hl q
        exact ⟨.str _, H, I, ⟨_, rfl⟩, q⟩
      · rename_i hk2
        rw [if_neg hk2] at hl q
        exact ⟨hl, .str _, H, I.tok _, ⟨_, rfl⟩, q⟩
end Kx
namespace Kx
open PySem PySem.Spec PyProof.Rows L2
/-- what the written part says of the classes, together -/
structure KitT (K : PySem.W.Frag) (Cs : List Addr) (S : Addr) : Prop where
  cc : ∀ (i j : Nat) (C D : Addr), Cs[i]? = some C → Cs[j]? = some D → PySem.W.kitOne K (.ref C) (.ref D) = some (decide (j = i))
  cs : ∀ C ∈ Cs, PySem.W.kitOne K (.ref C) (.ref S) = some true
  cv : ∀ C ∈ Cs, PySem.W.kitOne K (.ref C) (.type "ValueError") = some true
  sc : ∀ C ∈ Cs, PySem.W.kitOne K (.ref S) (.ref C) = some false
  sv : PySem.W.kitOne K (.ref S) (.type "ValueError") = some true
  ec : ∀ C ∈ Cs, L2.ExcC K C
  xf : ∀ C ∈ Cs, XfC K C
  nv : ∀ C ∈ Cs, PySem.W.findIn K (.ref C) "value" = some none
section
variable {K : PySem.W.Frag} {H : Hp}
theorem It.same {H' : Hp} {v : V} {d : PyData} (h : It K H v d) (s : Same H H') : It K H' v d := ⟨dp_same s _ _ h.dp, h.sh, h.nd, h.de, h.co, h.la, h.ok.same s⟩
theorem it_tup {p : Addr} {xs : List V} {ds : List PyData} (h : H p = some (.tup xs)) (hi : ItAll K H xs ds) (h1 : PyData.depthAll ds ≤ 9) (h2 : costAll ds ≤ 90000) : It K H (.ref p) (.tuple ds) := by
  obtain ⟨a1, a2, a3, a4, a5, a6, a7, a8⟩ := itAll_facts hi
  refine ⟨.tup (SqT.of h) a1, ?_, ?_, ?_, ?_, ?_, ⟨"tuple", tyS_tup h⟩⟩
  · simp only [PyData.showable]; exact a2
  · simp only [PyData.hasDict]; exact a3
  · simp only [PyData.depth]; omega
  · simp only [cost]; omega
  · simp only [PyData.canLay0]; exact a6
theorem it_lst {p : Addr} {xs : List V} {ds : List PyData} (h : H p = some (.lst xs)) (hi : ItAll K H xs ds) (h1 : PyData.depthAll ds ≤ 9) (h2 : costAll ds ≤ 90000) : It K H (.ref p) (.list ds) := by
  obtain ⟨a1, a2, a3, a4, a5, a6, a7, a8⟩ := itAll_facts hi
  refine ⟨.lst (SqL.of h) a1, ?_, ?_, ?_, ?_, ?_, ⟨"list", tyS_lst h⟩⟩
  · simp only [PyData.showable]; exact a2
  · simp only [PyData.hasDict]; exact a3
  · simp only [PyData.depth]; omega
  · simp only [cost]; omega
  · simp only [PyData.canLay0]; exact a6
theorem itAll_nats : ∀ ns : List Nat, (∀ n ∈ ns, n < 100) → ItAll K H (ns.map fun n : Nat => V.int (n : Int)) (ns.map fun n : Nat => PyData.int (n : Int)) ∧ PyData.depthAll (ns.map fun n : Nat => PyData.int (n : Int)) ≤ 1 ∧ costAll (ns.map fun n : Nat => PyData.int (n : Int)) ≤ 2000 * ns.length
  | [], _ => ⟨.nil, by simp only [List.map_nil, PyData.depthAll]; omega, by simp only [List.map_nil, costAll]; omega⟩
  | n :: ns, h => by
    obtain ⟨h1, h2, h3⟩ := itAll_nats ns fun m hm => h m (List.mem_cons_of_mem _ hm)
    have hn := h n (List.mem_cons_self ..)
    refine ⟨.cons (.int (n := 10) (by have : ((n : Int)).natAbs = n := Int.natAbs_natCast n
                                      omega) (by decide)) h1, ?_, ?_⟩
    · simp only [List.map_cons, PyData.depthAll, PyData.depth]; omega
    · simp only [List.map_cons, costAll, cost, List.length_cons]; omega
/-- two of one kind in a list, shown -/
theorem rp_two {L : Addr} {x y : V} {d e : PyData} (h : H L = some (.lst [x, y])) (hx : It K H x d) (hy : It K H y e) : Rp K H (.ref L) (.list [d, e]) := (val_lst h (.cons hx (.cons hy .nil)) (Nat.le_of_ble_eq_true rfl)).rp
theorem isAe {a D : Addr} {c : V} {cv : Value} {b : Bool} {Q : VK} (hE : ErrV H a D) (hX : L2.ExcC K D) (hc : ∀ u, RelV c u → u = cv) (hk : PySem.W.kitOne K (.ref D) cv = some b) (q : Q (.bl b) H) : rIsA K [.ref a, c] H Q := ⟨a, D, c, cv, b, rfl, hE, hX, hc, hk, q⟩
theorem xn_mk {a C dd : Addr} {v : V} (hx : XfC K C) (hn : PySem.W.findIn K (.ref C) "value" = some none) (ea : H a = some (exo a C (some dd))) (ed : H dd = some (exd dd [("value", v)])) {te : TE} {σ : SV} {Q : VK} (ht : te σ H (fun x H1 => x = .ref a ∧ H1 = H)) : True := trivial
end
theorem Made.err {H1 H2 : Hp} {C a dx : Addr} {v : V} (m : Made H1 H2 C a dx v) : ErrV H2 a C := .inl ⟨dx, _, m.ea, m.ed⟩
end Kx
namespace Kx
open PySem PySem.Spec PyProof.Rows L2
def LstAt (H : Hp) (p : Addr) (ns : List Nat) : Prop := H p = some (.lst (.int 1 :: .non :: ns.map fun n : Nat => V.int (n : Int))) ∧ ns.length ≤ 12 ∧ ∀ n ∈ ns, n < 100
/-- the value: what is no list stays, the list grows -/
def ValW (K : PySem.W.Frag) (H : Hp) (v : V) (i : Nat) : Prop := (∃ d t, It K H v d ∧ tyS H v = some t ∧ t ≠ "list" ∧ ∀ p, v = .ref p → ∃ xs, H p = some (.tup xs)) ∨ ∃ p ns, v = .ref p ∧ LstAt H p ns ∧ ns.length ≤ i
theorem valW_it {K : PySem.W.Frag} {H : Hp} {v : V} {i : Nat} (h : ValW K H v i) : ∃ d, It K H v d := by
  rcases h with ⟨d, t, hI, _⟩ | ⟨p, ns, rfl, ⟨e, hl, hb⟩, _⟩
  · exact ⟨d, hI⟩
  · obtain ⟨h1, h2, h3⟩ := itAll_nats (K := K) (H := H) ns hb
    refine ⟨_, it_lst e (.cons (.int (n := 10) (by decide) (by decide)) (.cons .non h1)) ?_ ?_⟩
    · simp only [PyData.depthAll, PyData.depth]; omega
    · simp only [costAll, cost]; omega
theorem kitB_list {K : PySem.W.Frag} {H : Hp} {v : V} {t : String} (h : tyS H v = some t) (hn : t ≠ "list") : kitB t "list" = some false := by
  have hm := (tyS_of (K := K) h).2.1
  simp only [List.mem_cons, List.not_mem_nil, or_false] at hm
  rcases hm with rfl | rfl | rfl | rfl | rfl | rfl | rfl
  · decide +kernel
  · decide +kernel
  · decide +kernel
  · decide +kernel
  · exact absurd rfl hn
  · decide +kernel
  · decide +kernel
end Kx
namespace Kx
open PySem PySem.Spec PyProof.Rows L2
theorem exo_lst {e C : Addr} {d : Option Addr} {xs : List V} : exo e C d ≠ .lst xs := fun z => by
  have z' : HO.ext _ = HO.lst xs := z
  cases z'
theorem exd_lst {e : Addr} {fs : List (Str × V)} {xs : List V} : exd e fs ≠ .lst xs := fun z => by
  have z' : HO.ext _ = HO.lst xs := z
  cases z'
theorem upd_lst {H : Hp} {p b : Addr} {xs : List V} {o o2 : HO} (h : H p = some (.lst xs)) (e : H b = some o2) (hne : o2 ≠ .lst xs) : L2.upd H p o b = some o2 := by
  rw [upd_ne (fun z => ?_)]
  · exact e
  · rw [z, h] at e
    exact hne (Option.some.inj e).symm
theorem ValW.same {K : PySem.W.Frag} {H H' : Hp} {v : V} {i : Nat} (h : ValW K H v i) (s : Same H H') : ValW K H' v i := by
  rcases h with ⟨d, t, hI, ht, hn, hx⟩ | ⟨p, ns, rfl, ⟨e, hl, hb⟩, hle⟩
  · exact .inl ⟨d, t, hI.same s, tyS_same s ht, hn, fun p e => by
      obtain ⟨xs, h⟩ := hx p e
      exact ⟨xs, s _ _ h⟩⟩
  · exact .inr ⟨p, ns, rfl, ⟨s _ _ e, hl, hb⟩, hle⟩
theorem look1 {v : V} : List.lookup ("value" : Str) [(("value" : Str), v)] = some v := by simp [List.lookup]
end Kx
namespace Kx
open PySem PySem.Spec PyProof.Rows L2
theorem bare_mk {K : PySem.W.Frag} {C : Addr} {σ : SV} {H : Hp} {Q : VK} (xf : XfC K C) (nv : PySem.W.findIn K (.ref C) "value" = some none) (k : ∀ H2, Same H H2 → Q .non H2) : tXn K "value" (tNew C [V.non] tNil) σ H Q :=
  ⟨.non, rfl, fun a dx H2 m => ⟨a, C, dx, _, .non, rfl, m.ea, xf, nv, m.ed, look1, k H2 m.sm⟩⟩
end Kx
namespace Kx
open PySem PySem.Spec PyProof.Rows L2
theorem eq_bools {K : PySem.W.Frag} {H : Hp} {a b : Addr} {Q : VK} (bs : List Bool) (h1 : H a = some (.lst (bs.map V.bl))) (h2 : H b = some (.lst (bs.map V.bl))) (q : Q (.bl true) H) : rEqD K (.ref a) (.ref b) H Q :=
  ⟨_, _, .lst (SqL.of h1) (dpAll_bools bs), .lst (SqL.of h2) (dpAll_bools bs), shaped_bools bs, shaped_bools bs, by rw [eqv_same (shaped_bools bs)]; exact q⟩
end Kx
namespace Kx
open PySem PySem.Spec PyProof.Rows L2
/-- the __init__ in a class's text -/
def initOf : Stmt → Stmt
  | .ClassDef (body := b) .. => b.getD 0 (.Pass ⟨0, 0, 0, 0⟩)
  | _ => .Pass ⟨0, 0, 0, 0⟩
/-- how the __init__ of an error binds -/
theorem init_binds {K : PySem.W.Frag} {qual : Str} {params : Arguments} {body : List Stmt} {scope : Scope} {f : Addr} {fd : FuncData} (F : FunD K "__init__" qual params body scope [V.non] [] f fd)
    (h1 : ∀ (T : Addr) (kV doc pm : Value) (an : Option Addr) (cdv ct u v d : Value), ∃ k, bindArgs (PySem.W.fnOf "__init__" qual params body scope (.ref T) kV doc pm an cdv ct) ⟨[u, v], []⟩ = seqItems? (.ref T) >>= k ∧ k (some [d].toArray) = pure ((["self", "value"] : List Str).zip [u, v]))
    (h0 : ∀ (T : Addr) (kV doc pm : Value) (an : Option Addr) (cdv ct u d : Value), ∃ k, bindArgs (PySem.W.fnOf "__init__" qual params body scope (.ref T) kV doc pm an cdv ct) ⟨[u], []⟩ = seqItems? (.ref T) >>= k ∧ k (some [d].toArray) = pure ((["self", "value"] : List Str).zip [u, d]))
    (hk : ∀ (T : Addr) (kV doc pm : Value) (an : Option Addr) (cdv ct u v d : Value), ∃ k, bindArgs (PySem.W.fnOf "__init__" qual params body scope (.ref T) kV doc pm an cdv ct) ⟨[u], [("value", v)]⟩ = seqItems? (.ref T) >>= k ∧ k (some [d].toArray) = pure ((["self", "value"] : List Str).zip [u, v])) :
    Binds K fd ["self", "value"] [] ∧ (∃ ds, Vals [V.non] ds ∧ Binds K fd ["self", "value"] ds) ∧ ∀ (s : Shared) (u v : Value), K.In s.heap → BindsTo s fd ⟨[u], [("value", v)]⟩ [("self", u), ("value", v)] := by
  refine ⟨?_, ?_, ?_⟩
  · obtain ⟨ds, hv, hb⟩ := F.binds1 (ps := ["self", "value"]) 2 1 (by simp) (by decide) (fun T kV doc pm an cdv ct us its l1 l2 => by
      match us, its, l1, l2 with
      | [u, v], [d], _, _ => exact h1 T kV doc pm an cdv ct u v d)
    cases hv
    exact hb
  · obtain ⟨ds, hv, hb⟩ := F.binds1 (ps := ["self", "value"]) 1 0 (by simp) (by decide) (fun T kV doc pm an cdv ct us its l1 l2 => by
      match us, its, l1, l2 with
      | [u], [d], _, _ => exact h0 T kV doc pm an cdv ct u d)
    exact ⟨ds, hv, hb⟩
  · obtain ⟨oc, od, dV, kV, doc, pm, an, cdv, ct, osl, rfl, lk, hcd, hD, hK⟩ := F.ex
    rcases hD with ⟨e, _⟩ | ⟨_, T, o, its, m, rfl, lT, oT, rT⟩
    · exact absurd e (by simp)
    · intro s u v X
      cases rT with
      | @cons _ d _ dr r1 r2 =>
        cases r2
        obtain ⟨k, e1, e2⟩ := hk T kV doc pm an cdv ct u v d
        refine BindsTo.of_looks fun M => ?_
        rw [e1]
        exact looks_items X lT oT (.of_pure e2)
/-- an error class's facts, by the written part's words -/
theorem errN_mk {P : Program} {w : World} {K : PySem.W.Frag} {mg : Str → Option Value} {base : Heap} {x : Str} {C fI : Addr} {fd : FuncData} (iC : PySem.W.findIn K (.ref C) "__init__" = some (some (.ref fI))) (tI : PySem.W.typeIn K (.ref fI) = some (.type "function"))
    (F : FnOk P w K mg base CX0 1 fI fd ["self", "value"] (spInit C)) (B : Binds K fd ["self", "value"] [] ∧ (∃ ds, Vals [V.non] ds ∧ Binds K fd ["self", "value"] ds) ∧ ∀ (s : Shared) (u v : Value), K.In s.heap → BindsTo s fd ⟨[u], [("value", v)]⟩ [("self", u), ("value", v)])
    (T : OexC K C) (m : mg x = some (.ref C)) (ga : PySem.W.findIn K (.ref C) "__getattribute__" = some (some (.builtin "BaseException.__getattribute__"))) (gg : PySem.W.findIn K (.ref C) "__getattr__" = some none)
    (hd : PySem.W.hasDictIn K C = true) (ec : L2.ExcC K C) (nv : PySem.W.findIn K (.ref C) "value" = some none) : ErrN P w K mg base x C fI fd :=
  ⟨iC, tI, F, B.1, B.2.1, B.2.2, T, m, ⟨ga, gg, T.exC, hd⟩, ec, nv⟩
end Kx

set_option Elab.async false
set_option linter.all false
set_option maxRecDepth 100000
set_option maxHeartbeats 4000000
set_option exponentiation.threshold 4000
/-! Defs that refuse. -/
namespace Kx
open PySem PySem.Spec PyProof.Rows L2
/-- an error of the class C with the value v may come -/
def Err (H : Hp) (E : XK) (C : Addr) (v : V) : Prop := ∀ d H', Same H H' → H' d = some (.xd [("value", v)]) → E (.ref C) (some d) H'
theorem Err.same {H H' : Hp} {E : XK} {C : Addr} {v : V} (h : Err H E C v) (s : Same H H') : Err H' E C v := fun d H2 s2 e => h d H2 (s.trans s2) e
theorem Err.now {H H1 : Hp} {E : XK} {C : Addr} {v : V} (h : Err H E C v) (s : Same H H1) : ∀ d, H1 d = none → E (.ref C) (some d) (L2.upd H1 d (.xd [("value", v)])) := fun d nd => h d _ (s.trans (Same.upd nd)) upd_same
/-- what comes of a call: it is let, or refused -/
inductive Oc where
  | ok
  | err (C : Addr) (v : V)
def Meets (H : Hp) (Q : VK) (E : XK) : Oc → Prop
  | .ok => ∀ r H', Same H H' → Q r H'
  | .err C v => Err H E C v
theorem Meets.same {H H' : Hp} {Q : VK} {E : XK} {o : Oc} (h : Meets H Q E o) (s : Same H H') : Meets H' Q E o := by
  cases o with
  | ok => exact fun r H2 s2 => h r H2 (s.trans s2)
  | err C v => exact Err.same h s
def ocM (CM : Addr) (x : V) (k : Int → Oc) : Oc := if measB x then (match x with | .int D => k D | _ => .ok) else .err CM x
def ocRoots (CR : Addr) (D : Int) (H : Hp) : List V → Oc → Oc
  | [], o => o
  | r :: rs, o => if rootB D H r then ocRoots CR D H rs o else .err CR r
/-- check_measure -/
def spCheckMeasureX (CM : Addr) : Sp := fun vs H Q E => ∃ x, vs = [x] ∧ OkItem H x ∧ (measB x = true → Q .non H) ∧ (measB x = false → Err H E CM x)
/-- _check: the measure, then the root numbers in their order -/
def spCheckX (CM CR : Addr) : Sp := fun vs H Q E => ∃ (x : V) (a : Addr) (rs : List V), vs = [x, .ref a] ∧ OkItem H x ∧ (∀ D, x = .int D → D < 2 ^ 1000) ∧ H a = some (.tup rs) ∧ (∀ r ∈ rs, OkV H r) ∧ Meets H Q E (ocM CM x fun D => ocRoots CR D H rs .ok)
theorem measB_get {x : V} (h : measB x = true) : ∃ D, x = .int D ∧ Meas D := by
  cases x with
  | int D =>
    rw [measB_int, Bool.and_eq_true, decide_eq_true_eq, decide_eq_true_eq] at h
    exact ⟨D, rfl, h⟩
  | _ => cases h
theorem rootB_get {D : Int} {H : Hp} {x : V} (h : rootB D H x = true) : ∃ a t, x = .ref a ∧ RootAt D H a t := by
  have hw : wholesB H 3 x = true := by
    unfold rootB at h
    exact (Bool.and_eq_true_iff.mp h).1
  obtain ⟨a, i, j, l, rfl, ha⟩ := wholes3 hw
  rw [rootB3 ha] at h
  simp only [Bool.and_eq_true, decide_eq_true_eq, Bool.or_eq_true, Bool.not_eq_true', decide_eq_false_iff_not] at h
  obtain ⟨h1, h2, h3⟩ := h
  have hp := gcdI_pos (a := gcdI i j) (show l ≠ 0 by omega)
  exact ⟨a, (i, j, l), rfl, ha, h1, show gcdI (gcdI i j) l = 1 by omega, h3⟩
theorem ocRoots_same {CR : Addr} {D : Int} {H H' : Hp} (s : Same H H') {o : Oc} : ∀ {rs : List V}, (∀ r ∈ rs, OkV H r) → ocRoots CR D H' rs o = ocRoots CR D H rs o
  | [], _ => rfl
  | r :: rs, h => by
    unfold ocRoots
    rw [rootB_same s (h r (List.mem_cons_self ..)).1, ocRoots_same s fun q hq => h q (List.mem_cons_of_mem _ hq)]
theorem ErrN.c {P : Program} {w : World} {K : PySem.W.Frag} {mg : Str → Option Value} {base : Heap} {x : Str} {C fI : Addr} {fd : FuncData} (E : ErrN P w K mg base x C fI fd) : ErrC P w K mg base x C := ⟨⟨fI, fd, E.iC, E.tI, E.F, E.b1⟩, E.T, E.m, E.xf, E.ec, E.nv⟩
end Kx
namespace Kx
open PySem PySem.Spec PyProof.Rows L2
theorem meets_roots0 {CR : Addr} {D : Int} {H H1 : Hp} {Q Q1 : VK} {E : XK} {o : Oc} (s : Same H H1) : ∀ {rs : List V}, (∀ r ∈ rs, OkV H r) → Meets H Q E (ocRoots CR D H rs o) → ((∀ r ∈ rs, rootB D H r = true) → Meets H Q E o → ∀ r H2, Same H1 H2 → Q1 r H2) → Meets H1 Q1 E (ocRoots CR D H1 rs .ok)
  | [], _, kk, k => fun r H2 s2 => k (fun r hr => absurd hr List.not_mem_nil) kk r H2 s2
  | r :: rs, hok, kk, k => by
    unfold ocRoots at kk ⊢
    rw [rootB_same s (hok r (List.mem_cons_self ..)).1]
    cases hb : rootB D H r with
    | true =>
      rw [if_pos hb] at kk
      rw [if_pos rfl]
      exact meets_roots0 s (fun q hq => hok q (List.mem_cons_of_mem _ hq)) kk fun h => k fun q hq => by
        rcases List.mem_cons.mp hq with rfl | hq
        · exact hb
        · exact h q hq
    | false =>
      rw [if_neg (by rw [hb]; decide)] at kk
      rw [if_neg (by decide)]
      exact Err.same kk s
theorem meets_roots {CM CR : Addr} {x : V} {H H1 : Hp} {Q Q1 : VK} {E : XK} {o : Int → Oc} {rs : List V} (s : Same H H1) (hok : ∀ r ∈ rs, OkV H r) (kk : Meets H Q E (ocM CM x fun D => ocRoots CR D H rs (o D)))
    (k : ∀ D, x = .int D → Meas D → (∀ r ∈ rs, rootB D H r = true) → Meets H Q E (o D) → ∀ r H2, Same H1 H2 → Q1 r H2) : Meets H1 Q1 E (ocM CM x fun D => ocRoots CR D H1 rs .ok) := by
  unfold ocM at kk ⊢
  cases hm : measB x with
  | true =>
    obtain ⟨D, rfl, hM⟩ := measB_get hm
    rw [if_pos hm] at kk
    rw [if_pos rfl]
    exact meets_roots0 s hok kk fun h => k D rfl hM h
  | false =>
    rw [if_neg (by rw [hm]; decide)] at kk
    rw [if_neg (by decide)]
    exact Err.same kk s
def zeroB (H : Hp) : V → Bool
  | .ref a => match H a with
    | some (.tup [.int x, .int y, .int _]) => decide (x = 0) && decide (y = 0)
    | _ => false
  | _ => false
theorem zeroB_at {H : Hp} {a : Addr} {D : Int} {t : Int × Int × Int} (h : RootAt D H a t) : zeroB H (.ref a) = (decide (t.1 = 0) && decide (t.2.1 = 0)) := by
  unfold zeroB
  simp only [h.1, rootV]
/-- what stands there is small -/
def SzV (H : Hp) (n : Nat) (o : V) : Prop := ∀ (a : Addr) (D : Int) (t : Int × Int × Int), o = .ref a → RootAt D H a t → Sz n t
structure Ask2 (H : Hp) (x o1 o2 : V) : Prop where
  ox : OkItem H x
  d : ∀ D : Int, x = .int D → D < 2 ^ 200
  v1 : OkV H o1
  v2 : OkV H o2
  z1 : SzV H 300 o1
  z2 : SzV H 300 o2
theorem Ask2.two {H : Hp} {x o1 o2 : V} (A : Ask2 H x o1 o2) {D : Int} (e : x = .int D) (hM : Meas D) (h : ∀ r ∈ [o1, o2], rootB D H r = true) : ∃ a b t u, o1 = .ref a ∧ o2 = .ref b ∧ Two D H a b t u 300 300 := by
  obtain ⟨a, t, rfl, ra⟩ := rootB_get (h o1 (by simp))
  obtain ⟨b, u, rfl, rb⟩ := rootB_get (h o2 (by simp))
  exact ⟨a, b, t, u, rfl, rfl, hM, A.d D e, ra, rb, A.z1 a D t rfl ra, A.z2 b D u rfl rb⟩
theorem Ask2.all {H : Hp} {x o1 o2 : V} (A : Ask2 H x o1 o2) : ∀ r ∈ [o1, o2], OkV H r := fun r hr => by
  simp only [List.mem_cons, List.not_mem_nil, or_false] at hr
  rcases hr with rfl | rfl
  · exact A.v1
  · exact A.v2
/-- root_plus, root_less, root_times -/
def spRoot2X (CM CR : Addr) : Sp := fun vs H Q E => ∃ x o1 o2 : V, vs = [x, o1, o2] ∧ Ask2 H x o1 o2 ∧ Meets H Q E (ocM CM x fun D => ocRoots CR D H [o1, o2] .ok)
def spRootOverX (CM CR : Addr) : Sp := fun vs H Q E => ∃ x o1 o2 : V, vs = [x, o1, o2] ∧ Ask2 H x o1 o2 ∧ Meets H Q E (ocM CM x fun D => ocRoots CR D H [o1, o2] (if zeroB H o2 then .err CR o2 else .ok))
/-- root_side, root_floor -/
def spRoot1X (CM CR : Addr) : Sp := fun vs H Q E => ∃ x o : V, vs = [x, o] ∧ OkItem H x ∧ (∀ D, x = .int D → D < 2 ^ 200) ∧ OkV H o ∧ SzV H 300 o ∧ Meets H Q E (ocM CM x fun D => ocRoots CR D H [o] .ok)
/-- is_root: the value may be anything -/
def spIsRootX (CM : Addr) : Sp := fun vs H Q E => ∃ x o : V, vs = [x, o] ∧ OkItem H x ∧ (∀ D, x = .int D → D < 2 ^ 200) ∧ OkV H o ∧ Meets H Q E (ocM CM x fun _ => .ok)
def ocNums (CN : Addr) : List V → Oc → Oc
  | [], o => o
  | r :: rs, o => if isIntV r then ocNums CN rs o else .err CN r
def isZero : V → Bool
  | .int i => decide (i = 0)
  | _ => false
def spRootNumberX (CM CN : Addr) : Sp := fun vs H Q E => ∃ x a b c : V, vs = [x, a, b, c] ∧ OkItem H x ∧ (∀ D, x = .int D → D < 2 ^ 200) ∧ (∀ r ∈ [a, b, c], OkItem H r ∧ ∀ i, r = .int i → i.natAbs < 2 ^ 300) ∧ Meets H Q E (ocM CM x fun _ => ocNums CN [a, b, c] (if isZero c then .err CN c else .ok))
end Kx
namespace Kx
open PySem PySem.Spec PyProof.Rows L2
/-- the doors of k05: the four sums, side, floor, is_root, root_number -/
def ocAsked (CM CR CN : Addr) (H : Hp) (k : Nat) (g : List V) : Oc :=
  let g0 := g.getD 0 .non; let g1 := g.getD 1 .non; let g2 := g.getD 2 .non; let g3 := g.getD 3 .non
  if k < 3 then ocM CM g0 fun D => ocRoots CR D H [g1, g2] .ok
  else if k = 3 then ocM CM g0 fun D => ocRoots CR D H [g1, g2] (if zeroB H g2 then .err CR g2 else .ok)
  else if k < 6 then ocM CM g0 fun D => ocRoots CR D H [g1] .ok
  else if k = 6 then ocM CM g0 fun _ => .ok
  else ocM CM g0 fun _ => ocNums CN [g1, g2, g3] (if isZero g3 then .err CN g3 else .ok)
/-- what may be handed in there -/
structure Hand (H : Hp) (k : Nat) (g : List V) : Prop where
  ln : (if k < 4 then 3 else if k < 7 then 2 else 4) ≤ g.length
  d : ∀ D : Int, g.getD 0 .non = .int D → D < 2 ^ 200
  v : ∀ x ∈ g, OkV H x ∧ SzV H 300 x ∧ ∀ i : Int, x = .int i → i.natAbs < 2 ^ 300
def spAskedX (CM CR CN : Addr) : Sp := fun vs H Q E => ∃ (k : Nat) (q : Addr) (g : List V), vs = [.int k, .ref q] ∧ k < 8 ∧ H q = some (.lst g) ∧ Hand H k g ∧ Meets H Q E (ocAsked CM CR CN H k g)
theorem zeroB_same {H H' : Hp} {x : V} (s : Same H H') (h : OkItem H x) : zeroB H' x = zeroB H x := by
  cases x with
  | ref a =>
    obtain ⟨o, ho⟩ := h.at
    unfold zeroB
    simp only [ho, s _ _ ho]
  | _ => rfl
theorem SzV.same {H H' : Hp} {n : Nat} {x : V} (h : SzV H n x) (hO : OkItem H x) (s : Same H H') : SzV H' n x := fun a D t e r => by
  subst e
  obtain ⟨o, ho⟩ := hO.at
  have := s _ _ ho
  rw [r.1] at this
  cases this
  exact h a D t rfl ⟨ho, r.2⟩
theorem Ask2.same {H H' : Hp} {x o1 o2 : V} (A : Ask2 H x o1 o2) (s : Same H H') : Ask2 H' x o1 o2 := ⟨A.ox.same s, A.d, A.v1.same s, A.v2.same s, A.z1.same A.v1.1 s, A.z2.same A.v2.1 s⟩
theorem meets_move {CM CR : Addr} {x : V} {H H1 : Hp} {Q : VK} {E : XK} {o o1 : Oc} {rs : List V} (s : Same H H1) (hok : ∀ r ∈ rs, OkV H r) (e : o1 = o) (kk : Meets H Q E (ocM CM x fun D => ocRoots CR D H rs o)) : Meets H1 Q E (ocM CM x fun D => ocRoots CR D H1 rs o1) := by
  subst e
  have ef : (fun D => ocRoots CR D H1 rs o1) = fun D => ocRoots CR D H rs o1 := funext fun D => ocRoots_same s hok
  rw [ef]
  exact kk.same s
end Kx
namespace Kx
open PySem PySem.Spec PyProof.Rows L2
theorem countU {y : V} {uy : Value} (ry : RelV y uy) : ∀ {ys : List V} {us : List Value}, Vals ys us → ys.all flatV = true → us.countP (eqU y) = ys.countP (fun z => eqV z y)
  | [], _, h, _ => by
    cases h
    rfl
  | z :: ys, _, h, f => by
    cases h with
    | cons r rs =>
      rw [List.all_cons, Bool.and_eq_true] at f
      rw [List.countP_cons, List.countP_cons, countU ry rs f.2, eqU_of r f.1]
/-- l.count(x), flat items -/
def rCountF (K : PySem.W.Frag) : V → List V → Hp → VK → Prop := fun x xs H Q => ∃ (a : Addr) (ys : List V) (y : V), x = .ref a ∧ xs = [y] ∧ SqL K H a ys ∧ flatV y = true ∧ ys.all flatV = true ∧ Q (.int (ys.countP (fun z => eqV z y) : Nat)) H
theorem mt_countF {X : Cx} : MtR X "list.count" (rCountF X.K) := by
  intro pins s σ H x xs v us Q I rx rxs h
  obtain ⟨a, ys, y, rfl, rfl, hs, fy, fys, q⟩ := h
  cases rx
  cases rxs with
  | cons ry rt =>
    rename_i uy ut
    cases rt
    obtain ⟨its, rv, ⟨⟨cls, dd, data, sl⟩, n, ho, hc, hdn, hd⟩, hlen⟩ := I.list hs
    simp only at hc hd
    subst hc hd
    refine call_meets PySem.F.slot_list_count ⟨_, ho, rfl⟩ PySem.F.entry_list_count (PySem.F.args_list_count_2 _ _)
      (SeqAt.list_countAt a its.toArray n dd sl uy (eqU y)) ⟨ho, fun u' hu' => mem_eqAt ry fy rv fys u' (by simpa using hu'), ?_⟩
    refine ⟨.int (ys.countP (fun z => eqV z y) : Nat), H, I.tok _, ⟨s.toks, ?_⟩, q⟩
    show Value.int ((its.toArray.toList.countP (eqU y) : Nat) : Int) s.toks = _
    rw [show its.toArray.toList = its from rfl, countU ry rv fys]
end Kx
namespace Kx
open PySem PySem.Spec PyProof.Rows L2
/-- what the law tells of a call: let, or the error's kind and value -/
def toldL (CM CR : Addr) : Oc → List V
  | .ok => [.str "let"]
  | .err C v => [.str (if C = CM then "measure" else if C = CR then "root" else "number"), v]
def spTold5 (CM CR CN : Addr) : Sp := fun vs H Q _ => ∃ (k : Nat) (q : Addr) (g : List V), vs = [.int k, .ref q] ∧ k < 8 ∧ H q = some (.lst g) ∧ Hand H k g ∧ ∀ L H', L ≠ sysModules → Same H H' → H' L = some (.lst (toldL CM CR (ocAsked CM CR CN H k g))) → Q (.ref L) H'
end Kx
namespace Kx
open PySem PySem.Spec PyProof.Rows L2
/-- what the written part says of three classes of errors under one -/
structure Kit3 (K : PySem.W.Frag) (C0 C1 C2 S : Addr) : Prop where
  ex : ∀ C ∈ [C0, C1, C2], PySem.W.exmOne K (.ref C) (.ref S) = some true
  kit : ∀ (i j : Nat) (C D : Addr), [C0, C1, C2][i]? = some C → [C0, C1, C2][j]? = some D → PySem.W.kitOne K (.ref C) (.ref D) = some (decide (j = i))
  kv : ∀ C ∈ [C0, C1, C2], PySem.W.kitOne K (.ref C) (.type "ValueError") = some true
  ec : ∀ C ∈ [C0, C1, C2], L2.ExcC K C
  xf : ∀ C ∈ [C0, C1, C2], XfC K C
  nv : ∀ C ∈ [C0, C1, C2], PySem.W.findIn K (.ref C) "value" = some none
def Oc.in3 (CM CR CN : Addr) : Oc → Prop
  | .ok => True
  | .err C _ => C ∈ [CM, CR, CN]
theorem ocM_in {CM CR CN : Addr} {x : V} {k : Int → Oc} (h : ∀ D, (k D).in3 CM CR CN) : (ocM CM x k).in3 CM CR CN := by
  unfold ocM
  split
  · split
    · exact h _
    · trivial
  · show CM ∈ [CM, CR, CN]
    simp
theorem ocRoots_in {CM CR CN : Addr} {D : Int} {H : Hp} {o : Oc} (ho : o.in3 CM CR CN) : ∀ rs : List V, (ocRoots CR D H rs o).in3 CM CR CN
  | [] => ho
  | r :: rs => by
    unfold ocRoots
    split
    · exact ocRoots_in ho rs
    · show CR ∈ [CM, CR, CN]
      simp
theorem ocNums_in {CM CR CN : Addr} {o : Oc} (ho : o.in3 CM CR CN) : ∀ rs : List V, (ocNums CN rs o).in3 CM CR CN
  | [] => ho
  | r :: rs => by
    unfold ocNums
    split
    · exact ocNums_in ho rs
    · show CN ∈ [CM, CR, CN]
      simp
theorem ocAsked_in {CM CR CN : Addr} {H : Hp} {k : Nat} {g : List V} : (ocAsked CM CR CN H k g).in3 CM CR CN := by
  unfold ocAsked
  dsimp only
  split
  · exact ocM_in fun D => ocRoots_in (o := .ok) True.intro _
  · split
    · refine ocM_in fun D => ocRoots_in ?_ _
      split
      · show CR ∈ [CM, CR, CN]
        simp
      · trivial
    · split
      · exact ocM_in fun D => ocRoots_in (o := .ok) True.intro _
      · split
        · exact ocM_in fun D => trivial
        · refine ocM_in fun D => ocNums_in ?_ _
          split
          · show CN ∈ [CM, CR, CN]
            simp
          · trivial
theorem isKe {K : PySem.W.Frag} {H : Hp} {a D dd : Addr} {fs : List (Str × V)} {c : V} {cv : Value} {b : Bool} {Q : VK} (e1 : H a = some (ExK (.ref D) (some dd) a)) (e2 : H dd = some (.xd fs)) (hX : L2.ExcC K D) (hc : ∀ u, RelV c u → u = cv) (hk : PySem.W.kitOne K (.ref D) cv = some b) (q : Q (.bl b) H) : rIsK K [.ref a, c] H Q := ⟨a, D, dd, fs, c, cv, b, rfl, e1, e2, hX, hc, hk, q⟩
end Kx

set_option Elab.async false
set_option linter.all false
set_option maxRecDepth 100000
set_option maxHeartbeats 4000000
set_option exponentiation.threshold 4000
/-! Odd values that are shown, a dict among them. -/
namespace Kx
open PySem PySem.Spec PyProof.Rows L2
/-- a new list stands behind all that the start brings -/
def tLstB (t : TA) : TE := fun σ H Q => t σ H fun xs H1 => xs.length ≤ sizeLine ∧ ∀ p, H1 p = none → p ≠ sysModules → Q (.ref p) (upd H1 p (.lst xs))
theorem pe_lstB {X : Cx} {es : List Expr} {t : TA} {pos : Pos} (h : PA X es t) : PE X (.List es pos) (tLstB t) := by
  refine ⟨fun pins s σ H Q I hq => ?_⟩
  refine wpAny_List_spliced (thn (h.run pos pins s σ H _ I hq) fun us s1 ⟨xs, H1, I1, r, z, q⟩ => ⟨by rw [← r.length]; exact z, ?_⟩)
  have hf : H1 s1.heap.objs.size = none := I1.hok.fresh (Nat.le_refl _)
  refine ⟨.ref s1.heap.objs.size, upd H1 s1.heap.objs.size (.lst xs), I1.laid (t' := s1.toks) (fun b u e => Heap.get?_push_of_some _ e) (Nat.le_refl _) ?_, rfl, q _ hf (Nat.ne_of_gt I1.big)⟩
  exact ⟨z, us, 0, r, Heap.get?_push_size _ rfl⟩
theorem dict0_reads {X : Cx} {pins : List (Addr × Obj)} {σ : SV} {H : Hp} {s : Shared} {a : Addr} (I : Inv X pins σ H s) (e : H a = some (.dK [])) : a ≠ sysModules ∧ Reads s.heap (.ref a) (.dict []) [a] := by
  obtain ⟨z, hd, vs, rel, o, es, ep, ho, hx, hdat, hk, hp, hn⟩ := dk_of I.hok e
  have hvs : vs = [] := by cases rel; rfl
  subst hvs
  have hes : es.toList = [] := by
    generalize es.toList = l at hp
    cases hp
    rfl
  refine ⟨by simpa using hd, ?_⟩
  exact Reads.dict (kvs := []) (as := []) (bs := []) ho hx.1 hdat (by rw [hes]; exact .nil) (by rw [hes]; exact .nil)
/-- what may be shown: plain data, the empty dict, a list of a text and it -/
inductive Dq (K : PySem.W.Frag) (H : Hp) : V → PyData → Prop
  | rp {x : V} {d : PyData} : Rp K H x d → Dq K H x d
  | dc {a : Addr} : H a = some (.dK []) → Dq K H (.ref a) (.dict [])
  | lc {L a : Addr} {z : Str} : L ≠ sysModules → H L = some (.lst [.str z, .ref a]) → H a = some (.dK []) → (reprText z).length ≤ 1000 → Dq K H (.ref L) (.list [.str z, .dict []])
  | lb {L a : Addr} {b : Bool} : L ≠ sysModules → H L = some (.lst [.bl b, .ref a]) → H a = some (.dK []) → Dq K H (.ref L) (.list [.bool b, .dict []])
theorem shown_lc {z : Str} (h : (reprText z).length ≤ 1000) : (PyData.list [.str z, .dict []]).shown.length ≤ sizeLine := by
  have e : (PyData.list [.str z, .dict []]).shown = listText [reprText z, (PyData.dict []).shown] := by simp only [PyData.shown, PyData.shownAll]
  rw [e]
  have h1 := listText_le [reprText z, (PyData.dict []).shown]
  rw [piled_cons, piled_cons] at h1
  have h2 : (PyData.dict []).shown.length = 2 := by decide +kernel
  have h3 : piled [] = 0 := rfl
  rw [sizeLine_eq]
  omega
theorem cr_reprQ {X : Cx} (gd : X.A.guards = some []) (hu : X.A.units + 64 < cLine) : CallR X (.builtin "repr") (fun vs H Q => ∃ (x : V) (d : PyData), vs = [x] ∧ Dq X.K H x d ∧ Q (.str d.shown) H) := by
  intro pins s σ H vs us Q I r h
  obtain ⟨x, d, rfl, hd, q⟩ := h
  cases hd with
  | rp R => exact cr_reprR gd hu pins s σ H _ us Q I r ⟨x, d, rfl, R, q⟩
  | @dc a e =>
    obtain ⟨u, rfl, rx⟩ := vals1 r
    cases rx
    obtain ⟨ne, rd⟩ := dict0_reads I e
    exact repr_of_reads' rd rfl (fun _ => by simpa using Ne.symm ne) gd (by simp only [PyData.depth, PyData.depthKv]; omega) (fun _ _ z => z) (fun h' t tk hk => ⟨.str _, H, I.kept hk, ⟨_, rfl⟩, q⟩) (by decide +kernel)
  | @lc L a z nL eL e hz =>
    obtain ⟨u, rfl, rx⟩ := vals1 r
    cases rx
    obtain ⟨ne, rd⟩ := dict0_reads I e
    obtain ⟨its, rv, ⟨o, n, ho, hc, _, hdt⟩, _⟩ := I.list (SqL.of eL)
    cases rv with
    | cons r1 r2 =>
      cases r2 with
      | cons r2 r3 =>
        cases r3
        obtain ⟨t, rfl⟩ := r1
        cases r2
        have rl : Reads s.heap (.ref L) (.list [.str z, .dict []]) (L :: ([] ++ ([a] ++ []))) := Reads.list ho hc hdt (.cons (.str z t) (.cons rd .nil))
        exact repr_of_reads' rl rfl (fun _ => by simp [Ne.symm ne, Ne.symm nL]) gd (by simp only [PyData.depth, PyData.depthKv, PyData.depthAll]; omega) (fun _ _ z => z) (fun h' t tk hk => ⟨.str _, H, I.kept hk, ⟨_, rfl⟩, q⟩) (shown_lc hz)
  | @lb L a b nL eL e =>
    obtain ⟨u, rfl, rx⟩ := vals1 r
    cases rx
    obtain ⟨ne, rd⟩ := dict0_reads I e
    obtain ⟨its, rv, ⟨o, n, ho, hc, _, hdt⟩, _⟩ := I.list (SqL.of eL)
    cases rv with
    | cons r1 r2 =>
      cases r2 with
      | cons r2 r3 =>
        cases r3
        cases r1
        cases r2
        have rl : Reads s.heap (.ref L) (.list [.bool b, .dict []]) (L :: ([] ++ ([a] ++ []))) := Reads.list ho hc hdt (.cons (.bool b) (.cons rd .nil))
        exact repr_of_reads' rl rfl (fun _ => by simp [Ne.symm ne, Ne.symm nL]) gd (by simp only [PyData.depth, PyData.depthKv, PyData.depthAll]; omega) (fun _ _ z => z) (fun h' t tk hk => ⟨.str _, H, I.kept hk, ⟨_, rfl⟩, q⟩) (by cases b <;> decide +kernel)
/-- an odd value's data -/
inductive Oq (K : PySem.W.Frag) (H : Hp) : V → PyData → Prop
  | it {x : V} {d : PyData} : It K H x d → Oq K H x d
  | dc {a : Addr} : H a = some (.dK []) → Oq K H (.ref a) (.dict [])
def DueT (z : Str) : Prop := (PyData.str z).showable = true ∧ (reprText z).length ≤ 1000 ∧ (PyData.str z).canLay0 = true
section
variable {K : PySem.W.Frag} {H H' : Hp} {x : V} {d : PyData}
theorem Oq.same (h : Oq K H x d) (s : Same H H') : Oq K H' x d := by
  cases h with
  | it i => exact .it (i.same s)
  | dc e => exact .dc (s _ _ e)
theorem Oq.dq (h : Oq K H x d) : Dq K H x d := by
  cases h with
  | it i => exact .rp ⟨i.dp, i.sh, i.nd, Nat.le_trans i.de (by decide), Nat.le_trans i.co (by decide)⟩
  | dc e => exact .dc e
theorem Oq.two {L : Addr} {z : Str} (h : Oq K H x d) (hz : DueT z) (nL : L ≠ sysModules) (e : H L = some (.lst [.str z, x])) : Dq K H (.ref L) (.list [.str z, d]) := by
  cases h with
  | it i => exact .rp (rp_two e (.str hz.1 (by simp only [cost]; exact Nat.le_trans hz.2.1 (by decide)) hz.2.2) i)
  | dc e2 => exact .lc nL e e2 hz.2.1
end
theorem Oq.twoB {K : PySem.W.Frag} {H : Hp} {x : V} {d : PyData} {L : Addr} {b : Bool} (h : Oq K H x d) (nL : L ≠ sysModules) (e : H L = some (.lst [.bl b, x])) : Dq K H (.ref L) (.list [.bool b, d]) := by
  cases h with
  | it i => exact .rp (rp_two e .bl i)
  | dc e2 => exact .lb nL e e2
/-- a value that is handed in where it may be refused -/
structure OddV (K : PySem.W.Frag) (H : Hp) (x : V) (d : PyData) : Prop where
  q : Oq K H x d
  ok : OkV H x
  z : SzV H 300 x
  i : ∀ i : Int, x = .int i → i.natAbs < 2 ^ 150
theorem OddV.same {K : PySem.W.Frag} {H H' : Hp} {x : V} {d : PyData} (h : OddV K H x d) (s : Same H H') : OddV K H' x d := ⟨h.q.same s, h.ok.same s, h.z.same h.ok.1 s, h.i⟩
end Kx
namespace Kx
open PySem PySem.Spec PyProof.Rows L2
theorem sml {n : Nat} (h : n ≤ 1000) : n ≤ sizeLine := Nat.le_of_lt (small1000 h)
/-- what stands behind the odd value -/
def BehOk (H : Hp) (b : V) : Prop := OkV H b ∧ SzV H 300 b ∧ ∀ i : Int, b = .int i → i.natAbs < 2 ^ 150
theorem BehOk.same {H H' : Hp} {b : V} (h : BehOk H b) (s : Same H H') : BehOk H' b := ⟨h.1.same s, h.2.1.same h.1.1 s, h.2.2⟩
/-- all doors refuse the odd value, whatever stands behind it -/
def spAllRefused (K : PySem.W.Frag) (CM CR CN : Addr) : Sp := fun vs H Q _ => ∃ (dr gv : Addr) (due : Str) (odd : V) (ks : List Nat) (g : List V) (d : PyData), vs = [.ref dr, .ref gv, .str due, odd] ∧ H dr = some (.lst (ks.map fun k : Nat => V.int (k : Int))) ∧ H gv = some (.lst g) ∧ g.length ≤ 4 ∧ (∀ k ∈ ks, k < 8) ∧ ks.length ≤ 8 ∧ DueT due ∧ OddV K H odd d ∧
  (∀ H' b, Same H H' → BehOk H' b → ∀ k ∈ ks, Hand H' k (g ++ [odd] ++ [b, b, b]) ∧ toldL CM CR (ocAsked CM CR CN H' k (g ++ [odd] ++ [b, b, b])) = [.str due, odd]) ∧ ∀ H', Same H H' → Q (.bl true) H'
theorem behOk_int {H : Hp} {i : Int} (h : i.natAbs < 2 ^ 150) : BehOk H (.int i) := ⟨okV_of (t := "int") rfl (by decide), fun a D t e => (by cases e), fun j e => (by cases e; exact h)⟩
theorem behOk_non {H : Hp} : BehOk H .non := ⟨okV_of (t := "NoneType") rfl (by decide), fun a D t e => (by cases e), fun j e => (by cases e)⟩
theorem behOk_tup3 {H : Hp} {p : Addr} {x y z : Int} (h : H p = some (.tup [.int x, .int y, .int z])) (hx : x.natAbs < 2 ^ 300) (hy : y.natAbs < 2 ^ 300) (hz : z.natAbs < 2 ^ 300) : BehOk H (.ref p) := by
  refine ⟨⟨⟨"tuple", tyS_tup h⟩, fun a xs e1 e2 y hy => ?_⟩, fun a D t e r => ?_, fun j e => by cases e⟩
  · cases e1
    rw [h] at e2
    cases e2
    simp only [List.mem_cons, List.not_mem_nil, or_false] at hy
    rcases hy with rfl | rfl | rfl <;> exact ⟨"int", rfl⟩
  · cases e
    have := r.1
    rw [h] at this
    obtain ⟨a1, a2, a3⟩ := t
    simp only [rootV, Option.some.injEq, HO.tup.injEq, List.cons.injEq, V.int.injEq, and_true] at this
    obtain ⟨rfl, rfl, rfl⟩ := this
    exact ⟨hx, hy, hz⟩
theorem OddV.beh {K : PySem.W.Frag} {H : Hp} {x : V} {d : PyData} (h : OddV K H x d) : BehOk H x := ⟨h.ok, h.z, h.i⟩
end Kx
namespace Kx
open PySem PySem.Spec PyProof.Rows L2
/-- an odd value that is no root number -/
def BadRoot (K : PySem.W.Frag) (D : Int) (H : Hp) (x : V) : Prop := ∃ d, OddV K H x d ∧ rootB D H x = false
theorem BadRoot.same {K : PySem.W.Frag} {D : Int} {H H' : Hp} {x : V} (h : BadRoot K D H x) (s : Same H H') : BadRoot K D H' x := by
  obtain ⟨d, h1, h2⟩ := h
  exact ⟨d, h1.same s, by rw [rootB_same s h1.ok.1]; exact h2⟩
section
variable {K : PySem.W.Frag} {D : Int} {H : Hp} {p : Addr} {xs : List V} {ds : List PyData}
theorem bad_non : BadRoot K D H .non := ⟨_, ⟨.it .non, okV_of (t := "NoneType") rfl (by decide), fun a D t e => (by cases e), fun j e => (by cases e)⟩, rootB_of (t := "NoneType") rfl (by decide)⟩
theorem bad_bl {b : Bool} : BadRoot K D H (.bl b) := ⟨_, ⟨.it .bl, okV_of (t := "bool") rfl (by decide), fun a D t e => (by cases e), fun j e => (by cases e)⟩, rootB_of (t := "bool") rfl (by decide)⟩
theorem bad_int {i : Int} (h : i.natAbs < 2 ^ 150) : BadRoot K D H (.int i) := ⟨_, ⟨.it (.int h (by decide)), okV_of (t := "int") rfl (by decide), fun a D t e => (by cases e), fun j e => (by cases e; exact h)⟩, rootB_of (t := "int") rfl (by decide)⟩
theorem bad_str {z : Str} (h : DueT z) : BadRoot K D H (.str z) := ⟨_, ⟨.it (.str h.1 (by simp only [cost]; exact Nat.le_trans h.2.1 (by decide)) h.2.2), okV_of (t := "str") rfl (by decide), fun a D t e => (by cases e), fun j e => (by cases e)⟩, rootB_of (t := "str") rfl (by decide)⟩
theorem bad_dict (h : H p = some (.dK [])) : BadRoot K D H (.ref p) := ⟨_, ⟨.dc h, okV_of (tyS_dK h) (by decide), fun a D t e r => (by cases e; exact absurd (h.symm.trans r.1) (by simp)), fun j e => (by cases e)⟩, rootB_of (tyS_dK h) (by decide)⟩
theorem bad_lst (h : H p = some (.lst xs)) (hi : ItAll K H xs ds) (h1 : PyData.depthAll ds ≤ 9) (h2 : costAll ds ≤ 90000) : BadRoot K D H (.ref p) := ⟨_, ⟨.it (it_lst h hi h1 h2), okV_of (tyS_lst h) (by decide), fun a D t e r => (by cases e; exact absurd (h.symm.trans r.1) (by simp)), fun j e => (by cases e)⟩, rootB_of (tyS_lst h) (by decide)⟩
theorem itAll_ok {vs : List V} (h : ItAll K H vs ds) : ∀ v ∈ vs, OkItem H v := (itAll_facts h).2.2.2.2.2.2.1
theorem szV_tup (h : H p = some (.tup xs)) (hz : ∀ i : Int, V.int i ∈ xs → i.natAbs < 2 ^ 300) : SzV H 300 (.ref p) := fun a D t e r => by
  cases e
  have := r.1
  rw [h] at this
  cases this
  exact ⟨hz _ (by simp [rootV]), hz _ (by simp [rootV]), hz _ (by simp [rootV])⟩
theorem odd_tup (h : H p = some (.tup xs)) (hi : ItAll K H xs ds) (h1 : PyData.depthAll ds ≤ 9) (h2 : costAll ds ≤ 90000) (hz : ∀ i : Int, V.int i ∈ xs → i.natAbs < 2 ^ 300) : OddV K H (.ref p) (.tuple ds) :=
  ⟨.it (it_tup h hi h1 h2), okV_tup h (itAll_ok hi), szV_tup h hz, fun j e => (by cases e)⟩
/-- a tuple of plain items but of another length or with a item that is no number -/
theorem bad_tup (h : H p = some (.tup xs)) (hi : ItAll K H xs ds) (h1 : PyData.depthAll ds ≤ 9) (h2 : costAll ds ≤ 90000) (hz : ∀ i : Int, V.int i ∈ xs → i.natAbs < 2 ^ 300) (hb : (decide ((xs.length : Int) = 3) && xs.all isIntV) = false) : BadRoot K D H (.ref p) :=
  ⟨_, odd_tup h hi h1 h2 hz, rootB_not (by rw [wholes_tup h]; exact hb)⟩
theorem bad_tri {x y z : Int} (h : H p = some (.tup [.int x, .int y, .int z])) (hx : x.natAbs < 2 ^ 300) (hy : y.natAbs < 2 ^ 300) (hz : z.natAbs < 2 ^ 300) (hb : (decide (1 ≤ z) && (decide (gcdI (gcdI x y) z ≤ 1) && (decide (y = 0) || !decide (Sq D)))) = false) : BadRoot K D H (.ref p) :=
  ⟨_, odd_tup h (.cons (.int hx (by decide)) (.cons (.int hy (by decide)) (.cons (.int hz (by decide)) .nil))) (Nat.le_of_ble_eq_true rfl) (Nat.le_of_ble_eq_true rfl) (fun i hi => by
    simp only [List.mem_cons, V.int.injEq, List.not_mem_nil, or_false] at hi
    rcases hi with rfl | rfl | rfl
    · exact hx
    · exact hy
    · exact hz), by rw [rootB3 h]; exact hb⟩
end
def spWrongRoots (K : PySem.W.Frag) : Sp := fun vs H Q _ => ∃ (D : Int) (r : Addr) (t : Int × Int × Int), vs = [.int D, .ref r] ∧ Meas D ∧ D < 2 ^ 200 ∧ RootAt D H r t ∧ Sz 251 t ∧ ∀ (L : Addr) (H' : Hp) (xs : List V), Same H H' → H' L = some (.lst xs) → (∀ x ∈ xs, BadRoot K D H' x) → Q (.ref L) H'
theorem bad_all {K : PySem.W.Frag} {D : Int} {H H' : Hp} {xs : List V} (h : ∀ x ∈ xs, BadRoot K D H x) (s : Same H H') : ∀ x ∈ xs, BadRoot K D H' x := fun x hx => (h x hx).same s
end Kx
namespace Kx
open PySem PySem.Spec PyProof.Rows L2
/-- what may stand among the arguments -/
def GOk (H : Hp) (x : V) : Prop := OkV H x ∧ SzV H 300 x ∧ ∀ i : Int, x = .int i → i.natAbs < 2 ^ 200
theorem GOk.same {H H' : Hp} {x : V} (h : GOk H x) (s : Same H H') : GOk H' x := ⟨h.1.same s, h.2.1.same h.1.1 s, h.2.2⟩
theorem BehOk.g {H : Hp} {x : V} (h : BehOk H x) : GOk H x := ⟨h.1, h.2.1, fun i e => up (h.2.2 i e) (by decide)⟩
theorem gOk_int {H : Hp} {i : Int} (h : i.natAbs < 2 ^ 200) : GOk H (.int i) := ⟨okV_of (t := "int") rfl (by decide), fun a D t e => (by cases e), fun j e => (by cases e; exact h)⟩
theorem gOk_root {H : Hp} {D : Int} {a : Addr} {t : Int × Int × Int} (h : RootAt D H a t) (z : Sz 300 t) : GOk H (.ref a) := ⟨h.okV, szV_tup h.1 (fun i hi => by
    simp only [rootV, List.mem_cons, V.int.injEq, List.not_mem_nil, or_false] at hi
    rcases hi with rfl | rfl | rfl
    · exact z.1
    · exact z.2.1
    · exact z.2.2), fun j e => (by cases e)⟩
theorem hand_of {H : Hp} {k : Nat} {l : List V} (hl : (if k < 4 then 3 else if k < 7 then 2 else 4) ≤ l.length) (h : ∀ x ∈ l, GOk H x) : Hand H k l := by
  refine ⟨hl, fun D e => ?_, fun x hx => ⟨(h x hx).1, (h x hx).2.1, fun i e => up ((h x hx).2.2 i e) (by decide)⟩⟩
  cases l with
  | nil => cases e
  | cons y r =>
    have := (h y (List.mem_cons_self ..)).2.2 D e
    omega
theorem hand4 {H : Hp} {k : Nat} {l : List V} (hl : 4 ≤ l.length) (h : ∀ x ∈ l, GOk H x) : Hand H k l := hand_of (by split <;> (try split) <;> omega) h
section
variable {K : PySem.W.Frag} {CM CR CN : Addr} {H : Hp}
theorem asked_m {x : V} {r : List V} (hx : measB x = false) (k : Nat) : ocAsked CM CR CN H k (x :: r) = .err CM x := by
  have h : ∀ f, ocM CM x f = .err CM x := fun f => by unfold ocM; rw [hx]; rfl
  unfold ocAsked
  simp only [List.getD_cons_zero, h]
  repeat' split
  all_goals rfl
theorem ocM_ok {D : Int} {f : Int → Oc} (hD : Meas D) : ocM CM (.int D) f = f D := by
  unfold ocM
  rw [measB_int, decide_eq_true hD.1, decide_eq_true hD.2]
  rfl
theorem ocRoots_bad {D : Int} {x : V} {r : List V} {o : Oc} (hx : rootB D H x = false) : ocRoots CR D H (x :: r) o = .err CR x := by
  unfold ocRoots
  rw [hx]
  rfl
theorem ocRoots_good {D : Int} {x : V} {r : List V} {o : Oc} (hx : rootB D H x = true) : ocRoots CR D H (x :: r) o = ocRoots CR D H r o := by
  rw [ocRoots, if_pos hx]
theorem ocNums_bad {x : V} {r : List V} {o : Oc} (hx : isIntV x = false) : ocNums CN (x :: r) o = .err CN x := by
  unfold ocNums
  rw [hx]
  rfl
theorem ocNums_good {i : Int} {r : List V} {o : Oc} : ocNums CN (.int i :: r) o = ocNums CN r o := by
  rw [ocNums, if_pos (show isIntV (.int i) = true from rfl)]
theorem asked_r1 {D : Int} {x : V} {r : List V} (hD : Meas D) (hx : rootB D H x = false) {k : Nat} (hk : k < 6) : ocAsked CM CR CN H k (.int D :: x :: r) = .err CR x := by
  unfold ocAsked
  simp only [List.getD_cons_zero, List.getD_cons_succ, ocM_ok hD, ocRoots_bad hx]
  repeat' split
  all_goals first | rfl | (exfalso; omega)
theorem asked_r2 {D : Int} {y x : V} {r : List V} (hD : Meas D) (hy : rootB D H y = true) (hx : rootB D H x = false) {k : Nat} (hk : k < 4) : ocAsked CM CR CN H k (.int D :: y :: x :: r) = .err CR x := by
  unfold ocAsked
  simp only [List.getD_cons_zero, List.getD_cons_succ, ocM_ok hD, ocRoots_good hy, ocRoots_bad hx]
  repeat' split
  all_goals first | rfl | (exfalso; omega)
theorem asked_n1 {D : Int} {x b c : V} {r : List V} (hD : Meas D) (hx : isIntV x = false) : ocAsked CM CR CN H 7 (.int D :: x :: b :: c :: r) = .err CN x := by
  unfold ocAsked
  simp only [List.getD_cons_zero, List.getD_cons_succ, ocM_ok hD, ocNums_bad hx]
  rfl
theorem asked_n2 {D i : Int} {x c : V} {r : List V} (hD : Meas D) (hx : isIntV x = false) : ocAsked CM CR CN H 7 (.int D :: .int i :: x :: c :: r) = .err CN x := by
  unfold ocAsked
  simp only [List.getD_cons_zero, List.getD_cons_succ, ocM_ok hD, ocNums_good, ocNums_bad hx]
  rfl
theorem asked_n3 {D i j : Int} {x : V} {r : List V} (hD : Meas D) (hx : isIntV x = false) : ocAsked CM CR CN H 7 (.int D :: .int i :: .int j :: x :: r) = .err CN x := by
  unfold ocAsked
  simp only [List.getD_cons_zero, List.getD_cons_succ, ocM_ok hD, ocNums_good, ocNums_bad hx]
  rfl
theorem Kit3.ne {S : Addr} (KT : Kit3 K CM CR CN S) : CR ≠ CM ∧ CN ≠ CM ∧ CN ≠ CR := by
  refine ⟨fun h => ?_, fun h => ?_, fun h => ?_⟩
  · have h1 := KT.kit 1 0 _ _ rfl rfl
    have h2 := KT.kit 0 0 _ _ rfl rfl
    rw [h, h2] at h1
    exact absurd h1 (by decide)
  · have h1 := KT.kit 2 0 _ _ rfl rfl
    have h2 := KT.kit 0 0 _ _ rfl rfl
    rw [h, h2] at h1
    exact absurd h1 (by decide)
  · have h1 := KT.kit 2 1 _ _ rfl rfl
    have h2 := KT.kit 1 1 _ _ rfl rfl
    rw [h, h2] at h1
    exact absurd h1 (by decide)
theorem told_m {x : V} : toldL CM CR (.err CM x) = [.str "measure", x] := by simp [toldL]
theorem told_r {x : V} (h : CR ≠ CM) : toldL CM CR (.err CR x) = [.str "root", x] := by simp [toldL, h]
theorem told_n {x : V} (h : CN ≠ CM) (h2 : CN ≠ CR) : toldL CM CR (.err CN x) = [.str "number", x] := by simp [toldL, h, h2]
/-- what _law_all_refused wants, from the outcome -/
theorem refused_mk {g : List V} {odd : V} {d : PyData} {ks : List Nat} {C : Addr} {due : Str} (hg : ∀ x ∈ g, GOk H x) (hO : OddV K H odd d) (oc : ∀ H' b, Same H H' → ∀ k ∈ ks, ocAsked CM CR CN H' k (g ++ [odd] ++ [b, b, b]) = .err C odd) (ht : toldL CM CR (.err C odd) = [.str due, odd]) :
    ∀ H' b, Same H H' → BehOk H' b → ∀ k ∈ ks, Hand H' k (g ++ [odd] ++ [b, b, b]) ∧ toldL CM CR (ocAsked CM CR CN H' k (g ++ [odd] ++ [b, b, b])) = [.str due, odd] := fun H' b s hb k hk => by
  refine ⟨hand4 (by simp only [List.length_append, List.length_cons, List.length_nil]; omega) (fun x hx => ?_), by rw [oc H' b s k hk, ht]⟩
  simp only [List.mem_append, List.mem_cons, List.not_mem_nil, or_false, or_self] at hx
  rcases hx with (hx | rfl) | rfl
  · exact (hg x hx).same s
  · exact (hO.same s).beh.g
  · exact hb.g
end
theorem due_m : DueT "measure" := ⟨by decide +kernel, by decide +kernel, by decide +kernel⟩
theorem due_r : DueT "root" := ⟨by decide +kernel, by decide +kernel, by decide +kernel⟩
theorem due_n : DueT "number" := ⟨by decide +kernel, by decide +kernel, by decide +kernel⟩
/-- an odd value that is no measure -/
def BadMeas (K : PySem.W.Frag) (H : Hp) (x : V) : Prop := ∃ d, OddV K H x d ∧ measB x = false
theorem BadMeas.same {K : PySem.W.Frag} {H H' : Hp} {x : V} (h : BadMeas K H x) (s : Same H H') : BadMeas K H' x := let ⟨d, h1, h2⟩ := h; ⟨d, h1.same s, h2⟩
/-- an odd value that is no number -/
def BadNum (K : PySem.W.Frag) (H : Hp) (x : V) : Prop := ∃ d, OddV K H x d ∧ isIntV x = false
theorem BadNum.same {K : PySem.W.Frag} {H H' : Hp} {x : V} (h : BadNum K H x) (s : Same H H') : BadNum K H' x := let ⟨d, h1, h2⟩ := h; ⟨d, h1.same s, h2⟩
theorem BadRoot.odd {K : PySem.W.Frag} {D : Int} {H : Hp} {x : V} (h : BadRoot K D H x) (hn : isIntV x = false) : BadNum K H x := let ⟨d, h1, _⟩ := h; ⟨d, h1, hn⟩
theorem BadRoot.meas {K : PySem.W.Frag} {D : Int} {H : Hp} {x : V} (h : BadRoot K D H x) (hn : measB x = false) : BadMeas K H x := let ⟨d, h1, _⟩ := h; ⟨d, h1, hn⟩
/-- two pairs beside each other -/
theorem ne_pair {K : PySem.W.Frag} {H : Hp} {a b : Addr} {x y u v : Int} {Q : VK} (h1 : H a = some (.tup [.int x, .int y])) (h2 : H b = some (.tup [.int u, .int v])) (q : Q (.bl (!(decide (x = u) && decide (y = v)))) H) : rNeD K (.ref a) (.ref b) H Q := by
  refine ⟨.tuple [.int x, .int y], .tuple [.int u, .int v], .tup (SqT.of h1) (.cons (.int _) (.cons (.int _) .nil)), .tup (SqT.of h2) (.cons (.int _) (.cons (.int _) .nil)), rfl, rfl, ?_⟩
  have e : PyData.eqv (.tuple [.int x, .int y]) (.tuple [.int u, .int v]) = (decide (x = u) && decide (y = v)) := by
    have hb : ∀ i j : Int, (i == j) = decide (i = j) := fun i j => by
      by_cases h : i = j
      · rw [decide_eq_true h, h]; simp
      · rw [decide_eq_false h]; simpa using h
    simp only [PyData.eqv, PyData.eqvAll, hb, Bool.and_true]
  rw [e]
  exact q
/-- the same data on both sides -/
theorem ne_data {K : PySem.W.Frag} {H : Hp} {a b : Addr} {d : PyData} {Q : VK} (h1 : Dp K H (.ref a) d) (h2 : Dp K H (.ref b) d) (hs : SeqAt.shaped d = true) (q : Q (.bl false) H) : rNeD K (.ref a) (.ref b) H Q := ⟨d, d, h1, h2, hs, hs, by rw [eqv_same hs]; exact q⟩
theorem eq_data {K : PySem.W.Frag} {H : Hp} {a b : Addr} {d : PyData} {Q : VK} (h1 : Dp K H (.ref a) d) (h2 : Dp K H (.ref b) d) (hs : SeqAt.shaped d = true) (q : Q (.bl true) H) : rEqD K (.ref a) (.ref b) H Q := ⟨d, d, h1, h2, hs, hs, by rw [eqv_same hs]; exact q⟩
end Kx
namespace Kx
open PySem PySem.Spec PyProof.Rows L2
theorem rg0 (n : Nat) : rgV 0 (n : Int) = (List.range n).map fun k : Nat => V.int (k : Int) := by
  unfold rgV
  rw [show ((n : Int) - 0).toNat = n by omega]
  refine List.map_congr_left fun k _ => ?_
  rw [Int.zero_add]
def InvL5 (a g : Addr) (D : Int) (po pt : Addr) (h : Hp) : Nat → SV → Hp → Prop := fun _ σ H2 => ∃ t5 t6 : Option V, σ = [some (.ref a), some (.ref g), some (.int D), some (.ref po), some (.ref pt), t5, t6, none, none, none, none, none, none] ∧ Same h H2
def InvL5i (a g : Addr) (D : Int) (po pt : Addr) (odd : V) (h : Hp) : Nat → SV → Hp → Prop := fun _ σ H2 => ∃ t6 : Option V, σ = [some (.ref a), some (.ref g), some (.int D), some (.ref po), some (.ref pt), some odd, t6, none, none, none, none, none, none] ∧ Same h H2
theorem mem_range_lt {n k : Nat} (h : k ∈ List.range n) : k < n := List.mem_range.mp h
theorem gOk_nil {H : Hp} : ∀ x ∈ ([] : List V), GOk H x := fun x hx => absurd hx List.not_mem_nil
theorem gOk_cons {H : Hp} {y : V} {l : List V} (h : GOk H y) (r : ∀ x ∈ l, GOk H x) : ∀ x ∈ y :: l, GOk H x := fun x hx => by
  rcases List.mem_cons.mp hx with rfl | hx
  · exact h
  · exact r x hx
end Kx
namespace Kx
open PySem PySem.Spec PyProof.Rows L2
section
variable {K : PySem.W.Frag} {CM CR CN : Addr} {H : Hp}
theorem asked_z {D : Int} (hD : Meas D) : ocAsked CM CR CN H 7 [.int D, .int 1, .int 1, .int 0] = .err CN (.int 0) := by
  unfold ocAsked
  simp only [List.getD_cons_zero, List.getD_cons_succ, ocM_ok hD, ocNums_good]
  rfl
theorem asked_nz {D : Int} (hD : Meas D) : ocAsked CM CR CN H 7 [.int D, .int 0, .int 0, .int (-1)] = .ok := by
  unfold ocAsked
  simp only [List.getD_cons_zero, List.getD_cons_succ, ocM_ok hD, ocNums_good]
  rfl
theorem asked_6 {D : Int} {x : V} (hD : Meas D) : ocAsked CM CR CN H 6 [.int D, x] = .ok := by
  unfold ocAsked
  simp only [List.getD_cons_zero, List.getD_cons_succ, ocM_ok hD]
  rfl
theorem asked_over0 {D : Int} {y x : V} (hD : Meas D) (hy : rootB D H y = true) (hx : rootB D H x = true) (hz : zeroB H x = true) : ocAsked CM CR CN H 3 [.int D, y, x] = .err CR x := by
  unfold ocAsked
  simp only [List.getD_cons_zero, List.getD_cons_succ, ocM_ok hD, ocRoots_good hy, ocRoots_good hx]
  simp [ocRoots, hz]
theorem asked_ok2 {D : Int} {y x : V} (hD : Meas D) (hy : rootB D H y = true) (hx : rootB D H x = true) (hz : zeroB H x = false) {k : Nat} (hk : k < 4) : ocAsked CM CR CN H k [.int D, y, x] = .ok := by
  unfold ocAsked
  simp only [List.getD_cons_zero, List.getD_cons_succ, ocM_ok hD, ocRoots_good hy, ocRoots_good hx]
  simp only [ocRoots, hz]
  repeat' split
  all_goals first | rfl | (exfalso; omega) | (exfalso; simp at *)
theorem asked_ok1 {D : Int} {y : V} (hD : Meas D) (hy : rootB D H y = true) {k : Nat} (hk : 4 ≤ k) (hk2 : k < 7) : ocAsked CM CR CN H k [.int D, y] = .ok := by
  unfold ocAsked
  simp only [List.getD_cons_zero, List.getD_cons_succ, ocM_ok hD, ocRoots_good hy]
  repeat' split
  all_goals first | rfl | (exfalso; omega)
theorem dpAll_rep {x : V} {d : PyData} (h : Dp K H x d) : ∀ n : Nat, DpAll K H (List.replicate n x) (List.replicate n d)
  | 0 => .nil
  | n + 1 => .cons h (dpAll_rep h n)
theorem dpAll_refs {d : PyData} : ∀ {ls : List Addr}, (∀ l ∈ ls, Dp K H (.ref l) d) → DpAll K H (ls.map V.ref) (List.replicate ls.length d)
  | [], _ => .nil
  | l :: ls, h => .cons (h l (List.mem_cons_self ..)) (dpAll_refs fun m hm => h m (List.mem_cons_of_mem _ hm))
end
theorem good_001 {D : Int} : Good D (0, 0, 1) := ⟨by decide, by decide, .inl rfl⟩
theorem good_101 {D : Int} : Good D (1, 0, 1) := ⟨by decide, by decide, .inl rfl⟩
theorem flat_rep {x : V} (n : Nat) : (List.replicate n [x]).flatten = List.replicate n x := by
  induction n with
  | zero => rfl
  | succ n ih => rw [List.replicate_succ, List.flatten_cons, ih]; rfl
/-- a list that grows, of addresses of equal lists -/
def InvRefs (h : Hp) (Dd : Addr) (ys : List V) : Nat → Hp → Prop := fun i H2 => Same h H2 ∧ ∃ ls : List Addr, H2 Dd = some (.lst (ls.map V.ref)) ∧ ls.length = i ∧ ∀ l ∈ ls, H2 l = some (.lst ys)
theorem refs_ne {ys : List V} {z : Str} {r : List V} (e : ys = .str z :: r) (ls : List Addr) : HO.lst ys ≠ HO.lst (ls.map V.ref) := fun h => by
  subst e
  have h2 := HO.lst.inj h
  cases ls with
  | nil => cases h2
  | cons l ls => cases h2
theorem InvRefs.push {h H2 H3 : Hp} {Dd L : Addr} {ys : List V} {z : Str} {r : List V} {i : Nat} (e : ys = .str z :: r) (hi : InvRefs h Dd ys i H2) (hD : h Dd = none) (s : Same H2 H3) (eL : H3 L = some (.lst ys)) (hle : i ≤ 900) : ∃ acc, H3 Dd = some (.lst acc) ∧ acc.length < sizeLine ∧ InvRefs h Dd ys (i + 1) (L2.upd H3 Dd (.lst (acc ++ [.ref L]))) := by
  obtain ⟨s2, ls, eD, el, hls⟩ := hi
  have eD3 := s _ _ eD
  refine ⟨_, eD3, small1000 (by rw [List.length_map]; omega), Same.upd2 (s2.trans s) hD, ls ++ [L], by rw [upd_same, List.map_append]; rfl, by rw [List.length_append, el]; rfl, fun l hl => ?_⟩
  rcases List.mem_append.mp hl with hl | hl
  · exact upd_lst eD3 (s _ _ (hls l hl)) (refs_ne e ls)
  · rw [List.mem_singleton] at hl
    subst hl
    exact upd_lst eD3 eL (refs_ne e ls)
end Kx
namespace Kx
open PySem PySem.Spec PyProof.Rows L2
/-- a list that grows by one and the same value -/
def InvRep (h : Hp) (Dd : Addr) (x : V) : Nat → Hp → Prop := fun i H2 => Same h H2 ∧ H2 Dd = some (.lst (List.replicate i x))
end Kx
namespace Kx
open PySem PySem.Spec PyProof.Rows L2
/-- what the written part says of some classes of errors under one -/
structure KitE (K : PySem.W.Frag) (Cs : List Addr) (S : Addr) : Prop where
  ex : ∀ C ∈ Cs, PySem.W.exmOne K (.ref C) (.ref S) = some true
  kit : ∀ (i j : Nat) (C D : Addr), Cs[i]? = some C → Cs[j]? = some D → PySem.W.kitOne K (.ref C) (.ref D) = some (decide (j = i))
  kv : ∀ C ∈ Cs, PySem.W.kitOne K (.ref C) (.type "ValueError") = some true
  ec : ∀ C ∈ Cs, L2.ExcC K C
  xf : ∀ C ∈ Cs, XfC K C
  nv : ∀ C ∈ Cs, PySem.W.findIn K (.ref C) "value" = some none
end Kx
namespace Kx
open PySem PySem.Spec PyProof.Rows L2
/-- [f, g, ..][i](e, ..), the frame named (within a try) -/
theorem pe_ixcallK {X : Cx} {W : WX} {j : Nat} {p pos : Pos} {a b e : Expr} {es : List Expr} {t : TA} {tf : TE} {P : Program} {w : World} {K : PySem.W.Frag} {mg : Str → Option Value} {base : Heap} (hP : X.prog = P) (hw : X.w = w) (hK : X.K = K) (hmg : X.mg = mg) (hb : X.base = base) (hf : PE X (.Subscript a b p) tf) (tk : Takes X W) (hr : Room j X.A) (ha : PA X (e :: es) t) (he : starEach (e :: es) X.env = (false, eval e X.env) :: starEach es X.env := by rfl) (hpl : (backTo pos (starEach es X.env)).any (·.1) = false := by rfl) :
    PE X (.Call (.Subscript a b p) (e :: es) [] pos) (tIxCall P w K mg base j (WE W) tf t) := by
  subst hP hw hK hmg hb
  exact pe_ixcall hf tk hr ha he hpl
end Kx
namespace Kx
open PySem PySem.Spec PyProof.Rows L2
theorem refsB_ne {ys : List V} {b : Bool} {r : List V} (e : ys = .bl b :: r) (ls : List Addr) : HO.lst ys ≠ HO.lst (ls.map V.ref) := fun h => by
  subst e
  have h2 := HO.lst.inj h
  cases ls with
  | nil => cases h2
  | cons l ls => cases h2
theorem InvRefs.pushB {h H2 H3 : Hp} {Dd L : Addr} {b : Bool} {r : List V} {i : Nat} (hi : InvRefs h Dd (.bl b :: r) i H2) (hD : h Dd = none) (s : Same H2 H3) (eL : H3 L = some (.lst (.bl b :: r))) (hle : i ≤ 900) : ∃ acc, H3 Dd = some (.lst acc) ∧ acc.length < sizeLine ∧ InvRefs h Dd (.bl b :: r) (i + 1) (L2.upd H3 Dd (.lst (acc ++ [.ref L]))) := by
  obtain ⟨s2, ls, eD, el, hls⟩ := hi
  have eD3 := s _ _ eD
  refine ⟨_, eD3, small1000 (by rw [List.length_map]; omega), Same.upd2 (s2.trans s) hD, ls ++ [L], by rw [upd_same, List.map_append]; rfl, by rw [List.length_append, el]; rfl, fun l hl => ?_⟩
  rcases List.mem_append.mp hl with hl | hl
  · exact upd_lst eD3 (s _ _ (hls l hl)) (refsB_ne rfl ls)
  · rw [List.mem_singleton] at hl
    subst hl
    exact upd_lst eD3 eL (refsB_ne rfl ls)
end Kx

set_option Elab.async false
set_option linter.all false
set_option maxRecDepth 100000
set_option maxHeartbeats 4000000
set_option exponentiation.threshold 4000
/-! Paths and their crossings. -/
namespace Kx
open PySem PySem.Spec PyProof.Rows L2
theorem small1K {n : Nat} (h : n ≤ 1000) : n < sizeLine := Nat.lt_of_le_of_lt h (by decide)
/-- a comprehension over two lists of one length -/
theorem lcW_zip {K : PySem.W.Frag} {a b Dd : Addr} {xs ys : List V} {g : TG} {tt : TT} {te : TE} {vs : List Nat} {σ : SV} {H : Hp} {Q : VK} (hl : xs.length = ys.length) (Pv : Nat → Hp → Prop) (h0 : Pv 0 (L2.upd H Dd (.lst [])))
    (hq : ∀ i H, Pv i H → SqL K H a xs ∧ SqL K H b ys)
    (hs : ∀ (i : Nat) (x y : V) (T : Addr) (H : Hp), xs[i]? = some x → ys[i]? = some y → Pv i H → H T = none → g (.ref T) (wipe σ vs) (L2.upd H T (.tup [x, y])) fun σ2 H2 => wipe σ2 vs = wipe σ vs ∧ tt σ2 H2 fun c H3 =>
      if c = true then te σ2 H3 fun v H4 => ∃ acc, H4 Dd = some (.lst acc) ∧ acc.length < sizeLine ∧ Pv (i + 1) (L2.upd H4 Dd (.lst (acc ++ [v]))) else Pv (i + 1) H3)
    (hd : ∀ H, Pv xs.length H → Q (.ref Dd) H) : LcW (Itz K a b) g tt te vs Dd σ H Q := by
  refine ⟨fun i m H => i + m = xs.length ∧ Pv i H, ⟨xs.length, by omega, h0⟩, fun i m H => ?_⟩
  rintro ⟨hm, p⟩
  obtain ⟨qa, qb⟩ := hq i H p
  rcases Nat.lt_or_ge i xs.length with hi | hi
  · have hx : xs[i]? = some xs[i] := List.getElem?_eq_getElem hi
    have hy : ys[i]? = some (ys[i]'(by omega)) := List.getElem?_eq_getElem (by omega)
    refine .inr ⟨⟨xs, ys, _, _, qa, qb, hx, hy⟩, Pv (i + 1), fun H' p' => ⟨xs.length - (i + 1), by omega, by omega, p'⟩, fun v H' w => ?_⟩
    obtain ⟨T, x, y, e1, hT, e2, f1, f2⟩ := w
    subst e1
    subst e2
    exact hs i x y T H (f1 xs qa) (f2 ys qb) p hT
  · obtain rfl : i = xs.length := by omega
    exact .inl ⟨⟨xs, ys, qa, qb, .inl (Nat.le_refl _)⟩, hd H p⟩
def crossZ (p r : Q4) : Int := p.1 * r.2.1 - p.2.1 * r.1 + p.2.2.1 * r.2.2.2 - p.2.2.2 * r.2.2.1
def rootZ (q t : Q4) : Q4 := (q.2.2.2 * t.1 + q.2.1 * t.2.2.1 + q.1 * t.2.2.2, q.2.2.2 * t.2.1 + q.2.2.1 * t.2.2.2, q.2.2.1 * t.1 - q.1 * t.2.1, q.2.1 * t.2.1)
def sumZ (p r : Q4) (n : Int) : Q4 := (p.1 + n * r.1, p.2.1 + n * r.2.1, p.2.2.1 + n * r.2.2.1, p.2.2.2 + n * r.2.2.2)
theorem ok_low {n : Int} (h : 1 ≤ n) : okQ (0, 1 + n, 1, 0 - 1) = true := by
  unfold okQ CutOk
  have hg1 : gcdI (1 + n) 1 = 1 := by unfold gcdI; simp
  simp only [Bool.and_eq_true, decide_eq_true_eq, hg1]
  exact ⟨by omega, by decide, by omega, by decide, by decide, by decide⟩
theorem cross_swap (p r : Q4) : crossZ p r = 0 - crossZ r p := by unfold crossZ; grind
theorem cross_self (p : Q4) : crossZ p p = 0 := by unfold crossZ; grind
theorem cross_sum (p r s : Q4) (n : Int) : crossZ (sumZ p r n) s = crossZ p s + n * crossZ r s := by unfold crossZ sumZ; grind
theorem root_sum (q p r : Q4) (n : Int) : rootZ q (sumZ p r n) = sumZ (rootZ q p) (rootZ q r) n := by
  unfold rootZ sumZ
  simp only [Prod.mk.injEq]
  refine ⟨?_, ?_, ?_, ?_⟩ <;> grind
def twiceZ (q l t : Q4) : Q4 := (q.2.2.2 * l.1 + q.2.1 * q.2.2.1 * t.1, q.2.2.2 * l.2.1 + q.2.1 * q.2.2.1 * t.2.1, q.2.2.2 * l.2.2.1 + q.2.1 * q.2.2.1 * t.2.2.1, q.2.2.2 * l.2.2.2 + q.2.1 * q.2.2.1 * t.2.2.2)
theorem root_twice (q t : Q4) : rootZ q (rootZ q t) = twiceZ q (rootZ q t) t := by
  unfold rootZ twiceZ
  simp only [Prod.mk.injEq]
  refine ⟨?_, ?_, ?_, ?_⟩ <;> grind
theorem root_cross (q t u : Q4) : crossZ (rootZ q t) u = crossZ t (rootZ q u) := by unfold crossZ rootZ; grind
theorem sz_mul {x y : Int} {n m k : Nat} (hx : x.natAbs < 2 ^ n) (hy : y.natAbs < 2 ^ m) (l : n + m ≤ k) : (x * y).natAbs < 2 ^ k := up (wide_lt hx hy) l
theorem cross_sz {p r : Q4} {n m : Nat} (z : Sz4 n p) (y : Sz4 m r) : (crossZ p r).natAbs < 2 ^ (n + m + 3) := by
  obtain ⟨z1, z2, z3, z4⟩ := z
  obtain ⟨y1, y2, y3, y4⟩ := y
  unfold crossZ
  exact sz_sub (sz_add (sz_sub (wide_lt z1 y2) (wide_lt z2 y1)) (up (wide_lt z3 y4) (by omega))) (up (wide_lt z4 y3) (by omega))
theorem root_sz {q t : Q4} {n m : Nat} (z : Sz4 n q) (y : Sz4 m t) : Sz4 (n + m + 2) (rootZ q t) := by
  obtain ⟨z1, z2, z3, z4⟩ := z
  obtain ⟨y1, y2, y3, y4⟩ := y
  unfold rootZ
  exact ⟨sz_add (sz_add (wide_lt z4 y1) (wide_lt z2 y3)) (up (wide_lt z1 y4) (by omega)), up (sz_add (wide_lt z4 y2) (wide_lt z3 y4)) (by omega), up (sz_sub (wide_lt z3 y1) (wide_lt z1 y2)) (by omega), up (wide_lt z2 y2) (by omega)⟩
theorem sum_sz {p r : Q4} {x : Int} {n m k : Nat} (z : Sz4 n p) (y : Sz4 m r) (hx : x.natAbs < 2 ^ k) (l : n ≤ m + k) : Sz4 (m + k + 1) (sumZ p r x) := by
  obtain ⟨z1, z2, z3, z4⟩ := z
  obtain ⟨y1, y2, y3, y4⟩ := y
  unfold sumZ
  rw [Nat.add_comm m k] at l ⊢
  exact ⟨sz_add (up z1 l) (wide_lt hx y1), sz_add (up z2 l) (wide_lt hx y2), sz_add (up z3 l) (wide_lt hx y3), sz_add (up z4 l) (wide_lt hx y4)⟩
/-! what stands in memory -/
def pathD (t : Q4) : PyData := .list [.int t.1, .int t.2.1, .int t.2.2.1, .int t.2.2.2]
def quadT (q : Q4) : PyData := .tuple [.int q.1, .int q.2.1, .int q.2.2.1, .int q.2.2.2]
section
variable {K : PySem.W.Frag} {H : Hp} {a b c L : Addr} {t u q : Q4} {Q : VK}
theorem dp_path (h : H a = some (.lst (cutV4 t))) : Dp K H (.ref a) (pathD t) := .lst (SqL.of h) (.cons (.int _) (.cons (.int _) (.cons (.int _) (.cons (.int _) .nil))))
theorem dp_quadT (h : H a = some (.tup (cutV4 q))) : Dp K H (.ref a) (quadT q) := .tup (SqT.of h) (.cons (.int _) (.cons (.int _) (.cons (.int _) (.cons (.int _) .nil))))
theorem shaped_path (t : Q4) : SeqAt.shaped (pathD t) = true := rfl
theorem ne_path (h1 : H a = some (.lst (cutV4 t))) (h2 : H b = some (.lst (cutV4 u))) (e : t = u) (q : Q (.bl false) H) : rNeD K (.ref a) (.ref b) H Q := by
  subst e
  exact ⟨_, _, dp_path h1, dp_path h2, rfl, rfl, by rw [eqv_same rfl]; exact q⟩
theorem eq_path (h1 : H a = some (.lst (cutV4 t))) (h2 : H b = some (.lst (cutV4 u))) (e : t = u) (q : Q (.bl true) H) : rEqD K (.ref a) (.ref b) H Q := by
  subst e
  exact ⟨_, _, dp_path h1, dp_path h2, rfl, rfl, by rw [eqv_same rfl]; exact q⟩
theorem path_show {n : Nat} (z : Sz4 n t) (l : n ≤ 1900) : (pathD t).showable = true := by
  simp only [pathD, PyData.showable, PyData.showableAll, log_sz z.1 l, log_sz z.2.1 l, log_sz z.2.2.1 l, log_sz z.2.2.2 l, decide_true, Bool.and_self]
theorem quad_show {n : Nat} (z : Sz4 n t) (l : n ≤ 1900) : (quadT t).showable = true := by
  simp only [quadT, PyData.showable, PyData.showableAll, log_sz z.1 l, log_sz z.2.1 l, log_sz z.2.2.1 l, log_sz z.2.2.2 l, decide_true, Bool.and_self]
theorem rp_path {n : Nat} (h : H a = some (.lst (cutV4 t))) (z : Sz4 n t) (l : n ≤ 1900) : Rp K H (.ref a) (pathD t) :=
  ⟨dp_path h, path_show z l, rfl, Nat.le_of_ble_eq_true rfl, Nat.le_of_ble_eq_true rfl⟩
theorem rp_ppc {n m l : Nat} (hL : H L = some (.lst [.ref a, .ref b, .ref c])) (h1 : H a = some (.lst (cutV4 t))) (h2 : H b = some (.lst (cutV4 u))) (h3 : H c = some (.tup (cutV4 q))) (z1 : Sz4 n t) (z2 : Sz4 m u) (z3 : Sz4 l q) (l1 : n ≤ 1900) (l2 : m ≤ 1900) (l3 : l ≤ 1900) :
    Rp K H (.ref L) (.list [pathD t, pathD u, quadT q]) where
  dp := .lst (SqL.of hL) (.cons (dp_path h1) (.cons (dp_path h2) (.cons (dp_quadT h3) .nil)))
  sh := by
    show (PyData.showableAll [pathD t, pathD u, quadT q]) = true
    simp only [PyData.showableAll, path_show z1 l1, path_show z2 l2, quad_show z3 l3, Bool.and_self]
  nd := rfl
  de := Nat.le_of_ble_eq_true rfl
  co := Nat.le_of_ble_eq_true rfl
theorem rp_wide {i : Int} {n : Nat} (h : i.natAbs < 2 ^ n) (l : n ≤ 1900) : Rp K H (.int i) (.int i) := ⟨.int i, by simp only [PyData.showable, log_sz h l, decide_true], rfl, Nat.le_of_ble_eq_true rfl, Nat.le_of_ble_eq_true rfl⟩
end
/-! promises -/
def spIsPath0 : Sp := fun vs H Q _ => ∃ (p : Addr) (t : Q4), vs = [.ref p] ∧ H p = some (.lst (cutV4 t)) ∧ ∀ H', Same H H' → Q (.bl true) H'
def spCheckPath0 : Sp := fun vs H Q _ => ∃ (p : Addr) (t : Q4), vs = [.ref p] ∧ H p = some (.lst (cutV4 t)) ∧ ∀ H', Same H H' → Q .non H'
def spCross : Sp := fun vs H Q _ => ∃ (p r : Addr) (t u : Q4), vs = [.ref p, .ref r] ∧ H p = some (.lst (cutV4 t)) ∧ H r = some (.lst (cutV4 u)) ∧ Sz4 900 t ∧ Sz4 900 u ∧ ∀ H', Same H H' → Q (.int (crossZ t u)) H'
def spRootPath : Sp := fun vs H Q _ => ∃ (p r : Addr) (q t : Q4), vs = [.ref p, .ref r] ∧ CutAt H p q ∧ H r = some (.lst (cutV4 t)) ∧ Sz4 900 q ∧ Sz4 900 t ∧ ∀ s H', H s = none → Same H H' → H' s = some (.lst (cutV4 (rootZ q t))) → Q (.ref s) H'
def spLawCross : Sp := fun vs H Q _ => ∃ (p r : Addr) (t u : Q4), vs = [.ref p, .ref r] ∧ H p = some (.lst (cutV4 t)) ∧ H r = some (.lst (cutV4 u)) ∧ Sz4 900 t ∧ Sz4 900 u ∧ Q (.int (crossZ t u)) H
def spLawRooted : Sp := fun vs H Q _ => ∃ (p r : Addr) (q t : Q4), vs = [.ref p, .ref r] ∧ H p = some (.tup (cutV4 q)) ∧ H r = some (.lst (cutV4 t)) ∧ Sz4 900 q ∧ Sz4 900 t ∧ ∀ s H', H s = none → Same H H' → H' s = some (.lst (cutV4 (rootZ q t))) → Q (.ref s) H'
def spLawPath : Sp := fun vs H Q _ => ∃ (g : Addr) (k : Nat), vs = [.ref g] ∧ GenAt H g k ∧ k ≤ 2 ^ 39 ∧ ∀ (t : Q4) (p : Addr) (H' : Hp), Sz4 80 t → H p = none → H' p = some (.lst (cutV4 t)) → GenAt H' g (k + 200) → Keep g H H' → Q (.ref p) H'
def spLawSum : Sp := fun vs H Q _ => ∃ (p r : Addr) (t u : Q4) (n : Int), vs = [.ref p, .ref r, .int n] ∧ H p = some (.lst (cutV4 t)) ∧ H r = some (.lst (cutV4 u)) ∧ Sz4 900 u ∧ n.natAbs < 2 ^ 100 ∧ ∀ s H', H s = none → Same H H' → H' s = some (.lst (cutV4 (sumZ t u n))) → Q (.ref s) H'
def spLawCut40 : Sp := fun vs H Q _ => ∃ (g : Addr) (n : Int) (k : Nat), vs = [.ref g, .int n] ∧ GenAt H g k ∧ k ≤ 2 ^ 39 ∧ 1 ≤ n ∧ n ≤ 10 ^ 15 ∧
  ∀ (q : Q4) (p : Addr) (H' : Hp), okQ q = true → Sz4 70 q → H p = none → H' p = some (.tup (cutV4 q)) → GenAt H' g (k + 7000) → Keep g H H' → Q (.ref p) H'
/-! loops -/
def InvWh (H : Hp) (D : Addr) (n : Nat) : Nat → Hp → Prop := fun i H2 => Same H H2 ∧ H2 D = some (.lst ((List.replicate n (V.bl true)).take i))
def InvDr (g Dd : Addr) (k b : Nat) (H : Hp) : Nat → Hp → Prop := fun j H2 => ∃ ns : List Int, H2 Dd = some (.lst (ns.map V.int)) ∧ ns.length = j ∧ (∀ n ∈ ns, n.natAbs < 2 ^ b) ∧ GenAt H2 g (k + 20 * j) ∧ Keep g H H2 ∧ Dd ≠ g
def InvTk (H : Hp) (D : Addr) (ys : List V) : Nat → Hp → Prop := fun i H2 => Same H H2 ∧ H2 D = some (.lst (ys.take i))
theorem InvTk.push {H H2 H3 : Hp} {D : Addr} {ys : List V} {y : V} {i : Nat} (z : InvTk H D ys i H2) (hD : H D = none) (s : Same H2 H3) (hy : ys[i]? = some y) (hl : ys.length ≤ 1000) : ∃ acc, H3 D = some (.lst acc) ∧ acc.length < sizeLine ∧ InvTk H D ys (i + 1) (L2.upd H3 D (.lst (acc ++ [y]))) := by
  refine ⟨_, s _ _ z.2, small1K (by rw [List.length_take]; omega), Same.upd2 (z.1.trans s) hD, ?_⟩
  rw [upd_same, List.take_succ, hy]
  rfl
end Kx
namespace Kx
open PySem PySem.Spec PyProof.Rows L2
def InvPs (g Dd : Addr) (k : Nat) (H : Hp) : Nat → Hp → Prop := fun j H2 => ∃ ps : List Addr, H2 Dd = some (.lst (ps.map V.ref)) ∧ ps.length = j ∧ (∀ p ∈ ps, p ≠ Dd ∧ p ≠ g ∧ ∃ t, H2 p = some (.lst (cutV4 t)) ∧ Sz4 80 t) ∧ GenAt H2 g (k + 200 * j) ∧ Keep g H H2 ∧ Dd ≠ g
theorem InvPs.push {g Dd p : Addr} {k j : Nat} {H H2 H3 : Hp} {t : Q4} (z : InvPs g Dd k H j H2) (hD : H Dd = none) (hj : j ≤ 100) (np : H2 p = none) (hp : H3 p = some (.lst (cutV4 t))) (zt : Sz4 80 t) (G : GenAt H3 g (k + 200 * j + 200)) (K : Keep g H2 H3) :
    ∃ acc, H3 Dd = some (.lst acc) ∧ acc.length < sizeLine ∧ InvPs g Dd k H (j + 1) (L2.upd H3 Dd (.lst (acc ++ [.ref p]))) := by
  obtain ⟨ps, eD, hl, hall, G2, K2, hDg⟩ := z
  have eD3 := K _ _ hDg eD
  refine ⟨_, eD3, small1K (by rw [List.length_map]; omega), ps ++ [p], by rw [upd_same, List.map_append]; rfl, by rw [List.length_append, hl]; rfl, fun q hq => ?_, (G.upd hDg).mono (by omega), (K2.trans K).upd hD, hDg⟩
  rcases List.mem_append.mp hq with hq | hq
  · obtain ⟨h1, h2, u, eu, zu⟩ := hall q hq
    exact ⟨h1, h2, u, by rw [upd_ne h1]; exact K _ _ h2 eu, zu⟩
  · rw [List.mem_singleton.mp hq]
    have h1 : p ≠ Dd := fun e => by rw [e, eD] at np; cases np
    exact ⟨h1, G2.nn np, t, by rw [upd_ne h1]; exact hp, zt⟩
def InvLC (g : Addr) (n : Int) (k : Nat) (H : Hp) : Nat → SV → Hp → Prop := fun i σ H2 => ∃ t2 t3 t4 t5 t6 t7 : Option V, σ = [some (.ref g), some (.int n), t2, t3, t4, t5, t6, t7] ∧ GenAt H2 g (k + 200 * i) ∧ Keep g H H2
def InvLaw40 (a : Addr) (H : Hp) : Nat → SV → Hp → Prop := fun _ σ H2 => ∃ t1 : Option V, σ = [some (.ref a), t1] ∧ Same H H2
end Kx

set_option Elab.async false
set_option linter.all false
set_option maxRecDepth 100000
set_option maxHeartbeats 4000000
set_option exponentiation.threshold 4000
/-! Lists of tuples of ints, sorted. -/
namespace Kx
open PySem PySem.Spec PyProof.Rows L2 PySem.Calls
theorem lexLt_asym : ∀ x y : List Int, HT.lexLt x y = true → HT.lexLt y x = false
  | [], [], h => by cases h
  | [], _ :: _, _ => rfl
  | _ :: _, [], h => by cases h
  | a :: x, b :: y, h => by
    rw [HT.lexLt_cons] at h ⊢
    by_cases e : a = b
    · rw [if_pos e] at h
      rw [if_pos e.symm]
      exact lexLt_asym x y h
    · rw [if_neg e, decide_eq_true_eq] at h
      rw [if_neg (Ne.symm e), decide_eq_false_iff_not]
      omega
theorem lexLt_tr : ∀ x y z : List Int, HT.lexLt y x = false → HT.lexLt z y = false → HT.lexLt z x = false
  | [], _, [], _, _ => rfl
  | [], _, _ :: _, _, _ => rfl
  | _ :: _, [], _, h, _ => by cases h
  | _ :: _, _ :: _, [], _, h => by cases h
  | a :: x, b :: y, c :: z, h1, h2 => by
    rw [HT.lexLt_cons] at h1 h2 ⊢
    by_cases e1 : b = a
    · rw [if_pos e1] at h1
      by_cases e2 : c = b
      · rw [if_pos e2] at h2
        rw [if_pos (e2.trans e1)]
        exact lexLt_tr x y z h1 h2
      · rw [if_neg e2, decide_eq_false_iff_not] at h2
        rw [if_neg (by omega), decide_eq_false_iff_not]
        omega
    · rw [if_neg e1, decide_eq_false_iff_not] at h1
      by_cases e2 : c = b
      · rw [if_neg (by omega), decide_eq_false_iff_not]
        omega
      · rw [if_neg e2, decide_eq_false_iff_not] at h2
        rw [if_neg (by omega), decide_eq_false_iff_not]
        omega
theorem lex_swo {α : Type} (k : α → List Int) : SrtO.Swo fun x y => HT.lexLt (k x) (k y) := ⟨fun x y => lexLt_asym _ _, fun x y z => lexLt_tr _ _ _⟩
theorem lexLt_eq : ∀ x y : List Int, x.length = y.length → HT.lexLt x y = false → HT.lexLt y x = false → x = y
  | [], [], _, _, _ => rfl
  | [], _ :: _, h, _, _ => by simp at h
  | _ :: _, [], h, _, _ => by simp at h
  | a :: x, b :: y, h, h1, h2 => by
    rw [HT.lexLt_cons] at h1 h2
    by_cases e : a = b
    · rw [if_pos e] at h1
      rw [if_pos e.symm] at h2
      rw [e, lexLt_eq x y (by simpa using h) h1 h2]
    · rw [if_neg e, decide_eq_false_iff_not] at h1
      rw [if_neg (Ne.symm e), decide_eq_false_iff_not] at h2
      omega
section
variable {prog : Program} {w : World} {A : Around} {E : Value → Shared → Prop} {s : Shared} {Q : Bool → Shared → Prop}
theorem lex_intsL {b : Bool} {xs ys : List Value} {ns ms : List Int} (i : Nat) (hx : IntsAre xs ns) (hy : IntsAre ys ms) (hl : ns.length = ms.length)
    (h : Q (HT.lexLt ns ms) s) : PySem.W.KatLex prog w A b false Q (xs.zip ys) i s := by
  induction hx generalizing ys ms i with
  | nil =>
    cases hy with
    | nil => exact PySem.W.kat_nil h
    | cons q u hy => simp at hl
  | @cons p t xs ns hx ih =>
    cases hy with
    | nil => simp at hl
    | @cons q u ys ms hy =>
      have hl' : ns.length = ms.length := by simpa using hl
      show PySem.W.KatLex prog w A b false Q ((Value.int p t, Value.int q u) :: xs.zip ys) i s
      refine PySem.W.kat_cons (wpAny_eqBool_int ?_)
      rw [HT.lexLt_cons] at h
      by_cases e : p = q
      · subst e
        rw [beq_self_eq_true]
        rw [if_pos rfl] at h
        refine PySem.W.kat_yes ?_
        first
          | exact ih (i + 1) hy hl' h
          | exact ih _ _ (i + 1) hy hl' h
      · rw [show (p == q) = false from beq_eq_false_iff_ne.mpr e]
        rw [if_neg e] at h
        exact PySem.W.kat_no (TS.oneLt_ints _ h)
/-- what is sorted: tuples of d ints, k says which -/
def TupsK (h : Heap) (d : Nat) (k : Value → List Int) (vs : List Value) : Prop := ∀ v ∈ vs, TS.TupInts h v (k v) ∧ (k v).length = d
theorem firsts_ofK {h : Heap} {d : Nat} {k : Value → List Int} (hd : 1 ≤ d) : ∀ vs : List Value, TupsK h d k vs → ∃ fs, PySem.W.KatTups h vs fs ∧ fs.length = vs.length ∧ ∀ f, f ∈ fs → ∃ n t, f = Value.int n t
  | [], _ => ⟨[], PySem.W.KatTups.nil, rfl, fun f hf => by simp at hf⟩
  | v :: vs, x => by
    obtain ⟨fs, kt, hl, hi⟩ := firsts_ofK hd vs fun u hu => x u (List.mem_cons_of_mem _ hu)
    obtain ⟨⟨a, xs, rfl, ⟨o, ho, hc, n, hdt⟩, i⟩, hn⟩ := x v (List.mem_cons_self ..)
    obtain ⟨y, ys, e⟩ : ∃ y ys, xs.toList = y :: ys := by
      cases q : xs.toList with
      | nil =>
        rw [q] at i
        have l := i.length
        rw [List.length_nil, hn] at l
        omega
      | cons y ys => exact ⟨y, ys, rfl⟩
    obtain ⟨m, t, hy⟩ := i.all y (by rw [e]; exact List.mem_cons_self ..)
    refine ⟨y :: fs, PySem.W.KatTups.cons ho hc hdt ?_ kt, by simp [hl], ?_⟩
    · have z := congrArg (fun l : List Value => l[0]?) e
      simpa using z
    · intro f hf
      rcases List.mem_cons.mp hf with rfl | hf
      · exact ⟨m, t, hy⟩
      · exact hi f hf
theorem tup_cmpK {d : Nat} {vs : List Value} {k : Value → List Int} (hp : TupsK s.heap d k vs) : SrtO.Cmp prog w A s (tuples' true) (fun p => p.1 ∈ vs) (SrtO.lt2 fun v u => HT.lexLt (k v) (k u)) := by
  intro p q hm hm'
  obtain ⟨t1, l1⟩ := hp _ hm
  obtain ⟨t2, l2⟩ := hp _ hm'
  show wpAny (model prog w) A (keyLt' (tuples' true) p.1 q.1) (fun r s' => s' = s ∧ r = HT.lexLt (k p.1) (k q.1)) (fun _ _ => False) s
  generalize k p.1 = ns at t1 l1 ⊢
  generalize k q.1 = ms at t2 l2 ⊢
  obtain ⟨a, xs, e1, ⟨o, ho, hc, n, hdt⟩, i⟩ := t1
  obtain ⟨a', ys, e2, ⟨o', ho', hc', n', hdt'⟩, i'⟩ := t2
  rw [e1, e2]
  refine PySem.W.kat_lt ho hdt ho' hdt' ?_
  have sz : decide (xs.size < ys.size) = false := by
    have l3 := i.length
    have l4 := i'.length
    rw [Array.length_toList] at l3 l4
    exact decide_eq_false (by omega)
  rw [sz]
  exact lex_intsL 0 i i' (by omega) ⟨rfl, rfl⟩
theorem tups_sortableK {a : Addr} {d : Nat} {vs : List Value} {k : Value → List Int} (hd : 1 ≤ d) (h0 : 0 < vs.length) (hp : TupsK s.heap d k vs) (ha : ∀ o, s.heap.get? a = some o → o.cls ≠ .type "tuple") : SrtO.SortableO prog w A s a vs fun v u => HT.lexLt (k v) (k u) := by
  intro h' keep
  have hp' : TupsK h' d k vs := fun v hm => ⟨(hp v hm).1.keeps fun b o e c => keep b o (fun z => by subst z; exact ha o e c) e, (hp v hm).2⟩
  obtain ⟨fs, h1, h2, h3⟩ := firsts_ofK hd vs hp'
  refine ⟨tuples' true, fun Q E hq => ?_, tup_cmpK (s := { s with heap := h' }) hp'⟩
  refine PySem.W.kat_kind (T := .type "int") h1 (by omega) (fun f hm => ?_) (by rfl) ?_
  · obtain ⟨x, t, rfl⟩ := h3 f hm
    exact PySem.W.Looks.now
  · have e : (Value.type "int" != Value.type "tuple") = true := by first | decide +kernel | rfl | decide
    rw [e]
    exact hq
theorem sorted_tupsK {l : Addr} {d : Nat} {vs : List Value} {k : Value → List Int} {Q : Value → Shared → Prop} (hd : 1 ≤ d) (hl : s.heap.IsList l vs.toArray) (hz : vs.length ≤ sizeLine) (hp : TupsK s.heap d k vs)
    (h : ∀ (h' : Heap) (d : Addr) (out : List Value), SrtO.Srtd (fun v u => HT.lexLt (k v) (k u)) out → SrtO.Stb (fun v u => HT.lexLt (k v) (k u)) out vs → (∀ b o, s.heap.get? b = some o → h'.get? b = some o) → s.heap.objs.size ≤ d → (∃ n, h'.get? d = some (seqObj "list" out.toArray n)) → Q (.ref d) { s with heap := h' }) :
    wpAny (model prog w) A (call (.builtin "sorted") [.ref l]) Q E s := by
  refine SrtO.sorted_ord (lex_swo k) hl hz (fun h2 h₁ a ha kk => ?_) fun out hs hb => ?_
  · refine tups_sortableK (s := { s with heap := h₁ }) hd (by omega) (fun v hm => ⟨(hp v hm).1.keeps fun b o e _ => (kk b o e).2, (hp v hm).2⟩) fun o e => ?_
    have e' : some o = some (seqObj "list" vs.toArray 0) := e.symm.trans ha
    cases e'
    intro c
    exact absurd (Value.type.inj c) (by decide)
  · exact h _ _ out hs hb (fun b o e => sortedAll_old e) (Nat.le_succ _) (sortedAll_at s.heap vs out.toArray)
end
end Kx
namespace Kx
open PySem PySem.Spec PyProof.Rows L2 PySem.Calls
abbrev ltK (k : V → List Int) (x y : V) : Bool := HT.lexLt (k x) (k y)
theorem ltK_swo (k : V → List Int) : SrtO.Swo (ltK k) := lex_swo k
/-- sorted(xs), xs a list of tuples of d ints (k says which): a new list, sorted, equal ones in their order -/
def rSortedTK : List V → Hp → VK → Prop := fun vs H Q => ∃ (a : Addr) (xs : List V) (d : Nat) (k : V → List Int), vs = [V.ref a] ∧ H a = some (.lst xs) ∧ 1 ≤ d ∧ (∀ x ∈ xs, ∃ t, x = V.ref t ∧ H t = some (.tup ((k x).map V.int)) ∧ (k x).length = d) ∧
  ∀ ys p, SrtO.Srtd (ltK k) ys → SrtO.Stb (ltK k) ys xs → H p = none → Q (.ref p) (L2.upd H p (.lst ys))
theorem cr_sortedTK {X : Cx} : CallR X (.builtin "sorted") rSortedTK := by
  intro pins s σ H vs us Q I r h
  obtain ⟨a, xs, d, k, rfl, hs, hd, hx, q⟩ := h
  obtain ⟨its, rv, hl, hz⟩ := I.list (SqL.of hs)
  obtain ⟨u, rfl, ru⟩ := vals1 r
  obtain rfl : u = Value.ref a := ru
  obtain ⟨e1, e2⟩ := refs_back rv fun x m => by
    obtain ⟨t, e, _⟩ := hx x m
    exact ⟨t, e⟩
  refine sorted_tupsK (k := fun u => k (backV u)) hd hl.isList (by rw [← rv.length]; exact hz) (fun v hv => ?_) fun h' d out h1 h2 kp hd hn => ?_
  · obtain ⟨t, rfl⟩ := e2 v hv
    have hm : V.ref t ∈ xs := by rw [e1]; exact List.mem_map.mpr ⟨_, hv, rfl⟩
    obtain ⟨t', e, ht, hlen⟩ := hx _ hm
    cases e
    obtain ⟨its2, rv2, hT, _⟩ := I.tuple (SqT.of ht)
    exact ⟨⟨t, its2.toArray, rfl, hT, by have := rv2.ints; simpa [backV] using this⟩, hlen⟩
  · have h3 : ∀ u ∈ out, ∃ a, u = Value.ref a := fun u hu => e2 u (h2.perm.mem_iff.mp hu)
    obtain ⟨n, hn⟩ := hn
    have hb : SrtO.Stb (ltK k) (out.map backV) xs := by
      rw [e1]
      exact SrtO.Stb.map (ltK_swo k) backV h2
    refine ⟨.ref d, L2.upd H d (.lst (out.map backV)), I.laid (t' := s.toks) kp hd ⟨?_, out, n, vals_back h3, hn⟩, rfl, q _ d (SrtO.srtd_map h1) hb (I.hok.fresh hd)⟩
    rw [hb.len]
    exact hz
end Kx

set_option Elab.async false
set_option linter.all false
set_option maxRecDepth 100000
set_option maxHeartbeats 4000000
set_option exponentiation.threshold 4000
/-! Comprehensions of many clauses: one rule for a clause's loop, one for what its turns do, put together. -/
namespace Kx
open PySem PySem.Spec PyProof.Rows L2
/-- a turn of a clause: `rest` behind tests that hold, `k` behind all -/
def turnW (i t : Expr) (ifs : List Expr) (it : Value) (env : Env) (rest : Sem Fin → Sem Fin) (k : Sem Fin) : Sem Fin := do
  standAt i.pos
  match ← pyNext it with
  | none => pure (.done .next)
  | some u =>
    letOwnedTupleGo t it u
    assign t env u
    let mut yes := true
    for c in ifs do
      if yes then yes ← isTrue c env (eval c env)
    if yes then rest k else k
def restIn (j e : Expr) (d : Nat) (acc : Value) (env : Env) (k : Sem Fin) : Sem Fin := do
  let y ← eval j env
  standAt j.pos
  let z ← foldedSetIterable j env y
  let _ ← runOwn (.compStart e (d + 1) (← holding [z] (pyIter z)) acc env) env
  k
def restEl (elt : Expr) (acc : Value) (env : Env) (k : Sem Fin) : Sem Fin := do
  (do let _ ← call (.builtin "list.append") [acc, ← eval elt env])
  k
abbrev e3 (elt t0 i0 : Expr) (f0 : List Expr) (t1 i1 : Expr) (f1 : List Expr) (t2 i2 : Expr) (f2 : List Expr) (sc : Scope) (pos : Pos) : Expr := .ListComp elt [⟨t0, i0, f0, 0⟩, ⟨t1, i1, f1, 0⟩, ⟨t2, i2, f2, 0⟩] sc pos
section
variable {elt t0 i0 t1 i1 t2 i2 : Expr} {f0 f1 f2 : List Expr} {sc : Scope} {pos : Pos} {it acc : Value} {env : Env}
theorem turn30 : compTurn (e3 elt t0 i0 f0 t1 i1 f1 t2 i2 f2 sc pos) 0 it acc env = turnW i0 t0 f0 it env (restIn i1 (e3 elt t0 i0 f0 t1 i1 f1 t2 i2 f2 sc pos) 0 acc env) (again (.compLoop (e3 elt t0 i0 f0 t1 i1 f1 t2 i2 f2 sc pos) 0 it acc env)) := by rfl
theorem turn31 : compTurn (e3 elt t0 i0 f0 t1 i1 f1 t2 i2 f2 sc pos) 1 it acc env = turnW i1 t1 f1 it env (restIn i2 (e3 elt t0 i0 f0 t1 i1 f1 t2 i2 f2 sc pos) 1 acc env) (again (.compLoop (e3 elt t0 i0 f0 t1 i1 f1 t2 i2 f2 sc pos) 1 it acc env)) := by rfl
theorem turn32 : compTurn (e3 elt t0 i0 f0 t1 i1 f1 t2 i2 f2 sc pos) 2 it acc env = turnW i2 t2 f2 it env (restEl elt acc env) (again (.compLoop (e3 elt t0 i0 f0 t1 i1 f1 t2 i2 f2 sc pos) 2 it acc env)) := by rfl
end
/-- what a turn does behind its tests, and what it leaves -/
structure PRest (Y : Cx) (rest : Sem Fin → Sem Fin) (vs : List Nat) (t : SV → Hp → (Hp → Prop) → Prop) : Prop where
  run : ∀ (pins : List (Addr × Obj)) (s : Shared) (σ : SV) (H : Hp) (Q : Hp → Prop) (P : Fin → Shared → Prop) (E : Value → Shared → Prop) (k : Sem Fin), Inv Y pins σ H s → t σ H Q →
    (∀ σ' H' s', Inv Y pins σ' H' s' → σ'.length = σ.length → (∀ (j : Nat) v, j ∉ vs → σ[j]? = some (some v) → σ'[j]? = some (some v)) → Q H' → wpAny (model Y.prog Y.w) Y.A k P E s') →
    wpAny (model Y.prog Y.w) Y.A (rest k) P E s
/-- the loop of one clause -/
theorem clause_loop {Y : Cx} {elt : Expr} {gens : List Comprehension} {sc : Scope} {pos : Pos} {d : Nat} {D it : Addr} {i t : Expr} {ifs : List Expr} {rest : Sem Fin → Sem Fin} {fp : List Addr} {tn : Nat → Heap → Prop} {J : L2.It} {g : TG} {tt : TT}
    {tb : SV → Hp → (Hp → Prop) → Prop} {vs vo : List Nat} {σ0 : SV} {pins : List (Addr × Obj)} {Fi : Hp → Prop} {W : Nat → Nat → Hp → Prop} (hc : Y.calm = true) (hx : ∀ v s, ¬ Y.xe v s)
    (hturn : compTurn (.ListComp elt gens sc pos) d (.ref it) (.ref D) Y.env = turnW i t ifs (.ref it) Y.env rest (again (.compLoop (.ListComp elt gens sc pos) d (.ref it) (.ref D) Y.env)))
    (pg : PG Y t g) (pt : PTs Y ifs tt) (pr : PRest Y rest vs tb) (T : Turn Y.prog Y.w Y.K t J fp it tn) (hv : ∀ j ∈ vs, j ∈ vo)
    (turn : ∀ i m H, W i m H → (J.stop i H ∧ Fi H) ∨ (J.go i H ∧ ∃ Nx : Hp → Prop, (∀ H', Nx H' → ∃ m', m' < m ∧ W (i + 1) m' H') ∧
      ∀ x H', J.yld i H x H' → g x σ0 H' fun σ2 H2 => wipe σ2 vo = σ0 ∧ tt σ2 H2 fun b H3 => if b = true then tb σ2 H3 Nx else Nx H3))
    {s : Shared} {H : Hp} {m0 : Nat} (I : Inv Y pins σ0 H s) (hf : ∀ b ∈ fp, FpOk Y pins H b) (st : tn 0 s.heap) (w0 : W 0 m0 H) :
    codeAny (model Y.prog Y.w) Y.A (.compLoop (.ListComp elt gens sc pos) d (.ref it) (.ref D) Y.env) (fun r s' => r = .ok .next ∧ ∃ H', Inv Y pins σ0 H' s' ∧ Fi H') s := by
  have still : ∀ {H' : Hp}, (∀ b ∈ fp, H' b = none) → ∀ b ∈ fp, FpOk Y pins H' b := fun hn b hb => ⟨hn b hb, (hf b hb).2⟩
  refine codeAny_loop rfl (fun n s' => ∃ i H', Inv Y pins σ0 H' s' ∧ tn i s'.heap ∧ (∀ b ∈ fp, H' b = none) ∧ W i n H') (fun n s5 hI => ?_) m0 ⟨0, H, I, st, fun b hb => (hf b hb).1, w0⟩
  show wpAny _ Y.A (Sem.onRaise (compTurn (.ListComp elt gens sc pos) d (.ref it) (.ref D) Y.env) _) _ _ s5
  refine wpAny_noted ?_
  rw [hturn]
  obtain ⟨a, H5, I5, st5, n5, w5⟩ := hI
  refine wpAny_bind (wpAny_standAt (wpAny_bind ?_))
  rcases turn a n H5 w5 with ⟨stop, fin⟩ | ⟨go, Nx, hNx, step⟩
  · refine thn (T.done Y rfl rfl rfl hc a pins s5 σ0 H5 _ I5 (still n5) st5 stop) fun r s6 hr => ?_
    obtain ⟨rfl, I6⟩ := hr
    exact wpAny_pure ⟨rfl, H5, I6, fin⟩
  · refine thn (T.item Y rfl rfl rfl hc a pins s5 σ0 H5 _ I5 (still n5) st5 go) fun r s6 hr => ?_
    obtain ⟨u, rfl, h6⟩ := hr
    refine wpAny_bind (thn h6 fun _ s7 h7 => ?_)
    obtain ⟨x, H7, I7, r7, y7, st7, n7⟩ := h7
    have J7 := I7.pinned (still n7) (T.obj _ _ st7)
    -- back at the loop's head
    have home : ∀ {σ2 σ' : SV} {s' : Shared} {H' : Hp}, wipe σ2 vo = σ0 → σ'.length = σ2.length → (∀ (j : Nat) v, j ∉ vs → σ2[j]? = some (some v) → σ'[j]? = some (some v)) → Inv Y (pins ++ pinsAt fp s7.heap) σ' H' s' → Nx H' →
        ∃ m, m < n ∧ ∃ i H', Inv Y pins σ0 H' s' ∧ tn i s'.heap ∧ (∀ b ∈ fp, H' b = none) ∧ W i m H' := by
      intro σ2 σ' s' H' e2 el ek I' nx
      obtain ⟨m', hm, w'⟩ := hNx H' nx
      have at7 : ∀ b ∈ fp, ∀ o, s7.heap.get? b = some o → s'.heap.get? b = some o ∧ H' b = none := fun b hb o e => by
        have z := I'.pin (b, o) (List.mem_append_right _ (List.mem_append_right _ (mem_pinsAt hb e)))
        exact ⟨z.1, z.2.1⟩
      refine ⟨m', hm, a + 1, H', I'.unpinned.weak (by rw [el, ← e2, wipe_length]) (fun j v e => ?_), T.keep _ _ _ st7 (fun b hb o e => (at7 b hb o e).1), fun b hb => ?_, w'⟩
      · rw [← e2] at e
        obtain ⟨e3, e4⟩ := wipe_some e
        exact ek j v (fun z => e4 (hv j z)) e3
      · obtain ⟨o, e, _⟩ := T.obj _ _ st7 b hb
        exact (at7 b hb o e).2
    refine wpAny_bind (wpAny_mono (pg.run _ s7 σ0 H7 x u _ J7 r7 (step x H7 y7)) (fun _ s8 h8 => ?_) fun v s' z => (hx v s' z).elim)
    obtain ⟨σ8, H8, I8, hw8, q8⟩ := h8
    refine wpAny_bind (wpAny_mono (pt.run _ s8 σ8 H8 _ I8 q8) (fun b s9 h9 => ?_) fun v s' z => (hx v s' z).elim)
    obtain ⟨H9, I9, q9⟩ := h9
    cases b with
    | false => exact wpAny_pure ⟨rfl, home hw8 rfl (fun _ _ _ e => e) I9 q9⟩
    | true =>
      exact pr.run _ s9 σ8 H9 Nx _ _ _ I9 q9 fun σ' H' s' I' el ek nx => wpAny_pure ⟨rfl, home hw8 el ek I' nx⟩
end Kx
namespace Kx
open PySem PySem.Spec PyProof.Rows L2
/-- a clause's start: the loop is reached by the iterator itself or once more through pyIter -/
theorem clause_start {prog : Program} {w : World} {A : Around} {R : Result → Shared → Prop} {s : Shared} {elt t i : Expr} {f : List Expr} {gens : List Comprehension} {sc : Scope} {pos : Pos} {d : Nat} {it : Addr} {acc : Value} {env : Env}
    (hg : gens[d]? = some ⟨t, i, f, 0⟩) (hl : codeAny (model prog w) A (.compLoop (.ListComp elt gens sc pos) d (.ref it) acc env) R s)
    (hi : ∀ (Q : Value → Shared → Prop) (E : Value → Shared → Prop), Q (.ref it) s → wpAny (model prog w) A (pyIter (.ref it)) Q E s) :
    codeAny (model prog w) A (.compStart (.ListComp elt gens sc pos) d (.ref it) acc env) R s := by
  refine codeAny_of_tree ?_
  show wpAny _ A (Sem.onRaise (compStart (.ListComp elt gens sc pos) d (.ref it) acc env) _) _ _ s
  refine wpAny_notedAt ?_
  unfold compStart
  have e : clausesOf (.ListComp elt gens sc pos) = gens := rfl
  rw [e, hg]
  apply wpAny_bind
  apply wpAny_askSetting
  apply wpAny_ite
  split
  · first
      | exact wpAny_bind (wpAny_pure (wpAny_pure ⟨rfl, hl⟩))
      | exact wpAny_pure ⟨rfl, hl⟩
  · first
      | exact wpAny_bind (wpAny_rule (wpAny_bind (wpAny_standAt (wpAny_bind (hi _ _ (wpAny_pure ⟨rfl, hl⟩))))))
      | (refine wpAny_bind (wpAny_rule ?_); exact wpAny_bind (wpAny_standAt (wpAny_bind (hi _ _ (wpAny_pure ⟨rfl, hl⟩)))))
end Kx

namespace Kx
open PySem PySem.Spec PyProof.Rows L2
section
variable {Y : Cx} {elt : Expr} {gens : List Comprehension} {sc : Scope} {pos : Pos} {d : Nat} {D : Addr}
/-- the last clause: the item at the list's end -/
def tPush (D : Addr) (te : TE) : SV → Hp → (Hp → Prop) → Prop := fun σ H Q => te σ H fun y H' => ∃ acc, H' D = some (.lst acc) ∧ acc.length < sizeLine ∧ Q (L2.upd H' D (.lst (acc ++ [y])))
theorem pr_push {te : TE} {vs : List Nat} (hx : ∀ v s, ¬ Y.xe v s) (pe : PE Y elt te) : PRest Y (restEl elt (.ref D) Y.env) vs (tPush D te) := by
  refine ⟨fun pins s σ H Q P E k I h cont => ?_⟩
  refine wpAny_bind (wpAny_bind (wpAny_mono (pe.run pins s σ H _ I h) (fun u s1 h1 => ?_) fun v s' z => (hx v s' z).elim))
  obtain ⟨y, H1, I1, r1, acc, eD, hl, q⟩ := h1
  exact wpAny_bind (app_ok I1 eD hl r1 fun s2 I2 => wpAny_pure (cont σ _ s2 I2 rfl (fun _ _ _ e => e) q))
/-- a clause within: its own loop -/
def tWithin (wi : TI) (g : TG) (tt : TT) (tb : SV → Hp → (Hp → Prop) → Prop) (vs : List Nat) : SV → Hp → (Hp → Prop) → Prop := fun σ H Q => wi σ H fun J H1 => ∃ W : Nat → Nat → Hp → Prop, (∃ m, W 0 m H1) ∧
  ∀ i m H, W i m H → (J.stop i H ∧ Q H) ∨ (J.go i H ∧ ∃ Nx : Hp → Prop, (∀ H', Nx H' → ∃ m', m' < m ∧ W (i + 1) m' H') ∧
    ∀ x H', J.yld i H x H' → g x (wipe σ vs) H' fun σ2 H2 => wipe σ2 vs = wipe σ vs ∧ tt σ2 H2 fun b H3 => if b = true then tb σ2 H3 Nx else Nx H3)
theorem pr_within {t i : Expr} {f : List Expr} {rest : Sem Fin → Sem Fin} {wi : TI} {g : TG} {tt : TT} {tb : SV → Hp → (Hp → Prop) → Prop} {vs vi : List Nat} (hc : Y.calm = true) (hx : ∀ v s, ¬ Y.xe v s) (hg : gens[d + 1]? = some ⟨t, i, f, 0⟩)
    (hturn : ∀ it : Addr, compTurn (.ListComp elt gens sc pos) (d + 1) (.ref it) (.ref D) Y.env = turnW i t f (.ref it) Y.env rest (again (.compLoop (.ListComp elt gens sc pos) (d + 1) (.ref it) (.ref D) Y.env)))
    (hs : ∀ x, foldedSetIterable i Y.env x = pure x) (hi : PI Y t i wi) (pg : PG Y t g) (pt : PTs Y f tt) (pr : PRest Y rest vi tb) (hv : ∀ j ∈ vi, j ∈ vs) :
    PRest Y (restIn i (.ListComp elt gens sc pos) d (.ref D) Y.env) vs (tWithin wi g tt tb vs) := by
  refine ⟨fun pins s σ H Q P E k I h cont => ?_⟩
  refine wpAny_bind (wpAny_mono (hi.run pins s σ H _ I h) (fun u s1 h1 => ?_) fun v s' z => (hx v s' z).elim)
  refine wpAny_bind (wpAny_standAt (wpAny_bind (wpAny_of_eq (hs u) (wpAny_bind (wpAny_holding ?_)))))
  refine wpAny_mono h1 (fun itv s2 h2 => ?_) fun v s' z => (hx v s' z).elim
  obtain ⟨it, fp, tn, J, H2, rfl, I2, T, st2, f2, W, ⟨m, w0⟩, turn⟩ := h2
  refine wpAny_bind (wpAny_runOwn ?_)
  rw [Around.mark_none]
  have J2 : Inv Y pins (wipe σ vs) H2 s2 := I2.weak (wipe_length _ _) fun j v e => (wipe_some e).1
  have run := clause_loop (Fi := Q) (vo := vs) hc hx (hturn it) pg pt pr T hv turn J2 f2 st2 w0
  refine codeAny_mono (clause_start hg run fun Q' E' q => T.self _ 0 _ Q' E' st2 q) fun r s3 h3 => ?_
  obtain ⟨rfl, H3, I3, q3⟩ := h3
  exact cont _ H3 s3 I3 (wipe_length _ _) (fun j v hj e => by rw [wipe_out hj]; exact e) q3
end
end Kx
namespace Kx
open PySem PySem.Spec PyProof.Rows L2
section
variable {X : Cx}
/-- the whole: the first clause's loop, what its turns do told by tb (by the new list) -/
def tLcN (wi : TI) (g : TG) (tt : TT) (tb : Addr → SV → Hp → (Hp → Prop) → Prop) (vs : List Nat) : TE := fun σ H Q => wi σ H fun J H1 => ∀ D, H1 D = none → ∃ W : Nat → Nat → Hp → Prop, (∃ m, W 0 m (L2.upd H1 D (.lst []))) ∧
  ∀ i m H, W i m H → (J.stop i H ∧ Q (.ref D) H) ∨ (J.go i H ∧ ∃ Nx : Hp → Prop, (∀ H', Nx H' → ∃ m', m' < m ∧ W (i + 1) m' H') ∧
    ∀ x H', J.yld i H x H' → g x (wipe σ vs) H' fun σ2 H2 => wipe σ2 vs = wipe σ vs ∧ tt σ2 H2 fun b H3 => if b = true then tb D σ2 H3 Nx else Nx H3)
theorem pe_lcN {elt t i : Expr} {f : List Expr} {gs : List Comprehension} {sc : Scope} {own : List (Str × Nat)} {pos : Pos} {wi : TI} {g : TG} {tt : TT} {tb : Addr → SV → Hp → (Hp → Prop) → Prop} {vi : List Nat} {rest : Value → Env → Sem Fin → Sem Fin}
    (hc : X.calm = true) (hN : X.N.Nodup) (hi : PI X t i wi) (ok : BlkOk X.N X.env.scope sc own) (hv : ∀ j ∈ vi, j ∈ own.map (·.2))
    (hturn : ∀ (it acc : Value) (env : Env), compTurn (.ListComp elt (⟨t, i, f, 0⟩ :: gs) sc pos) 0 it acc env = turnW i t f it env (rest acc env) (again (.compLoop (.ListComp elt (⟨t, i, f, 0⟩ :: gs) sc pos) 0 it acc env)))
    (hg : ∀ (s : Shared) (H : Hp) (C : Addr) (cl : List (Str × Addr)) (fp : List Addr), PG (X.blk s H sc (compEnvC sc cl C X.env) fp) t g)
    (ht : ∀ (s : Shared) (H : Hp) (C : Addr) (cl : List (Str × Addr)) (fp : List Addr), PTs (X.blk s H sc (compEnvC sc cl C X.env) fp) f tt)
    (hr : ∀ (s : Shared) (H : Hp) (C : Addr) (cl : List (Str × Addr)) (fp : List Addr) (D : Addr), PRest (X.blk s H sc (compEnvC sc cl C X.env) fp) (rest (.ref D) (compEnvC sc cl C X.env)) vi (tb D))
    (hs : ∀ x, foldedSetIterable i X.env x = pure x := by intro _; rfl) :
    PE X (.ListComp elt (⟨t, i, f, 0⟩ :: gs) sc pos) (tLcN wi g tt tb (own.map (·.2))) := by
  refine ⟨fun pins s σ H Q I h => ?_⟩
  rw [eval_ListComp]
  have cells : ∀ y ∈ sc.names, y.2 = .free → ∃ c, X.env.cells.lookup y.1 = some c := by
    intro y hy e
    exact (ok.free y hy e).elim (fun z => I.ok.has _ (.inl z)) fun z => I.ok.has _ (.inr z)
  refine wpAny_comprehension_free (use := none) rfl hs (closure_ok cells) ok.kind (fun y hy e => (ok.uniq y hy).trans (congrArg some e)) ?_
  refine thn (hi.run pins s σ H _ I h) fun u s1 h1 => thn h1 fun itv s2 h2 => ?_
  obtain ⟨it, fp, tn, J, H2, rfl, I2, T, st2, f2, q⟩ := h2
  refine wpAny_newObj_type (newEnv_comp ?_) (show (0 : Nat) ≤ sizeLine from Nat.zero_le _)
  obtain ⟨D, hD⟩ : ∃ D, D = s2.heap.objs.size := ⟨_, rfl⟩
  rw [← hD]
  obtain ⟨W, ⟨m0, w0⟩, turn⟩ := q D (I2.hok.fresh (Nat.le_of_eq hD.symm))
  obtain ⟨s3, hs3⟩ : ∃ s3 : Shared, s3 = { s2 with heap := s2.heap.push { cls := .type "list", data := .seq ([] : List Value).toArray } } := ⟨_, rfl⟩
  have grow : ∀ (b : Addr) (o : Obj), s2.heap.get? b = some o → s3.heap.get? b = some o := fun b o e => by
    rw [hs3]
    exact Heap.get?_push_of_some _ e
  have I3 : Inv X pins σ (L2.upd H2 D (.lst [])) s3 := by
    rw [hs3, hD]
    exact I2.laid (t' := s2.toks) (fun b o e => Heap.get?_push_of_some _ e) (Nat.le_refl _) ⟨Nat.zero_le _, [], 0, .nil, Heap.get?_push_size _ rfl⟩
  have size3 : s3.heap.objs.size = s2.heap.objs.size + 1 := by
    rw [hs3]
    exact Heap.size_push ..
  have f3 : ∀ b ∈ fp, FpOk X pins (L2.upd H2 D (.lst [])) b ∧ b < s3.heap.objs.size := fun b hb => by
    obtain ⟨o, e, _⟩ := T.obj _ _ st2 b hb
    have lt := Heap.lt_size e
    refine ⟨⟨?_, (f2 b hb).2⟩, by rw [size3]; exact Nat.lt_succ_of_lt lt⟩
    rw [upd_ne (fun z => Nat.ne_of_lt lt (z.trans hD))]
    exact (f2 b hb).1
  have B := block_start I3 ok hN f3
  rw [show s2.heap.push { cls := .type "list", data := .seq ([] : List Value).toArray } = s3.heap by rw [hs3]]
  -- what the block has
  have pg := hg s3 (L2.upd H2 D (.lst [])) s3.heap.objs.size (cellsFrom (s3.heap.objs.size + 1) sc.names (cloFrom X.env.cells sc.names [])) fp
  have pt := ht s3 (L2.upd H2 D (.lst [])) s3.heap.objs.size (cellsFrom (s3.heap.objs.size + 1) sc.names (cloFrom X.env.cells sc.names [])) fp
  have pr := hr s3 (L2.upd H2 D (.lst [])) s3.heap.objs.size (cellsFrom (s3.heap.objs.size + 1) sc.names (cloFrom X.env.cells sc.names [])) fp D
  show codeAny _ _ (.compStart (.ListComp elt (⟨t, i, f, 0⟩ :: gs) sc pos) 0 (.ref it) (.ref D) (compEnvC sc (cellsFrom (s3.heap.objs.size + 1) sc.names (cloFrom X.env.cells sc.names [])) s3.heap.objs.size X.env)) _ _
  obtain ⟨ce, hce⟩ : ∃ ce, ce = compEnvC sc (cellsFrom (s3.heap.objs.size + 1) sc.names (cloFrom X.env.cells sc.names [])) s3.heap.objs.size X.env := ⟨_, rfl⟩
  have here : ce.locals = s3.heap.objs.size := by rw [hce]; rfl
  rw [← hce] at B pg pt pr ⊢
  obtain ⟨s4, hs4⟩ : ∃ s4 : Shared, s4 = { s3 with heap := pushCells (s3.heap.push { cls := .type "dict", data := .dict #[] }) sc.names } := ⟨_, rfl⟩
  rw [← hs4] at B
  have st4 : tn 0 s4.heap := T.keep _ _ _ (T.keep _ _ _ st2 fun b _ o e => grow b o e) fun b _ o e => by
    rw [hs4]
    exact pushCells_keeps _ _ _ _ (Heap.get?_push_of_some _ e)
  obtain ⟨H3, hH3⟩ : ∃ H3, H3 = L2.upd H2 D (.lst []) := ⟨_, rfl⟩
  rw [← hH3] at B pg pt pr I3 f3 w0
  have fb : ∀ b ∈ fp, FpOk (X.blk s3 H3 sc ce fp) [] H3 b := fun b hb => by
    refine ⟨(f3 b hb).1.1, (B.ok.exf b hb).1, B.ok.exfs b hb, .inl hb, fun x c e => (B.ok.exf b hb).2 x c e, fun p hp => ?_⟩
    have hp : p ∈ ([] : List (Addr × Obj)) ++ [] := hp
    simp at hp
  have run := clause_loop (Y := X.blk s3 H3 sc ce fp) (Fi := fun H' => Q (.ref D) H') (vo := own.map (·.2)) hc (fun _ _ z => z) (hturn _ _ _) pg pt pr T hv turn B fb st4 w0
  have st : codeAny (model X.prog X.w) X.A (.compStart (.ListComp elt (⟨t, i, f, 0⟩ :: gs) sc pos) 0 (.ref it) (.ref D) ce) _ s4 := clause_start (gens := ⟨t, i, f, 0⟩ :: gs) (d := 0) rfl run fun Q' E' z => T.self _ 0 _ Q' E' st4 z
  have back : ∀ (r : Result) (s5 : Shared), (r = .ok .next ∧ ∃ H', Inv (X.blk s3 H3 sc ce fp) [] (wipe σ (own.map (·.2))) H' s5 ∧ Q (.ref D) H') → compPost (model X.prog X.w) X.A X.xe none (EP X pins σ Q) (.ref D) s3.heap.objs.size r s5 := by
    intro r s5 h5
    obtain ⟨rfl, H5, I5, q5⟩ := h5
    have I6 : Inv X pins σ H5 s5 := I3.call' (ch := fp) I5.os I5.base I5.hok I5.bare fun b hb => by
      obtain ⟨⟨_, z1, z2, z3, z4, z5⟩, _⟩ := f3 b hb
      exact ⟨z3, z1, z4, z5⟩
    have none5 : H5 s3.heap.objs.size = none := by
      rw [← here]
      exact I5.free
    obtain ⟨m, hn, _⟩ := I5.loc
    have hn : s5.heap.Ns ce.locals m := hn
    rw [here] at hn
    refine ⟨m, hn, fun h'' sb => ?_⟩
    obtain ⟨g0, g1, g2, g3, g4, g5⟩ := I3.fpOk (Nat.le_refl _) none5
    exact ⟨.ref D, H5, I6.turned (t' := s5.toks) (fun b o hb e => (sb.2 b hb).trans e) g0 g1 g3 g4 g5, rfl, q5⟩
  subst hs4
  subst hs3
  exact codeAny_mono st back
end
end Kx
namespace Kx
open PySem PySem.Spec PyProof.Rows L2
section
variable {X : Cx}
theorem pe_lc3 {elt t0 i0 t1 i1 t2 i2 : Expr} {f0 f1 f2 : List Expr} {sc : Scope} {own : List (Str × Nat)} {pos : Pos} {w0 w1 w2 : TI} {g0 g1 g2 : TG} {q0 q1 q2 : TT} {te : TE} {v1 v2 : List Nat}
    (hc : X.calm = true) (hN : X.N.Nodup) (hi : PI X t0 i0 w0) (ok : BlkOk X.N X.env.scope sc own) (hv1 : ∀ j ∈ v1, j ∈ own.map (·.2)) (hv2 : ∀ j ∈ v2, j ∈ v1)
    (hg0 : ∀ (s : Shared) (H : Hp) (C : Addr) (cl : List (Str × Addr)) (fp : List Addr), PG (X.blk s H sc (compEnvC sc cl C X.env) fp) t0 g0)
    (ht0 : ∀ (s : Shared) (H : Hp) (C : Addr) (cl : List (Str × Addr)) (fp : List Addr), PTs (X.blk s H sc (compEnvC sc cl C X.env) fp) f0 q0)
    (hi1 : ∀ (s : Shared) (H : Hp) (C : Addr) (cl : List (Str × Addr)) (fp : List Addr), PI (X.blk s H sc (compEnvC sc cl C X.env) fp) t1 i1 w1)
    (hg1 : ∀ (s : Shared) (H : Hp) (C : Addr) (cl : List (Str × Addr)) (fp : List Addr), PG (X.blk s H sc (compEnvC sc cl C X.env) fp) t1 g1)
    (ht1 : ∀ (s : Shared) (H : Hp) (C : Addr) (cl : List (Str × Addr)) (fp : List Addr), PTs (X.blk s H sc (compEnvC sc cl C X.env) fp) f1 q1)
    (hi2 : ∀ (s : Shared) (H : Hp) (C : Addr) (cl : List (Str × Addr)) (fp : List Addr), PI (X.blk s H sc (compEnvC sc cl C X.env) fp) t2 i2 w2)
    (hg2 : ∀ (s : Shared) (H : Hp) (C : Addr) (cl : List (Str × Addr)) (fp : List Addr), PG (X.blk s H sc (compEnvC sc cl C X.env) fp) t2 g2)
    (ht2 : ∀ (s : Shared) (H : Hp) (C : Addr) (cl : List (Str × Addr)) (fp : List Addr), PTs (X.blk s H sc (compEnvC sc cl C X.env) fp) f2 q2)
    (he : ∀ (s : Shared) (H : Hp) (C : Addr) (cl : List (Str × Addr)) (fp : List Addr), PE (X.blk s H sc (compEnvC sc cl C X.env) fp) elt te)
    (hs : ∀ x, foldedSetIterable i0 X.env x = pure x := by intro _; rfl) (hs1 : ∀ env x, foldedSetIterable i1 env x = pure x := by intro _ _; rfl) (hs2 : ∀ env x, foldedSetIterable i2 env x = pure x := by intro _ _; rfl) :
    PE X (e3 elt t0 i0 f0 t1 i1 f1 t2 i2 f2 sc pos) (tLcN w0 g0 q0 (fun D => tWithin w1 g1 q1 (tWithin w2 g2 q2 (tPush D te) v2) v1) (own.map (·.2))) :=
  pe_lcN (hs := hs) (rest := fun acc env => restIn i1 (e3 elt t0 i0 f0 t1 i1 f1 t2 i2 f2 sc pos) 0 acc env) hc hN hi ok hv1 (fun _ _ _ => turn30) hg0 ht0 fun s H C cl fp D =>
    pr_within (d := 0) hc (fun _ _ z => z) rfl (fun _ => turn31) (hs1 _) (hi1 s H C cl fp) (hg1 s H C cl fp) (ht1 s H C cl fp)
      (pr_within (d := 1) (vi := []) hc (fun _ _ z => z) rfl (fun _ => turn32) (hs2 _) (hi2 s H C cl fp) (hg2 s H C cl fp) (ht2 s H C cl fp) (pr_push (fun _ _ z => z) (he s H C cl fp)) (fun j hj => by cases hj)) hv2
end
abbrev e2 (elt t0 i0 : Expr) (f0 : List Expr) (t1 i1 : Expr) (f1 : List Expr) (sc : Scope) (pos : Pos) : Expr := .ListComp elt [⟨t0, i0, f0, 0⟩, ⟨t1, i1, f1, 0⟩] sc pos
section
variable {elt t0 i0 t1 i1 : Expr} {f0 f1 : List Expr} {sc : Scope} {pos : Pos} {it acc : Value} {env : Env}
theorem turn20 : compTurn (e2 elt t0 i0 f0 t1 i1 f1 sc pos) 0 it acc env = turnW i0 t0 f0 it env (restIn i1 (e2 elt t0 i0 f0 t1 i1 f1 sc pos) 0 acc env) (again (.compLoop (e2 elt t0 i0 f0 t1 i1 f1 sc pos) 0 it acc env)) := by rfl
theorem turn21 : compTurn (e2 elt t0 i0 f0 t1 i1 f1 sc pos) 1 it acc env = turnW i1 t1 f1 it env (restEl elt acc env) (again (.compLoop (e2 elt t0 i0 f0 t1 i1 f1 sc pos) 1 it acc env)) := by rfl
end
theorem pe_lc2N {X : Cx} {elt t0 i0 t1 i1 : Expr} {f0 f1 : List Expr} {sc : Scope} {own : List (Str × Nat)} {pos : Pos} {w0 w1 : TI} {g0 g1 : TG} {q0 q1 : TT} {te : TE} {v1 : List Nat}
    (hc : X.calm = true) (hN : X.N.Nodup) (hi : PI X t0 i0 w0) (ok : BlkOk X.N X.env.scope sc own) (hv1 : ∀ j ∈ v1, j ∈ own.map (·.2))
    (hg0 : ∀ (s : Shared) (H : Hp) (C : Addr) (cl : List (Str × Addr)) (fp : List Addr), PG (X.blk s H sc (compEnvC sc cl C X.env) fp) t0 g0)
    (ht0 : ∀ (s : Shared) (H : Hp) (C : Addr) (cl : List (Str × Addr)) (fp : List Addr), PTs (X.blk s H sc (compEnvC sc cl C X.env) fp) f0 q0)
    (hi1 : ∀ (s : Shared) (H : Hp) (C : Addr) (cl : List (Str × Addr)) (fp : List Addr), PI (X.blk s H sc (compEnvC sc cl C X.env) fp) t1 i1 w1)
    (hg1 : ∀ (s : Shared) (H : Hp) (C : Addr) (cl : List (Str × Addr)) (fp : List Addr), PG (X.blk s H sc (compEnvC sc cl C X.env) fp) t1 g1)
    (ht1 : ∀ (s : Shared) (H : Hp) (C : Addr) (cl : List (Str × Addr)) (fp : List Addr), PTs (X.blk s H sc (compEnvC sc cl C X.env) fp) f1 q1)
    (he : ∀ (s : Shared) (H : Hp) (C : Addr) (cl : List (Str × Addr)) (fp : List Addr), PE (X.blk s H sc (compEnvC sc cl C X.env) fp) elt te)
    (hs : ∀ x, foldedSetIterable i0 X.env x = pure x := by intro _; rfl) (hs1 : ∀ env x, foldedSetIterable i1 env x = pure x := by intro _ _; rfl) :
    PE X (e2 elt t0 i0 f0 t1 i1 f1 sc pos) (tLcN w0 g0 q0 (fun D => tWithin w1 g1 q1 (tPush D te) v1) (own.map (·.2))) :=
  pe_lcN (hs := hs) (rest := fun acc env => restIn i1 (e2 elt t0 i0 f0 t1 i1 f1 sc pos) 0 acc env) hc hN hi ok hv1 (fun _ _ _ => turn20) hg0 ht0 fun s H C cl fp D =>
    pr_within (d := 0) (vi := []) hc (fun _ _ z => z) rfl (fun _ => turn21) (hs1 _) (hi1 s H C cl fp) (hg1 s H C cl fp) (ht1 s H C cl fp) (pr_push (fun _ _ z => z) (he s H C cl fp)) (fun j hj => by cases hj)
/-! the loops as one writes them -/
def LnW (J : L2.It) (g : TG) (tt : TT) (tb : Addr → SV → Hp → (Hp → Prop) → Prop) (vs : List Nat) (D : Addr) (σ : SV) (H1 : Hp) (Q : VK) : Prop := ∃ W : Nat → Nat → Hp → Prop, (∃ m, W 0 m (L2.upd H1 D (.lst []))) ∧
  ∀ i m H, W i m H → (J.stop i H ∧ Q (.ref D) H) ∨ (J.go i H ∧ ∃ Nx : Hp → Prop, (∀ H', Nx H' → ∃ m', m' < m ∧ W (i + 1) m' H') ∧
    ∀ x H', J.yld i H x H' → g x (wipe σ vs) H' fun σ2 H2 => wipe σ2 vs = wipe σ vs ∧ tt σ2 H2 fun b H3 => if b = true then tb D σ2 H3 Nx else Nx H3)
theorem tLcN_eq {wi : TI} {g : TG} {tt : TT} {tb : Addr → SV → Hp → (Hp → Prop) → Prop} {vs : List Nat} : tLcN wi g tt tb vs = fun σ H Q => wi σ H fun J H1 => ∀ D, H1 D = none → LnW J g tt tb vs D σ H1 Q := rfl
def ClW (J : L2.It) (g : TG) (tt : TT) (tb : SV → Hp → (Hp → Prop) → Prop) (vs : List Nat) (σ : SV) (H1 : Hp) (Q : Hp → Prop) : Prop := ∃ W : Nat → Nat → Hp → Prop, (∃ m, W 0 m H1) ∧
  ∀ i m H, W i m H → (J.stop i H ∧ Q H) ∨ (J.go i H ∧ ∃ Nx : Hp → Prop, (∀ H', Nx H' → ∃ m', m' < m ∧ W (i + 1) m' H') ∧
    ∀ x H', J.yld i H x H' → g x (wipe σ vs) H' fun σ2 H2 => wipe σ2 vs = wipe σ vs ∧ tt σ2 H2 fun b H3 => if b = true then tb σ2 H3 Nx else Nx H3)
theorem tWithin_eq {wi : TI} {g : TG} {tt : TT} {tb : SV → Hp → (Hp → Prop) → Prop} {vs : List Nat} : tWithin wi g tt tb vs = fun σ H Q => wi σ H fun J H1 => ClW J g tt tb vs σ H1 Q := rfl
section
variable {g : TG} {tt : TT} {vs : List Nat} {σ : SV} {H : Hp}
theorem lnW_range {tb : Addr → SV → Hp → (Hp → Prop) → Prop} {Dd : Addr} {Q : VK} {n : Nat} {lo : Int} (Pv : Nat → Hp → Prop) (h0 : Pv 0 (L2.upd H Dd (.lst [])))
    (hs : ∀ i H, i < n → Pv i H → g (.int (lo + i)) (wipe σ vs) H fun σ2 H2 => wipe σ2 vs = wipe σ vs ∧ tt σ2 H2 fun b H3 => if b = true then tb Dd σ2 H3 (Pv (i + 1)) else Pv (i + 1) H3) (hd : ∀ H, Pv n H → Q (.ref Dd) H) : LnW (Itr lo n) g tt tb vs Dd σ H Q := by
  refine ⟨fun i m H => i + m = n ∧ Pv i H, ⟨n, by omega, h0⟩, fun i m H z => ?_⟩
  rcases Nat.lt_or_ge i n with hl | hl
  · refine .inr ⟨hl, Pv (i + 1), fun H' p' => ⟨n - (i + 1), by omega, by omega, p'⟩, fun x H' y => ?_⟩
    obtain ⟨e1, e2⟩ := y
    rw [e1, e2]
    exact hs i H hl z.2
  · obtain rfl : i = n := by omega
    exact .inl ⟨hl, hd H z.2⟩
theorem lnW_list {K : PySem.W.Frag} {a : Addr} {xs : List V} {tb : Addr → SV → Hp → (Hp → Prop) → Prop} {Dd : Addr} {Q : VK} (Pv : Nat → Hp → Prop) (h0 : Pv 0 (L2.upd H Dd (.lst []))) (hq : ∀ i H, Pv i H → SqL K H a xs)
    (hs : ∀ i x H, xs[i]? = some x → Pv i H → g x (wipe σ vs) H fun σ2 H2 => wipe σ2 vs = wipe σ vs ∧ tt σ2 H2 fun b H3 => if b = true then tb Dd σ2 H3 (Pv (i + 1)) else Pv (i + 1) H3) (hd : ∀ H, Pv xs.length H → Q (.ref Dd) H) : LnW (Itl K a) g tt tb vs Dd σ H Q := by
  refine ⟨fun i m H => i + m = xs.length ∧ Pv i H, ⟨xs.length, by omega, h0⟩, fun i m H z => ?_⟩
  have q := hq i H z.2
  rcases Nat.lt_or_ge i xs.length with hl | hl
  · refine .inr ⟨⟨xs, _, q, List.getElem?_eq_getElem hl⟩, Pv (i + 1), fun H' p' => ⟨xs.length - (i + 1), by omega, by omega, p'⟩, fun x H' y => ?_⟩
    obtain ⟨e1, e2⟩ := y
    rw [e1]
    exact hs i x H (e2 xs q) z.2
  · obtain rfl : i = xs.length := by omega
    exact .inl ⟨⟨xs, q, Nat.le_refl _⟩, hd H z.2⟩
theorem clW_list {K : PySem.W.Frag} {a : Addr} {xs : List V} {tb : SV → Hp → (Hp → Prop) → Prop} {Q : Hp → Prop} (Pv : Nat → Hp → Prop) (h0 : Pv 0 H) (hq : ∀ i H, Pv i H → SqL K H a xs)
    (hs : ∀ i x H, xs[i]? = some x → Pv i H → g x (wipe σ vs) H fun σ2 H2 => wipe σ2 vs = wipe σ vs ∧ tt σ2 H2 fun b H3 => if b = true then tb σ2 H3 (Pv (i + 1)) else Pv (i + 1) H3) (hd : ∀ H, Pv xs.length H → Q H) : ClW (Itl K a) g tt tb vs σ H Q := by
  refine ⟨fun i m H => i + m = xs.length ∧ Pv i H, ⟨xs.length, by omega, h0⟩, fun i m H z => ?_⟩
  have q := hq i H z.2
  rcases Nat.lt_or_ge i xs.length with hl | hl
  · refine .inr ⟨⟨xs, _, q, List.getElem?_eq_getElem hl⟩, Pv (i + 1), fun H' p' => ⟨xs.length - (i + 1), by omega, by omega, p'⟩, fun x H' y => ?_⟩
    obtain ⟨e1, e2⟩ := y
    rw [e1]
    exact hs i x H (e2 xs q) z.2
  · obtain rfl : i = xs.length := by omega
    exact .inl ⟨⟨xs, q, Nat.le_refl _⟩, hd H z.2⟩
theorem clW_range {tb : SV → Hp → (Hp → Prop) → Prop} {Q : Hp → Prop} {n : Nat} {lo : Int} (Pv : Nat → Hp → Prop) (h0 : Pv 0 H)
    (hs : ∀ i H, i < n → Pv i H → g (.int (lo + i)) (wipe σ vs) H fun σ2 H2 => wipe σ2 vs = wipe σ vs ∧ tt σ2 H2 fun b H3 => if b = true then tb σ2 H3 (Pv (i + 1)) else Pv (i + 1) H3) (hd : ∀ H, Pv n H → Q H) : ClW (Itr lo n) g tt tb vs σ H Q := by
  refine ⟨fun i m H => i + m = n ∧ Pv i H, ⟨n, by omega, h0⟩, fun i m H z => ?_⟩
  rcases Nat.lt_or_ge i n with hl | hl
  · refine .inr ⟨hl, Pv (i + 1), fun H' p' => ⟨n - (i + 1), by omega, by omega, p'⟩, fun x H' y => ?_⟩
    obtain ⟨e1, e2⟩ := y
    rw [e1, e2]
    exact hs i H hl z.2
  · obtain rfl : i = n := by omega
    exact .inl ⟨hl, hd H z.2⟩
end
section
variable {X : Cx} {K : PySem.W.Frag} {tg l : Expr} {tl : TE}
theorem pi_listK (h : X.K = K) (hl : PE X l tl) : PI X tg l (iList K tl) := h ▸ pi_list hl
theorem pi_tupK (h : X.K = K) (hl : PE X l tl) : PI X tg l (iTup K tl) := h ▸ pi_tup hl
end
end Kx

set_option Elab.async false
set_option linter.all false
set_option maxRecDepth 100000
set_option maxHeartbeats 4000000
set_option exponentiation.threshold 4000
/-! Tables of paths. -/
namespace Kx
open PySem PySem.Spec PyProof.Rows L2
def entZ (t : Q4) : Nat → Int
  | 0 => t.1
  | 1 => t.2.1
  | 2 => t.2.2.1
  | _ => t.2.2.2
def mkZ (f : Nat → Int) : Q4 := (f 0, f 1, f 2, f 3)
theorem ent_mk {f : Nat → Int} {i : Nat} (h : i < 4) : entZ (mkZ f) i = f i := by
  rcases (show i = 0 ∨ i = 1 ∨ i = 2 ∨ i = 3 by omega) with rfl | rfl | rfl | rfl <;> rfl
theorem cut_at {t : Q4} {i : Nat} (h : i < 4) : (cutV4 t)[i]? = some (.int (entZ t i)) := by
  rcases (show i = 0 ∨ i = 1 ∨ i = 2 ∨ i = 3 by omega) with rfl | rfl | rfl | rfl <;> rfl
theorem cut_atI {t : Q4} {i : Nat} (h : i < 4) : atI (cutV4 t) (i : Int) = some (.int (entZ t i)) := atI_nat (cut_at h)
theorem mkZ_ext {f g : Nat → Int} (h : ∀ i, i < 4 → f i = g i) : mkZ f = mkZ g := by
  unfold mkZ
  rw [h 0 (by decide), h 1 (by decide), h 2 (by decide), h 3 (by decide)]
abbrev T4 := Q4 × Q4 × Q4 × Q4
def rowT (T : T4) : Nat → Q4
  | 0 => T.1
  | 1 => T.2.1
  | 2 => T.2.2.1
  | _ => T.2.2.2
def mkT (f : Nat → Q4) : T4 := (f 0, f 1, f 2, f 3)
theorem row_mk {f : Nat → Q4} {i : Nat} (h : i < 4) : rowT (mkT f) i = f i := by
  rcases (show i = 0 ∨ i = 1 ∨ i = 2 ∨ i = 3 by omega) with rfl | rfl | rfl | rfl <;> rfl
theorem mkT_ext {f g : Nat → Q4} (h : ∀ i, i < 4 → f i = g i) : mkT f = mkT g := by
  unfold mkT
  rw [h 0 (by decide), h 1 (by decide), h 2 (by decide), h 3 (by decide)]
def colT (T : T4) (j : Nat) : Q4 := mkZ fun i => entZ (rowT T i) j
def colsT (T : T4) : T4 := mkT (colT T)
def prods (t u : Q4) : List Int := (List.range 4).map fun k => entZ t k * entZ u k
def pairZ (t u : Q4) : Int := (prods t u).sum
theorem pair_eq (t u : Q4) : pairZ t u = t.1 * u.1 + t.2.1 * u.2.1 + t.2.2.1 * u.2.2.1 + t.2.2.2 * u.2.2.2 := by
  show t.1 * u.1 + (t.2.1 * u.2.1 + (t.2.2.1 * u.2.2.1 + (t.2.2.2 * u.2.2.2 + 0))) = _
  omega
def ledT (T : T4) (p : Q4) : Q4 := mkZ fun i => pairZ (rowT T i) p
def prodT (T O : T4) : T4 := mkT fun i => mkZ fun j => pairZ (rowT T i) (colT O j)
def baseZ (i : Nat) : Q4 := mkZ fun j => if i = j then 1 else 0
def unitT : T4 := mkT baseZ
def keepB2 (T : T4) (x y : Nat) : Bool := decide (crossZ (colT T x) (colT T y) = crossZ (baseZ x) (baseZ y))
def keepL (T : T4) (n : Nat) : List Bool := (List.range n).map fun k => keepB2 T (k / 4) (k % 4)
def keepsT (T : T4) : Bool := (keepL T 16).all id
def partN : Nat → Nat
  | 0 => 1
  | 1 => 0
  | 2 => 3
  | _ => 2
theorem part_lt (i : Nat) : partN i < 4 := by unfold partN; split <;> decide
def sideN (x y : Nat) : Int := if (x + y) % 2 = 0 then 1 else -1
def backT (T : T4) : T4 := mkT fun x => mkZ fun y => entZ (rowT T (partN y)) (partN x) * sideN x y
def TSz (n : Nat) (T : T4) : Prop := ∀ i, i < 4 → Sz4 n (rowT T i)
theorem ent_sz {n : Nat} {t : Q4} (h : Sz4 n t) (i : Nat) : (entZ t i).natAbs < 2 ^ n := by
  obtain ⟨h1, h2, h3, h4⟩ := h
  unfold entZ
  split <;> assumption
theorem mkZ_sz {n : Nat} {f : Nat → Int} (h : ∀ i, i < 4 → (f i).natAbs < 2 ^ n) : Sz4 n (mkZ f) := ⟨h 0 (by decide), h 1 (by decide), h 2 (by decide), h 3 (by decide)⟩
theorem mkT_sz {n : Nat} {f : Nat → Q4} (h : ∀ i, i < 4 → Sz4 n (f i)) : TSz n (mkT f) := fun i hi => by rw [row_mk hi]; exact h i hi
theorem TSz.up {n m : Nat} {T : T4} (h : TSz n T) (l : n ≤ m) : TSz m T := fun i hi => (h i hi).up l
theorem col_sz {n : Nat} {T : T4} (h : TSz n T) (j : Nat) : Sz4 n (colT T j) := mkZ_sz fun i hi => ent_sz (h i hi) j
theorem pair_sz {n m : Nat} {t u : Q4} (h : Sz4 n t) (k : Sz4 m u) : (pairZ t u).natAbs < 2 ^ (n + m + 3) := by
  rw [pair_eq]
  obtain ⟨z1, z2, z3, z4⟩ := h
  obtain ⟨y1, y2, y3, y4⟩ := k
  exact sz_add (sz_add (sz_add (wide_lt z1 y1) (wide_lt z2 y2)) (Kx.up (wide_lt z3 y3) (by omega))) (Kx.up (wide_lt z4 y4) (by omega))
theorem led_sz {n m : Nat} {T : T4} {p : Q4} (h : TSz n T) (k : Sz4 m p) : Sz4 (n + m + 3) (ledT T p) := mkZ_sz fun i hi => pair_sz (h i hi) k
theorem prod_sz {n m : Nat} {T O : T4} (h : TSz n T) (k : TSz m O) : TSz (n + m + 3) (prodT T O) := mkT_sz fun i hi => mkZ_sz fun j _ => pair_sz (h i hi) (col_sz k j)
theorem side_one (x y : Nat) : sideN x y = 1 ∨ sideN x y = -1 := by unfold sideN; split <;> simp
theorem back_sz {n : Nat} {T : T4} (h : TSz n T) : TSz n (backT T) := mkT_sz fun x _ => mkZ_sz fun y _ => by
  rw [Int.natAbs_mul]
  have h1 := ent_sz (h (partN y) (part_lt y)) (partN x)
  rcases side_one x y with e | e <;> rw [e] <;> simpa using h1
/-! in memory -/
structure TabAt (H : Hp) (a : Addr) (T : T4) (rs : Nat → Addr) : Prop where
  at' : H a = some (.lst [.ref (rs 0), .ref (rs 1), .ref (rs 2), .ref (rs 3)])
  row : ∀ i, i < 4 → H (rs i) = some (.lst (cutV4 (rowT T i)))
theorem TabAt.same {H H' : Hp} {a : Addr} {T : T4} {rs : Nat → Addr} (h : TabAt H a T rs) (s : Same H H') : TabAt H' a T rs := ⟨s _ _ h.at', fun i hi => s _ _ (h.row i hi)⟩
theorem TabAt.ref {H : Hp} {a : Addr} {T : T4} {rs : Nat → Addr} (h : TabAt H a T rs) : H a = some (.lst ((List.range 4).map fun j => V.ref (rs j))) := h.at'
structure NewAt (H H' : Hp) (a : Addr) (T : T4) (rs : Nat → Addr) : Prop where
  na : H a = none
  nr : ∀ i, i < 4 → H (rs i) = none
  ds : ∀ i j, i < 4 → j < 4 → i ≠ j → rs i ≠ rs j
  tab : TabAt H' a T rs
  same : Same H H'
def TNew (T : T4) (H : Hp) (Q : VK) : Prop := ∀ (a : Addr) (rs : Nat → Addr) (H' : Hp), NewAt H H' a T rs → Q (.ref a) H'
def PNew (t : Q4) (H : Hp) (Q : VK) : Prop := ∀ (a : Addr) (H' : Hp), H a = none → Same H H' → H' a = some (.lst (cutV4 t)) → Q (.ref a) H'
theorem NewAt.before {H0 H H' : Hp} {a : Addr} {T : T4} {rs : Nat → Addr} (n : NewAt H H' a T rs) (s : Same H0 H) : NewAt H0 H' a T rs := ⟨s.free n.na, fun i hi => s.free (n.nr i hi), n.ds, n.tab, s.trans n.same⟩
theorem NewAt.after {H H1 H' : Hp} {a : Addr} {T : T4} {rs : Nat → Addr} (n : NewAt H H1 a T rs) (s : Same H1 H') : NewAt H H' a T rs := ⟨n.na, n.nr, n.ds, n.tab.same s, n.same.trans s⟩
theorem TNew.before {T : T4} {H0 H : Hp} {Q : VK} (k : TNew T H0 Q) (s : Same H0 H) : TNew T H Q := fun a rs H' n => k a rs H' (n.before s)
theorem PNew.before {t : Q4} {H0 H : Hp} {Q : VK} (k : PNew t H0 Q) (s : Same H0 H) : PNew t H Q := fun a H' n s2 e => k a H' (s.free n) (s.trans s2) e
/-- a growing table -/
def InvTb (H : Hp) (Dd : Addr) (f : Nat → Q4) : Nat → Hp → Prop := fun i h => Same H h ∧ ∃ rs : Nat → Addr, h Dd = some (.lst ((List.range i).map fun j => V.ref (rs j))) ∧ (∀ j, j < i → H (rs j) = none ∧ h (rs j) = some (.lst (cutV4 (f j))) ∧ rs j ≠ Dd) ∧ ∀ j k, j < i → k < i → j ≠ k → rs j ≠ rs k
theorem InvTb.start {H : Hp} {Dd : Addr} {f : Nat → Q4} (n : H Dd = none) : InvTb H Dd f 0 (L2.upd H Dd (.lst [])) := ⟨Same.upd n, fun _ => Dd, upd_same, fun j hj => absurd hj (Nat.not_lt_zero _), fun j k hj => absurd hj (Nat.not_lt_zero _)⟩
theorem InvTb.push {H h h2 : Hp} {Dd p : Addr} {f : Nat → Q4} {i : Nat} (z : InvTb H Dd f i h) (n : H Dd = none) (hi : i < 4) (s : Same h h2) (np : h p = none) (ep : h2 p = some (.lst (cutV4 (f i)))) :
    ∃ acc, h2 Dd = some (.lst acc) ∧ acc.length < sizeLine ∧ InvTb H Dd f (i + 1) (L2.upd h2 Dd (.lst (acc ++ [.ref p]))) := by
  obtain ⟨s1, rs, eD, hr, hd⟩ := z
  have hpD : p ≠ Dd := fun e => by rw [e, eD] at np; cases np
  have hne : ∀ j, j < i → rs j ≠ p := fun j hj e => by rw [← e, (hr j hj).2.1] at np; cases np
  refine ⟨_, s _ _ eD, small1K (by rw [List.length_map, List.length_range]; omega), Same.upd2 (s1.trans s) n, fun j => if j = i then p else rs j, ?_, fun j hj => ?_, fun j k hj hk hjk => ?_⟩
  · rw [upd_same, List.range_succ, List.map_append]
    congr 2
    congr 1
    · refine List.map_congr_left fun j hj => ?_
      have := List.mem_range.mp hj
      show V.ref (rs j) = V.ref (if j = i then p else rs j)
      rw [if_neg (by omega)]
    · simp
  · show H (if j = i then p else rs j) = none ∧ L2.upd h2 Dd _ (if j = i then p else rs j) = _ ∧ (if j = i then p else rs j) ≠ Dd
    by_cases hji : j = i
    · subst hji
      rw [if_pos rfl]
      exact ⟨s1.free np, (upd_ne hpD).trans ep, hpD⟩
    · rw [if_neg hji]
      obtain ⟨a, b, c⟩ := hr j (by omega)
      exact ⟨a, (upd_ne c).trans (s _ _ b), c⟩
  · show (if j = i then p else rs j) ≠ (if k = i then p else rs k)
    by_cases hji : j = i
    · rw [if_pos hji, if_neg (by omega)]
      exact fun e => hne k (by omega) e.symm
    · rw [if_neg hji]
      by_cases hki : k = i
      · rw [if_pos hki]
        exact hne j (by omega)
      · rw [if_neg hki]
        exact hd j k (by omega) (by omega) hjk
theorem InvTb.done {H h : Hp} {Dd : Addr} {f : Nat → Q4} (z : InvTb H Dd f 4 h) (n : H Dd = none) : ∃ rs, NewAt H h Dd (mkT f) rs := by
  obtain ⟨s, rs, eD, hr, hd⟩ := z
  exact ⟨rs, n, fun i hi => (hr i hi).1, fun i j hi hj => hd i j hi hj, ⟨eD, fun i hi => by rw [row_mk hi]; exact (hr i hi).2.1⟩, s⟩
/-- a module's tuple by its name -/
def tGT (K : PySem.W.Frag) (xs : List V) : TE := fun σ H Q => ∀ a, (∀ H, SqT K H a xs) → Q (.ref a) H
theorem pe_globT {X : Cx} {K : PySem.W.Frag} {x : Str} {xs : List V} {pos : Pos} (hK : X.K = K) (hg : Gl X x) (h : ∃ a : Addr, X.mg x = some (.ref a) ∧ ∀ H, SqT K H a xs) (hd : (x == ("__debug__" : Str)) = false := by decide) : PE X (.Name x pos) (tGT K xs) := by
  obtain ⟨a, hm, r⟩ := h
  have p := pe_glob (X := X) (pos := pos) (v := .ref a) hg hm rfl hd
  exact ⟨fun pins s σ H Q I k => p.run pins s σ H Q I (k a r)⟩
theorem ix_tupK {X : Cx} {K : PySem.W.Frag} (h : X.K = K) : IxR X (rIxT K) := h ▸ ix_tup
theorem pi_zipK {X : Cx} {K : PySem.W.Frag} {e e2 : Expr} {ta : TA} {p pos tpos : Pos} {elts : List Expr} {kk : Nat} (h : X.K = K) (hg : Gl X "zip") (hm : X.mg "zip" = none) (ha : PA X [e, e2] ta)
    (hs : starEach [e, e2] X.env = (false, eval e X.env) :: starEach [e2] X.env := by rfl) (hpl : (backTo pos (starEach [e2] X.env)).any (·.1) = false := by rfl) :
    PI X (.Tuple elts kk tpos) (.Call (.Name "zip" p) [e, e2] [] pos) (iZip K ta) := h ▸ pi_zip hg hm ha hs hpl
theorem cr_intBT {X : Cx} : CallR X (.type "int") (fun xs H Q => ∃ k, xs = [.bl k] ∧ Q (.int (if k = true then 1 else 0)) H) := fun pins s σ H xs us Q I r h => call_int1 pins s σ H xs us Q I r (.inr h)
theorem cr_sumK {X : Cx} {K : PySem.W.Frag} (h : X.K = K) (hc : X.calm = true) : CallR X (.builtin "sum") (rSum K) := h ▸ cr_sum hc
theorem cr_allK {X : Cx} {K : PySem.W.Frag} (h : X.K = K) (hc : X.calm = true) : CallR X (.builtin "all") (rAll K) := h ▸ cr_all hc
theorem cr_anyK {X : Cx} {K : PySem.W.Frag} (h : X.K = K) (hc : X.calm = true) : CallR X (.builtin "any") (rAny K) := h ▸ cr_any hc
theorem call_isKK {X : Cx} {K : PySem.W.Frag} (h : X.K = K) : CallR X (.builtin "isinstance") (rIsK K) := h ▸ call_isK
theorem cr_reprRT {X : Cx} {K : PySem.W.Frag} (h : X.K = K) (gd : X.A.guards = some []) (hu : X.A.units + 64 < cLine) : CallR X (.builtin "repr") (fun vs H Q => ∃ (x : V) (d : PyData), vs = [x] ∧ Rp K H x d ∧ Q (.str d.shown) H) := h ▸ cr_reprR gd hu
theorem pe_xkT {X : Cx} {K : PySem.W.Frag} {e : Expr} {te : TE} {pos : Pos} {n : Str} (hK : X.K = K) (he : PE X e te) (hb : attributeBase e n X.env (eval e X.env) = eval e X.env := by rfl) : PE X (.Attribute e n pos) (tXk K n te) := by
  subst hK
  exact pe_xk he hb
def spPaired : Sp := fun vs H Q _ => ∃ (p r : Addr) (t u : Q4), vs = [.ref p, .ref r] ∧ H p = some (.lst (cutV4 t)) ∧ H r = some (.lst (cutV4 u)) ∧ Sz4 400 t ∧ Sz4 400 u ∧ ∀ H', Same H H' → Q (.int (pairZ t u)) H'
def spCheckTab0 : Sp := fun vs H Q _ => ∃ (a : Addr) (T : T4) (rs : Nat → Addr), vs = [.ref a] ∧ TabAt H a T rs ∧ ∀ H', Same H H' → Q .non H'
def spTurnedO : Sp := fun vs H Q _ => ∃ (a : Addr) (T : T4) (rs : Nat → Addr), vs = [.ref a] ∧ TabAt H a T rs ∧ TNew (colsT T) H Q
def spLedPath : Sp := fun vs H Q _ => ∃ (a p : Addr) (T : T4) (rs : Nat → Addr) (t : Q4), vs = [.ref a, .ref p] ∧ TabAt H a T rs ∧ H p = some (.lst (cutV4 t)) ∧ TSz 400 T ∧ Sz4 400 t ∧ PNew (ledT T t) H Q
def spTProd : Sp := fun vs H Q _ => ∃ (a b : Addr) (T O : T4) (rs us : Nat → Addr), vs = [.ref a, .ref b] ∧ TabAt H a T rs ∧ TabAt H b O us ∧ TSz 400 T ∧ TSz 400 O ∧ TNew (prodT T O) H Q
def spUnitT : Sp := fun vs H Q _ => vs = [] ∧ TNew unitT H Q
def spKeepsT : Sp := fun vs H Q _ => ∃ (a : Addr) (T : T4) (rs : Nat → Addr), vs = [.ref a] ∧ TabAt H a T rs ∧ TSz 400 T ∧ ∀ H', Same H H' → Q (.bl (keepsT T)) H'
def spSideT : Sp := fun vs H Q _ => ∃ x y : Nat, vs = [.int x, .int y] ∧ Q (.int (sideN x y)) H
def spTBack : Sp := fun vs H Q _ => ∃ (a : Addr) (T : T4) (rs : Nat → Addr), vs = [.ref a] ∧ TabAt H a T rs ∧ TSz 400 T ∧ keepsT T = true ∧ TNew (backT T) H Q
def spTBackX (C : Addr) : Sp := fun vs H Q E => ∃ (a : Addr) (T : T4) (rs : Nat → Addr), vs = [.ref a] ∧ TabAt H a T rs ∧ TSz 400 T ∧ keepsT T = false ∧ Err H E C (.ref a)
def spLawBase : Sp := fun vs H Q _ => ∃ i : Nat, vs = [.int i] ∧ i < 4 ∧ PNew (baseZ i) H Q
end Kx
namespace Kx
open PySem PySem.Spec PyProof.Rows L2
theorem keeps_iff (T : T4) : keepsT T = true ↔ ∀ x y, x < 4 → y < 4 → keepB2 T x y = true := by
  unfold keepsT keepL
  rw [List.all_eq_true]
  constructor
  · intro h x y hx hy
    have := h (keepB2 T ((4 * x + y) / 4) ((4 * x + y) % 4)) (List.mem_map.mpr ⟨4 * x + y, List.mem_range.mpr (by omega), rfl⟩)
    rw [show (4 * x + y) / 4 = x by omega, show (4 * x + y) % 4 = y by omega] at this
    exact this
  · intro h b hb
    obtain ⟨k, hk, rfl⟩ := List.mem_map.mp hb
    have := List.mem_range.mp hk
    exact h _ _ (by omega) (by omega)
end Kx
namespace Kx
open PySem PySem.Spec PyProof.Rows L2
theorem cross_base (p : Q4) {y : Nat} (hy : y < 4) : crossZ (baseZ y) p = entZ p (partN y) * sideN 0 y := by
  rcases (show y = 0 ∨ y = 1 ∨ y = 2 ∨ y = 3 by omega) with rfl | rfl | rfl | rfl
  · show (1 : Int) * p.2.1 - 0 * p.1 + 0 * p.2.2.2 - 0 * p.2.2.1 = p.2.1 * 1
    omega
  · show (0 : Int) * p.2.1 - 1 * p.1 + 0 * p.2.2.2 - 0 * p.2.2.1 = p.1 * -1
    omega
  · show (0 : Int) * p.2.1 - 0 * p.1 + 1 * p.2.2.2 - 0 * p.2.2.1 = p.2.2.2 * 1
    omega
  · show (0 : Int) * p.2.1 - 0 * p.1 + 0 * p.2.2.2 - 1 * p.2.2.1 = p.2.2.1 * -1
    omega
def backR (T : T4) (x : Nat) : Q4 := mkZ fun y => crossZ (baseZ y) (colT T (partN x))
def negZ (t : Q4) : Q4 := mkZ fun j => 0 - entZ t j
def backF4 (T : T4) : Nat → Q4
  | 0 => backR T 0
  | 1 => negZ (backR T 1)
  | 2 => backR T 2
  | _ => negZ (backR T 3)
theorem side_shift (x y : Nat) : sideN x y = sideN 0 y * sideN x 0 := by
  unfold sideN
  by_cases hx : x % 2 = 0 <;> by_cases hy : y % 2 = 0
  · rw [if_pos (by omega), if_pos (by omega), if_pos (by omega)]; rfl
  · rw [if_neg (by omega), if_neg (by omega), if_pos (by omega)]; rfl
  · rw [if_neg (by omega), if_pos (by omega), if_neg (by omega)]; rfl
  · rw [if_pos (by omega), if_neg (by omega), if_neg (by omega)]; rfl
theorem back_ent (T : T4) {x y : Nat} (hx : x < 4) (hy : y < 4) : entZ (backR T x) y = entZ (rowT T (partN y)) (partN x) * sideN 0 y := by
  unfold backR
  rw [ent_mk hy, cross_base _ hy, colT, ent_mk (part_lt y)]
theorem back_rows (T : T4) : mkT (backF4 T) = backT T := by
  refine mkT_ext fun x hx => ?_
  have main : ∀ y, y < 4 → entZ (backF4 T x) y = entZ (rowT T (partN y)) (partN x) * sideN x y := fun y hy => by
    rw [side_shift]
    rcases (show x = 0 ∨ x = 1 ∨ x = 2 ∨ x = 3 by omega) with rfl | rfl | rfl | rfl
    · show entZ (backR T 0) y = _
      rw [back_ent T (by decide) hy, show sideN 0 0 = 1 from rfl, Int.mul_one]
    · show entZ (negZ (backR T 1)) y = _
      unfold negZ
      rw [ent_mk hy, back_ent T (by decide) hy, show sideN 1 0 = -1 from rfl, ← Int.mul_assoc]
      omega
    · show entZ (backR T 2) y = _
      rw [back_ent T (by decide) hy, show sideN 2 0 = 1 from rfl, Int.mul_one]
    · show entZ (negZ (backR T 3)) y = _
      unfold negZ
      rw [ent_mk hy, back_ent T (by decide) hy, show sideN 3 0 = -1 from rfl, ← Int.mul_assoc]
      omega
  have e : ∀ t : Q4, t = mkZ (entZ t) := fun t => rfl
  rw [e (backF4 T x)]
  exact mkZ_ext main
def InvBk (a c pf : Addr) (T0 : T4) (H1 H3 : Hp) : Nat → SV → Hp → Prop := fun i σ h => ∃ t3 : Option V, σ = [some (.ref a), some (.ref c), some (.ref pf), t3, none, none] ∧ InvTb H1 pf (backR T0) i h ∧ Keep pf H3 h
theorem Keep.upd0 {g : Addr} {H : Hp} {o : HO} : Keep g H (L2.upd H g o) := fun b u hb e => (upd_ne hb).trans e
def fun4 (a b c d : Addr) : Nat → Addr
  | 0 => a
  | 1 => b
  | 2 => c
  | _ => d
end Kx
namespace Kx
open PySem PySem.Spec PyProof.Rows L2
def tabD (T : T4) : PyData := .list [pathD T.1, pathD T.2.1, pathD T.2.2.1, pathD T.2.2.2]
theorem dp_tab {K : PySem.W.Frag} {H : Hp} {a : Addr} {T : T4} {rs : Nat → Addr} (h : TabAt H a T rs) : Dp K H (.ref a) (tabD T) := .lst (SqL.of h.at') (.cons (dp_path (h.row 0 (by decide))) (.cons (dp_path (h.row 1 (by decide))) (.cons (dp_path (h.row 2 (by decide))) (.cons (dp_path (h.row 3 (by decide))) .nil))))
theorem shaped_tab (T : T4) : SeqAt.shaped (tabD T) = true := rfl
theorem tab_show {n : Nat} {T : T4} (z : TSz n T) (l : n ≤ 1900) : (tabD T).showable = true := by
  have h0 := path_show (z 0 (by decide)) l
  have h1 := path_show (z 1 (by decide)) l
  have h2 := path_show (z 2 (by decide)) l
  have h3 := path_show (z 3 (by decide)) l
  unfold tabD
  simp only [PyData.showable, PyData.showableAll]
  rw [show (pathD T.1).showable = true from h0, show (pathD T.2.1).showable = true from h1, show (pathD T.2.2.1).showable = true from h2, show (pathD T.2.2.2).showable = true from h3]
  rfl
theorem tab_cost (T : T4) : PyData.depth (tabD T) ≤ 60 ∧ cost (tabD T) ≤ 900000 := by
  constructor
  · simp only [tabD, pathD, PyData.depth, PyData.depthAll]
    decide
  · simp only [tabD, pathD, cost, costAll]
    omega
theorem rp_tab {K : PySem.W.Frag} {H : Hp} {a : Addr} {T : T4} {rs : Nat → Addr} {n : Nat} (h : TabAt H a T rs) (z : TSz n T) (l : n ≤ 1900) : Rp K H (.ref a) (tabD T) := ⟨dp_tab h, tab_show z l, rfl, (tab_cost T).1, Nat.le_trans (tab_cost T).2 (by decide)⟩
def spRefT : Sp := fun vs H Q _ => ∃ (a : Addr) (T : T4) (rs : Nat → Addr), vs = [.ref a] ∧ TabAt H a T rs ∧ TSz 400 T ∧ keepsT T = false ∧ ∀ H', Same H H' → Q (.bl true) H'
def spOneT : Sp := fun vs H Q _ => ∃ (a : Addr) (T : T4) (rs : Nat → Addr), vs = [.ref a] ∧ TabAt H a T rs ∧ TSz 190 T ∧ ∀ H', Same H H' → Q (.bl true) H'
end Kx
namespace Kx
open PySem PySem.Spec PyProof.Rows L2
/-- no item is greater than B -/
def TB (B : Nat) (T : T4) : Prop := ∀ i j, i < 4 → j < 4 → (entZ (rowT T i) j).natAbs ≤ B
theorem TB.sz {B n : Nat} {T : T4} (h : TB B T) (l : B < 2 ^ n) : TSz n T := fun i hi => ⟨Nat.lt_of_le_of_lt (h i 0 hi (by decide)) l, Nat.lt_of_le_of_lt (h i 1 hi (by decide)) l, Nat.lt_of_le_of_lt (h i 2 hi (by decide)) l, Nat.lt_of_le_of_lt (h i 3 hi (by decide)) l⟩
theorem TB.mono {B C : Nat} {T : T4} (h : TB B T) (l : B ≤ C) : TB C T := fun i j hi hj => Nat.le_trans (h i j hi hj) l
def spStepT : Sp := fun vs H Q _ => ∃ (g a : Addr) (T : T4) (rs : Nat → Addr) (B k : Nat), vs = [.ref g, .ref a] ∧ GenAt H g k ∧ k ≤ 2 ^ 39 ∧ TabAt H a T rs ∧ TB B T ∧ B ≤ 2 ^ 60 ∧
  ∀ (r : Addr) (U : T4) (us : Nat → Addr) (H' : Hp), TabAt H' r U us → TB (5 * B) U → H r = none → GenAt H' g (k + 100) → Keep g H H' → Q (.ref r) H'
theorem Keep.tab {g a : Addr} {H H' : Hp} {T : T4} {rs : Nat → Addr} {k : Nat} (s : Keep g H H') (G : GenAt H g k) (h : TabAt H a T rs) : TabAt H' a T rs := by
  have ng : ∀ {b : Addr} {xs : List V}, H b = some (.lst xs) → (∀ x y z : Int, xs ≠ [.int x, .int y, .int z]) → b ≠ g := fun e h2 z => by
    obtain ⟨x, y, w, e2, _⟩ := G
    rw [z, e2] at e
    exact h2 _ _ _ (HO.lst.inj (Option.some.inj e)).symm
  refine ⟨s _ _ (ng h.at' (fun x y z e => by cases e)) h.at', fun i hi => s _ _ (ng (h.row i hi) (fun x y z e => by cases e)) (h.row i hi)⟩
theorem GenAt.nt {g a : Addr} {H : Hp} {T : T4} {rs : Nat → Addr} {k : Nat} (G : GenAt H g k) (h : TabAt H a T rs) : a ≠ g ∧ ∀ i, i < 4 → rs i ≠ g := by
  have ng : ∀ {b : Addr} {xs : List V}, H b = some (.lst xs) → (∀ x y z : Int, xs ≠ [.int x, .int y, .int z]) → b ≠ g := fun e h2 z => by
    obtain ⟨x, y, w, e2, _⟩ := G
    rw [z, e2] at e
    exact h2 _ _ _ (HO.lst.inj (Option.some.inj e)).symm
  exact ⟨ng h.at' (fun x y z e => by cases e), fun i hi => ng (h.row i hi) (fun x y z e => by cases e)⟩
end Kx
namespace Kx
open PySem PySem.Spec PyProof.Rows L2
theorem ent_sum (p r : Q4) (n : Int) {j : Nat} (h : j < 4) : entZ (sumZ p r n) j = entZ p j + n * entZ r j := by
  rcases (show j = 0 ∨ j = 1 ∨ j = 2 ∨ j = 3 by omega) with rfl | rfl | rfl | rfl <;> rfl
def setT (T : T4) (i : Nat) (t : Q4) : T4 := mkT fun k => if k = i then t else rowT T k
theorem TabAt.set {H : Hp} {a r : Addr} {T : T4} {rs : Nat → Addr} {i : Nat} {t : Q4} (h : TabAt H a T rs) (hi : i < 4) (hr : H r = some (.lst (cutV4 t))) :
    TabAt (L2.upd H a (.lst ([V.ref (rs 0), V.ref (rs 1), V.ref (rs 2), V.ref (rs 3)].set i (.ref r)))) a (setT T i t) (fun k => if k = i then r else rs k) := by
  have ne : ∀ {b : Addr} {u : Q4}, H b = some (.lst (cutV4 u)) → b ≠ a := fun e z => by
    rw [z, h.at'] at e
    have := HO.lst.inj (Option.some.inj e)
    cases this
  refine ⟨?_, fun k hk => ?_⟩
  · rw [upd_same]
    rcases (show i = 0 ∨ i = 1 ∨ i = 2 ∨ i = 3 by omega) with rfl | rfl | rfl | rfl <;> rfl
  · rw [setT, row_mk hk]
    by_cases e : k = i
    · show L2.upd H a _ (if k = i then r else rs k) = some (.lst (cutV4 (if k = i then t else rowT T k)))
      rw [if_pos e, if_pos e]
      exact (upd_ne (ne hr)).trans hr
    · show L2.upd H a _ (if k = i then r else rs k) = some (.lst (cutV4 (if k = i then t else rowT T k)))
      rw [if_neg e, if_neg e]
      exact (upd_ne (ne (h.row k hk))).trans (h.row k hk)
theorem TB.set {B : Nat} {T : T4} {i : Nat} {t : Q4} (h : TB B T) (ht : ∀ j, j < 4 → (entZ t j).natAbs ≤ B) : TB B (setT T i t) := fun k j hk hj => by
  rw [setT, row_mk hk]
  split
  · exact ht j hj
  · exact h k j hk hj
theorem TB.sum {B : Nat} {T : T4} {i m : Nat} {n : Int} (h : TB B T) (hi : i < 4) (hm : m < 4) (hn : n.natAbs ≤ 4) {j : Nat} (hj : j < 4) : (entZ (sumZ (rowT T i) (rowT T m) n) j).natAbs ≤ 5 * B := by
  rw [ent_sum _ _ _ hj]
  have h1 := h i j hi hj
  have h2 := h m j hm hj
  have h3 : (n * entZ (rowT T m) j).natAbs ≤ 4 * B := by
    rw [Int.natAbs_mul]
    exact Nat.mul_le_mul hn h2
  omega
theorem set_ne {xs : List V} {i : Nat} {v : V} : True := trivial
end Kx
namespace Kx
open PySem PySem.Spec PyProof.Rows L2
theorem ixN_4 {i : Nat} (h : i < 4) : ixN 4 (i : Int) = some i := by
  rcases (show i = 0 ∨ i = 1 ∨ i = 2 ∨ i = 3 by omega) with rfl | rfl | rfl | rfl <;> rfl
end Kx
namespace Kx
open PySem PySem.Spec PyProof.Rows L2
def permR : Nat → Nat
  | 0 => 2
  | 1 => 3
  | 2 => 0
  | _ => 1
theorem perm_lt (k : Nat) : permR k < 4 := by unfold permR; split <;> decide
def turnR (T : T4) : Nat → Q4
  | 0 => T.2.1
  | 1 => negZ T.1
  | 2 => T.2.2.1
  | _ => T.2.2.2
end Kx

set_option Elab.async false
set_option linter.all false
set_option maxRecDepth 100000
set_option maxHeartbeats 4000000
/-! Tables that keep crossings keep them by their rows, too. -/
namespace Kx
open PySem PySem.Spec PyProof.Rows L2
theorem pfa01 (t00 t01 t02 t03 t10 t11 t12 t13 t20 t21 t22 t23 t30 t31 t32 t33 : Int) : (t02 * t13 - t12 * t03 + t22 * t33 - t32 * t23) * (t00 * t11 - t01 * t10) - (t01 * t13 - t11 * t03 + t21 * t33 - t31 * t23) * (t00 * t12 - t02 * t10) + (t01 * t12 - t11 * t02 + t21 * t32 - t31 * t22) * (t00 * t13 - t03 * t10) + (t00 * t13 - t10 * t03 + t20 * t33 - t30 * t23) * (t01 * t12 - t02 * t11) - (t00 * t12 - t10 * t02 + t20 * t32 - t30 * t22) * (t01 * t13 - t03 * t11) + (t00 * t11 - t10 * t01 + t20 * t31 - t30 * t21) * (t02 * t13 - t03 * t12) = ((t00 * t11 - t10 * t01 + t20 * t31 - t30 * t21) * (t02 * t13 - t12 * t03 + t22 * t33 - t32 * t23) - (t00 * t12 - t10 * t02 + t20 * t32 - t30 * t22) * (t01 * t13 - t11 * t03 + t21 * t33 - t31 * t23) + (t00 * t13 - t10 * t03 + t20 * t33 - t30 * t23) * (t01 * t12 - t11 * t02 + t21 * t32 - t31 * t22)) := by grind
theorem pfa02 (t00 t01 t02 t03 t10 t11 t12 t13 t20 t21 t22 t23 t30 t31 t32 t33 : Int) : (t02 * t13 - t12 * t03 + t22 * t33 - t32 * t23) * (t00 * t21 - t01 * t20) - (t01 * t13 - t11 * t03 + t21 * t33 - t31 * t23) * (t00 * t22 - t02 * t20) + (t01 * t12 - t11 * t02 + t21 * t32 - t31 * t22) * (t00 * t23 - t03 * t20) + (t00 * t13 - t10 * t03 + t20 * t33 - t30 * t23) * (t01 * t22 - t02 * t21) - (t00 * t12 - t10 * t02 + t20 * t32 - t30 * t22) * (t01 * t23 - t03 * t21) + (t00 * t11 - t10 * t01 + t20 * t31 - t30 * t21) * (t02 * t23 - t03 * t22) = 0 := by grind
theorem pfa03 (t00 t01 t02 t03 t10 t11 t12 t13 t20 t21 t22 t23 t30 t31 t32 t33 : Int) : (t02 * t13 - t12 * t03 + t22 * t33 - t32 * t23) * (t00 * t31 - t01 * t30) - (t01 * t13 - t11 * t03 + t21 * t33 - t31 * t23) * (t00 * t32 - t02 * t30) + (t01 * t12 - t11 * t02 + t21 * t32 - t31 * t22) * (t00 * t33 - t03 * t30) + (t00 * t13 - t10 * t03 + t20 * t33 - t30 * t23) * (t01 * t32 - t02 * t31) - (t00 * t12 - t10 * t02 + t20 * t32 - t30 * t22) * (t01 * t33 - t03 * t31) + (t00 * t11 - t10 * t01 + t20 * t31 - t30 * t21) * (t02 * t33 - t03 * t32) = 0 := by grind
theorem pfa12 (t00 t01 t02 t03 t10 t11 t12 t13 t20 t21 t22 t23 t30 t31 t32 t33 : Int) : (t02 * t13 - t12 * t03 + t22 * t33 - t32 * t23) * (t10 * t21 - t11 * t20) - (t01 * t13 - t11 * t03 + t21 * t33 - t31 * t23) * (t10 * t22 - t12 * t20) + (t01 * t12 - t11 * t02 + t21 * t32 - t31 * t22) * (t10 * t23 - t13 * t20) + (t00 * t13 - t10 * t03 + t20 * t33 - t30 * t23) * (t11 * t22 - t12 * t21) - (t00 * t12 - t10 * t02 + t20 * t32 - t30 * t22) * (t11 * t23 - t13 * t21) + (t00 * t11 - t10 * t01 + t20 * t31 - t30 * t21) * (t12 * t23 - t13 * t22) = 0 := by grind
theorem pfa13 (t00 t01 t02 t03 t10 t11 t12 t13 t20 t21 t22 t23 t30 t31 t32 t33 : Int) : (t02 * t13 - t12 * t03 + t22 * t33 - t32 * t23) * (t10 * t31 - t11 * t30) - (t01 * t13 - t11 * t03 + t21 * t33 - t31 * t23) * (t10 * t32 - t12 * t30) + (t01 * t12 - t11 * t02 + t21 * t32 - t31 * t22) * (t10 * t33 - t13 * t30) + (t00 * t13 - t10 * t03 + t20 * t33 - t30 * t23) * (t11 * t32 - t12 * t31) - (t00 * t12 - t10 * t02 + t20 * t32 - t30 * t22) * (t11 * t33 - t13 * t31) + (t00 * t11 - t10 * t01 + t20 * t31 - t30 * t21) * (t12 * t33 - t13 * t32) = 0 := by grind
theorem pfa23 (t00 t01 t02 t03 t10 t11 t12 t13 t20 t21 t22 t23 t30 t31 t32 t33 : Int) : (t02 * t13 - t12 * t03 + t22 * t33 - t32 * t23) * (t20 * t31 - t21 * t30) - (t01 * t13 - t11 * t03 + t21 * t33 - t31 * t23) * (t20 * t32 - t22 * t30) + (t01 * t12 - t11 * t02 + t21 * t32 - t31 * t22) * (t20 * t33 - t23 * t30) + (t00 * t13 - t10 * t03 + t20 * t33 - t30 * t23) * (t21 * t32 - t22 * t31) - (t00 * t12 - t10 * t02 + t20 * t32 - t30 * t22) * (t21 * t33 - t23 * t31) + (t00 * t11 - t10 * t01 + t20 * t31 - t30 * t21) * (t22 * t33 - t23 * t32) = ((t00 * t11 - t10 * t01 + t20 * t31 - t30 * t21) * (t02 * t13 - t12 * t03 + t22 * t33 - t32 * t23) - (t00 * t12 - t10 * t02 + t20 * t32 - t30 * t22) * (t01 * t13 - t11 * t03 + t21 * t33 - t31 * t23) + (t00 * t13 - t10 * t03 + t20 * t33 - t30 * t23) * (t01 * t12 - t11 * t02 + t21 * t32 - t31 * t22)) := by grind
theorem base_cross : ∀ x, x < 4 → ∀ y, y < 4 → crossZ (baseZ x) (baseZ y) = (if x = 0 ∧ y = 1 ∨ x = 2 ∧ y = 3 then 1 else if x = 1 ∧ y = 0 ∨ x = 3 ∧ y = 2 then -1 else 0) := by decide
theorem keep_at {T : T4} (h : keepsT T = true) {x y : Nat} (hx : x < 4) (hy : y < 4) : crossZ (colT T x) (colT T y) = crossZ (baseZ x) (baseZ y) := of_decide_eq_true ((keeps_iff T).mp h x y hx hy)
theorem rows_keep {T : T4} (h : keepsT T = true) : T.1.1 * T.2.1.2.1 - T.1.2.1 * T.2.1.1 + (T.1.2.2.1 * T.2.1.2.2.2 - T.1.2.2.2 * T.2.1.2.2.1) = 1 ∧ T.1.1 * T.2.2.1.2.1 - T.1.2.1 * T.2.2.1.1 + (T.1.2.2.1 * T.2.2.1.2.2.2 - T.1.2.2.2 * T.2.2.1.2.2.1) = 0 ∧ T.1.1 * T.2.2.2.2.1 - T.1.2.1 * T.2.2.2.1 + (T.1.2.2.1 * T.2.2.2.2.2.2 - T.1.2.2.2 * T.2.2.2.2.2.1) = 0 ∧ T.2.1.1 * T.2.2.1.2.1 - T.2.1.2.1 * T.2.2.1.1 + (T.2.1.2.2.1 * T.2.2.1.2.2.2 - T.2.1.2.2.2 * T.2.2.1.2.2.1) = 0 ∧ T.2.1.1 * T.2.2.2.2.1 - T.2.1.2.1 * T.2.2.2.1 + (T.2.1.2.2.1 * T.2.2.2.2.2.2 - T.2.1.2.2.2 * T.2.2.2.2.2.1) = 0 ∧ T.2.2.1.1 * T.2.2.2.2.1 - T.2.2.1.2.1 * T.2.2.2.1 + (T.2.2.1.2.2.1 * T.2.2.2.2.2.2 - T.2.2.1.2.2.2 * T.2.2.2.2.2.1) = 1 := by
  have w01 : T.1.1 * T.2.1.2.1 - T.2.1.1 * T.1.2.1 + T.2.2.1.1 * T.2.2.2.2.1 - T.2.2.2.1 * T.2.2.1.2.1 = 1 := (keep_at h (x := 0) (y := 1) (by decide) (by decide)).trans (by decide)
  have w02 : T.1.1 * T.2.1.2.2.1 - T.2.1.1 * T.1.2.2.1 + T.2.2.1.1 * T.2.2.2.2.2.1 - T.2.2.2.1 * T.2.2.1.2.2.1 = 0 := (keep_at h (x := 0) (y := 2) (by decide) (by decide)).trans (by decide)
  have w03 : T.1.1 * T.2.1.2.2.2 - T.2.1.1 * T.1.2.2.2 + T.2.2.1.1 * T.2.2.2.2.2.2 - T.2.2.2.1 * T.2.2.1.2.2.2 = 0 := (keep_at h (x := 0) (y := 3) (by decide) (by decide)).trans (by decide)
  have w12 : T.1.2.1 * T.2.1.2.2.1 - T.2.1.2.1 * T.1.2.2.1 + T.2.2.1.2.1 * T.2.2.2.2.2.1 - T.2.2.2.2.1 * T.2.2.1.2.2.1 = 0 := (keep_at h (x := 1) (y := 2) (by decide) (by decide)).trans (by decide)
  have w13 : T.1.2.1 * T.2.1.2.2.2 - T.2.1.2.1 * T.1.2.2.2 + T.2.2.1.2.1 * T.2.2.2.2.2.2 - T.2.2.2.2.1 * T.2.2.1.2.2.2 = 0 := (keep_at h (x := 1) (y := 3) (by decide) (by decide)).trans (by decide)
  have w23 : T.1.2.2.1 * T.2.1.2.2.2 - T.2.1.2.2.1 * T.1.2.2.2 + T.2.2.1.2.2.1 * T.2.2.2.2.2.2 - T.2.2.2.2.2.1 * T.2.2.1.2.2.2 = 1 := (keep_at h (x := 2) (y := 3) (by decide) (by decide)).trans (by decide)
  have p01 := pfa01 (T.1.1) (T.1.2.1) (T.1.2.2.1) (T.1.2.2.2) (T.2.1.1) (T.2.1.2.1) (T.2.1.2.2.1) (T.2.1.2.2.2) (T.2.2.1.1) (T.2.2.1.2.1) (T.2.2.1.2.2.1) (T.2.2.1.2.2.2) (T.2.2.2.1) (T.2.2.2.2.1) (T.2.2.2.2.2.1) (T.2.2.2.2.2.2)
  rw [w01, w02, w03, w12, w13, w23] at p01
  have p02 := pfa02 (T.1.1) (T.1.2.1) (T.1.2.2.1) (T.1.2.2.2) (T.2.1.1) (T.2.1.2.1) (T.2.1.2.2.1) (T.2.1.2.2.2) (T.2.2.1.1) (T.2.2.1.2.1) (T.2.2.1.2.2.1) (T.2.2.1.2.2.2) (T.2.2.2.1) (T.2.2.2.2.1) (T.2.2.2.2.2.1) (T.2.2.2.2.2.2)
  rw [w01, w02, w03, w12, w13, w23] at p02
  have p03 := pfa03 (T.1.1) (T.1.2.1) (T.1.2.2.1) (T.1.2.2.2) (T.2.1.1) (T.2.1.2.1) (T.2.1.2.2.1) (T.2.1.2.2.2) (T.2.2.1.1) (T.2.2.1.2.1) (T.2.2.1.2.2.1) (T.2.2.1.2.2.2) (T.2.2.2.1) (T.2.2.2.2.1) (T.2.2.2.2.2.1) (T.2.2.2.2.2.2)
  rw [w01, w02, w03, w12, w13, w23] at p03
  have p12 := pfa12 (T.1.1) (T.1.2.1) (T.1.2.2.1) (T.1.2.2.2) (T.2.1.1) (T.2.1.2.1) (T.2.1.2.2.1) (T.2.1.2.2.2) (T.2.2.1.1) (T.2.2.1.2.1) (T.2.2.1.2.2.1) (T.2.2.1.2.2.2) (T.2.2.2.1) (T.2.2.2.2.1) (T.2.2.2.2.2.1) (T.2.2.2.2.2.2)
  rw [w01, w02, w03, w12, w13, w23] at p12
  have p13 := pfa13 (T.1.1) (T.1.2.1) (T.1.2.2.1) (T.1.2.2.2) (T.2.1.1) (T.2.1.2.1) (T.2.1.2.2.1) (T.2.1.2.2.2) (T.2.2.1.1) (T.2.2.1.2.1) (T.2.2.1.2.2.1) (T.2.2.1.2.2.2) (T.2.2.2.1) (T.2.2.2.2.1) (T.2.2.2.2.2.1) (T.2.2.2.2.2.2)
  rw [w01, w02, w03, w12, w13, w23] at p13
  have p23 := pfa23 (T.1.1) (T.1.2.1) (T.1.2.2.1) (T.1.2.2.2) (T.2.1.1) (T.2.1.2.1) (T.2.1.2.2.1) (T.2.1.2.2.2) (T.2.2.1.1) (T.2.2.1.2.1) (T.2.2.1.2.2.1) (T.2.2.1.2.2.2) (T.2.2.2.1) (T.2.2.2.2.1) (T.2.2.2.2.2.1) (T.2.2.2.2.2.2)
  rw [w01, w02, w03, w12, w13, w23] at p23
  refine ⟨?_, ?_, ?_, ?_, ?_, ?_⟩ <;> omega
theorem prod_back {T : T4} (h : keepsT T = true) : prodT T (backT T) = unitT := by
  obtain ⟨r01, r02, r03, r12, r13, r23⟩ := rows_keep h
  refine mkT_ext fun i hi => mkZ_ext fun j hj => ?_
  rw [pair_eq]
  rcases (show i = 0 ∨ i = 1 ∨ i = 2 ∨ i = 3 by omega) with rfl | rfl | rfl | rfl <;> rcases (show j = 0 ∨ j = 1 ∨ j = 2 ∨ j = 3 by omega) with rfl | rfl | rfl | rfl
  · show T.1.1 * (T.2.1.2.1 * 1) + T.1.2.1 * (T.2.1.1 * -1) + T.1.2.2.1 * (T.2.1.2.2.2 * 1) + T.1.2.2.2 * (T.2.1.2.2.1 * -1) = 1
    grind
  · show T.1.1 * (T.1.2.1 * -1) + T.1.2.1 * (T.1.1 * 1) + T.1.2.2.1 * (T.1.2.2.2 * -1) + T.1.2.2.2 * (T.1.2.2.1 * 1) = 0
    grind
  · show T.1.1 * (T.2.2.2.2.1 * 1) + T.1.2.1 * (T.2.2.2.1 * -1) + T.1.2.2.1 * (T.2.2.2.2.2.2 * 1) + T.1.2.2.2 * (T.2.2.2.2.2.1 * -1) = 0
    grind
  · show T.1.1 * (T.2.2.1.2.1 * -1) + T.1.2.1 * (T.2.2.1.1 * 1) + T.1.2.2.1 * (T.2.2.1.2.2.2 * -1) + T.1.2.2.2 * (T.2.2.1.2.2.1 * 1) = 0
    grind
  · show T.2.1.1 * (T.2.1.2.1 * 1) + T.2.1.2.1 * (T.2.1.1 * -1) + T.2.1.2.2.1 * (T.2.1.2.2.2 * 1) + T.2.1.2.2.2 * (T.2.1.2.2.1 * -1) = 0
    grind
  · show T.2.1.1 * (T.1.2.1 * -1) + T.2.1.2.1 * (T.1.1 * 1) + T.2.1.2.2.1 * (T.1.2.2.2 * -1) + T.2.1.2.2.2 * (T.1.2.2.1 * 1) = 1
    grind
  · show T.2.1.1 * (T.2.2.2.2.1 * 1) + T.2.1.2.1 * (T.2.2.2.1 * -1) + T.2.1.2.2.1 * (T.2.2.2.2.2.2 * 1) + T.2.1.2.2.2 * (T.2.2.2.2.2.1 * -1) = 0
    grind
  · show T.2.1.1 * (T.2.2.1.2.1 * -1) + T.2.1.2.1 * (T.2.2.1.1 * 1) + T.2.1.2.2.1 * (T.2.2.1.2.2.2 * -1) + T.2.1.2.2.2 * (T.2.2.1.2.2.1 * 1) = 0
    grind
  · show T.2.2.1.1 * (T.2.1.2.1 * 1) + T.2.2.1.2.1 * (T.2.1.1 * -1) + T.2.2.1.2.2.1 * (T.2.1.2.2.2 * 1) + T.2.2.1.2.2.2 * (T.2.1.2.2.1 * -1) = 0
    grind
  · show T.2.2.1.1 * (T.1.2.1 * -1) + T.2.2.1.2.1 * (T.1.1 * 1) + T.2.2.1.2.2.1 * (T.1.2.2.2 * -1) + T.2.2.1.2.2.2 * (T.1.2.2.1 * 1) = 0
    grind
  · show T.2.2.1.1 * (T.2.2.2.2.1 * 1) + T.2.2.1.2.1 * (T.2.2.2.1 * -1) + T.2.2.1.2.2.1 * (T.2.2.2.2.2.2 * 1) + T.2.2.1.2.2.2 * (T.2.2.2.2.2.1 * -1) = 1
    grind
  · show T.2.2.1.1 * (T.2.2.1.2.1 * -1) + T.2.2.1.2.1 * (T.2.2.1.1 * 1) + T.2.2.1.2.2.1 * (T.2.2.1.2.2.2 * -1) + T.2.2.1.2.2.2 * (T.2.2.1.2.2.1 * 1) = 0
    grind
  · show T.2.2.2.1 * (T.2.1.2.1 * 1) + T.2.2.2.2.1 * (T.2.1.1 * -1) + T.2.2.2.2.2.1 * (T.2.1.2.2.2 * 1) + T.2.2.2.2.2.2 * (T.2.1.2.2.1 * -1) = 0
    grind
  · show T.2.2.2.1 * (T.1.2.1 * -1) + T.2.2.2.2.1 * (T.1.1 * 1) + T.2.2.2.2.2.1 * (T.1.2.2.2 * -1) + T.2.2.2.2.2.2 * (T.1.2.2.1 * 1) = 0
    grind
  · show T.2.2.2.1 * (T.2.2.2.2.1 * 1) + T.2.2.2.2.1 * (T.2.2.2.1 * -1) + T.2.2.2.2.2.1 * (T.2.2.2.2.2.2 * 1) + T.2.2.2.2.2.2 * (T.2.2.2.2.2.1 * -1) = 0
    grind
  · show T.2.2.2.1 * (T.2.2.1.2.1 * -1) + T.2.2.2.2.1 * (T.2.2.1.1 * 1) + T.2.2.2.2.2.1 * (T.2.2.1.2.2.2 * -1) + T.2.2.2.2.2.2 * (T.2.2.1.2.2.1 * 1) = 1
    grind
end Kx
namespace Kx
open PySem PySem.Spec PyProof.Rows L2
structure TItm where
  a : Addr
  T : T4
  rs : Nat → Addr
def TabsOk (H : Hp) (L : List TItm) : Prop := ∀ t ∈ L, TabAt H t.a t.T t.rs ∧ TSz 100 t.T
theorem TabsOk.same {H H' : Hp} {L : List TItm} (h : TabsOk H L) (s : Same H H') : TabsOk H' L := fun t ht => ⟨(h t ht).1.same s, (h t ht).2⟩
theorem TabsOk.keep {H H' : Hp} {g : Addr} {k : Nat} {L : List TItm} (h : TabsOk H L) (G : GenAt H g k) (s : Keep g H H') : TabsOk H' L := fun t ht => ⟨s.tab G (h t ht).1, (h t ht).2⟩
/-- the first loop -/
def InvM1 (g pm : Addr) (k : Nat) (H : Hp) : Nat → SV → Hp → Prop := fun i σ h => ∃ (ta : Addr) (T : T4) (rs : Nat → Addr) (ms : List TItm) (t3 : Option V), σ = [some (.ref g), some (.ref ta), some (.ref pm), t3, none, none, none, none, none, none, none, none, none, none, none, none, none, none, none, none, none, none] ∧
  TabAt h ta T rs ∧ TB (5 ^ i) T ∧ ta ≠ pm ∧ h pm = some (.lst (ms.map fun m => V.ref m.a)) ∧ ms.length = i ∧ (∀ m ∈ ms, TabAt h m.a m.T m.rs ∧ TB (5 ^ 13) m.T ∧ m.a ≠ pm) ∧ GenAt h g (k + 100 * i) ∧ Keep g H h
theorem row_ne {H : Hp} {pm : Addr} {as : List Addr} {a : Addr} {T : T4} {rs : Nat → Addr} (h : TabAt H a T rs) (e : H pm = some (.lst (as.map V.ref))) : ∀ i, i < 4 → rs i ≠ pm := fun i hi z => by
  have := h.row i hi
  rw [z, e] at this
  have := HO.lst.inj (Option.some.inj this)
  cases as with
  | nil => cases this
  | cons x l => cases this
theorem TabAt.upd {H : Hp} {pm : Addr} {as : List Addr} {o : HO} {a : Addr} {T : T4} {rs : Nat → Addr} (h : TabAt H a T rs) (e : H pm = some (.lst (as.map V.ref))) (n : a ≠ pm) : TabAt (L2.upd H pm o) a T rs := ⟨(upd_ne n).trans h.at', fun i hi => (upd_ne (row_ne h e i hi)).trans (h.row i hi)⟩
/-- rows of drawn numbers -/
def InvDw (g Dd : Addr) (k : Nat) (H : Hp) : Nat → Hp → Prop := fun i h => ∃ (rs : Nat → Addr) (f : Nat → Q4), h Dd = some (.lst ((List.range i).map fun j => V.ref (rs j))) ∧ (∀ j, j < i → h (rs j) = some (.lst (cutV4 (f j))) ∧ rs j ≠ Dd ∧ rs j ≠ g ∧ Sz4 20 (f j)) ∧ GenAt h g (k + 100 * i) ∧ Keep g H h ∧ Dd ≠ g
theorem set_row {t : Q4} {j : Nat} {v : Int} (hj : j < 4) : (cutV4 t).set j (.int v) = cutV4 (mkZ fun k => if k = j then v else entZ t k) := by
  rcases (show j = 0 ∨ j = 1 ∨ j = 2 ∨ j = 3 by omega) with rfl | rfl | rfl | rfl <;> rfl
theorem NewAt.setRow {H H' : Hp} {a : Addr} {T : T4} {rs : Nat → Addr} {i : Nat} {t : Q4} (n : NewAt H H' a T rs) (hi : i < 4) : TabAt (L2.upd H' (rs i) (.lst (cutV4 t))) a (setT T i t) rs := by
  have hne : a ≠ rs i := fun e => by
    have h1 := n.tab.at'
    have h2 := n.tab.row i hi
    rw [← e, h1] at h2
    have := HO.lst.inj (Option.some.inj h2)
    cases this
  refine ⟨(upd_ne hne).trans n.tab.at', fun k hk => ?_⟩
  rw [setT, row_mk hk]
  by_cases e : k = i
  · rw [if_pos e, e]
    exact upd_same
  · rw [if_neg e]
    exact (upd_ne (n.ds k i hk hi e)).trans (n.tab.row k hk)
theorem assoc_led (T O : T4) (p : Q4) : ledT (prodT T O) p = ledT T (ledT O p) := by
  refine mkZ_ext fun i hi => ?_
  rw [prodT, row_mk hi, pair_eq, pair_eq]
  generalize rowT T i = r
  have c : ∀ j, colT O j = mkZ fun i => entZ (rowT O i) j := fun _ => rfl
  show pairZ r (colT O 0) * p.1 + pairZ r (colT O 1) * p.2.1 + pairZ r (colT O 2) * p.2.2.1 + pairZ r (colT O 3) * p.2.2.2 = r.1 * pairZ O.1 p + r.2.1 * pairZ O.2.1 p + r.2.2.1 * pairZ O.2.2.1 p + r.2.2.2 * pairZ O.2.2.2 p
  simp only [pair_eq]
  show (r.1 * O.1.1 + r.2.1 * O.2.1.1 + r.2.2.1 * O.2.2.1.1 + r.2.2.2 * O.2.2.2.1) * p.1 + (r.1 * O.1.2.1 + r.2.1 * O.2.1.2.1 + r.2.2.1 * O.2.2.1.2.1 + r.2.2.2 * O.2.2.2.2.1) * p.2.1 + (r.1 * O.1.2.2.1 + r.2.1 * O.2.1.2.2.1 + r.2.2.1 * O.2.2.1.2.2.1 + r.2.2.2 * O.2.2.2.2.2.1) * p.2.2.1 + (r.1 * O.1.2.2.2 + r.2.1 * O.2.1.2.2.2 + r.2.2.1 * O.2.2.1.2.2.2 + r.2.2.2 * O.2.2.2.2.2.2) * p.2.2.2 = _
  grind
theorem TB.one : TB 1 unitT := fun i j hi hj => by
  rw [unitT, row_mk hi, baseZ, ent_mk hj]
  split <;> decide
/-- lists to which something is appended -/
def KeepS (S : List Addr) (H h : Hp) : Prop := ∀ b o, b ∉ S → H b = some o → h b = some o
def InvEnd (pre : SV) (post : SV) (S : List Addr) (H : Hp) : Nat → SV → Hp → Prop := fun i σ h => ∃ t : Option V, σ = pre ++ t :: post ∧ KeepS S H h ∧ ∀ b ∈ S, ∃ ys : List V, h b = some (.lst ys) ∧ ys.length ≤ 4 + i
def InvOne (pre : SV) (post : SV) (H : Hp) : Nat → SV → Hp → Prop := fun _ σ h => ∃ t : Option V, σ = pre ++ t :: post ∧ Same H h
theorem rp_pt {K : PySem.W.Frag} {H : Hp} {L p a : Addr} {t : Q4} {T : T4} {rs : Nat → Addr} {n : Nat} (e : H L = some (.lst [.ref p, .ref a])) (hp : H p = some (.lst (cutV4 t))) (hT : TabAt H a T rs) (zt : Sz4 n t) (zT : TSz n T) (l : n ≤ 1900) : Rp K H (.ref L) (.list [pathD t, tabD T]) := by
  refine ⟨.lst (SqL.of e) (.cons (dp_path hp) (.cons (dp_tab hT) .nil)), ?_, rfl, ?_, ?_⟩
  · simp only [PyData.showable, PyData.showableAll, path_show zt l, tab_show zT l, Bool.and_self]
  · simp only [tabD, pathD, PyData.depth, PyData.depthAll]
    decide
  · have := (tab_cost T).2
    simp only [cost, costAll, pathD] at *
    omega
def spRightT : Sp := fun vs H Q _ => ∃ (g : Addr) (k : Nat), vs = [.ref g] ∧ GenAt H g k ∧ k ≤ 2 ^ 30 ∧ ∀ H', Keep g H H' → Q (.bl true) H'
def InvLw43 (a : Addr) (ns : List Int) (K : PySem.W.Frag) : Nat → SV → Hp → Prop := fun _ σ h => ∃ t1 : Option V, σ = [some (.ref a), t1] ∧ SqL K h a (ns.map V.int)
end Kx
namespace Kx
open PySem PySem.Spec PyProof.Rows L2
theorem sqL_keepT {K : PySem.W.Frag} {H H1 H2 : Hp} {a g : Addr} {xs : List V} (hS : SqL K H a xs) (ng : H g = none) (s : Same H H1) (k : Keep g H1 H2) : SqL K H2 a xs := by
  rcases hS with h | h
  · rcases h with h | ⟨o, h⟩
    · exact .inl (.inl (k _ _ (fun e => by rw [e, ng] at h; cases h) (s _ _ h)))
    · exact .inl (.inr ⟨o, k _ _ (fun e => by rw [e, ng] at h; cases h) (s _ _ h)⟩)
  · exact .inr h
end Kx

set_option Elab.async false
set_option linter.all false
set_option maxRecDepth 100000
set_option maxHeartbeats 4000000
set_option exponentiation.threshold 4000
namespace L43
open PySem PySem.Spec PyProof.Rows L2 Kx

def top (i : Nat) : Stmt := PySem.Challenge.pw_slitsheets_k43_tables_that_keep_crossing.main.body.getD i (.Pass ⟨0, 0, 0, 0⟩)

abbrev s_IsWhole : Stmt := top 5

abbrev N_IsWhole : List Str := ["value"]

theorem scIsWhole : FnScope ["value"] ["value"] (defScope s_IsWhole) := ⟨rfl, rfl, rfl, by decide +kernel, rfl, by decide +kernel, by decide +kernel⟩

abbrev s_Crossing : Stmt := top 7

abbrev N_Crossing : List Str := ["one", "other"]

theorem scCrossing : FnScope ["one", "other"] ["one", "other"] (defScope s_Crossing) := ⟨rfl, rfl, rfl, by decide +kernel, rfl, by decide +kernel, by decide +kernel⟩

abbrev s_IsPath : Stmt := top 8

abbrev N_IsPath : List Str := ["value", "item"]

theorem scIsPath : FnScope ["value", "item"] ["value"] (defScope s_IsPath) := ⟨rfl, rfl, rfl, by decide +kernel, rfl, by decide +kernel, by decide +kernel⟩

abbrev s_CheckPath : Stmt := top 9

abbrev N_CheckPath : List Str := ["path"]

theorem scCheckPath : FnScope ["path"] ["path"] (defScope s_CheckPath) := ⟨rfl, rfl, rfl, by decide +kernel, rfl, by decide +kernel, by decide +kernel⟩

abbrev s_LedPath : Stmt := top 12

abbrev N_LedPath : List Str := ["table", "path", "row"]

theorem scLedPath : FnScope ["table", "path", "row"] ["table", "path"] (defScope s_LedPath) := ⟨rfl, rfl, rfl, by decide +kernel, rfl, by decide +kernel, by decide +kernel⟩

abbrev s_TableProduct : Stmt := top 13

abbrev N_TableProduct : List Str := ["one", "other", "columns", "row", "column"]

theorem scTableProduct : FnScope ["one", "other", "columns", "row", "column"] ["one", "other"] (defScope s_TableProduct) := ⟨rfl, rfl, rfl, by decide +kernel, rfl, by decide +kernel, by decide +kernel⟩

abbrev s_KeepsCrossings : Stmt := top 14

abbrev N_KeepsCrossings : List Str := ["table", "base", "led", "x", "y"]

theorem scKeepsCrossings : FnScope ["table", "base", "led", "x", "y"] ["table"] (defScope s_KeepsCrossings) := ⟨rfl, rfl, rfl, by decide +kernel, rfl, by decide +kernel, by decide +kernel⟩

abbrev s_TableBack : Stmt := top 15

abbrev N_TableBack : List Str := ["table", "x", "y"]

theorem scTableBack : FnScope ["table", "x", "y"] ["table"] (defScope s_TableBack) := ⟨rfl, rfl, rfl, by decide +kernel, rfl, by decide +kernel, by decide +kernel⟩

abbrev s_UnmovingTable : Stmt := top 16

abbrev N_UnmovingTable : List Str := ["x", "y"]

theorem scUnmovingTable : FnScope ["x", "y"] [] (defScope s_UnmovingTable) := ⟨rfl, rfl, rfl, by decide +kernel, rfl, by decide +kernel, by decide +kernel⟩

abbrev s_CheckTable : Stmt := top 17

abbrev N_CheckTable : List Str := ["table", "row"]

theorem scCheckTable : FnScope ["table", "row"] ["table"] (defScope s_CheckTable) := ⟨rfl, rfl, rfl, by decide +kernel, rfl, by decide +kernel, by decide +kernel⟩

abbrev s_Paired : Stmt := top 18

abbrev N_Paired : List Str := ["row", "path", "at"]

theorem scPaired : FnScope ["row", "path", "at"] ["row", "path"] (defScope s_Paired) := ⟨rfl, rfl, rfl, by decide +kernel, rfl, by decide +kernel, by decide +kernel⟩

abbrev s_TurnedOver : Stmt := top 19

abbrev N_TurnedOver : List Str := ["table", "at", "row"]

theorem scTurnedOver : FnScope ["table", "at", "row"] ["table"] (defScope s_TurnedOver) := ⟨rfl, rfl, rfl, by decide +kernel, rfl, by decide +kernel, by decide +kernel⟩

abbrev s_CrossingSide : Stmt := top 20

abbrev N_CrossingSide : List Str := ["x", "y"]

theorem scCrossingSide : FnScope ["x", "y"] ["x", "y"] (defScope s_CrossingSide) := ⟨rfl, rfl, rfl, by decide +kernel, rfl, by decide +kernel, by decide +kernel⟩

abbrev s_LawHash : Stmt := top 22

abbrev N_LawHash : List Str := ["_law_seed", "_law_index", "_law_mixed"]

theorem scLawHash : FnScope ["_law_seed", "_law_index", "_law_mixed"] ["_law_seed", "_law_index"] (defScope s_LawHash) := ⟨rfl, rfl, rfl, by decide +kernel, rfl, by decide +kernel, by decide +kernel⟩

abbrev s_LawRandom : Stmt := top 23

abbrev N_LawRandom : List Str := ["_law_generator_here", "_law_bound", "_law_drawn", "_law_turn"]

theorem scLawRandom : FnScope ["_law_generator_here", "_law_bound", "_law_drawn", "_law_turn"] ["_law_generator_here", "_law_bound"] (defScope s_LawRandom) := ⟨rfl, rfl, rfl, by decide +kernel, rfl, by decide +kernel, by decide +kernel⟩

abbrev s_LawCell : Stmt := top 24

abbrev N_LawCell : List Str := ["_law_script", "_law_index"]

theorem scLawCell : FnScope ["_law_script", "_law_index"] ["_law_script", "_law_index"] (defScope s_LawCell) := ⟨rfl, rfl, rfl, by decide +kernel, rfl, by decide +kernel, by decide +kernel⟩

abbrev s_LawGenerator : Stmt := top 25

abbrev N_LawGenerator : List Str := ["_law_script", "_law_index", "_law_seed"]

theorem scLawGenerator : FnScope ["_law_script", "_law_index", "_law_seed"] ["_law_script", "_law_index"] (defScope s_LawGenerator) := ⟨rfl, rfl, rfl, by decide +kernel, rfl, by decide +kernel, by decide +kernel⟩

abbrev s_LawCrossing : Stmt := top 26

abbrev N_LawCrossing : List Str := ["_law_one", "_law_other"]

theorem scLawCrossing : FnScope ["_law_one", "_law_other"] ["_law_one", "_law_other"] (defScope s_LawCrossing) := ⟨rfl, rfl, rfl, by decide +kernel, rfl, by decide +kernel, by decide +kernel⟩

abbrev s_LawLed : Stmt := top 27

abbrev N_LawLed : List Str := ["_law_table", "_law_path_here", "_law_row", "_law_item", "_law_often"]

theorem scLawLed : FnScope ["_law_table", "_law_path_here", "_law_row", "_law_item", "_law_often"] ["_law_table", "_law_path_here"] (defScope s_LawLed) := ⟨rfl, rfl, rfl, by decide +kernel, rfl, by decide +kernel, by decide +kernel⟩

abbrev s_LawColumns : Stmt := top 28

abbrev N_LawColumns : List Str := ["_law_table", "_law_at", "_law_row"]

theorem scLawColumns : FnScope ["_law_table", "_law_at", "_law_row"] ["_law_table"] (defScope s_LawColumns) := ⟨rfl, rfl, rfl, by decide +kernel, rfl, by decide +kernel, by decide +kernel⟩

abbrev s_LawProduct : Stmt := top 29

abbrev N_LawProduct : List Str := ["_law_one", "_law_other", "_law_path_here"]

theorem scLawProduct : FnScope ["_law_one", "_law_other", "_law_path_here"] ["_law_one", "_law_other"] (defScope s_LawProduct) := ⟨rfl, rfl, rfl, by decide +kernel, rfl, by decide +kernel, by decide +kernel⟩

abbrev s_LawBase : Stmt := top 30

abbrev N_LawBase : List Str := ["_law_at", "_law_number"]

theorem scLawBase : FnScope ["_law_at", "_law_number"] ["_law_at"] (defScope s_LawBase) := ⟨rfl, rfl, rfl, by decide +kernel, rfl, by decide +kernel, by decide +kernel⟩

abbrev s_LawSelf : Stmt := top 31

abbrev N_LawSelf : List Str := ["_law_at"]

theorem scLawSelf : FnScope ["_law_at"] [] (defScope s_LawSelf) := ⟨rfl, rfl, rfl, by decide +kernel, rfl, by decide +kernel, by decide +kernel⟩

abbrev s_LawKeeps : Stmt := top 32

abbrev N_LawKeeps : List Str := ["_law_table", "_law_led_here", "_law_at", "_law_number"]

theorem scLawKeeps : FnScope ["_law_table", "_law_led_here", "_law_at", "_law_number"] ["_law_table"] (defScope s_LawKeeps) := ⟨rfl, rfl, rfl, by decide +kernel, rfl, by decide +kernel, by decide +kernel⟩

abbrev s_LawBack : Stmt := top 33

abbrev N_LawBack : List Str := ["_law_table", "_law_led_here", "_law_found", "_law_path_here", "_law_at", "_law_item"]

theorem scLawBack : FnScope ["_law_table", "_law_led_here", "_law_found", "_law_path_here", "_law_at", "_law_item"] ["_law_table"] (defScope s_LawBack) := ⟨rfl, rfl, rfl, by decide +kernel, rfl, by decide +kernel, by decide +kernel⟩

abbrev s_LawPath : Stmt := top 34

abbrev N_LawPath : List Str := ["_law_generator_here", "_law_most", "_law_at"]

theorem scLawPath : FnScope ["_law_generator_here", "_law_most", "_law_at"] ["_law_generator_here"] (defScope s_LawPath) := ⟨rfl, rfl, rfl, by decide +kernel, rfl, by decide +kernel, by decide +kernel⟩

abbrev s_LawStepped : Stmt := top 35

abbrev N_LawStepped : List Str := ["_law_generator_here", "_law_table", "_law_found", "_law_way", "_law_often", "_law_at", "_law_mate", "_law_row", "_law_low", "_law_high", "_law_item"]

theorem scLawStepped : FnScope ["_law_generator_here", "_law_table", "_law_found", "_law_way", "_law_often", "_law_at", "_law_mate", "_law_row", "_law_low", "_law_high", "_law_item"] ["_law_generator_here", "_law_table"] (defScope s_LawStepped) := ⟨rfl, rfl, rfl, by decide +kernel, rfl, by decide +kernel, by decide +kernel⟩

abbrev s_LawRefused : Stmt := top 36

abbrev N_LawRefused : List Str := ["_law_table", "_law_found", "error"]

theorem scLawRefused : FnScope ["_law_table", "_law_found", "error"] ["_law_table"] (defScope s_LawRefused) := ⟨rfl, rfl, rfl, by decide +kernel, rfl, by decide +kernel, by decide +kernel⟩

abbrev s_LawOneRight : Stmt := top 37

abbrev N_LawOneRight : List Str := ["_law_table", "_law_due", "_law_kept", "_law_back_here"]

theorem scLawOneRight : FnScope ["_law_table", "_law_due", "_law_kept", "_law_back_here"] ["_law_table"] (defScope s_LawOneRight) := ⟨rfl, rfl, rfl, by decide +kernel, rfl, by decide +kernel, by decide +kernel⟩

abbrev s_LawRight : Stmt := top 38

abbrev N_LawRight : List Str := ["_law_generator_here", "_law_table", "_law_made", "_law_turn", "_law_other", "_law_path_here", "_law_low", "_law_high", "_law_bent", "_law_drawn", "_law_twice", "_law_double", "_law_opposite", "_law_turned", "_law_nought", "_law_one", "_law_told", "_law_kept", "_law_some", "_law_row", "_law_at", "_law_item"]

theorem scLawRight : FnScope ["_law_generator_here", "_law_table", "_law_made", "_law_turn", "_law_other", "_law_path_here", "_law_low", "_law_high", "_law_bent", "_law_drawn", "_law_twice", "_law_double", "_law_opposite", "_law_turned", "_law_nought", "_law_one", "_law_told", "_law_kept", "_law_some", "_law_row", "_law_at", "_law_item"] ["_law_generator_here"] (defScope s_LawRight) := ⟨rfl, rfl, rfl, by decide +kernel, rfl, by decide +kernel, by decide +kernel⟩

abbrev s_Law : Stmt := top 39

abbrev N_Law : List Str := ["_law_script", "_law_index"]

theorem scLaw : FnScope ["_law_script", "_law_index"] ["_law_script"] (defScope s_Law) := ⟨rfl, rfl, rfl, by decide +kernel, rfl, by decide +kernel, by decide +kernel⟩

/-- what the top leaves of the names -/
structure Txt (K : PySem.W.Frag) (mg : Str → Option Value) : Prop where
  all : mg "all" = none
  bool : mg "bool" = none
  int : mg "int" = none
  isinstance : mg "isinstance" = none
  len : mg "len" = none
  list : mg "list" = none
  max : mg "max" = none
  range : mg "range" = none
  repr : mg "repr" = none
  sum : mg "sum" = none
  zip : mg "zip" = none
  PARTNERS : ∃ p : Addr, mg "PARTNERS" = some (.ref p) ∧ ∀ H, SqT K H p [V.int 1, V.int 0, V.int 3, V.int 2]

section
variable {P : Program} {w : World} {K : PySem.W.Frag} {mg : Str → Option Value} {base : Heap}

theorem okLawHash {f : Addr} {fd : FuncData} (F : Fun K "_law_hash" "_law_hash" s_LawHash f fd) (T : Txt K mg) : FnOk P w K mg base CX0 1 f fd ["_law_seed", "_law_index"] (spHash) := by
  refine F.ok scLawHash (fun vs H Q E h => ?_) (fun cdv A outer s H vs Q E hr h => ?_)
  · obtain ⟨a, i, rfl, _⟩ := h
    rfl
  · obtain ⟨a, i, rfl, h0, h1, h2, h3, k⟩ := h
    refine ⟨_, (pss_cons (ps_set (i := 2) scLawHash.nd rfl (Or.inl rfl) (pe_op op_mod (pe_callTy cr_int (by rfl) T.int (by decide +kernel) (pa_cons (pe_op op_add (pe_op op_add (pe_op op_add (pe_op op_mulU (pv 0) pe_int) (pe_op op_mulU (pe_op op_mulU pe_int (pv 1)) (pv 1))) (pe_op op_mulU pe_int (pv 1))) pe_int) pa_nil)) pe_int))
        (pss_cons (ps_set (i := 2) scLawHash.nd rfl (Or.inl rfl) (pe_op op_mod (pe_callTy cr_int (by rfl) T.int (by decide +kernel) (pa_cons (pe_op op_add (pe_op op_add (pe_op op_mulU (pv 2) (pv 2)) (pe_op op_mulU pe_int (pv 1))) pe_int) pa_nil)) pe_int))
        (pss_one (ps_ret (pe_op op_mod (pe_callTy cr_int (by rfl) T.int (by decide +kernel) (pa_cons (pe_op op_mulU (pv 2) pe_int) pa_nil)) pe_int))))), ?_⟩
    have e0 : start N_LawHash [.int a, .int i] = [some (.int a), some (.int i), none] := rfl
    rw [e0]
    simp only [cxK, wipe, tYes, List.map_cons, List.map_nil, rIxL, rSum, tSl, rSlL, tNoPart, tPart, exists_and_left, and_assoc, V.ref.injEq, HO.lst.injEq, HO.tup.injEq, tFor_eq, iRng1, iRng2, iList, iTup, tLc_eq, tLst, tTup, gSub, rSetL, gT, gL, gTup, gCons, gNil, atI_0, atI_1, atI_2, atI_3, List.length_cons, List.length_nil, Nat.zero_add, Nat.reduceAdd, Nat.reduceLeDiff, ixN_30, ixN_31, ixN_32, Int.reduceLT, Int.reduceLE, Int.reduceNeg, upd_same, reduceCtorEq, false_and, exists_false, or_false, false_or, tSeq, tNext, tIfS, tRet, tRetN, tDrop, tAsg, gName, tPar, tPar3, tAug, ipI, tVar, tC, tOp, tUn, tCB, tD, tDK, tCons, tNil, rI, rI0, rU, tB, tTest, tCallS, tErr, tAnd, tOr, tNot, tAndV, tOrV, tNotV, tIf, rEq, rNe, scal_ii, scal_bb, scal_ss, rGcd_eq, tBits, List.set_cons_zero, List.set_cons_succ, List.getElem?_cons_zero, List.getElem?_cons_succ, Option.some.injEq, exists_eq_left', V.int.injEq, V.bl.injEq, V.str.injEq, true_and, and_true, decide_eq_true_eq, List.cons.injEq, exists_eq_left, Bool.false_eq_true, if_false, if_true, ite_true, ite_false, Bool.not_eq_true', decide_eq_false_iff_not, Bool.not_not]
    exact ⟨cmw (by omega) (by omega) (by omega) (by omega), cmw (by omega) (by omega) (by omega) (by omega), cmw (by omega) (by omega) (by omega) (by omega), cmw (by omega) (by omega) (by omega) (by omega), cmw (by omega) (by omega) (by omega) (by omega), cmw (by omega) (by omega) (by omega) (by omega), cmw (by omega) (by omega) (by omega) (by omega), k _ (by omega) (by omega)⟩

def InvRandom (g : Addr) (n : Int) (k : Nat) (H : Hp) : Nat → SV → Hp → Prop := fun i σ H2 => ∃ (d : Int) (t : Option V), σ = [some (.ref g), some (.int n), some (.int d), t] ∧ GenAt H2 g (k + i) ∧ Keep g H H2

theorem okLawRandom {f : Addr} {fd : FuncData} (F : Fun K "_law_random" "_law_random" s_LawRandom f fd) (T : Txt K mg) {fLawHash : Addr} {fdLawHash : FuncData} (D_LawHash : DefAt P w K mg base 1 "_law_hash" fLawHash fdLawHash ["_law_seed", "_law_index"] (spHash)) : FnOk P w K mg base CX0 2 f fd ["_law_generator_here", "_law_bound"] (spRandom) := by
  refine F.ok scLawRandom (fun vs H Q E h => ?_) (fun cdv A outer s H vs Q E hr h => ?_)
  · obtain ⟨g, n, k, rfl, _⟩ := h
    rfl
  · obtain ⟨g, n, k, rfl, hG, hk, hn1, hn2, kk⟩ := h
    obtain ⟨a, b, c, hg, ha0, ha1, hb0, hb1, hc0, hc1⟩ := id hG
    refine ⟨_, (pss_cons (ps_if (pt_cmpR op_gt (pe_ix ixL (pv 0) pe_int (fun _ _ => rfl)) pe_int (nomark _)) (pss_cons (ps_set (i := 2) scLawRandom.nd rfl (Or.inl rfl) (pe_op op_mod (pe_callTy cr_int (by rfl) T.int (by decide +kernel) (pa_cons (pe_ix ixL (pv 0) pe_int (fun _ _ => rfl)) pa_nil)) (pv 1)))
        (pss_cons (ps_asg (pe_op op_fdivX (pe_ix ixL (pv 0) pe_int (fun _ _ => rfl)) (pv 1)) (pg_sub (pv 0) pe_int set_list))
        (pss_one (ps_ret (pv 2))))) pss_nil)
        (pss_cons (ps_set (i := 2) scLawRandom.nd rfl (Or.inl rfl) pe_int)
        (pss_cons (ps_for PassesOwn.never rfl (pi_range1 rfl T.range (pa_cons (pe_op op_add pe_int (pe_op op_fdivX (pe_bits (pv 1)) pe_int)) pa_nil)) (pg_name (i := 3) scLawRandom.nd rfl (Or.inl rfl)) (pss_cons (ps_asg (pe_op op_add (pe_ix ixL (pv 0) pe_int (fun _ _ => rfl)) pe_int) (pg_sub (pv 0) pe_int set_list))
        (pss_one (ps_set (i := 2) scLawRandom.nd rfl (Or.inl rfl) (pe_op op_add (pe_op op_mulU (pv 2) pe_int) (pe_d D_LawHash hr (pa_cons (pe_ix ixL (pv 0) pe_int (fun _ _ => rfl)) (pa_cons (pe_ix ixL (pv 0) pe_int (fun _ _ => rfl)) pa_nil))))))))
        (pss_one (ps_ret (pe_op op_mod (pe_callTy cr_int (by rfl) T.int (by decide +kernel) (pa_cons (pv 2) pa_nil)) (pv 1))))))), ?_⟩
    have e0 : start N_LawRandom [.ref g, .int n] = [some (.ref g), some (.int n), none, none] := rfl
    rw [e0]
    simp only [cxK, wipe, tYes, List.map_cons, List.map_nil, rIxL, rSum, tSl, rSlL, tNoPart, tPart, exists_and_left, and_assoc, V.ref.injEq, HO.lst.injEq, HO.tup.injEq, tFor_eq, iRng1, iRng2, iList, iTup, tLc_eq, tLst, tTup, gSub, rSetL, gT, gL, gTup, gCons, gNil, atI_0, atI_1, atI_2, atI_3, List.length_cons, List.length_nil, Nat.zero_add, Nat.reduceAdd, Nat.reduceLeDiff, ixN_30, ixN_31, ixN_32, Int.reduceLT, Int.reduceLE, Int.reduceNeg, upd_same, reduceCtorEq, false_and, exists_false, or_false, false_or, tSeq, tNext, tIfS, tRet, tRetN, tDrop, tAsg, gName, tPar, tPar3, tAug, ipI, tVar, tC, tOp, tUn, tCB, tD, tDK, tCons, tNil, rI, rI0, rU, tB, tTest, tCallS, tErr, tAnd, tOr, tNot, tAndV, tOrV, tNotV, tIf, rEq, rNe, scal_ii, scal_bb, scal_ss, rGcd_eq, tBits, List.set_cons_zero, List.set_cons_succ, List.getElem?_cons_zero, List.getElem?_cons_succ, Option.some.injEq, exists_eq_left', V.int.injEq, V.bl.injEq, V.str.injEq, true_and, and_true, decide_eq_true_eq, List.cons.injEq, exists_eq_left, Bool.false_eq_true, if_false, if_true, ite_true, ite_false, Bool.not_eq_true', decide_eq_false_iff_not, Bool.not_not, hg]
    refine ite2 (fun hp => ?_) (fun hp => ?_)
    · refine ⟨by omega, cdiv (by omega) (by omega) (by omega), ?_⟩
      refine kk _ _ (Int.emod_nonneg _ (by omega)) (Int.emod_lt_of_pos _ (by omega)) ⟨a.fdiv n, b, c, upd_same, ?_, ?_, hb0, hb1, hc0, by omega⟩ (fun x u hx e => by rw [upd_ne hx]; exact e)
      · exact Int.fdiv_nonneg ha0 (by omega)
      · have h1 : a.fdiv n ≤ a := by
          rw [Int.fdiv_eq_ediv_of_nonneg a (by omega)]
          exact Int.ediv_le_self n ha0
        omega
    · have hib : Builtin.Int.intBits n ≤ 300 := PyProof.Rows.intBits_le (by omega)
      have hq : (0 : Int) ≤ (((Builtin.Int.intBits n : Nat) : Int).fdiv 30) ∧ (((Builtin.Int.intBits n : Nat) : Int).fdiv 30) ≤ 10 := by
        rw [Int.fdiv_eq_ediv_of_nonneg _ (by omega)]
        omega
      generalize hqe : (((Builtin.Int.intBits n : Nat) : Int).fdiv 30) = q at hq
      refine ⟨cdiv (by omega) (by omega) (by omega), by omega, by omega, ?_⟩
      refine forW_range (InvRandom g n k H) ⟨0, none, rfl, hG, Keep.refl _ _⟩ ?_ ?_
      · rintro i σ' H' hi ⟨d, t, rfl, ⟨a2, b2, c2, hg2, p1, p2, p3, p4, p5, p6⟩, kp⟩
        simp only [cxK, wipe, tYes, List.map_cons, List.map_nil, rIxL, rSum, tSl, rSlL, tNoPart, tPart, exists_and_left, and_assoc, V.ref.injEq, HO.lst.injEq, HO.tup.injEq, tFor_eq, iRng1, iRng2, iList, iTup, tLc_eq, tLst, tTup, gSub, rSetL, gT, gL, gTup, gCons, gNil, atI_0, atI_1, atI_2, atI_3, List.length_cons, List.length_nil, Nat.zero_add, Nat.reduceAdd, Nat.reduceLeDiff, ixN_30, ixN_31, ixN_32, Int.reduceLT, Int.reduceLE, Int.reduceNeg, upd_same, reduceCtorEq, false_and, exists_false, or_false, false_or, tSeq, tNext, tIfS, tRet, tRetN, tDrop, tAsg, gName, tPar, tPar3, tAug, ipI, tVar, tC, tOp, tUn, tCB, tD, tDK, tCons, tNil, rI, rI0, rU, tB, tTest, tCallS, tErr, tAnd, tOr, tNot, tAndV, tOrV, tNotV, tIf, rEq, rNe, scal_ii, scal_bb, scal_ss, rGcd_eq, tBits, List.set_cons_zero, List.set_cons_succ, List.getElem?_cons_zero, List.getElem?_cons_succ, Option.some.injEq, exists_eq_left', V.int.injEq, V.bl.injEq, V.str.injEq, true_and, and_true, decide_eq_true_eq, List.cons.injEq, exists_eq_left, Bool.false_eq_true, if_false, if_true, ite_true, ite_false, Bool.not_eq_true', decide_eq_false_iff_not, Bool.not_not, hg2]
        unfold spHash
        refine ⟨cmr (by decide) (by decide), b2, c2 + 1, rfl, p3, p4, by omega, by omega, fun hh q1 q2 => ?_⟩
        simp only [cxK, wipe, tYes, List.map_cons, List.map_nil, rIxL, rSum, tSl, rSlL, tNoPart, tPart, exists_and_left, and_assoc, V.ref.injEq, HO.lst.injEq, HO.tup.injEq, tFor_eq, iRng1, iRng2, iList, iTup, tLc_eq, tLst, tTup, gSub, rSetL, gT, gL, gTup, gCons, gNil, atI_0, atI_1, atI_2, atI_3, List.length_cons, List.length_nil, Nat.zero_add, Nat.reduceAdd, Nat.reduceLeDiff, ixN_30, ixN_31, ixN_32, Int.reduceLT, Int.reduceLE, Int.reduceNeg, upd_same, reduceCtorEq, false_and, exists_false, or_false, false_or, tSeq, tNext, tIfS, tRet, tRetN, tDrop, tAsg, gName, tPar, tPar3, tAug, ipI, tVar, tC, tOp, tUn, tCB, tD, tDK, tCons, tNil, rI, rI0, rU, tB, tTest, tCallS, tErr, tAnd, tOr, tNot, tAndV, tOrV, tNotV, tIf, rEq, rNe, scal_ii, scal_bb, scal_ss, rGcd_eq, tBits, List.set_cons_zero, List.set_cons_succ, List.getElem?_cons_zero, List.getElem?_cons_succ, Option.some.injEq, exists_eq_left', V.int.injEq, V.bl.injEq, V.str.injEq, true_and, and_true, decide_eq_true_eq, List.cons.injEq, exists_eq_left, Bool.false_eq_true, if_false, if_true, ite_true, ite_false, Bool.not_eq_true', decide_eq_false_iff_not, Bool.not_not]
        refine ⟨_, some (.int (0 + (i : Int))), rfl, ⟨a2, b2, c2 + 1, upd_same, p1, p2, p3, p4, by omega, by omega⟩, fun x u hx e => ?_⟩
        rw [upd_ne hx]
        exact kp x u hx e
      · rintro σ' H' ⟨d, t, rfl, gA, kp⟩
        simp only [cxK, wipe, tYes, List.map_cons, List.map_nil, rIxL, rSum, tSl, rSlL, tNoPart, tPart, exists_and_left, and_assoc, V.ref.injEq, HO.lst.injEq, HO.tup.injEq, tFor_eq, iRng1, iRng2, iList, iTup, tLc_eq, tLst, tTup, gSub, rSetL, gT, gL, gTup, gCons, gNil, atI_0, atI_1, atI_2, atI_3, List.length_cons, List.length_nil, Nat.zero_add, Nat.reduceAdd, Nat.reduceLeDiff, ixN_30, ixN_31, ixN_32, Int.reduceLT, Int.reduceLE, Int.reduceNeg, upd_same, reduceCtorEq, false_and, exists_false, or_false, false_or, tSeq, tNext, tIfS, tRet, tRetN, tDrop, tAsg, gName, tPar, tPar3, tAug, ipI, tVar, tC, tOp, tUn, tCB, tD, tDK, tCons, tNil, rI, rI0, rU, tB, tTest, tCallS, tErr, tAnd, tOr, tNot, tAndV, tOrV, tNotV, tIf, rEq, rNe, scal_ii, scal_bb, scal_ss, rGcd_eq, tBits, List.set_cons_zero, List.set_cons_succ, List.getElem?_cons_zero, List.getElem?_cons_succ, Option.some.injEq, exists_eq_left', V.int.injEq, V.bl.injEq, V.str.injEq, true_and, and_true, decide_eq_true_eq, List.cons.injEq, exists_eq_left, Bool.false_eq_true, if_false, if_true, ite_true, ite_false, Bool.not_eq_true', decide_eq_false_iff_not, Bool.not_not]
        exact ⟨by omega, kk _ _ (Int.emod_nonneg _ (by omega)) (Int.emod_lt_of_pos _ (by omega)) (gA.mono (by omega)) kp⟩

theorem okLawCell {f : Addr} {fd : FuncData} (F : Fun K "_law_cell" "_law_cell" s_LawCell f fd) (T : Txt K mg) : FnOk P w K mg base CX0 1 f fd ["_law_script", "_law_index"] (spCell K) := by
  refine F.ok scLawCell (fun vs H Q E h => ?_) (fun cdv A outer s H vs Q E hr h => ?_)
  · obtain ⟨a, ns, i, rfl, _⟩ := h
    rfl
  · obtain ⟨a, ns, i, rfl, hS, h0, h1, kk⟩ := h
    refine ⟨_, (pss_cons (ps_if (pt_cmpR op_lt (pv 1) (pe_callB call_len_seq (by rfl) T.len (by decide +kernel) (pa_cons (pv 0) pa_nil)) (nomark _)) (pss_one (ps_ret (pe_ix ix_list (pv 0) (pv 1) (fun _ _ => rfl)))) pss_nil)
        (pss_one (ps_ret (pe_op op_mod (pe_callB (cr_sum rfl) (by rfl) T.sum (by decide +kernel) (pa_cons (pe_slice sl_list (pv 0) po_none (po_some pe_int)) pa_nil)) pe_int)))), ?_⟩
    have e0 : start N_LawCell [.ref a, .int i] = [some (.ref a), some (.int i)] := rfl
    rw [e0]
    simp only [cxK, wipe, tYes, List.map_cons, List.map_nil, rIxL, rSum, tSl, rSlL, tNoPart, tPart, exists_and_left, and_assoc, V.ref.injEq, HO.lst.injEq, HO.tup.injEq, tFor_eq, iRng1, iRng2, iList, iTup, tLc_eq, tLst, tTup, gSub, rSetL, gT, gL, gTup, gCons, gNil, atI_0, atI_1, atI_2, atI_3, List.length_cons, List.length_nil, Nat.zero_add, Nat.reduceAdd, Nat.reduceLeDiff, ixN_30, ixN_31, ixN_32, Int.reduceLT, Int.reduceLE, Int.reduceNeg, upd_same, reduceCtorEq, false_and, exists_false, or_false, false_or, tSeq, tNext, tIfS, tRet, tRetN, tDrop, tAsg, gName, tPar, tPar3, tAug, ipI, tVar, tC, tOp, tUn, tCB, tD, tDK, tCons, tNil, rI, rI0, rU, tB, tTest, tCallS, tErr, tAnd, tOr, tNot, tAndV, tOrV, tNotV, tIf, rEq, rNe, scal_ii, scal_bb, scal_ss, rGcd_eq, tBits, List.set_cons_zero, List.set_cons_succ, List.getElem?_cons_zero, List.getElem?_cons_succ, Option.some.injEq, exists_eq_left', V.int.injEq, V.bl.injEq, V.str.injEq, true_and, and_true, decide_eq_true_eq, List.cons.injEq, exists_eq_left, Bool.false_eq_true, if_false, if_true, ite_true, ite_false, Bool.not_eq_true', decide_eq_false_iff_not, Bool.not_not]
    refine ⟨ns.map V.int, .inl hS, ite2 (fun hp => ?_) (fun hp => ?_)⟩
    · have hi : i.toNat < ns.length := by rw [List.length_map] at hp; omega
      refine ⟨ns.map V.int, hS, .int (ns[i.toNat]), ?_, kk _ _ (Same.refl _)⟩
      exact at_of (j := i.toNat) (by omega) (by rw [List.getElem?_map, List.getElem?_eq_getElem hi]; rfl)
    · refine ⟨ns.map V.int, hS, fun p np => ⟨ns.take 1, .inl (.inl ?_), kk _ _ (Same.upd np)⟩⟩
      rw [upd_same, cut1, List.map_take]

theorem okLawGenerator {f : Addr} {fd : FuncData} (F : Fun K "_law_generator" "_law_generator" s_LawGenerator f fd) (T : Txt K mg) {fLawCell : Addr} {fdLawCell : FuncData} (D_LawCell : DefAt P w K mg base 1 "_law_cell" fLawCell fdLawCell ["_law_script", "_law_index"] (spCell K)) : FnOk P w K mg base CX0 2 f fd ["_law_script", "_law_index"] (spGen K) := by
  refine F.ok scLawGenerator (fun vs H Q E h => ?_) (fun cdv A outer s H vs Q E hr h => ?_)
  · obtain ⟨a, ns, i, rfl, _⟩ := h
    rfl
  · obtain ⟨a, ns, i, rfl, hS, h0, h1, kk⟩ := h
    refine ⟨_, (pss_cons (ps_set (i := 2) scLawGenerator.nd rfl (Or.inl rfl) (pe_d D_LawCell hr (pa_cons (pv 0) (pa_cons (pv 1) pa_nil))))
        (pss_one (ps_ret (pe_lst (pa_cons (pe_op op_mod (pe_callTy cr_int (by rfl) T.int (by decide +kernel) (pa_cons (pe_callB (call_max2 rfl) (by rfl) T.max (by decide +kernel) (pa_cons (pe_op op_sub (pv 2) (pe_op op_powX pe_int pe_int)) (pa_cons pe_int pa_nil))) pa_nil)) (pe_op op_powX (pe_op op_powX pe_int pe_int) pe_int)) (pa_cons (pe_op op_mod (pe_callTy cr_int (by rfl) T.int (by decide +kernel) (pa_cons (pv 2) pa_nil)) pe_int) (pa_cons (pe_op op_mulU pe_int (pv 1)) pa_nil))))))), ?_⟩
    have e0 : start N_LawGenerator [.ref a, .int i] = [some (.ref a), some (.int i), none] := rfl
    rw [e0]
    simp only [cxK, wipe, tYes, List.map_cons, List.map_nil, rIxL, rSum, tSl, rSlL, tNoPart, tPart, exists_and_left, and_assoc, V.ref.injEq, HO.lst.injEq, HO.tup.injEq, tFor_eq, iRng1, iRng2, iList, iTup, tLc_eq, tLst, tTup, gSub, rSetL, gT, gL, gTup, gCons, gNil, atI_0, atI_1, atI_2, atI_3, List.length_cons, List.length_nil, Nat.zero_add, Nat.reduceAdd, Nat.reduceLeDiff, ixN_30, ixN_31, ixN_32, Int.reduceLT, Int.reduceLE, Int.reduceNeg, upd_same, reduceCtorEq, false_and, exists_false, or_false, false_or, tSeq, tNext, tIfS, tRet, tRetN, tDrop, tAsg, gName, tPar, tPar3, tAug, ipI, tVar, tC, tOp, tUn, tCB, tD, tDK, tCons, tNil, rI, rI0, rU, tB, tTest, tCallS, tErr, tAnd, tOr, tNot, tAndV, tOrV, tNotV, tIf, rEq, rNe, scal_ii, scal_bb, scal_ss, rGcd_eq, tBits, List.set_cons_zero, List.set_cons_succ, List.getElem?_cons_zero, List.getElem?_cons_succ, Option.some.injEq, exists_eq_left', V.int.injEq, V.bl.injEq, V.str.injEq, true_and, and_true, decide_eq_true_eq, List.cons.injEq, exists_eq_left, Bool.false_eq_true, if_false, if_true, ite_true, ite_false, Bool.not_eq_true', decide_eq_false_iff_not, Bool.not_not]
    have hm : (0 : Int) < (10 ^ Int.toNat 60) ^ Int.toNat 10 := by decide +kernel
    have hm2 : ((10 : Int) ^ Int.toNat 60) ^ Int.toNat 10 < 2 ^ 2000 := by decide +kernel
    have hm3 : -(2 ^ 2500) < (10 : Int) ^ Int.toNat 60 := by decide +kernel
    have hm4 : (10 : Int) ^ Int.toNat 60 < 2 ^ 2500 := by decide +kernel
    refine ⟨a, ns, i, rfl, hS, h0, h1, fun r H1 s1 => ⟨cpow (by decide) (by decide) (by decide) (by decide), r, rfl, cpow (by decide) (by decide) (by decide) (by decide), cpow (by decide) (by decide) hm3 hm4, hm, r, rfl, cml (by decide) (by decide), by decide, fun p np => ?_⟩⟩
    refine kk p _ (s1.free np) (s1.trans (Same.upd np)) ⟨_, _, _, upd_same, Int.emod_nonneg _ (by omega), Int.lt_trans (Int.emod_lt_of_pos _ hm) hm2, by omega, by omega, by omega, by omega⟩

abbrev s_iInvalidList : Stmt := initOf (top 2)

theorem sciInvalidList : FnScope ["self", "value"] ["self", "value"] (defScope s_iInvalidList) := ⟨rfl, rfl, rfl, by decide +kernel, rfl, by decide +kernel, by decide +kernel⟩

theorem okiInvalidList {f C : Addr} {fd : FuncData} (F : FunD K "__init__" "InvalidList.__init__" (defArgs s_iInvalidList) (defBody s_iInvalidList) (defScope s_iInvalidList) [V.non] [] f fd) (T : OexC K C) (nv : PySem.W.findIn K (.ref C) "value" = some none) : FnOk P w K mg base CX0 1 f fd ["self", "value"] (spInit C) := by
  refine F.ok (N := ["self", "value"]) sciInvalidList (fun vs H Q E h => ?_) (fun cdv A outer s H vs Q E hr h => ?_)
  · obtain ⟨a, v, rfl, _⟩ := h
    rfl
  · obtain ⟨a, v, rfl, ha, k⟩ := h
    refine ⟨_, (pss_one (ps_ost (pv 0) (pv 1))), ?_⟩
    have e0 : start ["self", "value"] [.ref a, v] = [some (.ref a), some v] := rfl
    rw [e0]
    simp only [cxK, wipe, tYes, List.map_cons, List.map_nil, rIxL, rSum, tSl, rSlL, tNoPart, tPart, exists_and_left, and_assoc, V.ref.injEq, HO.lst.injEq, HO.tup.injEq, tFor_eq, iRng1, iRng2, iList, iTup, tLc_eq, tLst, tTup, gSub, rSetL, gT, gL, gTup, gCons, gNil, atI_0, atI_1, atI_2, atI_3, List.length_cons, List.length_nil, Nat.zero_add, Nat.reduceAdd, Nat.reduceLeDiff, ixN_30, ixN_31, ixN_32, Int.reduceLT, Int.reduceLE, Int.reduceNeg, upd_same, reduceCtorEq, false_and, exists_false, or_false, false_or, tSeq, tNext, tIfS, tRet, tRetN, tDrop, tAsg, gName, tPar, tPar3, tAug, ipI, tVar, tC, tOp, tUn, tCB, tD, tDK, tCons, tNil, rI, rI0, rU, tB, tTest, tCallS, tErr, tAnd, tOr, tNot, tAndV, tOrV, tNotV, tIf, rEq, rNe, scal_ii, scal_bb, scal_ss, rGcd_eq, tBits, List.set_cons_zero, List.set_cons_succ, List.getElem?_cons_zero, List.getElem?_cons_succ, Option.some.injEq, exists_eq_left', V.int.injEq, V.bl.injEq, V.str.injEq, true_and, and_true, decide_eq_true_eq, List.cons.injEq, exists_eq_left, Bool.false_eq_true, if_false, if_true, ite_true, ite_false, Bool.not_eq_true', decide_eq_false_iff_not, Bool.not_not, tOst]
    exact ⟨C, T, nv, .inl ⟨ha, k⟩⟩
theorem bdiInvalidList {f : Addr} {fd : FuncData} (F : FunD K "__init__" "InvalidList.__init__" (defArgs s_iInvalidList) (defBody s_iInvalidList) (defScope s_iInvalidList) [V.non] [] f fd) : Binds K fd ["self", "value"] [] ∧ (∃ ds, Vals [V.non] ds ∧ Binds K fd ["self", "value"] ds) ∧ ∀ (s : Shared) (u v : Value), K.In s.heap → BindsTo s fd ⟨[u], [("value", v)]⟩ [("self", u), ("value", v)] :=
  init_binds F (fun _ _ _ _ _ _ _ _ _ _ => ⟨_, rfl, rfl⟩) (fun _ _ _ _ _ _ _ _ _ => ⟨_, rfl, rfl⟩) (fun _ _ _ _ _ _ _ _ _ _ => ⟨_, rfl, rfl⟩)

abbrev s_iInvalidTable : Stmt := initOf (top 3)

theorem sciInvalidTable : FnScope ["self", "value"] ["self", "value"] (defScope s_iInvalidTable) := ⟨rfl, rfl, rfl, by decide +kernel, rfl, by decide +kernel, by decide +kernel⟩

theorem okiInvalidTable {f C : Addr} {fd : FuncData} (F : FunD K "__init__" "InvalidTable.__init__" (defArgs s_iInvalidTable) (defBody s_iInvalidTable) (defScope s_iInvalidTable) [V.non] [] f fd) (T : OexC K C) (nv : PySem.W.findIn K (.ref C) "value" = some none) : FnOk P w K mg base CX0 1 f fd ["self", "value"] (spInit C) := by
  refine F.ok (N := ["self", "value"]) sciInvalidTable (fun vs H Q E h => ?_) (fun cdv A outer s H vs Q E hr h => ?_)
  · obtain ⟨a, v, rfl, _⟩ := h
    rfl
  · obtain ⟨a, v, rfl, ha, k⟩ := h
    refine ⟨_, (pss_one (ps_ost (pv 0) (pv 1))), ?_⟩
    have e0 : start ["self", "value"] [.ref a, v] = [some (.ref a), some v] := rfl
    rw [e0]
    simp only [cxK, wipe, tYes, List.map_cons, List.map_nil, rIxL, rSum, tSl, rSlL, tNoPart, tPart, exists_and_left, and_assoc, V.ref.injEq, HO.lst.injEq, HO.tup.injEq, tFor_eq, iRng1, iRng2, iList, iTup, tLc_eq, tLst, tTup, gSub, rSetL, gT, gL, gTup, gCons, gNil, atI_0, atI_1, atI_2, atI_3, List.length_cons, List.length_nil, Nat.zero_add, Nat.reduceAdd, Nat.reduceLeDiff, ixN_30, ixN_31, ixN_32, Int.reduceLT, Int.reduceLE, Int.reduceNeg, upd_same, reduceCtorEq, false_and, exists_false, or_false, false_or, tSeq, tNext, tIfS, tRet, tRetN, tDrop, tAsg, gName, tPar, tPar3, tAug, ipI, tVar, tC, tOp, tUn, tCB, tD, tDK, tCons, tNil, rI, rI0, rU, tB, tTest, tCallS, tErr, tAnd, tOr, tNot, tAndV, tOrV, tNotV, tIf, rEq, rNe, scal_ii, scal_bb, scal_ss, rGcd_eq, tBits, List.set_cons_zero, List.set_cons_succ, List.getElem?_cons_zero, List.getElem?_cons_succ, Option.some.injEq, exists_eq_left', V.int.injEq, V.bl.injEq, V.str.injEq, true_and, and_true, decide_eq_true_eq, List.cons.injEq, exists_eq_left, Bool.false_eq_true, if_false, if_true, ite_true, ite_false, Bool.not_eq_true', decide_eq_false_iff_not, Bool.not_not, tOst]
    exact ⟨C, T, nv, .inl ⟨ha, k⟩⟩
theorem bdiInvalidTable {f : Addr} {fd : FuncData} (F : FunD K "__init__" "InvalidTable.__init__" (defArgs s_iInvalidTable) (defBody s_iInvalidTable) (defScope s_iInvalidTable) [V.non] [] f fd) : Binds K fd ["self", "value"] [] ∧ (∃ ds, Vals [V.non] ds ∧ Binds K fd ["self", "value"] ds) ∧ ∀ (s : Shared) (u v : Value), K.In s.heap → BindsTo s fd ⟨[u], [("value", v)]⟩ [("self", u), ("value", v)] :=
  init_binds F (fun _ _ _ _ _ _ _ _ _ _ => ⟨_, rfl, rfl⟩) (fun _ _ _ _ _ _ _ _ _ => ⟨_, rfl, rfl⟩) (fun _ _ _ _ _ _ _ _ _ _ => ⟨_, rfl, rfl⟩)

theorem okIsWhole {f : Addr} {fd : FuncData} (F : Fun K "is_whole" "is_whole" s_IsWhole f fd) (T : Txt K mg) : FnOk P w K mg base CX0 1 f fd ["value"] (spWhole) := by
  refine F.ok scIsWhole (fun vs H Q E h => ?_) (fun cdv A outer s H vs Q E hr h => ?_)
  · obtain ⟨x, rfl, _⟩ := h
    rfl
  · obtain ⟨x, rfl, ⟨t, ht⟩, kk⟩ := h
    refine ⟨_, (pss_one (ps_ret (pe_and (pe_callB call_isi (by rfl) T.isinstance (by decide +kernel) (pa_cons (pv 0) (pa_cons (pe_bltn (v := .ty "int") (u := .type "int") (by rfl) T.int (by decide +kernel) rfl) pa_nil))) (pe_one (pe_not (pe_callB call_isi (by rfl) T.isinstance (by decide +kernel) (pa_cons (pv 0) (pa_cons (pe_bltn (v := .ty "bool") (u := .type "bool") (by rfl) T.bool (by decide +kernel) rfl) pa_nil)))))))), ?_⟩
    have e0 : start N_IsWhole [x] = [some x] := rfl
    rw [e0]
    obtain ⟨ty, hm, hi⟩ := tyS_of (K := K) ht
    simp only [cxK, wipe, tYes, List.map_cons, List.map_nil, rIxL, rSum, tSl, rSlL, tNoPart, tPart, exists_and_left, and_assoc, V.ref.injEq, HO.lst.injEq, HO.tup.injEq, tFor_eq, iRng1, iRng2, iList, iTup, tLc_eq, tLst, tTup, gSub, rSetL, gT, gL, gTup, gCons, gNil, atI_0, atI_1, atI_2, atI_3, List.length_cons, List.length_nil, Nat.zero_add, Nat.reduceAdd, Nat.reduceLeDiff, ixN_30, ixN_31, ixN_32, Int.reduceLT, Int.reduceLE, Int.reduceNeg, upd_same, reduceCtorEq, false_and, exists_false, or_false, false_or, tSeq, tNext, tIfS, tRet, tRetN, tDrop, tAsg, gName, tPar, tPar3, tAug, ipI, tVar, tC, tOp, tUn, tCB, tD, tDK, tCons, tNil, rI, rI0, rU, tB, tTest, tCallS, tErr, tAnd, tOr, tNot, tAndV, tOrV, tNotV, tIf, rEq, rNe, scal_ii, scal_bb, scal_ss, rGcd_eq, tBits, List.set_cons_zero, List.set_cons_succ, List.getElem?_cons_zero, List.getElem?_cons_succ, Option.some.injEq, exists_eq_left', V.int.injEq, V.bl.injEq, V.str.injEq, true_and, and_true, decide_eq_true_eq, List.cons.injEq, exists_eq_left, Bool.false_eq_true, if_false, if_true, ite_true, ite_false, Bool.not_eq_true', decide_eq_false_iff_not, Bool.not_not]
    simp only [List.mem_cons, List.not_mem_nil, or_false] at hm
    rw [hi] at kk
    rcases hm with rfl | rfl | rfl | rfl | rfl | rfl | rfl
    all_goals first
      | (refine rIsi_ty (b := true) ht (by decide +kernel) ?_; refine ⟨true, rfl, iteT ?_⟩; refine rIsi_ty (b := false) ht (by decide +kernel) ?_; exact ⟨false, rfl, kk⟩)
      | (refine rIsi_ty (b := true) ht (by decide +kernel) ?_; refine ⟨true, rfl, iteT ?_⟩; refine rIsi_ty (b := true) ht (by decide +kernel) ?_; exact ⟨true, rfl, kk⟩)
      | (refine rIsi_ty (b := false) ht (by decide +kernel) ?_; refine ⟨false, rfl, iteF kk⟩)

theorem okIsPath {f : Addr} {fd : FuncData} (F : Fun K "is_path" "is_path" s_IsPath f fd) (T : Txt K mg) {fIsWhole : Addr} {fdIsWhole : FuncData} (D_IsWhole : DefAt P w K mg base 1 "is_whole" fIsWhole fdIsWhole ["value"] (spWhole)) : FnOk P w K mg base CX0 2 f fd ["value"] (spIsPath0) := by
  refine F.ok scIsPath (fun vs H Q E h => ?_) (fun cdv A outer s H vs Q E hr h => ?_)
  · obtain ⟨p, t, rfl, _⟩ := h
    rfl
  · obtain ⟨p, t, rfl, hp, kk⟩ := h
    refine ⟨_, (pss_one (ps_ret (pe_and (pe_callB call_isi (by rfl) T.isinstance (by decide +kernel) (pa_cons (pv 0) (pa_cons (pe_bltn (v := .ty "list") (u := .type "list") (by rfl) T.list (by decide +kernel) rfl) pa_nil))) (pe_and (pe_cmpR op_eq (pe_callB lenL (by rfl) T.len (by decide +kernel) (pa_cons (pv 0) pa_nil)) pe_int (nomark _)) (pe_one (pe_callB (cr_all rfl) (by rfl) T.all (by decide +kernel) (pa_cons (pe_lc (own := [("item", 1)]) (g := gName 1) (tt := tYes) rfl scIsPath.nd (pi_list (pv 0)) (blkOk_by (N := N_IsPath) (sc := defScope s_IsPath) (by decide +kernel)) (fun _ _ _ _ _ => pg_name (i := 1) scIsPath.nd rfl (Or.inl rfl)) (fun _ _ _ _ _ => pts_nil) (fun _ _ _ _ _ => (pe_d D_IsWhole hr (pa_cons (pv 1) pa_nil)))) pa_nil))))))), ?_⟩
    have e0 : start N_IsPath [.ref p] = [some (.ref p), none] := rfl
    rw [e0]
    simp only [cxK, wipe, tYes, List.map_cons, List.map_nil, rIxL, rSum, tSl, rSlL, tNoPart, tPart, exists_and_left, and_assoc, V.ref.injEq, HO.lst.injEq, HO.tup.injEq, tFor_eq, iRng1, iRng2, iList, iTup, tLc_eq, tLst, tTup, gSub, rSetL, gT, gL, gTup, gCons, gNil, atI_0, atI_1, atI_2, atI_3, List.length_cons, List.length_nil, Nat.zero_add, Nat.reduceAdd, Nat.reduceLeDiff, ixN_30, ixN_31, ixN_32, Int.reduceLT, Int.reduceLE, Int.reduceNeg, upd_same, reduceCtorEq, false_and, exists_false, or_false, false_or, tSeq, tNext, tIfS, tRet, tRetN, tDrop, tAsg, gName, tPar, tPar3, tAug, ipI, tVar, tC, tOp, tUn, tCB, tD, tDK, tCons, tNil, rI, rI0, rU, tB, tTest, tCallS, tErr, tAnd, tOr, tNot, tAndV, tOrV, tNotV, tIf, rEq, rNe, scal_ii, scal_bb, scal_ss, rGcd_eq, tBits, List.set_cons_zero, List.set_cons_succ, List.getElem?_cons_zero, List.getElem?_cons_succ, Option.some.injEq, exists_eq_left', V.int.injEq, V.bl.injEq, V.str.injEq, true_and, and_true, decide_eq_true_eq, List.cons.injEq, exists_eq_left, Bool.false_eq_true, if_false, if_true, ite_true, ite_false, Bool.not_eq_true', decide_eq_false_iff_not, Bool.not_not]
    refine rIsi_ty (b := true) (tyS_lst hp) (by decide +kernel) ⟨true, rfl, ?_⟩
    rw [if_pos rfl]
    simp only [cxK, wipe, tYes, List.map_cons, List.map_nil, rIxL, rSum, tSl, rSlL, tNoPart, tPart, exists_and_left, and_assoc, V.ref.injEq, HO.lst.injEq, HO.tup.injEq, tFor_eq, iRng1, iRng2, iList, iTup, tLc_eq, tLst, tTup, gSub, rSetL, gT, gL, gTup, gCons, gNil, atI_0, atI_1, atI_2, atI_3, List.length_cons, List.length_nil, Nat.zero_add, Nat.reduceAdd, Nat.reduceLeDiff, ixN_30, ixN_31, ixN_32, Int.reduceLT, Int.reduceLE, Int.reduceNeg, upd_same, reduceCtorEq, false_and, exists_false, or_false, false_or, tSeq, tNext, tIfS, tRet, tRetN, tDrop, tAsg, gName, tPar, tPar3, tAug, ipI, tVar, tC, tOp, tUn, tCB, tD, tDK, tCons, tNil, rI, rI0, rU, tB, tTest, tCallS, tErr, tAnd, tOr, tNot, tAndV, tOrV, tNotV, tIf, rEq, rNe, scal_ii, scal_bb, scal_ss, rGcd_eq, tBits, List.set_cons_zero, List.set_cons_succ, List.getElem?_cons_zero, List.getElem?_cons_succ, Option.some.injEq, exists_eq_left', V.int.injEq, V.bl.injEq, V.str.injEq, true_and, and_true, decide_eq_true_eq, List.cons.injEq, exists_eq_left, Bool.false_eq_true, if_false, if_true, ite_true, ite_false, Bool.not_eq_true', decide_eq_false_iff_not, Bool.not_not, hp]
    rw [if_pos (show ((cutV4 t).length : Int) = 4 from rfl)]
    refine ⟨⟨_, SqL.of hp⟩, fun Dd nD => ?_⟩
    refine lcW_list (xs := cutV4 t) (InvTk H Dd (List.replicate 4 (V.bl true))) ⟨Same.upd nD, upd_same⟩ (fun i H2 _ z => SqL.of (z.1 _ _ hp)) ?_ ?_
    · rintro i x H2 hx z
      refine ⟨rfl, ?_⟩
      obtain ⟨n, rfl⟩ : ∃ n : Int, x = .int n := by
        have hm := List.mem_of_getElem? hx
        simp only [cutV4, List.mem_cons, List.not_mem_nil, or_false] at hm
        rcases hm with rfl | rfl | rfl | rfl <;> exact ⟨_, rfl⟩
      have hi : i < 4 := (List.getElem?_eq_some_iff.mp hx).1
      simp only [cxK, wipe, tYes, List.map_cons, List.map_nil, rIxL, rSum, tSl, rSlL, tNoPart, tPart, exists_and_left, and_assoc, V.ref.injEq, HO.lst.injEq, HO.tup.injEq, tFor_eq, iRng1, iRng2, iList, iTup, tLc_eq, tLst, tTup, gSub, rSetL, gT, gL, gTup, gCons, gNil, atI_0, atI_1, atI_2, atI_3, List.length_cons, List.length_nil, Nat.zero_add, Nat.reduceAdd, Nat.reduceLeDiff, ixN_30, ixN_31, ixN_32, Int.reduceLT, Int.reduceLE, Int.reduceNeg, upd_same, reduceCtorEq, false_and, exists_false, or_false, false_or, tSeq, tNext, tIfS, tRet, tRetN, tDrop, tAsg, gName, tPar, tPar3, tAug, ipI, tVar, tC, tOp, tUn, tCB, tD, tDK, tCons, tNil, rI, rI0, rU, tB, tTest, tCallS, tErr, tAnd, tOr, tNot, tAndV, tOrV, tNotV, tIf, rEq, rNe, scal_ii, scal_bb, scal_ss, rGcd_eq, tBits, List.set_cons_zero, List.set_cons_succ, List.getElem?_cons_zero, List.getElem?_cons_succ, Option.some.injEq, exists_eq_left', V.int.injEq, V.bl.injEq, V.str.injEq, true_and, and_true, decide_eq_true_eq, List.cons.injEq, exists_eq_left, Bool.false_eq_true, if_false, if_true, ite_true, ite_false, Bool.not_eq_true', decide_eq_false_iff_not, Bool.not_not]
      refine ⟨_, rfl, ⟨"int", rfl⟩, ?_⟩
      exact z.push nD (Same.refl _) (by rw [List.getElem?_replicate, if_pos hi]; rfl) (by decide)
    · rintro H2 ⟨s2, e2⟩
      refine ⟨Dd, [true, true, true, true], rfl, SqL.of e2, kk _ s2⟩

theorem okCheckPath {f : Addr} {fd : FuncData} (F : Fun K "check_path" "check_path" s_CheckPath f fd) (T : Txt K mg) {C_InvalidList f_InvalidList : Addr} {fd_InvalidList : FuncData} (E_InvalidList : ErrN P w K mg base "InvalidList" C_InvalidList f_InvalidList fd_InvalidList) {fIsPath : Addr} {fdIsPath : FuncData} (D_IsPath : DefAt P w K mg base 2 "is_path" fIsPath fdIsPath ["value"] (spIsPath0)) : FnOk P w K mg base CX0 3 f fd ["path"] (spCheckPath0) := by
  refine F.ok scCheckPath (fun vs H Q E h => ?_) (fun cdv A outer s H vs Q E hr h => ?_)
  · obtain ⟨p, t, rfl, _⟩ := h
    rfl
  · obtain ⟨p, t, rfl, hp, kk⟩ := h
    refine ⟨_, (pss_one (ps_if (pt_not (pt_val (pe_d D_IsPath hr (pa_cons (pv 0) pa_nil)))) (pss_one ps_never) pss_nil)), ?_⟩
    have e0 : start N_CheckPath [.ref p] = [some (.ref p)] := rfl
    rw [e0]
    simp only [cxK, wipe, tYes, List.map_cons, List.map_nil, rIxL, rSum, tSl, rSlL, tNoPart, tPart, exists_and_left, and_assoc, V.ref.injEq, HO.lst.injEq, HO.tup.injEq, tFor_eq, iRng1, iRng2, iList, iTup, tLc_eq, tLst, tTup, gSub, rSetL, gT, gL, gTup, gCons, gNil, atI_0, atI_1, atI_2, atI_3, List.length_cons, List.length_nil, Nat.zero_add, Nat.reduceAdd, Nat.reduceLeDiff, ixN_30, ixN_31, ixN_32, Int.reduceLT, Int.reduceLE, Int.reduceNeg, upd_same, reduceCtorEq, false_and, exists_false, or_false, false_or, tSeq, tNext, tIfS, tRet, tRetN, tDrop, tAsg, gName, tPar, tPar3, tAug, ipI, tVar, tC, tOp, tUn, tCB, tD, tDK, tCons, tNil, rI, rI0, rU, tB, tTest, tCallS, tErr, tAnd, tOr, tNot, tAndV, tOrV, tNotV, tIf, rEq, rNe, scal_ii, scal_bb, scal_ss, rGcd_eq, tBits, List.set_cons_zero, List.set_cons_succ, List.getElem?_cons_zero, List.getElem?_cons_succ, Option.some.injEq, exists_eq_left', V.int.injEq, V.bl.injEq, V.str.injEq, true_and, and_true, decide_eq_true_eq, List.cons.injEq, exists_eq_left, Bool.false_eq_true, if_false, if_true, ite_true, ite_false, Bool.not_eq_true', decide_eq_false_iff_not, Bool.not_not]
    refine ⟨p, t, rfl, hp, fun H1 s1 => ⟨true, rfl, ?_⟩⟩
    rw [if_neg (by decide)]
    exact kk _ s1

theorem okCrossing {f : Addr} {fd : FuncData} (F : Fun K "crossing" "crossing" s_Crossing f fd) (T : Txt K mg) {fCheckPath : Addr} {fdCheckPath : FuncData} (D_CheckPath : DefAt P w K mg base 3 "check_path" fCheckPath fdCheckPath ["path"] (spCheckPath0)) : FnOk P w K mg base CX0 4 f fd ["one", "other"] (spCross) := by
  refine F.ok scCrossing (fun vs H Q E h => ?_) (fun cdv A outer s H vs Q E hr h => ?_)
  · obtain ⟨p, r, t, u, rfl, _⟩ := h
    rfl
  · obtain ⟨p, r, t, u, rfl, hp, hr2, zt, zu, kk⟩ := h
    refine ⟨_, (pss_cons (ps_expr (pe_d D_CheckPath hr (pa_cons (pv 0) pa_nil)))
        (pss_cons (ps_expr (pe_d D_CheckPath hr (pa_cons (pv 1) pa_nil)))
        (pss_one (ps_ret (pe_op op_sub (pe_op op_add (pe_op op_sub (pe_op op_mulU (pe_ix ixL (pv 0) pe_int (fun _ _ => rfl)) (pe_ix ixL (pv 1) pe_int (fun _ _ => rfl))) (pe_op op_mulU (pe_ix ixL (pv 0) pe_int (fun _ _ => rfl)) (pe_ix ixL (pv 1) pe_int (fun _ _ => rfl)))) (pe_op op_mulU (pe_ix ixL (pv 0) pe_int (fun _ _ => rfl)) (pe_ix ixL (pv 1) pe_int (fun _ _ => rfl)))) (pe_op op_mulU (pe_ix ixL (pv 0) pe_int (fun _ _ => rfl)) (pe_ix ixL (pv 1) pe_int (fun _ _ => rfl)))))))), ?_⟩
    have e0 : start N_Crossing [.ref p, .ref r] = [some (.ref p), some (.ref r)] := rfl
    rw [e0]
    simp only [cxK, wipe, tYes, List.map_cons, List.map_nil, rIxL, rSum, tSl, rSlL, tNoPart, tPart, exists_and_left, and_assoc, V.ref.injEq, HO.lst.injEq, HO.tup.injEq, tFor_eq, iRng1, iRng2, iList, iTup, tLc_eq, tLst, tTup, gSub, rSetL, gT, gL, gTup, gCons, gNil, atI_0, atI_1, atI_2, atI_3, List.length_cons, List.length_nil, Nat.zero_add, Nat.reduceAdd, Nat.reduceLeDiff, ixN_30, ixN_31, ixN_32, Int.reduceLT, Int.reduceLE, Int.reduceNeg, upd_same, reduceCtorEq, false_and, exists_false, or_false, false_or, tSeq, tNext, tIfS, tRet, tRetN, tDrop, tAsg, gName, tPar, tPar3, tAug, ipI, tVar, tC, tOp, tUn, tCB, tD, tDK, tCons, tNil, rI, rI0, rU, tB, tTest, tCallS, tErr, tAnd, tOr, tNot, tAndV, tOrV, tNotV, tIf, rEq, rNe, scal_ii, scal_bb, scal_ss, rGcd_eq, tBits, List.set_cons_zero, List.set_cons_succ, List.getElem?_cons_zero, List.getElem?_cons_succ, Option.some.injEq, exists_eq_left', V.int.injEq, V.bl.injEq, V.str.injEq, true_and, and_true, decide_eq_true_eq, List.cons.injEq, exists_eq_left, Bool.false_eq_true, if_false, if_true, ite_true, ite_false, Bool.not_eq_true', decide_eq_false_iff_not, Bool.not_not]
    refine ⟨p, t, rfl, hp, fun H1 s1 => ?_⟩
    refine ⟨r, u, rfl, s1 _ _ hr2, fun H2 s2 => ?_⟩
    have e1 : H2 p = some (.lst [.int t.1, .int t.2.1, .int t.2.2.1, .int t.2.2.2]) := s2 _ _ (s1 _ _ hp)
    have e2 : H2 r = some (.lst [.int u.1, .int u.2.1, .int u.2.2.1, .int u.2.2.2]) := s2 _ _ (s1 _ _ hr2)
    obtain ⟨z1, z2, z3, z4⟩ := zt
    obtain ⟨y1, y2, y3, y4⟩ := zu
    simp only [cxK, wipe, tYes, List.map_cons, List.map_nil, rIxL, rSum, tSl, rSlL, tNoPart, tPart, exists_and_left, and_assoc, V.ref.injEq, HO.lst.injEq, HO.tup.injEq, tFor_eq, iRng1, iRng2, iList, iTup, tLc_eq, tLst, tTup, gSub, rSetL, gT, gL, gTup, gCons, gNil, atI_0, atI_1, atI_2, atI_3, List.length_cons, List.length_nil, Nat.zero_add, Nat.reduceAdd, Nat.reduceLeDiff, ixN_30, ixN_31, ixN_32, Int.reduceLT, Int.reduceLE, Int.reduceNeg, upd_same, reduceCtorEq, false_and, exists_false, or_false, false_or, tSeq, tNext, tIfS, tRet, tRetN, tDrop, tAsg, gName, tPar, tPar3, tAug, ipI, tVar, tC, tOp, tUn, tCB, tD, tDK, tCons, tNil, rI, rI0, rU, tB, tTest, tCallS, tErr, tAnd, tOr, tNot, tAndV, tOrV, tNotV, tIf, rEq, rNe, scal_ii, scal_bb, scal_ss, rGcd_eq, tBits, List.set_cons_zero, List.set_cons_succ, List.getElem?_cons_zero, List.getElem?_cons_succ, Option.some.injEq, exists_eq_left', V.int.injEq, V.bl.injEq, V.str.injEq, true_and, and_true, decide_eq_true_eq, List.cons.injEq, exists_eq_left, Bool.false_eq_true, if_false, if_true, ite_true, ite_false, Bool.not_eq_true', decide_eq_false_iff_not, Bool.not_not, e1, e2]
    exact ⟨okm z1 y2 (by decide) (by decide), okm z2 y1 (by decide) (by decide), okm z3 y4 (by decide) (by decide), okm z4 y3 (by decide) (by decide), kk _ (s1.trans s2)⟩

theorem okPaired {f : Addr} {fd : FuncData} (F : Fun K "_paired" "_paired" s_Paired f fd) (T : Txt K mg) : FnOk P w K mg base CX0 1 f fd ["row", "path"] (spPaired) := by
  refine F.ok scPaired (fun vs H Q E h => ?_) (fun cdv A outer s H vs Q E hr h => ?_)
  · obtain ⟨p, r, t, u, rfl, _⟩ := h
    rfl
  · obtain ⟨p, r, t, u, rfl, hp, hr2, zt, zu, kk⟩ := h
    refine ⟨_, (pss_one (ps_ret (pe_callB (cr_sum rfl) (by rfl) T.sum (by decide +kernel) (pa_cons (pe_lc (own := [("at", 2)]) (g := gName 2) (tt := tYes) rfl scPaired.nd (pi_range1 rfl T.range (pa_cons pe_int pa_nil)) (blkOk_by (N := N_Paired) (sc := defScope s_Paired) (by decide +kernel)) (fun _ _ _ _ _ => pg_name (i := 2) scPaired.nd rfl (Or.inl rfl)) (fun _ _ _ _ _ => pts_nil) (fun _ _ _ _ _ => (pe_op op_mulU (pe_ix ixL (pv 0) (pv 2) (fun _ _ => rfl)) (pe_ix ixL (pv 1) (pv 2) (fun _ _ => rfl))))) pa_nil)))), ?_⟩
    have e0 : start N_Paired [.ref p, .ref r] = [some (.ref p), some (.ref r), none] := rfl
    rw [e0]
    simp only [cxK, wipe, tYes, List.map_cons, List.map_nil, rIxL, rSum, tSl, rSlL, tNoPart, tPart, exists_and_left, and_assoc, V.ref.injEq, HO.lst.injEq, HO.tup.injEq, tFor_eq, iRng1, iRng2, iList, iTup, tLc_eq, tLst, tTup, gSub, rSetL, gT, gL, gTup, gCons, gNil, atI_0, atI_1, atI_2, atI_3, List.length_cons, List.length_nil, Nat.zero_add, Nat.reduceAdd, Nat.reduceLeDiff, ixN_30, ixN_31, ixN_32, Int.reduceLT, Int.reduceLE, Int.reduceNeg, upd_same, reduceCtorEq, false_and, exists_false, or_false, false_or, tSeq, tNext, tIfS, tRet, tRetN, tDrop, tAsg, gName, tPar, tPar3, tAug, ipI, tVar, tC, tOp, tUn, tCB, tD, tDK, tCons, tNil, rI, rI0, rU, tB, tTest, tCallS, tErr, tAnd, tOr, tNot, tAndV, tOrV, tNotV, tIf, rEq, rNe, scal_ii, scal_bb, scal_ss, rGcd_eq, tBits, List.set_cons_zero, List.set_cons_succ, List.getElem?_cons_zero, List.getElem?_cons_succ, Option.some.injEq, exists_eq_left', V.int.injEq, V.bl.injEq, V.str.injEq, true_and, and_true, decide_eq_true_eq, List.cons.injEq, exists_eq_left, Bool.false_eq_true, if_false, if_true, ite_true, ite_false, Bool.not_eq_true', decide_eq_false_iff_not, Bool.not_not]
    refine ⟨by decide, by decide, fun Dd nD => ?_⟩
    refine lcW_range (InvTk H Dd ((prods t u).map V.int)) ⟨Same.upd nD, upd_same⟩ (fun i h hi z => ?_) (fun h z => ?_)
    · refine ⟨rfl, ?_⟩
      have hi4 : i < 4 := hi
      simp only [cxK, wipe, tYes, List.map_cons, List.map_nil, rIxL, rSum, tSl, rSlL, tNoPart, tPart, exists_and_left, and_assoc, V.ref.injEq, HO.lst.injEq, HO.tup.injEq, tFor_eq, iRng1, iRng2, iList, iTup, tLc_eq, tLst, tTup, gSub, rSetL, gT, gL, gTup, gCons, gNil, atI_0, atI_1, atI_2, atI_3, List.length_cons, List.length_nil, Nat.zero_add, Nat.reduceAdd, Nat.reduceLeDiff, ixN_30, ixN_31, ixN_32, Int.reduceLT, Int.reduceLE, Int.reduceNeg, upd_same, reduceCtorEq, false_and, exists_false, or_false, false_or, tSeq, tNext, tIfS, tRet, tRetN, tDrop, tAsg, gName, tPar, tPar3, tAug, ipI, tVar, tC, tOp, tUn, tCB, tD, tDK, tCons, tNil, rI, rI0, rU, tB, tTest, tCallS, tErr, tAnd, tOr, tNot, tAndV, tOrV, tNotV, tIf, rEq, rNe, scal_ii, scal_bb, scal_ss, rGcd_eq, tBits, List.set_cons_zero, List.set_cons_succ, List.getElem?_cons_zero, List.getElem?_cons_succ, Option.some.injEq, exists_eq_left', V.int.injEq, V.bl.injEq, V.str.injEq, true_and, and_true, decide_eq_true_eq, List.cons.injEq, exists_eq_left, Bool.false_eq_true, if_false, if_true, ite_true, ite_false, Bool.not_eq_true', decide_eq_false_iff_not, Bool.not_not]
      rw [Int.zero_add]
      refine ⟨_, z.1 _ _ hp, _, cut_atI hi4, _, z.1 _ _ hr2, _, cut_atI hi4, _, rfl, _, rfl, okm (ent_sz zt i) (ent_sz zu i) (by decide) (by decide), ?_⟩
      exact z.push nD (Same.refl _) (by rw [List.getElem?_map]; unfold prods; rw [List.getElem?_map, List.getElem?_range hi4]; rfl) (show 4 ≤ 1000 by decide)
    · exact ⟨Dd, rfl, prods t u, SqL.of z.2, kk _ z.1⟩

theorem okCheckTable {f : Addr} {fd : FuncData} (F : Fun K "_check_table" "_check_table" s_CheckTable f fd) (T : Txt K mg) {C_InvalidTable f_InvalidTable : Addr} {fd_InvalidTable : FuncData} (E_InvalidTable : ErrN P w K mg base "InvalidTable" C_InvalidTable f_InvalidTable fd_InvalidTable) {fIsPath : Addr} {fdIsPath : FuncData} (D_IsPath : DefAt P w K mg base 2 "is_path" fIsPath fdIsPath ["value"] (spIsPath0)) : FnOk P w K mg base CX0 3 f fd ["table"] (spCheckTab0) := by
  refine F.ok scCheckTable (fun vs H Q E h => ?_) (fun cdv A outer s H vs Q E hr h => ?_)
  · obtain ⟨a, T0, rs, rfl, _⟩ := h
    rfl
  · obtain ⟨a, T0, rs, rfl, hT, kk⟩ := h
    refine ⟨_, (pss_one (ps_if (PW.pt (pw_or (pt_not (pt_val (pe_callB call_isi (by rfl) T.isinstance (by decide +kernel) (pa_cons (pv 0) (pa_cons (pe_bltn (v := .ty "list") (u := .type "list") (by rfl) T.list (by decide +kernel) rfl) pa_nil))))) (pw_or (pt_cmpR op_ne (pe_callB lenL (by rfl) T.len (by decide +kernel) (pa_cons (pv 0) pa_nil)) pe_int (nomark _)) (pw_or1 (pt_not (pt_val (pe_callB (cr_all rfl) (by rfl) T.all (by decide +kernel) (pa_cons (pe_lc (own := [("row", 1)]) (g := gName 1) (tt := tYes) rfl scCheckTable.nd (pi_list (pv 0)) (blkOk_by (N := N_CheckTable) (sc := defScope s_CheckTable) (by decide +kernel)) (fun _ _ _ _ _ => pg_name (i := 1) scCheckTable.nd rfl (Or.inl rfl)) (fun _ _ _ _ _ => pts_nil) (fun _ _ _ _ _ => (pe_d D_IsPath hr (pa_cons (pv 1) pa_nil)))) pa_nil)))))))) (pss_one ps_never) pss_nil)), ?_⟩
    have e0 : start N_CheckTable [.ref a] = [some (.ref a), none] := rfl
    rw [e0]
    simp only [cxK, wipe, tYes, List.map_cons, List.map_nil, rIxL, rSum, tSl, rSlL, tNoPart, tPart, exists_and_left, and_assoc, V.ref.injEq, HO.lst.injEq, HO.tup.injEq, tFor_eq, iRng1, iRng2, iList, iTup, tLc_eq, tLst, tTup, gSub, rSetL, gT, gL, gTup, gCons, gNil, atI_0, atI_1, atI_2, atI_3, List.length_cons, List.length_nil, Nat.zero_add, Nat.reduceAdd, Nat.reduceLeDiff, ixN_30, ixN_31, ixN_32, Int.reduceLT, Int.reduceLE, Int.reduceNeg, upd_same, reduceCtorEq, false_and, exists_false, or_false, false_or, tSeq, tNext, tIfS, tRet, tRetN, tDrop, tAsg, gName, tPar, tPar3, tAug, ipI, tVar, tC, tOp, tUn, tCB, tD, tDK, tCons, tNil, rI, rI0, rU, tB, tTest, tCallS, tErr, tAnd, tOr, tNot, tAndV, tOrV, tNotV, tIf, rEq, rNe, scal_ii, scal_bb, scal_ss, rGcd_eq, tBits, List.set_cons_zero, List.set_cons_succ, List.getElem?_cons_zero, List.getElem?_cons_succ, Option.some.injEq, exists_eq_left', V.int.injEq, V.bl.injEq, V.str.injEq, true_and, and_true, decide_eq_true_eq, List.cons.injEq, exists_eq_left, Bool.false_eq_true, if_false, if_true, ite_true, ite_false, Bool.not_eq_true', decide_eq_false_iff_not, Bool.not_not]
    refine rIsi_ty (b := true) (tyS_lst hT.at') (by decide +kernel) ⟨true, rfl, ?_⟩
    rw [if_neg (by decide)]
    refine ⟨_, hT.at', ?_⟩
    rw [if_neg (fun h => h rfl)]
    refine ⟨⟨_, SqL.of hT.at'⟩, fun Dd nD => ?_⟩
    refine lcW_list (xs := [.ref (rs 0), .ref (rs 1), .ref (rs 2), .ref (rs 3)]) (InvTk H Dd (List.replicate 4 (V.bl true))) ⟨Same.upd nD, upd_same⟩ (fun i H2 _ z => SqL.of (z.1 _ _ hT.at')) ?_ ?_
    · rintro i x H2 hx z
      refine ⟨rfl, ?_⟩
      have hi : i < 4 := (List.getElem?_eq_some_iff.mp hx).1
      obtain rfl : x = .ref (rs i) := by
        rcases (show i = 0 ∨ i = 1 ∨ i = 2 ∨ i = 3 by omega) with rfl | rfl | rfl | rfl <;> exact (Option.some.inj hx).symm
      simp only [cxK, wipe, tYes, List.map_cons, List.map_nil, rIxL, rSum, tSl, rSlL, tNoPart, tPart, exists_and_left, and_assoc, V.ref.injEq, HO.lst.injEq, HO.tup.injEq, tFor_eq, iRng1, iRng2, iList, iTup, tLc_eq, tLst, tTup, gSub, rSetL, gT, gL, gTup, gCons, gNil, atI_0, atI_1, atI_2, atI_3, List.length_cons, List.length_nil, Nat.zero_add, Nat.reduceAdd, Nat.reduceLeDiff, ixN_30, ixN_31, ixN_32, Int.reduceLT, Int.reduceLE, Int.reduceNeg, upd_same, reduceCtorEq, false_and, exists_false, or_false, false_or, tSeq, tNext, tIfS, tRet, tRetN, tDrop, tAsg, gName, tPar, tPar3, tAug, ipI, tVar, tC, tOp, tUn, tCB, tD, tDK, tCons, tNil, rI, rI0, rU, tB, tTest, tCallS, tErr, tAnd, tOr, tNot, tAndV, tOrV, tNotV, tIf, rEq, rNe, scal_ii, scal_bb, scal_ss, rGcd_eq, tBits, List.set_cons_zero, List.set_cons_succ, List.getElem?_cons_zero, List.getElem?_cons_succ, Option.some.injEq, exists_eq_left', V.int.injEq, V.bl.injEq, V.str.injEq, true_and, and_true, decide_eq_true_eq, List.cons.injEq, exists_eq_left, Bool.false_eq_true, if_false, if_true, ite_true, ite_false, Bool.not_eq_true', decide_eq_false_iff_not, Bool.not_not]
      refine ⟨rs i, _, rfl, z.1 _ _ (hT.row i hi), fun H3 s3 => ?_⟩
      exact z.push nD s3 (by rw [List.getElem?_replicate, if_pos hi]) (by decide)
    · rintro H2 ⟨s2, e2⟩
      refine ⟨Dd, [true, true, true, true], rfl, SqL.of e2, true, rfl, ?_⟩
      rw [if_neg (by decide)]
      exact kk _ s2

theorem okTurnedOver {f : Addr} {fd : FuncData} (F : Fun K "_turned_over" "_turned_over" s_TurnedOver f fd) (T : Txt K mg) : FnOk P w K mg base CX0 1 f fd ["table"] (spTurnedO) := by
  refine F.ok scTurnedOver (fun vs H Q E h => ?_) (fun cdv A outer s H vs Q E hr h => ?_)
  · obtain ⟨a, T0, rs, rfl, _⟩ := h
    rfl
  · obtain ⟨a, T0, rs, rfl, hT, kk⟩ := h
    refine ⟨_, (pss_one (ps_ret (pe_lc (own := [("at", 1)]) (g := gName 1) (tt := tYes) rfl scTurnedOver.nd (pi_range1 rfl T.range (pa_cons pe_int pa_nil)) (blkOk_by (N := N_TurnedOver) (sc := defScope s_TurnedOver) (by decide +kernel)) (fun _ _ _ _ _ => pg_name (i := 1) scTurnedOver.nd rfl (Or.inr rfl)) (fun _ _ _ _ _ => pts_nil) (fun _ _ _ _ _ => (pe_lc (own := [("row", 2)]) (g := gName 2) (tt := tYes) rfl scTurnedOver.nd (pi_listK (K := K) rfl (pv 0)) (blkOk_by (N := N_TurnedOver) (by kernel_rfl)) (fun _ _ _ _ _ => pg_name (i := 2) scTurnedOver.nd rfl (Or.inl rfl)) (fun _ _ _ _ _ => pts_nil) (fun _ _ _ _ _ => (pe_ix ixL (pv 2) (pv 1) (fun _ _ => rfl)))))))), ?_⟩
    have e0 : start N_TurnedOver [.ref a] = [some (.ref a), none, none] := rfl
    rw [e0]
    simp only [cxK, wipe, tYes, List.map_cons, List.map_nil, rIxL, rSum, tSl, rSlL, tNoPart, tPart, exists_and_left, and_assoc, V.ref.injEq, HO.lst.injEq, HO.tup.injEq, tFor_eq, iRng1, iRng2, iList, iTup, tLc_eq, tLst, tTup, gSub, rSetL, gT, gL, gTup, gCons, gNil, atI_0, atI_1, atI_2, atI_3, List.length_cons, List.length_nil, Nat.zero_add, Nat.reduceAdd, Nat.reduceLeDiff, ixN_30, ixN_31, ixN_32, Int.reduceLT, Int.reduceLE, Int.reduceNeg, upd_same, reduceCtorEq, false_and, exists_false, or_false, false_or, tSeq, tNext, tIfS, tRet, tRetN, tDrop, tAsg, gName, tPar, tPar3, tAug, ipI, tVar, tC, tOp, tUn, tCB, tD, tDK, tCons, tNil, rI, rI0, rU, tB, tTest, tCallS, tErr, tAnd, tOr, tNot, tAndV, tOrV, tNotV, tIf, rEq, rNe, scal_ii, scal_bb, scal_ss, rGcd_eq, tBits, List.set_cons_zero, List.set_cons_succ, List.getElem?_cons_zero, List.getElem?_cons_succ, Option.some.injEq, exists_eq_left', V.int.injEq, V.bl.injEq, V.str.injEq, true_and, and_true, decide_eq_true_eq, List.cons.injEq, exists_eq_left, Bool.false_eq_true, if_false, if_true, ite_true, ite_false, Bool.not_eq_true', decide_eq_false_iff_not, Bool.not_not]
    refine ⟨by decide, by decide, fun Dd nD => ?_⟩
    refine lcW_range (InvTb H Dd (colT T0)) (InvTb.start nD) (fun i h hi z => ?_) (fun h z => ?_)
    · refine ⟨rfl, ?_⟩
      have hi4 : i < 4 := hi
      simp only [cxK, wipe, tYes, List.map_cons, List.map_nil, rIxL, rSum, tSl, rSlL, tNoPart, tPart, exists_and_left, and_assoc, V.ref.injEq, HO.lst.injEq, HO.tup.injEq, tFor_eq, iRng1, iRng2, iList, iTup, tLc_eq, tLst, tTup, gSub, rSetL, gT, gL, gTup, gCons, gNil, atI_0, atI_1, atI_2, atI_3, List.length_cons, List.length_nil, Nat.zero_add, Nat.reduceAdd, Nat.reduceLeDiff, ixN_30, ixN_31, ixN_32, Int.reduceLT, Int.reduceLE, Int.reduceNeg, upd_same, reduceCtorEq, false_and, exists_false, or_false, false_or, tSeq, tNext, tIfS, tRet, tRetN, tDrop, tAsg, gName, tPar, tPar3, tAug, ipI, tVar, tC, tOp, tUn, tCB, tD, tDK, tCons, tNil, rI, rI0, rU, tB, tTest, tCallS, tErr, tAnd, tOr, tNot, tAndV, tOrV, tNotV, tIf, rEq, rNe, scal_ii, scal_bb, scal_ss, rGcd_eq, tBits, List.set_cons_zero, List.set_cons_succ, List.getElem?_cons_zero, List.getElem?_cons_succ, Option.some.injEq, exists_eq_left', V.int.injEq, V.bl.injEq, V.str.injEq, true_and, and_true, decide_eq_true_eq, List.cons.injEq, exists_eq_left, Bool.false_eq_true, if_false, if_true, ite_true, ite_false, Bool.not_eq_true', decide_eq_false_iff_not, Bool.not_not]
      rw [Int.zero_add]
      refine ⟨⟨_, SqL.of (z.1 _ _ hT.at')⟩, fun D2 n2 => ?_⟩
      refine lcW_list (xs := [.ref (rs 0), .ref (rs 1), .ref (rs 2), .ref (rs 3)]) (InvTk h D2 (cutV4 (colT T0 i))) ⟨Same.upd n2, upd_same⟩ (fun _ _ _ y => SqL.of (y.1 _ _ (z.1 _ _ hT.at'))) ?_ ?_
      · rintro j x h2 hx y
        refine ⟨rfl, ?_⟩
        have hj : j < 4 := (List.getElem?_eq_some_iff.mp hx).1
        obtain rfl : x = .ref (rs j) := by
          rcases (show j = 0 ∨ j = 1 ∨ j = 2 ∨ j = 3 by omega) with rfl | rfl | rfl | rfl <;> exact (Option.some.inj hx).symm
        simp only [cxK, wipe, tYes, List.map_cons, List.map_nil, rIxL, rSum, tSl, rSlL, tNoPart, tPart, exists_and_left, and_assoc, V.ref.injEq, HO.lst.injEq, HO.tup.injEq, tFor_eq, iRng1, iRng2, iList, iTup, tLc_eq, tLst, tTup, gSub, rSetL, gT, gL, gTup, gCons, gNil, atI_0, atI_1, atI_2, atI_3, List.length_cons, List.length_nil, Nat.zero_add, Nat.reduceAdd, Nat.reduceLeDiff, ixN_30, ixN_31, ixN_32, Int.reduceLT, Int.reduceLE, Int.reduceNeg, upd_same, reduceCtorEq, false_and, exists_false, or_false, false_or, tSeq, tNext, tIfS, tRet, tRetN, tDrop, tAsg, gName, tPar, tPar3, tAug, ipI, tVar, tC, tOp, tUn, tCB, tD, tDK, tCons, tNil, rI, rI0, rU, tB, tTest, tCallS, tErr, tAnd, tOr, tNot, tAndV, tOrV, tNotV, tIf, rEq, rNe, scal_ii, scal_bb, scal_ss, rGcd_eq, tBits, List.set_cons_zero, List.set_cons_succ, List.getElem?_cons_zero, List.getElem?_cons_succ, Option.some.injEq, exists_eq_left', V.int.injEq, V.bl.injEq, V.str.injEq, true_and, and_true, decide_eq_true_eq, List.cons.injEq, exists_eq_left, Bool.false_eq_true, if_false, if_true, ite_true, ite_false, Bool.not_eq_true', decide_eq_false_iff_not, Bool.not_not]
        refine ⟨_, y.1 _ _ (z.1 _ _ (hT.row j hj)), _, cut_atI hi4, ?_⟩
        exact y.push n2 (Same.refl _) (by rw [cut_at hj, colT, ent_mk hj]) (show 4 ≤ 1000 by decide)
      · rintro h2 ⟨s2, e2⟩
        exact z.push nD hi4 s2 n2 e2
    · obtain ⟨us, n⟩ := z.done nD
      exact kk Dd us h n

theorem okLedPath {f : Addr} {fd : FuncData} (F : Fun K "led_path" "led_path" s_LedPath f fd) (T : Txt K mg) {fCheckTable : Addr} {fdCheckTable : FuncData} (D_CheckTable : DefAt P w K mg base 3 "_check_table" fCheckTable fdCheckTable ["table"] (spCheckTab0)) {fCheckPath : Addr} {fdCheckPath : FuncData} (D_CheckPath : DefAt P w K mg base 3 "check_path" fCheckPath fdCheckPath ["path"] (spCheckPath0)) {fPaired : Addr} {fdPaired : FuncData} (D_Paired : DefAt P w K mg base 1 "_paired" fPaired fdPaired ["row", "path"] (spPaired)) : FnOk P w K mg base CX0 4 f fd ["table", "path"] (spLedPath) := by
  refine F.ok scLedPath (fun vs H Q E h => ?_) (fun cdv A outer s H vs Q E hr h => ?_)
  · obtain ⟨a, p, T0, rs, t, rfl, _⟩ := h
    rfl
  · obtain ⟨a, p, T0, rs, t, rfl, hT, hp, zT, zt, kk⟩ := h
    refine ⟨_, (pss_cons (ps_expr (pe_d D_CheckTable hr (pa_cons (pv 0) pa_nil)))
        (pss_cons (ps_expr (pe_d D_CheckPath hr (pa_cons (pv 1) pa_nil)))
        (pss_one (ps_ret (pe_lc (own := [("row", 2)]) (g := gName 2) (tt := tYes) rfl scLedPath.nd (pi_list (pv 0)) (blkOk_by (N := N_LedPath) (sc := defScope s_LedPath) (by decide +kernel)) (fun _ _ _ _ _ => pg_name (i := 2) scLedPath.nd rfl (Or.inl rfl)) (fun _ _ _ _ _ => pts_nil) (fun _ _ _ _ _ => (pe_d D_Paired hr (pa_cons (pv 2) (pa_cons (pv 1) pa_nil))))))))), ?_⟩
    have e0 : start N_LedPath [.ref a, .ref p] = [some (.ref a), some (.ref p), none] := rfl
    rw [e0]
    simp only [cxK, wipe, tYes, List.map_cons, List.map_nil, rIxL, rSum, tSl, rSlL, tNoPart, tPart, exists_and_left, and_assoc, V.ref.injEq, HO.lst.injEq, HO.tup.injEq, tFor_eq, iRng1, iRng2, iList, iTup, tLc_eq, tLst, tTup, gSub, rSetL, gT, gL, gTup, gCons, gNil, atI_0, atI_1, atI_2, atI_3, List.length_cons, List.length_nil, Nat.zero_add, Nat.reduceAdd, Nat.reduceLeDiff, ixN_30, ixN_31, ixN_32, Int.reduceLT, Int.reduceLE, Int.reduceNeg, upd_same, reduceCtorEq, false_and, exists_false, or_false, false_or, tSeq, tNext, tIfS, tRet, tRetN, tDrop, tAsg, gName, tPar, tPar3, tAug, ipI, tVar, tC, tOp, tUn, tCB, tD, tDK, tCons, tNil, rI, rI0, rU, tB, tTest, tCallS, tErr, tAnd, tOr, tNot, tAndV, tOrV, tNotV, tIf, rEq, rNe, scal_ii, scal_bb, scal_ss, rGcd_eq, tBits, List.set_cons_zero, List.set_cons_succ, List.getElem?_cons_zero, List.getElem?_cons_succ, Option.some.injEq, exists_eq_left', V.int.injEq, V.bl.injEq, V.str.injEq, true_and, and_true, decide_eq_true_eq, List.cons.injEq, exists_eq_left, Bool.false_eq_true, if_false, if_true, ite_true, ite_false, Bool.not_eq_true', decide_eq_false_iff_not, Bool.not_not]
    refine ⟨a, T0, rs, rfl, hT, fun H1 s1 => ⟨p, t, rfl, s1 _ _ hp, fun H2 s2 => ?_⟩⟩
    have s12 := s1.trans s2
    refine ⟨⟨_, SqL.of (s12 _ _ hT.at')⟩, fun Dd nD => ?_⟩
    refine lcW_list (xs := [.ref (rs 0), .ref (rs 1), .ref (rs 2), .ref (rs 3)]) (InvTk H2 Dd (cutV4 (ledT T0 t))) ⟨Same.upd nD, upd_same⟩ (fun _ _ _ y => SqL.of (y.1 _ _ (s12 _ _ hT.at'))) ?_ ?_
    · rintro j x h2 hx y
      refine ⟨rfl, ?_⟩
      have hj : j < 4 := (List.getElem?_eq_some_iff.mp hx).1
      obtain rfl : x = .ref (rs j) := by
        rcases (show j = 0 ∨ j = 1 ∨ j = 2 ∨ j = 3 by omega) with rfl | rfl | rfl | rfl <;> exact (Option.some.inj hx).symm
      simp only [cxK, wipe, tYes, List.map_cons, List.map_nil, rIxL, rSum, tSl, rSlL, tNoPart, tPart, exists_and_left, and_assoc, V.ref.injEq, HO.lst.injEq, HO.tup.injEq, tFor_eq, iRng1, iRng2, iList, iTup, tLc_eq, tLst, tTup, gSub, rSetL, gT, gL, gTup, gCons, gNil, atI_0, atI_1, atI_2, atI_3, List.length_cons, List.length_nil, Nat.zero_add, Nat.reduceAdd, Nat.reduceLeDiff, ixN_30, ixN_31, ixN_32, Int.reduceLT, Int.reduceLE, Int.reduceNeg, upd_same, reduceCtorEq, false_and, exists_false, or_false, false_or, tSeq, tNext, tIfS, tRet, tRetN, tDrop, tAsg, gName, tPar, tPar3, tAug, ipI, tVar, tC, tOp, tUn, tCB, tD, tDK, tCons, tNil, rI, rI0, rU, tB, tTest, tCallS, tErr, tAnd, tOr, tNot, tAndV, tOrV, tNotV, tIf, rEq, rNe, scal_ii, scal_bb, scal_ss, rGcd_eq, tBits, List.set_cons_zero, List.set_cons_succ, List.getElem?_cons_zero, List.getElem?_cons_succ, Option.some.injEq, exists_eq_left', V.int.injEq, V.bl.injEq, V.str.injEq, true_and, and_true, decide_eq_true_eq, List.cons.injEq, exists_eq_left, Bool.false_eq_true, if_false, if_true, ite_true, ite_false, Bool.not_eq_true', decide_eq_false_iff_not, Bool.not_not]
      refine ⟨_, p, _, _, rfl, y.1 _ _ (s12 _ _ (hT.row j hj)), y.1 _ _ (s12 _ _ hp), zT j hj, zt, fun h3 s3 => ?_⟩
      exact y.push nD s3 (by rw [cut_at hj, ledT, ent_mk hj]) (show 4 ≤ 1000 by decide)
    · rintro h2 ⟨s2', e2⟩
      exact kk Dd h2 (s12.free nD) (s12.trans s2') e2

theorem okTableProduct {f : Addr} {fd : FuncData} (F : Fun K "table_product" "table_product" s_TableProduct f fd) (T : Txt K mg) {fCheckTable : Addr} {fdCheckTable : FuncData} (D_CheckTable : DefAt P w K mg base 3 "_check_table" fCheckTable fdCheckTable ["table"] (spCheckTab0)) {fTurnedOver : Addr} {fdTurnedOver : FuncData} (D_TurnedOver : DefAt P w K mg base 1 "_turned_over" fTurnedOver fdTurnedOver ["table"] (spTurnedO)) {fPaired : Addr} {fdPaired : FuncData} (D_Paired : DefAt P w K mg base 1 "_paired" fPaired fdPaired ["row", "path"] (spPaired)) : FnOk P w K mg base CX0 4 f fd ["one", "other"] (spTProd) := by
  refine F.ok scTableProduct (fun vs H Q E h => ?_) (fun cdv A outer s H vs Q E hr h => ?_)
  · obtain ⟨a, b, T0, O, rs, us, rfl, _⟩ := h
    rfl
  · obtain ⟨a, b, T0, O, rs, us, rfl, hT, hO, zT, zO, kk⟩ := h
    refine ⟨_, (pss_cons (ps_expr (pe_d D_CheckTable hr (pa_cons (pv 0) pa_nil)))
        (pss_cons (ps_expr (pe_d D_CheckTable hr (pa_cons (pv 1) pa_nil)))
        (pss_cons (ps_set (i := 2) scTableProduct.nd rfl (Or.inr rfl) (pe_d D_TurnedOver hr (pa_cons (pv 1) pa_nil)))
        (pss_one (ps_ret (pe_lc (own := [("row", 3)]) (g := gName 3) (tt := tYes) rfl scTableProduct.nd (pi_list (pv 0)) (blkOk_by (N := N_TableProduct) (sc := defScope s_TableProduct) (by decide +kernel)) (fun _ _ _ _ _ => pg_name (i := 3) scTableProduct.nd rfl (Or.inr rfl)) (fun _ _ _ _ _ => pts_nil) (fun _ _ _ _ _ => (pe_lc (own := [("column", 4)]) (g := gName 4) (tt := tYes) rfl scTableProduct.nd (pi_listK (K := K) rfl (pv 2)) (blkOk_by (N := N_TableProduct) (by kernel_rfl)) (fun _ _ _ _ _ => pg_name (i := 4) scTableProduct.nd rfl (Or.inl rfl)) (fun _ _ _ _ _ => pts_nil) (fun _ _ _ _ _ => (pe_d D_Paired hr (pa_cons (pv 3) (pa_cons (pv 4) pa_nil)))))))))))), ?_⟩
    have e0 : start N_TableProduct [.ref a, .ref b] = [some (.ref a), some (.ref b), none, none, none] := rfl
    rw [e0]
    refine seq_gen fun C1 hC1 => ?_
    simp only [cxK, wipe, tYes, List.map_cons, List.map_nil, rIxL, rSum, tSl, rSlL, tNoPart, tPart, exists_and_left, and_assoc, V.ref.injEq, HO.lst.injEq, HO.tup.injEq, tFor_eq, iRng1, iRng2, iList, iTup, tLc_eq, tLst, tTup, gSub, rSetL, gT, gL, gTup, gCons, gNil, atI_0, atI_1, atI_2, atI_3, List.length_cons, List.length_nil, Nat.zero_add, Nat.reduceAdd, Nat.reduceLeDiff, ixN_30, ixN_31, ixN_32, Int.reduceLT, Int.reduceLE, Int.reduceNeg, upd_same, reduceCtorEq, false_and, exists_false, or_false, false_or, tNext, tIfS, tRet, tRetN, tDrop, tAsg, gName, tPar, tPar3, tAug, ipI, tVar, tC, tOp, tUn, tCB, tD, tDK, tCons, tNil, rI, rI0, rU, tB, tTest, tCallS, tErr, tAnd, tOr, tNot, tAndV, tOrV, tNotV, tIf, rEq, rNe, scal_ii, scal_bb, scal_ss, rGcd_eq, tBits, List.set_cons_zero, List.set_cons_succ, List.getElem?_cons_zero, List.getElem?_cons_succ, Option.some.injEq, exists_eq_left', V.int.injEq, V.bl.injEq, V.str.injEq, true_and, and_true, decide_eq_true_eq, List.cons.injEq, exists_eq_left, Bool.false_eq_true, if_false, if_true, ite_true, ite_false, Bool.not_eq_true', decide_eq_false_iff_not, Bool.not_not]
    refine ⟨a, T0, rs, rfl, hT, fun H1 s1 => ?_⟩
    refine Eq.mpr (hC1 _ _) ?_
    refine seq_gen fun C2 hC2 => ?_
    simp only [cxK, wipe, tYes, List.map_cons, List.map_nil, rIxL, rSum, tSl, rSlL, tNoPart, tPart, exists_and_left, and_assoc, V.ref.injEq, HO.lst.injEq, HO.tup.injEq, tFor_eq, iRng1, iRng2, iList, iTup, tLc_eq, tLst, tTup, gSub, rSetL, gT, gL, gTup, gCons, gNil, atI_0, atI_1, atI_2, atI_3, List.length_cons, List.length_nil, Nat.zero_add, Nat.reduceAdd, Nat.reduceLeDiff, ixN_30, ixN_31, ixN_32, Int.reduceLT, Int.reduceLE, Int.reduceNeg, upd_same, reduceCtorEq, false_and, exists_false, or_false, false_or, tNext, tIfS, tRet, tRetN, tDrop, tAsg, gName, tPar, tPar3, tAug, ipI, tVar, tC, tOp, tUn, tCB, tD, tDK, tCons, tNil, rI, rI0, rU, tB, tTest, tCallS, tErr, tAnd, tOr, tNot, tAndV, tOrV, tNotV, tIf, rEq, rNe, scal_ii, scal_bb, scal_ss, rGcd_eq, tBits, List.set_cons_zero, List.set_cons_succ, List.getElem?_cons_zero, List.getElem?_cons_succ, Option.some.injEq, exists_eq_left', V.int.injEq, V.bl.injEq, V.str.injEq, true_and, and_true, decide_eq_true_eq, List.cons.injEq, exists_eq_left, Bool.false_eq_true, if_false, if_true, ite_true, ite_false, Bool.not_eq_true', decide_eq_false_iff_not, Bool.not_not]
    refine ⟨b, O, us, rfl, hO.same s1, fun H2 s2 => ?_⟩
    have s12 := s1.trans s2
    refine Eq.mpr (hC2 _ _) ?_
    simp only [cxK, wipe, tYes, List.map_cons, List.map_nil, rIxL, rSum, tSl, rSlL, tNoPart, tPart, exists_and_left, and_assoc, V.ref.injEq, HO.lst.injEq, HO.tup.injEq, tFor_eq, iRng1, iRng2, iList, iTup, tLc_eq, tLst, tTup, gSub, rSetL, gT, gL, gTup, gCons, gNil, atI_0, atI_1, atI_2, atI_3, List.length_cons, List.length_nil, Nat.zero_add, Nat.reduceAdd, Nat.reduceLeDiff, ixN_30, ixN_31, ixN_32, Int.reduceLT, Int.reduceLE, Int.reduceNeg, upd_same, reduceCtorEq, false_and, exists_false, or_false, false_or, tSeq, tNext, tIfS, tRet, tRetN, tDrop, tAsg, gName, tPar, tPar3, tAug, ipI, tVar, tC, tOp, tUn, tCB, tD, tDK, tCons, tNil, rI, rI0, rU, tB, tTest, tCallS, tErr, tAnd, tOr, tNot, tAndV, tOrV, tNotV, tIf, rEq, rNe, scal_ii, scal_bb, scal_ss, rGcd_eq, tBits, List.set_cons_zero, List.set_cons_succ, List.getElem?_cons_zero, List.getElem?_cons_succ, Option.some.injEq, exists_eq_left', V.int.injEq, V.bl.injEq, V.str.injEq, true_and, and_true, decide_eq_true_eq, List.cons.injEq, exists_eq_left, Bool.false_eq_true, if_false, if_true, ite_true, ite_false, Bool.not_eq_true', decide_eq_false_iff_not, Bool.not_not]
    refine ⟨b, O, us, rfl, hO.same s12, fun c vs H3 nc => ?_⟩
    have s13 := s12.trans nc.same
    have tc := nc.tab
    have hT3 := hT.same s13
    refine ⟨⟨_, SqL.of hT3.at'⟩, fun Dd nD => ?_⟩
    refine lcW_list (xs := [.ref (rs 0), .ref (rs 1), .ref (rs 2), .ref (rs 3)]) (InvTb H3 Dd fun i => mkZ fun j => pairZ (rowT T0 i) (colT O j)) (InvTb.start nD) (fun _ _ _ y => SqL.of (y.1 _ _ hT3.at')) (fun i x h hx z => ?_) (fun h z => ?_)
    · refine ⟨rfl, ?_⟩
      have hi : i < 4 := (List.getElem?_eq_some_iff.mp hx).1
      obtain rfl : x = .ref (rs i) := by
        rcases (show i = 0 ∨ i = 1 ∨ i = 2 ∨ i = 3 by omega) with rfl | rfl | rfl | rfl <;> exact (Option.some.inj hx).symm
      simp only [cxK, wipe, tYes, List.map_cons, List.map_nil, rIxL, rSum, tSl, rSlL, tNoPart, tPart, exists_and_left, and_assoc, V.ref.injEq, HO.lst.injEq, HO.tup.injEq, tFor_eq, iRng1, iRng2, iList, iTup, tLc_eq, tLst, tTup, gSub, rSetL, gT, gL, gTup, gCons, gNil, atI_0, atI_1, atI_2, atI_3, List.length_cons, List.length_nil, Nat.zero_add, Nat.reduceAdd, Nat.reduceLeDiff, ixN_30, ixN_31, ixN_32, Int.reduceLT, Int.reduceLE, Int.reduceNeg, upd_same, reduceCtorEq, false_and, exists_false, or_false, false_or, tSeq, tNext, tIfS, tRet, tRetN, tDrop, tAsg, gName, tPar, tPar3, tAug, ipI, tVar, tC, tOp, tUn, tCB, tD, tDK, tCons, tNil, rI, rI0, rU, tB, tTest, tCallS, tErr, tAnd, tOr, tNot, tAndV, tOrV, tNotV, tIf, rEq, rNe, scal_ii, scal_bb, scal_ss, rGcd_eq, tBits, List.set_cons_zero, List.set_cons_succ, List.getElem?_cons_zero, List.getElem?_cons_succ, Option.some.injEq, exists_eq_left', V.int.injEq, V.bl.injEq, V.str.injEq, true_and, and_true, decide_eq_true_eq, List.cons.injEq, exists_eq_left, Bool.false_eq_true, if_false, if_true, ite_true, ite_false, Bool.not_eq_true', decide_eq_false_iff_not, Bool.not_not]
      refine ⟨⟨_, SqL.of (z.1 _ _ tc.at')⟩, fun D2 n2 => ?_⟩
      refine lcW_list (xs := [.ref (vs 0), .ref (vs 1), .ref (vs 2), .ref (vs 3)]) (InvTk h D2 (cutV4 (mkZ fun j => pairZ (rowT T0 i) (colT O j)))) ⟨Same.upd n2, upd_same⟩ (fun _ _ _ y => SqL.of (y.1 _ _ (z.1 _ _ tc.at'))) ?_ ?_
      · rintro j x h2 hx y
        refine ⟨rfl, ?_⟩
        have hj : j < 4 := (List.getElem?_eq_some_iff.mp hx).1
        obtain rfl : x = .ref (vs j) := by
          rcases (show j = 0 ∨ j = 1 ∨ j = 2 ∨ j = 3 by omega) with rfl | rfl | rfl | rfl <;> exact (Option.some.inj hx).symm
        simp only [cxK, wipe, tYes, List.map_cons, List.map_nil, rIxL, rSum, tSl, rSlL, tNoPart, tPart, exists_and_left, and_assoc, V.ref.injEq, HO.lst.injEq, HO.tup.injEq, tFor_eq, iRng1, iRng2, iList, iTup, tLc_eq, tLst, tTup, gSub, rSetL, gT, gL, gTup, gCons, gNil, atI_0, atI_1, atI_2, atI_3, List.length_cons, List.length_nil, Nat.zero_add, Nat.reduceAdd, Nat.reduceLeDiff, ixN_30, ixN_31, ixN_32, Int.reduceLT, Int.reduceLE, Int.reduceNeg, upd_same, reduceCtorEq, false_and, exists_false, or_false, false_or, tSeq, tNext, tIfS, tRet, tRetN, tDrop, tAsg, gName, tPar, tPar3, tAug, ipI, tVar, tC, tOp, tUn, tCB, tD, tDK, tCons, tNil, rI, rI0, rU, tB, tTest, tCallS, tErr, tAnd, tOr, tNot, tAndV, tOrV, tNotV, tIf, rEq, rNe, scal_ii, scal_bb, scal_ss, rGcd_eq, tBits, List.set_cons_zero, List.set_cons_succ, List.getElem?_cons_zero, List.getElem?_cons_succ, Option.some.injEq, exists_eq_left', V.int.injEq, V.bl.injEq, V.str.injEq, true_and, and_true, decide_eq_true_eq, List.cons.injEq, exists_eq_left, Bool.false_eq_true, if_false, if_true, ite_true, ite_false, Bool.not_eq_true', decide_eq_false_iff_not, Bool.not_not]
        refine ⟨_, _, _, _, rfl, y.1 _ _ (z.1 _ _ (hT3.row i hi)), y.1 _ _ (z.1 _ _ (tc.row j hj)), zT i hi, ?_, fun h3 s3 => ?_⟩
        · rw [show rowT (colsT O) j = colT O j from row_mk hj]
          exact col_sz zO j
        · rw [show rowT (colsT O) j = colT O j from row_mk hj]
          exact y.push n2 s3 (by rw [cut_at hj, ent_mk hj]) (show 4 ≤ 1000 by decide)
      · rintro h2 ⟨s2, e2⟩
        exact z.push nD hi s2 n2 e2
    · obtain ⟨ws, n⟩ := z.done nD
      exact kk Dd ws h (n.before s13)

theorem okUnmovingTable {f : Addr} {fd : FuncData} (F : Fun K "unmoving_table" "unmoving_table" s_UnmovingTable f fd) (T : Txt K mg) : FnOk P w K mg base CX0 1 f fd [] (spUnitT) := by
  refine F.ok scUnmovingTable (fun vs H Q E h => ?_) (fun cdv A outer s H vs Q E hr h => ?_)
  · obtain ⟨rfl, _⟩ := h
    rfl
  · obtain ⟨rfl, kk⟩ := h
    refine ⟨_, (pss_one (ps_ret (pe_lc (own := [("x", 0)]) (g := gName 0) (tt := tYes) rfl scUnmovingTable.nd (pi_range1 rfl T.range (pa_cons pe_int pa_nil)) (blkOk_by (N := N_UnmovingTable) (sc := defScope s_UnmovingTable) (by decide +kernel)) (fun _ _ _ _ _ => pg_name (i := 0) scUnmovingTable.nd rfl (Or.inr rfl)) (fun _ _ _ _ _ => pts_nil) (fun _ _ _ _ _ => (pe_lc (own := [("y", 1)]) (g := gName 1) (tt := tYes) rfl scUnmovingTable.nd (pi_range1 rfl T.range (pa_cons pe_int pa_nil)) (blkOk_by (N := N_UnmovingTable) (by kernel_rfl)) (fun _ _ _ _ _ => pg_name (i := 1) scUnmovingTable.nd rfl (Or.inl rfl)) (fun _ _ _ _ _ => pts_nil) (fun _ _ _ _ _ => (pe_ifExp (pt_cmpR op_eq (pv 0) (pv 1) (nomark _)) pe_int pe_int))))))), ?_⟩
    have e0 : start N_UnmovingTable [] = [none, none] := rfl
    rw [e0]
    simp only [cxK, wipe, tYes, List.map_cons, List.map_nil, rIxL, rSum, tSl, rSlL, tNoPart, tPart, exists_and_left, and_assoc, V.ref.injEq, HO.lst.injEq, HO.tup.injEq, tFor_eq, iRng1, iRng2, iList, iTup, tLc_eq, tLst, tTup, gSub, rSetL, gT, gL, gTup, gCons, gNil, atI_0, atI_1, atI_2, atI_3, List.length_cons, List.length_nil, Nat.zero_add, Nat.reduceAdd, Nat.reduceLeDiff, ixN_30, ixN_31, ixN_32, Int.reduceLT, Int.reduceLE, Int.reduceNeg, upd_same, reduceCtorEq, false_and, exists_false, or_false, false_or, tSeq, tNext, tIfS, tRet, tRetN, tDrop, tAsg, gName, tPar, tPar3, tAug, ipI, tVar, tC, tOp, tUn, tCB, tD, tDK, tCons, tNil, rI, rI0, rU, tB, tTest, tCallS, tErr, tAnd, tOr, tNot, tAndV, tOrV, tNotV, tIf, rEq, rNe, scal_ii, scal_bb, scal_ss, rGcd_eq, tBits, List.set_cons_zero, List.set_cons_succ, List.getElem?_cons_zero, List.getElem?_cons_succ, Option.some.injEq, exists_eq_left', V.int.injEq, V.bl.injEq, V.str.injEq, true_and, and_true, decide_eq_true_eq, List.cons.injEq, exists_eq_left, Bool.false_eq_true, if_false, if_true, ite_true, ite_false, Bool.not_eq_true', decide_eq_false_iff_not, Bool.not_not]
    refine ⟨by decide, by decide, fun Dd nD => ?_⟩
    refine lcW_range (InvTb H Dd baseZ) (InvTb.start nD) (fun i h hi z => ?_) (fun h z => ?_)
    · refine ⟨rfl, ?_⟩
      have hi4 : i < 4 := hi
      simp only [cxK, wipe, tYes, List.map_cons, List.map_nil, rIxL, rSum, tSl, rSlL, tNoPart, tPart, exists_and_left, and_assoc, V.ref.injEq, HO.lst.injEq, HO.tup.injEq, tFor_eq, iRng1, iRng2, iList, iTup, tLc_eq, tLst, tTup, gSub, rSetL, gT, gL, gTup, gCons, gNil, atI_0, atI_1, atI_2, atI_3, List.length_cons, List.length_nil, Nat.zero_add, Nat.reduceAdd, Nat.reduceLeDiff, ixN_30, ixN_31, ixN_32, Int.reduceLT, Int.reduceLE, Int.reduceNeg, upd_same, reduceCtorEq, false_and, exists_false, or_false, false_or, tSeq, tNext, tIfS, tRet, tRetN, tDrop, tAsg, gName, tPar, tPar3, tAug, ipI, tVar, tC, tOp, tUn, tCB, tD, tDK, tCons, tNil, rI, rI0, rU, tB, tTest, tCallS, tErr, tAnd, tOr, tNot, tAndV, tOrV, tNotV, tIf, rEq, rNe, scal_ii, scal_bb, scal_ss, rGcd_eq, tBits, List.set_cons_zero, List.set_cons_succ, List.getElem?_cons_zero, List.getElem?_cons_succ, Option.some.injEq, exists_eq_left', V.int.injEq, V.bl.injEq, V.str.injEq, true_and, and_true, decide_eq_true_eq, List.cons.injEq, exists_eq_left, Bool.false_eq_true, if_false, if_true, ite_true, ite_false, Bool.not_eq_true', decide_eq_false_iff_not, Bool.not_not]
      rw [Int.zero_add]
      refine ⟨by decide, by decide, fun D2 n2 => ?_⟩
      refine lcW_range (InvTk h D2 (cutV4 (baseZ i))) ⟨Same.upd n2, upd_same⟩ (fun j h2 hj y => ?_) (fun h2 y => ?_)
      · refine ⟨rfl, ?_⟩
        have hj4 : j < 4 := hj
        simp only [cxK, wipe, tYes, List.map_cons, List.map_nil, rIxL, rSum, tSl, rSlL, tNoPart, tPart, exists_and_left, and_assoc, V.ref.injEq, HO.lst.injEq, HO.tup.injEq, tFor_eq, iRng1, iRng2, iList, iTup, tLc_eq, tLst, tTup, gSub, rSetL, gT, gL, gTup, gCons, gNil, atI_0, atI_1, atI_2, atI_3, List.length_cons, List.length_nil, Nat.zero_add, Nat.reduceAdd, Nat.reduceLeDiff, ixN_30, ixN_31, ixN_32, Int.reduceLT, Int.reduceLE, Int.reduceNeg, upd_same, reduceCtorEq, false_and, exists_false, or_false, false_or, tSeq, tNext, tIfS, tRet, tRetN, tDrop, tAsg, gName, tPar, tPar3, tAug, ipI, tVar, tC, tOp, tUn, tCB, tD, tDK, tCons, tNil, rI, rI0, rU, tB, tTest, tCallS, tErr, tAnd, tOr, tNot, tAndV, tOrV, tNotV, tIf, rEq, rNe, scal_ii, scal_bb, scal_ss, rGcd_eq, tBits, List.set_cons_zero, List.set_cons_succ, List.getElem?_cons_zero, List.getElem?_cons_succ, Option.some.injEq, exists_eq_left', V.int.injEq, V.bl.injEq, V.str.injEq, true_and, and_true, decide_eq_true_eq, List.cons.injEq, exists_eq_left, Bool.false_eq_true, if_false, if_true, ite_true, ite_false, Bool.not_eq_true', decide_eq_false_iff_not, Bool.not_not]
        rw [Int.zero_add]
        have hy : (cutV4 (baseZ i))[j]? = some (.int (if i = j then 1 else 0)) := by rw [cut_at hj4, baseZ, ent_mk hj4]
        by_cases e : i = j
        · rw [if_pos e] at hy
          rw [if_pos (by omega)]
          exact y.push n2 (Same.refl _) hy (show 4 ≤ 1000 by decide)
        · rw [if_neg e] at hy
          rw [if_neg (by omega)]
          exact y.push n2 (Same.refl _) hy (show 4 ≤ 1000 by decide)
      · obtain ⟨s2, e2⟩ := y
        exact z.push nD hi4 s2 n2 e2
    · obtain ⟨us, n⟩ := z.done nD
      exact kk Dd us h n

theorem okCrossingSide {f : Addr} {fd : FuncData} (F : Fun K "_crossing_side" "_crossing_side" s_CrossingSide f fd) (T : Txt K mg) : FnOk P w K mg base CX0 1 f fd ["x", "y"] (spSideT) := by
  refine F.ok scCrossingSide (fun vs H Q E h => ?_) (fun cdv A outer s H vs Q E hr h => ?_)
  · obtain ⟨x, y, rfl, _⟩ := h
    rfl
  · obtain ⟨x, y, rfl, kk⟩ := h
    refine ⟨_, (pss_one (ps_ret (pe_ifExp (pt_cmpR op_eq (pe_op op_mod (pe_op op_add (pv 0) (pv 1)) pe_int) pe_int (nomark _)) pe_int (pe_un un_neg pe_int)))), ?_⟩
    have e0 : start N_CrossingSide [.int x, .int y] = [some (.int x), some (.int y)] := rfl
    rw [e0]
    simp only [cxK, wipe, tYes, List.map_cons, List.map_nil, rIxL, rSum, tSl, rSlL, tNoPart, tPart, exists_and_left, and_assoc, V.ref.injEq, HO.lst.injEq, HO.tup.injEq, tFor_eq, iRng1, iRng2, iList, iTup, tLc_eq, tLst, tTup, gSub, rSetL, gT, gL, gTup, gCons, gNil, atI_0, atI_1, atI_2, atI_3, List.length_cons, List.length_nil, Nat.zero_add, Nat.reduceAdd, Nat.reduceLeDiff, ixN_30, ixN_31, ixN_32, Int.reduceLT, Int.reduceLE, Int.reduceNeg, upd_same, reduceCtorEq, false_and, exists_false, or_false, false_or, tSeq, tNext, tIfS, tRet, tRetN, tDrop, tAsg, gName, tPar, tPar3, tAug, ipI, tVar, tC, tOp, tUn, tCB, tD, tDK, tCons, tNil, rI, rI0, rU, tB, tTest, tCallS, tErr, tAnd, tOr, tNot, tAndV, tOrV, tNotV, tIf, rEq, rNe, scal_ii, scal_bb, scal_ss, rGcd_eq, tBits, List.set_cons_zero, List.set_cons_succ, List.getElem?_cons_zero, List.getElem?_cons_succ, Option.some.injEq, exists_eq_left', V.int.injEq, V.bl.injEq, V.str.injEq, true_and, and_true, decide_eq_true_eq, List.cons.injEq, exists_eq_left, Bool.false_eq_true, if_false, if_true, ite_true, ite_false, Bool.not_eq_true', decide_eq_false_iff_not, Bool.not_not]
    by_cases h : (x + y) % 2 = 0
    · unfold sideN at kk
      rw [if_pos h] at kk
      rw [if_pos (by omega)]
      exact kk
    · unfold sideN at kk
      rw [if_neg h] at kk
      rw [if_neg (by omega)]
      exact kk

theorem okKeepsCrossings {f : Addr} {fd : FuncData} (F : Fun K "keeps_crossings" "keeps_crossings" s_KeepsCrossings f fd) (T : Txt K mg) {fCheckTable : Addr} {fdCheckTable : FuncData} (D_CheckTable : DefAt P w K mg base 3 "_check_table" fCheckTable fdCheckTable ["table"] (spCheckTab0)) {fUnmovingTable : Addr} {fdUnmovingTable : FuncData} (D_UnmovingTable : DefAt P w K mg base 1 "unmoving_table" fUnmovingTable fdUnmovingTable [] (spUnitT)) {fTurnedOver : Addr} {fdTurnedOver : FuncData} (D_TurnedOver : DefAt P w K mg base 1 "_turned_over" fTurnedOver fdTurnedOver ["table"] (spTurnedO)) {fCrossing : Addr} {fdCrossing : FuncData} (D_Crossing : DefAt P w K mg base 4 "crossing" fCrossing fdCrossing ["one", "other"] (spCross)) : FnOk P w K mg base CX0 5 f fd ["table"] (spKeepsT) := by
  refine F.ok scKeepsCrossings (fun vs H Q E h => ?_) (fun cdv A outer s H vs Q E hr h => ?_)
  · obtain ⟨a, T0, rs, rfl, _⟩ := h
    rfl
  · obtain ⟨a, T0, rs, rfl, hT, zT, kk⟩ := h
    refine ⟨_, (pss_cons (ps_expr (pe_d D_CheckTable hr (pa_cons (pv 0) pa_nil)))
        (pss_cons (ps_asg (pe_tup (pa_cons (pe_d0 D_UnmovingTable hr) (pa_cons (pe_d D_TurnedOver hr (pa_cons (pv 0) pa_nil)) pa_nil))) (pg_tupT 2 rfl (pgs_cons (pg_name (i := 1) scKeepsCrossings.nd rfl (Or.inr rfl)) (pgs_cons (pg_name (i := 2) scKeepsCrossings.nd rfl (Or.inr rfl)) pgs_nil))))
        (pss_one (ps_ret (pe_callB (cr_all rfl) (by rfl) T.all (by decide +kernel) (pa_cons (pe_lc2N (own := [("x", 3), ("y", 4)]) (g0 := (gName 3)) (q0 := tYes) (g1 := (gName 4)) (q1 := tYes) (v1 := [4]) rfl scKeepsCrossings.nd (pi_range1 rfl T.range (pa_cons pe_int pa_nil)) (blkOk_by (N := N_KeepsCrossings) (sc := defScope s_KeepsCrossings) (by decide +kernel)) (by decide) (fun _ _ _ _ _ => (pg_name (i := 3) scKeepsCrossings.nd rfl (Or.inl rfl))) (fun _ _ _ _ _ => pts_nil) (fun _ _ _ _ _ => (pi_range1 rfl T.range (pa_cons pe_int pa_nil))) (fun _ _ _ _ _ => (pg_name (i := 4) scKeepsCrossings.nd rfl (Or.inl rfl))) (fun _ _ _ _ _ => pts_nil) (fun _ _ _ _ _ => (pe_cmpR op_eq (pe_d D_Crossing hr (pa_cons (pe_ix ixL (pv 2) (pv 3) (fun _ _ => rfl)) (pa_cons (pe_ix ixL (pv 2) (pv 4) (fun _ _ => rfl)) pa_nil))) (pe_d D_Crossing hr (pa_cons (pe_ix ixL (pv 1) (pv 3) (fun _ _ => rfl)) (pa_cons (pe_ix ixL (pv 1) (pv 4) (fun _ _ => rfl)) pa_nil))) (nomark _)))) pa_nil)))))), ?_⟩
    have e0 : start N_KeepsCrossings [.ref a] = [some (.ref a), none, none, none, none] := rfl
    rw [e0]
    refine seq_gen fun C1 hC1 => ?_
    simp only [cxK, wipe, tYes, List.map_cons, List.map_nil, rIxL, rSum, tSl, rSlL, tNoPart, tPart, exists_and_left, and_assoc, V.ref.injEq, HO.lst.injEq, HO.tup.injEq, tFor_eq, iRng1, iRng2, iList, iTup, tLc_eq, tLst, tTup, gSub, rSetL, gT, gL, gTup, gCons, gNil, atI_0, atI_1, atI_2, atI_3, List.length_cons, List.length_nil, Nat.zero_add, Nat.reduceAdd, Nat.reduceLeDiff, ixN_30, ixN_31, ixN_32, Int.reduceLT, Int.reduceLE, Int.reduceNeg, upd_same, reduceCtorEq, false_and, exists_false, or_false, false_or, tNext, tIfS, tRet, tRetN, tDrop, tAsg, gName, tPar, tPar3, tAug, ipI, tVar, tC, tOp, tUn, tCB, tD, tDK, tCons, tNil, rI, rI0, rU, tB, tTest, tCallS, tErr, tAnd, tOr, tNot, tAndV, tOrV, tNotV, tIf, rEq, rNe, scal_ii, scal_bb, scal_ss, rGcd_eq, tBits, List.set_cons_zero, List.set_cons_succ, List.getElem?_cons_zero, List.getElem?_cons_succ, Option.some.injEq, exists_eq_left', V.int.injEq, V.bl.injEq, V.str.injEq, true_and, and_true, decide_eq_true_eq, List.cons.injEq, exists_eq_left, Bool.false_eq_true, if_false, if_true, ite_true, ite_false, Bool.not_eq_true', decide_eq_false_iff_not, Bool.not_not]
    refine ⟨a, T0, rs, rfl, hT, fun H1 s1 => ?_⟩
    refine Eq.mpr (hC1 _ _) ?_
    refine seq_gen fun C2 hC2 => ?_
    simp only [cxK, wipe, tYes, List.map_cons, List.map_nil, rIxL, rSum, tSl, rSlL, tNoPart, tPart, exists_and_left, and_assoc, V.ref.injEq, HO.lst.injEq, HO.tup.injEq, tFor_eq, iRng1, iRng2, iList, iTup, tLc_eq, tLst, tTup, gSub, rSetL, gT, gL, gTup, gCons, gNil, atI_0, atI_1, atI_2, atI_3, List.length_cons, List.length_nil, Nat.zero_add, Nat.reduceAdd, Nat.reduceLeDiff, ixN_30, ixN_31, ixN_32, Int.reduceLT, Int.reduceLE, Int.reduceNeg, upd_same, reduceCtorEq, false_and, exists_false, or_false, false_or, tNext, tIfS, tRet, tRetN, tDrop, tAsg, gName, tPar, tPar3, tAug, ipI, tVar, tC, tOp, tUn, tCB, tD, tDK, tCons, tNil, rI, rI0, rU, tB, tTest, tCallS, tErr, tAnd, tOr, tNot, tAndV, tOrV, tNotV, tIf, rEq, rNe, scal_ii, scal_bb, scal_ss, rGcd_eq, tBits, List.set_cons_zero, List.set_cons_succ, List.getElem?_cons_zero, List.getElem?_cons_succ, Option.some.injEq, exists_eq_left', V.int.injEq, V.bl.injEq, V.str.injEq, true_and, and_true, decide_eq_true_eq, List.cons.injEq, exists_eq_left, Bool.false_eq_true, if_false, if_true, ite_true, ite_false, Bool.not_eq_true', decide_eq_false_iff_not, Bool.not_not]
    refine ⟨rfl, fun b us H2 nb => ⟨a, T0, rs, rfl, (hT.same s1).same nb.same, fun c vs H3 nc => ⟨sml (by decide), fun pq nq => ?_⟩⟩⟩
    have sq := Same.upd (o := .tup [.ref b, .ref c]) nq
    have tb := (nb.tab.same nc.same).same sq
    have tc := nc.tab.same sq
    have s13 := ((s1.trans nb.same).trans nc.same).trans sq
    generalize upd H3 pq (.tup [.ref b, .ref c]) = H4 at *
    refine Eq.mpr (hC2 _ _) ?_
    simp only [cxK, wipe, tYes, List.map_cons, List.map_nil, rIxL, rSum, tSl, rSlL, tNoPart, tPart, exists_and_left, and_assoc, V.ref.injEq, HO.lst.injEq, HO.tup.injEq, tFor_eq, iRng1, iRng2, iList, iTup, tLc_eq, tLst, tTup, gSub, rSetL, gT, gL, gTup, gCons, gNil, atI_0, atI_1, atI_2, atI_3, List.length_cons, List.length_nil, Nat.zero_add, Nat.reduceAdd, Nat.reduceLeDiff, ixN_30, ixN_31, ixN_32, Int.reduceLT, Int.reduceLE, Int.reduceNeg, upd_same, reduceCtorEq, false_and, exists_false, or_false, false_or, tSeq, tNext, tIfS, tRet, tRetN, tDrop, tAsg, gName, tPar, tPar3, tAug, ipI, tVar, tC, tOp, tUn, tCB, tD, tDK, tCons, tNil, rI, rI0, rU, tB, tTest, tCallS, tErr, tAnd, tOr, tNot, tAndV, tOrV, tNotV, tIf, rEq, rNe, scal_ii, scal_bb, scal_ss, rGcd_eq, tBits, List.set_cons_zero, List.set_cons_succ, List.getElem?_cons_zero, List.getElem?_cons_succ, Option.some.injEq, exists_eq_left', V.int.injEq, V.bl.injEq, V.str.injEq, true_and, and_true, decide_eq_true_eq, List.cons.injEq, exists_eq_left, Bool.false_eq_true, if_false, if_true, ite_true, ite_false, Bool.not_eq_true', decide_eq_false_iff_not, Bool.not_not, tLcN_eq]
    have zb : ∀ i, i < 4 → Sz4 900 (rowT unitT i) := fun i hi => by rw [unitT, row_mk hi]; exact mkZ_sz fun j _ => by split <;> decide
    have zc : ∀ i, i < 4 → Sz4 900 (rowT (colsT T0) i) := fun i hi => by rw [colsT, row_mk hi]; exact (col_sz zT i).up (by decide)
    have rb : ∀ i, i < 4 → rowT unitT i = baseZ i := fun i hi => row_mk hi
    have rc : ∀ i, i < 4 → rowT (colsT T0) i = colT T0 i := fun i hi => row_mk hi
    refine ⟨by decide, by decide, fun D nD => ?_⟩
    refine lnW_range (fun i h => InvTk H4 D ((keepL T0 16).map V.bl) (4 * i) h) ⟨Same.upd nD, upd_same⟩ (fun i h hi z => ?_) (fun h z => ?_)
    · refine ⟨rfl, ?_⟩
      have hi4 : i < 4 := hi
      simp only [cxK, wipe, tYes, List.map_cons, List.map_nil, rIxL, rSum, tSl, rSlL, tNoPart, tPart, exists_and_left, and_assoc, V.ref.injEq, HO.lst.injEq, HO.tup.injEq, tFor_eq, iRng1, iRng2, iList, iTup, tLc_eq, tLst, tTup, gSub, rSetL, gT, gL, gTup, gCons, gNil, atI_0, atI_1, atI_2, atI_3, List.length_cons, List.length_nil, Nat.zero_add, Nat.reduceAdd, Nat.reduceLeDiff, ixN_30, ixN_31, ixN_32, Int.reduceLT, Int.reduceLE, Int.reduceNeg, upd_same, reduceCtorEq, false_and, exists_false, or_false, false_or, tSeq, tNext, tIfS, tRet, tRetN, tDrop, tAsg, gName, tPar, tPar3, tAug, ipI, tVar, tC, tOp, tUn, tCB, tD, tDK, tCons, tNil, rI, rI0, rU, tB, tTest, tCallS, tErr, tAnd, tOr, tNot, tAndV, tOrV, tNotV, tIf, rEq, rNe, scal_ii, scal_bb, scal_ss, rGcd_eq, tBits, List.set_cons_zero, List.set_cons_succ, List.getElem?_cons_zero, List.getElem?_cons_succ, Option.some.injEq, exists_eq_left', V.int.injEq, V.bl.injEq, V.str.injEq, true_and, and_true, decide_eq_true_eq, List.cons.injEq, exists_eq_left, Bool.false_eq_true, if_false, if_true, ite_true, ite_false, Bool.not_eq_true', decide_eq_false_iff_not, Bool.not_not, tWithin_eq]
      refine ⟨by decide, by decide, ?_⟩
      refine clW_range (fun j h => InvTk H4 D ((keepL T0 16).map V.bl) (4 * i + j) h) z (fun j h hj y => ?_) (fun h y => y)
      refine ⟨rfl, ?_⟩
      have hj4 : j < 4 := hj
      simp only [cxK, wipe, tYes, List.map_cons, List.map_nil, rIxL, rSum, tSl, rSlL, tNoPart, tPart, exists_and_left, and_assoc, V.ref.injEq, HO.lst.injEq, HO.tup.injEq, tFor_eq, iRng1, iRng2, iList, iTup, tLc_eq, tLst, tTup, gSub, rSetL, gT, gL, gTup, gCons, gNil, atI_0, atI_1, atI_2, atI_3, List.length_cons, List.length_nil, Nat.zero_add, Nat.reduceAdd, Nat.reduceLeDiff, ixN_30, ixN_31, ixN_32, Int.reduceLT, Int.reduceLE, Int.reduceNeg, upd_same, reduceCtorEq, false_and, exists_false, or_false, false_or, tSeq, tNext, tIfS, tRet, tRetN, tDrop, tAsg, gName, tPar, tPar3, tAug, ipI, tVar, tC, tOp, tUn, tCB, tD, tDK, tCons, tNil, rI, rI0, rU, tB, tTest, tCallS, tErr, tAnd, tOr, tNot, tAndV, tOrV, tNotV, tIf, rEq, rNe, scal_ii, scal_bb, scal_ss, rGcd_eq, tBits, List.set_cons_zero, List.set_cons_succ, List.getElem?_cons_zero, List.getElem?_cons_succ, Option.some.injEq, exists_eq_left', V.int.injEq, V.bl.injEq, V.str.injEq, true_and, and_true, decide_eq_true_eq, List.cons.injEq, exists_eq_left, Bool.false_eq_true, if_false, if_true, ite_true, ite_false, Bool.not_eq_true', decide_eq_false_iff_not, Bool.not_not, tPush]
      rw [Int.zero_add, Int.zero_add]
      have atR : ∀ (ws : Nat → Addr) (k : Nat), k < 4 → atI [V.ref (ws 0), V.ref (ws 1), V.ref (ws 2), V.ref (ws 3)] (k : Int) = some (.ref (ws k)) := fun ws k hk => by
        rcases (show k = 0 ∨ k = 1 ∨ k = 2 ∨ k = 3 by omega) with rfl | rfl | rfl | rfl <;> rfl
      refine ⟨_, y.1 _ _ tc.at', _, atR vs i hi4, _, y.1 _ _ tc.at', _, atR vs j hj4, _, _, _, _, rfl, y.1 _ _ (tc.row i hi4), y.1 _ _ (tc.row j hj4), zc i hi4, zc j hj4, fun h1 s1' => ?_⟩
      have sy := y.1.trans s1'
      refine ⟨_, sy _ _ tb.at', _, atR us i hi4, _, sy _ _ tb.at', _, atR us j hj4, _, _, _, _, rfl, sy _ _ (tb.row i hi4), sy _ _ (tb.row j hj4), zb i hi4, zb j hj4, fun h2 s2' => ⟨rfl, ?_⟩⟩
      rw [rb i hi4, rb j hj4, rc i hi4, rc j hj4]
      refine y.push nD (s1'.trans s2') ?_ (show 16 ≤ 1000 by decide)
      rw [List.getElem?_map]
      unfold keepL
      rw [List.getElem?_map, List.getElem?_range (by omega)]
      show some (V.bl (keepB2 T0 ((4 * i + j) / 4) ((4 * i + j) % 4))) = _
      rw [show (4 * i + j) / 4 = i by omega, show (4 * i + j) % 4 = j by omega]
      unfold keepB2
      simp
    · exact ⟨D, keepL T0 16, rfl, SqL.of z.2, kk _ (s13.trans z.1)⟩

theorem okTableBack {f : Addr} {fd : FuncData} (F : Fun K "table_back" "table_back" s_TableBack f fd) (T : Txt K mg) {C_InvalidTable f_InvalidTable : Addr} {fd_InvalidTable : FuncData} (E_InvalidTable : ErrN P w K mg base "InvalidTable" C_InvalidTable f_InvalidTable fd_InvalidTable) {fKeepsCrossings : Addr} {fdKeepsCrossings : FuncData} (D_KeepsCrossings : DefAt P w K mg base 5 "keeps_crossings" fKeepsCrossings fdKeepsCrossings ["table"] (spKeepsT)) {fCrossingSide : Addr} {fdCrossingSide : FuncData} (D_CrossingSide : DefAt P w K mg base 1 "_crossing_side" fCrossingSide fdCrossingSide ["x", "y"] (spSideT)) : FnOk P w K mg base CX0 6 f fd ["table"] (spTBack) := by
  refine F.ok scTableBack (fun vs H Q E h => ?_) (fun cdv A outer s H vs Q E hr h => ?_)
  · obtain ⟨a, T0, rs, rfl, _⟩ := h
    rfl
  · obtain ⟨a, T0, rs, rfl, hT, zT, hk, kk⟩ := h
    refine ⟨_, (pss_cons (ps_if (pt_not (pt_val (pe_d D_KeepsCrossings hr (pa_cons (pv 0) pa_nil)))) (pss_one ps_never) pss_nil)
        (pss_one (ps_ret (pe_lc (own := [("x", 1)]) (g := gName 1) (tt := tYes) rfl scTableBack.nd (pi_range1 rfl T.range (pa_cons pe_int pa_nil)) (blkOk_by (N := N_TableBack) (sc := defScope s_TableBack) (by decide +kernel)) (fun _ _ _ _ _ => pg_name (i := 1) scTableBack.nd rfl (Or.inr rfl)) (fun _ _ _ _ _ => pts_nil) (fun _ _ _ _ _ => (pe_lc (own := [("y", 2)]) (g := gName 2) (tt := tYes) rfl scTableBack.nd (pi_range1 rfl T.range (pa_cons pe_int pa_nil)) (blkOk_by (N := N_TableBack) (by kernel_rfl)) (fun _ _ _ _ _ => pg_name (i := 2) scTableBack.nd rfl (Or.inl rfl)) (fun _ _ _ _ _ => pts_nil) (fun _ _ _ _ _ => (pe_op op_mulU (pe_ix ixL (pe_ix ixL (pv 0) (pe_ix (ix_tupK (K := K) rfl) (pe_globT (K := K) rfl (by rfl) T.PARTNERS) (pv 2) (fun _ _ => rfl)) (fun _ _ => rfl)) (pe_ix (ix_tupK (K := K) rfl) (pe_globT (K := K) rfl (by rfl) T.PARTNERS) (pv 1) (fun _ _ => rfl)) (fun _ _ => rfl)) (pe_d D_CrossingSide hr (pa_cons (pv 1) (pa_cons (pv 2) pa_nil))))))))))), ?_⟩
    have e0 : start N_TableBack [.ref a] = [some (.ref a), none, none] := rfl
    rw [e0]
    simp only [cxK, wipe, tYes, List.map_cons, List.map_nil, rIxL, rSum, tSl, rSlL, tNoPart, tPart, exists_and_left, and_assoc, V.ref.injEq, HO.lst.injEq, HO.tup.injEq, tFor_eq, iRng1, iRng2, iList, iTup, tLc_eq, tLst, tTup, gSub, rSetL, gT, gL, gTup, gCons, gNil, atI_0, atI_1, atI_2, atI_3, List.length_cons, List.length_nil, Nat.zero_add, Nat.reduceAdd, Nat.reduceLeDiff, ixN_30, ixN_31, ixN_32, Int.reduceLT, Int.reduceLE, Int.reduceNeg, upd_same, reduceCtorEq, false_and, exists_false, or_false, false_or, tSeq, tNext, tIfS, tRet, tRetN, tDrop, tAsg, gName, tPar, tPar3, tAug, ipI, tVar, tC, tOp, tUn, tCB, tD, tDK, tCons, tNil, rI, rI0, rU, tB, tTest, tCallS, tErr, tAnd, tOr, tNot, tAndV, tOrV, tNotV, tIf, rEq, rNe, scal_ii, scal_bb, scal_ss, rGcd_eq, tBits, List.set_cons_zero, List.set_cons_succ, List.getElem?_cons_zero, List.getElem?_cons_succ, Option.some.injEq, exists_eq_left', V.int.injEq, V.bl.injEq, V.str.injEq, true_and, and_true, decide_eq_true_eq, List.cons.injEq, exists_eq_left, Bool.false_eq_true, if_false, if_true, ite_true, ite_false, Bool.not_eq_true', decide_eq_false_iff_not, Bool.not_not, tGT, rIxT]
    refine ⟨a, T0, rs, rfl, hT, zT, fun H1 s1 => ?_⟩
    rw [hk]
    refine ⟨true, rfl, ?_⟩
    rw [if_neg (by decide)]
    have hT1 := hT.same s1
    have atR : ∀ (ws : Nat → Addr) (k : Nat), k < 4 → atI [V.ref (ws 0), V.ref (ws 1), V.ref (ws 2), V.ref (ws 3)] (k : Int) = some (.ref (ws k)) := fun ws k hk => by
      rcases (show k = 0 ∨ k = 1 ∨ k = 2 ∨ k = 3 by omega) with rfl | rfl | rfl | rfl <;> rfl
    have pt : ∀ k : Nat, k < 4 → atI [V.int 1, V.int 0, V.int 3, V.int 2] (k : Int) = some (.int (partN k)) := fun k hk => by
      rcases (show k = 0 ∨ k = 1 ∨ k = 2 ∨ k = 3 by omega) with rfl | rfl | rfl | rfl <;> rfl
    refine ⟨by decide, by decide, fun Dd nD => ?_⟩
    refine lcW_range (InvTb H1 Dd fun x => mkZ fun y => entZ (rowT T0 (partN y)) (partN x) * sideN x y) (InvTb.start nD) (fun i h hi z => ?_) (fun h z => ?_)
    · refine ⟨rfl, ?_⟩
      have hi4 : i < 4 := hi
      simp only [cxK, wipe, tYes, List.map_cons, List.map_nil, rIxL, rSum, tSl, rSlL, tNoPart, tPart, exists_and_left, and_assoc, V.ref.injEq, HO.lst.injEq, HO.tup.injEq, tFor_eq, iRng1, iRng2, iList, iTup, tLc_eq, tLst, tTup, gSub, rSetL, gT, gL, gTup, gCons, gNil, atI_0, atI_1, atI_2, atI_3, List.length_cons, List.length_nil, Nat.zero_add, Nat.reduceAdd, Nat.reduceLeDiff, ixN_30, ixN_31, ixN_32, Int.reduceLT, Int.reduceLE, Int.reduceNeg, upd_same, reduceCtorEq, false_and, exists_false, or_false, false_or, tSeq, tNext, tIfS, tRet, tRetN, tDrop, tAsg, gName, tPar, tPar3, tAug, ipI, tVar, tC, tOp, tUn, tCB, tD, tDK, tCons, tNil, rI, rI0, rU, tB, tTest, tCallS, tErr, tAnd, tOr, tNot, tAndV, tOrV, tNotV, tIf, rEq, rNe, scal_ii, scal_bb, scal_ss, rGcd_eq, tBits, List.set_cons_zero, List.set_cons_succ, List.getElem?_cons_zero, List.getElem?_cons_succ, Option.some.injEq, exists_eq_left', V.int.injEq, V.bl.injEq, V.str.injEq, true_and, and_true, decide_eq_true_eq, List.cons.injEq, exists_eq_left, Bool.false_eq_true, if_false, if_true, ite_true, ite_false, Bool.not_eq_true', decide_eq_false_iff_not, Bool.not_not, tGT, rIxT]
      rw [Int.zero_add]
      refine ⟨by decide, by decide, fun D2 n2 => ?_⟩
      refine lcW_range (InvTk h D2 (cutV4 (mkZ fun y => entZ (rowT T0 (partN y)) (partN i) * sideN i y))) ⟨Same.upd n2, upd_same⟩ (fun j h2 hj y => ?_) (fun h2 y => ?_)
      · refine ⟨rfl, ?_⟩
        have hj4 : j < 4 := hj
        simp only [cxK, wipe, tYes, List.map_cons, List.map_nil, rIxL, rSum, tSl, rSlL, tNoPart, tPart, exists_and_left, and_assoc, V.ref.injEq, HO.lst.injEq, HO.tup.injEq, tFor_eq, iRng1, iRng2, iList, iTup, tLc_eq, tLst, tTup, gSub, rSetL, gT, gL, gTup, gCons, gNil, atI_0, atI_1, atI_2, atI_3, List.length_cons, List.length_nil, Nat.zero_add, Nat.reduceAdd, Nat.reduceLeDiff, ixN_30, ixN_31, ixN_32, Int.reduceLT, Int.reduceLE, Int.reduceNeg, upd_same, reduceCtorEq, false_and, exists_false, or_false, false_or, tSeq, tNext, tIfS, tRet, tRetN, tDrop, tAsg, gName, tPar, tPar3, tAug, ipI, tVar, tC, tOp, tUn, tCB, tD, tDK, tCons, tNil, rI, rI0, rU, tB, tTest, tCallS, tErr, tAnd, tOr, tNot, tAndV, tOrV, tNotV, tIf, rEq, rNe, scal_ii, scal_bb, scal_ss, rGcd_eq, tBits, List.set_cons_zero, List.set_cons_succ, List.getElem?_cons_zero, List.getElem?_cons_succ, Option.some.injEq, exists_eq_left', V.int.injEq, V.bl.injEq, V.str.injEq, true_and, and_true, decide_eq_true_eq, List.cons.injEq, exists_eq_left, Bool.false_eq_true, if_false, if_true, ite_true, ite_false, Bool.not_eq_true', decide_eq_false_iff_not, Bool.not_not, tGT, rIxT]
        rw [Int.zero_add]
        have sy := z.1.trans y.1
        intro pa hpa
        refine ⟨_, hpa _, _, pt j hj4, _, _, rfl, sy _ _ hT1.at', _, atR rs (partN j) (part_lt j), fun pb hpb => ?_⟩
        refine ⟨_, hpb _, _, pt i hi4, _, rfl, _, _, rfl, sy _ _ (hT1.row (partN j) (part_lt j)), _, cut_atI (part_lt i), ?_⟩
        refine ⟨i, j, rfl, _, rfl, _, rfl, ?_, ?_⟩
        · rcases side_one i j with e | e <;> rw [e] <;> exact cmr (by decide) (by decide)
        · exact y.push n2 (Same.refl _) (by rw [cut_at hj4, ent_mk hj4]) (show 4 ≤ 1000 by decide)
      · obtain ⟨s2, e2⟩ := y
        exact z.push nD hi4 s2 n2 e2
    · obtain ⟨us, n⟩ := z.done nD
      exact kk Dd us h (n.before s1)

theorem okXTableBack {f : Addr} {fd : FuncData} (F : Fun K "table_back" "table_back" s_TableBack f fd) (T : Txt K mg) {C_InvalidTable f_InvalidTable : Addr} {fd_InvalidTable : FuncData} (E_InvalidTable : ErrN P w K mg base "InvalidTable" C_InvalidTable f_InvalidTable fd_InvalidTable) {fKeepsCrossings : Addr} {fdKeepsCrossings : FuncData} (D_KeepsCrossings : DefAt P w K mg base 5 "keeps_crossings" fKeepsCrossings fdKeepsCrossings ["table"] (spKeepsT)) {fCrossingSide : Addr} {fdCrossingSide : FuncData} (D_CrossingSide : DefAt P w K mg base 1 "_crossing_side" fCrossingSide fdCrossingSide ["x", "y"] (spSideT)) : FnOk P w K mg base (L2.CX P w) 6 f fd ["table"] (spTBackX C_InvalidTable) := by
  refine F.okX scTableBack (fun vs H Q E h => ?_) (fun cdv A outer s H vs Q E hr h => ?_)
  · obtain ⟨a, T0, rs, rfl, _⟩ := h
    rfl
  · obtain ⟨a, T0, rs, rfl, hT, zT, hk, kk⟩ := h
    refine ⟨_, (pss_cons (ps_if (pt_not (pt_val (pe_d D_KeepsCrossings hr (pa_cons (pv 0) pa_nil)))) (pss_one (ps_raise rfl takes_def (pmk_err E_InvalidTable.c hr (pa_cons (pv 0) pa_nil)))) pss_nil)
        (pss_one (ps_ret (pe_lc (own := [("x", 1)]) (g := gName 1) (tt := tYes) rfl scTableBack.nd (pi_range1 rfl T.range (pa_cons pe_int pa_nil)) (blkOk_by (N := N_TableBack) (sc := defScope s_TableBack) (by decide +kernel)) (fun _ _ _ _ _ => pg_name (i := 1) scTableBack.nd rfl (Or.inr rfl)) (fun _ _ _ _ _ => pts_nil) (fun _ _ _ _ _ => (pe_lc (own := [("y", 2)]) (g := gName 2) (tt := tYes) rfl scTableBack.nd (pi_range1 rfl T.range (pa_cons pe_int pa_nil)) (blkOk_by (N := N_TableBack) (by kernel_rfl)) (fun _ _ _ _ _ => pg_name (i := 2) scTableBack.nd rfl (Or.inl rfl)) (fun _ _ _ _ _ => pts_nil) (fun _ _ _ _ _ => (pe_op op_mulU (pe_ix ixL (pe_ix ixL (pv 0) (pe_ix (ix_tupK (K := K) rfl) (pe_globT (K := K) rfl (by rfl) T.PARTNERS) (pv 2) (fun _ _ => rfl)) (fun _ _ => rfl)) (pe_ix (ix_tupK (K := K) rfl) (pe_globT (K := K) rfl (by rfl) T.PARTNERS) (pv 1) (fun _ _ => rfl)) (fun _ _ => rfl)) (pe_d D_CrossingSide hr (pa_cons (pv 1) (pa_cons (pv 2) pa_nil))))))))))), ?_⟩
    have e0 : start N_TableBack [.ref a] = [some (.ref a), none, none] := rfl
    rw [e0]
    simp only [cxK, wipe, tYes, List.map_cons, List.map_nil, rIxL, rSum, tSl, rSlL, tNoPart, tPart, exists_and_left, and_assoc, V.ref.injEq, HO.lst.injEq, HO.tup.injEq, tFor_eq, iRng1, iRng2, iList, iTup, tLc_eq, tLst, tTup, gSub, rSetL, gT, gL, gTup, gCons, gNil, atI_0, atI_1, atI_2, atI_3, List.length_cons, List.length_nil, Nat.zero_add, Nat.reduceAdd, Nat.reduceLeDiff, ixN_30, ixN_31, ixN_32, Int.reduceLT, Int.reduceLE, Int.reduceNeg, upd_same, reduceCtorEq, false_and, exists_false, or_false, false_or, tSeq, tNext, tIfS, tRet, tRetN, tDrop, tAsg, gName, tPar, tPar3, tAug, ipI, tVar, tC, tOp, tUn, tCB, tD, tDK, tCons, tNil, rI, rI0, rU, tB, tTest, tCallS, tErr, tAnd, tOr, tNot, tAndV, tOrV, tNotV, tIf, rEq, rNe, scal_ii, scal_bb, scal_ss, rGcd_eq, tBits, List.set_cons_zero, List.set_cons_succ, List.getElem?_cons_zero, List.getElem?_cons_succ, Option.some.injEq, exists_eq_left', V.int.injEq, V.bl.injEq, V.str.injEq, true_and, and_true, decide_eq_true_eq, List.cons.injEq, exists_eq_left, Bool.false_eq_true, if_false, if_true, ite_true, ite_false, Bool.not_eq_true', decide_eq_false_iff_not, Bool.not_not, tGT, rIxT]
    refine ⟨a, T0, rs, rfl, hT, zT, fun H1 s1 => ?_⟩
    rw [hk]
    refine ⟨false, rfl, ?_⟩
    rw [if_pos rfl]
    exact kk.now s1

theorem okLawCrossing {f : Addr} {fd : FuncData} (F : Fun K "_law_crossing" "_law_crossing" s_LawCrossing f fd) (T : Txt K mg) : FnOk P w K mg base CX0 1 f fd ["_law_one", "_law_other"] (spLawCross) := by
  refine F.ok scLawCrossing (fun vs H Q E h => ?_) (fun cdv A outer s H vs Q E hr h => ?_)
  · obtain ⟨p, r, t, u, rfl, _⟩ := h
    rfl
  · obtain ⟨p, r, t, u, rfl, hp, hr2, zt, zu, kk⟩ := h
    refine ⟨_, (pss_one (ps_ret (pe_op op_sub (pe_op op_add (pe_op op_sub (pe_op op_mulU (pe_ix ixL (pv 0) pe_int (fun _ _ => rfl)) (pe_ix ixL (pv 1) pe_int (fun _ _ => rfl))) (pe_op op_mulU (pe_ix ixL (pv 0) pe_int (fun _ _ => rfl)) (pe_ix ixL (pv 1) pe_int (fun _ _ => rfl)))) (pe_op op_mulU (pe_ix ixL (pv 0) pe_int (fun _ _ => rfl)) (pe_ix ixL (pv 1) pe_int (fun _ _ => rfl)))) (pe_op op_mulU (pe_ix ixL (pv 0) pe_int (fun _ _ => rfl)) (pe_ix ixL (pv 1) pe_int (fun _ _ => rfl)))))), ?_⟩
    have e0 : start N_LawCrossing [.ref p, .ref r] = [some (.ref p), some (.ref r)] := rfl
    rw [e0]
    have e1 : H p = some (.lst [.int t.1, .int t.2.1, .int t.2.2.1, .int t.2.2.2]) := hp
    have e2 : H r = some (.lst [.int u.1, .int u.2.1, .int u.2.2.1, .int u.2.2.2]) := hr2
    obtain ⟨z1, z2, z3, z4⟩ := zt
    obtain ⟨y1, y2, y3, y4⟩ := zu
    simp only [cxK, wipe, tYes, List.map_cons, List.map_nil, rIxL, rSum, tSl, rSlL, tNoPart, tPart, exists_and_left, and_assoc, V.ref.injEq, HO.lst.injEq, HO.tup.injEq, tFor_eq, iRng1, iRng2, iList, iTup, tLc_eq, tLst, tTup, gSub, rSetL, gT, gL, gTup, gCons, gNil, atI_0, atI_1, atI_2, atI_3, List.length_cons, List.length_nil, Nat.zero_add, Nat.reduceAdd, Nat.reduceLeDiff, ixN_30, ixN_31, ixN_32, Int.reduceLT, Int.reduceLE, Int.reduceNeg, upd_same, reduceCtorEq, false_and, exists_false, or_false, false_or, tSeq, tNext, tIfS, tRet, tRetN, tDrop, tAsg, gName, tPar, tPar3, tAug, ipI, tVar, tC, tOp, tUn, tCB, tD, tDK, tCons, tNil, rI, rI0, rU, tB, tTest, tCallS, tErr, tAnd, tOr, tNot, tAndV, tOrV, tNotV, tIf, rEq, rNe, scal_ii, scal_bb, scal_ss, rGcd_eq, tBits, List.set_cons_zero, List.set_cons_succ, List.getElem?_cons_zero, List.getElem?_cons_succ, Option.some.injEq, exists_eq_left', V.int.injEq, V.bl.injEq, V.str.injEq, true_and, and_true, decide_eq_true_eq, List.cons.injEq, exists_eq_left, Bool.false_eq_true, if_false, if_true, ite_true, ite_false, Bool.not_eq_true', decide_eq_false_iff_not, Bool.not_not, e1, e2]
    exact ⟨okm z1 y2 (by decide) (by decide), okm z2 y1 (by decide) (by decide), okm z3 y4 (by decide) (by decide), okm z4 y3 (by decide) (by decide), kk⟩

theorem okLawPath {f : Addr} {fd : FuncData} (F : Fun K "_law_path" "_law_path" s_LawPath f fd) (T : Txt K mg) {fLawRandom : Addr} {fdLawRandom : FuncData} (D_LawRandom : DefAt P w K mg base 2 "_law_random" fLawRandom fdLawRandom ["_law_generator_here", "_law_bound"] (spRandom)) : FnOk P w K mg base CX0 3 f fd ["_law_generator_here"] (spLawPath) := by
  refine F.ok scLawPath (fun vs H Q E h => ?_) (fun cdv A outer s H vs Q E hr h => ?_)
  · obtain ⟨g, k, rfl, _⟩ := h
    rfl
  · obtain ⟨g, k, rfl, hG, hk, kk⟩ := h
    refine ⟨_, (pss_cons (ps_set (i := 1) scLawPath.nd rfl (Or.inr rfl) (pe_ix ixL (pe_lst (pa_cons pe_int (pa_cons (pe_op op_powX pe_int pe_int) (pa_cons (pe_op op_powX pe_int pe_int) pa_nil)))) (pe_d D_LawRandom hr (pa_cons (pv 0) (pa_cons pe_int pa_nil))) (fun _ _ => rfl)))
        (pss_one (ps_ret (pe_lc (own := [("_law_at", 2)]) (g := gName 2) (tt := tYes) rfl scLawPath.nd (pi_range1 rfl T.range (pa_cons pe_int pa_nil)) (blkOk_by (N := N_LawPath) (sc := defScope s_LawPath) (by decide +kernel)) (fun _ _ _ _ _ => pg_name (i := 2) scLawPath.nd rfl (Or.inl rfl)) (fun _ _ _ _ _ => pts_nil) (fun _ _ _ _ _ => (pe_op op_sub (pe_d D_LawRandom hr (pa_cons (pv 0) (pa_cons (pe_op op_add (pe_op op_mulU pe_int (pv 1)) pe_int) pa_nil))) (pv 1))))))), ?_⟩
    have e0 : start N_LawPath [.ref g] = [some (.ref g), none, none] := rfl
    rw [e0]
    simp only [cxK, wipe, tYes, List.map_cons, List.map_nil, rIxL, rSum, tSl, rSlL, tNoPart, tPart, exists_and_left, and_assoc, V.ref.injEq, HO.lst.injEq, HO.tup.injEq, tFor_eq, iRng1, iRng2, iList, iTup, tLc_eq, tLst, tTup, gSub, rSetL, gT, gL, gTup, gCons, gNil, atI_0, atI_1, atI_2, atI_3, List.length_cons, List.length_nil, Nat.zero_add, Nat.reduceAdd, Nat.reduceLeDiff, ixN_30, ixN_31, ixN_32, Int.reduceLT, Int.reduceLE, Int.reduceNeg, upd_same, reduceCtorEq, false_and, exists_false, or_false, false_or, tSeq, tNext, tIfS, tRet, tRetN, tDrop, tAsg, gName, tPar, tPar3, tAug, ipI, tVar, tC, tOp, tUn, tCB, tD, tDK, tCons, tNil, rI, rI0, rU, tB, tTest, tCallS, tErr, tAnd, tOr, tNot, tAndV, tOrV, tNotV, tIf, rEq, rNe, scal_ii, scal_bb, scal_ss, rGcd_eq, tBits, List.set_cons_zero, List.set_cons_succ, List.getElem?_cons_zero, List.getElem?_cons_succ, Option.some.injEq, exists_eq_left', V.int.injEq, V.bl.injEq, V.str.injEq, true_and, and_true, decide_eq_true_eq, List.cons.injEq, exists_eq_left, Bool.false_eq_true, if_false, if_true, ite_true, ite_false, Bool.not_eq_true', decide_eq_false_iff_not, Bool.not_not]
    refine ⟨cpow (by decide) (by decide) (by decide) (by decide), cpow (by decide) (by decide) (by decide) (by decide), by decide, fun L nL => ?_⟩
    have hLg := hG.nn nL
    have GL := hG.same (Same.upd (o := .lst [V.int 3, V.int (10 ^ Int.toNat 6), V.int (10 ^ Int.toNat 20)]) nL)
    have KL : Keep g H (upd H L (.lst [V.int 3, V.int (10 ^ Int.toNat 6), V.int (10 ^ Int.toNat 20)])) := Keep.of (Same.upd nL)
    have eL : upd H L (.lst [V.int 3, V.int (10 ^ Int.toNat 6), V.int (10 ^ Int.toNat 20)]) L = some (.lst [V.int 3, V.int (10 ^ Int.toNat 6), V.int (10 ^ Int.toNat 20)]) := upd_same
    generalize upd H L (.lst [V.int 3, V.int (10 ^ Int.toNat 6), V.int (10 ^ Int.toNat 20)]) = H1 at *
    refine ⟨g, 3, k, rfl, GL, by omega, by decide, by decide, fun x H2 x0 x1 G2 K2 => ?_⟩
    obtain ⟨m, hm, m1, m2⟩ : ∃ m : Int, atI [V.int 3, V.int (10 ^ Int.toNat 6), V.int (10 ^ Int.toNat 20)] x = some (.int m) ∧ 3 ≤ m ∧ m ≤ 10 ^ 20 := by
      rcases (show x = 0 ∨ x = 1 ∨ x = 2 by omega) with rfl | rfl | rfl
      · exact ⟨3, rfl, by decide, by decide⟩
      · exact ⟨_, rfl, by decide +kernel, by decide +kernel⟩
      · exact ⟨_, rfl, by decide +kernel, by decide +kernel⟩
    refine ⟨_, x, rfl, K2 _ _ hLg eL, _, hm, ?_⟩
    refine ⟨by decide, by decide, fun Dd nD => ?_⟩
    have K02 : Keep g H H2 := KL.trans K2
    refine lcW_range (InvDr g Dd (k + 20) 80 H2) ⟨[], upd_same, rfl, fun n hn => absurd hn List.not_mem_nil, G2.upd (G2.nn nD), (Keep.refl g H2).upd nD, G2.nn nD⟩ (fun i H3 hi z => ?_) (fun H3 z => ?_)
    · refine ⟨rfl, ?_⟩
      simp only [cxK, wipe, tYes, List.map_cons, List.map_nil, rIxL, rSum, tSl, rSlL, tNoPart, tPart, exists_and_left, and_assoc, V.ref.injEq, HO.lst.injEq, HO.tup.injEq, tFor_eq, iRng1, iRng2, iList, iTup, tLc_eq, tLst, tTup, gSub, rSetL, gT, gL, gTup, gCons, gNil, atI_0, atI_1, atI_2, atI_3, List.length_cons, List.length_nil, Nat.zero_add, Nat.reduceAdd, Nat.reduceLeDiff, ixN_30, ixN_31, ixN_32, Int.reduceLT, Int.reduceLE, Int.reduceNeg, upd_same, reduceCtorEq, false_and, exists_false, or_false, false_or, tSeq, tNext, tIfS, tRet, tRetN, tDrop, tAsg, gName, tPar, tPar3, tAug, ipI, tVar, tC, tOp, tUn, tCB, tD, tDK, tCons, tNil, rI, rI0, rU, tB, tTest, tCallS, tErr, tAnd, tOr, tNot, tAndV, tOrV, tNotV, tIf, rEq, rNe, scal_ii, scal_bb, scal_ss, rGcd_eq, tBits, List.set_cons_zero, List.set_cons_succ, List.getElem?_cons_zero, List.getElem?_cons_succ, Option.some.injEq, exists_eq_left', V.int.injEq, V.bl.injEq, V.str.injEq, true_and, and_true, decide_eq_true_eq, List.cons.injEq, exists_eq_left, Bool.false_eq_true, if_false, if_true, ite_true, ite_false, Bool.not_eq_true', decide_eq_false_iff_not, Bool.not_not]
      obtain ⟨ns, eD, hl, hall, G3, K3, hDg⟩ := z
      have hi4 : i < 4 := hi
      refine ⟨cml (by decide) (by decide), ?_⟩
      refine ⟨g, _, k + 20 + 20 * i, rfl, G3, by omega, by omega, by omega, fun r H4 r0 r1 G4 K4 => ⟨r, rfl, ?_⟩⟩
      refine ⟨_, K4 _ _ hDg eD, small1K (by rw [List.length_map]; omega), ns ++ [r - m], by rw [upd_same, List.map_append]; rfl, by rw [List.length_append, hl]; rfl, fun n hn => ?_, (G4.upd hDg).mono (by omega), (K3.trans K4).upd nD, hDg⟩
      rcases List.mem_append.mp hn with hn | hn
      · exact hall n hn
      · rw [List.mem_singleton.mp hn]
        omega
    · obtain ⟨ns, eD, hl, hall, G3, K3, hDg⟩ := z
      match ns, hl with
      | [a, b, c, d], _ =>
        exact kk (a, b, c, d) Dd _ ⟨hall a (by simp), hall b (by simp), hall c (by simp), hall d (by simp)⟩ (K02.free hDg nD) eD (G3.mono (by omega)) (K02.trans K3)

theorem okLawColumns {f : Addr} {fd : FuncData} (F : Fun K "_law_columns" "_law_columns" s_LawColumns f fd) (T : Txt K mg) : FnOk P w K mg base CX0 1 f fd ["_law_table"] (spTurnedO) := by
  refine F.ok scLawColumns (fun vs H Q E h => ?_) (fun cdv A outer s H vs Q E hr h => ?_)
  · obtain ⟨a, T0, rs, rfl, _⟩ := h
    rfl
  · obtain ⟨a, T0, rs, rfl, hT, kk⟩ := h
    refine ⟨_, (pss_one (ps_ret (pe_lc (own := [("_law_at", 1)]) (g := gName 1) (tt := tYes) rfl scLawColumns.nd (pi_range1 rfl T.range (pa_cons pe_int pa_nil)) (blkOk_by (N := N_LawColumns) (sc := defScope s_LawColumns) (by decide +kernel)) (fun _ _ _ _ _ => pg_name (i := 1) scLawColumns.nd rfl (Or.inr rfl)) (fun _ _ _ _ _ => pts_nil) (fun _ _ _ _ _ => (pe_lc (own := [("_law_row", 2)]) (g := gName 2) (tt := tYes) rfl scLawColumns.nd (pi_listK (K := K) rfl (pv 0)) (blkOk_by (N := N_LawColumns) (by kernel_rfl)) (fun _ _ _ _ _ => pg_name (i := 2) scLawColumns.nd rfl (Or.inl rfl)) (fun _ _ _ _ _ => pts_nil) (fun _ _ _ _ _ => (pe_ix ixL (pv 2) (pv 1) (fun _ _ => rfl)))))))), ?_⟩
    have e0 : start N_LawColumns [.ref a] = [some (.ref a), none, none] := rfl
    rw [e0]
    simp only [cxK, wipe, tYes, List.map_cons, List.map_nil, rIxL, rSum, tSl, rSlL, tNoPart, tPart, exists_and_left, and_assoc, V.ref.injEq, HO.lst.injEq, HO.tup.injEq, tFor_eq, iRng1, iRng2, iList, iTup, tLc_eq, tLst, tTup, gSub, rSetL, gT, gL, gTup, gCons, gNil, atI_0, atI_1, atI_2, atI_3, List.length_cons, List.length_nil, Nat.zero_add, Nat.reduceAdd, Nat.reduceLeDiff, ixN_30, ixN_31, ixN_32, Int.reduceLT, Int.reduceLE, Int.reduceNeg, upd_same, reduceCtorEq, false_and, exists_false, or_false, false_or, tSeq, tNext, tIfS, tRet, tRetN, tDrop, tAsg, gName, tPar, tPar3, tAug, ipI, tVar, tC, tOp, tUn, tCB, tD, tDK, tCons, tNil, rI, rI0, rU, tB, tTest, tCallS, tErr, tAnd, tOr, tNot, tAndV, tOrV, tNotV, tIf, rEq, rNe, scal_ii, scal_bb, scal_ss, rGcd_eq, tBits, List.set_cons_zero, List.set_cons_succ, List.getElem?_cons_zero, List.getElem?_cons_succ, Option.some.injEq, exists_eq_left', V.int.injEq, V.bl.injEq, V.str.injEq, true_and, and_true, decide_eq_true_eq, List.cons.injEq, exists_eq_left, Bool.false_eq_true, if_false, if_true, ite_true, ite_false, Bool.not_eq_true', decide_eq_false_iff_not, Bool.not_not]
    refine ⟨by decide, by decide, fun Dd nD => ?_⟩
    refine lcW_range (InvTb H Dd (colT T0)) (InvTb.start nD) (fun i h hi z => ?_) (fun h z => ?_)
    · refine ⟨rfl, ?_⟩
      have hi4 : i < 4 := hi
      simp only [cxK, wipe, tYes, List.map_cons, List.map_nil, rIxL, rSum, tSl, rSlL, tNoPart, tPart, exists_and_left, and_assoc, V.ref.injEq, HO.lst.injEq, HO.tup.injEq, tFor_eq, iRng1, iRng2, iList, iTup, tLc_eq, tLst, tTup, gSub, rSetL, gT, gL, gTup, gCons, gNil, atI_0, atI_1, atI_2, atI_3, List.length_cons, List.length_nil, Nat.zero_add, Nat.reduceAdd, Nat.reduceLeDiff, ixN_30, ixN_31, ixN_32, Int.reduceLT, Int.reduceLE, Int.reduceNeg, upd_same, reduceCtorEq, false_and, exists_false, or_false, false_or, tSeq, tNext, tIfS, tRet, tRetN, tDrop, tAsg, gName, tPar, tPar3, tAug, ipI, tVar, tC, tOp, tUn, tCB, tD, tDK, tCons, tNil, rI, rI0, rU, tB, tTest, tCallS, tErr, tAnd, tOr, tNot, tAndV, tOrV, tNotV, tIf, rEq, rNe, scal_ii, scal_bb, scal_ss, rGcd_eq, tBits, List.set_cons_zero, List.set_cons_succ, List.getElem?_cons_zero, List.getElem?_cons_succ, Option.some.injEq, exists_eq_left', V.int.injEq, V.bl.injEq, V.str.injEq, true_and, and_true, decide_eq_true_eq, List.cons.injEq, exists_eq_left, Bool.false_eq_true, if_false, if_true, ite_true, ite_false, Bool.not_eq_true', decide_eq_false_iff_not, Bool.not_not]
      rw [Int.zero_add]
      refine ⟨⟨_, SqL.of (z.1 _ _ hT.at')⟩, fun D2 n2 => ?_⟩
      refine lcW_list (xs := [.ref (rs 0), .ref (rs 1), .ref (rs 2), .ref (rs 3)]) (InvTk h D2 (cutV4 (colT T0 i))) ⟨Same.upd n2, upd_same⟩ (fun _ _ _ y => SqL.of (y.1 _ _ (z.1 _ _ hT.at'))) ?_ ?_
      · rintro j x h2 hx y
        refine ⟨rfl, ?_⟩
        have hj : j < 4 := (List.getElem?_eq_some_iff.mp hx).1
        obtain rfl : x = .ref (rs j) := by
          rcases (show j = 0 ∨ j = 1 ∨ j = 2 ∨ j = 3 by omega) with rfl | rfl | rfl | rfl <;> exact (Option.some.inj hx).symm
        simp only [cxK, wipe, tYes, List.map_cons, List.map_nil, rIxL, rSum, tSl, rSlL, tNoPart, tPart, exists_and_left, and_assoc, V.ref.injEq, HO.lst.injEq, HO.tup.injEq, tFor_eq, iRng1, iRng2, iList, iTup, tLc_eq, tLst, tTup, gSub, rSetL, gT, gL, gTup, gCons, gNil, atI_0, atI_1, atI_2, atI_3, List.length_cons, List.length_nil, Nat.zero_add, Nat.reduceAdd, Nat.reduceLeDiff, ixN_30, ixN_31, ixN_32, Int.reduceLT, Int.reduceLE, Int.reduceNeg, upd_same, reduceCtorEq, false_and, exists_false, or_false, false_or, tSeq, tNext, tIfS, tRet, tRetN, tDrop, tAsg, gName, tPar, tPar3, tAug, ipI, tVar, tC, tOp, tUn, tCB, tD, tDK, tCons, tNil, rI, rI0, rU, tB, tTest, tCallS, tErr, tAnd, tOr, tNot, tAndV, tOrV, tNotV, tIf, rEq, rNe, scal_ii, scal_bb, scal_ss, rGcd_eq, tBits, List.set_cons_zero, List.set_cons_succ, List.getElem?_cons_zero, List.getElem?_cons_succ, Option.some.injEq, exists_eq_left', V.int.injEq, V.bl.injEq, V.str.injEq, true_and, and_true, decide_eq_true_eq, List.cons.injEq, exists_eq_left, Bool.false_eq_true, if_false, if_true, ite_true, ite_false, Bool.not_eq_true', decide_eq_false_iff_not, Bool.not_not]
        refine ⟨_, y.1 _ _ (z.1 _ _ (hT.row j hj)), _, cut_atI hi4, ?_⟩
        exact y.push n2 (Same.refl _) (by rw [cut_at hj, colT, ent_mk hj]) (show 4 ≤ 1000 by decide)
      · rintro h2 ⟨s2, e2⟩
        exact z.push nD hi4 s2 n2 e2
    · obtain ⟨us, n⟩ := z.done nD
      exact kk Dd us h n

theorem okLawLed {f : Addr} {fd : FuncData} (F : Fun K "_law_led" "_law_led" s_LawLed f fd) (T : Txt K mg) : FnOk P w K mg base CX0 1 f fd ["_law_table", "_law_path_here"] (spLedPath) := by
  refine F.ok scLawLed (fun vs H Q E h => ?_) (fun cdv A outer s H vs Q E hr h => ?_)
  · obtain ⟨a, p, T0, rs, t, rfl, _⟩ := h
    rfl
  · obtain ⟨a, p, T0, rs, t, rfl, hT, hp, zT, zt, kk⟩ := h
    refine ⟨_, (pss_one (ps_ret (pe_lc (own := [("_law_row", 2)]) (g := gName 2) (tt := tYes) rfl scLawLed.nd (pi_list (pv 0)) (blkOk_by (N := N_LawLed) (sc := defScope s_LawLed) (by decide +kernel)) (fun _ _ _ _ _ => pg_name (i := 2) scLawLed.nd rfl (Or.inl rfl)) (fun _ _ _ _ _ => pts_nil) (fun _ _ _ _ _ => (pe_callB (cr_sumK (K := K) rfl rfl) (by rfl) T.sum (by decide +kernel) (pa_cons (pe_lc (own := [("_law_item", 3), ("_law_often", 4)]) (g := gT 2 (gCons (gName 3) (gCons (gName 4) gNil))) (tt := tYes) rfl scLawLed.nd (pi_zipK (K := K) rfl (by rfl) T.zip (pa_cons (pv 2) (pa_cons (pv 1) pa_nil))) (blkOk_by (N := N_LawLed) (by kernel_rfl)) (fun _ _ _ _ _ => pg_tupT 2 rfl (pgs_cons (pg_name (i := 3) scLawLed.nd rfl (Or.inl rfl)) (pgs_cons (pg_name (i := 4) scLawLed.nd rfl (Or.inl rfl)) pgs_nil))) (fun _ _ _ _ _ => pts_nil) (fun _ _ _ _ _ => (pe_op op_mulU (pv 3) (pv 4)))) pa_nil)))))), ?_⟩
    have e0 : start N_LawLed [.ref a, .ref p] = [some (.ref a), some (.ref p), none, none, none] := rfl
    rw [e0]
    simp only [cxK, wipe, tYes, List.map_cons, List.map_nil, rIxL, rSum, tSl, rSlL, tNoPart, tPart, exists_and_left, and_assoc, V.ref.injEq, HO.lst.injEq, HO.tup.injEq, tFor_eq, iRng1, iRng2, iList, iTup, tLc_eq, tLst, tTup, gSub, rSetL, gT, gL, gTup, gCons, gNil, atI_0, atI_1, atI_2, atI_3, List.length_cons, List.length_nil, Nat.zero_add, Nat.reduceAdd, Nat.reduceLeDiff, ixN_30, ixN_31, ixN_32, Int.reduceLT, Int.reduceLE, Int.reduceNeg, upd_same, reduceCtorEq, false_and, exists_false, or_false, false_or, tSeq, tNext, tIfS, tRet, tRetN, tDrop, tAsg, gName, tPar, tPar3, tAug, ipI, tVar, tC, tOp, tUn, tCB, tD, tDK, tCons, tNil, rI, rI0, rU, tB, tTest, tCallS, tErr, tAnd, tOr, tNot, tAndV, tOrV, tNotV, tIf, rEq, rNe, scal_ii, scal_bb, scal_ss, rGcd_eq, tBits, List.set_cons_zero, List.set_cons_succ, List.getElem?_cons_zero, List.getElem?_cons_succ, Option.some.injEq, exists_eq_left', V.int.injEq, V.bl.injEq, V.str.injEq, true_and, and_true, decide_eq_true_eq, List.cons.injEq, exists_eq_left, Bool.false_eq_true, if_false, if_true, ite_true, ite_false, Bool.not_eq_true', decide_eq_false_iff_not, Bool.not_not, iZip]
    refine ⟨⟨_, SqL.of hT.at'⟩, fun Dd nD => ?_⟩
    refine lcW_list (xs := [.ref (rs 0), .ref (rs 1), .ref (rs 2), .ref (rs 3)]) (InvTk H Dd (cutV4 (ledT T0 t))) ⟨Same.upd nD, upd_same⟩ (fun _ _ _ y => SqL.of (y.1 _ _ hT.at')) ?_ ?_
    · rintro j x h2 hx y
      refine ⟨rfl, ?_⟩
      have hj : j < 4 := (List.getElem?_eq_some_iff.mp hx).1
      obtain rfl : x = .ref (rs j) := by
        rcases (show j = 0 ∨ j = 1 ∨ j = 2 ∨ j = 3 by omega) with rfl | rfl | rfl | rfl <;> exact (Option.some.inj hx).symm
      simp only [cxK, wipe, tYes, List.map_cons, List.map_nil, rIxL, rSum, tSl, rSlL, tNoPart, tPart, exists_and_left, and_assoc, V.ref.injEq, HO.lst.injEq, HO.tup.injEq, tFor_eq, iRng1, iRng2, iList, iTup, tLc_eq, tLst, tTup, gSub, rSetL, gT, gL, gTup, gCons, gNil, atI_0, atI_1, atI_2, atI_3, List.length_cons, List.length_nil, Nat.zero_add, Nat.reduceAdd, Nat.reduceLeDiff, ixN_30, ixN_31, ixN_32, Int.reduceLT, Int.reduceLE, Int.reduceNeg, upd_same, reduceCtorEq, false_and, exists_false, or_false, false_or, tSeq, tNext, tIfS, tRet, tRetN, tDrop, tAsg, gName, tPar, tPar3, tAug, ipI, tVar, tC, tOp, tUn, tCB, tD, tDK, tCons, tNil, rI, rI0, rU, tB, tTest, tCallS, tErr, tAnd, tOr, tNot, tAndV, tOrV, tNotV, tIf, rEq, rNe, scal_ii, scal_bb, scal_ss, rGcd_eq, tBits, List.set_cons_zero, List.set_cons_succ, List.getElem?_cons_zero, List.getElem?_cons_succ, Option.some.injEq, exists_eq_left', V.int.injEq, V.bl.injEq, V.str.injEq, true_and, and_true, decide_eq_true_eq, List.cons.injEq, exists_eq_left, Bool.false_eq_true, if_false, if_true, ite_true, ite_false, Bool.not_eq_true', decide_eq_false_iff_not, Bool.not_not, iZip]
      refine ⟨_, SqL.of (y.1 _ _ (hT.row j hj)), _, SqL.of (y.1 _ _ hp), fun D2 n2 => ?_⟩
      refine lcW_zip (xs := cutV4 (rowT T0 j)) (ys := cutV4 t) rfl (InvTk h2 D2 ((prods (rowT T0 j) t).map V.int)) ⟨Same.upd n2, upd_same⟩ (fun i H3 z => ⟨SqL.of (z.1 _ _ (y.1 _ _ (hT.row j hj))), SqL.of (z.1 _ _ (y.1 _ _ hp))⟩) ?_ ?_
      · rintro i x w T1 H3 hx hw z nT
        have hi : i < 4 := (List.getElem?_eq_some_iff.mp hx).1
        rw [cut_at hi] at hx hw
        obtain rfl := Option.some.inj hx
        obtain rfl := Option.some.inj hw
        simp only [cxK, wipe, tYes, List.map_cons, List.map_nil, rIxL, rSum, tSl, rSlL, tNoPart, tPart, exists_and_left, and_assoc, V.ref.injEq, HO.lst.injEq, HO.tup.injEq, tFor_eq, iRng1, iRng2, iList, iTup, tLc_eq, tLst, tTup, gSub, rSetL, gT, gL, gTup, gCons, gNil, atI_0, atI_1, atI_2, atI_3, List.length_cons, List.length_nil, Nat.zero_add, Nat.reduceAdd, Nat.reduceLeDiff, ixN_30, ixN_31, ixN_32, Int.reduceLT, Int.reduceLE, Int.reduceNeg, upd_same, reduceCtorEq, false_and, exists_false, or_false, false_or, tSeq, tNext, tIfS, tRet, tRetN, tDrop, tAsg, gName, tPar, tPar3, tAug, ipI, tVar, tC, tOp, tUn, tCB, tD, tDK, tCons, tNil, rI, rI0, rU, tB, tTest, tCallS, tErr, tAnd, tOr, tNot, tAndV, tOrV, tNotV, tIf, rEq, rNe, scal_ii, scal_bb, scal_ss, rGcd_eq, tBits, List.set_cons_zero, List.set_cons_succ, List.getElem?_cons_zero, List.getElem?_cons_succ, Option.some.injEq, exists_eq_left', V.int.injEq, V.bl.injEq, V.str.injEq, true_and, and_true, decide_eq_true_eq, List.cons.injEq, exists_eq_left, Bool.false_eq_true, if_false, if_true, ite_true, ite_false, Bool.not_eq_true', decide_eq_false_iff_not, Bool.not_not]
        refine ⟨okm (ent_sz (zT j hj) i) (ent_sz zt i) (by decide) (by decide), ?_⟩
        exact z.push n2 (Same.upd nT) (by rw [List.getElem?_map]; unfold prods; rw [List.getElem?_map, List.getElem?_range hi]; rfl) (show 4 ≤ 1000 by decide)
      · rintro H3 ⟨s3, e3⟩
        exact ⟨D2, rfl, prods (rowT T0 j) t, SqL.of e3, y.push nD s3 (by rw [cut_at hj, ledT, ent_mk hj]; rfl) (show 4 ≤ 1000 by decide)⟩
    · rintro h2 ⟨s2', e2⟩
      exact kk Dd h2 nD s2' e2

theorem okLawProduct {f : Addr} {fd : FuncData} (F : Fun K "_law_product" "_law_product" s_LawProduct f fd) (T : Txt K mg) {fLawColumns : Addr} {fdLawColumns : FuncData} (D_LawColumns : DefAt P w K mg base 1 "_law_columns" fLawColumns fdLawColumns ["_law_table"] (spTurnedO)) {fLawLed : Addr} {fdLawLed : FuncData} (D_LawLed : DefAt P w K mg base 1 "_law_led" fLawLed fdLawLed ["_law_table", "_law_path_here"] (spLedPath)) : FnOk P w K mg base CX0 2 f fd ["_law_one", "_law_other"] (spTProd) := by
  refine F.ok scLawProduct (fun vs H Q E h => ?_) (fun cdv A outer s H vs Q E hr h => ?_)
  · obtain ⟨a, b, T0, O, rs, us, rfl, _⟩ := h
    rfl
  · obtain ⟨a, b, T0, O, rs, us, rfl, hT, hO, zT, zO, kk⟩ := h
    refine ⟨_, (pss_one (ps_ret (pe_d D_LawColumns hr (pa_cons (pe_lc (own := [("_law_path_here", 2)]) (g := gName 2) (tt := tYes) rfl scLawProduct.nd (pi_list (pe_d D_LawColumns hr (pa_cons (pv 1) pa_nil))) (blkOk_by (N := N_LawProduct) (sc := defScope s_LawProduct) (by decide +kernel)) (fun _ _ _ _ _ => pg_name (i := 2) scLawProduct.nd rfl (Or.inl rfl)) (fun _ _ _ _ _ => pts_nil) (fun _ _ _ _ _ => (pe_d D_LawLed hr (pa_cons (pv 0) (pa_cons (pv 2) pa_nil))))) pa_nil)))), ?_⟩
    have e0 : start N_LawProduct [.ref a, .ref b] = [some (.ref a), some (.ref b), none] := rfl
    rw [e0]
    simp only [cxK, wipe, tYes, List.map_cons, List.map_nil, rIxL, rSum, tSl, rSlL, tNoPart, tPart, exists_and_left, and_assoc, V.ref.injEq, HO.lst.injEq, HO.tup.injEq, tFor_eq, iRng1, iRng2, iList, iTup, tLc_eq, tLst, tTup, gSub, rSetL, gT, gL, gTup, gCons, gNil, atI_0, atI_1, atI_2, atI_3, List.length_cons, List.length_nil, Nat.zero_add, Nat.reduceAdd, Nat.reduceLeDiff, ixN_30, ixN_31, ixN_32, Int.reduceLT, Int.reduceLE, Int.reduceNeg, upd_same, reduceCtorEq, false_and, exists_false, or_false, false_or, tSeq, tNext, tIfS, tRet, tRetN, tDrop, tAsg, gName, tPar, tPar3, tAug, ipI, tVar, tC, tOp, tUn, tCB, tD, tDK, tCons, tNil, rI, rI0, rU, tB, tTest, tCallS, tErr, tAnd, tOr, tNot, tAndV, tOrV, tNotV, tIf, rEq, rNe, scal_ii, scal_bb, scal_ss, rGcd_eq, tBits, List.set_cons_zero, List.set_cons_succ, List.getElem?_cons_zero, List.getElem?_cons_succ, Option.some.injEq, exists_eq_left', V.int.injEq, V.bl.injEq, V.str.injEq, true_and, and_true, decide_eq_true_eq, List.cons.injEq, exists_eq_left, Bool.false_eq_true, if_false, if_true, ite_true, ite_false, Bool.not_eq_true', decide_eq_false_iff_not, Bool.not_not]
    refine ⟨b, O, us, rfl, hO, fun c vs H1 nc => ?_⟩
    have s1 := nc.same
    have tc := nc.tab
    have hT1 := hT.same s1
    refine ⟨c, rfl, ⟨_, SqL.of tc.at'⟩, fun Dd nD => ?_⟩
    refine lcW_list (xs := [.ref (vs 0), .ref (vs 1), .ref (vs 2), .ref (vs 3)]) (InvTb H1 Dd fun j => ledT T0 (colT O j)) (InvTb.start nD) (fun _ _ _ y => SqL.of (y.1 _ _ tc.at')) (fun i x h hx z => ?_) (fun h z => ?_)
    · refine ⟨rfl, ?_⟩
      have hi : i < 4 := (List.getElem?_eq_some_iff.mp hx).1
      obtain rfl : x = .ref (vs i) := by
        rcases (show i = 0 ∨ i = 1 ∨ i = 2 ∨ i = 3 by omega) with rfl | rfl | rfl | rfl <;> exact (Option.some.inj hx).symm
      simp only [cxK, wipe, tYes, List.map_cons, List.map_nil, rIxL, rSum, tSl, rSlL, tNoPart, tPart, exists_and_left, and_assoc, V.ref.injEq, HO.lst.injEq, HO.tup.injEq, tFor_eq, iRng1, iRng2, iList, iTup, tLc_eq, tLst, tTup, gSub, rSetL, gT, gL, gTup, gCons, gNil, atI_0, atI_1, atI_2, atI_3, List.length_cons, List.length_nil, Nat.zero_add, Nat.reduceAdd, Nat.reduceLeDiff, ixN_30, ixN_31, ixN_32, Int.reduceLT, Int.reduceLE, Int.reduceNeg, upd_same, reduceCtorEq, false_and, exists_false, or_false, false_or, tSeq, tNext, tIfS, tRet, tRetN, tDrop, tAsg, gName, tPar, tPar3, tAug, ipI, tVar, tC, tOp, tUn, tCB, tD, tDK, tCons, tNil, rI, rI0, rU, tB, tTest, tCallS, tErr, tAnd, tOr, tNot, tAndV, tOrV, tNotV, tIf, rEq, rNe, scal_ii, scal_bb, scal_ss, rGcd_eq, tBits, List.set_cons_zero, List.set_cons_succ, List.getElem?_cons_zero, List.getElem?_cons_succ, Option.some.injEq, exists_eq_left', V.int.injEq, V.bl.injEq, V.str.injEq, true_and, and_true, decide_eq_true_eq, List.cons.injEq, exists_eq_left, Bool.false_eq_true, if_false, if_true, ite_true, ite_false, Bool.not_eq_true', decide_eq_false_iff_not, Bool.not_not]
      have rc : rowT (colsT O) i = colT O i := row_mk hi
      refine ⟨a, _, T0, rs, colT O i, rfl, hT1.same z.1, (by rw [← rc]; exact z.1 _ _ (tc.row i hi)), zT, col_sz zO i, fun p H3 np s3 ep => ?_⟩
      exact z.push nD hi s3 np ep
    · obtain ⟨ws, n⟩ := z.done nD
      refine ⟨Dd, _, ws, rfl, n.tab, ?_⟩
      have e : colsT (mkT fun j => ledT T0 (colT O j)) = prodT T0 O := mkT_ext fun i hi => mkZ_ext fun j hj => by
        rw [row_mk hj, ledT, ent_mk hi]
      rw [e]
      exact kk.before (s1.trans n.same)

theorem okLawBase {f : Addr} {fd : FuncData} (F : Fun K "_law_base" "_law_base" s_LawBase f fd) (T : Txt K mg) : FnOk P w K mg base CX0 1 f fd ["_law_at"] (spLawBase) := by
  refine F.ok scLawBase (fun vs H Q E h => ?_) (fun cdv A outer s H vs Q E hr h => ?_)
  · obtain ⟨i, rfl, _⟩ := h
    rfl
  · obtain ⟨i, rfl, hi, kk⟩ := h
    refine ⟨_, (pss_one (ps_ret (pe_lc (own := [("_law_number", 1)]) (g := gName 1) (tt := tYes) rfl scLawBase.nd (pi_range1 rfl T.range (pa_cons pe_int pa_nil)) (blkOk_by (N := N_LawBase) (sc := defScope s_LawBase) (by decide +kernel)) (fun _ _ _ _ _ => pg_name (i := 1) scLawBase.nd rfl (Or.inl rfl)) (fun _ _ _ _ _ => pts_nil) (fun _ _ _ _ _ => (pe_callTy cr_intBT (by rfl) T.int (by decide +kernel) (pa_cons (pe_cmpR op_eq (pv 0) (pv 1) (nomark _)) pa_nil)))))), ?_⟩
    have e0 : start N_LawBase [.int i] = [some (.int i), none] := rfl
    rw [e0]
    simp only [cxK, wipe, tYes, List.map_cons, List.map_nil, rIxL, rSum, tSl, rSlL, tNoPart, tPart, exists_and_left, and_assoc, V.ref.injEq, HO.lst.injEq, HO.tup.injEq, tFor_eq, iRng1, iRng2, iList, iTup, tLc_eq, tLst, tTup, gSub, rSetL, gT, gL, gTup, gCons, gNil, atI_0, atI_1, atI_2, atI_3, List.length_cons, List.length_nil, Nat.zero_add, Nat.reduceAdd, Nat.reduceLeDiff, ixN_30, ixN_31, ixN_32, Int.reduceLT, Int.reduceLE, Int.reduceNeg, upd_same, reduceCtorEq, false_and, exists_false, or_false, false_or, tSeq, tNext, tIfS, tRet, tRetN, tDrop, tAsg, gName, tPar, tPar3, tAug, ipI, tVar, tC, tOp, tUn, tCB, tD, tDK, tCons, tNil, rI, rI0, rU, tB, tTest, tCallS, tErr, tAnd, tOr, tNot, tAndV, tOrV, tNotV, tIf, rEq, rNe, scal_ii, scal_bb, scal_ss, rGcd_eq, tBits, List.set_cons_zero, List.set_cons_succ, List.getElem?_cons_zero, List.getElem?_cons_succ, Option.some.injEq, exists_eq_left', V.int.injEq, V.bl.injEq, V.str.injEq, true_and, and_true, decide_eq_true_eq, List.cons.injEq, exists_eq_left, Bool.false_eq_true, if_false, if_true, ite_true, ite_false, Bool.not_eq_true', decide_eq_false_iff_not, Bool.not_not]
    refine ⟨by decide, by decide, fun Dd nD => ?_⟩
    refine lcW_range (InvTk H Dd (cutV4 (baseZ i))) ⟨Same.upd nD, upd_same⟩ (fun j h2 hj y => ?_) (fun h2 y => ?_)
    · refine ⟨rfl, ?_⟩
      have hj4 : j < 4 := hj
      simp only [cxK, wipe, tYes, List.map_cons, List.map_nil, rIxL, rSum, tSl, rSlL, tNoPart, tPart, exists_and_left, and_assoc, V.ref.injEq, HO.lst.injEq, HO.tup.injEq, tFor_eq, iRng1, iRng2, iList, iTup, tLc_eq, tLst, tTup, gSub, rSetL, gT, gL, gTup, gCons, gNil, atI_0, atI_1, atI_2, atI_3, List.length_cons, List.length_nil, Nat.zero_add, Nat.reduceAdd, Nat.reduceLeDiff, ixN_30, ixN_31, ixN_32, Int.reduceLT, Int.reduceLE, Int.reduceNeg, upd_same, reduceCtorEq, false_and, exists_false, or_false, false_or, tSeq, tNext, tIfS, tRet, tRetN, tDrop, tAsg, gName, tPar, tPar3, tAug, ipI, tVar, tC, tOp, tUn, tCB, tD, tDK, tCons, tNil, rI, rI0, rU, tB, tTest, tCallS, tErr, tAnd, tOr, tNot, tAndV, tOrV, tNotV, tIf, rEq, rNe, scal_ii, scal_bb, scal_ss, rGcd_eq, tBits, List.set_cons_zero, List.set_cons_succ, List.getElem?_cons_zero, List.getElem?_cons_succ, Option.some.injEq, exists_eq_left', V.int.injEq, V.bl.injEq, V.str.injEq, true_and, and_true, decide_eq_true_eq, List.cons.injEq, exists_eq_left, Bool.false_eq_true, if_false, if_true, ite_true, ite_false, Bool.not_eq_true', decide_eq_false_iff_not, Bool.not_not]
      refine y.push nD (Same.refl _) ?_ (show 4 ≤ 1000 by decide)
      rw [cut_at hj4, baseZ, ent_mk hj4]
      by_cases e : i = j
      · rw [if_pos e, if_pos (by omega)]
      · rw [if_neg e, if_neg (by omega)]
    · exact kk Dd h2 nD y.1 y.2

theorem okLawSelf {f : Addr} {fd : FuncData} (F : Fun K "_law_self" "_law_self" s_LawSelf f fd) (T : Txt K mg) {fLawBase : Addr} {fdLawBase : FuncData} (D_LawBase : DefAt P w K mg base 1 "_law_base" fLawBase fdLawBase ["_law_at"] (spLawBase)) : FnOk P w K mg base CX0 2 f fd [] (spUnitT) := by
  refine F.ok scLawSelf (fun vs H Q E h => ?_) (fun cdv A outer s H vs Q E hr h => ?_)
  · obtain ⟨rfl, _⟩ := h
    rfl
  · obtain ⟨rfl, kk⟩ := h
    refine ⟨_, (pss_one (ps_ret (pe_lc (own := [("_law_at", 0)]) (g := gName 0) (tt := tYes) rfl scLawSelf.nd (pi_range1 rfl T.range (pa_cons pe_int pa_nil)) (blkOk_by (N := N_LawSelf) (sc := defScope s_LawSelf) (by decide +kernel)) (fun _ _ _ _ _ => pg_name (i := 0) scLawSelf.nd rfl (Or.inl rfl)) (fun _ _ _ _ _ => pts_nil) (fun _ _ _ _ _ => (pe_d D_LawBase hr (pa_cons (pv 0) pa_nil)))))), ?_⟩
    have e0 : start N_LawSelf [] = [none] := rfl
    rw [e0]
    simp only [cxK, wipe, tYes, List.map_cons, List.map_nil, rIxL, rSum, tSl, rSlL, tNoPart, tPart, exists_and_left, and_assoc, V.ref.injEq, HO.lst.injEq, HO.tup.injEq, tFor_eq, iRng1, iRng2, iList, iTup, tLc_eq, tLst, tTup, gSub, rSetL, gT, gL, gTup, gCons, gNil, atI_0, atI_1, atI_2, atI_3, List.length_cons, List.length_nil, Nat.zero_add, Nat.reduceAdd, Nat.reduceLeDiff, ixN_30, ixN_31, ixN_32, Int.reduceLT, Int.reduceLE, Int.reduceNeg, upd_same, reduceCtorEq, false_and, exists_false, or_false, false_or, tSeq, tNext, tIfS, tRet, tRetN, tDrop, tAsg, gName, tPar, tPar3, tAug, ipI, tVar, tC, tOp, tUn, tCB, tD, tDK, tCons, tNil, rI, rI0, rU, tB, tTest, tCallS, tErr, tAnd, tOr, tNot, tAndV, tOrV, tNotV, tIf, rEq, rNe, scal_ii, scal_bb, scal_ss, rGcd_eq, tBits, List.set_cons_zero, List.set_cons_succ, List.getElem?_cons_zero, List.getElem?_cons_succ, Option.some.injEq, exists_eq_left', V.int.injEq, V.bl.injEq, V.str.injEq, true_and, and_true, decide_eq_true_eq, List.cons.injEq, exists_eq_left, Bool.false_eq_true, if_false, if_true, ite_true, ite_false, Bool.not_eq_true', decide_eq_false_iff_not, Bool.not_not]
    refine ⟨by decide, by decide, fun Dd nD => ?_⟩
    refine lcW_range (InvTb H Dd baseZ) (InvTb.start nD) (fun i h hi z => ?_) (fun h z => ?_)
    · refine ⟨rfl, ?_⟩
      have hi4 : i < 4 := hi
      simp only [cxK, wipe, tYes, List.map_cons, List.map_nil, rIxL, rSum, tSl, rSlL, tNoPart, tPart, exists_and_left, and_assoc, V.ref.injEq, HO.lst.injEq, HO.tup.injEq, tFor_eq, iRng1, iRng2, iList, iTup, tLc_eq, tLst, tTup, gSub, rSetL, gT, gL, gTup, gCons, gNil, atI_0, atI_1, atI_2, atI_3, List.length_cons, List.length_nil, Nat.zero_add, Nat.reduceAdd, Nat.reduceLeDiff, ixN_30, ixN_31, ixN_32, Int.reduceLT, Int.reduceLE, Int.reduceNeg, upd_same, reduceCtorEq, false_and, exists_false, or_false, false_or, tSeq, tNext, tIfS, tRet, tRetN, tDrop, tAsg, gName, tPar, tPar3, tAug, ipI, tVar, tC, tOp, tUn, tCB, tD, tDK, tCons, tNil, rI, rI0, rU, tB, tTest, tCallS, tErr, tAnd, tOr, tNot, tAndV, tOrV, tNotV, tIf, rEq, rNe, scal_ii, scal_bb, scal_ss, rGcd_eq, tBits, List.set_cons_zero, List.set_cons_succ, List.getElem?_cons_zero, List.getElem?_cons_succ, Option.some.injEq, exists_eq_left', V.int.injEq, V.bl.injEq, V.str.injEq, true_and, and_true, decide_eq_true_eq, List.cons.injEq, exists_eq_left, Bool.false_eq_true, if_false, if_true, ite_true, ite_false, Bool.not_eq_true', decide_eq_false_iff_not, Bool.not_not]
      rw [Int.zero_add]
      exact ⟨i, rfl, hi4, fun p H3 np s3 ep => z.push nD hi4 s3 np ep⟩
    · obtain ⟨us, n⟩ := z.done nD
      exact kk Dd us h n

def InvK1 (a c : Addr) (T0 : T4) (H : Hp) : Nat → SV → Hp → Prop := fun i σ h => ∃ t2 t3 : Option V, σ = [some (.ref a), some (.ref c), t2, t3] ∧ Same H h ∧ ∀ x y, x < i → y < 4 → keepB2 T0 x y = true
def InvK2 (a c : Addr) (T0 : T4) (i : Nat) (H : Hp) : Nat → SV → Hp → Prop := fun j σ h => ∃ t3 : Option V, σ = [some (.ref a), some (.ref c), some (.int (i : Int)), t3] ∧ Same H h ∧ ∀ y, y < j → keepB2 T0 i y = true

theorem okLawKeeps {f : Addr} {fd : FuncData} (F : Fun K "_law_keeps" "_law_keeps" s_LawKeeps f fd) (T : Txt K mg) {fLawColumns : Addr} {fdLawColumns : FuncData} (D_LawColumns : DefAt P w K mg base 1 "_law_columns" fLawColumns fdLawColumns ["_law_table"] (spTurnedO)) {fLawCrossing : Addr} {fdLawCrossing : FuncData} (D_LawCrossing : DefAt P w K mg base 1 "_law_crossing" fLawCrossing fdLawCrossing ["_law_one", "_law_other"] (spLawCross)) {fLawBase : Addr} {fdLawBase : FuncData} (D_LawBase : DefAt P w K mg base 1 "_law_base" fLawBase fdLawBase ["_law_at"] (spLawBase)) : FnOk P w K mg base CX0 2 f fd ["_law_table"] (spKeepsT) := by
  refine F.ok scLawKeeps (fun vs H Q E h => ?_) (fun cdv A outer s H vs Q E hr h => ?_)
  · obtain ⟨a, T0, rs, rfl, _⟩ := h
    rfl
  · obtain ⟨a, T0, rs, rfl, hT, zT, kk⟩ := h
    refine ⟨_, (pss_cons (ps_set (i := 1) scLawKeeps.nd rfl (Or.inl rfl) (pe_d D_LawColumns hr (pa_cons (pv 0) pa_nil)))
        (pss_cons (ps_for PassesOwn.never rfl (pi_range1 rfl T.range (pa_cons pe_int pa_nil)) (pg_name (i := 2) scLawKeeps.nd rfl (Or.inl rfl)) (pss_one (ps_for PassesOwn.never rfl (pi_range1 rfl T.range (pa_cons pe_int pa_nil)) (pg_name (i := 3) scLawKeeps.nd rfl (Or.inl rfl)) (pss_one (ps_if (pt_cmpR op_ne (pe_d D_LawCrossing hr (pa_cons (pe_ix ixL (pv 1) (pv 2) (fun _ _ => rfl)) (pa_cons (pe_ix ixL (pv 1) (pv 3) (fun _ _ => rfl)) pa_nil))) (pe_d D_LawCrossing hr (pa_cons (pe_d D_LawBase hr (pa_cons (pv 2) pa_nil)) (pa_cons (pe_d D_LawBase hr (pa_cons (pv 3) pa_nil)) pa_nil))) (nomark _)) (pss_one (ps_ret pe_bl)) pss_nil)))))
        (pss_one (ps_ret pe_bl)))), ?_⟩
    have e0 : start N_LawKeeps [.ref a] = [some (.ref a), none, none, none] := rfl
    rw [e0]
    refine seq_gen fun C1 hC1 => ?_
    simp only [cxK, wipe, tYes, List.map_cons, List.map_nil, rIxL, rSum, tSl, rSlL, tNoPart, tPart, exists_and_left, and_assoc, V.ref.injEq, HO.lst.injEq, HO.tup.injEq, tFor_eq, iRng1, iRng2, iList, iTup, tLc_eq, tLst, tTup, gSub, rSetL, gT, gL, gTup, gCons, gNil, atI_0, atI_1, atI_2, atI_3, List.length_cons, List.length_nil, Nat.zero_add, Nat.reduceAdd, Nat.reduceLeDiff, ixN_30, ixN_31, ixN_32, Int.reduceLT, Int.reduceLE, Int.reduceNeg, upd_same, reduceCtorEq, false_and, exists_false, or_false, false_or, tNext, tIfS, tRet, tRetN, tDrop, tAsg, gName, tPar, tPar3, tAug, ipI, tVar, tC, tOp, tUn, tCB, tD, tDK, tCons, tNil, rI, rI0, rU, tB, tTest, tCallS, tErr, tAnd, tOr, tNot, tAndV, tOrV, tNotV, tIf, rEq, rNe, scal_ii, scal_bb, scal_ss, rGcd_eq, tBits, List.set_cons_zero, List.set_cons_succ, List.getElem?_cons_zero, List.getElem?_cons_succ, Option.some.injEq, exists_eq_left', V.int.injEq, V.bl.injEq, V.str.injEq, true_and, and_true, decide_eq_true_eq, List.cons.injEq, exists_eq_left, Bool.false_eq_true, if_false, if_true, ite_true, ite_false, Bool.not_eq_true', decide_eq_false_iff_not, Bool.not_not]
    refine ⟨a, T0, rs, rfl, hT, fun c vs H1 nc => ?_⟩
    have tc := nc.tab
    have zc : ∀ i, i < 4 → Sz4 900 (rowT (colsT T0) i) := fun i hi => by rw [colsT, row_mk hi]; exact (col_sz zT i).up (by decide)
    have rc : ∀ i, i < 4 → rowT (colsT T0) i = colT T0 i := fun i hi => row_mk hi
    have zb : ∀ i, Sz4 900 (baseZ i) := fun i => mkZ_sz fun j _ => by split <;> decide
    have atR : ∀ (ws : Nat → Addr) (k : Nat), k < 4 → atI [V.ref (ws 0), V.ref (ws 1), V.ref (ws 2), V.ref (ws 3)] (k : Int) = some (.ref (ws k)) := fun ws k hk => by
      rcases (show k = 0 ∨ k = 1 ∨ k = 2 ∨ k = 3 by omega) with rfl | rfl | rfl | rfl <;> rfl
    refine Eq.mpr (hC1 _ _) ?_
    refine seq_gen fun C2 hC2 => ?_
    simp only [cxK, wipe, tYes, List.map_cons, List.map_nil, rIxL, rSum, tSl, rSlL, tNoPart, tPart, exists_and_left, and_assoc, V.ref.injEq, HO.lst.injEq, HO.tup.injEq, tFor_eq, iRng1, iRng2, iList, iTup, tLc_eq, tLst, tTup, gSub, rSetL, gT, gL, gTup, gCons, gNil, atI_0, atI_1, atI_2, atI_3, List.length_cons, List.length_nil, Nat.zero_add, Nat.reduceAdd, Nat.reduceLeDiff, ixN_30, ixN_31, ixN_32, Int.reduceLT, Int.reduceLE, Int.reduceNeg, upd_same, reduceCtorEq, false_and, exists_false, or_false, false_or, tNext, tIfS, tRet, tRetN, tDrop, tAsg, gName, tPar, tPar3, tAug, ipI, tVar, tC, tOp, tUn, tCB, tD, tDK, tCons, tNil, rI, rI0, rU, tB, tTest, tCallS, tErr, tAnd, tOr, tNot, tAndV, tOrV, tNotV, tIf, rEq, rNe, scal_ii, scal_bb, scal_ss, rGcd_eq, tBits, List.set_cons_zero, List.set_cons_succ, List.getElem?_cons_zero, List.getElem?_cons_succ, Option.some.injEq, exists_eq_left', V.int.injEq, V.bl.injEq, V.str.injEq, true_and, and_true, decide_eq_true_eq, List.cons.injEq, exists_eq_left, Bool.false_eq_true, if_false, if_true, ite_true, ite_false, Bool.not_eq_true', decide_eq_false_iff_not, Bool.not_not]
    refine ⟨by decide, by decide, ?_⟩
    refine forW_range (InvK1 a c T0 H1) ⟨none, none, rfl, Same.refl _, fun x y hx => absurd hx (Nat.not_lt_zero _)⟩ ?_ (fun σ' h z => ?_)
    · rintro i σ' h hi ⟨t2, t3, rfl, s2, k2⟩
      have hi4 : i < 4 := hi
      simp only [cxK, wipe, tYes, List.map_cons, List.map_nil, rIxL, rSum, tSl, rSlL, tNoPart, tPart, exists_and_left, and_assoc, V.ref.injEq, HO.lst.injEq, HO.tup.injEq, tFor_eq, iRng1, iRng2, iList, iTup, tLc_eq, tLst, tTup, gSub, rSetL, gT, gL, gTup, gCons, gNil, atI_0, atI_1, atI_2, atI_3, List.length_cons, List.length_nil, Nat.zero_add, Nat.reduceAdd, Nat.reduceLeDiff, ixN_30, ixN_31, ixN_32, Int.reduceLT, Int.reduceLE, Int.reduceNeg, upd_same, reduceCtorEq, false_and, exists_false, or_false, false_or, tNext, tIfS, tRet, tRetN, tDrop, tAsg, gName, tPar, tPar3, tAug, ipI, tVar, tC, tOp, tUn, tCB, tD, tDK, tCons, tNil, rI, rI0, rU, tB, tTest, tCallS, tErr, tAnd, tOr, tNot, tAndV, tOrV, tNotV, tIf, rEq, rNe, scal_ii, scal_bb, scal_ss, rGcd_eq, tBits, List.set_cons_zero, List.set_cons_succ, List.getElem?_cons_zero, List.getElem?_cons_succ, Option.some.injEq, exists_eq_left', V.int.injEq, V.bl.injEq, V.str.injEq, true_and, and_true, decide_eq_true_eq, List.cons.injEq, exists_eq_left, Bool.false_eq_true, if_false, if_true, ite_true, ite_false, Bool.not_eq_true', decide_eq_false_iff_not, Bool.not_not]
      rw [Int.zero_add]
      refine ⟨by decide, by decide, ?_⟩
      refine forW_range (InvK2 a c T0 i h) ⟨_, rfl, Same.refl _, fun y hy => absurd hy (Nat.not_lt_zero _)⟩ ?_ (fun σ' h z => ?_)
      · rintro j σ' h2 hj ⟨t3', rfl, s3, k3⟩
        have hj4 : j < 4 := hj
        simp only [cxK, wipe, tYes, List.map_cons, List.map_nil, rIxL, rSum, tSl, rSlL, tNoPart, tPart, exists_and_left, and_assoc, V.ref.injEq, HO.lst.injEq, HO.tup.injEq, tFor_eq, iRng1, iRng2, iList, iTup, tLc_eq, tLst, tTup, gSub, rSetL, gT, gL, gTup, gCons, gNil, atI_0, atI_1, atI_2, atI_3, List.length_cons, List.length_nil, Nat.zero_add, Nat.reduceAdd, Nat.reduceLeDiff, ixN_30, ixN_31, ixN_32, Int.reduceLT, Int.reduceLE, Int.reduceNeg, upd_same, reduceCtorEq, false_and, exists_false, or_false, false_or, tSeq, tNext, tIfS, tRet, tRetN, tDrop, tAsg, gName, tPar, tPar3, tAug, ipI, tVar, tC, tOp, tUn, tCB, tD, tDK, tCons, tNil, rI, rI0, rU, tB, tTest, tCallS, tErr, tAnd, tOr, tNot, tAndV, tOrV, tNotV, tIf, rEq, rNe, scal_ii, scal_bb, scal_ss, rGcd_eq, tBits, List.set_cons_zero, List.set_cons_succ, List.getElem?_cons_zero, List.getElem?_cons_succ, Option.some.injEq, exists_eq_left', V.int.injEq, V.bl.injEq, V.str.injEq, true_and, and_true, decide_eq_true_eq, List.cons.injEq, exists_eq_left, Bool.false_eq_true, if_false, if_true, ite_true, ite_false, Bool.not_eq_true', decide_eq_false_iff_not, Bool.not_not]
        rw [Int.zero_add]
        have s23 := s2.trans s3
        refine ⟨_, s23 _ _ tc.at', _, atR vs i hi4, _, s23 _ _ tc.at', _, atR vs j hj4, _, _, _, _, rfl, s23 _ _ (tc.row i hi4), s23 _ _ (tc.row j hj4), zc i hi4, zc j hj4, ?_⟩
        refine ⟨i, rfl, hi4, fun p3 h3 n3 s4 e3 => ⟨j, rfl, hj4, fun p4 h4 n4 s5 e4 => ⟨_, _, _, _, rfl, s5 _ _ e3, e4, zb i, zb j, rfl, ?_⟩⟩⟩
        rw [rc i hi4, rc j hj4]
        have s35 := (s3.trans s4).trans s5
        by_cases e : keepB2 T0 i j = true
        · have e2 : crossZ (colT T0 i) (colT T0 j) = crossZ (baseZ i) (baseZ j) := of_decide_eq_true e
          rw [if_neg (fun h => h (congrArg V.int e2))]
          refine ⟨_, rfl, s35, fun y hy => ?_⟩
          by_cases hyj : y = j
          · rw [hyj]; exact e
          · exact k3 y (by omega)
        · have e2 : ¬ crossZ (colT T0 i) (colT T0 j) = crossZ (baseZ i) (baseZ j) := fun h => e (decide_eq_true h)
          rw [if_pos (fun h => e2 (V.int.inj h))]
          have hf : keepsT T0 = false := by
            cases hk : keepsT T0 with
            | false => rfl
            | true => exact absurd ((keeps_iff T0).mp hk i j hi4 hj4) e
          rw [hf] at kk
          exact kk _ ((nc.same.trans s2).trans s35)
      · obtain ⟨t3', rfl, s3, k3⟩ := z
        refine ⟨_, _, rfl, s2.trans s3, fun x y hx hy => ?_⟩
        by_cases hxi : x = i
        · rw [hxi]; exact k3 y hy
        · exact k2 x y (by omega) hy
    · obtain ⟨t2, t3, rfl, s2, k2⟩ := z
      refine Eq.mpr (hC2 _ _) ?_
      simp only [cxK, wipe, tYes, List.map_cons, List.map_nil, rIxL, rSum, tSl, rSlL, tNoPart, tPart, exists_and_left, and_assoc, V.ref.injEq, HO.lst.injEq, HO.tup.injEq, tFor_eq, iRng1, iRng2, iList, iTup, tLc_eq, tLst, tTup, gSub, rSetL, gT, gL, gTup, gCons, gNil, atI_0, atI_1, atI_2, atI_3, List.length_cons, List.length_nil, Nat.zero_add, Nat.reduceAdd, Nat.reduceLeDiff, ixN_30, ixN_31, ixN_32, Int.reduceLT, Int.reduceLE, Int.reduceNeg, upd_same, reduceCtorEq, false_and, exists_false, or_false, false_or, tSeq, tNext, tIfS, tRet, tRetN, tDrop, tAsg, gName, tPar, tPar3, tAug, ipI, tVar, tC, tOp, tUn, tCB, tD, tDK, tCons, tNil, rI, rI0, rU, tB, tTest, tCallS, tErr, tAnd, tOr, tNot, tAndV, tOrV, tNotV, tIf, rEq, rNe, scal_ii, scal_bb, scal_ss, rGcd_eq, tBits, List.set_cons_zero, List.set_cons_succ, List.getElem?_cons_zero, List.getElem?_cons_succ, Option.some.injEq, exists_eq_left', V.int.injEq, V.bl.injEq, V.str.injEq, true_and, and_true, decide_eq_true_eq, List.cons.injEq, exists_eq_left, Bool.false_eq_true, if_false, if_true, ite_true, ite_false, Bool.not_eq_true', decide_eq_false_iff_not, Bool.not_not]
      have ht : keepsT T0 = true := (keeps_iff T0).mpr fun x y hx hy => k2 x y hx hy
      rw [ht] at kk
      exact kk _ (nc.same.trans s2)

theorem okLawBack {f : Addr} {fd : FuncData} (F : Fun K "_law_back" "_law_back" s_LawBack f fd) (T : Txt K mg) {fLawColumns : Addr} {fdLawColumns : FuncData} (D_LawColumns : DefAt P w K mg base 1 "_law_columns" fLawColumns fdLawColumns ["_law_table"] (spTurnedO)) {fLawCrossing : Addr} {fdLawCrossing : FuncData} (D_LawCrossing : DefAt P w K mg base 1 "_law_crossing" fLawCrossing fdLawCrossing ["_law_one", "_law_other"] (spLawCross)) {fLawBase : Addr} {fdLawBase : FuncData} (D_LawBase : DefAt P w K mg base 1 "_law_base" fLawBase fdLawBase ["_law_at"] (spLawBase)) : FnOk P w K mg base CX0 2 f fd ["_law_table"] (spTBack) := by
  refine F.ok scLawBack (fun vs H Q E h => ?_) (fun cdv A outer s H vs Q E hr h => ?_)
  · obtain ⟨a, T0, rs, rfl, _⟩ := h
    rfl
  · obtain ⟨a, T0, rs, rfl, hT, zT, hk, kk⟩ := h
    refine ⟨_, (pss_cons (ps_par (i := 1) (j := 2) rfl scLawBack.nd rfl rfl (by decide) rfl rfl (pa_cons (pe_d D_LawColumns hr (pa_cons (pv 0) pa_nil)) (pa_cons (pe_lst pa_nil) pa_nil)) rfl)
        (pss_cons (ps_for PassesOwn.never rfl (pi_list (pe_lst (pa_cons (pe_ix ixL (pv 1) pe_int (fun _ _ => rfl)) (pa_cons (pe_ix ixL (pv 1) pe_int (fun _ _ => rfl)) (pa_cons (pe_ix ixL (pv 1) pe_int (fun _ _ => rfl)) (pa_cons (pe_ix ixL (pv 1) pe_int (fun _ _ => rfl)) pa_nil)))))) (pg_name (i := 3) scLawBack.nd rfl (Or.inr rfl)) (pss_one (ps_expr (pe_bm PySem.F.plainAttrs_list PySem.F.slot_list_append PySem.F.type_list_append mt_append (pv 2) (pa_cons (pe_lc (own := [("_law_at", 4)]) (g := gName 4) (tt := tYes) rfl scLawBack.nd (pi_range1 rfl T.range (pa_cons pe_int pa_nil)) (blkOk_by (N := N_LawBack) (sc := defScope s_LawBack) (by decide +kernel)) (fun _ _ _ _ _ => pg_name (i := 4) scLawBack.nd rfl (Or.inl rfl)) (fun _ _ _ _ _ => pts_nil) (fun _ _ _ _ _ => (pe_d D_LawCrossing hr (pa_cons (pe_d D_LawBase hr (pa_cons (pv 4) pa_nil)) (pa_cons (pv 3) pa_nil))))) pa_nil)))))
        (pss_one (ps_ret (pe_lst (pa_cons (pe_ix ixL (pv 2) pe_int (fun _ _ => rfl)) (pa_cons (pe_lc (own := [("_law_item", 5)]) (g := gName 5) (tt := tYes) rfl scLawBack.nd (pi_list (pe_ix ixL (pv 2) pe_int (fun _ _ => rfl))) (blkOk_by (N := N_LawBack) (sc := defScope s_LawBack) (by decide +kernel)) (fun _ _ _ _ _ => pg_name (i := 5) scLawBack.nd rfl (Or.inl rfl)) (fun _ _ _ _ _ => pts_nil) (fun _ _ _ _ _ => (pe_op op_sub pe_int (pv 5)))) (pa_cons (pe_ix ixL (pv 2) pe_int (fun _ _ => rfl)) (pa_cons (pe_lc (own := [("_law_item", 5)]) (g := gName 5) (tt := tYes) rfl scLawBack.nd (pi_list (pe_ix ixL (pv 2) pe_int (fun _ _ => rfl))) (blkOk_by (N := N_LawBack) (sc := defScope s_LawBack) (by decide +kernel)) (fun _ _ _ _ _ => pg_name (i := 5) scLawBack.nd rfl (Or.inl rfl)) (fun _ _ _ _ _ => pts_nil) (fun _ _ _ _ _ => (pe_op op_sub pe_int (pv 5)))) pa_nil))))))))), ?_⟩
    have e0 : start N_LawBack [.ref a] = [some (.ref a), none, none, none, none, none] := rfl
    rw [e0]
    refine seq_gen fun C1 hC1 => ?_
    simp only [cxK, wipe, tYes, List.map_cons, List.map_nil, rIxL, rSum, tSl, rSlL, tNoPart, tPart, exists_and_left, and_assoc, V.ref.injEq, HO.lst.injEq, HO.tup.injEq, tFor_eq, iRng1, iRng2, iList, iTup, tLc_eq, tLst, tTup, gSub, rSetL, gT, gL, gTup, gCons, gNil, atI_0, atI_1, atI_2, atI_3, List.length_cons, List.length_nil, Nat.zero_add, Nat.reduceAdd, Nat.reduceLeDiff, ixN_30, ixN_31, ixN_32, Int.reduceLT, Int.reduceLE, Int.reduceNeg, upd_same, reduceCtorEq, false_and, exists_false, or_false, false_or, tNext, tIfS, tRet, tRetN, tDrop, tAsg, gName, tPar, tPar3, tAug, ipI, tVar, tC, tOp, tUn, tCB, tD, tDK, tCons, tNil, rI, rI0, rU, tB, tTest, tCallS, tErr, tAnd, tOr, tNot, tAndV, tOrV, tNotV, tIf, rEq, rNe, scal_ii, scal_bb, scal_ss, rGcd_eq, tBits, List.set_cons_zero, List.set_cons_succ, List.getElem?_cons_zero, List.getElem?_cons_succ, Option.some.injEq, exists_eq_left', V.int.injEq, V.bl.injEq, V.str.injEq, true_and, and_true, decide_eq_true_eq, List.cons.injEq, exists_eq_left, Bool.false_eq_true, if_false, if_true, ite_true, ite_false, Bool.not_eq_true', decide_eq_false_iff_not, Bool.not_not]
    refine ⟨a, T0, rs, rfl, hT, fun c vs H1 nc => ⟨sml (by decide), fun pf nf => ?_⟩⟩
    have tc := nc.tab
    have nfc : H1 pf = none := nf
    refine Eq.mpr (hC1 _ _) ?_
    refine seq_gen fun C2 hC2 => ?_
    simp only [cxK, wipe, tYes, List.map_cons, List.map_nil, rIxL, rSum, tSl, rSlL, tNoPart, tPart, exists_and_left, and_assoc, V.ref.injEq, HO.lst.injEq, HO.tup.injEq, tFor_eq, iRng1, iRng2, iList, iTup, tLc_eq, tLst, tTup, gSub, rSetL, gT, gL, gTup, gCons, gNil, atI_0, atI_1, atI_2, atI_3, List.length_cons, List.length_nil, Nat.zero_add, Nat.reduceAdd, Nat.reduceLeDiff, ixN_30, ixN_31, ixN_32, Int.reduceLT, Int.reduceLE, Int.reduceNeg, upd_same, reduceCtorEq, false_and, exists_false, or_false, false_or, tNext, tIfS, tRet, tRetN, tDrop, tAsg, gName, tPar, tPar3, tAug, ipI, tVar, tC, tOp, tUn, tCB, tD, tDK, tCons, tNil, rI, rI0, rU, tB, tTest, tCallS, tErr, tAnd, tOr, tNot, tAndV, tOrV, tNotV, tIf, rEq, rNe, scal_ii, scal_bb, scal_ss, rGcd_eq, tBits, List.set_cons_zero, List.set_cons_succ, List.getElem?_cons_zero, List.getElem?_cons_succ, Option.some.injEq, exists_eq_left', V.int.injEq, V.bl.injEq, V.str.injEq, true_and, and_true, decide_eq_true_eq, List.cons.injEq, exists_eq_left, Bool.false_eq_true, if_false, if_true, ite_true, ite_false, Bool.not_eq_true', decide_eq_false_iff_not, Bool.not_not]
    have sf := Same.upd (o := .lst []) nf
    have hfc : ∀ {b : Addr} {o : HO}, H1 b = some o → upd H1 pf (.lst []) b = some o := fun e => sf _ _ e
    refine ⟨_, hfc tc.at', .ref (vs 1), atI_1, _, hfc tc.at', .ref (vs 0), atI_0, _, hfc tc.at', .ref (vs 3), atI_3, _, hfc tc.at', .ref (vs 2), atI_2, sml (by decide), fun pl nl => ?_⟩
    have sl := Same.upd (o := .lst [V.ref (vs 1), V.ref (vs 0), V.ref (vs 3), V.ref (vs 2)]) nl
    have el : upd (upd H1 pf (.lst [])) pl (.lst [V.ref (vs 1), V.ref (vs 0), V.ref (vs 3), V.ref (vs 2)]) pl = some (.lst [V.ref (vs 1), V.ref (vs 0), V.ref (vs 3), V.ref (vs 2)]) := upd_same
    have hlf : pl ≠ pf := fun e => by rw [e, upd_same] at nl; cases nl
    have z0 : InvTb H1 pf (backR T0) 0 (upd (upd H1 pf (.lst [])) pl (.lst [V.ref (vs 1), V.ref (vs 0), V.ref (vs 3), V.ref (vs 2)])) := by
      obtain ⟨q1, us, q2, q3, q4⟩ := InvTb.start (f := backR T0) nf
      exact ⟨q1.trans sl, us, sl _ _ q2, fun j hj => absurd hj (Nat.not_lt_zero _), q4⟩
    generalize upd (upd H1 pf (.lst [])) pl (.lst [V.ref (vs 1), V.ref (vs 0), V.ref (vs 3), V.ref (vs 2)]) = H3 at *
    have zc : ∀ i, i < 4 → Sz4 900 (rowT (colsT T0) i) := fun i hi => by rw [colsT, row_mk hi]; exact (col_sz zT i).up (by decide)
    have rc : ∀ i, i < 4 → rowT (colsT T0) i = colT T0 i := fun i hi => row_mk hi
    have zb : ∀ i, Sz4 900 (baseZ i) := fun i => mkZ_sz fun j _ => by split <;> decide
    refine ⟨⟨_, SqL.of el⟩, ?_⟩
    refine forW_list (xs := [V.ref (vs 1), V.ref (vs 0), V.ref (vs 3), V.ref (vs 2)]) (InvBk a c pf T0 H1 H3) ⟨none, rfl, z0, Keep.refl _ _⟩ (fun _ _ _ _ z => ?_) (fun i v σ' h hv z => ?_) (fun σ' h z => ?_)
    · obtain ⟨_, _, _, kz⟩ := z
      exact SqL.of (kz _ _ hlf el)
    · obtain ⟨t3, rfl, z, kz⟩ := z
      have hi4 : i < 4 := (List.getElem?_eq_some_iff.mp hv).1
      obtain rfl : v = .ref (vs (partN i)) := by
        rcases (show i = 0 ∨ i = 1 ∨ i = 2 ∨ i = 3 by omega) with rfl | rfl | rfl | rfl <;> exact (Option.some.inj hv).symm
      simp only [cxK, wipe, tYes, List.map_cons, List.map_nil, rIxL, rSum, tSl, rSlL, tNoPart, tPart, exists_and_left, and_assoc, V.ref.injEq, HO.lst.injEq, HO.tup.injEq, tFor_eq, iRng1, iRng2, iList, iTup, tLc_eq, tLst, tTup, gSub, rSetL, gT, gL, gTup, gCons, gNil, atI_0, atI_1, atI_2, atI_3, List.length_cons, List.length_nil, Nat.zero_add, Nat.reduceAdd, Nat.reduceLeDiff, ixN_30, ixN_31, ixN_32, Int.reduceLT, Int.reduceLE, Int.reduceNeg, upd_same, reduceCtorEq, false_and, exists_false, or_false, false_or, tSeq, tNext, tIfS, tRet, tRetN, tDrop, tAsg, gName, tPar, tPar3, tAug, ipI, tVar, tC, tOp, tUn, tCB, tD, tDK, tCons, tNil, rI, rI0, rU, tB, tTest, tCallS, tErr, tAnd, tOr, tNot, tAndV, tOrV, tNotV, tIf, rEq, rNe, scal_ii, scal_bb, scal_ss, rGcd_eq, tBits, List.set_cons_zero, List.set_cons_succ, List.getElem?_cons_zero, List.getElem?_cons_succ, Option.some.injEq, exists_eq_left', V.int.injEq, V.bl.injEq, V.str.injEq, true_and, and_true, decide_eq_true_eq, List.cons.injEq, exists_eq_left, Bool.false_eq_true, if_false, if_true, ite_true, ite_false, Bool.not_eq_true', decide_eq_false_iff_not, Bool.not_not, tBM]
      obtain ⟨q1, us, q2, q3, q4⟩ := id z
      refine ⟨.inl ⟨rfl, _, SqL.of q2⟩, by decide, by decide, fun D2 n2 => ?_⟩
      refine lcW_range (InvTk h D2 (cutV4 (backR T0 i))) ⟨Same.upd n2, upd_same⟩ (fun j h2 hj y => ?_) (fun h2 y => ?_)
      · refine ⟨rfl, ?_⟩
        have hj4 : j < 4 := hj
        simp only [cxK, wipe, tYes, List.map_cons, List.map_nil, rIxL, rSum, tSl, rSlL, tNoPart, tPart, exists_and_left, and_assoc, V.ref.injEq, HO.lst.injEq, HO.tup.injEq, tFor_eq, iRng1, iRng2, iList, iTup, tLc_eq, tLst, tTup, gSub, rSetL, gT, gL, gTup, gCons, gNil, atI_0, atI_1, atI_2, atI_3, List.length_cons, List.length_nil, Nat.zero_add, Nat.reduceAdd, Nat.reduceLeDiff, ixN_30, ixN_31, ixN_32, Int.reduceLT, Int.reduceLE, Int.reduceNeg, upd_same, reduceCtorEq, false_and, exists_false, or_false, false_or, tSeq, tNext, tIfS, tRet, tRetN, tDrop, tAsg, gName, tPar, tPar3, tAug, ipI, tVar, tC, tOp, tUn, tCB, tD, tDK, tCons, tNil, rI, rI0, rU, tB, tTest, tCallS, tErr, tAnd, tOr, tNot, tAndV, tOrV, tNotV, tIf, rEq, rNe, scal_ii, scal_bb, scal_ss, rGcd_eq, tBits, List.set_cons_zero, List.set_cons_succ, List.getElem?_cons_zero, List.getElem?_cons_succ, Option.some.injEq, exists_eq_left', V.int.injEq, V.bl.injEq, V.str.injEq, true_and, and_true, decide_eq_true_eq, List.cons.injEq, exists_eq_left, Bool.false_eq_true, if_false, if_true, ite_true, ite_false, Bool.not_eq_true', decide_eq_false_iff_not, Bool.not_not]
        rw [Int.zero_add]
        refine ⟨j, rfl, hj4, fun p3 h3 n3 s3 e3 => ⟨_, _, _, _, rfl, e3, s3 _ _ (y.1 _ _ (q1 _ _ (tc.row (partN i) (part_lt i)))), zb j, zc _ (part_lt i), ?_⟩⟩
        rw [rc _ (part_lt i)]
        exact y.push n2 s3 (by rw [cut_at hj4, backR, ent_mk hj4]) (show 4 ≤ 1000 by decide)
      · obtain ⟨s2, e2⟩ := y
        have hq := s2 _ _ q2
        refine ⟨pf, _, _, rfl, rfl, hq, ?_, ?_⟩
        · rw [List.length_map, List.length_range]
          exact Nat.le_trans (show _ ≤ 2001 by omega) (Nat.le_of_ble_eq_true rfl)
        · obtain ⟨acc, g1, g2, g3⟩ := z.push nf hi4 s2 n2 e2
          rw [hq] at g1
          obtain rfl := HO.lst.inj (Option.some.inj g1)
          exact ⟨_, rfl, g3, (kz.trans (Keep.of s2)).trans Keep.upd0⟩
    · obtain ⟨t3, rfl, z, kz⟩ := z
      replace z : InvTb H1 pf (backR T0) 4 h := z
      obtain ⟨q1, us, q2, q3, q4⟩ := z
      have q2' : h pf = some (.lst [V.ref (us 0), V.ref (us 1), V.ref (us 2), V.ref (us 3)]) := q2
      refine Eq.mpr (hC2 _ _) ?_
      simp only [cxK, wipe, tYes, List.map_cons, List.map_nil, rIxL, rSum, tSl, rSlL, tNoPart, tPart, exists_and_left, and_assoc, V.ref.injEq, HO.lst.injEq, HO.tup.injEq, tFor_eq, iRng1, iRng2, iList, iTup, tLc_eq, tLst, tTup, gSub, rSetL, gT, gL, gTup, gCons, gNil, atI_0, atI_1, atI_2, atI_3, List.length_cons, List.length_nil, Nat.zero_add, Nat.reduceAdd, Nat.reduceLeDiff, ixN_30, ixN_31, ixN_32, Int.reduceLT, Int.reduceLE, Int.reduceNeg, upd_same, reduceCtorEq, false_and, exists_false, or_false, false_or, tSeq, tNext, tIfS, tRet, tRetN, tDrop, tAsg, gName, tPar, tPar3, tAug, ipI, tVar, tC, tOp, tUn, tCB, tD, tDK, tCons, tNil, rI, rI0, rU, tB, tTest, tCallS, tErr, tAnd, tOr, tNot, tAndV, tOrV, tNotV, tIf, rEq, rNe, scal_ii, scal_bb, scal_ss, rGcd_eq, tBits, List.set_cons_zero, List.set_cons_succ, List.getElem?_cons_zero, List.getElem?_cons_succ, Option.some.injEq, exists_eq_left', V.int.injEq, V.bl.injEq, V.str.injEq, true_and, and_true, decide_eq_true_eq, List.cons.injEq, exists_eq_left, Bool.false_eq_true, if_false, if_true, ite_true, ite_false, Bool.not_eq_true', decide_eq_false_iff_not, Bool.not_not]
      refine ⟨_, q2', _, atI_0, _, q2', _, atI_1, us 1, rfl, ⟨_, SqL.of (q3 1 (by decide)).2.1⟩, fun D1 m1 => ?_⟩
      refine lcW_list (xs := cutV4 (backR T0 1)) (InvTk h D1 (cutV4 (negZ (backR T0 1)))) ⟨Same.upd m1, upd_same⟩ (fun _ _ _ y => SqL.of (y.1 _ _ (q3 1 (by decide)).2.1)) (fun j x h2 hx y => ?_) (fun h2 y => ?_)
      · refine ⟨rfl, ?_⟩
        have hj : j < 4 := (List.getElem?_eq_some_iff.mp hx).1
        rw [cut_at hj] at hx
        obtain rfl := Option.some.inj hx
        simp only [cxK, wipe, tYes, List.map_cons, List.map_nil, rIxL, rSum, tSl, rSlL, tNoPart, tPart, exists_and_left, and_assoc, V.ref.injEq, HO.lst.injEq, HO.tup.injEq, tFor_eq, iRng1, iRng2, iList, iTup, tLc_eq, tLst, tTup, gSub, rSetL, gT, gL, gTup, gCons, gNil, atI_0, atI_1, atI_2, atI_3, List.length_cons, List.length_nil, Nat.zero_add, Nat.reduceAdd, Nat.reduceLeDiff, ixN_30, ixN_31, ixN_32, Int.reduceLT, Int.reduceLE, Int.reduceNeg, upd_same, reduceCtorEq, false_and, exists_false, or_false, false_or, tSeq, tNext, tIfS, tRet, tRetN, tDrop, tAsg, gName, tPar, tPar3, tAug, ipI, tVar, tC, tOp, tUn, tCB, tD, tDK, tCons, tNil, rI, rI0, rU, tB, tTest, tCallS, tErr, tAnd, tOr, tNot, tAndV, tOrV, tNotV, tIf, rEq, rNe, scal_ii, scal_bb, scal_ss, rGcd_eq, tBits, List.set_cons_zero, List.set_cons_succ, List.getElem?_cons_zero, List.getElem?_cons_succ, Option.some.injEq, exists_eq_left', V.int.injEq, V.bl.injEq, V.str.injEq, true_and, and_true, decide_eq_true_eq, List.cons.injEq, exists_eq_left, Bool.false_eq_true, if_false, if_true, ite_true, ite_false, Bool.not_eq_true', decide_eq_false_iff_not, Bool.not_not]
        exact y.push m1 (Same.refl _) (by rw [cut_at hj, negZ, ent_mk hj]) (show 4 ≤ 1000 by decide)
      obtain ⟨s2, e2⟩ := y
      refine ⟨_, s2 _ _ q2', _, atI_2, _, s2 _ _ q2', _, atI_3, us 3, rfl, ⟨_, SqL.of (s2 _ _ (q3 3 (by decide)).2.1)⟩, fun D3 m3 => ?_⟩
      refine lcW_list (xs := cutV4 (backR T0 3)) (InvTk h2 D3 (cutV4 (negZ (backR T0 3)))) ⟨Same.upd m3, upd_same⟩ (fun _ _ _ y => SqL.of (y.1 _ _ (s2 _ _ (q3 3 (by decide)).2.1))) (fun j x h3 hx y => ?_) (fun h3 y => ?_)
      · refine ⟨rfl, ?_⟩
        have hj : j < 4 := (List.getElem?_eq_some_iff.mp hx).1
        rw [cut_at hj] at hx
        obtain rfl := Option.some.inj hx
        simp only [cxK, wipe, tYes, List.map_cons, List.map_nil, rIxL, rSum, tSl, rSlL, tNoPart, tPart, exists_and_left, and_assoc, V.ref.injEq, HO.lst.injEq, HO.tup.injEq, tFor_eq, iRng1, iRng2, iList, iTup, tLc_eq, tLst, tTup, gSub, rSetL, gT, gL, gTup, gCons, gNil, atI_0, atI_1, atI_2, atI_3, List.length_cons, List.length_nil, Nat.zero_add, Nat.reduceAdd, Nat.reduceLeDiff, ixN_30, ixN_31, ixN_32, Int.reduceLT, Int.reduceLE, Int.reduceNeg, upd_same, reduceCtorEq, false_and, exists_false, or_false, false_or, tSeq, tNext, tIfS, tRet, tRetN, tDrop, tAsg, gName, tPar, tPar3, tAug, ipI, tVar, tC, tOp, tUn, tCB, tD, tDK, tCons, tNil, rI, rI0, rU, tB, tTest, tCallS, tErr, tAnd, tOr, tNot, tAndV, tOrV, tNotV, tIf, rEq, rNe, scal_ii, scal_bb, scal_ss, rGcd_eq, tBits, List.set_cons_zero, List.set_cons_succ, List.getElem?_cons_zero, List.getElem?_cons_succ, Option.some.injEq, exists_eq_left', V.int.injEq, V.bl.injEq, V.str.injEq, true_and, and_true, decide_eq_true_eq, List.cons.injEq, exists_eq_left, Bool.false_eq_true, if_false, if_true, ite_true, ite_false, Bool.not_eq_true', decide_eq_false_iff_not, Bool.not_not]
        exact y.push m3 (Same.refl _) (by rw [cut_at hj, negZ, ent_mk hj]) (show 4 ≤ 1000 by decide)
      obtain ⟨s3, e3⟩ := y
      refine ⟨sml (by decide), fun pz nz => ?_⟩
      have s4 := Same.upd (o := .lst [V.ref (us 0), V.ref D1, V.ref (us 2), V.ref D3]) nz
      have SS := ((nc.same.trans q1).trans s2).trans s3
      have hn1 := (nc.same.trans q1).free m1
      have hn3 := ((nc.same.trans q1).trans s2).free m3
      have ne10 : ∀ k, k < 4 → us k ≠ D1 := fun k hk e => by rw [← e, (q3 k hk).2.1] at m1; cases m1
      have ne30 : ∀ k, k < 4 → us k ≠ D3 := fun k hk e => by rw [← e, s2 _ _ (q3 k hk).2.1] at m3; cases m3
      have ne31 : D1 ≠ D3 := fun e => by rw [← e, e2] at m3; cases m3
      refine kk pz (fun4 (us 0) D1 (us 2) D3) _ ⟨SS.free nz, fun k hk => ?_, fun i j hi hj hij => ?_, ⟨upd_same, fun k hk => ?_⟩, SS.trans s4⟩
      · rcases (show k = 0 ∨ k = 1 ∨ k = 2 ∨ k = 3 by omega) with rfl | rfl | rfl | rfl
        · exact nc.same.free (q3 0 (by decide)).1
        · exact hn1
        · exact nc.same.free (q3 2 (by decide)).1
        · exact hn3
      · have n02 := q4 0 2 (by decide) (by decide) (by decide)
        rcases (show i = 0 ∨ i = 1 ∨ i = 2 ∨ i = 3 by omega) with rfl | rfl | rfl | rfl <;> rcases (show j = 0 ∨ j = 1 ∨ j = 2 ∨ j = 3 by omega) with rfl | rfl | rfl | rfl <;> first | exact absurd rfl hij | exact n02 | exact n02.symm | exact ne10 _ (by decide) | exact (ne10 _ (by decide)).symm | exact ne30 _ (by decide) | exact (ne30 _ (by decide)).symm | exact ne31 | exact ne31.symm
      · rw [← back_rows, row_mk hk]
        rcases (show k = 0 ∨ k = 1 ∨ k = 2 ∨ k = 3 by omega) with rfl | rfl | rfl | rfl
        · exact s4 _ _ (s3 _ _ (s2 _ _ (q3 0 (by decide)).2.1))
        · exact s4 _ _ (s3 _ _ e2)
        · exact s4 _ _ (s3 _ _ (s2 _ _ (q3 2 (by decide)).2.1))
        · exact s4 _ _ e3

theorem okLawStepped {f : Addr} {fd : FuncData} (F : Fun K "_law_stepped" "_law_stepped" s_LawStepped f fd) (T : Txt K mg) {fLawRandom : Addr} {fdLawRandom : FuncData} (D_LawRandom : DefAt P w K mg base 2 "_law_random" fLawRandom fdLawRandom ["_law_generator_here", "_law_bound"] (spRandom)) : FnOk P w K mg base CX0 3 f fd ["_law_generator_here", "_law_table"] (spStepT) := by
  refine F.ok scLawStepped (fun vs H Q E h => ?_) (fun cdv A outer s H vs Q E hr h => ?_)
  · obtain ⟨g, a, T0, rs, B, k, rfl, _⟩ := h
    rfl
  · obtain ⟨g, a, T0, rs, B, k, rfl, hG, hk, hT, hB, hB2, kk⟩ := h
    refine ⟨_, (pss_cons (ps_asg (pe_tup (pa_cons (pe_lc (own := [("_law_row", 7)]) (g := gName 7) (tt := tYes) rfl scLawStepped.nd (pi_list (pv 1)) (blkOk_by (N := N_LawStepped) (sc := defScope s_LawStepped) (by decide +kernel)) (fun _ _ _ _ _ => pg_name (i := 7) scLawStepped.nd rfl (Or.inl rfl)) (fun _ _ _ _ _ => pts_nil) (fun _ _ _ _ _ => (pe_callTy (call_list_ofK (K := K) rfl) (by rfl) T.list (by decide +kernel) (pa_cons (pv 7) pa_nil)))) (pa_cons (pe_d D_LawRandom hr (pa_cons (pv 0) (pa_cons pe_int pa_nil))) (pa_cons (pe_op op_sub (pe_d D_LawRandom hr (pa_cons (pv 0) (pa_cons pe_int pa_nil))) pe_int) pa_nil)))) (pg_tupT 3 rfl (pgs_cons (pg_name (i := 2) scLawStepped.nd rfl (Or.inl rfl)) (pgs_cons (pg_name (i := 3) scLawStepped.nd rfl (Or.inl rfl)) (pgs_cons (pg_name (i := 4) scLawStepped.nd rfl (Or.inr rfl)) pgs_nil)))))
        (pss_cons (ps_if (pt_cmpR op_eq (pv 3) pe_int (nomark _)) (pss_cons (ps_set (i := 5) scLawStepped.nd rfl (Or.inl rfl) (pe_op op_add (pe_op op_mulU pe_int (pe_d D_LawRandom hr (pa_cons (pv 0) (pa_cons pe_int pa_nil)))) (pe_d D_LawRandom hr (pa_cons (pv 0) (pa_cons pe_int pa_nil)))))
        (pss_cons (ps_set (i := 6) scLawStepped.nd rfl (Or.inl rfl) (pe_ifExp (pt_cmpR op_eq (pe_op op_mod (pe_callTy cr_int (by rfl) T.int (by decide +kernel) (pa_cons (pv 5) pa_nil)) pe_int) pe_int (nomark _)) (pe_op op_add (pv 5) pe_int) (pe_op op_sub (pv 5) pe_int)))
        (pss_one (ps_asg (pe_lc (own := [("_law_low", 8), ("_law_high", 9)]) (g := gT 2 (gCons (gName 8) (gCons (gName 9) gNil))) (tt := tYes) rfl scLawStepped.nd (pi_zip (by rfl) T.zip (pa_cons (pe_ix ixL (pv 2) (pv 5) (fun _ _ => rfl)) (pa_cons (pe_ix ixL (pv 2) (pv 6) (fun _ _ => rfl)) pa_nil))) (blkOk_by (N := N_LawStepped) (sc := defScope s_LawStepped) (by decide +kernel)) (fun _ _ _ _ _ => pg_tupT 2 rfl (pgs_cons (pg_name (i := 8) scLawStepped.nd rfl (Or.inl rfl)) (pgs_cons (pg_name (i := 9) scLawStepped.nd rfl (Or.inl rfl)) pgs_nil))) (fun _ _ _ _ _ => pts_nil) (fun _ _ _ _ _ => (pe_op op_add (pv 8) (pe_op op_mulU (pv 4) (pv 9))))) (pg_sub (pv 2) (pv 5) set_list))))) pss_nil)
        (pss_cons (ps_if (pt_cmpR op_eq (pv 3) pe_int (nomark _)) (pss_one (ps_set (i := 2) scLawStepped.nd rfl (Or.inl rfl) (pe_lst (pa_cons (pe_ix ixL (pv 2) pe_int (fun _ _ => rfl)) (pa_cons (pe_ix ixL (pv 2) pe_int (fun _ _ => rfl)) (pa_cons (pe_ix ixL (pv 2) pe_int (fun _ _ => rfl)) (pa_cons (pe_ix ixL (pv 2) pe_int (fun _ _ => rfl)) pa_nil))))))) pss_nil)
        (pss_cons (ps_if (pt_cmpR op_eq (pv 3) pe_int (nomark _)) (pss_one (ps_set (i := 2) scLawStepped.nd rfl (Or.inl rfl) (pe_op op_cat (pe_lst (pa_cons (pe_ix ixL (pv 2) pe_int (fun _ _ => rfl)) (pa_cons (pe_lc (own := [("_law_item", 10)]) (g := gName 10) (tt := tYes) rfl scLawStepped.nd (pi_list (pe_ix ixL (pv 2) pe_int (fun _ _ => rfl))) (blkOk_by (N := N_LawStepped) (sc := defScope s_LawStepped) (by decide +kernel)) (fun _ _ _ _ _ => pg_name (i := 10) scLawStepped.nd rfl (Or.inl rfl)) (fun _ _ _ _ _ => pts_nil) (fun _ _ _ _ _ => (pe_op op_sub pe_int (pv 10)))) pa_nil))) (pe_slice sl_list (pv 2) (po_some pe_int) po_none)))) pss_nil)
        (pss_cons (ps_if (pt_cmpR op_eq (pv 3) pe_int (nomark _)) (pss_cons (ps_asg (pe_lc (own := [("_law_low", 8), ("_law_high", 9)]) (g := gT 2 (gCons (gName 8) (gCons (gName 9) gNil))) (tt := tYes) rfl scLawStepped.nd (pi_zip (by rfl) T.zip (pa_cons (pe_ix ixL (pv 2) pe_int (fun _ _ => rfl)) (pa_cons (pe_ix ixL (pv 2) pe_int (fun _ _ => rfl)) pa_nil))) (blkOk_by (N := N_LawStepped) (sc := defScope s_LawStepped) (by decide +kernel)) (fun _ _ _ _ _ => pg_tupT 2 rfl (pgs_cons (pg_name (i := 8) scLawStepped.nd rfl (Or.inl rfl)) (pgs_cons (pg_name (i := 9) scLawStepped.nd rfl (Or.inl rfl)) pgs_nil))) (fun _ _ _ _ _ => pts_nil) (fun _ _ _ _ _ => (pe_op op_add (pv 8) (pe_op op_mulU (pv 4) (pv 9))))) (pg_sub (pv 2) pe_int set_list))
        (pss_one (ps_asg (pe_lc (own := [("_law_low", 8), ("_law_high", 9)]) (g := gT 2 (gCons (gName 8) (gCons (gName 9) gNil))) (tt := tYes) rfl scLawStepped.nd (pi_zip (by rfl) T.zip (pa_cons (pe_ix ixL (pv 2) pe_int (fun _ _ => rfl)) (pa_cons (pe_ix ixL (pv 2) pe_int (fun _ _ => rfl)) pa_nil))) (blkOk_by (N := N_LawStepped) (sc := defScope s_LawStepped) (by decide +kernel)) (fun _ _ _ _ _ => pg_tupT 2 rfl (pgs_cons (pg_name (i := 8) scLawStepped.nd rfl (Or.inl rfl)) (pgs_cons (pg_name (i := 9) scLawStepped.nd rfl (Or.inl rfl)) pgs_nil))) (fun _ _ _ _ _ => pts_nil) (fun _ _ _ _ _ => (pe_op op_sub (pv 8) (pe_op op_mulU (pv 4) (pv 9))))) (pg_sub (pv 2) pe_int set_list)))) pss_nil)
        (pss_one (ps_ret (pv 2)))))))), ?_⟩
    have e0 : start N_LawStepped [.ref g, .ref a] = [some (.ref g), some (.ref a), none, none, none, none, none, none, none, none, none] := rfl
    rw [e0]
    refine seq_gen fun C1 hC1 => ?_
    simp only [cxK, wipe, tYes, List.map_cons, List.map_nil, rIxL, rSum, tSl, rSlL, tNoPart, tPart, exists_and_left, and_assoc, V.ref.injEq, HO.lst.injEq, HO.tup.injEq, tFor_eq, iRng1, iRng2, iList, iTup, tLc_eq, tLst, tTup, gSub, rSetL, gT, gL, gTup, gCons, gNil, atI_0, atI_1, atI_2, atI_3, List.length_cons, List.length_nil, Nat.zero_add, Nat.reduceAdd, Nat.reduceLeDiff, ixN_30, ixN_31, ixN_32, Int.reduceLT, Int.reduceLE, Int.reduceNeg, upd_same, reduceCtorEq, false_and, exists_false, or_false, false_or, tNext, tIfS, tRet, tRetN, tDrop, tAsg, gName, tPar, tPar3, tAug, ipI, tVar, tC, tOp, tUn, tCB, tD, tDK, tCons, tNil, rI, rI0, rU, tB, tTest, tCallS, tErr, tAnd, tOr, tNot, tAndV, tOrV, tNotV, tIf, rEq, rNe, scal_ii, scal_bb, scal_ss, rGcd_eq, tBits, List.set_cons_zero, List.set_cons_succ, List.getElem?_cons_zero, List.getElem?_cons_succ, Option.some.injEq, exists_eq_left', V.int.injEq, V.bl.injEq, V.str.injEq, true_and, and_true, decide_eq_true_eq, List.cons.injEq, exists_eq_left, Bool.false_eq_true, if_false, if_true, ite_true, ite_false, Bool.not_eq_true', decide_eq_false_iff_not, Bool.not_not]
    have atR : ∀ (ws : Nat → Addr) (k : Nat), k < 4 → atI [V.ref (ws 0), V.ref (ws 1), V.ref (ws 2), V.ref (ws 3)] (k : Int) = some (.ref (ws k)) := fun ws k hk => by
      rcases (show k = 0 ∨ k = 1 ∨ k = 2 ∨ k = 3 by omega) with rfl | rfl | rfl | rfl <;> rfl
    refine ⟨⟨_, SqL.of hT.at'⟩, fun Dd nD => ?_⟩
    refine lcW_list (xs := [.ref (rs 0), .ref (rs 1), .ref (rs 2), .ref (rs 3)]) (InvTb H Dd (rowT T0)) (InvTb.start nD) (fun _ _ _ y => SqL.of (y.1 _ _ hT.at')) (fun i x h hx z => ?_) (fun h z => ?_)
    · refine ⟨rfl, ?_⟩
      have hi : i < 4 := (List.getElem?_eq_some_iff.mp hx).1
      obtain rfl : x = .ref (rs i) := by
        rcases (show i = 0 ∨ i = 1 ∨ i = 2 ∨ i = 3 by omega) with rfl | rfl | rfl | rfl <;> exact (Option.some.inj hx).symm
      simp only [cxK, wipe, tYes, List.map_cons, List.map_nil, rIxL, rSum, tSl, rSlL, tNoPart, tPart, exists_and_left, and_assoc, V.ref.injEq, HO.lst.injEq, HO.tup.injEq, tFor_eq, iRng1, iRng2, iList, iTup, tLc_eq, tLst, tTup, gSub, rSetL, gT, gL, gTup, gCons, gNil, atI_0, atI_1, atI_2, atI_3, List.length_cons, List.length_nil, Nat.zero_add, Nat.reduceAdd, Nat.reduceLeDiff, ixN_30, ixN_31, ixN_32, Int.reduceLT, Int.reduceLE, Int.reduceNeg, upd_same, reduceCtorEq, false_and, exists_false, or_false, false_or, tSeq, tNext, tIfS, tRet, tRetN, tDrop, tAsg, gName, tPar, tPar3, tAug, ipI, tVar, tC, tOp, tUn, tCB, tD, tDK, tCons, tNil, rI, rI0, rU, tB, tTest, tCallS, tErr, tAnd, tOr, tNot, tAndV, tOrV, tNotV, tIf, rEq, rNe, scal_ii, scal_bb, scal_ss, rGcd_eq, tBits, List.set_cons_zero, List.set_cons_succ, List.getElem?_cons_zero, List.getElem?_cons_succ, Option.some.injEq, exists_eq_left', V.int.injEq, V.bl.injEq, V.str.injEq, true_and, and_true, decide_eq_true_eq, List.cons.injEq, exists_eq_left, Bool.false_eq_true, if_false, if_true, ite_true, ite_false, Bool.not_eq_true', decide_eq_false_iff_not, Bool.not_not]
      exact ⟨_, .inl (SqL.of (z.1 _ _ (hT.row i hi))), fun l nl => z.push nD hi (Same.upd nl) nl upd_same⟩
    obtain ⟨us, nw⟩ := z.done nD
    have eT : mkT (rowT T0) = T0 := rfl
    rw [eT] at nw
    refine ⟨g, 4, _, rfl, hG.same nw.same, by omega, by decide, by decide, fun w h2 w0 w1 G2 K2 => ?_⟩
    refine ⟨g, 9, _, rfl, G2, by omega, by decide, by decide, fun n h3 n0 n1 G3 K3 => ⟨n, rfl, sml (by decide), fun pt nt => ?_⟩⟩
    have st := Same.upd (o := .tup [V.ref Dd, V.int w, V.int (n - 4)]) nt
    have hDg : Dd ≠ g := hG.nn nD
    have K4 : Keep g H (upd h3 pt (.tup [V.ref Dd, V.int w, V.int (n - 4)])) := (((Keep.of nw.same).trans K2).trans K3).trans (Keep.of st)
    have G4 := G3.same st
    have T4' : TabAt (upd h3 pt (.tup [V.ref Dd, V.int w, V.int (n - 4)])) Dd T0 us := (K3.tab G2 (K2.tab (hG.same nw.same) nw.tab)).same st
    generalize upd h3 pt (.tup [V.ref Dd, V.int w, V.int (n - 4)]) = H4 at *
    obtain ⟨m, hm⟩ : ∃ m : Int, m = n - 4 := ⟨_, rfl⟩
    rw [← hm]
    have hm4 : m.natAbs ≤ 4 := by omega
    have zB : ∀ i j, i < 4 → j < 4 → (entZ (rowT T0 i) j).natAbs < 2 ^ 61 := fun i j hi hj => Nat.lt_of_le_of_lt (hB i j hi hj) (by omega)
    refine Eq.mpr (hC1 _ _) ?_
    refine seq_gen fun C2 hC2 => ?_
    simp only [cxK, wipe, tYes, List.map_cons, List.map_nil, rIxL, rSum, tSl, rSlL, tNoPart, tPart, exists_and_left, and_assoc, V.ref.injEq, HO.lst.injEq, HO.tup.injEq, tFor_eq, iRng1, iRng2, iList, iTup, tLc_eq, tLst, tTup, gSub, rSetL, gT, gL, gTup, gCons, gNil, atI_0, atI_1, atI_2, atI_3, List.length_cons, List.length_nil, Nat.zero_add, Nat.reduceAdd, Nat.reduceLeDiff, ixN_30, ixN_31, ixN_32, Int.reduceLT, Int.reduceLE, Int.reduceNeg, upd_same, reduceCtorEq, false_and, exists_false, or_false, false_or, tNext, tIfS, tRet, tRetN, tDrop, tAsg, gName, tPar, tPar3, tAug, ipI, tVar, tC, tOp, tUn, tCB, tD, tDK, tCons, tNil, rI, rI0, rU, tB, tTest, tCallS, tErr, tAnd, tOr, tNot, tAndV, tOrV, tNotV, tIf, rEq, rNe, scal_ii, scal_bb, scal_ss, rGcd_eq, tBits, List.set_cons_zero, List.set_cons_succ, List.getElem?_cons_zero, List.getElem?_cons_succ, Option.some.injEq, exists_eq_left', V.int.injEq, V.bl.injEq, V.str.injEq, true_and, and_true, decide_eq_true_eq, List.cons.injEq, exists_eq_left, Bool.false_eq_true, if_false, if_true, ite_true, ite_false, Bool.not_eq_true', decide_eq_false_iff_not, Bool.not_not]
    rcases (show w = 0 ∨ w = 1 ∨ w = 2 ∨ w = 3 by omega) with rfl | rfl | rfl | rfl
    · rw [if_pos rfl]
      refine seq_gen fun C3 hC3 => ?_
      simp only [cxK, wipe, tYes, List.map_cons, List.map_nil, rIxL, rSum, tSl, rSlL, tNoPart, tPart, exists_and_left, and_assoc, V.ref.injEq, HO.lst.injEq, HO.tup.injEq, tFor_eq, iRng1, iRng2, iList, iTup, tLc_eq, tLst, tTup, gSub, rSetL, gT, gL, gTup, gCons, gNil, atI_0, atI_1, atI_2, atI_3, List.length_cons, List.length_nil, Nat.zero_add, Nat.reduceAdd, Nat.reduceLeDiff, ixN_30, ixN_31, ixN_32, Int.reduceLT, Int.reduceLE, Int.reduceNeg, upd_same, reduceCtorEq, false_and, exists_false, or_false, false_or, tNext, tIfS, tRet, tRetN, tDrop, tAsg, gName, tPar, tPar3, tAug, ipI, tVar, tC, tOp, tUn, tCB, tD, tDK, tCons, tNil, rI, rI0, rU, tB, tTest, tCallS, tErr, tAnd, tOr, tNot, tAndV, tOrV, tNotV, tIf, rEq, rNe, scal_ii, scal_bb, scal_ss, rGcd_eq, tBits, List.set_cons_zero, List.set_cons_succ, List.getElem?_cons_zero, List.getElem?_cons_succ, Option.some.injEq, exists_eq_left', V.int.injEq, V.bl.injEq, V.str.injEq, true_and, and_true, decide_eq_true_eq, List.cons.injEq, exists_eq_left, Bool.false_eq_true, if_false, if_true, ite_true, ite_false, Bool.not_eq_true', decide_eq_false_iff_not, Bool.not_not]
      refine ⟨g, 2, _, rfl, G4, by omega, by decide, by decide, fun x H5 x0 x1 G5 K5 => ⟨x, rfl, cml (by decide) (by decide), ?_⟩⟩
      refine ⟨g, 2, _, rfl, G5, by omega, by decide, by decide, fun y H6 y0 y1 G6 K6 => ⟨y, rfl, ?_⟩⟩
      obtain ⟨i, hi, hi4⟩ : ∃ i : Nat, 2 * x + y = (i : Int) ∧ i < 4 := ⟨(2 * x + y).toNat, by omega, by omega⟩
      rw [hi]
      have T6 : TabAt H6 Dd T0 us := K6.tab G5 (K5.tab G4 T4')
      have K46 := K4.trans (K5.trans K6)
      refine Eq.mpr (hC3 _ _) ?_
      refine seq_gen fun C4 hC4 => ?_
      simp only [cxK, wipe, tYes, List.map_cons, List.map_nil, rIxL, rSum, tSl, rSlL, tNoPart, tPart, exists_and_left, and_assoc, V.ref.injEq, HO.lst.injEq, HO.tup.injEq, tFor_eq, iRng1, iRng2, iList, iTup, tLc_eq, tLst, tTup, gSub, rSetL, gT, gL, gTup, gCons, gNil, atI_0, atI_1, atI_2, atI_3, List.length_cons, List.length_nil, Nat.zero_add, Nat.reduceAdd, Nat.reduceLeDiff, ixN_30, ixN_31, ixN_32, Int.reduceLT, Int.reduceLE, Int.reduceNeg, upd_same, reduceCtorEq, false_and, exists_false, or_false, false_or, tNext, tIfS, tRet, tRetN, tDrop, tAsg, gName, tPar, tPar3, tAug, ipI, tVar, tC, tOp, tUn, tCB, tD, tDK, tCons, tNil, rI, rI0, rU, tB, tTest, tCallS, tErr, tAnd, tOr, tNot, tAndV, tOrV, tNotV, tIf, rEq, rNe, scal_ii, scal_bb, scal_ss, rGcd_eq, tBits, List.set_cons_zero, List.set_cons_succ, List.getElem?_cons_zero, List.getElem?_cons_succ, Option.some.injEq, exists_eq_left', V.int.injEq, V.bl.injEq, V.str.injEq, true_and, and_true, decide_eq_true_eq, List.cons.injEq, exists_eq_left, Bool.false_eq_true, if_false, if_true, ite_true, ite_false, Bool.not_eq_true', decide_eq_false_iff_not, Bool.not_not]
      have main : ∀ j : Nat, j < 4 → C4 [some (V.ref g), some (V.ref a), some (V.ref Dd), some (V.int 0), some (V.int m), some (V.int (i : Int)), some (V.int (j : Int)), none, none, none, none] H6 := fun j hj => by
        refine Eq.mpr (hC4 _ _) ?_
        simp only [cxK, wipe, tYes, List.map_cons, List.map_nil, rIxL, rSum, tSl, rSlL, tNoPart, tPart, exists_and_left, and_assoc, V.ref.injEq, HO.lst.injEq, HO.tup.injEq, tFor_eq, iRng1, iRng2, iList, iTup, tLc_eq, tLst, tTup, gSub, rSetL, gT, gL, gTup, gCons, gNil, atI_0, atI_1, atI_2, atI_3, List.length_cons, List.length_nil, Nat.zero_add, Nat.reduceAdd, Nat.reduceLeDiff, ixN_30, ixN_31, ixN_32, Int.reduceLT, Int.reduceLE, Int.reduceNeg, upd_same, reduceCtorEq, false_and, exists_false, or_false, false_or, tSeq, tNext, tIfS, tRet, tRetN, tDrop, tAsg, gName, tPar, tPar3, tAug, ipI, tVar, tC, tOp, tUn, tCB, tD, tDK, tCons, tNil, rI, rI0, rU, tB, tTest, tCallS, tErr, tAnd, tOr, tNot, tAndV, tOrV, tNotV, tIf, rEq, rNe, scal_ii, scal_bb, scal_ss, rGcd_eq, tBits, List.set_cons_zero, List.set_cons_succ, List.getElem?_cons_zero, List.getElem?_cons_succ, Option.some.injEq, exists_eq_left', V.int.injEq, V.bl.injEq, V.str.injEq, true_and, and_true, decide_eq_true_eq, List.cons.injEq, exists_eq_left, Bool.false_eq_true, if_false, if_true, ite_true, ite_false, Bool.not_eq_true', decide_eq_false_iff_not, Bool.not_not, iZip]
        refine ⟨_, T6.at', .ref (us i), atR us i hi4, _, T6.at', .ref (us j), atR us j hj, us i, rfl, us j, rfl, _, SqL.of (T6.row i hi4), _, SqL.of (T6.row j hj), fun D2 n2 => ?_⟩
        refine lcW_zip (xs := cutV4 (rowT T0 i)) (ys := cutV4 (rowT T0 j)) rfl (InvTk H6 D2 (cutV4 (sumZ (rowT T0 i) (rowT T0 j) (m)))) ⟨Same.upd n2, upd_same⟩ (fun _ H3 z => ⟨SqL.of (z.1 _ _ (T6.row i hi4)), SqL.of (z.1 _ _ (T6.row j hj))⟩) ?_ ?_
        · rintro l x w T1 H3 hx hw z nT
          have hl : l < 4 := (List.getElem?_eq_some_iff.mp hx).1
          rw [cut_at hl] at hx hw
          obtain rfl := Option.some.inj hx
          obtain rfl := Option.some.inj hw
          simp only [cxK, wipe, tYes, List.map_cons, List.map_nil, rIxL, rSum, tSl, rSlL, tNoPart, tPart, exists_and_left, and_assoc, V.ref.injEq, HO.lst.injEq, HO.tup.injEq, tFor_eq, iRng1, iRng2, iList, iTup, tLc_eq, tLst, tTup, gSub, rSetL, gT, gL, gTup, gCons, gNil, atI_0, atI_1, atI_2, atI_3, List.length_cons, List.length_nil, Nat.zero_add, Nat.reduceAdd, Nat.reduceLeDiff, ixN_30, ixN_31, ixN_32, Int.reduceLT, Int.reduceLE, Int.reduceNeg, upd_same, reduceCtorEq, false_and, exists_false, or_false, false_or, tSeq, tNext, tIfS, tRet, tRetN, tDrop, tAsg, gName, tPar, tPar3, tAug, ipI, tVar, tC, tOp, tUn, tCB, tD, tDK, tCons, tNil, rI, rI0, rU, tB, tTest, tCallS, tErr, tAnd, tOr, tNot, tAndV, tOrV, tNotV, tIf, rEq, rNe, scal_ii, scal_bb, scal_ss, rGcd_eq, tBits, List.set_cons_zero, List.set_cons_succ, List.getElem?_cons_zero, List.getElem?_cons_succ, Option.some.injEq, exists_eq_left', V.int.injEq, V.bl.injEq, V.str.injEq, true_and, and_true, decide_eq_true_eq, List.cons.injEq, exists_eq_left, Bool.false_eq_true, if_false, if_true, ite_true, ite_false, Bool.not_eq_true', decide_eq_false_iff_not, Bool.not_not]
          refine ⟨okm (n := 3) (Nat.lt_of_le_of_lt hm4 (by decide)) (zB j l hj hl) (by decide) (by decide), ?_⟩
          exact z.push n2 (Same.upd nT) (by rw [cut_at hl, ent_sum _ _ _ hl]) (show 4 ≤ 1000 by decide)
        rintro h7 ⟨s2, e2⟩
        refine ⟨_, s2 _ _ T6.at', i, by show ixN 4 (i : Int) = some i; exact ixN_4 hi4, ?_⟩
        have TT := (T6.same s2).set hi4 e2
        refine Eq.mpr (hC2 _ _) ?_
        simp only [cxK, wipe, tYes, List.map_cons, List.map_nil, rIxL, rSum, tSl, rSlL, tNoPart, tPart, exists_and_left, and_assoc, V.ref.injEq, HO.lst.injEq, HO.tup.injEq, tFor_eq, iRng1, iRng2, iList, iTup, tLc_eq, tLst, tTup, gSub, rSetL, gT, gL, gTup, gCons, gNil, atI_0, atI_1, atI_2, atI_3, List.length_cons, List.length_nil, Nat.zero_add, Nat.reduceAdd, Nat.reduceLeDiff, ixN_30, ixN_31, ixN_32, Int.reduceLT, Int.reduceLE, Int.reduceNeg, upd_same, reduceCtorEq, false_and, exists_false, or_false, false_or, tSeq, tNext, tIfS, tRet, tRetN, tDrop, tAsg, gName, tPar, tPar3, tAug, ipI, tVar, tC, tOp, tUn, tCB, tD, tDK, tCons, tNil, rI, rI0, rU, tB, tTest, tCallS, tErr, tAnd, tOr, tNot, tAndV, tOrV, tNotV, tIf, rEq, rNe, scal_ii, scal_bb, scal_ss, rGcd_eq, tBits, List.set_cons_zero, List.set_cons_succ, List.getElem?_cons_zero, List.getElem?_cons_succ, Option.some.injEq, exists_eq_left', V.int.injEq, V.bl.injEq, V.str.injEq, true_and, and_true, decide_eq_true_eq, List.cons.injEq, exists_eq_left, Bool.false_eq_true, if_false, if_true, ite_true, ite_false, Bool.not_eq_true', decide_eq_false_iff_not, Bool.not_not, Int.reduceEq, iZip]
        refine kk Dd _ _ _ TT ((hB.mono (by omega)).set fun l hl => hB.sum hi4 hj hm4 hl) nD ?_ ?_
        · exact ((G6.same s2).upd hDg).mono (by omega)
        · exact (K46.trans (Keep.of s2)).upd nD
      by_cases hp : (i : Int) % 2 = 0
      · rw [if_pos hp]
        have := main (i + 1) (by omega)
        rwa [show (((i + 1 : Nat) : Int)) = (i : Int) + 1 by omega] at this
      · rw [if_neg hp]
        have := main (i - 1) (by omega)
        rwa [show (((i - 1 : Nat) : Int)) = (i : Int) - 1 by omega] at this
    · rw [if_neg (by decide)]
      refine Eq.mpr (hC2 _ _) ?_
      simp only [cxK, wipe, tYes, List.map_cons, List.map_nil, rIxL, rSum, tSl, rSlL, tNoPart, tPart, exists_and_left, and_assoc, V.ref.injEq, HO.lst.injEq, HO.tup.injEq, tFor_eq, iRng1, iRng2, iList, iTup, tLc_eq, tLst, tTup, gSub, rSetL, gT, gL, gTup, gCons, gNil, atI_0, atI_1, atI_2, atI_3, List.length_cons, List.length_nil, Nat.zero_add, Nat.reduceAdd, Nat.reduceLeDiff, ixN_30, ixN_31, ixN_32, Int.reduceLT, Int.reduceLE, Int.reduceNeg, upd_same, reduceCtorEq, false_and, exists_false, or_false, false_or, tSeq, tNext, tIfS, tRet, tRetN, tDrop, tAsg, gName, tPar, tPar3, tAug, ipI, tVar, tC, tOp, tUn, tCB, tD, tDK, tCons, tNil, rI, rI0, rU, tB, tTest, tCallS, tErr, tAnd, tOr, tNot, tAndV, tOrV, tNotV, tIf, rEq, rNe, scal_ii, scal_bb, scal_ss, rGcd_eq, tBits, List.set_cons_zero, List.set_cons_succ, List.getElem?_cons_zero, List.getElem?_cons_succ, Option.some.injEq, exists_eq_left', V.int.injEq, V.bl.injEq, V.str.injEq, true_and, and_true, decide_eq_true_eq, List.cons.injEq, exists_eq_left, Bool.false_eq_true, if_false, if_true, ite_true, ite_false, Bool.not_eq_true', decide_eq_false_iff_not, Bool.not_not, Int.reduceEq, iZip]
      refine ⟨_, T4'.at', _, atI_2, _, T4'.at', _, atI_3, _, T4'.at', _, atI_0, _, T4'.at', _, atI_1, sml (by decide), fun pn nn => ?_⟩
      have sn := Same.upd (o := .lst [V.ref (us 2), V.ref (us 3), V.ref (us 0), V.ref (us 1)]) nn
      have hpg : pn ≠ g := G4.nn nn
      refine kk pn (mkT fun k => rowT T0 (permR k)) (fun k => us (permR k)) _ ⟨upd_same, fun k hk => ?_⟩ (fun k j hk hj => ?_) (K4.free hpg nn) ((G4.same sn).mono (by omega)) (K4.trans (Keep.of sn))
      · rw [row_mk hk]
        exact sn _ _ (T4'.row _ (perm_lt k))
      · rw [row_mk hk]
        have := hB (permR k) j (perm_lt k) hj
        omega
    · rw [if_neg (by decide)]
      refine Eq.mpr (hC2 _ _) ?_
      simp only [cxK, wipe, tYes, List.map_cons, List.map_nil, rIxL, rSum, tSl, rSlL, tNoPart, tPart, exists_and_left, and_assoc, V.ref.injEq, HO.lst.injEq, HO.tup.injEq, tFor_eq, iRng1, iRng2, iList, iTup, tLc_eq, tLst, tTup, gSub, rSetL, gT, gL, gTup, gCons, gNil, atI_0, atI_1, atI_2, atI_3, List.length_cons, List.length_nil, Nat.zero_add, Nat.reduceAdd, Nat.reduceLeDiff, ixN_30, ixN_31, ixN_32, Int.reduceLT, Int.reduceLE, Int.reduceNeg, upd_same, reduceCtorEq, false_and, exists_false, or_false, false_or, tSeq, tNext, tIfS, tRet, tRetN, tDrop, tAsg, gName, tPar, tPar3, tAug, ipI, tVar, tC, tOp, tUn, tCB, tD, tDK, tCons, tNil, rI, rI0, rU, tB, tTest, tCallS, tErr, tAnd, tOr, tNot, tAndV, tOrV, tNotV, tIf, rEq, rNe, scal_ii, scal_bb, scal_ss, rGcd_eq, tBits, List.set_cons_zero, List.set_cons_succ, List.getElem?_cons_zero, List.getElem?_cons_succ, Option.some.injEq, exists_eq_left', V.int.injEq, V.bl.injEq, V.str.injEq, true_and, and_true, decide_eq_true_eq, List.cons.injEq, exists_eq_left, Bool.false_eq_true, if_false, if_true, ite_true, ite_false, Bool.not_eq_true', decide_eq_false_iff_not, Bool.not_not, Int.reduceEq, iZip]
      refine ⟨_, T4'.at', _, atI_1, _, T4'.at', _, atI_0, us 0, rfl, ⟨_, SqL.of (T4'.row 0 (by decide))⟩, fun D1 m1 => ?_⟩
      refine lcW_list (xs := cutV4 (rowT T0 0)) (InvTk H4 D1 (cutV4 (negZ (rowT T0 0)))) ⟨Same.upd m1, upd_same⟩ (fun _ _ _ y => SqL.of (y.1 _ _ (T4'.row 0 (by decide)))) (fun j x h2 hx y => ?_) (fun h5 y => ?_)
      · refine ⟨rfl, ?_⟩
        have hj : j < 4 := (List.getElem?_eq_some_iff.mp hx).1
        rw [cut_at hj] at hx
        obtain rfl := Option.some.inj hx
        simp only [cxK, wipe, tYes, List.map_cons, List.map_nil, rIxL, rSum, tSl, rSlL, tNoPart, tPart, exists_and_left, and_assoc, V.ref.injEq, HO.lst.injEq, HO.tup.injEq, tFor_eq, iRng1, iRng2, iList, iTup, tLc_eq, tLst, tTup, gSub, rSetL, gT, gL, gTup, gCons, gNil, atI_0, atI_1, atI_2, atI_3, List.length_cons, List.length_nil, Nat.zero_add, Nat.reduceAdd, Nat.reduceLeDiff, ixN_30, ixN_31, ixN_32, Int.reduceLT, Int.reduceLE, Int.reduceNeg, upd_same, reduceCtorEq, false_and, exists_false, or_false, false_or, tSeq, tNext, tIfS, tRet, tRetN, tDrop, tAsg, gName, tPar, tPar3, tAug, ipI, tVar, tC, tOp, tUn, tCB, tD, tDK, tCons, tNil, rI, rI0, rU, tB, tTest, tCallS, tErr, tAnd, tOr, tNot, tAndV, tOrV, tNotV, tIf, rEq, rNe, scal_ii, scal_bb, scal_ss, rGcd_eq, tBits, List.set_cons_zero, List.set_cons_succ, List.getElem?_cons_zero, List.getElem?_cons_succ, Option.some.injEq, exists_eq_left', V.int.injEq, V.bl.injEq, V.str.injEq, true_and, and_true, decide_eq_true_eq, List.cons.injEq, exists_eq_left, Bool.false_eq_true, if_false, if_true, ite_true, ite_false, Bool.not_eq_true', decide_eq_false_iff_not, Bool.not_not]
        exact y.push m1 (Same.refl _) (by rw [cut_at hj, negZ, ent_mk hj]) (show 4 ≤ 1000 by decide)
      obtain ⟨s5, e5⟩ := y
      refine ⟨sml (by decide), fun p1 n1 => ?_⟩
      have s6 := Same.upd (o := .lst [V.ref (us 1), V.ref D1]) n1
      have e6 : upd h5 p1 (.lst [V.ref (us 1), V.ref D1]) p1 = some (.lst [V.ref (us 1), V.ref D1]) := upd_same
      generalize upd h5 p1 (.lst [V.ref (us 1), V.ref D1]) = H6 at *
      refine ⟨_, SqL.of (s6 _ _ (s5 _ _ T4'.at')), fun p2 n2 => ?_⟩
      rw [show cutV [V.ref (us 0), V.ref (us 1), V.ref (us 2), V.ref (us 3)] (some 2) none = [V.ref (us 2), V.ref (us 3)] from rfl]
      have s7 := Same.upd (o := .lst [V.ref (us 2), V.ref (us 3)]) n2
      have e7 : upd H6 p2 (.lst [V.ref (us 2), V.ref (us 3)]) p2 = some (.lst [V.ref (us 2), V.ref (us 3)]) := upd_same
      have e67 := s7 _ _ e6
      generalize upd H6 p2 (.lst [V.ref (us 2), V.ref (us 3)]) = H7 at *
      refine ⟨p1, p2, _, _, rfl, rfl, e67, e7, sml (show 4 ≤ 1000 by decide), fun p3 n3 => ?_⟩
      have s8 := Same.upd (o := .lst ([V.ref (us 1), V.ref D1] ++ [V.ref (us 2), V.ref (us 3)])) n3
      have SS := ((s5.trans s6).trans s7)
      have hpg : p3 ≠ g := ((G4.same SS)).nn n3
      have S4 := SS.trans s8
      refine kk p3 (mkT (turnR T0)) (fun4 (us 1) D1 (us 2) (us 3)) _ ⟨upd_same, fun k hk => ?_⟩ (fun k j hk hj => ?_) ((K4.trans (Keep.of SS)).free hpg n3) ((G4.same S4).mono (by omega)) (K4.trans (Keep.of S4))
      · rw [row_mk hk]
        rcases (show k = 0 ∨ k = 1 ∨ k = 2 ∨ k = 3 by omega) with rfl | rfl | rfl | rfl
        · exact S4 _ _ (T4'.row 1 (by decide))
        · exact s8 _ _ (s7 _ _ (s6 _ _ e5))
        · exact S4 _ _ (T4'.row 2 (by decide))
        · exact S4 _ _ (T4'.row 3 (by decide))
      · rw [row_mk hk]
        rcases (show k = 0 ∨ k = 1 ∨ k = 2 ∨ k = 3 by omega) with rfl | rfl | rfl | rfl
        · have := hB 1 j (by decide) hj
          show (entZ (rowT T0 1) j).natAbs ≤ 5 * B
          omega
        · have := hB 0 j (by decide) hj
          show (entZ (negZ (rowT T0 0)) j).natAbs ≤ 5 * B
          rw [negZ, ent_mk hj]
          omega
        · have := hB 2 j (by decide) hj
          show (entZ (rowT T0 2) j).natAbs ≤ 5 * B
          omega
        · have := hB 3 j (by decide) hj
          show (entZ (rowT T0 3) j).natAbs ≤ 5 * B
          omega
    · rw [if_neg (by decide)]
      refine Eq.mpr (hC2 _ _) ?_
      simp only [cxK, wipe, tYes, List.map_cons, List.map_nil, rIxL, rSum, tSl, rSlL, tNoPart, tPart, exists_and_left, and_assoc, V.ref.injEq, HO.lst.injEq, HO.tup.injEq, tFor_eq, iRng1, iRng2, iList, iTup, tLc_eq, tLst, tTup, gSub, rSetL, gT, gL, gTup, gCons, gNil, atI_0, atI_1, atI_2, atI_3, List.length_cons, List.length_nil, Nat.zero_add, Nat.reduceAdd, Nat.reduceLeDiff, ixN_30, ixN_31, ixN_32, Int.reduceLT, Int.reduceLE, Int.reduceNeg, upd_same, reduceCtorEq, false_and, exists_false, or_false, false_or, tSeq, tNext, tIfS, tRet, tRetN, tDrop, tAsg, gName, tPar, tPar3, tAug, ipI, tVar, tC, tOp, tUn, tCB, tD, tDK, tCons, tNil, rI, rI0, rU, tB, tTest, tCallS, tErr, tAnd, tOr, tNot, tAndV, tOrV, tNotV, tIf, rEq, rNe, scal_ii, scal_bb, scal_ss, rGcd_eq, tBits, List.set_cons_zero, List.set_cons_succ, List.getElem?_cons_zero, List.getElem?_cons_succ, Option.some.injEq, exists_eq_left', V.int.injEq, V.bl.injEq, V.str.injEq, true_and, and_true, decide_eq_true_eq, List.cons.injEq, exists_eq_left, Bool.false_eq_true, if_false, if_true, ite_true, ite_false, Bool.not_eq_true', decide_eq_false_iff_not, Bool.not_not, Int.reduceEq, iZip]
      refine ⟨_, T4'.at', _, atI_0, _, T4'.at', _, atI_2, us 0, rfl, us 2, rfl, _, SqL.of (T4'.row 0 (by decide)), _, SqL.of (T4'.row 2 (by decide)), fun D2 n2 => ?_⟩
      refine lcW_zip (xs := cutV4 (rowT T0 0)) (ys := cutV4 (rowT T0 2)) rfl (InvTk H4 D2 (cutV4 (sumZ (rowT T0 0) (rowT T0 2) (m)))) ⟨Same.upd n2, upd_same⟩ (fun _ H3 z => ⟨SqL.of (z.1 _ _ (T4'.row 0 (by decide))), SqL.of (z.1 _ _ (T4'.row 2 (by decide)))⟩) ?_ ?_
      · rintro l x w T1 H3 hx hw z nT
        have hl : l < 4 := (List.getElem?_eq_some_iff.mp hx).1
        rw [cut_at hl] at hx hw
        obtain rfl := Option.some.inj hx
        obtain rfl := Option.some.inj hw
        simp only [cxK, wipe, tYes, List.map_cons, List.map_nil, rIxL, rSum, tSl, rSlL, tNoPart, tPart, exists_and_left, and_assoc, V.ref.injEq, HO.lst.injEq, HO.tup.injEq, tFor_eq, iRng1, iRng2, iList, iTup, tLc_eq, tLst, tTup, gSub, rSetL, gT, gL, gTup, gCons, gNil, atI_0, atI_1, atI_2, atI_3, List.length_cons, List.length_nil, Nat.zero_add, Nat.reduceAdd, Nat.reduceLeDiff, ixN_30, ixN_31, ixN_32, Int.reduceLT, Int.reduceLE, Int.reduceNeg, upd_same, reduceCtorEq, false_and, exists_false, or_false, false_or, tSeq, tNext, tIfS, tRet, tRetN, tDrop, tAsg, gName, tPar, tPar3, tAug, ipI, tVar, tC, tOp, tUn, tCB, tD, tDK, tCons, tNil, rI, rI0, rU, tB, tTest, tCallS, tErr, tAnd, tOr, tNot, tAndV, tOrV, tNotV, tIf, rEq, rNe, scal_ii, scal_bb, scal_ss, rGcd_eq, tBits, List.set_cons_zero, List.set_cons_succ, List.getElem?_cons_zero, List.getElem?_cons_succ, Option.some.injEq, exists_eq_left', V.int.injEq, V.bl.injEq, V.str.injEq, true_and, and_true, decide_eq_true_eq, List.cons.injEq, exists_eq_left, Bool.false_eq_true, if_false, if_true, ite_true, ite_false, Bool.not_eq_true', decide_eq_false_iff_not, Bool.not_not]
        refine ⟨okm (n := 3) (Nat.lt_of_le_of_lt hm4 (by decide)) (zB 2 l (by decide) hl) (by decide) (by decide), ?_⟩
        exact z.push n2 (Same.upd nT) (by rw [cut_at hl, ent_sum _ _ _ hl]) (show 4 ≤ 1000 by decide)
      rintro h7 ⟨s2, e2⟩
      refine ⟨_, s2 _ _ T4'.at', 0, rfl, ?_⟩
      have TT := (T4'.same s2).set (i := 0) (by decide) e2
      have G5 := (G4.same s2).upd (o := .lst ([V.ref (us 0), V.ref (us 1), V.ref (us 2), V.ref (us 3)].set 0 (.ref D2))) hDg
      have K5 : Keep g H (upd h7 Dd (.lst ([V.ref (us 0), V.ref (us 1), V.ref (us 2), V.ref (us 3)].set 0 (.ref D2)))) := (K4.trans (Keep.of s2)).upd nD
      generalize upd h7 Dd (.lst ([V.ref (us 0), V.ref (us 1), V.ref (us 2), V.ref (us 3)].set 0 (.ref D2))) = H8 at *
      have ev := fun k => (fun k => if k = 0 then D2 else us k) k
      have r3 : H8 (us 3) = some (.lst (cutV4 (rowT T0 3))) := TT.row 3 (by decide)
      have r1 : H8 (us 1) = some (.lst (cutV4 (rowT T0 1))) := TT.row 1 (by decide)
      have at8 : H8 Dd = some (.lst [V.ref D2, V.ref (us 1), V.ref (us 2), V.ref (us 3)]) := TT.at'
      refine ⟨.ref (us 3), rfl, .ref (us 1), rfl, us 3, rfl, us 1, rfl, _, SqL.of r3, _, SqL.of r1, fun D3 n3 => ?_⟩
      refine lcW_zip (xs := cutV4 (rowT T0 3)) (ys := cutV4 (rowT T0 1)) rfl (InvTk H8 D3 (cutV4 (sumZ (rowT T0 3) (rowT T0 1) (-m)))) ⟨Same.upd n3, upd_same⟩ (fun _ H3 z => ⟨SqL.of (z.1 _ _ r3), SqL.of (z.1 _ _ r1)⟩) ?_ ?_
      · rintro l x w T1 H3 hx hw z nT
        have hl : l < 4 := (List.getElem?_eq_some_iff.mp hx).1
        rw [cut_at hl] at hx hw
        obtain rfl := Option.some.inj hx
        obtain rfl := Option.some.inj hw
        simp only [cxK, wipe, tYes, List.map_cons, List.map_nil, rIxL, rSum, tSl, rSlL, tNoPart, tPart, exists_and_left, and_assoc, V.ref.injEq, HO.lst.injEq, HO.tup.injEq, tFor_eq, iRng1, iRng2, iList, iTup, tLc_eq, tLst, tTup, gSub, rSetL, gT, gL, gTup, gCons, gNil, atI_0, atI_1, atI_2, atI_3, List.length_cons, List.length_nil, Nat.zero_add, Nat.reduceAdd, Nat.reduceLeDiff, ixN_30, ixN_31, ixN_32, Int.reduceLT, Int.reduceLE, Int.reduceNeg, upd_same, reduceCtorEq, false_and, exists_false, or_false, false_or, tSeq, tNext, tIfS, tRet, tRetN, tDrop, tAsg, gName, tPar, tPar3, tAug, ipI, tVar, tC, tOp, tUn, tCB, tD, tDK, tCons, tNil, rI, rI0, rU, tB, tTest, tCallS, tErr, tAnd, tOr, tNot, tAndV, tOrV, tNotV, tIf, rEq, rNe, scal_ii, scal_bb, scal_ss, rGcd_eq, tBits, List.set_cons_zero, List.set_cons_succ, List.getElem?_cons_zero, List.getElem?_cons_succ, Option.some.injEq, exists_eq_left', V.int.injEq, V.bl.injEq, V.str.injEq, true_and, and_true, decide_eq_true_eq, List.cons.injEq, exists_eq_left, Bool.false_eq_true, if_false, if_true, ite_true, ite_false, Bool.not_eq_true', decide_eq_false_iff_not, Bool.not_not]
        refine ⟨okm (n := 3) (Nat.lt_of_le_of_lt hm4 (by decide)) (zB 1 l (by decide) hl) (by decide) (by decide), ?_⟩
        exact z.push n3 (Same.upd nT) (by rw [cut_at hl, ent_sum _ _ _ hl, Int.neg_mul, Int.sub_eq_add_neg]) (show 4 ≤ 1000 by decide)
      rintro h9 ⟨s9, e9⟩
      refine ⟨_, s9 _ _ at8, 3, rfl, ?_⟩
      have TU := (TT.same s9).set (i := 3) (by decide) e9
      refine kk Dd _ _ _ TU (((hB.mono (by omega)).set fun l hl => hB.sum (i := 0) (m := 2) (by decide) (by decide) hm4 hl).set fun l hl => hB.sum (i := 3) (m := 1) (n := -m) (by decide) (by decide) (by omega) hl) nD ?_ ?_
      · exact ((G5.same s9).upd hDg).mono (by omega)
      · exact (K5.trans (Keep.of s9)).upd nD

theorem okLawRefused {f : Addr} {fd : FuncData} (F : Fun K "_law_refused" "_law_refused" s_LawRefused f fd) (T : Txt K mg) {C_InvalidTable f_InvalidTable : Addr} {fd_InvalidTable : FuncData} (E_InvalidTable : ErrN P w K mg base "InvalidTable" C_InvalidTable f_InvalidTable fd_InvalidTable) {C_SheetError : Addr} (E_SheetError : ErrP K mg "SheetError" C_SheetError [.type "ValueError", .type "Exception", .type "BaseException", .type "object"] "ValueError" "ValueError.__new__" "ValueError.__init__") {fxTableBack : Addr} {fdxTableBack : FuncData} (X_TableBack : DefX P w K mg base 6 "table_back" fxTableBack fdxTableBack ["table"] (spTBackX C_InvalidTable)) (KT : KitE K [C_InvalidTable] C_SheetError) : FnG P w K mg base 7 f fd ["_law_table"] (spRefT) := by
  refine fnG_mk F scLawRefused (fun vs H Q E h => ?_) (fun cdv A outer s H vs Q E gd hr h => ?_)
  · obtain ⟨a, T0, rs, rfl, _⟩ := h
    rfl
  · obtain ⟨a, T0, rs, rfl, hT, zT, hk, kk⟩ := h
    refine ⟨_, (pss_cons (ps_set (i := 1) scLawRefused.nd rfl (Or.inl rfl) pe_non)
        (pss_cons (ps_try_keep rfl rfl scLawRefused.nd (i := 2) rfl rfl ⟨rfl, by decide, .inl E_SheetError.m⟩ takes0 (fun W pn xe tk _ => (pss_one (ps_expr (pe_dS X_TableBack tk hr (pa_cons (pv 0) pa_nil))))) (fun a cls d pn => (pss_one (ps_set (i := 1) scLawRefused.nd rfl (Or.inl rfl) (pe_and (pe_callB (call_isKK (K := K) rfl) (by rfl) T.isinstance (by decide +kernel) (pa_cons (pv 2) (pa_cons (pe_glob (v := .ref C_InvalidTable) rfl E_InvalidTable.m rfl) pa_nil))) (pe_one (pe_cmpR op_eq (pe_callB (cr_reprRT (K := K) rfl gd hr.units) (by rfl) T.repr (by decide +kernel) (pa_cons (pe_xkT (K := K) rfl (pv 2)) pa_nil)) (pe_callB (cr_reprRT (K := K) rfl gd hr.units) (by rfl) T.repr (by decide +kernel) (pa_cons (pv 0) pa_nil)) (nomark _))))))))
        (pss_one (ps_ret (pe_cmpR op_isBl (pv 1) pe_bl (nomark _)))))), ?_⟩
    have e0 : start N_LawRefused [.ref a] = [some (.ref a), none, none] := rfl
    rw [e0]
    refine seq_gen fun C1 hC1 => ?_
    simp only [cxK, wipe, tYes, List.map_cons, List.map_nil, rIxL, rSum, tSl, rSlL, tNoPart, tPart, exists_and_left, and_assoc, V.ref.injEq, HO.lst.injEq, HO.tup.injEq, tFor_eq, iRng1, iRng2, iList, iTup, tLc_eq, tLst, tTup, gSub, rSetL, gT, gL, gTup, gCons, gNil, atI_0, atI_1, atI_2, atI_3, List.length_cons, List.length_nil, Nat.zero_add, Nat.reduceAdd, Nat.reduceLeDiff, ixN_30, ixN_31, ixN_32, Int.reduceLT, Int.reduceLE, Int.reduceNeg, upd_same, reduceCtorEq, false_and, exists_false, or_false, false_or, tNext, tIfS, tRet, tRetN, tDrop, tAsg, gName, tPar, tPar3, tAug, ipI, tVar, tC, tOp, tUn, tCB, tD, tDK, tCons, tNil, rI, rI0, rU, tB, tTest, tCallS, tErr, tAnd, tOr, tNot, tAndV, tOrV, tNotV, tIf, rEq, rNe, scal_ii, scal_bb, scal_ss, rGcd_eq, tBits, List.set_cons_zero, List.set_cons_succ, List.getElem?_cons_zero, List.getElem?_cons_succ, Option.some.injEq, exists_eq_left', V.int.injEq, V.bl.injEq, V.str.injEq, true_and, and_true, decide_eq_true_eq, List.cons.injEq, exists_eq_left, Bool.false_eq_true, if_false, if_true, ite_true, ite_false, Bool.not_eq_true', decide_eq_false_iff_not, Bool.not_not]
    refine Eq.mpr (hC1 _ _) ?_
    refine seq_gen fun C2 hC2 => ?_
    try (simp only [cxK, wipe, tYes, List.map_cons, List.map_nil, rIxL, rSum, tSl, rSlL, tNoPart, tPart, exists_and_left, and_assoc, V.ref.injEq, HO.lst.injEq, HO.tup.injEq, tFor_eq, iRng1, iRng2, iList, iTup, tLc_eq, tLst, tTup, gSub, rSetL, gT, gL, gTup, gCons, gNil, atI_0, atI_1, atI_2, atI_3, List.length_cons, List.length_nil, Nat.zero_add, Nat.reduceAdd, Nat.reduceLeDiff, ixN_30, ixN_31, ixN_32, Int.reduceLT, Int.reduceLE, Int.reduceNeg, upd_same, reduceCtorEq, false_and, exists_false, or_false, false_or, tNext, tIfS, tRet, tRetN, tDrop, tAsg, gName, tPar, tPar3, tAug, ipI, tVar, tC, tOp, tUn, tCB, tD, tDK, tCons, tNil, rI, rI0, rU, tB, tTest, tCallS, tErr, tAnd, tOr, tNot, tAndV, tOrV, tNotV, tIf, rEq, rNe, scal_ii, scal_bb, scal_ss, rGcd_eq, tBits, List.set_cons_zero, List.set_cons_succ, List.getElem?_cons_zero, List.getElem?_cons_succ, Option.some.injEq, exists_eq_left', V.int.injEq, V.bl.injEq, V.str.injEq, true_and, and_true, decide_eq_true_eq, List.cons.injEq, exists_eq_left, Bool.false_eq_true, if_false, if_true, ite_true, ite_false, Bool.not_eq_true', decide_eq_false_iff_not, Bool.not_not])
    refine ⟨a, T0, rs, rfl, hT, zT, hk, fun d H1 s1 ed => ?_⟩
    have hC : C_InvalidTable ∈ [C_InvalidTable] := List.mem_singleton.mpr rfl
    refine ⟨true, KT.ex _ hC, fun _ x na => ?_, fun h => Bool.noConfusion h⟩
    have s2 : Same H1 (upd H1 x (ExK (.ref C_InvalidTable) (some d) x)) := Same.upd na
    have ea : (upd H1 x (ExK (.ref C_InvalidTable) (some d) x)) x = some (ExK (.ref C_InvalidTable) (some d) x) := upd_same
    have ed2 := s2 _ _ ed
    generalize upd H1 x (ExK (.ref C_InvalidTable) (some d) x) = H2 at *
    simp only [cxK, wipe, tYes, List.map_cons, List.map_nil, rIxL, rSum, tSl, rSlL, tNoPart, tPart, exists_and_left, and_assoc, V.ref.injEq, HO.lst.injEq, HO.tup.injEq, tFor_eq, iRng1, iRng2, iList, iTup, tLc_eq, tLst, tTup, gSub, rSetL, gT, gL, gTup, gCons, gNil, atI_0, atI_1, atI_2, atI_3, List.length_cons, List.length_nil, Nat.zero_add, Nat.reduceAdd, Nat.reduceLeDiff, ixN_30, ixN_31, ixN_32, Int.reduceLT, Int.reduceLE, Int.reduceNeg, upd_same, reduceCtorEq, false_and, exists_false, or_false, false_or, tNext, tIfS, tRet, tRetN, tDrop, tAsg, gName, tPar, tPar3, tAug, ipI, tVar, tC, tOp, tUn, tCB, tD, tDK, tCons, tNil, rI, rI0, rU, tB, tTest, tCallS, tErr, tAnd, tOr, tNot, tAndV, tOrV, tNotV, tIf, rEq, rNe, scal_ii, scal_bb, scal_ss, rGcd_eq, tBits, List.set_cons_zero, List.set_cons_succ, List.getElem?_cons_zero, List.getElem?_cons_succ, Option.some.injEq, exists_eq_left', V.int.injEq, V.bl.injEq, V.str.injEq, true_and, and_true, decide_eq_true_eq, List.cons.injEq, exists_eq_left, Bool.false_eq_true, if_false, if_true, ite_true, ite_false, Bool.not_eq_true', decide_eq_false_iff_not, Bool.not_not, tXk]
    have s12 := s1.trans s2
    refine isKe ea ed2 (KT.ec _ hC) (fun _ h => h) (KT.kit 0 0 _ _ rfl rfl) ⟨true, rfl, ?_⟩
    rw [if_pos rfl]
    refine ⟨_, d, ea, KT.xf _ hC, KT.nv _ hC, _, ed2, .ref a, look1, _, rp_tab (hT.same s12) zT (by decide), _, rp_tab (hT.same s12) zT (by decide), ?_⟩
    rw [decide_eq_true rfl]
    refine Eq.mpr (hC2 _ _) ?_
    simp only [cxK, wipe, tYes, List.map_cons, List.map_nil, rIxL, rSum, tSl, rSlL, tNoPart, tPart, exists_and_left, and_assoc, V.ref.injEq, HO.lst.injEq, HO.tup.injEq, tFor_eq, iRng1, iRng2, iList, iTup, tLc_eq, tLst, tTup, gSub, rSetL, gT, gL, gTup, gCons, gNil, atI_0, atI_1, atI_2, atI_3, List.length_cons, List.length_nil, Nat.zero_add, Nat.reduceAdd, Nat.reduceLeDiff, ixN_30, ixN_31, ixN_32, Int.reduceLT, Int.reduceLE, Int.reduceNeg, upd_same, reduceCtorEq, false_and, exists_false, or_false, false_or, tSeq, tNext, tIfS, tRet, tRetN, tDrop, tAsg, gName, tPar, tPar3, tAug, ipI, tVar, tC, tOp, tUn, tCB, tD, tDK, tCons, tNil, rI, rI0, rU, tB, tTest, tCallS, tErr, tAnd, tOr, tNot, tAndV, tOrV, tNotV, tIf, rEq, rNe, scal_ii, scal_bb, scal_ss, rGcd_eq, tBits, List.set_cons_zero, List.set_cons_succ, List.getElem?_cons_zero, List.getElem?_cons_succ, Option.some.injEq, exists_eq_left', V.int.injEq, V.bl.injEq, V.str.injEq, true_and, and_true, decide_eq_true_eq, List.cons.injEq, exists_eq_left, Bool.false_eq_true, if_false, if_true, ite_true, ite_false, Bool.not_eq_true', decide_eq_false_iff_not, Bool.not_not]
    exact ⟨true, true, rfl, rfl, kk _ s12⟩

def g_KeepsCrossings_t {α : Type} : List α → List α
  | [k0] => [k0]
  | _ => []

theorem okLawOneRight {f : Addr} {fd : FuncData} (F : Fun K "_law_one_right" "_law_one_right" s_LawOneRight f fd) (T : Txt K mg) {fTableBack : Addr} {fdTableBack : FuncData} (D_TableBack : DefAt P w K mg base 6 "table_back" fTableBack fdTableBack ["table"] (spTBack)) {fLawKeeps : Addr} {fdLawKeeps : FuncData} (D_LawKeeps : DefAt P w K mg base 2 "_law_keeps" fLawKeeps fdLawKeeps ["_law_table"] (spKeepsT)) {fLawRefused : Addr} {fdLawRefused : FuncData} (D_LawRefused : DefG P w K mg base 7 "_law_refused" fLawRefused fdLawRefused ["_law_table"] (spRefT)) {fLawBack : Addr} {fdLawBack : FuncData} (D_LawBack : DefAt P w K mg base 2 "_law_back" fLawBack fdLawBack ["_law_table"] (spTBack)) {fLawProduct : Addr} {fdLawProduct : FuncData} (D_LawProduct : DefAt P w K mg base 2 "_law_product" fLawProduct fdLawProduct ["_law_one", "_law_other"] (spTProd)) {fLawSelf : Addr} {fdLawSelf : FuncData} (D_LawSelf : DefAt P w K mg base 2 "_law_self" fLawSelf fdLawSelf [] (spUnitT)) {fKeepsCrossings : Addr} {fdKeepsCrossings : FuncData} (D_KeepsCrossings : DefAt P w K mg base 5 "keeps_crossings" fKeepsCrossings fdKeepsCrossings ["table"] (spKeepsT)) (kb_KeepsCrossings_t : KB0 K fdKeepsCrossings ["table"] ["table"] g_KeepsCrossings_t g_KeepsCrossings_t) : FnG P w K mg base 8 f fd ["_law_table"] (spOneT) := by
  refine fnG_mk F scLawOneRight (fun vs H Q E h => ?_) (fun cdv A outer s H vs Q E gd hr h => ?_)
  · obtain ⟨a, T0, rs, rfl, _⟩ := h
    rfl
  · obtain ⟨a, T0, rs, rfl, hT, zT, kk⟩ := h
    refine ⟨_, (pss_cons (ps_par (i := 1) (j := 2) rfl scLawOneRight.nd rfl rfl (by decide) rfl rfl (pa_cons (pe_d D_LawKeeps hr (pa_cons (pv 0) pa_nil)) (pa_cons (pe_callB (cr_reprR gd hr.units) (by rfl) T.repr (by decide +kernel) (pa_cons (pv 0) pa_nil)) pa_nil)) rfl)
        (pss_cons (ps_if (PW.pt (pw_or (pt_cmpR op_ne (pe_callB (cr_reprR gd hr.units) (by rfl) T.repr (by decide +kernel) (pa_cons (pe_d D_KeepsCrossings hr (pa_cons (pv 0) pa_nil)) pa_nil)) (pe_callB (cr_reprR gd hr.units) (by rfl) T.repr (by decide +kernel) (pa_cons (pv 1) pa_nil)) (nomark _)) (pw_or (pt_cmpR op_ne (pe_callB (cr_reprR gd hr.units) (by rfl) T.repr (by decide +kernel) (pa_cons (pe_dk D_KeepsCrossings hr kb_KeepsCrossings_t (pk_cons (pv 0) pk_nil)) pa_nil)) (pe_callB (cr_reprR gd hr.units) (by rfl) T.repr (by decide +kernel) (pa_cons (pv 1) pa_nil)) (nomark _)) (pw_or1 (pt_cmpR op_ne (pe_callB (cr_reprR gd hr.units) (by rfl) T.repr (by decide +kernel) (pa_cons (pv 0) pa_nil)) (pv 2) (nomark _)))))) (pss_one (ps_ret pe_bl)) pss_nil)
        (pss_cons (ps_if (pt_not (pt_val (pv 1))) (pss_one (ps_ret (pe_g D_LawRefused gd hr (pa_cons (pv 0) pa_nil)))) pss_nil)
        (pss_cons (ps_set (i := 3) scLawOneRight.nd rfl (Or.inl rfl) (pe_d D_TableBack hr (pa_cons (pv 0) pa_nil)))
        (pss_cons (ps_if (PW.pt (pw_or (pt_cmpR (op_neD hr.units) (pv 3) (pe_d D_LawBack hr (pa_cons (pv 0) pa_nil)) (nomark _)) (pw_or (pt_cmpR (op_neD hr.units) (pe_d D_LawProduct hr (pa_cons (pv 0) (pa_cons (pv 3) pa_nil))) (pe_d0 D_LawSelf hr) (nomark _)) (pw_or1 (pt_cmpR op_ne (pe_callB (cr_reprR gd hr.units) (by rfl) T.repr (by decide +kernel) (pa_cons (pv 0) pa_nil)) (pv 2) (nomark _)))))) (pss_one (ps_ret pe_bl)) pss_nil)
        (pss_cons (ps_asg pe_non (pg_sub (pe_ix ixL (pv 3) pe_int (fun _ _ => rfl)) pe_int set_list))
        (pss_one (ps_ret (pe_cmpR (op_eqD hr.units) (pe_d D_TableBack hr (pa_cons (pv 0) pa_nil)) (pe_d D_LawBack hr (pa_cons (pv 0) pa_nil)) (nomark _)))))))))), ?_⟩
    have e0 : start N_LawOneRight [.ref a] = [some (.ref a), none, none, none] := rfl
    rw [e0]
    refine seq_gen fun C1 hC1 => ?_
    simp only [cxK, wipe, tYes, List.map_cons, List.map_nil, rIxL, rSum, tSl, rSlL, tNoPart, tPart, exists_and_left, and_assoc, V.ref.injEq, HO.lst.injEq, HO.tup.injEq, tFor_eq, iRng1, iRng2, iList, iTup, tLc_eq, tLst, tTup, gSub, rSetL, gT, gL, gTup, gCons, gNil, atI_0, atI_1, atI_2, atI_3, List.length_cons, List.length_nil, Nat.zero_add, Nat.reduceAdd, Nat.reduceLeDiff, ixN_30, ixN_31, ixN_32, Int.reduceLT, Int.reduceLE, Int.reduceNeg, upd_same, reduceCtorEq, false_and, exists_false, or_false, false_or, tNext, tIfS, tRet, tRetN, tDrop, tAsg, gName, tPar, tPar3, tAug, ipI, tVar, tC, tOp, tUn, tCB, tD, tDK, tCons, tNil, rI, rI0, rU, tB, tTest, tCallS, tErr, tAnd, tOr, tNot, tAndV, tOrV, tNotV, tIf, rEq, rNe, scal_ii, scal_bb, scal_ss, rGcd_eq, tBits, List.set_cons_zero, List.set_cons_succ, List.getElem?_cons_zero, List.getElem?_cons_succ, Option.some.injEq, exists_eq_left', V.int.injEq, V.bl.injEq, V.str.injEq, true_and, and_true, decide_eq_true_eq, List.cons.injEq, exists_eq_left, Bool.false_eq_true, if_false, if_true, ite_true, ite_false, Bool.not_eq_true', decide_eq_false_iff_not, Bool.not_not]
    refine ⟨a, T0, rs, rfl, hT, zT.up (by decide), fun H1 s1 => ⟨_, rp_tab (hT.same s1) zT (by decide), ?_⟩⟩
    refine Eq.mpr (hC1 _ _) ?_
    refine seq_gen fun C2 hC2 => ?_
    simp only [cxK, wipe, tYes, List.map_cons, List.map_nil, rIxL, rSum, tSl, rSlL, tNoPart, tPart, exists_and_left, and_assoc, V.ref.injEq, HO.lst.injEq, HO.tup.injEq, tFor_eq, iRng1, iRng2, iList, iTup, tLc_eq, tLst, tTup, gSub, rSetL, gT, gL, gTup, gCons, gNil, atI_0, atI_1, atI_2, atI_3, List.length_cons, List.length_nil, Nat.zero_add, Nat.reduceAdd, Nat.reduceLeDiff, ixN_30, ixN_31, ixN_32, Int.reduceLT, Int.reduceLE, Int.reduceNeg, upd_same, reduceCtorEq, false_and, exists_false, or_false, false_or, tNext, tIfS, tRet, tRetN, tDrop, tAsg, gName, tPar, tPar3, tAug, ipI, tVar, tC, tOp, tUn, tCB, tD, tDK, tCons, tNil, rI, rI0, rU, tB, tTest, tCallS, tErr, tAnd, tOr, tNot, tAndV, tOrV, tNotV, tIf, rEq, rNe, scal_ii, scal_bb, scal_ss, rGcd_eq, tBits, List.set_cons_zero, List.set_cons_succ, List.getElem?_cons_zero, List.getElem?_cons_succ, Option.some.injEq, exists_eq_left', V.int.injEq, V.bl.injEq, V.str.injEq, true_and, and_true, decide_eq_true_eq, List.cons.injEq, exists_eq_left, Bool.false_eq_true, if_false, if_true, ite_true, ite_false, Bool.not_eq_true', decide_eq_false_iff_not, Bool.not_not]
    refine ⟨a, T0, rs, rfl, hT.same s1, zT.up (by decide), fun H2 s2 => ⟨_, rp_bl, _, rp_bl, ?_⟩⟩
    rw [if_neg (fun h => h rfl)]
    have s12 := s1.trans s2
    refine ⟨a, T0, rs, rfl, hT.same s12, zT.up (by decide), fun H3 s3 => ⟨_, rp_bl, _, rp_bl, ?_⟩⟩
    rw [if_neg (fun h => h rfl)]
    have s13 := s12.trans s3
    refine ⟨_, rp_tab (hT.same s13) zT (by decide), ?_⟩
    rw [if_neg (fun h => h rfl)]
    refine Eq.mpr (hC2 _ _) ?_
    refine seq_gen fun C3 hC3 => ?_
    simp only [cxK, wipe, tYes, List.map_cons, List.map_nil, rIxL, rSum, tSl, rSlL, tNoPart, tPart, exists_and_left, and_assoc, V.ref.injEq, HO.lst.injEq, HO.tup.injEq, tFor_eq, iRng1, iRng2, iList, iTup, tLc_eq, tLst, tTup, gSub, rSetL, gT, gL, gTup, gCons, gNil, atI_0, atI_1, atI_2, atI_3, List.length_cons, List.length_nil, Nat.zero_add, Nat.reduceAdd, Nat.reduceLeDiff, ixN_30, ixN_31, ixN_32, Int.reduceLT, Int.reduceLE, Int.reduceNeg, upd_same, reduceCtorEq, false_and, exists_false, or_false, false_or, tNext, tIfS, tRet, tRetN, tDrop, tAsg, gName, tPar, tPar3, tAug, ipI, tVar, tC, tOp, tUn, tCB, tD, tDK, tCons, tNil, rI, rI0, rU, tB, tTest, tCallS, tErr, tAnd, tOr, tNot, tAndV, tOrV, tNotV, tIf, rEq, rNe, scal_ii, scal_bb, scal_ss, rGcd_eq, tBits, List.set_cons_zero, List.set_cons_succ, List.getElem?_cons_zero, List.getElem?_cons_succ, Option.some.injEq, exists_eq_left', V.int.injEq, V.bl.injEq, V.str.injEq, true_and, and_true, decide_eq_true_eq, List.cons.injEq, exists_eq_left, Bool.false_eq_true, if_false, if_true, ite_true, ite_false, Bool.not_eq_true', decide_eq_false_iff_not, Bool.not_not]
    have hT3 := hT.same s13
    cases hk : keepsT T0 with
    | false =>
      rw [if_pos rfl]
      exact ⟨a, T0, rs, rfl, hT3, zT.up (by decide), hk, fun H4 s4 => kk _ (s13.trans s4)⟩
    | true =>
      rw [if_neg (by decide)]
      refine Eq.mpr (hC3 _ _) ?_
      refine seq_gen fun C4 hC4 => ?_
      simp only [cxK, wipe, tYes, List.map_cons, List.map_nil, rIxL, rSum, tSl, rSlL, tNoPart, tPart, exists_and_left, and_assoc, V.ref.injEq, HO.lst.injEq, HO.tup.injEq, tFor_eq, iRng1, iRng2, iList, iTup, tLc_eq, tLst, tTup, gSub, rSetL, gT, gL, gTup, gCons, gNil, atI_0, atI_1, atI_2, atI_3, List.length_cons, List.length_nil, Nat.zero_add, Nat.reduceAdd, Nat.reduceLeDiff, ixN_30, ixN_31, ixN_32, Int.reduceLT, Int.reduceLE, Int.reduceNeg, upd_same, reduceCtorEq, false_and, exists_false, or_false, false_or, tNext, tIfS, tRet, tRetN, tDrop, tAsg, gName, tPar, tPar3, tAug, ipI, tVar, tC, tOp, tUn, tCB, tD, tDK, tCons, tNil, rI, rI0, rU, tB, tTest, tCallS, tErr, tAnd, tOr, tNot, tAndV, tOrV, tNotV, tIf, rEq, rNe, scal_ii, scal_bb, scal_ss, rGcd_eq, tBits, List.set_cons_zero, List.set_cons_succ, List.getElem?_cons_zero, List.getElem?_cons_succ, Option.some.injEq, exists_eq_left', V.int.injEq, V.bl.injEq, V.str.injEq, true_and, and_true, decide_eq_true_eq, List.cons.injEq, exists_eq_left, Bool.false_eq_true, if_false, if_true, ite_true, ite_false, Bool.not_eq_true', decide_eq_false_iff_not, Bool.not_not]
      refine ⟨a, T0, rs, rfl, hT3, zT.up (by decide), hk, fun b us H4 n4 => ?_⟩
      refine Eq.mpr (hC4 _ _) ?_
      refine seq_gen fun C5 hC5 => ?_
      simp only [cxK, wipe, tYes, List.map_cons, List.map_nil, rIxL, rSum, tSl, rSlL, tNoPart, tPart, exists_and_left, and_assoc, V.ref.injEq, HO.lst.injEq, HO.tup.injEq, tFor_eq, iRng1, iRng2, iList, iTup, tLc_eq, tLst, tTup, gSub, rSetL, gT, gL, gTup, gCons, gNil, atI_0, atI_1, atI_2, atI_3, List.length_cons, List.length_nil, Nat.zero_add, Nat.reduceAdd, Nat.reduceLeDiff, ixN_30, ixN_31, ixN_32, Int.reduceLT, Int.reduceLE, Int.reduceNeg, upd_same, reduceCtorEq, false_and, exists_false, or_false, false_or, tNext, tIfS, tRet, tRetN, tDrop, tAsg, gName, tPar, tPar3, tAug, ipI, tVar, tC, tOp, tUn, tCB, tD, tDK, tCons, tNil, rI, rI0, rU, tB, tTest, tCallS, tErr, tAnd, tOr, tNot, tAndV, tOrV, tNotV, tIf, rEq, rNe, scal_ii, scal_bb, scal_ss, rGcd_eq, tBits, List.set_cons_zero, List.set_cons_succ, List.getElem?_cons_zero, List.getElem?_cons_succ, Option.some.injEq, exists_eq_left', V.int.injEq, V.bl.injEq, V.str.injEq, true_and, and_true, decide_eq_true_eq, List.cons.injEq, exists_eq_left, Bool.false_eq_true, if_false, if_true, ite_true, ite_false, Bool.not_eq_true', decide_eq_false_iff_not, Bool.not_not]
      have hT4 := hT3.same n4.same
      refine ⟨a, T0, rs, rfl, hT4, zT.up (by decide), hk, fun c vs H5 n5 => ?_⟩
      refine ne_data (dp_tab (n4.tab.same n5.same)) (dp_tab n5.tab) (shaped_tab _) ⟨false, rfl, ?_⟩
      rw [if_neg (by decide)]
      have hT5 := hT4.same n5.same
      refine ⟨a, b, T0, _, rs, us, rfl, hT5, n4.tab.same n5.same, zT.up (by decide), (back_sz zT).up (by decide), fun d ws H6 n6 => ?_⟩
      rw [prod_back hk] at n6
      refine ⟨rfl, fun e xs H7 n7 => ?_⟩
      refine ne_data (dp_tab (n6.tab.same n7.same)) (dp_tab n7.tab) (shaped_tab _) ⟨false, rfl, ?_⟩
      rw [if_neg (by decide)]
      have s47 := (n5.same.trans n6.same).trans n7.same
      refine ⟨_, rp_tab (hT4.same s47) zT (by decide), ?_⟩
      rw [if_neg (fun h => h rfl)]
      refine Eq.mpr (hC5 _ _) ?_
      refine seq_gen fun C6 hC6 => ?_
      simp only [cxK, wipe, tYes, List.map_cons, List.map_nil, rIxL, rSum, tSl, rSlL, tNoPart, tPart, exists_and_left, and_assoc, V.ref.injEq, HO.lst.injEq, HO.tup.injEq, tFor_eq, iRng1, iRng2, iList, iTup, tLc_eq, tLst, tTup, gSub, rSetL, gT, gL, gTup, gCons, gNil, atI_0, atI_1, atI_2, atI_3, List.length_cons, List.length_nil, Nat.zero_add, Nat.reduceAdd, Nat.reduceLeDiff, ixN_30, ixN_31, ixN_32, Int.reduceLT, Int.reduceLE, Int.reduceNeg, upd_same, reduceCtorEq, false_and, exists_false, or_false, false_or, tNext, tIfS, tRet, tRetN, tDrop, tAsg, gName, tPar, tPar3, tAug, ipI, tVar, tC, tOp, tUn, tCB, tD, tDK, tCons, tNil, rI, rI0, rU, tB, tTest, tCallS, tErr, tAnd, tOr, tNot, tAndV, tOrV, tNotV, tIf, rEq, rNe, scal_ii, scal_bb, scal_ss, rGcd_eq, tBits, List.set_cons_zero, List.set_cons_succ, List.getElem?_cons_zero, List.getElem?_cons_succ, Option.some.injEq, exists_eq_left', V.int.injEq, V.bl.injEq, V.str.injEq, true_and, and_true, decide_eq_true_eq, List.cons.injEq, exists_eq_left, Bool.false_eq_true, if_false, if_true, ite_true, ite_false, Bool.not_eq_true', decide_eq_false_iff_not, Bool.not_not]
      have tb := n4.tab.same s47
      refine ⟨_, tb.at', _, atI_0, us 0, rfl, _, tb.row 0 (by decide), 0, rfl, ?_⟩
      have hT7 := hT4.same s47
      have keep : TabAt (upd H7 (us 0) (.lst ((cutV4 (rowT (backT T0) 0)).set 0 .non))) a T0 rs := by
        have n0 : H3 (us 0) = none := n4.nr 0 (by decide)
        exact ⟨(upd_ne (fun z => by rw [← z, hT3.at'] at n0; cases n0)).trans hT7.at', fun i hi => (upd_ne (fun z => by rw [← z, hT3.row i hi] at n0; cases n0)).trans (hT7.row i hi)⟩
      have s8 : Same H (upd H7 (us 0) (.lst ((cutV4 (rowT (backT T0) 0)).set 0 .non))) := Same.upd2 ((s13.trans n4.same).trans s47) (s13.free (n4.nr 0 (by decide)))
      generalize upd H7 (us 0) (.lst ((cutV4 (rowT (backT T0) 0)).set 0 .non)) = H8 at *
      refine Eq.mpr (hC6 _ _) ?_
      simp only [cxK, wipe, tYes, List.map_cons, List.map_nil, rIxL, rSum, tSl, rSlL, tNoPart, tPart, exists_and_left, and_assoc, V.ref.injEq, HO.lst.injEq, HO.tup.injEq, tFor_eq, iRng1, iRng2, iList, iTup, tLc_eq, tLst, tTup, gSub, rSetL, gT, gL, gTup, gCons, gNil, atI_0, atI_1, atI_2, atI_3, List.length_cons, List.length_nil, Nat.zero_add, Nat.reduceAdd, Nat.reduceLeDiff, ixN_30, ixN_31, ixN_32, Int.reduceLT, Int.reduceLE, Int.reduceNeg, upd_same, reduceCtorEq, false_and, exists_false, or_false, false_or, tSeq, tNext, tIfS, tRet, tRetN, tDrop, tAsg, gName, tPar, tPar3, tAug, ipI, tVar, tC, tOp, tUn, tCB, tD, tDK, tCons, tNil, rI, rI0, rU, tB, tTest, tCallS, tErr, tAnd, tOr, tNot, tAndV, tOrV, tNotV, tIf, rEq, rNe, scal_ii, scal_bb, scal_ss, rGcd_eq, tBits, List.set_cons_zero, List.set_cons_succ, List.getElem?_cons_zero, List.getElem?_cons_succ, Option.some.injEq, exists_eq_left', V.int.injEq, V.bl.injEq, V.str.injEq, true_and, and_true, decide_eq_true_eq, List.cons.injEq, exists_eq_left, Bool.false_eq_true, if_false, if_true, ite_true, ite_false, Bool.not_eq_true', decide_eq_false_iff_not, Bool.not_not]
      refine ⟨a, T0, rs, rfl, keep, zT.up (by decide), hk, fun f ys H9 n9 => ?_⟩
      refine ⟨a, T0, rs, rfl, keep.same n9.same, zT.up (by decide), hk, fun g zs H10 n10 => ?_⟩
      exact eq_data (dp_tab (n9.tab.same n10.same)) (dp_tab n10.tab) (shaped_tab _) (kk _ ((s8.trans n9.same).trans n10.same))

def g_TableProduct_oo {α : Type} : List α → List α
  | [k0, k1] => [k1, k0]
  | _ => []

theorem okLawRight {f : Addr} {fd : FuncData} (F : Fun K "_law_right" "_law_right" s_LawRight f fd) (T : Txt K mg) {fLawPath : Addr} {fdLawPath : FuncData} (D_LawPath : DefAt P w K mg base 3 "_law_path" fLawPath fdLawPath ["_law_generator_here"] (spLawPath)) {fLawSelf : Addr} {fdLawSelf : FuncData} (D_LawSelf : DefAt P w K mg base 2 "_law_self" fLawSelf fdLawSelf [] (spUnitT)) {fLawStepped : Addr} {fdLawStepped : FuncData} (D_LawStepped : DefAt P w K mg base 3 "_law_stepped" fLawStepped fdLawStepped ["_law_generator_here", "_law_table"] (spStepT)) {fLawRandom : Addr} {fdLawRandom : FuncData} (D_LawRandom : DefAt P w K mg base 2 "_law_random" fLawRandom fdLawRandom ["_law_generator_here", "_law_bound"] (spRandom)) {fLedPath : Addr} {fdLedPath : FuncData} (D_LedPath : DefAt P w K mg base 4 "led_path" fLedPath fdLedPath ["table", "path"] (spLedPath)) {fLawLed : Addr} {fdLawLed : FuncData} (D_LawLed : DefAt P w K mg base 1 "_law_led" fLawLed fdLawLed ["_law_table", "_law_path_here"] (spLedPath)) {fLawColumns : Addr} {fdLawColumns : FuncData} (D_LawColumns : DefAt P w K mg base 1 "_law_columns" fLawColumns fdLawColumns ["_law_table"] (spTurnedO)) {fTableProduct : Addr} {fdTableProduct : FuncData} (D_TableProduct : DefAt P w K mg base 4 "table_product" fTableProduct fdTableProduct ["one", "other"] (spTProd)) {fLawProduct : Addr} {fdLawProduct : FuncData} (D_LawProduct : DefAt P w K mg base 2 "_law_product" fLawProduct fdLawProduct ["_law_one", "_law_other"] (spTProd)) {fLawOneRight : Addr} {fdLawOneRight : FuncData} (D_LawOneRight : DefG P w K mg base 8 "_law_one_right" fLawOneRight fdLawOneRight ["_law_table"] (spOneT)) (kb_TableProduct_oo : KB0 K fdTableProduct ["one", "other"] ["other", "one"] g_TableProduct_oo g_TableProduct_oo) : FnG P w K mg base 9 f fd ["_law_generator_here"] (spRightT) := by
  refine fnG_mk F scLawRight (fun vs H Q E h => ?_) (fun cdv A outer s H vs Q E gd hr h => ?_)
  · obtain ⟨g, k, rfl, _⟩ := h
    rfl
  · obtain ⟨g, k, rfl, hG, hk, kk⟩ := h
    refine ⟨_, (pss_cons (ps_par (i := 1) (j := 2) rfl scLawRight.nd rfl rfl (by decide) rfl rfl (pa_cons (pe_d0 D_LawSelf hr) (pa_cons (pe_lst pa_nil) pa_nil)) rfl)
        (pss_cons (ps_for PassesOwn.never rfl (pi_range1 rfl T.range (pa_cons (pe_op op_add pe_int (pe_d D_LawRandom hr (pa_cons (pv 0) (pa_cons pe_int pa_nil)))) pa_nil)) (pg_name (i := 3) scLawRight.nd rfl (Or.inl rfl)) (pss_cons (ps_set (i := 1) scLawRight.nd rfl (Or.inl rfl) (pe_d D_LawStepped hr (pa_cons (pv 0) (pa_cons (pv 1) pa_nil))))
        (pss_one (ps_expr (pe_bm PySem.F.plainAttrs_list PySem.F.slot_list_append PySem.F.type_list_append mt_append (pv 2) (pa_cons (pv 1) pa_nil))))))
        (pss_cons (ps_set (i := 4) scLawRight.nd rfl (Or.inl rfl) (pe_ix ixL (pv 2) (pe_d D_LawRandom hr (pa_cons (pv 0) (pa_cons (pe_callB lenL (by rfl) T.len (by decide +kernel) (pa_cons (pv 2) pa_nil)) pa_nil))) (fun _ _ => rfl)))
        (pss_cons (ps_if (PW.pt (pw_or (pt_cmpR (op_neD hr.units) (pe_d D_TableProduct hr (pa_cons (pv 1) (pa_cons (pv 4) pa_nil))) (pe_d D_LawProduct hr (pa_cons (pv 1) (pa_cons (pv 4) pa_nil))) (nomark _)) (pw_or1 (pt_cmpR (op_neD hr.units) (pe_dk D_TableProduct hr kb_TableProduct_oo (pk_cons (pv 1) (pk_cons (pv 4) pk_nil))) (pe_d D_LawProduct hr (pa_cons (pv 4) (pa_cons (pv 1) pa_nil))) (nomark _))))) (pss_one (ps_ret pe_bl)) pss_nil)
        (pss_cons (ps_set (i := 5) scLawRight.nd rfl (Or.inl rfl) (pe_d D_LawPath hr (pa_cons (pv 0) pa_nil)))
        (pss_cons (ps_if (pt_cmpR (op_neD hr.units) (pe_d D_LedPath hr (pa_cons (pe_d D_TableProduct hr (pa_cons (pv 1) (pa_cons (pv 4) pa_nil))) (pa_cons (pv 5) pa_nil))) (pe_d D_LawLed hr (pa_cons (pv 1) (pa_cons (pe_d D_LawLed hr (pa_cons (pv 4) (pa_cons (pv 5) pa_nil))) pa_nil))) (nomark _)) (pss_one (ps_ret pe_bl)) pss_nil)
        (pss_cons (ps_par (i := 6) (j := 7) rfl scLawRight.nd rfl rfl (by decide) rfl rfl (pa_cons (pe_d D_LawRandom hr (pa_cons (pv 0) (pa_cons pe_int pa_nil))) (pa_cons (pe_d D_LawRandom hr (pa_cons (pv 0) (pa_cons pe_int pa_nil))) pa_nil)) rfl)
        (pss_cons (ps_setLc (i := 8) (own := [("_law_row", 19)]) (g := gName 19) (tt := tYes) rfl scLawRight.nd rfl rfl (sw_true rfl rfl rfl (by decide +kernel)) (pi_list (pv 1)) (blkOk_by (N := N_LawRight) (sc := defScope s_LawRight) (by decide +kernel)) (fun _ _ _ _ _ => pg_name (i := 19) scLawRight.nd rfl (Or.inl rfl)) (fun _ _ _ _ _ => pts_nil) (fun _ _ _ _ _ => (pe_callTy (call_list_ofK (K := K) rfl) (by rfl) T.list (by decide +kernel) (pa_cons (pv 19) pa_nil))))
        (pss_cons (ps_asg (pe_op op_sub (pe_op op_add (pe_ix ixL (pe_ix ixL (pv 8) (pv 6) (fun _ _ => rfl)) (pv 7) (fun _ _ => rfl)) pe_int) (pe_op op_mulU pe_int (pe_d D_LawRandom hr (pa_cons (pv 0) (pa_cons pe_int pa_nil))))) (pg_sub (pe_ix ixL (pv 8) (pv 6) (fun _ _ => rfl)) (pv 7) set_list))
        (pss_cons (ps_setLc (i := 9) (own := [("_law_row", 19)]) (g := gName 19) (tt := tYes) rfl scLawRight.nd rfl rfl (sw_true rfl rfl rfl (by decide +kernel)) (pi_range1 rfl T.range (pa_cons pe_int pa_nil)) (blkOk_by (N := N_LawRight) (sc := defScope s_LawRight) (by decide +kernel)) (fun _ _ _ _ _ => pg_name (i := 19) scLawRight.nd rfl (Or.inl rfl)) (fun _ _ _ _ _ => pts_nil) (fun _ _ _ _ _ => (pe_lc (own := [("_law_at", 20)]) (g := gName 20) (tt := tYes) rfl scLawRight.nd (pi_range1 rfl T.range (pa_cons pe_int pa_nil)) (blkOk_by (N := N_LawRight) (by kernel_rfl)) (fun _ _ _ _ _ => pg_name (i := 20) scLawRight.nd rfl (Or.inl rfl)) (fun _ _ _ _ _ => pts_nil) (fun _ _ _ _ _ => (pe_op op_sub (pe_d D_LawRandom hr (pa_cons (pv 0) (pa_cons pe_int pa_nil))) pe_int)))))
        (pss_cons (ps_set (i := 10) scLawRight.nd rfl (Or.inl rfl) (pe_op op_cat (pe_lst (pa_cons (pe_callTy call_list_of (by rfl) T.list (by decide +kernel) (pa_cons (pe_ix ixL (pv 1) (pv 6) (fun _ _ => rfl)) pa_nil)) pa_nil)) (pe_lc (own := [("_law_row", 19)]) (g := gName 19) (tt := tYes) rfl scLawRight.nd (pi_list (pe_slice sl_list (pv 1) (po_some pe_int) po_none)) (blkOk_by (N := N_LawRight) (sc := defScope s_LawRight) (by decide +kernel)) (fun _ _ _ _ _ => pg_name (i := 19) scLawRight.nd rfl (Or.inl rfl)) (fun _ _ _ _ _ => pts_nil) (fun _ _ _ _ _ => (pe_callTy (call_list_ofK (K := K) rfl) (by rfl) T.list (by decide +kernel) (pa_cons (pv 19) pa_nil))))))
        (pss_cons (ps_setLc (i := 11) (own := [("_law_row", 19)]) (g := gName 19) (tt := tYes) rfl scLawRight.nd rfl rfl (sw_true rfl rfl rfl (by decide +kernel)) (pi_list (pv 1)) (blkOk_by (N := N_LawRight) (sc := defScope s_LawRight) (by decide +kernel)) (fun _ _ _ _ _ => pg_name (i := 19) scLawRight.nd rfl (Or.inl rfl)) (fun _ _ _ _ _ => pts_nil) (fun _ _ _ _ _ => (pe_lc (own := [("_law_item", 21)]) (g := gName 21) (tt := tYes) rfl scLawRight.nd (pi_listK (K := K) rfl (pv 19)) (blkOk_by (N := N_LawRight) (by kernel_rfl)) (fun _ _ _ _ _ => pg_name (i := 21) scLawRight.nd rfl (Or.inl rfl)) (fun _ _ _ _ _ => pts_nil) (fun _ _ _ _ _ => (pe_op op_mulU pe_int (pv 21))))))
        (pss_cons (ps_setLc (i := 12) (own := [("_law_row", 19)]) (g := gName 19) (tt := tYes) rfl scLawRight.nd rfl rfl (sw_true rfl rfl rfl (by decide +kernel)) (pi_list (pv 1)) (blkOk_by (N := N_LawRight) (sc := defScope s_LawRight) (by decide +kernel)) (fun _ _ _ _ _ => pg_name (i := 19) scLawRight.nd rfl (Or.inl rfl)) (fun _ _ _ _ _ => pts_nil) (fun _ _ _ _ _ => (pe_lc (own := [("_law_item", 21)]) (g := gName 21) (tt := tYes) rfl scLawRight.nd (pi_listK (K := K) rfl (pv 19)) (blkOk_by (N := N_LawRight) (by kernel_rfl)) (fun _ _ _ _ _ => pg_name (i := 21) scLawRight.nd rfl (Or.inl rfl)) (fun _ _ _ _ _ => pts_nil) (fun _ _ _ _ _ => (pe_op op_sub pe_int (pv 21))))))
        (pss_cons (ps_set (i := 13) scLawRight.nd rfl (Or.inl rfl) (pe_op op_cat (pe_lst (pa_cons (pe_callTy call_list_of (by rfl) T.list (by decide +kernel) (pa_cons (pe_ix ixL (pv 1) pe_int (fun _ _ => rfl)) pa_nil)) (pa_cons (pe_callTy call_list_of (by rfl) T.list (by decide +kernel) (pa_cons (pe_ix ixL (pv 1) pe_int (fun _ _ => rfl)) pa_nil)) pa_nil))) (pe_lc (own := [("_law_row", 19)]) (g := gName 19) (tt := tYes) rfl scLawRight.nd (pi_list (pe_slice sl_list (pv 1) (po_some pe_int) po_none)) (blkOk_by (N := N_LawRight) (sc := defScope s_LawRight) (by decide +kernel)) (fun _ _ _ _ _ => pg_name (i := 19) scLawRight.nd rfl (Or.inl rfl)) (fun _ _ _ _ _ => pts_nil) (fun _ _ _ _ _ => (pe_callTy (call_list_ofK (K := K) rfl) (by rfl) T.list (by decide +kernel) (pa_cons (pv 19) pa_nil))))))
        (pss_cons (ps_setLc (i := 14) (own := [("_law_row", 19)]) (g := gName 19) (tt := tYes) rfl scLawRight.nd rfl rfl (sw_true rfl rfl rfl (by decide +kernel)) (pi_range1 rfl T.range (pa_cons pe_int pa_nil)) (blkOk_by (N := N_LawRight) (sc := defScope s_LawRight) (by decide +kernel)) (fun _ _ _ _ _ => pg_name (i := 19) scLawRight.nd rfl (Or.inl rfl)) (fun _ _ _ _ _ => pts_nil) (fun _ _ _ _ _ => (pe_op op_rep (pe_lst (pa_cons pe_int pa_nil)) pe_int)))
        (pss_cons (ps_for PassesOwn.never rfl (pi_list (pe_lst (pa_cons (pv 1) (pa_cons (pv 4) (pa_cons (pv 8) (pa_cons (pv 9) (pa_cons (pv 10) (pa_cons (pv 11) (pa_cons (pv 12) (pa_cons (pv 13) (pa_cons (pe_d D_LawColumns hr (pa_cons (pv 1) pa_nil)) (pa_cons (pv 14) pa_nil)))))))))))) (pg_name (i := 15) scLawRight.nd rfl (Or.inl rfl)) (pss_cons (ps_if (pt_not (pt_val (pe_g D_LawOneRight gd hr (pa_cons (pv 15) pa_nil)))) (pss_one (ps_ret pe_bl)) pss_nil)
        (pss_one (ps_if (PW.pt (pw_or (pt_cmpR (op_neD hr.units) (pe_d D_LedPath hr (pa_cons (pv 15) (pa_cons (pv 5) pa_nil))) (pe_d D_LawLed hr (pa_cons (pv 15) (pa_cons (pv 5) pa_nil))) (nomark _)) (pw_or (pt_cmpR (op_neD hr.units) (pe_d D_TableProduct hr (pa_cons (pv 15) (pa_cons (pv 8) pa_nil))) (pe_d D_LawProduct hr (pa_cons (pv 15) (pa_cons (pv 8) pa_nil))) (nomark _)) (pw_or1 (pt_cmpR (op_neD hr.units) (pe_d D_TableProduct hr (pa_cons (pv 9) (pa_cons (pv 15) pa_nil))) (pe_d D_LawProduct hr (pa_cons (pv 9) (pa_cons (pv 15) pa_nil))) (nomark _)))))) (pss_one (ps_ret pe_bl)) pss_nil))))
        (pss_cons (ps_set (i := 16) scLawRight.nd rfl (Or.inl rfl) (pe_lst (pa_cons (pe_d D_LedPath hr (pa_cons (pe_d0 D_LawSelf hr) (pa_cons (pv 5) pa_nil))) (pa_cons (pe_d D_TableProduct hr (pa_cons (pe_d0 D_LawSelf hr) (pa_cons (pv 1) pa_nil))) (pa_cons (pe_d D_TableProduct hr (pa_cons (pv 1) (pa_cons (pe_d0 D_LawSelf hr) pa_nil))) pa_nil)))))
        (pss_cons (ps_set (i := 17) scLawRight.nd rfl (Or.inl rfl) (pe_callB (cr_reprR gd hr.units) (by rfl) T.repr (by decide +kernel) (pa_cons (pe_lst (pa_cons (pv 5) (pa_cons (pv 1) pa_nil))) pa_nil)))
        (pss_cons (ps_for PassesOwn.never rfl (pi_list (pe_op op_cat (pe_op op_cat (pv 16) (pe_ix ixL (pv 16) pe_int (fun _ _ => rfl))) (pe_ix ixL (pv 16) pe_int (fun _ _ => rfl)))) (pg_name (i := 18) scLawRight.nd rfl (Or.inl rfl)) (pss_one (ps_expr (pe_bm PySem.F.plainAttrs_list PySem.F.slot_list_append PySem.F.type_list_append mt_append (pv 18) (pa_cons pe_non pa_nil)))))
        (pss_one (ps_ret (pe_cmpR op_eq (pe_callB (cr_reprR gd hr.units) (by rfl) T.repr (by decide +kernel) (pa_cons (pe_lst (pa_cons (pv 5) (pa_cons (pv 1) pa_nil))) pa_nil)) (pv 17) (nomark _))))))))))))))))))))))), ?_⟩
    have e0 : start N_LawRight [.ref g] = [some (.ref g), none, none, none, none, none, none, none, none, none, none, none, none, none, none, none, none, none, none, none, none, none] := rfl
    rw [e0]
    refine seq_gen fun C1 hC1 => ?_
    simp only [cxK, wipe, tYes, List.map_cons, List.map_nil, rIxL, rSum, tSl, rSlL, tNoPart, tPart, exists_and_left, and_assoc, V.ref.injEq, HO.lst.injEq, HO.tup.injEq, tFor_eq, iRng1, iRng2, iList, iTup, tLc_eq, tLst, tTup, gSub, rSetL, gT, gL, gTup, gCons, gNil, atI_0, atI_1, atI_2, atI_3, List.length_cons, List.length_nil, Nat.zero_add, Nat.reduceAdd, Nat.reduceLeDiff, ixN_30, ixN_31, ixN_32, Int.reduceLT, Int.reduceLE, Int.reduceNeg, upd_same, reduceCtorEq, false_and, exists_false, or_false, false_or, tNext, tIfS, tRet, tRetN, tDrop, tAsg, gName, tPar, tPar3, tAug, ipI, tVar, tC, tOp, tUn, tCB, tD, tDK, tCons, tNil, rI, rI0, rU, tB, tTest, tCallS, tErr, tAnd, tOr, tNot, tAndV, tOrV, tNotV, tIf, rEq, rNe, scal_ii, scal_bb, scal_ss, rGcd_eq, tBits, List.set_cons_zero, List.set_cons_succ, List.getElem?_cons_zero, List.getElem?_cons_succ, Option.some.injEq, exists_eq_left', V.int.injEq, V.bl.injEq, V.str.injEq, true_and, and_true, decide_eq_true_eq, List.cons.injEq, exists_eq_left, Bool.false_eq_true, if_false, if_true, ite_true, ite_false, Bool.not_eq_true', decide_eq_false_iff_not, Bool.not_not]
    refine ⟨rfl, fun ta rs H1 n1 => ⟨sml (by decide), fun pm nm => ?_⟩⟩
    have sm := Same.upd (o := .lst []) nm
    have hmg : pm ≠ g := (hG.same n1.same).nn nm
    have em : upd H1 pm (.lst []) pm = some (.lst []) := upd_same
    have t1 := n1.tab.same sm
    have hne : ta ≠ pm := fun z => by rw [← z, n1.tab.at'] at nm; cases nm
    have s1 := n1.same.trans sm
    generalize upd H1 pm (.lst []) = H2 at *
    refine Eq.mpr (hC1 _ _) ?_
    refine seq_gen fun C2 hC2 => ?_
    simp only [cxK, wipe, tYes, List.map_cons, List.map_nil, rIxL, rSum, tSl, rSlL, tNoPart, tPart, exists_and_left, and_assoc, V.ref.injEq, HO.lst.injEq, HO.tup.injEq, tFor_eq, iRng1, iRng2, iList, iTup, tLc_eq, tLst, tTup, gSub, rSetL, gT, gL, gTup, gCons, gNil, atI_0, atI_1, atI_2, atI_3, List.length_cons, List.length_nil, Nat.zero_add, Nat.reduceAdd, Nat.reduceLeDiff, ixN_30, ixN_31, ixN_32, Int.reduceLT, Int.reduceLE, Int.reduceNeg, upd_same, reduceCtorEq, false_and, exists_false, or_false, false_or, tNext, tIfS, tRet, tRetN, tDrop, tAsg, gName, tPar, tPar3, tAug, ipI, tVar, tC, tOp, tUn, tCB, tD, tDK, tCons, tNil, rI, rI0, rU, tB, tTest, tCallS, tErr, tAnd, tOr, tNot, tAndV, tOrV, tNotV, tIf, rEq, rNe, scal_ii, scal_bb, scal_ss, rGcd_eq, tBits, List.set_cons_zero, List.set_cons_succ, List.getElem?_cons_zero, List.getElem?_cons_succ, Option.some.injEq, exists_eq_left', V.int.injEq, V.bl.injEq, V.str.injEq, true_and, and_true, decide_eq_true_eq, List.cons.injEq, exists_eq_left, Bool.false_eq_true, if_false, if_true, ite_true, ite_false, Bool.not_eq_true', decide_eq_false_iff_not, Bool.not_not]
    have G2 := hG.same s1
    refine ⟨g, 12, _, rfl, G2, by omega, by decide, by decide, fun w H3 w0 w1 G3 K3 => ⟨w, rfl, by omega, by omega, ?_⟩⟩
    have K13 := (Keep.of s1).trans K3
    obtain ⟨n, hn⟩ : ∃ n : Nat, (2 + w).toNat = n := ⟨_, rfl⟩
    have hn2 : 2 ≤ n ∧ n ≤ 13 := by omega
    rw [hn]
    refine forW_range (InvM1 g pm (k + 20) H) ⟨ta, unitT, rs, [], none, rfl, K3.tab G2 t1, TB.one, hne, K3 _ _ hmg em, rfl, fun m hm => absurd hm List.not_mem_nil, G3, K13⟩ ?_ (fun σ' h z => ?_)
    · rintro i σ' h hi ⟨tb, T0, us, ms, t3, rfl, hT, hB, hne, em, hl, hall, G, KK⟩
      simp only [cxK, wipe, tYes, List.map_cons, List.map_nil, rIxL, rSum, tSl, rSlL, tNoPart, tPart, exists_and_left, and_assoc, V.ref.injEq, HO.lst.injEq, HO.tup.injEq, tFor_eq, iRng1, iRng2, iList, iTup, tLc_eq, tLst, tTup, gSub, rSetL, gT, gL, gTup, gCons, gNil, atI_0, atI_1, atI_2, atI_3, List.length_cons, List.length_nil, Nat.zero_add, Nat.reduceAdd, Nat.reduceLeDiff, ixN_30, ixN_31, ixN_32, Int.reduceLT, Int.reduceLE, Int.reduceNeg, upd_same, reduceCtorEq, false_and, exists_false, or_false, false_or, tSeq, tNext, tIfS, tRet, tRetN, tDrop, tAsg, gName, tPar, tPar3, tAug, ipI, tVar, tC, tOp, tUn, tCB, tD, tDK, tCons, tNil, rI, rI0, rU, tB, tTest, tCallS, tErr, tAnd, tOr, tNot, tAndV, tOrV, tNotV, tIf, rEq, rNe, scal_ii, scal_bb, scal_ss, rGcd_eq, tBits, List.set_cons_zero, List.set_cons_succ, List.getElem?_cons_zero, List.getElem?_cons_succ, Option.some.injEq, exists_eq_left', V.int.injEq, V.bl.injEq, V.str.injEq, true_and, and_true, decide_eq_true_eq, List.cons.injEq, exists_eq_left, Bool.false_eq_true, if_false, if_true, ite_true, ite_false, Bool.not_eq_true', decide_eq_false_iff_not, Bool.not_not, tBM]
      have hp5 : 5 ^ i ≤ 5 ^ 13 := Nat.pow_le_pow_right (by decide) (by omega)
      refine ⟨g, tb, T0, us, 5 ^ i, k + 20 + 100 * i, rfl, G, by omega, hT, hB, Nat.le_trans hp5 (by decide), fun r U vs h2 hU hBU nr G2' K2' => ?_⟩
      have em2 := K2' _ _ hmg em
      have hrp : r ≠ pm := fun z => by rw [z, em] at nr; cases nr
      refine ⟨.inl ⟨rfl, _, SqL.of em2⟩, pm, _, _, rfl, rfl, em2, ?_, ?_⟩
      · rw [List.length_map]
        exact Nat.le_trans (show _ ≤ 2001 by omega) (Nat.le_of_ble_eq_true rfl)
      have em2' : h2 pm = some (.lst ((ms.map TItm.a).map V.ref)) := by rw [List.map_map]; exact em2
      have hB5 : TB (5 ^ (i + 1)) U := by rw [Nat.pow_succ, Nat.mul_comm]; exact hBU
      refine ⟨r, U, vs, ms ++ [⟨r, U, vs⟩], _, rfl, hU.upd em2' hrp, hB5, hrp, by rw [upd_same, List.map_append]; rfl, by rw [List.length_append, hl]; rfl, fun m hm => ?_, (G2'.upd hmg).mono (by omega), (KK.trans K2').upd (n1.same.free nm)⟩
      · rcases List.mem_append.mp hm with hm | hm
        · obtain ⟨x1, x2, x3⟩ := hall m hm
          exact ⟨(K2'.tab G x1).upd em2' x3, x2, x3⟩
        · rw [List.mem_singleton.mp hm]
          exact ⟨hU.upd em2' hrp, hB5.mono (Nat.pow_le_pow_right (by decide) (by omega)), hrp⟩
    obtain ⟨ta, T0, rs, ms, t3, rfl, hT, hB, hne, em, hl, hall, G, KK⟩ := z
    refine Eq.mpr (hC2 _ _) ?_
    refine seq_gen fun C3 hC3 => ?_
    simp only [cxK, wipe, tYes, List.map_cons, List.map_nil, rIxL, rSum, tSl, rSlL, tNoPart, tPart, exists_and_left, and_assoc, V.ref.injEq, HO.lst.injEq, HO.tup.injEq, tFor_eq, iRng1, iRng2, iList, iTup, tLc_eq, tLst, tTup, gSub, rSetL, gT, gL, gTup, gCons, gNil, atI_0, atI_1, atI_2, atI_3, List.length_cons, List.length_nil, Nat.zero_add, Nat.reduceAdd, Nat.reduceLeDiff, ixN_30, ixN_31, ixN_32, Int.reduceLT, Int.reduceLE, Int.reduceNeg, upd_same, reduceCtorEq, false_and, exists_false, or_false, false_or, tNext, tIfS, tRet, tRetN, tDrop, tAsg, gName, tPar, tPar3, tAug, ipI, tVar, tC, tOp, tUn, tCB, tD, tDK, tCons, tNil, rI, rI0, rU, tB, tTest, tCallS, tErr, tAnd, tOr, tNot, tAndV, tOrV, tNotV, tIf, rEq, rNe, scal_ii, scal_bb, scal_ss, rGcd_eq, tBits, List.set_cons_zero, List.set_cons_succ, List.getElem?_cons_zero, List.getElem?_cons_succ, Option.some.injEq, exists_eq_left', V.int.injEq, V.bl.injEq, V.str.injEq, true_and, and_true, decide_eq_true_eq, List.cons.injEq, exists_eq_left, Bool.false_eq_true, if_false, if_true, ite_true, ite_false, Bool.not_eq_true', decide_eq_false_iff_not, Bool.not_not]
    have zT : TSz 60 T0 := (hB.sz (n := 60) (Nat.lt_of_le_of_lt (Nat.pow_le_pow_right (by decide) hn2.2) (by decide)))
    refine ⟨_, em, g, _, _, rfl, G, by omega, by rw [List.length_map]; omega, by rw [List.length_map]; omega, fun x H5 x0 x1 G5 K5 => ?_⟩
    rw [List.length_map] at x1
    have hxl : x.toNat < ms.length := by omega
    obtain ⟨mo, hmo⟩ : ∃ mo, ms[x.toNat]? = some mo := ⟨_, List.getElem?_eq_getElem hxl⟩
    obtain ⟨hO, hBO, _⟩ := hall mo (List.mem_of_getElem? hmo)
    have zO : TSz 60 mo.T := hBO.sz (by decide)
    have hat : atI (ms.map fun m => V.ref m.a) x = some (.ref mo.a) := by
      have h := atI_nat (xs := ms.map fun m => V.ref m.a) (j := x.toNat) (v := V.ref mo.a) (by rw [List.getElem?_map, hmo]; rfl)
      rwa [show ((x.toNat : Nat) : Int) = x by omega] at h
    refine ⟨_, x, rfl, K5 _ _ hmg em, _, hat, ?_⟩
    have K05 := KK.trans K5
    have hT5 := K5.tab G hT
    have hO5 := K5.tab G hO
    clear em hall hat hmo hxl x0 x1 hne KK
    refine Eq.mpr (hC3 _ _) ?_
    refine seq_gen fun C4 hC4 => ?_
    simp only [cxK, wipe, tYes, List.map_cons, List.map_nil, rIxL, rSum, tSl, rSlL, tNoPart, tPart, exists_and_left, and_assoc, V.ref.injEq, HO.lst.injEq, HO.tup.injEq, tFor_eq, iRng1, iRng2, iList, iTup, tLc_eq, tLst, tTup, gSub, rSetL, gT, gL, gTup, gCons, gNil, atI_0, atI_1, atI_2, atI_3, List.length_cons, List.length_nil, Nat.zero_add, Nat.reduceAdd, Nat.reduceLeDiff, ixN_30, ixN_31, ixN_32, Int.reduceLT, Int.reduceLE, Int.reduceNeg, upd_same, reduceCtorEq, false_and, exists_false, or_false, false_or, tNext, tIfS, tRet, tRetN, tDrop, tAsg, gName, tPar, tPar3, tAug, ipI, tVar, tC, tOp, tUn, tCB, tD, tDK, tCons, tNil, rI, rI0, rU, tB, tTest, tCallS, tErr, tAnd, tOr, tNot, tAndV, tOrV, tNotV, tIf, rEq, rNe, scal_ii, scal_bb, scal_ss, rGcd_eq, tBits, List.set_cons_zero, List.set_cons_succ, List.getElem?_cons_zero, List.getElem?_cons_succ, Option.some.injEq, exists_eq_left', V.int.injEq, V.bl.injEq, V.str.injEq, true_and, and_true, decide_eq_true_eq, List.cons.injEq, exists_eq_left, Bool.false_eq_true, if_false, if_true, ite_true, ite_false, Bool.not_eq_true', decide_eq_false_iff_not, Bool.not_not]
    obtain ⟨to, O, os, hmo'⟩ : ∃ (to : Addr) (O : T4) (os : Nat → Addr), to = mo.a ∧ O = mo.T ∧ os = mo.rs := ⟨_, _, _, rfl, rfl, rfl⟩
    rw [← hmo'.1, ← hmo'.2.1, ← hmo'.2.2] at hO5
    rw [← hmo'.2.1] at zO
    rw [← hmo'.1]
    clear hmo' hO hBO
    refine ⟨ta, to, T0, O, rs, os, rfl, hT5, hO5, zT.up (by decide), zO.up (by decide), fun b1 r1 H6 n6 => ?_⟩
    refine ⟨ta, to, T0, O, rs, os, rfl, hT5.same n6.same, hO5.same n6.same, zT.up (by decide), zO.up (by decide), fun b2 r2 H7 n7 => ?_⟩
    refine ne_data (dp_tab (n6.tab.same n7.same)) (dp_tab n7.tab) (shaped_tab _) ⟨false, rfl, ?_⟩
    rw [if_neg (by decide)]
    have s7 := n6.same.trans n7.same
    refine ⟨to, ta, O, T0, os, rs, rfl, hO5.same s7, hT5.same s7, zO.up (by decide), zT.up (by decide), fun b3 r3 H8 n8 => ?_⟩
    have s8 := s7.trans n8.same
    refine ⟨to, ta, O, T0, os, rs, rfl, hO5.same s8, hT5.same s8, zO.up (by decide), zT.up (by decide), fun b4 r4 H9 n9 => ?_⟩
    refine ne_data (dp_tab (n8.tab.same n9.same)) (dp_tab n9.tab) (shaped_tab _) ⟨false, rfl, ?_⟩
    rw [if_neg (by decide)]
    have s9 := s8.trans n9.same
    have G9 := G5.same s9
    have K09 := K05.trans (Keep.of s9)
    have hT9 := hT5.same s9
    have hO9 := hO5.same s9
    clear n6 n7 n8 n9 s7 s8 s9 hT5 hO5 K05
    refine Eq.mpr (hC4 _ _) ?_
    refine seq_gen fun C5 hC5 => ?_
    simp only [cxK, wipe, tYes, List.map_cons, List.map_nil, rIxL, rSum, tSl, rSlL, tNoPart, tPart, exists_and_left, and_assoc, V.ref.injEq, HO.lst.injEq, HO.tup.injEq, tFor_eq, iRng1, iRng2, iList, iTup, tLc_eq, tLst, tTup, gSub, rSetL, gT, gL, gTup, gCons, gNil, atI_0, atI_1, atI_2, atI_3, List.length_cons, List.length_nil, Nat.zero_add, Nat.reduceAdd, Nat.reduceLeDiff, ixN_30, ixN_31, ixN_32, Int.reduceLT, Int.reduceLE, Int.reduceNeg, upd_same, reduceCtorEq, false_and, exists_false, or_false, false_or, tNext, tIfS, tRet, tRetN, tDrop, tAsg, gName, tPar, tPar3, tAug, ipI, tVar, tC, tOp, tUn, tCB, tD, tDK, tCons, tNil, rI, rI0, rU, tB, tTest, tCallS, tErr, tAnd, tOr, tNot, tAndV, tOrV, tNotV, tIf, rEq, rNe, scal_ii, scal_bb, scal_ss, rGcd_eq, tBits, List.set_cons_zero, List.set_cons_succ, List.getElem?_cons_zero, List.getElem?_cons_succ, Option.some.injEq, exists_eq_left', V.int.injEq, V.bl.injEq, V.str.injEq, true_and, and_true, decide_eq_true_eq, List.cons.injEq, exists_eq_left, Bool.false_eq_true, if_false, if_true, ite_true, ite_false, Bool.not_eq_true', decide_eq_false_iff_not, Bool.not_not]
    refine ⟨g, _, rfl, G9, by omega, fun t p H10 zt np ep G10 K10 => ?_⟩
    have hT10 := K10.tab G9 hT9
    have hO10 := K10.tab G9 hO9
    have K010 := K09.trans K10
    clear hT9 hO9 K09
    refine Eq.mpr (hC5 _ _) ?_
    refine seq_gen fun C6 hC6 => ?_
    simp only [cxK, wipe, tYes, List.map_cons, List.map_nil, rIxL, rSum, tSl, rSlL, tNoPart, tPart, exists_and_left, and_assoc, V.ref.injEq, HO.lst.injEq, HO.tup.injEq, tFor_eq, iRng1, iRng2, iList, iTup, tLc_eq, tLst, tTup, gSub, rSetL, gT, gL, gTup, gCons, gNil, atI_0, atI_1, atI_2, atI_3, List.length_cons, List.length_nil, Nat.zero_add, Nat.reduceAdd, Nat.reduceLeDiff, ixN_30, ixN_31, ixN_32, Int.reduceLT, Int.reduceLE, Int.reduceNeg, upd_same, reduceCtorEq, false_and, exists_false, or_false, false_or, tNext, tIfS, tRet, tRetN, tDrop, tAsg, gName, tPar, tPar3, tAug, ipI, tVar, tC, tOp, tUn, tCB, tD, tDK, tCons, tNil, rI, rI0, rU, tB, tTest, tCallS, tErr, tAnd, tOr, tNot, tAndV, tOrV, tNotV, tIf, rEq, rNe, scal_ii, scal_bb, scal_ss, rGcd_eq, tBits, List.set_cons_zero, List.set_cons_succ, List.getElem?_cons_zero, List.getElem?_cons_succ, Option.some.injEq, exists_eq_left', V.int.injEq, V.bl.injEq, V.str.injEq, true_and, and_true, decide_eq_true_eq, List.cons.injEq, exists_eq_left, Bool.false_eq_true, if_false, if_true, ite_true, ite_false, Bool.not_eq_true', decide_eq_false_iff_not, Bool.not_not]
    refine ⟨ta, to, T0, O, rs, os, rfl, hT10, hO10, zT.up (by decide), zO.up (by decide), fun b1 r1 H11 n11 => ?_⟩
    refine ⟨b1, p, prodT T0 O, r1, t, rfl, n11.tab, n11.same _ _ ep, (prod_sz zT zO).up (by decide), zt.up (by decide), fun b2 H12 m12 s12 e12 => ?_⟩
    have s13 := n11.same.trans s12
    refine ⟨to, p, O, os, t, rfl, hO10.same s13, s13 _ _ ep, zO.up (by decide), zt.up (by decide), fun b3 H13 m13 s14 e13 => ?_⟩
    refine ⟨ta, b3, T0, rs, _, rfl, (hT10.same s13).same s14, e13, zT.up (by decide), (led_sz zO zt).up (by decide), fun b4 H14 m14 s15 e14 => ?_⟩
    refine ne_path (s15 _ _ (s14 _ _ e12)) e14 (assoc_led T0 O t) ⟨false, rfl, ?_⟩
    rw [if_neg (by decide)]
    have s16 := (s13.trans s14).trans s15
    have hT14 := hT10.same s16
    have hO14 := hO10.same s16
    have ep14 := s16 _ _ ep
    have G14 := G10.same s16
    have K014 := K010.trans (Keep.of s16)
    clear n11 s12 s13 s14 s15 s16 e12 e13 e14 hT10 hO10 ep
    refine Eq.mpr (hC6 _ _) ?_
    refine seq_gen fun C7 hC7 => ?_
    simp only [cxK, wipe, tYes, List.map_cons, List.map_nil, rIxL, rSum, tSl, rSlL, tNoPart, tPart, exists_and_left, and_assoc, V.ref.injEq, HO.lst.injEq, HO.tup.injEq, tFor_eq, iRng1, iRng2, iList, iTup, tLc_eq, tLst, tTup, gSub, rSetL, gT, gL, gTup, gCons, gNil, atI_0, atI_1, atI_2, atI_3, List.length_cons, List.length_nil, Nat.zero_add, Nat.reduceAdd, Nat.reduceLeDiff, ixN_30, ixN_31, ixN_32, Int.reduceLT, Int.reduceLE, Int.reduceNeg, upd_same, reduceCtorEq, false_and, exists_false, or_false, false_or, tNext, tIfS, tRet, tRetN, tDrop, tAsg, gName, tPar, tPar3, tAug, ipI, tVar, tC, tOp, tUn, tCB, tD, tDK, tCons, tNil, rI, rI0, rU, tB, tTest, tCallS, tErr, tAnd, tOr, tNot, tAndV, tOrV, tNotV, tIf, rEq, rNe, scal_ii, scal_bb, scal_ss, rGcd_eq, tBits, List.set_cons_zero, List.set_cons_succ, List.getElem?_cons_zero, List.getElem?_cons_succ, Option.some.injEq, exists_eq_left', V.int.injEq, V.bl.injEq, V.str.injEq, true_and, and_true, decide_eq_true_eq, List.cons.injEq, exists_eq_left, Bool.false_eq_true, if_false, if_true, ite_true, ite_false, Bool.not_eq_true', decide_eq_false_iff_not, Bool.not_not]
    refine ⟨g, 4, _, rfl, G14, by omega, by decide, by decide, fun lo H15 l0 l1 G15 K15 => ?_⟩
    refine ⟨g, 4, _, rfl, G15, by omega, by decide, by decide, fun hi H16 h0 h1 G16 K16 => ?_⟩
    have npg : p ≠ g := (G9).nn np
    have K146 := K15.trans K16
    have hT16 := K146.tab G14 hT14
    have hO16 := K146.tab G14 hO14
    have ep16 := K146 _ _ npg ep14
    have K016 := K014.trans K146
    clear hT14 hO14 ep14
    refine Eq.mpr (hC7 _ _) ?_
    refine seq_gen fun C8 hC8 => ?_
    simp only [cxK, wipe, tYes, List.map_cons, List.map_nil, rIxL, rSum, tSl, rSlL, tNoPart, tPart, exists_and_left, and_assoc, V.ref.injEq, HO.lst.injEq, HO.tup.injEq, tFor_eq, iRng1, iRng2, iList, iTup, tLc_eq, tLst, tTup, gSub, rSetL, gT, gL, gTup, gCons, gNil, atI_0, atI_1, atI_2, atI_3, List.length_cons, List.length_nil, Nat.zero_add, Nat.reduceAdd, Nat.reduceLeDiff, ixN_30, ixN_31, ixN_32, Int.reduceLT, Int.reduceLE, Int.reduceNeg, upd_same, reduceCtorEq, false_and, exists_false, or_false, false_or, tNext, tIfS, tRet, tRetN, tDrop, tAsg, gName, tPar, tPar3, tAug, ipI, tVar, tC, tOp, tUn, tCB, tD, tDK, tCons, tNil, rI, rI0, rU, tB, tTest, tCallS, tErr, tAnd, tOr, tNot, tAndV, tOrV, tNotV, tIf, rEq, rNe, scal_ii, scal_bb, scal_ss, rGcd_eq, tBits, List.set_cons_zero, List.set_cons_succ, List.getElem?_cons_zero, List.getElem?_cons_succ, Option.some.injEq, exists_eq_left', V.int.injEq, V.bl.injEq, V.str.injEq, true_and, and_true, decide_eq_true_eq, List.cons.injEq, exists_eq_left, Bool.false_eq_true, if_false, if_true, ite_true, ite_false, Bool.not_eq_true', decide_eq_false_iff_not, Bool.not_not]
    refine ⟨⟨_, SqL.of hT16.at'⟩, fun Db nDb => ?_⟩
    refine lcW_list (xs := [.ref (rs 0), .ref (rs 1), .ref (rs 2), .ref (rs 3)]) (InvTb H16 Db (rowT T0)) (InvTb.start nDb) (fun _ _ _ y => SqL.of (y.1 _ _ hT16.at')) (fun i x h hx z => ?_) (fun h z => ?_)
    · refine ⟨rfl, ?_⟩
      have hi : i < 4 := (List.getElem?_eq_some_iff.mp hx).1
      obtain rfl : x = .ref (rs i) := by
        rcases (show i = 0 ∨ i = 1 ∨ i = 2 ∨ i = 3 by omega) with rfl | rfl | rfl | rfl <;> exact (Option.some.inj hx).symm
      simp only [cxK, wipe, tYes, List.map_cons, List.map_nil, rIxL, rSum, tSl, rSlL, tNoPart, tPart, exists_and_left, and_assoc, V.ref.injEq, HO.lst.injEq, HO.tup.injEq, tFor_eq, iRng1, iRng2, iList, iTup, tLc_eq, tLst, tTup, gSub, rSetL, gT, gL, gTup, gCons, gNil, atI_0, atI_1, atI_2, atI_3, List.length_cons, List.length_nil, Nat.zero_add, Nat.reduceAdd, Nat.reduceLeDiff, ixN_30, ixN_31, ixN_32, Int.reduceLT, Int.reduceLE, Int.reduceNeg, upd_same, reduceCtorEq, false_and, exists_false, or_false, false_or, tSeq, tNext, tIfS, tRet, tRetN, tDrop, tAsg, gName, tPar, tPar3, tAug, ipI, tVar, tC, tOp, tUn, tCB, tD, tDK, tCons, tNil, rI, rI0, rU, tB, tTest, tCallS, tErr, tAnd, tOr, tNot, tAndV, tOrV, tNotV, tIf, rEq, rNe, scal_ii, scal_bb, scal_ss, rGcd_eq, tBits, List.set_cons_zero, List.set_cons_succ, List.getElem?_cons_zero, List.getElem?_cons_succ, Option.some.injEq, exists_eq_left', V.int.injEq, V.bl.injEq, V.str.injEq, true_and, and_true, decide_eq_true_eq, List.cons.injEq, exists_eq_left, Bool.false_eq_true, if_false, if_true, ite_true, ite_false, Bool.not_eq_true', decide_eq_false_iff_not, Bool.not_not]
      exact ⟨_, .inl (SqL.of (z.1 _ _ (hT16.row i hi))), fun l nl => z.push nDb hi (Same.upd nl) nl upd_same⟩
    obtain ⟨bs, nb⟩ := z.done nDb
    have eT : mkT (rowT T0) = T0 := rfl
    rw [eT] at nb
    have hT17 := hT16.same nb.same
    have hO17 := hO16.same nb.same
    have ep17 := nb.same _ _ ep16
    refine Eq.mpr (hC8 _ _) ?_
    refine seq_gen fun C9 hC9 => ?_
    simp only [cxK, wipe, tYes, List.map_cons, List.map_nil, rIxL, rSum, tSl, rSlL, tNoPart, tPart, exists_and_left, and_assoc, V.ref.injEq, HO.lst.injEq, HO.tup.injEq, tFor_eq, iRng1, iRng2, iList, iTup, tLc_eq, tLst, tTup, gSub, rSetL, gT, gL, gTup, gCons, gNil, atI_0, atI_1, atI_2, atI_3, List.length_cons, List.length_nil, Nat.zero_add, Nat.reduceAdd, Nat.reduceLeDiff, ixN_30, ixN_31, ixN_32, Int.reduceLT, Int.reduceLE, Int.reduceNeg, upd_same, reduceCtorEq, false_and, exists_false, or_false, false_or, tNext, tIfS, tRet, tRetN, tDrop, tAsg, gName, tPar, tPar3, tAug, ipI, tVar, tC, tOp, tUn, tCB, tD, tDK, tCons, tNil, rI, rI0, rU, tB, tTest, tCallS, tErr, tAnd, tOr, tNot, tAndV, tOrV, tNotV, tIf, rEq, rNe, scal_ii, scal_bb, scal_ss, rGcd_eq, tBits, List.set_cons_zero, List.set_cons_succ, List.getElem?_cons_zero, List.getElem?_cons_succ, Option.some.injEq, exists_eq_left', V.int.injEq, V.bl.injEq, V.str.injEq, true_and, and_true, decide_eq_true_eq, List.cons.injEq, exists_eq_left, Bool.false_eq_true, if_false, if_true, ite_true, ite_false, Bool.not_eq_true', decide_eq_false_iff_not, Bool.not_not]
    obtain ⟨li, hli, li4⟩ : ∃ i : Nat, lo = (i : Int) ∧ i < 4 := ⟨lo.toNat, by omega, by omega⟩
    obtain ⟨hj, hhj, hj4⟩ : ∃ i : Nat, hi = (i : Int) ∧ i < 4 := ⟨hi.toNat, by omega, by omega⟩
    subst hli
    subst hhj
    have atR : ∀ (ws : Nat → Addr) (k : Nat), k < 4 → atI [V.ref (ws 0), V.ref (ws 1), V.ref (ws 2), V.ref (ws 3)] (k : Int) = some (.ref (ws k)) := fun ws k hk => by
      rcases (show k = 0 ∨ k = 1 ∨ k = 2 ∨ k = 3 by omega) with rfl | rfl | rfl | rfl <;> rfl
    have G17 := G16.same nb.same
    refine ⟨_, nb.tab.at', _, atR bs li li4, bs li, rfl, _, nb.tab.row li li4, _, cut_atI hj4, _, rfl, ?_⟩
    refine ⟨g, 2, _, rfl, G17, by omega, by decide, by decide, fun y H18 y0 y1 G18 K18 => ⟨y, rfl, cml (by decide) (by decide), ?_⟩⟩
    have tb18 := K18.tab G17 nb.tab
    refine ⟨_, tb18.at', _, atR bs li li4, bs li, rfl, _, tb18.row li li4, hj, ixN_4 hj4, ?_⟩
    rw [set_row hj4]
    obtain ⟨v, hv⟩ : ∃ v, v = entZ (rowT T0 li) hj + 1 - 2 * y := ⟨_, rfl⟩
    rw [← hv]
    have hvz : v.natAbs < 2 ^ 58 := by
      have := ent_sz ((hB.sz (n := 50) (Nat.lt_of_le_of_lt (Nat.pow_le_pow_right (by decide) hn2.2) (by decide))) li li4) hj
      omega
    obtain ⟨BT, hBT⟩ : ∃ BT, BT = setT T0 li (mkZ fun k => if k = hj then v else entZ (rowT T0 li) k) := ⟨_, rfl⟩
    have nbr : bs li ≠ g := (GenAt.nt G17 nb.tab).2 li li4
    have nb18 : NewAt H16 H18 Db T0 bs → True := fun _ => trivial
    have hset : TabAt (upd H18 (bs li) (.lst (cutV4 (mkZ fun k => if k = hj then v else entZ (rowT T0 li) k)))) Db BT bs := by
      have hne : Db ≠ bs li := fun e => by
        have h1 := tb18.at'
        have h2 := tb18.row li li4
        rw [← e, h1] at h2
        have := HO.lst.inj (Option.some.inj h2)
        cases this
      rw [hBT]
      refine ⟨(upd_ne hne).trans tb18.at', fun k hk => ?_⟩
      rw [setT, row_mk hk]
      by_cases e : k = li
      · rw [if_pos e, e]
        exact upd_same
      · rw [if_neg e]
        exact (upd_ne (nb.ds k li hk li4 e)).trans (tb18.row k hk)
    have zBT : TSz 60 BT := by
      rw [hBT]
      refine mkT_sz fun k hk => ?_
      by_cases e : k = li
      · rw [if_pos e]
        refine mkZ_sz fun l hl => ?_
        by_cases e2 : l = hj
        · rw [if_pos e2]
          omega
        · rw [if_neg e2]
          exact ent_sz (zT li li4) l
      · rw [if_neg e]
        exact zT k hk
    have KS : Keep g H16 (upd H18 (bs li) (.lst (cutV4 (mkZ fun k => if k = hj then v else entZ (rowT T0 li) k)))) := ((Keep.of nb.same).trans K18).upd (nb.nr li li4)
    have GS := G18.upd (d := bs li) (o := .lst (cutV4 (mkZ fun k => if k = hj then v else entZ (rowT T0 li) k))) nbr
    generalize upd H18 (bs li) (.lst (cutV4 (mkZ fun k => if k = hj then v else entZ (rowT T0 li) k))) = H19 at *
    have hT19 := KS.tab G16 hT16
    have hO19 := KS.tab G16 hO16
    have ep19 := KS _ _ npg ep16
    have K019 := K016.trans KS
    clear hT16 hO16 ep16 hT17 hO17 ep17 tb18 nb KS K18 G18 K016 hv nb18
    refine Eq.mpr (hC9 _ _) ?_
    refine seq_gen fun C10 hC10 => ?_
    simp only [cxK, wipe, tYes, List.map_cons, List.map_nil, rIxL, rSum, tSl, rSlL, tNoPart, tPart, exists_and_left, and_assoc, V.ref.injEq, HO.lst.injEq, HO.tup.injEq, tFor_eq, iRng1, iRng2, iList, iTup, tLc_eq, tLst, tTup, gSub, rSetL, gT, gL, gTup, gCons, gNil, atI_0, atI_1, atI_2, atI_3, List.length_cons, List.length_nil, Nat.zero_add, Nat.reduceAdd, Nat.reduceLeDiff, ixN_30, ixN_31, ixN_32, Int.reduceLT, Int.reduceLE, Int.reduceNeg, upd_same, reduceCtorEq, false_and, exists_false, or_false, false_or, tNext, tIfS, tRet, tRetN, tDrop, tAsg, gName, tPar, tPar3, tAug, ipI, tVar, tC, tOp, tUn, tCB, tD, tDK, tCons, tNil, rI, rI0, rU, tB, tTest, tCallS, tErr, tAnd, tOr, tNot, tAndV, tOrV, tNotV, tIf, rEq, rNe, scal_ii, scal_bb, scal_ss, rGcd_eq, tBits, List.set_cons_zero, List.set_cons_succ, List.getElem?_cons_zero, List.getElem?_cons_succ, Option.some.injEq, exists_eq_left', V.int.injEq, V.bl.injEq, V.str.injEq, true_and, and_true, decide_eq_true_eq, List.cons.injEq, exists_eq_left, Bool.false_eq_true, if_false, if_true, ite_true, ite_false, Bool.not_eq_true', decide_eq_false_iff_not, Bool.not_not]
    refine ⟨by decide, by decide, fun Dr nDr => ?_⟩
    have hDrg := GS.nn nDr
    refine lcW_range (InvDw g Dr (k + 4000) H19) ⟨fun _ => Dr, fun _ => (0, 0, 0, 0), upd_same, fun j hj => absurd hj (Nat.not_lt_zero _), (GS.upd hDrg).mono (by omega), (Keep.refl _ _).upd nDr, hDrg⟩ (fun i h hi z => ?_) (fun h z => ?_)
    · refine ⟨rfl, ?_⟩
      have hi4 : i < 4 := hi
      obtain ⟨us, f, q1, q2, q3, q4, q5⟩ := z
      simp only [cxK, wipe, tYes, List.map_cons, List.map_nil, rIxL, rSum, tSl, rSlL, tNoPart, tPart, exists_and_left, and_assoc, V.ref.injEq, HO.lst.injEq, HO.tup.injEq, tFor_eq, iRng1, iRng2, iList, iTup, tLc_eq, tLst, tTup, gSub, rSetL, gT, gL, gTup, gCons, gNil, atI_0, atI_1, atI_2, atI_3, List.length_cons, List.length_nil, Nat.zero_add, Nat.reduceAdd, Nat.reduceLeDiff, ixN_30, ixN_31, ixN_32, Int.reduceLT, Int.reduceLE, Int.reduceNeg, upd_same, reduceCtorEq, false_and, exists_false, or_false, false_or, tSeq, tNext, tIfS, tRet, tRetN, tDrop, tAsg, gName, tPar, tPar3, tAug, ipI, tVar, tC, tOp, tUn, tCB, tD, tDK, tCons, tNil, rI, rI0, rU, tB, tTest, tCallS, tErr, tAnd, tOr, tNot, tAndV, tOrV, tNotV, tIf, rEq, rNe, scal_ii, scal_bb, scal_ss, rGcd_eq, tBits, List.set_cons_zero, List.set_cons_succ, List.getElem?_cons_zero, List.getElem?_cons_succ, Option.some.injEq, exists_eq_left', V.int.injEq, V.bl.injEq, V.str.injEq, true_and, and_true, decide_eq_true_eq, List.cons.injEq, exists_eq_left, Bool.false_eq_true, if_false, if_true, ite_true, ite_false, Bool.not_eq_true', decide_eq_false_iff_not, Bool.not_not]
      refine ⟨by decide, by decide, fun D2 n2 => ?_⟩
      refine lcW_range (InvDr g D2 (k + 4000 + 100 * i) 20 h) ⟨[], upd_same, rfl, fun n hn => absurd hn List.not_mem_nil, q3.upd (q3.nn n2), (Keep.refl g h).upd n2, q3.nn n2⟩ (fun j h3 hj z => ?_) (fun h3 z => ?_)
      · refine ⟨rfl, ?_⟩
        obtain ⟨ns, eD, hl, hall, G3', K3', hDg⟩ := z
        have hj4 : j < 4 := hj
        simp only [cxK, wipe, tYes, List.map_cons, List.map_nil, rIxL, rSum, tSl, rSlL, tNoPart, tPart, exists_and_left, and_assoc, V.ref.injEq, HO.lst.injEq, HO.tup.injEq, tFor_eq, iRng1, iRng2, iList, iTup, tLc_eq, tLst, tTup, gSub, rSetL, gT, gL, gTup, gCons, gNil, atI_0, atI_1, atI_2, atI_3, List.length_cons, List.length_nil, Nat.zero_add, Nat.reduceAdd, Nat.reduceLeDiff, ixN_30, ixN_31, ixN_32, Int.reduceLT, Int.reduceLE, Int.reduceNeg, upd_same, reduceCtorEq, false_and, exists_false, or_false, false_or, tSeq, tNext, tIfS, tRet, tRetN, tDrop, tAsg, gName, tPar, tPar3, tAug, ipI, tVar, tC, tOp, tUn, tCB, tD, tDK, tCons, tNil, rI, rI0, rU, tB, tTest, tCallS, tErr, tAnd, tOr, tNot, tAndV, tOrV, tNotV, tIf, rEq, rNe, scal_ii, scal_bb, scal_ss, rGcd_eq, tBits, List.set_cons_zero, List.set_cons_succ, List.getElem?_cons_zero, List.getElem?_cons_succ, Option.some.injEq, exists_eq_left', V.int.injEq, V.bl.injEq, V.str.injEq, true_and, and_true, decide_eq_true_eq, List.cons.injEq, exists_eq_left, Bool.false_eq_true, if_false, if_true, ite_true, ite_false, Bool.not_eq_true', decide_eq_false_iff_not, Bool.not_not]
        refine ⟨g, 5, _, rfl, G3', by omega, by decide, by decide, fun r h4 r0 r1 G4' K4' => ⟨r, rfl, ?_⟩⟩
        refine ⟨_, K4' _ _ hDg eD, small1K (by rw [List.length_map]; omega), ns ++ [r - 2], by rw [upd_same, List.map_append]; rfl, by rw [List.length_append, hl]; rfl, fun n hn => ?_, (G4'.upd hDg).mono (by omega), (K3'.trans K4').upd n2, hDg⟩
        rcases List.mem_append.mp hn with hn | hn
        · exact hall n hn
        · rw [List.mem_singleton.mp hn]
          omega
      · obtain ⟨ns, eD, hl, hall, G3', K3', hDg⟩ := z
        match ns, hl with
        | [a, b, c, d], _ =>
        have e2 : h3 D2 = some (.lst (cutV4 ((a, b, c, d) : Q4))) := eD
        have hDD : D2 ≠ Dr := fun z => by rw [z, q1] at n2; cases n2
        have hne : ∀ j, j < i → us j ≠ D2 := fun j hj z => by rw [← z, (q2 j hj).1] at n2; cases n2
        have q1' := K3' _ _ q5 q1
        refine ⟨_, q1', small1K (by rw [List.length_map, List.length_range]; omega), fun j => if j = i then D2 else us j, fun j => if j = i then (a, b, c, d) else f j, ?_, fun j hj => ?_, (G3'.upd q5).mono (by omega), (q4.trans K3').upd nDr, q5⟩
        · rw [upd_same, List.range_succ, List.map_append]
          congr 2
          congr 1
          · refine List.map_congr_left fun j hj => ?_
            have := List.mem_range.mp hj
            show V.ref (us j) = V.ref (if j = i then D2 else us j)
            rw [if_neg (by omega)]
          · simp
        · show upd h3 Dr _ (if j = i then D2 else us j) = some (.lst (cutV4 (if j = i then (a, b, c, d) else f j))) ∧ (if j = i then D2 else us j) ≠ Dr ∧ (if j = i then D2 else us j) ≠ g ∧ Sz4 20 (if j = i then (a, b, c, d) else f j)
          by_cases hji : j = i
          · rw [if_pos hji, if_pos hji]
            exact ⟨(upd_ne hDD).trans e2, hDD, hDg, hall a (by simp), hall b (by simp), hall c (by simp), hall d (by simp)⟩
          · rw [if_neg hji, if_neg hji]
            obtain ⟨p1, p2, p3, p4⟩ := q2 j (by omega)
            exact ⟨(upd_ne p2).trans (K3' _ _ p3 p1), p2, p3, p4⟩
    obtain ⟨ds, f, q1, q2, q3, q4, _⟩ := z
    have tdr : TabAt h Dr (mkT f) ds := ⟨q1, fun i hi => by rw [row_mk hi]; exact (q2 i hi).1⟩
    have zdr : TSz 60 (mkT f) := mkT_sz fun i hi => (q2 i hi).2.2.2.up (by decide)
    have hT20 := q4.tab GS hT19
    have hO20 := q4.tab GS hO19
    have ep20 := q4 _ _ npg ep19
    have tb20 := q4.tab GS hset
    have K020 := K019.trans q4
    clear hT19 hO19 ep19 hset q1 q2 K019
    replace q3 : GenAt h g (k + 4000 + 400) := q3
    refine Eq.mpr (hC10 _ _) ?_
    refine seq_gen fun C11 hC11 => ?_
    simp only [cxK, wipe, tYes, List.map_cons, List.map_nil, rIxL, rSum, tSl, rSlL, tNoPart, tPart, exists_and_left, and_assoc, V.ref.injEq, HO.lst.injEq, HO.tup.injEq, tFor_eq, iRng1, iRng2, iList, iTup, tLc_eq, tLst, tTup, gSub, rSetL, gT, gL, gTup, gCons, gNil, atI_0, atI_1, atI_2, atI_3, List.length_cons, List.length_nil, Nat.zero_add, Nat.reduceAdd, Nat.reduceLeDiff, ixN_30, ixN_31, ixN_32, Int.reduceLT, Int.reduceLE, Int.reduceNeg, upd_same, reduceCtorEq, false_and, exists_false, or_false, false_or, tNext, tIfS, tRet, tRetN, tDrop, tAsg, gName, tPar, tPar3, tAug, ipI, tVar, tC, tOp, tUn, tCB, tD, tDK, tCons, tNil, rI, rI0, rU, tB, tTest, tCallS, tErr, tAnd, tOr, tNot, tAndV, tOrV, tNotV, tIf, rEq, rNe, scal_ii, scal_bb, scal_ss, rGcd_eq, tBits, List.set_cons_zero, List.set_cons_succ, List.getElem?_cons_zero, List.getElem?_cons_succ, Option.some.injEq, exists_eq_left', V.int.injEq, V.bl.injEq, V.str.injEq, true_and, and_true, decide_eq_true_eq, List.cons.injEq, exists_eq_left, Bool.false_eq_true, if_false, if_true, ite_true, ite_false, Bool.not_eq_true', decide_eq_false_iff_not, Bool.not_not]
    refine ⟨_, hT20.at', _, atR rs li li4, rs li, rfl, _, .inl (SqL.of (hT20.row li li4)), fun l nl => ⟨sml (by decide), fun p2 n2 => ?_⟩⟩
    have s1 := Same.upd (o := .lst (cutV4 (rowT T0 li))) nl
    have e1 : upd h l (.lst (cutV4 (rowT T0 li))) l = some (.lst (cutV4 (rowT T0 li))) := upd_same
    have s2 := Same.upd (o := .lst [V.ref l]) n2
    have e2 : upd (upd h l (.lst (cutV4 (rowT T0 li)))) p2 (.lst [V.ref l]) p2 = some (.lst [V.ref l]) := upd_same
    have e1' := s2 _ _ e1
    have s12 := s1.trans s2
    generalize upd (upd h l (.lst (cutV4 (rowT T0 li)))) p2 (.lst [V.ref l]) = h2 at *
    refine ⟨_, SqL.of (s12 _ _ hT20.at'), fun p3 n3 => ?_⟩
    rw [show cutV [V.ref (rs 0), V.ref (rs 1), V.ref (rs 2), V.ref (rs 3)] (some 1) none = [V.ref (rs 1), V.ref (rs 2), V.ref (rs 3)] from rfl]
    have s3 := Same.upd (o := .lst [V.ref (rs 1), V.ref (rs 2), V.ref (rs 3)]) n3
    have e3 : upd h2 p3 (.lst [V.ref (rs 1), V.ref (rs 2), V.ref (rs 3)]) p3 = some (.lst [V.ref (rs 1), V.ref (rs 2), V.ref (rs 3)]) := upd_same
    have s13 := s12.trans s3
    have e23 := s3 _ _ e2
    have e13 := s3 _ _ e1'
    generalize upd h2 p3 (.lst [V.ref (rs 1), V.ref (rs 2), V.ref (rs 3)]) = h3 at *
    have hT21 := hT20.same s13
    refine ⟨⟨_, SqL.of e3⟩, fun D2 nD2 => ?_⟩
    refine lcW_list (xs := [V.ref (rs 1), V.ref (rs 2), V.ref (rs 3)]) (InvTb h3 D2 fun j => rowT T0 (j + 1)) (InvTb.start nD2) (fun _ _ _ y => SqL.of (y.1 _ _ e3)) (fun i x h4 hx z => ?_) (fun h4 z => ?_)
    · refine ⟨rfl, ?_⟩
      have hi : i < 3 := (List.getElem?_eq_some_iff.mp hx).1
      obtain rfl : x = .ref (rs (i + 1)) := by
        rcases (show i = 0 ∨ i = 1 ∨ i = 2 by omega) with rfl | rfl | rfl <;> exact (Option.some.inj hx).symm
      simp only [cxK, wipe, tYes, List.map_cons, List.map_nil, rIxL, rSum, tSl, rSlL, tNoPart, tPart, exists_and_left, and_assoc, V.ref.injEq, HO.lst.injEq, HO.tup.injEq, tFor_eq, iRng1, iRng2, iList, iTup, tLc_eq, tLst, tTup, gSub, rSetL, gT, gL, gTup, gCons, gNil, atI_0, atI_1, atI_2, atI_3, List.length_cons, List.length_nil, Nat.zero_add, Nat.reduceAdd, Nat.reduceLeDiff, ixN_30, ixN_31, ixN_32, Int.reduceLT, Int.reduceLE, Int.reduceNeg, upd_same, reduceCtorEq, false_and, exists_false, or_false, false_or, tSeq, tNext, tIfS, tRet, tRetN, tDrop, tAsg, gName, tPar, tPar3, tAug, ipI, tVar, tC, tOp, tUn, tCB, tD, tDK, tCons, tNil, rI, rI0, rU, tB, tTest, tCallS, tErr, tAnd, tOr, tNot, tAndV, tOrV, tNotV, tIf, rEq, rNe, scal_ii, scal_bb, scal_ss, rGcd_eq, tBits, List.set_cons_zero, List.set_cons_succ, List.getElem?_cons_zero, List.getElem?_cons_succ, Option.some.injEq, exists_eq_left', V.int.injEq, V.bl.injEq, V.str.injEq, true_and, and_true, decide_eq_true_eq, List.cons.injEq, exists_eq_left, Bool.false_eq_true, if_false, if_true, ite_true, ite_false, Bool.not_eq_true', decide_eq_false_iff_not, Bool.not_not]
      exact ⟨_, .inl (SqL.of (z.1 _ _ (hT21.row (i + 1) (by omega)))), fun l nl => z.push nD2 (by omega) (Same.upd nl) nl upd_same⟩
    obtain ⟨s4, us, u1, u2, _⟩ : InvTb h3 D2 (fun j => rowT T0 (j + 1)) 3 h4 := z
    refine ⟨p2, D2, _, _, rfl, rfl, s4 _ _ e23, u1, sml (show 4 ≤ 1000 by decide), fun px nx => ?_⟩
    have sx := Same.upd (o := .lst ([V.ref l] ++ (List.range 3).map fun j => V.ref (us j))) nx
    have ttw : TabAt (upd h4 px (.lst ([V.ref l] ++ (List.range 3).map fun j => V.ref (us j)))) px (mkT fun k => if k = 0 then rowT T0 li else rowT T0 k) (fun4 l (us 0) (us 1) (us 2)) := by
      refine ⟨upd_same, fun k hk => ?_⟩
      rw [row_mk hk]
      rcases (show k = 0 ∨ k = 1 ∨ k = 2 ∨ k = 3 by omega) with rfl | rfl | rfl | rfl
      · exact sx _ _ (s4 _ _ e13)
      · exact sx _ _ (u2 0 (by decide)).2.1
      · exact sx _ _ (u2 1 (by decide)).2.1
      · exact sx _ _ (u2 2 (by decide)).2.1
    have ztw : TSz 60 (mkT fun k => if k = 0 then rowT T0 li else rowT T0 k) := mkT_sz fun k hk => by
      split
      · exact zT li li4
      · exact zT k hk
    have sA := (s13.trans s4).trans sx
    generalize upd h4 px (.lst ([V.ref l] ++ (List.range 3).map fun j => V.ref (us j))) = hA at *
    have hTA := hT20.same sA
    clear s1 s2 s12 s3 s13 s4 sx e1 e2 e1' e3 e23 e13 u1 u2 hT21 hT20
    refine Eq.mpr (hC11 _ _) ?_
    refine seq_gen fun C12 hC12 => ?_
    simp only [cxK, wipe, tYes, List.map_cons, List.map_nil, rIxL, rSum, tSl, rSlL, tNoPart, tPart, exists_and_left, and_assoc, V.ref.injEq, HO.lst.injEq, HO.tup.injEq, tFor_eq, iRng1, iRng2, iList, iTup, tLc_eq, tLst, tTup, gSub, rSetL, gT, gL, gTup, gCons, gNil, atI_0, atI_1, atI_2, atI_3, List.length_cons, List.length_nil, Nat.zero_add, Nat.reduceAdd, Nat.reduceLeDiff, ixN_30, ixN_31, ixN_32, Int.reduceLT, Int.reduceLE, Int.reduceNeg, upd_same, reduceCtorEq, false_and, exists_false, or_false, false_or, tNext, tIfS, tRet, tRetN, tDrop, tAsg, gName, tPar, tPar3, tAug, ipI, tVar, tC, tOp, tUn, tCB, tD, tDK, tCons, tNil, rI, rI0, rU, tB, tTest, tCallS, tErr, tAnd, tOr, tNot, tAndV, tOrV, tNotV, tIf, rEq, rNe, scal_ii, scal_bb, scal_ss, rGcd_eq, tBits, List.set_cons_zero, List.set_cons_succ, List.getElem?_cons_zero, List.getElem?_cons_succ, Option.some.injEq, exists_eq_left', V.int.injEq, V.bl.injEq, V.str.injEq, true_and, and_true, decide_eq_true_eq, List.cons.injEq, exists_eq_left, Bool.false_eq_true, if_false, if_true, ite_true, ite_false, Bool.not_eq_true', decide_eq_false_iff_not, Bool.not_not]
    refine ⟨⟨_, SqL.of hTA.at'⟩, fun Dd nDd => ?_⟩
    refine lcW_list (xs := [.ref (rs 0), .ref (rs 1), .ref (rs 2), .ref (rs 3)]) (InvTb _ Dd fun i => mkZ fun j => 2 * entZ (rowT T0 i) j) (InvTb.start nDd) (fun _ _ _ y => SqL.of (y.1 _ _ hTA.at')) (fun i x h5 hx z => ?_) (fun h5 z => ?_)
    · refine ⟨rfl, ?_⟩
      have hi : i < 4 := (List.getElem?_eq_some_iff.mp hx).1
      obtain rfl : x = .ref (rs i) := by
        rcases (show i = 0 ∨ i = 1 ∨ i = 2 ∨ i = 3 by omega) with rfl | rfl | rfl | rfl <;> exact (Option.some.inj hx).symm
      simp only [cxK, wipe, tYes, List.map_cons, List.map_nil, rIxL, rSum, tSl, rSlL, tNoPart, tPart, exists_and_left, and_assoc, V.ref.injEq, HO.lst.injEq, HO.tup.injEq, tFor_eq, iRng1, iRng2, iList, iTup, tLc_eq, tLst, tTup, gSub, rSetL, gT, gL, gTup, gCons, gNil, atI_0, atI_1, atI_2, atI_3, List.length_cons, List.length_nil, Nat.zero_add, Nat.reduceAdd, Nat.reduceLeDiff, ixN_30, ixN_31, ixN_32, Int.reduceLT, Int.reduceLE, Int.reduceNeg, upd_same, reduceCtorEq, false_and, exists_false, or_false, false_or, tSeq, tNext, tIfS, tRet, tRetN, tDrop, tAsg, gName, tPar, tPar3, tAug, ipI, tVar, tC, tOp, tUn, tCB, tD, tDK, tCons, tNil, rI, rI0, rU, tB, tTest, tCallS, tErr, tAnd, tOr, tNot, tAndV, tOrV, tNotV, tIf, rEq, rNe, scal_ii, scal_bb, scal_ss, rGcd_eq, tBits, List.set_cons_zero, List.set_cons_succ, List.getElem?_cons_zero, List.getElem?_cons_succ, Option.some.injEq, exists_eq_left', V.int.injEq, V.bl.injEq, V.str.injEq, true_and, and_true, decide_eq_true_eq, List.cons.injEq, exists_eq_left, Bool.false_eq_true, if_false, if_true, ite_true, ite_false, Bool.not_eq_true', decide_eq_false_iff_not, Bool.not_not]
      refine ⟨⟨_, SqL.of (z.1 _ _ (hTA.row i hi))⟩, fun D3 n3 => ?_⟩
      refine lcW_list (xs := cutV4 (rowT T0 i)) (InvTk h5 D3 (cutV4 (mkZ fun j => 2 * entZ (rowT T0 i) j))) ⟨Same.upd n3, upd_same⟩ (fun _ _ _ y => SqL.of (y.1 _ _ (z.1 _ _ (hTA.row i hi)))) (fun j x h6 hx y => ?_) (fun h6 y => ?_)
      · refine ⟨rfl, ?_⟩
        have hj : j < 4 := (List.getElem?_eq_some_iff.mp hx).1
        rw [cut_at hj] at hx
        obtain rfl := Option.some.inj hx
        simp only [cxK, wipe, tYes, List.map_cons, List.map_nil, rIxL, rSum, tSl, rSlL, tNoPart, tPart, exists_and_left, and_assoc, V.ref.injEq, HO.lst.injEq, HO.tup.injEq, tFor_eq, iRng1, iRng2, iList, iTup, tLc_eq, tLst, tTup, gSub, rSetL, gT, gL, gTup, gCons, gNil, atI_0, atI_1, atI_2, atI_3, List.length_cons, List.length_nil, Nat.zero_add, Nat.reduceAdd, Nat.reduceLeDiff, ixN_30, ixN_31, ixN_32, Int.reduceLT, Int.reduceLE, Int.reduceNeg, upd_same, reduceCtorEq, false_and, exists_false, or_false, false_or, tSeq, tNext, tIfS, tRet, tRetN, tDrop, tAsg, gName, tPar, tPar3, tAug, ipI, tVar, tC, tOp, tUn, tCB, tD, tDK, tCons, tNil, rI, rI0, rU, tB, tTest, tCallS, tErr, tAnd, tOr, tNot, tAndV, tOrV, tNotV, tIf, rEq, rNe, scal_ii, scal_bb, scal_ss, rGcd_eq, tBits, List.set_cons_zero, List.set_cons_succ, List.getElem?_cons_zero, List.getElem?_cons_succ, Option.some.injEq, exists_eq_left', V.int.injEq, V.bl.injEq, V.str.injEq, true_and, and_true, decide_eq_true_eq, List.cons.injEq, exists_eq_left, Bool.false_eq_true, if_false, if_true, ite_true, ite_false, Bool.not_eq_true', decide_eq_false_iff_not, Bool.not_not]
        refine ⟨cml (by decide) (by decide), ?_⟩
        exact y.push n3 (Same.refl _) (by rw [cut_at hj, ent_mk hj]) (show 4 ≤ 1000 by decide)
      · exact z.push nDd hi y.1 n3 y.2
    obtain ⟨dbs, nd⟩ := z.done nDd
    have hTB := hTA.same nd.same
    refine Eq.mpr (hC12 _ _) ?_
    refine seq_gen fun C13 hC13 => ?_
    simp only [cxK, wipe, tYes, List.map_cons, List.map_nil, rIxL, rSum, tSl, rSlL, tNoPart, tPart, exists_and_left, and_assoc, V.ref.injEq, HO.lst.injEq, HO.tup.injEq, tFor_eq, iRng1, iRng2, iList, iTup, tLc_eq, tLst, tTup, gSub, rSetL, gT, gL, gTup, gCons, gNil, atI_0, atI_1, atI_2, atI_3, List.length_cons, List.length_nil, Nat.zero_add, Nat.reduceAdd, Nat.reduceLeDiff, ixN_30, ixN_31, ixN_32, Int.reduceLT, Int.reduceLE, Int.reduceNeg, upd_same, reduceCtorEq, false_and, exists_false, or_false, false_or, tNext, tIfS, tRet, tRetN, tDrop, tAsg, gName, tPar, tPar3, tAug, ipI, tVar, tC, tOp, tUn, tCB, tD, tDK, tCons, tNil, rI, rI0, rU, tB, tTest, tCallS, tErr, tAnd, tOr, tNot, tAndV, tOrV, tNotV, tIf, rEq, rNe, scal_ii, scal_bb, scal_ss, rGcd_eq, tBits, List.set_cons_zero, List.set_cons_succ, List.getElem?_cons_zero, List.getElem?_cons_succ, Option.some.injEq, exists_eq_left', V.int.injEq, V.bl.injEq, V.str.injEq, true_and, and_true, decide_eq_true_eq, List.cons.injEq, exists_eq_left, Bool.false_eq_true, if_false, if_true, ite_true, ite_false, Bool.not_eq_true', decide_eq_false_iff_not, Bool.not_not]
    refine ⟨⟨_, SqL.of hTB.at'⟩, fun Do nDo => ?_⟩
    refine lcW_list (xs := [.ref (rs 0), .ref (rs 1), .ref (rs 2), .ref (rs 3)]) (InvTb _ Do fun i => mkZ fun j => 0 - entZ (rowT T0 i) j) (InvTb.start nDo) (fun _ _ _ y => SqL.of (y.1 _ _ hTB.at')) (fun i x h5 hx z => ?_) (fun h5 z => ?_)
    · refine ⟨rfl, ?_⟩
      have hi : i < 4 := (List.getElem?_eq_some_iff.mp hx).1
      obtain rfl : x = .ref (rs i) := by
        rcases (show i = 0 ∨ i = 1 ∨ i = 2 ∨ i = 3 by omega) with rfl | rfl | rfl | rfl <;> exact (Option.some.inj hx).symm
      simp only [cxK, wipe, tYes, List.map_cons, List.map_nil, rIxL, rSum, tSl, rSlL, tNoPart, tPart, exists_and_left, and_assoc, V.ref.injEq, HO.lst.injEq, HO.tup.injEq, tFor_eq, iRng1, iRng2, iList, iTup, tLc_eq, tLst, tTup, gSub, rSetL, gT, gL, gTup, gCons, gNil, atI_0, atI_1, atI_2, atI_3, List.length_cons, List.length_nil, Nat.zero_add, Nat.reduceAdd, Nat.reduceLeDiff, ixN_30, ixN_31, ixN_32, Int.reduceLT, Int.reduceLE, Int.reduceNeg, upd_same, reduceCtorEq, false_and, exists_false, or_false, false_or, tSeq, tNext, tIfS, tRet, tRetN, tDrop, tAsg, gName, tPar, tPar3, tAug, ipI, tVar, tC, tOp, tUn, tCB, tD, tDK, tCons, tNil, rI, rI0, rU, tB, tTest, tCallS, tErr, tAnd, tOr, tNot, tAndV, tOrV, tNotV, tIf, rEq, rNe, scal_ii, scal_bb, scal_ss, rGcd_eq, tBits, List.set_cons_zero, List.set_cons_succ, List.getElem?_cons_zero, List.getElem?_cons_succ, Option.some.injEq, exists_eq_left', V.int.injEq, V.bl.injEq, V.str.injEq, true_and, and_true, decide_eq_true_eq, List.cons.injEq, exists_eq_left, Bool.false_eq_true, if_false, if_true, ite_true, ite_false, Bool.not_eq_true', decide_eq_false_iff_not, Bool.not_not]
      refine ⟨⟨_, SqL.of (z.1 _ _ (hTB.row i hi))⟩, fun D3 n3 => ?_⟩
      refine lcW_list (xs := cutV4 (rowT T0 i)) (InvTk h5 D3 (cutV4 (mkZ fun j => 0 - entZ (rowT T0 i) j))) ⟨Same.upd n3, upd_same⟩ (fun _ _ _ y => SqL.of (y.1 _ _ (z.1 _ _ (hTB.row i hi)))) (fun j x h6 hx y => ?_) (fun h6 y => ?_)
      · refine ⟨rfl, ?_⟩
        have hj : j < 4 := (List.getElem?_eq_some_iff.mp hx).1
        rw [cut_at hj] at hx
        obtain rfl := Option.some.inj hx
        simp only [cxK, wipe, tYes, List.map_cons, List.map_nil, rIxL, rSum, tSl, rSlL, tNoPart, tPart, exists_and_left, and_assoc, V.ref.injEq, HO.lst.injEq, HO.tup.injEq, tFor_eq, iRng1, iRng2, iList, iTup, tLc_eq, tLst, tTup, gSub, rSetL, gT, gL, gTup, gCons, gNil, atI_0, atI_1, atI_2, atI_3, List.length_cons, List.length_nil, Nat.zero_add, Nat.reduceAdd, Nat.reduceLeDiff, ixN_30, ixN_31, ixN_32, Int.reduceLT, Int.reduceLE, Int.reduceNeg, upd_same, reduceCtorEq, false_and, exists_false, or_false, false_or, tSeq, tNext, tIfS, tRet, tRetN, tDrop, tAsg, gName, tPar, tPar3, tAug, ipI, tVar, tC, tOp, tUn, tCB, tD, tDK, tCons, tNil, rI, rI0, rU, tB, tTest, tCallS, tErr, tAnd, tOr, tNot, tAndV, tOrV, tNotV, tIf, rEq, rNe, scal_ii, scal_bb, scal_ss, rGcd_eq, tBits, List.set_cons_zero, List.set_cons_succ, List.getElem?_cons_zero, List.getElem?_cons_succ, Option.some.injEq, exists_eq_left', V.int.injEq, V.bl.injEq, V.str.injEq, true_and, and_true, decide_eq_true_eq, List.cons.injEq, exists_eq_left, Bool.false_eq_true, if_false, if_true, ite_true, ite_false, Bool.not_eq_true', decide_eq_false_iff_not, Bool.not_not]
        refine ?_
        exact y.push n3 (Same.refl _) (by rw [cut_at hj, ent_mk hj]) (show 4 ≤ 1000 by decide)
      · exact z.push nDo hi y.1 n3 y.2
    obtain ⟨ops, no⟩ := z.done nDo
    have hTC := hTB.same no.same
    refine Eq.mpr (hC13 _ _) ?_
    refine seq_gen fun C14 hC14 => ?_
    simp only [cxK, wipe, tYes, List.map_cons, List.map_nil, rIxL, rSum, tSl, rSlL, tNoPart, tPart, exists_and_left, and_assoc, V.ref.injEq, HO.lst.injEq, HO.tup.injEq, tFor_eq, iRng1, iRng2, iList, iTup, tLc_eq, tLst, tTup, gSub, rSetL, gT, gL, gTup, gCons, gNil, atI_0, atI_1, atI_2, atI_3, List.length_cons, List.length_nil, Nat.zero_add, Nat.reduceAdd, Nat.reduceLeDiff, ixN_30, ixN_31, ixN_32, Int.reduceLT, Int.reduceLE, Int.reduceNeg, upd_same, reduceCtorEq, false_and, exists_false, or_false, false_or, tNext, tIfS, tRet, tRetN, tDrop, tAsg, gName, tPar, tPar3, tAug, ipI, tVar, tC, tOp, tUn, tCB, tD, tDK, tCons, tNil, rI, rI0, rU, tB, tTest, tCallS, tErr, tAnd, tOr, tNot, tAndV, tOrV, tNotV, tIf, rEq, rNe, scal_ii, scal_bb, scal_ss, rGcd_eq, tBits, List.set_cons_zero, List.set_cons_succ, List.getElem?_cons_zero, List.getElem?_cons_succ, Option.some.injEq, exists_eq_left', V.int.injEq, V.bl.injEq, V.str.injEq, true_and, and_true, decide_eq_true_eq, List.cons.injEq, exists_eq_left, Bool.false_eq_true, if_false, if_true, ite_true, ite_false, Bool.not_eq_true', decide_eq_false_iff_not, Bool.not_not]
    refine ⟨_, hTC.at', _, atI_1, rs 1, rfl, _, .inl (SqL.of (hTC.row 1 (by decide))), fun l0 nl0 => ?_⟩
    have s1 := Same.upd (o := .lst (cutV4 (rowT T0 1))) nl0
    have e1 : upd h5 l0 (.lst (cutV4 (rowT T0 1))) l0 = some (.lst (cutV4 (rowT T0 1))) := upd_same
    generalize upd h5 l0 (.lst (cutV4 (rowT T0 1))) = h6 at *
    have hT6 := hTC.same s1
    refine ⟨_, hT6.at', _, atI_0, rs 0, rfl, _, .inl (SqL.of (hT6.row 0 (by decide))), fun l1 nl1 => ⟨sml (by decide), fun p3 n3 => ?_⟩⟩
    have s2 := Same.upd (o := .lst (cutV4 (rowT T0 0))) nl1
    have e2 : upd h6 l1 (.lst (cutV4 (rowT T0 0))) l1 = some (.lst (cutV4 (rowT T0 0))) := upd_same
    have s3 := Same.upd (o := .lst [V.ref l0, V.ref l1]) n3
    have e3 : upd (upd h6 l1 (.lst (cutV4 (rowT T0 0)))) p3 (.lst [V.ref l0, V.ref l1]) p3 = some (.lst [V.ref l0, V.ref l1]) := upd_same
    have e1' := s3 _ _ (s2 _ _ e1)
    have e2' := s3 _ _ e2
    have s123 := (s1.trans s2).trans s3
    generalize upd (upd h6 l1 (.lst (cutV4 (rowT T0 0)))) p3 (.lst [V.ref l0, V.ref l1]) = h7 at *
    have hT7 := hTC.same s123
    refine ⟨_, SqL.of hT7.at', fun p4 n4 => ?_⟩
    rw [show cutV [V.ref (rs 0), V.ref (rs 1), V.ref (rs 2), V.ref (rs 3)] (some 2) none = [V.ref (rs 2), V.ref (rs 3)] from rfl]
    have s4 := Same.upd (o := .lst [V.ref (rs 2), V.ref (rs 3)]) n4
    have e4 : upd h7 p4 (.lst [V.ref (rs 2), V.ref (rs 3)]) p4 = some (.lst [V.ref (rs 2), V.ref (rs 3)]) := upd_same
    have e3' := s4 _ _ e3
    have e1'' := s4 _ _ e1'
    have e2'' := s4 _ _ e2'
    have hT8 := hT7.same s4
    have s1234 := s123.trans s4
    generalize upd h7 p4 (.lst [V.ref (rs 2), V.ref (rs 3)]) = h8 at *
    refine ⟨⟨_, SqL.of e4⟩, fun D2 nD2 => ?_⟩
    refine lcW_list (xs := [V.ref (rs 2), V.ref (rs 3)]) (InvTb h8 D2 fun j => rowT T0 (j + 2)) (InvTb.start nD2) (fun _ _ _ y => SqL.of (y.1 _ _ e4)) (fun i x h4 hx z => ?_) (fun h9 z => ?_)
    · refine ⟨rfl, ?_⟩
      have hi : i < 2 := (List.getElem?_eq_some_iff.mp hx).1
      obtain rfl : x = .ref (rs (i + 2)) := by
        rcases (show i = 0 ∨ i = 1 by omega) with rfl | rfl <;> exact (Option.some.inj hx).symm
      simp only [cxK, wipe, tYes, List.map_cons, List.map_nil, rIxL, rSum, tSl, rSlL, tNoPart, tPart, exists_and_left, and_assoc, V.ref.injEq, HO.lst.injEq, HO.tup.injEq, tFor_eq, iRng1, iRng2, iList, iTup, tLc_eq, tLst, tTup, gSub, rSetL, gT, gL, gTup, gCons, gNil, atI_0, atI_1, atI_2, atI_3, List.length_cons, List.length_nil, Nat.zero_add, Nat.reduceAdd, Nat.reduceLeDiff, ixN_30, ixN_31, ixN_32, Int.reduceLT, Int.reduceLE, Int.reduceNeg, upd_same, reduceCtorEq, false_and, exists_false, or_false, false_or, tSeq, tNext, tIfS, tRet, tRetN, tDrop, tAsg, gName, tPar, tPar3, tAug, ipI, tVar, tC, tOp, tUn, tCB, tD, tDK, tCons, tNil, rI, rI0, rU, tB, tTest, tCallS, tErr, tAnd, tOr, tNot, tAndV, tOrV, tNotV, tIf, rEq, rNe, scal_ii, scal_bb, scal_ss, rGcd_eq, tBits, List.set_cons_zero, List.set_cons_succ, List.getElem?_cons_zero, List.getElem?_cons_succ, Option.some.injEq, exists_eq_left', V.int.injEq, V.bl.injEq, V.str.injEq, true_and, and_true, decide_eq_true_eq, List.cons.injEq, exists_eq_left, Bool.false_eq_true, if_false, if_true, ite_true, ite_false, Bool.not_eq_true', decide_eq_false_iff_not, Bool.not_not]
      exact ⟨_, .inl (SqL.of (z.1 _ _ (hT8.row (i + 2) (by omega)))), fun l nl => z.push nD2 (by omega) (Same.upd nl) nl upd_same⟩
    obtain ⟨s5, us', u1, u2', _⟩ : InvTb h8 D2 (fun j => rowT T0 (j + 2)) 2 h9 := z
    refine ⟨p3, D2, _, _, rfl, rfl, s5 _ _ e3', u1, sml (show 4 ≤ 1000 by decide), fun py ny => ?_⟩
    have sy := Same.upd (o := .lst ([V.ref l0, V.ref l1] ++ (List.range 2).map fun j => V.ref (us' j))) ny
    have ttn : TabAt (upd h9 py (.lst ([V.ref l0, V.ref l1] ++ (List.range 2).map fun j => V.ref (us' j)))) py (mkT fun k => if k = 0 then rowT T0 1 else if k = 1 then rowT T0 0 else rowT T0 k) (fun4 l0 l1 (us' 0) (us' 1)) := by
      refine ⟨upd_same, fun k hk => ?_⟩
      rw [row_mk hk]
      rcases (show k = 0 ∨ k = 1 ∨ k = 2 ∨ k = 3 by omega) with rfl | rfl | rfl | rfl
      · exact sy _ _ (s5 _ _ e1'')
      · exact sy _ _ (s5 _ _ e2'')
      · exact sy _ _ (u2' 0 (by decide)).2.1
      · exact sy _ _ (u2' 1 (by decide)).2.1
    have ztn : TSz 60 (mkT fun k => if k = 0 then rowT T0 1 else if k = 1 then rowT T0 0 else rowT T0 k) := mkT_sz fun k hk => by
      split
      · exact zT 1 (by decide)
      · split
        · exact zT 0 (by decide)
        · exact zT k hk
    have sB := (s1234.trans s5).trans sy
    generalize upd h9 py (.lst ([V.ref l0, V.ref l1] ++ (List.range 2).map fun j => V.ref (us' j))) = hB' at *
    have hTD := hTC.same sB
    clear s1 s2 s3 s123 s4 s1234 s5 sy e1 e2 e3 e1' e2' e3' e1'' e2'' e4 u1 u2' hT6 hT7 hT8
    refine Eq.mpr (hC14 _ _) ?_
    refine seq_gen fun C15 hC15 => ?_
    simp only [cxK, wipe, tYes, List.map_cons, List.map_nil, rIxL, rSum, tSl, rSlL, tNoPart, tPart, exists_and_left, and_assoc, V.ref.injEq, HO.lst.injEq, HO.tup.injEq, tFor_eq, iRng1, iRng2, iList, iTup, tLc_eq, tLst, tTup, gSub, rSetL, gT, gL, gTup, gCons, gNil, atI_0, atI_1, atI_2, atI_3, List.length_cons, List.length_nil, Nat.zero_add, Nat.reduceAdd, Nat.reduceLeDiff, ixN_30, ixN_31, ixN_32, Int.reduceLT, Int.reduceLE, Int.reduceNeg, upd_same, reduceCtorEq, false_and, exists_false, or_false, false_or, tNext, tIfS, tRet, tRetN, tDrop, tAsg, gName, tPar, tPar3, tAug, ipI, tVar, tC, tOp, tUn, tCB, tD, tDK, tCons, tNil, rI, rI0, rU, tB, tTest, tCallS, tErr, tAnd, tOr, tNot, tAndV, tOrV, tNotV, tIf, rEq, rNe, scal_ii, scal_bb, scal_ss, rGcd_eq, tBits, List.set_cons_zero, List.set_cons_succ, List.getElem?_cons_zero, List.getElem?_cons_succ, Option.some.injEq, exists_eq_left', V.int.injEq, V.bl.injEq, V.str.injEq, true_and, and_true, decide_eq_true_eq, List.cons.injEq, exists_eq_left, Bool.false_eq_true, if_false, if_true, ite_true, ite_false, Bool.not_eq_true', decide_eq_false_iff_not, Bool.not_not]
    refine ⟨by decide, by decide, fun Dn nDn => ?_⟩
    refine lcW_range (InvTb hB' Dn fun _ => (0, 0, 0, 0)) (InvTb.start nDn) (fun i h6 hi z => ?_) (fun h6 z => ?_)
    · refine ⟨rfl, ?_⟩
      have hi4 : i < 4 := hi
      simp only [cxK, wipe, tYes, List.map_cons, List.map_nil, rIxL, rSum, tSl, rSlL, tNoPart, tPart, exists_and_left, and_assoc, V.ref.injEq, HO.lst.injEq, HO.tup.injEq, tFor_eq, iRng1, iRng2, iList, iTup, tLc_eq, tLst, tTup, gSub, rSetL, gT, gL, gTup, gCons, gNil, atI_0, atI_1, atI_2, atI_3, List.length_cons, List.length_nil, Nat.zero_add, Nat.reduceAdd, Nat.reduceLeDiff, ixN_30, ixN_31, ixN_32, Int.reduceLT, Int.reduceLE, Int.reduceNeg, upd_same, reduceCtorEq, false_and, exists_false, or_false, false_or, tSeq, tNext, tIfS, tRet, tRetN, tDrop, tAsg, gName, tPar, tPar3, tAug, ipI, tVar, tC, tOp, tUn, tCB, tD, tDK, tCons, tNil, rI, rI0, rU, tB, tTest, tCallS, tErr, tAnd, tOr, tNot, tAndV, tOrV, tNotV, tIf, rEq, rNe, scal_ii, scal_bb, scal_ss, rGcd_eq, tBits, List.set_cons_zero, List.set_cons_succ, List.getElem?_cons_zero, List.getElem?_cons_succ, Option.some.injEq, exists_eq_left', V.int.injEq, V.bl.injEq, V.str.injEq, true_and, and_true, decide_eq_true_eq, List.cons.injEq, exists_eq_left, Bool.false_eq_true, if_false, if_true, ite_true, ite_false, Bool.not_eq_true', decide_eq_false_iff_not, Bool.not_not]
      refine ⟨sml (by decide), fun q1 m1 => ⟨q1, 4, [.int 0], rfl, rfl, upd_same, by decide, by decide, sml (show 4 ≤ 1000 by decide), fun q2 m2 => ?_⟩⟩
      exact z.push nDn hi4 ((Same.upd m1).trans (Same.upd m2)) ((Same.upd m1).free m2) (upd_same.trans rfl)
    obtain ⟨nbs, nn⟩ := z.done nDn
    have hTE := hTD.same nn.same
    refine Eq.mpr (hC15 _ _) ?_
    refine seq_gen fun C16 hC16 => ?_
    simp only [cxK, wipe, tYes, List.map_cons, List.map_nil, rIxL, rSum, tSl, rSlL, tNoPart, tPart, exists_and_left, and_assoc, V.ref.injEq, HO.lst.injEq, HO.tup.injEq, tFor_eq, iRng1, iRng2, iList, iTup, tLc_eq, tLst, tTup, gSub, rSetL, gT, gL, gTup, gCons, gNil, atI_0, atI_1, atI_2, atI_3, List.length_cons, List.length_nil, Nat.zero_add, Nat.reduceAdd, Nat.reduceLeDiff, ixN_30, ixN_31, ixN_32, Int.reduceLT, Int.reduceLE, Int.reduceNeg, upd_same, reduceCtorEq, false_and, exists_false, or_false, false_or, tNext, tIfS, tRet, tRetN, tDrop, tAsg, gName, tPar, tPar3, tAug, ipI, tVar, tC, tOp, tUn, tCB, tD, tDK, tCons, tNil, rI, rI0, rU, tB, tTest, tCallS, tErr, tAnd, tOr, tNot, tAndV, tOrV, tNotV, tIf, rEq, rNe, scal_ii, scal_bb, scal_ss, rGcd_eq, tBits, List.set_cons_zero, List.set_cons_succ, List.getElem?_cons_zero, List.getElem?_cons_succ, Option.some.injEq, exists_eq_left', V.int.injEq, V.bl.injEq, V.str.injEq, true_and, and_true, decide_eq_true_eq, List.cons.injEq, exists_eq_left, Bool.false_eq_true, if_false, if_true, ite_true, ite_false, Bool.not_eq_true', decide_eq_false_iff_not, Bool.not_not]
    refine ⟨ta, T0, rs, rfl, hTE, fun cc cs h7 nc => ⟨sml (by decide), fun pl npl => ?_⟩⟩
    have sl := Same.upd (o := .lst [V.ref ta, V.ref to, V.ref Db, V.ref Dr, V.ref px, V.ref Dd, V.ref Do, V.ref py, V.ref cc, V.ref Dn]) npl
    have el : upd h7 pl (.lst [V.ref ta, V.ref to, V.ref Db, V.ref Dr, V.ref px, V.ref Dd, V.ref Do, V.ref py, V.ref cc, V.ref Dn]) pl = some (.lst [V.ref ta, V.ref to, V.ref Db, V.ref Dr, V.ref px, V.ref Dd, V.ref Do, V.ref py, V.ref cc, V.ref Dn]) := upd_same
    have s78 := nc.same.trans sl
    have tcc := nc.tab.same sl
    generalize upd h7 pl (.lst [V.ref ta, V.ref to, V.ref Db, V.ref Dr, V.ref px, V.ref Dd, V.ref Do, V.ref py, V.ref cc, V.ref Dn]) = h8 at *
    have S4 := nn.same.trans s78
    have S3 := sB.trans S4
    have S2 := no.same.trans S3
    have S1 := nd.same.trans S2
    have S0 := sA.trans S1
    have z1 : TSz 100 T0 := zT.up (by decide)
    have zdd : TSz 100 (mkT fun i => mkZ fun j => 2 * entZ (rowT T0 i) j) := mkT_sz fun i hi => mkZ_sz fun j _ => by
      have := ent_sz (zT i hi) j
      omega
    have zop : TSz 100 (mkT fun i => mkZ fun j => 0 - entZ (rowT T0 i) j) := mkT_sz fun i hi => mkZ_sz fun j _ => by
      have := ent_sz (zT i hi) j
      omega
    have hT8 : TabAt h8 ta T0 rs := hTE.same s78
    have hb8 : TabAt h8 Db BT bs := tb20.same S0
    have hd8 : TabAt h8 Dr (mkT f) ds := tdr.same S0
    have ep8 := S0 _ _ ep20
    have K8 : Keep g H h8 := K020.trans (Keep.of S0)
    obtain ⟨L, hL⟩ : ∃ L : List TItm, L = [⟨ta, T0, rs⟩, ⟨to, O, os⟩, ⟨Db, BT, bs⟩, ⟨Dr, mkT f, ds⟩, ⟨px, mkT fun k => if k = 0 then rowT T0 li else rowT T0 k, fun4 l (us 0) (us 1) (us 2)⟩, ⟨Dd, mkT fun i => mkZ fun j => 2 * entZ (rowT T0 i) j, dbs⟩, ⟨Do, mkT fun i => mkZ fun j => 0 - entZ (rowT T0 i) j, ops⟩, ⟨py, mkT fun k => if k = 0 then rowT T0 1 else if k = 1 then rowT T0 0 else rowT T0 k, fun4 l0 l1 (us' 0) (us' 1)⟩, ⟨cc, colsT T0, cs⟩, ⟨Dn, mkT fun _ => (0, 0, 0, 0), nbs⟩] := ⟨_, rfl⟩
    have ok : TabsOk h8 L := by
      intro t ht
      rw [hL] at ht
      simp only [List.mem_cons, List.not_mem_nil, or_false] at ht
      rcases ht with rfl | rfl | rfl | rfl | rfl | rfl | rfl | rfl | rfl | rfl
      · exact ⟨hT8, z1⟩
      · exact ⟨hO20.same S0, zO.up (by decide)⟩
      · exact ⟨hb8, zBT.up (by decide)⟩
      · exact ⟨hd8, zdr.up (by decide)⟩
      · exact ⟨ttw.same S1, ztw.up (by decide)⟩
      · exact ⟨nd.tab.same S2, zdd⟩
      · exact ⟨no.tab.same S3, zop⟩
      · exact ⟨ttn.same S4, ztn.up (by decide)⟩
      · exact ⟨tcc, mkT_sz fun i _ => col_sz z1 i⟩
      · exact ⟨nn.tab.same s78, mkT_sz fun i _ => ⟨by decide, by decide, by decide, by decide⟩⟩
    clear hTA hTB hTC hTD hTE hO20 ep20 tb20 tdr K020 S0 S1 S2 S3 S4 s78 tcc sl nn sB no nd sA nc ttw ttn
    refine ⟨⟨_, SqL.of el⟩, ?_⟩
    refine forW_list (xs := [V.ref ta, V.ref to, V.ref Db, V.ref Dr, V.ref px, V.ref Dd, V.ref Do, V.ref py, V.ref cc, V.ref Dn]) (InvOne [some (.ref g), some (.ref ta), some (.ref pm), t3, some (.ref to), some (.ref p), some (.int li), some (.int hj), some (.ref Db), some (.ref Dr), some (.ref px), some (.ref Dd), some (.ref Do), some (.ref py), some (.ref Dn)] [none, none, none, none, none, none] h8) ⟨none, rfl, Same.refl _⟩ (fun _ _ _ _ z => ?_) (fun i v σ' h9 hv z => ?_) (fun σ' h9 z => ?_)
    · obtain ⟨_, _, s⟩ := z
      exact SqL.of (s _ _ el)
    · obtain ⟨t, rfl, s9⟩ := z
      obtain ⟨x, hx, rfl⟩ : ∃ x : TItm, (TabAt h8 x.a x.T x.rs ∧ TSz 100 x.T) ∧ v = .ref x.a := by
        have hm : v ∈ L.map (fun m => V.ref m.a) := by rw [hL]; exact List.mem_of_getElem? hv
        obtain ⟨x, hx, e⟩ := List.mem_map.mp hm
        exact ⟨x, ok x hx, e.symm⟩
      have hx9 := hx.1.same s9
      have zx := hx.2
      simp only [cxK, wipe, tYes, List.map_cons, List.map_nil, rIxL, rSum, tSl, rSlL, tNoPart, tPart, exists_and_left, and_assoc, V.ref.injEq, HO.lst.injEq, HO.tup.injEq, tFor_eq, iRng1, iRng2, iList, iTup, tLc_eq, tLst, tTup, gSub, rSetL, gT, gL, gTup, gCons, gNil, atI_0, atI_1, atI_2, atI_3, List.length_cons, List.length_nil, Nat.zero_add, Nat.reduceAdd, Nat.reduceLeDiff, ixN_30, ixN_31, ixN_32, Int.reduceLT, Int.reduceLE, Int.reduceNeg, upd_same, reduceCtorEq, false_and, exists_false, or_false, false_or, tNext, tIfS, tRet, tRetN, tDrop, tAsg, gName, tPar, tPar3, tAug, ipI, tVar, tC, tOp, tUn, tCB, tD, tDK, tCons, tNil, rI, rI0, rU, tB, tTest, tCallS, tErr, tAnd, tOr, tNot, tAndV, tOrV, tNotV, tIf, rEq, rNe, scal_ii, scal_bb, scal_ss, rGcd_eq, tBits, List.set_cons_zero, List.set_cons_succ, List.getElem?_cons_zero, List.getElem?_cons_succ, Option.some.injEq, exists_eq_left', V.int.injEq, V.bl.injEq, V.str.injEq, true_and, and_true, decide_eq_true_eq, List.cons.injEq, exists_eq_left, Bool.false_eq_true, if_false, if_true, ite_true, ite_false, Bool.not_eq_true', decide_eq_false_iff_not, Bool.not_not, List.cons_append, List.nil_append]
      refine seq_gen fun C17 hC17 => ?_
      simp only [cxK, wipe, tYes, List.map_cons, List.map_nil, rIxL, rSum, tSl, rSlL, tNoPart, tPart, exists_and_left, and_assoc, V.ref.injEq, HO.lst.injEq, HO.tup.injEq, tFor_eq, iRng1, iRng2, iList, iTup, tLc_eq, tLst, tTup, gSub, rSetL, gT, gL, gTup, gCons, gNil, atI_0, atI_1, atI_2, atI_3, List.length_cons, List.length_nil, Nat.zero_add, Nat.reduceAdd, Nat.reduceLeDiff, ixN_30, ixN_31, ixN_32, Int.reduceLT, Int.reduceLE, Int.reduceNeg, upd_same, reduceCtorEq, false_and, exists_false, or_false, false_or, tNext, tIfS, tRet, tRetN, tDrop, tAsg, gName, tPar, tPar3, tAug, ipI, tVar, tC, tOp, tUn, tCB, tD, tDK, tCons, tNil, rI, rI0, rU, tB, tTest, tCallS, tErr, tAnd, tOr, tNot, tAndV, tOrV, tNotV, tIf, rEq, rNe, scal_ii, scal_bb, scal_ss, rGcd_eq, tBits, List.set_cons_zero, List.set_cons_succ, List.getElem?_cons_zero, List.getElem?_cons_succ, Option.some.injEq, exists_eq_left', V.int.injEq, V.bl.injEq, V.str.injEq, true_and, and_true, decide_eq_true_eq, List.cons.injEq, exists_eq_left, Bool.false_eq_true, if_false, if_true, ite_true, ite_false, Bool.not_eq_true', decide_eq_false_iff_not, Bool.not_not]
      refine ⟨_, _, _, rfl, hx9, zx.up (by decide), fun h10 s10 => ⟨true, rfl, ?_⟩⟩
      rw [if_neg (by decide)]
      refine Eq.mpr (hC17 _ _) ?_
      simp only [cxK, wipe, tYes, List.map_cons, List.map_nil, rIxL, rSum, tSl, rSlL, tNoPart, tPart, exists_and_left, and_assoc, V.ref.injEq, HO.lst.injEq, HO.tup.injEq, tFor_eq, iRng1, iRng2, iList, iTup, tLc_eq, tLst, tTup, gSub, rSetL, gT, gL, gTup, gCons, gNil, atI_0, atI_1, atI_2, atI_3, List.length_cons, List.length_nil, Nat.zero_add, Nat.reduceAdd, Nat.reduceLeDiff, ixN_30, ixN_31, ixN_32, Int.reduceLT, Int.reduceLE, Int.reduceNeg, upd_same, reduceCtorEq, false_and, exists_false, or_false, false_or, tSeq, tNext, tIfS, tRet, tRetN, tDrop, tAsg, gName, tPar, tPar3, tAug, ipI, tVar, tC, tOp, tUn, tCB, tD, tDK, tCons, tNil, rI, rI0, rU, tB, tTest, tCallS, tErr, tAnd, tOr, tNot, tAndV, tOrV, tNotV, tIf, rEq, rNe, scal_ii, scal_bb, scal_ss, rGcd_eq, tBits, List.set_cons_zero, List.set_cons_succ, List.getElem?_cons_zero, List.getElem?_cons_succ, Option.some.injEq, exists_eq_left', V.int.injEq, V.bl.injEq, V.str.injEq, true_and, and_true, decide_eq_true_eq, List.cons.injEq, exists_eq_left, Bool.false_eq_true, if_false, if_true, ite_true, ite_false, Bool.not_eq_true', decide_eq_false_iff_not, Bool.not_not]
      have s910 := s9.trans s10
      have hx10 := hx9.same s10
      refine ⟨_, p, _, _, _, rfl, hx10, s910 _ _ ep8, zx.up (by decide), zt.up (by decide), fun b1 h11 m1 s11 e11 => ?_⟩
      refine ⟨_, p, _, _, _, rfl, hx10.same s11, s11 _ _ (s910 _ _ ep8), zx.up (by decide), zt.up (by decide), fun b2 h12 m2 s12 e12 => ?_⟩
      refine ne_path (s12 _ _ e11) e12 rfl ⟨false, rfl, ?_⟩
      rw [if_neg (by decide)]
      have s13 := (s910.trans s11).trans s12
      refine ⟨_, Db, _, BT, _, bs, rfl, hx.1.same s13, hb8.same s13, zx.up (by decide), zBT.up (by decide), fun b3 r3 h13 n13 => ?_⟩
      have s14 := s13.trans n13.same
      refine ⟨_, Db, _, BT, _, bs, rfl, hx.1.same s14, hb8.same s14, zx.up (by decide), zBT.up (by decide), fun b4 r4 h14 n14 => ?_⟩
      refine ne_data (dp_tab (n13.tab.same n14.same)) (dp_tab n14.tab) (shaped_tab _) ⟨false, rfl, ?_⟩
      rw [if_neg (by decide)]
      have s15 := s14.trans n14.same
      refine ⟨Dr, _, mkT f, _, ds, _, rfl, hd8.same s15, hx.1.same s15, zdr.up (by decide), zx.up (by decide), fun b5 r5 h15 n15 => ?_⟩
      have s16 := s15.trans n15.same
      refine ⟨Dr, _, mkT f, _, ds, _, rfl, hd8.same s16, hx.1.same s16, zdr.up (by decide), zx.up (by decide), fun b6 r6 h16 n16 => ?_⟩
      refine ne_data (dp_tab (n15.tab.same n16.same)) (dp_tab n16.tab) (shaped_tab _) ⟨false, rfl, ?_⟩
      rw [if_neg (by decide)]
      exact ⟨_, rfl, s16.trans n16.same⟩
    obtain ⟨t9, rfl, s9⟩ := z
    refine Eq.mpr (hC16 _ _) ?_
    simp only [cxK, wipe, tYes, List.map_cons, List.map_nil, rIxL, rSum, tSl, rSlL, tNoPart, tPart, exists_and_left, and_assoc, V.ref.injEq, HO.lst.injEq, HO.tup.injEq, tFor_eq, iRng1, iRng2, iList, iTup, tLc_eq, tLst, tTup, gSub, rSetL, gT, gL, gTup, gCons, gNil, atI_0, atI_1, atI_2, atI_3, List.length_cons, List.length_nil, Nat.zero_add, Nat.reduceAdd, Nat.reduceLeDiff, ixN_30, ixN_31, ixN_32, Int.reduceLT, Int.reduceLE, Int.reduceNeg, upd_same, reduceCtorEq, false_and, exists_false, or_false, false_or, tNext, tIfS, tRet, tRetN, tDrop, tAsg, gName, tPar, tPar3, tAug, ipI, tVar, tC, tOp, tUn, tCB, tD, tDK, tCons, tNil, rI, rI0, rU, tB, tTest, tCallS, tErr, tAnd, tOr, tNot, tAndV, tOrV, tNotV, tIf, rEq, rNe, scal_ii, scal_bb, scal_ss, rGcd_eq, tBits, List.set_cons_zero, List.set_cons_succ, List.getElem?_cons_zero, List.getElem?_cons_succ, Option.some.injEq, exists_eq_left', V.int.injEq, V.bl.injEq, V.str.injEq, true_and, and_true, decide_eq_true_eq, List.cons.injEq, exists_eq_left, Bool.false_eq_true, if_false, if_true, ite_true, ite_false, Bool.not_eq_true', decide_eq_false_iff_not, Bool.not_not, List.cons_append, List.nil_append]
    refine seq_gen fun C17 hC17 => ?_
    simp only [cxK, wipe, tYes, List.map_cons, List.map_nil, rIxL, rSum, tSl, rSlL, tNoPart, tPart, exists_and_left, and_assoc, V.ref.injEq, HO.lst.injEq, HO.tup.injEq, tFor_eq, iRng1, iRng2, iList, iTup, tLc_eq, tLst, tTup, gSub, rSetL, gT, gL, gTup, gCons, gNil, atI_0, atI_1, atI_2, atI_3, List.length_cons, List.length_nil, Nat.zero_add, Nat.reduceAdd, Nat.reduceLeDiff, ixN_30, ixN_31, ixN_32, Int.reduceLT, Int.reduceLE, Int.reduceNeg, upd_same, reduceCtorEq, false_and, exists_false, or_false, false_or, tNext, tIfS, tRet, tRetN, tDrop, tAsg, gName, tPar, tPar3, tAug, ipI, tVar, tC, tOp, tUn, tCB, tD, tDK, tCons, tNil, rI, rI0, rU, tB, tTest, tCallS, tErr, tAnd, tOr, tNot, tAndV, tOrV, tNotV, tIf, rEq, rNe, scal_ii, scal_bb, scal_ss, rGcd_eq, tBits, List.set_cons_zero, List.set_cons_succ, List.getElem?_cons_zero, List.getElem?_cons_succ, Option.some.injEq, exists_eq_left', V.int.injEq, V.bl.injEq, V.str.injEq, true_and, and_true, decide_eq_true_eq, List.cons.injEq, exists_eq_left, Bool.false_eq_true, if_false, if_true, ite_true, ite_false, Bool.not_eq_true', decide_eq_false_iff_not, Bool.not_not]
    have z60u : TSz 60 unitT := (TB.one.sz (by decide))
    refine ⟨rfl, fun i1 o1 h10 n10 => ⟨i1, p, unitT, o1, t, rfl, n10.tab, (s9.trans n10.same) _ _ ep8, z60u.up (by decide), zt.up (by decide), fun b1 h11 m1 s11 e11 => ?_⟩⟩
    have s911 := (s9.trans n10.same).trans s11
    refine ⟨rfl, fun i2 o2 h12 n12 => ⟨i2, ta, unitT, T0, o2, rs, rfl, n12.tab, hT8.same (s911.trans n12.same), z60u.up (by decide), zT.up (by decide), fun b2 r2 h13 n13 => ?_⟩⟩
    have s913 := (s911.trans n12.same).trans n13.same
    refine ⟨rfl, fun i3 o3 h14 n14 => ⟨ta, i3, T0, unitT, rs, o3, rfl, hT8.same (s913.trans n14.same), n14.tab, zT.up (by decide), z60u.up (by decide), fun b3 r3 h15 n15 => ⟨sml (by decide), fun pt npt => ?_⟩⟩⟩
    have s915 := (s913.trans n14.same).trans n15.same
    have spt := Same.upd (o := .lst [V.ref b1, V.ref b2, V.ref b3]) npt
    have ept : upd h15 pt (.lst [V.ref b1, V.ref b2, V.ref b3]) pt = some (.lst [V.ref b1, V.ref b2, V.ref b3]) := upd_same
    have s916 := s915.trans spt
    have eb1 := spt _ _ (n15.same _ _ (n14.same _ _ (n13.same _ _ (n12.same _ _ e11))))
    have tb2 : TabAt _ b2 _ r2 := ((n13.tab.same n14.same).same n15.same).same spt
    have tb3 : TabAt _ b3 _ r3 := n15.tab.same spt
    have nb1 : h8 b1 = none := (s9.trans n10.same).free m1
    have nb2 : ∀ k, k < 4 → h8 (r2 k) = none := fun k hk => (s911.trans n12.same).free (n13.nr k hk)
    have nb2a : h8 b2 = none := (s911.trans n12.same).free n13.na
    have nb3 : ∀ k, k < 4 → h8 (r3 k) = none := fun k hk => (s913.trans n14.same).free (n15.nr k hk)
    have nb3a : h8 b3 = none := (s913.trans n14.same).free n15.na
    generalize upd h15 pt (.lst [V.ref b1, V.ref b2, V.ref b3]) = h16 at *
    have hT16 := hT8.same s916
    have ep16 := s916 _ _ ep8
    refine Eq.mpr (hC17 _ _) ?_
    refine seq_gen fun C18 hC18 => ?_
    simp only [cxK, wipe, tYes, List.map_cons, List.map_nil, rIxL, rSum, tSl, rSlL, tNoPart, tPart, exists_and_left, and_assoc, V.ref.injEq, HO.lst.injEq, HO.tup.injEq, tFor_eq, iRng1, iRng2, iList, iTup, tLc_eq, tLst, tTup, gSub, rSetL, gT, gL, gTup, gCons, gNil, atI_0, atI_1, atI_2, atI_3, List.length_cons, List.length_nil, Nat.zero_add, Nat.reduceAdd, Nat.reduceLeDiff, ixN_30, ixN_31, ixN_32, Int.reduceLT, Int.reduceLE, Int.reduceNeg, upd_same, reduceCtorEq, false_and, exists_false, or_false, false_or, tNext, tIfS, tRet, tRetN, tDrop, tAsg, gName, tPar, tPar3, tAug, ipI, tVar, tC, tOp, tUn, tCB, tD, tDK, tCons, tNil, rI, rI0, rU, tB, tTest, tCallS, tErr, tAnd, tOr, tNot, tAndV, tOrV, tNotV, tIf, rEq, rNe, scal_ii, scal_bb, scal_ss, rGcd_eq, tBits, List.set_cons_zero, List.set_cons_succ, List.getElem?_cons_zero, List.getElem?_cons_succ, Option.some.injEq, exists_eq_left', V.int.injEq, V.bl.injEq, V.str.injEq, true_and, and_true, decide_eq_true_eq, List.cons.injEq, exists_eq_left, Bool.false_eq_true, if_false, if_true, ite_true, ite_false, Bool.not_eq_true', decide_eq_false_iff_not, Bool.not_not]
    refine ⟨sml (by decide), fun pk npk => ⟨_, rp_pt upd_same ((Same.upd npk) _ _ ep16) (hT16.same (Same.upd npk)) (zt.up (show 80 ≤ 100 by decide)) z1 (by decide), ?_⟩⟩
    have spk := Same.upd (o := .lst [V.ref p, V.ref ta]) npk
    have s817 := s916.trans spk
    have ept17 := spk _ _ ept
    have eb117 := spk _ _ eb1
    have tb217 := tb2.same spk
    have tb317 := tb3.same spk
    generalize upd h16 pk (.lst [V.ref p, V.ref ta]) = h17 at *
    refine Eq.mpr (hC18 _ _) ?_
    refine seq_gen fun C19 hC19 => ?_
    simp only [cxK, wipe, tYes, List.map_cons, List.map_nil, rIxL, rSum, tSl, rSlL, tNoPart, tPart, exists_and_left, and_assoc, V.ref.injEq, HO.lst.injEq, HO.tup.injEq, tFor_eq, iRng1, iRng2, iList, iTup, tLc_eq, tLst, tTup, gSub, rSetL, gT, gL, gTup, gCons, gNil, atI_0, atI_1, atI_2, atI_3, List.length_cons, List.length_nil, Nat.zero_add, Nat.reduceAdd, Nat.reduceLeDiff, ixN_30, ixN_31, ixN_32, Int.reduceLT, Int.reduceLE, Int.reduceNeg, upd_same, reduceCtorEq, false_and, exists_false, or_false, false_or, tNext, tIfS, tRet, tRetN, tDrop, tAsg, gName, tPar, tPar3, tAug, ipI, tVar, tC, tOp, tUn, tCB, tD, tDK, tCons, tNil, rI, rI0, rU, tB, tTest, tCallS, tErr, tAnd, tOr, tNot, tAndV, tOrV, tNotV, tIf, rEq, rNe, scal_ii, scal_bb, scal_ss, rGcd_eq, tBits, List.set_cons_zero, List.set_cons_succ, List.getElem?_cons_zero, List.getElem?_cons_succ, Option.some.injEq, exists_eq_left', V.int.injEq, V.bl.injEq, V.str.injEq, true_and, and_true, decide_eq_true_eq, List.cons.injEq, exists_eq_left, Bool.false_eq_true, if_false, if_true, ite_true, ite_false, Bool.not_eq_true', decide_eq_false_iff_not, Bool.not_not]
    refine ⟨_, ept17, _, atI_1, ?_⟩
    refine ⟨pt, b2, _, _, rfl, rfl, ept17, tb217.at', sml (show 7 ≤ 1000 by decide), fun pa npa => ?_⟩
    have spa := Same.upd (o := .lst ([V.ref b1, V.ref b2, V.ref b3] ++ [V.ref (r2 0), V.ref (r2 1), V.ref (r2 2), V.ref (r2 3)])) npa
    have epa : upd h17 pa (.lst ([V.ref b1, V.ref b2, V.ref b3] ++ [V.ref (r2 0), V.ref (r2 1), V.ref (r2 2), V.ref (r2 3)])) pa = some (.lst ([V.ref b1, V.ref b2, V.ref b3] ++ [V.ref (r2 0), V.ref (r2 1), V.ref (r2 2), V.ref (r2 3)])) := upd_same
    have s818 := s817.trans spa
    have ept18 := spa _ _ ept17
    have eb118 := spa _ _ eb117
    have tb218 := tb217.same spa
    have tb318 := tb317.same spa
    generalize upd h17 pa (.lst ([V.ref b1, V.ref b2, V.ref b3] ++ [V.ref (r2 0), V.ref (r2 1), V.ref (r2 2), V.ref (r2 3)])) = h18 at *
    refine ⟨_, ept18, _, atI_2, ?_⟩
    refine ⟨pa, b3, _, _, rfl, rfl, epa, tb318.at', sml (show 11 ≤ 1000 by decide), fun pz npz => ?_⟩
    obtain ⟨S, hS⟩ : ∃ S : List Addr, S = [b1, b2, b3, r2 0, r2 1, r2 2, r2 3, r3 0, r3 1, r3 2, r3 3] := ⟨_, rfl⟩
    rw [show ([V.ref b1, V.ref b2, V.ref b3] ++ [V.ref (r2 0), V.ref (r2 1), V.ref (r2 2), V.ref (r2 3)]) ++ [V.ref (r3 0), V.ref (r3 1), V.ref (r3 2), V.ref (r3 3)] = S.map V.ref by rw [hS]; rfl]
    have spz := Same.upd (o := .lst (S.map V.ref)) npz
    have epz : upd h18 pz (.lst (S.map V.ref)) pz = some (.lst (S.map V.ref)) := upd_same
    have hls : ∀ b ∈ S, ∃ ys : List V, h18 b = some (.lst ys) ∧ ys.length ≤ 4 + 0 := by
      intro b hb
      rw [hS] at hb
      simp only [List.mem_cons, List.not_mem_nil, or_false] at hb
      rcases hb with rfl | rfl | rfl | rfl | rfl | rfl | rfl | rfl | rfl | rfl | rfl
      · exact ⟨_, eb118, Nat.le_refl _⟩
      · exact ⟨_, tb218.at', Nat.le_refl _⟩
      · exact ⟨_, tb318.at', Nat.le_refl _⟩
      · exact ⟨_, tb218.row 0 (by decide), Nat.le_refl _⟩
      · exact ⟨_, tb218.row 1 (by decide), Nat.le_refl _⟩
      · exact ⟨_, tb218.row 2 (by decide), Nat.le_refl _⟩
      · exact ⟨_, tb218.row 3 (by decide), Nat.le_refl _⟩
      · exact ⟨_, tb318.row 0 (by decide), Nat.le_refl _⟩
      · exact ⟨_, tb318.row 1 (by decide), Nat.le_refl _⟩
      · exact ⟨_, tb318.row 2 (by decide), Nat.le_refl _⟩
      · exact ⟨_, tb318.row 3 (by decide), Nat.le_refl _⟩
    have hfree : ∀ b ∈ S, h8 b = none := by
      intro b hb
      rw [hS] at hb
      simp only [List.mem_cons, List.not_mem_nil, or_false] at hb
      rcases hb with rfl | rfl | rfl | rfl | rfl | rfl | rfl | rfl | rfl | rfl | rfl
      · exact nb1
      · exact nb2a
      · exact nb3a
      · exact nb2 0 (by decide)
      · exact nb2 1 (by decide)
      · exact nb2 2 (by decide)
      · exact nb2 3 (by decide)
      · exact nb3 0 (by decide)
      · exact nb3 1 (by decide)
      · exact nb3 2 (by decide)
      · exact nb3 3 (by decide)
    have hz : pz ∉ S := fun hz => by
      obtain ⟨ys, e, _⟩ := hls pz hz
      rw [npz] at e
      cases e
    have hlz : ∀ b ∈ S, ∃ ys : List V, upd h18 pz (.lst (S.map V.ref)) b = some (.lst ys) ∧ ys.length ≤ 4 + 0 := fun b hb => by
      obtain ⟨ys, e, l⟩ := hls b hb
      exact ⟨ys, spz _ _ e, l⟩
    have s819 := s818.trans spz
    have hSl : S.length = 11 := by rw [hS]; rfl
    generalize upd h18 pz (.lst (S.map V.ref)) = h19 at *
    refine ⟨pz, rfl, ⟨_, SqL.of epz⟩, ?_⟩
    refine forW_list (xs := S.map V.ref) (InvEnd [some (.ref g), some (.ref ta), some (.ref pm), t3, some (.ref to), some (.ref p), some (.int li), some (.int hj), some (.ref Db), some (.ref Dr), some (.ref px), some (.ref Dd), some (.ref Do), some (.ref py), some (.ref Dn), t9, some (.ref pt), some (.str (PyData.list [pathD t, tabD T0]).shown)] [none, none, none] S h19) ⟨none, rfl, fun _ _ _ e => e, hlz⟩ (fun _ _ _ _ z => ?_) (fun i v σ' h20 hv z => ?_) (fun σ' h20 z => ?_)
    · obtain ⟨_, _, kz, _⟩ := z
      exact SqL.of (kz _ _ hz epz)
    · obtain ⟨t18, rfl, kz, ha⟩ := z
      have hi11 : i < 11 := by
        have := (List.getElem?_eq_some_iff.mp hv).1
        rw [List.length_map, hSl] at this
        exact this
      obtain ⟨b, hb, rfl⟩ := List.mem_map.mp (List.mem_of_getElem? hv)
      obtain ⟨ys, eb, lb⟩ := ha b hb
      simp only [cxK, wipe, tYes, List.map_cons, List.map_nil, rIxL, rSum, tSl, rSlL, tNoPart, tPart, exists_and_left, and_assoc, V.ref.injEq, HO.lst.injEq, HO.tup.injEq, tFor_eq, iRng1, iRng2, iList, iTup, tLc_eq, tLst, tTup, gSub, rSetL, gT, gL, gTup, gCons, gNil, atI_0, atI_1, atI_2, atI_3, List.length_cons, List.length_nil, Nat.zero_add, Nat.reduceAdd, Nat.reduceLeDiff, ixN_30, ixN_31, ixN_32, Int.reduceLT, Int.reduceLE, Int.reduceNeg, upd_same, reduceCtorEq, false_and, exists_false, or_false, false_or, tNext, tIfS, tRet, tRetN, tDrop, tAsg, gName, tPar, tPar3, tAug, ipI, tVar, tC, tOp, tUn, tCB, tD, tDK, tCons, tNil, rI, rI0, rU, tB, tTest, tCallS, tErr, tAnd, tOr, tNot, tAndV, tOrV, tNotV, tIf, rEq, rNe, scal_ii, scal_bb, scal_ss, rGcd_eq, tBits, List.set_cons_zero, List.set_cons_succ, List.getElem?_cons_zero, List.getElem?_cons_succ, Option.some.injEq, exists_eq_left', V.int.injEq, V.bl.injEq, V.str.injEq, true_and, and_true, decide_eq_true_eq, List.cons.injEq, exists_eq_left, Bool.false_eq_true, if_false, if_true, ite_true, ite_false, Bool.not_eq_true', decide_eq_false_iff_not, Bool.not_not, List.cons_append, List.nil_append]
      simp only [cxK, wipe, tYes, List.map_cons, List.map_nil, rIxL, rSum, tSl, rSlL, tNoPart, tPart, exists_and_left, and_assoc, V.ref.injEq, HO.lst.injEq, HO.tup.injEq, tFor_eq, iRng1, iRng2, iList, iTup, tLc_eq, tLst, tTup, gSub, rSetL, gT, gL, gTup, gCons, gNil, atI_0, atI_1, atI_2, atI_3, List.length_cons, List.length_nil, Nat.zero_add, Nat.reduceAdd, Nat.reduceLeDiff, ixN_30, ixN_31, ixN_32, Int.reduceLT, Int.reduceLE, Int.reduceNeg, upd_same, reduceCtorEq, false_and, exists_false, or_false, false_or, tSeq, tNext, tIfS, tRet, tRetN, tDrop, tAsg, gName, tPar, tPar3, tAug, ipI, tVar, tC, tOp, tUn, tCB, tD, tDK, tCons, tNil, rI, rI0, rU, tB, tTest, tCallS, tErr, tAnd, tOr, tNot, tAndV, tOrV, tNotV, tIf, rEq, rNe, scal_ii, scal_bb, scal_ss, rGcd_eq, tBits, List.set_cons_zero, List.set_cons_succ, List.getElem?_cons_zero, List.getElem?_cons_succ, Option.some.injEq, exists_eq_left', V.int.injEq, V.bl.injEq, V.str.injEq, true_and, and_true, decide_eq_true_eq, List.cons.injEq, exists_eq_left, Bool.false_eq_true, if_false, if_true, ite_true, ite_false, Bool.not_eq_true', decide_eq_false_iff_not, Bool.not_not, tBM]
      refine ⟨.inl ⟨rfl, _, SqL.of eb⟩, b, _, _, rfl, rfl, eb, ?_, ?_⟩
      · exact Nat.le_trans (show _ ≤ 2001 by omega) (Nat.le_of_ble_eq_true rfl)
      refine ⟨_, rfl, fun c o hc e => (upd_ne (fun z => hc (by rw [z]; exact hb))).trans (kz c o hc e), fun c hc => ?_⟩
      by_cases hcb : c = b
      · rw [hcb]
        exact ⟨_, upd_same, by rw [List.length_append, List.length_singleton]; omega⟩
      · obtain ⟨zs, ez, lz⟩ := ha c hc
        exact ⟨zs, (upd_ne hcb).trans ez, by omega⟩
    obtain ⟨t18, rfl, kz, ha⟩ := z
    refine Eq.mpr (hC19 _ _) ?_
    simp only [cxK, wipe, tYes, List.map_cons, List.map_nil, rIxL, rSum, tSl, rSlL, tNoPart, tPart, exists_and_left, and_assoc, V.ref.injEq, HO.lst.injEq, HO.tup.injEq, tFor_eq, iRng1, iRng2, iList, iTup, tLc_eq, tLst, tTup, gSub, rSetL, gT, gL, gTup, gCons, gNil, atI_0, atI_1, atI_2, atI_3, List.length_cons, List.length_nil, Nat.zero_add, Nat.reduceAdd, Nat.reduceLeDiff, ixN_30, ixN_31, ixN_32, Int.reduceLT, Int.reduceLE, Int.reduceNeg, upd_same, reduceCtorEq, false_and, exists_false, or_false, false_or, tSeq, tNext, tIfS, tRet, tRetN, tDrop, tAsg, gName, tPar, tPar3, tAug, ipI, tVar, tC, tOp, tUn, tCB, tD, tDK, tCons, tNil, rI, rI0, rU, tB, tTest, tCallS, tErr, tAnd, tOr, tNot, tAndV, tOrV, tNotV, tIf, rEq, rNe, scal_ii, scal_bb, scal_ss, rGcd_eq, tBits, List.set_cons_zero, List.set_cons_succ, List.getElem?_cons_zero, List.getElem?_cons_succ, Option.some.injEq, exists_eq_left', V.int.injEq, V.bl.injEq, V.str.injEq, true_and, and_true, decide_eq_true_eq, List.cons.injEq, exists_eq_left, Bool.false_eq_true, if_false, if_true, ite_true, ite_false, Bool.not_eq_true', decide_eq_false_iff_not, Bool.not_not, List.cons_append, List.nil_append]
    have nS : ∀ {b : Addr} {o : HO}, h8 b = some o → b ∉ S := fun e hb => by rw [hfree _ hb] at e; cases e
    have all20 : ∀ {b : Addr} {o : HO}, h8 b = some o → h20 b = some o := fun e => kz _ _ (nS e) (s819 _ _ e)
    have hT20 : TabAt h20 ta T0 rs := ⟨all20 hT8.at', fun i hi => all20 (hT8.row i hi)⟩
    refine ⟨sml (by decide), fun pe npe => ⟨_, rp_pt upd_same ((Same.upd npe) _ _ (all20 ep8)) (hT20.same (Same.upd npe)) (zt.up (show 80 ≤ 100 by decide)) z1 (by decide), ?_⟩⟩
    rw [decide_eq_true rfl]
    refine kk _ fun b o hb e => (Same.upd npe) _ _ (all20 (K8 b o hb e))

theorem okLaw {f : Addr} {fd : FuncData} (F : Fun K "law" "law" s_Law f fd) (T : Txt K mg) {fLawRight : Addr} {fdLawRight : FuncData} (D_LawRight : DefG P w K mg base 9 "_law_right" fLawRight fdLawRight ["_law_generator_here"] (spRightT)) {fKeepsCrossings : Addr} {fdKeepsCrossings : FuncData} (D_KeepsCrossings : DefAt P w K mg base 5 "keeps_crossings" fKeepsCrossings fdKeepsCrossings ["table"] (spKeepsT)) {fTableBack : Addr} {fdTableBack : FuncData} (D_TableBack : DefAt P w K mg base 6 "table_back" fTableBack fdTableBack ["table"] (spTBack)) {fLawSelf : Addr} {fdLawSelf : FuncData} (D_LawSelf : DefAt P w K mg base 2 "_law_self" fLawSelf fdLawSelf [] (spUnitT)) {fLawGenerator : Addr} {fdLawGenerator : FuncData} (D_LawGenerator : DefAt P w K mg base 2 "_law_generator" fLawGenerator fdLawGenerator ["_law_script", "_law_index"] (spGen K)) : FnG P w K mg base 10 f fd ["_law_script"] (spLaw K) := by
  refine fnG_mk F scLaw (fun vs H Q E h => ?_) (fun cdv A outer s H vs Q E gd hr h => ?_)
  · obtain ⟨a, ns, rfl, _⟩ := h
    rfl
  · obtain ⟨a, ns, rfl, hS, hl, kk⟩ := h
    refine ⟨_, (pss_cons (ps_for PassesOwn.never rfl (pi_range1 rfl T.range (pa_cons pe_int pa_nil)) (pg_name (i := 1) scLaw.nd rfl (Or.inl rfl)) (pss_one (ps_if (pt_not (pt_val (pe_g D_LawRight gd hr (pa_cons (pe_d D_LawGenerator hr (pa_cons (pv 0) (pa_cons (pv 1) pa_nil))) pa_nil)))) (pss_one (ps_ret pe_bl)) pss_nil)))
        (pss_one (ps_ret (pe_and (pe_cmpR op_isBl (pe_d D_KeepsCrossings hr (pa_cons (pe_lst (pa_cons (pe_lst (pa_cons pe_int (pa_cons pe_int (pa_cons pe_int (pa_cons pe_int pa_nil))))) (pa_cons (pe_lst (pa_cons pe_int (pa_cons pe_int (pa_cons pe_int (pa_cons pe_int pa_nil))))) (pa_cons (pe_lst (pa_cons pe_int (pa_cons pe_int (pa_cons pe_int (pa_cons pe_int pa_nil))))) (pa_cons (pe_lst (pa_cons pe_int (pa_cons pe_int (pa_cons pe_int (pa_cons pe_int pa_nil))))) pa_nil))))) pa_nil)) pe_bl (nomark _)) (pe_one (pe_cmpR (op_eqD hr.units) (pe_d D_TableBack hr (pa_cons (pe_d0 D_LawSelf hr) pa_nil)) (pe_d0 D_LawSelf hr) (nomark _))))))), ?_⟩
    have e0 : start N_Law [.ref a] = [some (.ref a), none] := rfl
    rw [e0]
    refine seq_gen fun C1 hC1 => ?_
    simp only [cxK, wipe, tYes, List.map_cons, List.map_nil, rIxL, rSum, tSl, rSlL, tNoPart, tPart, exists_and_left, and_assoc, V.ref.injEq, HO.lst.injEq, HO.tup.injEq, tFor_eq, iRng1, iRng2, iList, iTup, tLc_eq, tLst, tTup, gSub, rSetL, gT, gL, gTup, gCons, gNil, atI_0, atI_1, atI_2, atI_3, List.length_cons, List.length_nil, Nat.zero_add, Nat.reduceAdd, Nat.reduceLeDiff, ixN_30, ixN_31, ixN_32, Int.reduceLT, Int.reduceLE, Int.reduceNeg, upd_same, reduceCtorEq, false_and, exists_false, or_false, false_or, tNext, tIfS, tRet, tRetN, tDrop, tAsg, gName, tPar, tPar3, tAug, ipI, tVar, tC, tOp, tUn, tCB, tD, tDK, tCons, tNil, rI, rI0, rU, tB, tTest, tCallS, tErr, tAnd, tOr, tNot, tAndV, tOrV, tNotV, tIf, rEq, rNe, scal_ii, scal_bb, scal_ss, rGcd_eq, tBits, List.set_cons_zero, List.set_cons_succ, List.getElem?_cons_zero, List.getElem?_cons_succ, Option.some.injEq, exists_eq_left', V.int.injEq, V.bl.injEq, V.str.injEq, true_and, and_true, decide_eq_true_eq, List.cons.injEq, exists_eq_left, Bool.false_eq_true, if_false, if_true, ite_true, ite_false, Bool.not_eq_true', decide_eq_false_iff_not, Bool.not_not]
    refine ⟨by decide, by decide, ?_⟩
    refine forW_range (InvLw43 a ns K) ⟨none, rfl, hS⟩ ?_ (fun σ' h z => ?_)
    · rintro i σ' h hi ⟨t1, rfl, hS2⟩
      simp only [cxK, wipe, tYes, List.map_cons, List.map_nil, rIxL, rSum, tSl, rSlL, tNoPart, tPart, exists_and_left, and_assoc, V.ref.injEq, HO.lst.injEq, HO.tup.injEq, tFor_eq, iRng1, iRng2, iList, iTup, tLc_eq, tLst, tTup, gSub, rSetL, gT, gL, gTup, gCons, gNil, atI_0, atI_1, atI_2, atI_3, List.length_cons, List.length_nil, Nat.zero_add, Nat.reduceAdd, Nat.reduceLeDiff, ixN_30, ixN_31, ixN_32, Int.reduceLT, Int.reduceLE, Int.reduceNeg, upd_same, reduceCtorEq, false_and, exists_false, or_false, false_or, tSeq, tNext, tIfS, tRet, tRetN, tDrop, tAsg, gName, tPar, tPar3, tAug, ipI, tVar, tC, tOp, tUn, tCB, tD, tDK, tCons, tNil, rI, rI0, rU, tB, tTest, tCallS, tErr, tAnd, tOr, tNot, tAndV, tOrV, tNotV, tIf, rEq, rNe, scal_ii, scal_bb, scal_ss, rGcd_eq, tBits, List.set_cons_zero, List.set_cons_succ, List.getElem?_cons_zero, List.getElem?_cons_succ, Option.some.injEq, exists_eq_left', V.int.injEq, V.bl.injEq, V.str.injEq, true_and, and_true, decide_eq_true_eq, List.cons.injEq, exists_eq_left, Bool.false_eq_true, if_false, if_true, ite_true, ite_false, Bool.not_eq_true', decide_eq_false_iff_not, Bool.not_not]
      have hi2 : i < 2 := hi
      refine ⟨a, ns, _, rfl, hS2, by omega, by omega, fun g H1 ng s1 G1 => ⟨g, _, rfl, G1, by decide, fun H2 K2 => ⟨true, rfl, ?_⟩⟩⟩
      rw [if_neg (by decide)]
      exact ⟨_, rfl, sqL_keepT hS2 ng s1 K2⟩
    · obtain ⟨t1, rfl, hS2⟩ := z
      refine Eq.mpr (hC1 _ _) ?_
      simp only [cxK, wipe, tYes, List.map_cons, List.map_nil, rIxL, rSum, tSl, rSlL, tNoPart, tPart, exists_and_left, and_assoc, V.ref.injEq, HO.lst.injEq, HO.tup.injEq, tFor_eq, iRng1, iRng2, iList, iTup, tLc_eq, tLst, tTup, gSub, rSetL, gT, gL, gTup, gCons, gNil, atI_0, atI_1, atI_2, atI_3, List.length_cons, List.length_nil, Nat.zero_add, Nat.reduceAdd, Nat.reduceLeDiff, ixN_30, ixN_31, ixN_32, Int.reduceLT, Int.reduceLE, Int.reduceNeg, upd_same, reduceCtorEq, false_and, exists_false, or_false, false_or, tSeq, tNext, tIfS, tRet, tRetN, tDrop, tAsg, gName, tPar, tPar3, tAug, ipI, tVar, tC, tOp, tUn, tCB, tD, tDK, tCons, tNil, rI, rI0, rU, tB, tTest, tCallS, tErr, tAnd, tOr, tNot, tAndV, tOrV, tNotV, tIf, rEq, rNe, scal_ii, scal_bb, scal_ss, rGcd_eq, tBits, List.set_cons_zero, List.set_cons_succ, List.getElem?_cons_zero, List.getElem?_cons_succ, Option.some.injEq, exists_eq_left', V.int.injEq, V.bl.injEq, V.str.injEq, true_and, and_true, decide_eq_true_eq, List.cons.injEq, exists_eq_left, Bool.false_eq_true, if_false, if_true, ite_true, ite_false, Bool.not_eq_true', decide_eq_false_iff_not, Bool.not_not]
      refine ⟨sml (by decide), fun r0 n0 => ⟨sml (by decide), fun r1 n1 => ⟨sml (by decide), fun r2 n2 => ⟨sml (by decide), fun r3 n3 => ⟨sml (by decide), fun p n4 => ?_⟩⟩⟩⟩⟩
      have S := fun {h : Hp} {o : HO} {p : Addr} (n : h p = none) => Same.upd (o := o) n
      refine ⟨p, ((2, 0, 0, 0), (0, 1, 0, 0), (0, 0, 1, 0), (0, 0, 0, 1)), fun4 r0 r1 r2 r3, rfl, ⟨upd_same, fun i hi => ?_⟩, fun i hi => ?_, fun H5 s5 => ?_⟩
      · rcases (show i = 0 ∨ i = 1 ∨ i = 2 ∨ i = 3 by omega) with rfl | rfl | rfl | rfl
        · exact S n4 _ _ (S n3 _ _ (S n2 _ _ (S n1 _ _ upd_same)))
        · exact S n4 _ _ (S n3 _ _ (S n2 _ _ upd_same))
        · exact S n4 _ _ (S n3 _ _ upd_same)
        · exact S n4 _ _ upd_same
      · rcases (show i = 0 ∨ i = 1 ∨ i = 2 ∨ i = 3 by omega) with rfl | rfl | rfl | rfl <;> exact ⟨by decide, by decide, by decide, by decide⟩
      rw [show keepsT (((2, 0, 0, 0), (0, 1, 0, 0), (0, 0, 1, 0), (0, 0, 0, 1)) : T4) = false by decide +kernel]
      refine ⟨false, false, rfl, rfl, true, rfl, ?_⟩
      rw [if_pos rfl]
      refine ⟨rfl, fun b us H6 n6 => ⟨b, unitT, us, rfl, n6.tab, TB.one.sz (by decide), by decide +kernel, fun c vs H7 n7 => ⟨rfl, fun d ws H8 n8 => ?_⟩⟩⟩
      have e : backT unitT = unitT := by decide +kernel
      rw [e] at n7
      exact eq_data (dp_tab (n7.tab.same n8.same)) (dp_tab n8.tab) (shaped_tab _) (kk _)

end
theorem all_mk {l : PySem.W.OpenLaw} {w : World} {K : PySem.W.Frag} {h : Heap} {mg : Str → Option Value} {fa : Addr} (X : K.In h) (G : h.Ns mainGlobals mg) (hfa : mg "law" = some (.ref fa))
    {od0 an0 : Option Addr} {sl0 : Array (Option Value)} {oc0 kV0 dc0 pm0 cd0 ct0 : Value} {f0 : Addr} (a0 : PySem.W.nsIn K mainGlobals "is_whole" = some (some (.ref f0))) (l0 : K.lookup f0 = some ⟨oc0, od0, .func (PySem.W.fnOf "is_whole" "is_whole" (defArgs s_IsWhole) (defBody s_IsWhole) (defScope s_IsWhole) .none kV0 dc0 pm0 an0 cd0 ct0), sl0⟩) (c0 : PySem.W.codeIn K cd0 "is_whole" = true) (k0 : PySem.W.keepIn K (.ref f0) = true)
    {od1 an1 : Option Addr} {sl1 : Array (Option Value)} {oc1 kV1 dc1 pm1 cd1 ct1 : Value} {f1 : Addr} (a1 : PySem.W.nsIn K mainGlobals "unmoving_table" = some (some (.ref f1))) (l1 : K.lookup f1 = some ⟨oc1, od1, .func (PySem.W.fnOf "unmoving_table" "unmoving_table" (defArgs s_UnmovingTable) (defBody s_UnmovingTable) (defScope s_UnmovingTable) .none kV1 dc1 pm1 an1 cd1 ct1), sl1⟩) (c1 : PySem.W.codeIn K cd1 "unmoving_table" = true) (k1 : PySem.W.keepIn K (.ref f1) = true)
    {od2 an2 : Option Addr} {sl2 : Array (Option Value)} {oc2 kV2 dc2 pm2 cd2 ct2 : Value} {f2 : Addr} (a2 : PySem.W.nsIn K mainGlobals "_paired" = some (some (.ref f2))) (l2 : K.lookup f2 = some ⟨oc2, od2, .func (PySem.W.fnOf "_paired" "_paired" (defArgs s_Paired) (defBody s_Paired) (defScope s_Paired) .none kV2 dc2 pm2 an2 cd2 ct2), sl2⟩) (c2 : PySem.W.codeIn K cd2 "_paired" = true) (k2 : PySem.W.keepIn K (.ref f2) = true)
    {od3 an3 : Option Addr} {sl3 : Array (Option Value)} {oc3 kV3 dc3 pm3 cd3 ct3 : Value} {f3 : Addr} (a3 : PySem.W.nsIn K mainGlobals "_turned_over" = some (some (.ref f3))) (l3 : K.lookup f3 = some ⟨oc3, od3, .func (PySem.W.fnOf "_turned_over" "_turned_over" (defArgs s_TurnedOver) (defBody s_TurnedOver) (defScope s_TurnedOver) .none kV3 dc3 pm3 an3 cd3 ct3), sl3⟩) (c3 : PySem.W.codeIn K cd3 "_turned_over" = true) (k3 : PySem.W.keepIn K (.ref f3) = true)
    {od4 an4 : Option Addr} {sl4 : Array (Option Value)} {oc4 kV4 dc4 pm4 cd4 ct4 : Value} {f4 : Addr} (a4 : PySem.W.nsIn K mainGlobals "_crossing_side" = some (some (.ref f4))) (l4 : K.lookup f4 = some ⟨oc4, od4, .func (PySem.W.fnOf "_crossing_side" "_crossing_side" (defArgs s_CrossingSide) (defBody s_CrossingSide) (defScope s_CrossingSide) .none kV4 dc4 pm4 an4 cd4 ct4), sl4⟩) (c4 : PySem.W.codeIn K cd4 "_crossing_side" = true) (k4 : PySem.W.keepIn K (.ref f4) = true)
    {od5 an5 : Option Addr} {sl5 : Array (Option Value)} {oc5 kV5 dc5 pm5 cd5 ct5 : Value} {f5 : Addr} (a5 : PySem.W.nsIn K mainGlobals "_law_hash" = some (some (.ref f5))) (l5 : K.lookup f5 = some ⟨oc5, od5, .func (PySem.W.fnOf "_law_hash" "_law_hash" (defArgs s_LawHash) (defBody s_LawHash) (defScope s_LawHash) .none kV5 dc5 pm5 an5 cd5 ct5), sl5⟩) (c5 : PySem.W.codeIn K cd5 "_law_hash" = true) (k5 : PySem.W.keepIn K (.ref f5) = true)
    {od6 an6 : Option Addr} {sl6 : Array (Option Value)} {oc6 kV6 dc6 pm6 cd6 ct6 : Value} {f6 : Addr} (a6 : PySem.W.nsIn K mainGlobals "_law_cell" = some (some (.ref f6))) (l6 : K.lookup f6 = some ⟨oc6, od6, .func (PySem.W.fnOf "_law_cell" "_law_cell" (defArgs s_LawCell) (defBody s_LawCell) (defScope s_LawCell) .none kV6 dc6 pm6 an6 cd6 ct6), sl6⟩) (c6 : PySem.W.codeIn K cd6 "_law_cell" = true) (k6 : PySem.W.keepIn K (.ref f6) = true)
    {od7 an7 : Option Addr} {sl7 : Array (Option Value)} {oc7 kV7 dc7 pm7 cd7 ct7 : Value} {f7 : Addr} (a7 : PySem.W.nsIn K mainGlobals "_law_crossing" = some (some (.ref f7))) (l7 : K.lookup f7 = some ⟨oc7, od7, .func (PySem.W.fnOf "_law_crossing" "_law_crossing" (defArgs s_LawCrossing) (defBody s_LawCrossing) (defScope s_LawCrossing) .none kV7 dc7 pm7 an7 cd7 ct7), sl7⟩) (c7 : PySem.W.codeIn K cd7 "_law_crossing" = true) (k7 : PySem.W.keepIn K (.ref f7) = true)
    {od8 an8 : Option Addr} {sl8 : Array (Option Value)} {oc8 kV8 dc8 pm8 cd8 ct8 : Value} {f8 : Addr} (a8 : PySem.W.nsIn K mainGlobals "_law_led" = some (some (.ref f8))) (l8 : K.lookup f8 = some ⟨oc8, od8, .func (PySem.W.fnOf "_law_led" "_law_led" (defArgs s_LawLed) (defBody s_LawLed) (defScope s_LawLed) .none kV8 dc8 pm8 an8 cd8 ct8), sl8⟩) (c8 : PySem.W.codeIn K cd8 "_law_led" = true) (k8 : PySem.W.keepIn K (.ref f8) = true)
    {od9 an9 : Option Addr} {sl9 : Array (Option Value)} {oc9 kV9 dc9 pm9 cd9 ct9 : Value} {f9 : Addr} (a9 : PySem.W.nsIn K mainGlobals "_law_columns" = some (some (.ref f9))) (l9 : K.lookup f9 = some ⟨oc9, od9, .func (PySem.W.fnOf "_law_columns" "_law_columns" (defArgs s_LawColumns) (defBody s_LawColumns) (defScope s_LawColumns) .none kV9 dc9 pm9 an9 cd9 ct9), sl9⟩) (c9 : PySem.W.codeIn K cd9 "_law_columns" = true) (k9 : PySem.W.keepIn K (.ref f9) = true)
    {od10 an10 : Option Addr} {sl10 : Array (Option Value)} {oc10 kV10 dc10 pm10 cd10 ct10 : Value} {f10 : Addr} (a10 : PySem.W.nsIn K mainGlobals "_law_base" = some (some (.ref f10))) (l10 : K.lookup f10 = some ⟨oc10, od10, .func (PySem.W.fnOf "_law_base" "_law_base" (defArgs s_LawBase) (defBody s_LawBase) (defScope s_LawBase) .none kV10 dc10 pm10 an10 cd10 ct10), sl10⟩) (c10 : PySem.W.codeIn K cd10 "_law_base" = true) (k10 : PySem.W.keepIn K (.ref f10) = true)
    {od11 an11 : Option Addr} {sl11 : Array (Option Value)} {oc11 kV11 dc11 pm11 cd11 ct11 : Value} {f11 : Addr} (a11 : PySem.W.nsIn K mainGlobals "is_path" = some (some (.ref f11))) (l11 : K.lookup f11 = some ⟨oc11, od11, .func (PySem.W.fnOf "is_path" "is_path" (defArgs s_IsPath) (defBody s_IsPath) (defScope s_IsPath) .none kV11 dc11 pm11 an11 cd11 ct11), sl11⟩) (c11 : PySem.W.codeIn K cd11 "is_path" = true) (k11 : PySem.W.keepIn K (.ref f11) = true)
    {od12 an12 : Option Addr} {sl12 : Array (Option Value)} {oc12 kV12 dc12 pm12 cd12 ct12 : Value} {f12 : Addr} (a12 : PySem.W.nsIn K mainGlobals "_law_random" = some (some (.ref f12))) (l12 : K.lookup f12 = some ⟨oc12, od12, .func (PySem.W.fnOf "_law_random" "_law_random" (defArgs s_LawRandom) (defBody s_LawRandom) (defScope s_LawRandom) .none kV12 dc12 pm12 an12 cd12 ct12), sl12⟩) (c12 : PySem.W.codeIn K cd12 "_law_random" = true) (k12 : PySem.W.keepIn K (.ref f12) = true)
    {od13 an13 : Option Addr} {sl13 : Array (Option Value)} {oc13 kV13 dc13 pm13 cd13 ct13 : Value} {f13 : Addr} (a13 : PySem.W.nsIn K mainGlobals "_law_generator" = some (some (.ref f13))) (l13 : K.lookup f13 = some ⟨oc13, od13, .func (PySem.W.fnOf "_law_generator" "_law_generator" (defArgs s_LawGenerator) (defBody s_LawGenerator) (defScope s_LawGenerator) .none kV13 dc13 pm13 an13 cd13 ct13), sl13⟩) (c13 : PySem.W.codeIn K cd13 "_law_generator" = true) (k13 : PySem.W.keepIn K (.ref f13) = true)
    {od14 an14 : Option Addr} {sl14 : Array (Option Value)} {oc14 kV14 dc14 pm14 cd14 ct14 : Value} {f14 : Addr} (a14 : PySem.W.nsIn K mainGlobals "_law_product" = some (some (.ref f14))) (l14 : K.lookup f14 = some ⟨oc14, od14, .func (PySem.W.fnOf "_law_product" "_law_product" (defArgs s_LawProduct) (defBody s_LawProduct) (defScope s_LawProduct) .none kV14 dc14 pm14 an14 cd14 ct14), sl14⟩) (c14 : PySem.W.codeIn K cd14 "_law_product" = true) (k14 : PySem.W.keepIn K (.ref f14) = true)
    {od15 an15 : Option Addr} {sl15 : Array (Option Value)} {oc15 kV15 dc15 pm15 cd15 ct15 : Value} {f15 : Addr} (a15 : PySem.W.nsIn K mainGlobals "_law_self" = some (some (.ref f15))) (l15 : K.lookup f15 = some ⟨oc15, od15, .func (PySem.W.fnOf "_law_self" "_law_self" (defArgs s_LawSelf) (defBody s_LawSelf) (defScope s_LawSelf) .none kV15 dc15 pm15 an15 cd15 ct15), sl15⟩) (c15 : PySem.W.codeIn K cd15 "_law_self" = true) (k15 : PySem.W.keepIn K (.ref f15) = true)
    {od16 an16 : Option Addr} {sl16 : Array (Option Value)} {oc16 kV16 dc16 pm16 cd16 ct16 : Value} {f16 : Addr} (a16 : PySem.W.nsIn K mainGlobals "_law_keeps" = some (some (.ref f16))) (l16 : K.lookup f16 = some ⟨oc16, od16, .func (PySem.W.fnOf "_law_keeps" "_law_keeps" (defArgs s_LawKeeps) (defBody s_LawKeeps) (defScope s_LawKeeps) .none kV16 dc16 pm16 an16 cd16 ct16), sl16⟩) (c16 : PySem.W.codeIn K cd16 "_law_keeps" = true) (k16 : PySem.W.keepIn K (.ref f16) = true)
    {od17 an17 : Option Addr} {sl17 : Array (Option Value)} {oc17 kV17 dc17 pm17 cd17 ct17 : Value} {f17 : Addr} (a17 : PySem.W.nsIn K mainGlobals "_law_back" = some (some (.ref f17))) (l17 : K.lookup f17 = some ⟨oc17, od17, .func (PySem.W.fnOf "_law_back" "_law_back" (defArgs s_LawBack) (defBody s_LawBack) (defScope s_LawBack) .none kV17 dc17 pm17 an17 cd17 ct17), sl17⟩) (c17 : PySem.W.codeIn K cd17 "_law_back" = true) (k17 : PySem.W.keepIn K (.ref f17) = true)
    {od18 an18 : Option Addr} {sl18 : Array (Option Value)} {oc18 kV18 dc18 pm18 cd18 ct18 : Value} {f18 : Addr} (a18 : PySem.W.nsIn K mainGlobals "check_path" = some (some (.ref f18))) (l18 : K.lookup f18 = some ⟨oc18, od18, .func (PySem.W.fnOf "check_path" "check_path" (defArgs s_CheckPath) (defBody s_CheckPath) (defScope s_CheckPath) .none kV18 dc18 pm18 an18 cd18 ct18), sl18⟩) (c18 : PySem.W.codeIn K cd18 "check_path" = true) (k18 : PySem.W.keepIn K (.ref f18) = true)
    {od19 an19 : Option Addr} {sl19 : Array (Option Value)} {oc19 kV19 dc19 pm19 cd19 ct19 : Value} {f19 : Addr} (a19 : PySem.W.nsIn K mainGlobals "_check_table" = some (some (.ref f19))) (l19 : K.lookup f19 = some ⟨oc19, od19, .func (PySem.W.fnOf "_check_table" "_check_table" (defArgs s_CheckTable) (defBody s_CheckTable) (defScope s_CheckTable) .none kV19 dc19 pm19 an19 cd19 ct19), sl19⟩) (c19 : PySem.W.codeIn K cd19 "_check_table" = true) (k19 : PySem.W.keepIn K (.ref f19) = true)
    {od20 an20 : Option Addr} {sl20 : Array (Option Value)} {oc20 kV20 dc20 pm20 cd20 ct20 : Value} {f20 : Addr} (a20 : PySem.W.nsIn K mainGlobals "_law_path" = some (some (.ref f20))) (l20 : K.lookup f20 = some ⟨oc20, od20, .func (PySem.W.fnOf "_law_path" "_law_path" (defArgs s_LawPath) (defBody s_LawPath) (defScope s_LawPath) .none kV20 dc20 pm20 an20 cd20 ct20), sl20⟩) (c20 : PySem.W.codeIn K cd20 "_law_path" = true) (k20 : PySem.W.keepIn K (.ref f20) = true)
    {od21 an21 : Option Addr} {sl21 : Array (Option Value)} {oc21 kV21 dc21 pm21 cd21 ct21 : Value} {f21 : Addr} (a21 : PySem.W.nsIn K mainGlobals "_law_stepped" = some (some (.ref f21))) (l21 : K.lookup f21 = some ⟨oc21, od21, .func (PySem.W.fnOf "_law_stepped" "_law_stepped" (defArgs s_LawStepped) (defBody s_LawStepped) (defScope s_LawStepped) .none kV21 dc21 pm21 an21 cd21 ct21), sl21⟩) (c21 : PySem.W.codeIn K cd21 "_law_stepped" = true) (k21 : PySem.W.keepIn K (.ref f21) = true)
    {od22 an22 : Option Addr} {sl22 : Array (Option Value)} {oc22 kV22 dc22 pm22 cd22 ct22 : Value} {f22 : Addr} (a22 : PySem.W.nsIn K mainGlobals "crossing" = some (some (.ref f22))) (l22 : K.lookup f22 = some ⟨oc22, od22, .func (PySem.W.fnOf "crossing" "crossing" (defArgs s_Crossing) (defBody s_Crossing) (defScope s_Crossing) .none kV22 dc22 pm22 an22 cd22 ct22), sl22⟩) (c22 : PySem.W.codeIn K cd22 "crossing" = true) (k22 : PySem.W.keepIn K (.ref f22) = true)
    {od23 an23 : Option Addr} {sl23 : Array (Option Value)} {oc23 kV23 dc23 pm23 cd23 ct23 : Value} {f23 : Addr} (a23 : PySem.W.nsIn K mainGlobals "led_path" = some (some (.ref f23))) (l23 : K.lookup f23 = some ⟨oc23, od23, .func (PySem.W.fnOf "led_path" "led_path" (defArgs s_LedPath) (defBody s_LedPath) (defScope s_LedPath) .none kV23 dc23 pm23 an23 cd23 ct23), sl23⟩) (c23 : PySem.W.codeIn K cd23 "led_path" = true) (k23 : PySem.W.keepIn K (.ref f23) = true)
    {od24 an24 : Option Addr} {sl24 : Array (Option Value)} {oc24 kV24 dc24 pm24 cd24 ct24 : Value} {f24 : Addr} (a24 : PySem.W.nsIn K mainGlobals "table_product" = some (some (.ref f24))) (l24 : K.lookup f24 = some ⟨oc24, od24, .func (PySem.W.fnOf "table_product" "table_product" (defArgs s_TableProduct) (defBody s_TableProduct) (defScope s_TableProduct) .none kV24 dc24 pm24 an24 cd24 ct24), sl24⟩) (c24 : PySem.W.codeIn K cd24 "table_product" = true) (k24 : PySem.W.keepIn K (.ref f24) = true)
    {od25 an25 : Option Addr} {sl25 : Array (Option Value)} {oc25 kV25 dc25 pm25 cd25 ct25 : Value} {f25 : Addr} (a25 : PySem.W.nsIn K mainGlobals "keeps_crossings" = some (some (.ref f25))) (l25 : K.lookup f25 = some ⟨oc25, od25, .func (PySem.W.fnOf "keeps_crossings" "keeps_crossings" (defArgs s_KeepsCrossings) (defBody s_KeepsCrossings) (defScope s_KeepsCrossings) .none kV25 dc25 pm25 an25 cd25 ct25), sl25⟩) (c25 : PySem.W.codeIn K cd25 "keeps_crossings" = true) (k25 : PySem.W.keepIn K (.ref f25) = true)
    {od26 an26 : Option Addr} {sl26 : Array (Option Value)} {oc26 kV26 dc26 pm26 cd26 ct26 : Value} {f26 : Addr} (a26 : PySem.W.nsIn K mainGlobals "table_back" = some (some (.ref f26))) (l26 : K.lookup f26 = some ⟨oc26, od26, .func (PySem.W.fnOf "table_back" "table_back" (defArgs s_TableBack) (defBody s_TableBack) (defScope s_TableBack) .none kV26 dc26 pm26 an26 cd26 ct26), sl26⟩) (c26 : PySem.W.codeIn K cd26 "table_back" = true) (k26 : PySem.W.keepIn K (.ref f26) = true)
    {od27 an27 : Option Addr} {sl27 : Array (Option Value)} {oc27 kV27 dc27 pm27 cd27 ct27 : Value} {f27 : Addr} (a27 : PySem.W.nsIn K mainGlobals "_law_refused" = some (some (.ref f27))) (l27 : K.lookup f27 = some ⟨oc27, od27, .func (PySem.W.fnOf "_law_refused" "_law_refused" (defArgs s_LawRefused) (defBody s_LawRefused) (defScope s_LawRefused) .none kV27 dc27 pm27 an27 cd27 ct27), sl27⟩) (c27 : PySem.W.codeIn K cd27 "_law_refused" = true) (k27 : PySem.W.keepIn K (.ref f27) = true)
    {od28 an28 : Option Addr} {sl28 : Array (Option Value)} {oc28 kV28 dc28 pm28 cd28 ct28 : Value} {f28 : Addr} (a28 : PySem.W.nsIn K mainGlobals "_law_one_right" = some (some (.ref f28))) (l28 : K.lookup f28 = some ⟨oc28, od28, .func (PySem.W.fnOf "_law_one_right" "_law_one_right" (defArgs s_LawOneRight) (defBody s_LawOneRight) (defScope s_LawOneRight) .none kV28 dc28 pm28 an28 cd28 ct28), sl28⟩) (c28 : PySem.W.codeIn K cd28 "_law_one_right" = true) (k28 : PySem.W.keepIn K (.ref f28) = true)
    {od29 an29 : Option Addr} {sl29 : Array (Option Value)} {oc29 kV29 dc29 pm29 cd29 ct29 : Value} {f29 : Addr} (a29 : PySem.W.nsIn K mainGlobals "_law_right" = some (some (.ref f29))) (l29 : K.lookup f29 = some ⟨oc29, od29, .func (PySem.W.fnOf "_law_right" "_law_right" (defArgs s_LawRight) (defBody s_LawRight) (defScope s_LawRight) .none kV29 dc29 pm29 an29 cd29 ct29), sl29⟩) (c29 : PySem.W.codeIn K cd29 "_law_right" = true) (k29 : PySem.W.keepIn K (.ref f29) = true)
    {od30 an30 : Option Addr} {sl30 : Array (Option Value)} {oc30 kV30 dc30 pm30 cd30 ct30 : Value} {f30 : Addr} (a30 : PySem.W.nsIn K mainGlobals "law" = some (some (.ref f30))) (l30 : K.lookup f30 = some ⟨oc30, od30, .func (PySem.W.fnOf "law" "law" (defArgs s_Law) (defBody s_Law) (defScope s_Law) .none kV30 dc30 pm30 an30 cd30 ct30), sl30⟩) (c30 : PySem.W.codeIn K cd30 "law" = true) (k30 : PySem.W.keepIn K (.ref f30) = true) (z_all : PySem.W.nsIn K mainGlobals "all" = some none) (z_bool : PySem.W.nsIn K mainGlobals "bool" = some none) (z_int : PySem.W.nsIn K mainGlobals "int" = some none) (z_isinstance : PySem.W.nsIn K mainGlobals "isinstance" = some none) (z_len : PySem.W.nsIn K mainGlobals "len" = some none) (z_list : PySem.W.nsIn K mainGlobals "list" = some none) (z_max : PySem.W.nsIn K mainGlobals "max" = some none) (z_range : PySem.W.nsIn K mainGlobals "range" = some none) (z_repr : PySem.W.nsIn K mainGlobals "repr" = some none) (z_sum : PySem.W.nsIn K mainGlobals "sum" = some none) (z_zip : PySem.W.nsIn K mainGlobals "zip" = some none) {p_PARTNERS : Addr} {od_PARTNERS : Option Addr} {n_PARTNERS : Nat} {sl_PARTNERS : Array (Option Value)} {k0_PARTNERS k1_PARTNERS k2_PARTNERS k3_PARTNERS : Tok} (z_PARTNERS : PySem.W.nsIn K mainGlobals "PARTNERS" = some (some (.ref p_PARTNERS))) (y_PARTNERS : K.lookup p_PARTNERS = some ⟨.type "tuple", od_PARTNERS, .seq (List.toArray [.int 1 k0_PARTNERS, .int 0 k1_PARTNERS, .int 3 k2_PARTNERS, .int 2 k3_PARTNERS]) n_PARTNERS, sl_PARTNERS⟩)
    {C_SheetError : Addr} (aC_SheetError : PySem.W.nsIn K mainGlobals "SheetError" = some (some (.ref C_SheetError))) (xS_SheetError : PySem.W.excIn K C_SheetError [.type "ValueError", .type "Exception", .type "BaseException", .type "object"] "ValueError.__new__" = true) (hn_g : PySem.W.specialIn K (.builtin "object.__class__") "__get__" = some (some (.builtin "getset_descriptor.__get__"))) (ht_g : PySem.W.takesIn K (.builtin "object.__class__") = some true) (ga_SheetError : PySem.W.findIn K (.ref C_SheetError) "__getattribute__" = some (some (.builtin "BaseException.__getattribute__"))) (gg_SheetError : PySem.W.findIn K (.ref C_SheetError) "__getattr__" = some none) (hc_SheetError : PySem.W.findIn K (.ref C_SheetError) "__class__" = some (some (.builtin "object.__class__"))) (kC_SheetError : PySem.W.keepIn K (.ref C_SheetError) = true) (eC_SheetError : PySem.W.subIn K (.ref C_SheetError) (.type "BaseException") = some true) (tC_SheetError : PySem.W.typeIn K (.ref C_SheetError) = some (.type "type")) (hD_SheetError : PySem.W.hasDictIn K C_SheetError = true) (iS_SheetError : PySem.W.isClsIn K C_SheetError = true) (mo_SheetError : PySem.W.mroIn K C_SheetError (.type "object") = some true) (sv_SheetError : PySem.W.subIn K (.ref C_SheetError) (.type "ValueError") = some true)
    {C_InvalidList f_InvalidList t_InvalidList N_InvalidList : Addr} {nm_InvalidList q_InvalidList : Str} {bs_InvalidList sub_InvalidList : List Value} {sn_InvalidList : List Str} {ab_InvalidList : Bool} {col_InvalidList : Option Bool} {dd_InvalidList od_InvalidList an_InvalidList tod_InvalidList : Option Addr} {m0_InvalidList m1_InvalidList m2_InvalidList m3_InvalidList m5_InvalidList : Option Value} {sl_InvalidList tsl_InvalidList : Array (Option Value)} {oc_InvalidList kV_InvalidList dc_InvalidList pm_InvalidList cd_InvalidList ct_InvalidList toc_InvalidList : Value} {tn_InvalidList : Nat} (aC_InvalidList : PySem.W.nsIn K mainGlobals "InvalidList" = some (some (.ref C_InvalidList))) (xL_InvalidList : K.lookup C_InvalidList = some (PySem.excClassObj nm_InvalidList q_InvalidList C_InvalidList N_InvalidList bs_InvalidList [.ref C_SheetError, .type "ValueError", .type "Exception", .type "BaseException", .type "object"] true sn_InvalidList sub_InvalidList ab_InvalidList col_InvalidList dd_InvalidList m0_InvalidList m1_InvalidList m2_InvalidList m3_InvalidList m5_InvalidList "ValueError.__new__")) (sa_InvalidList : PySem.W.findIn K (.ref C_InvalidList) "__setattr__" = some (some (.builtin "object.__setattr__"))) (nv_InvalidList : PySem.W.findIn K (.ref C_InvalidList) "value" = some none) (iC_InvalidList : PySem.W.findIn K (.ref C_InvalidList) "__init__" = some (some (.ref f_InvalidList))) (tI_InvalidList : PySem.W.typeIn K (.ref f_InvalidList) = some (.type "function")) (l_InvalidList : K.lookup f_InvalidList = some ⟨oc_InvalidList, od_InvalidList, .func (PySem.W.fnOf "__init__" "InvalidList.__init__" (defArgs s_iInvalidList) (defBody s_iInvalidList) (defScope s_iInvalidList) (.ref t_InvalidList) kV_InvalidList dc_InvalidList pm_InvalidList an_InvalidList cd_InvalidList ct_InvalidList), sl_InvalidList⟩) (c_InvalidList : PySem.W.codeIn K cd_InvalidList "InvalidList.__init__" = true) (kf_InvalidList : PySem.W.keepIn K (.ref f_InvalidList) = true) (lt_InvalidList : K.lookup t_InvalidList = some ⟨toc_InvalidList, tod_InvalidList, .seq (List.toArray [.none]) tn_InvalidList, tsl_InvalidList⟩) (ss_InvalidList : PySem.W.subIn K (.ref C_InvalidList) (.ref C_SheetError) = some true) (sf_InvalidList : PySem.W.subIn K (.ref C_SheetError) (.ref C_InvalidList) = some false) (ga_InvalidList : PySem.W.findIn K (.ref C_InvalidList) "__getattribute__" = some (some (.builtin "BaseException.__getattribute__"))) (gg_InvalidList : PySem.W.findIn K (.ref C_InvalidList) "__getattr__" = some none) (hc_InvalidList : PySem.W.findIn K (.ref C_InvalidList) "__class__" = some (some (.builtin "object.__class__"))) (kC_InvalidList : PySem.W.keepIn K (.ref C_InvalidList) = true) (eC_InvalidList : PySem.W.subIn K (.ref C_InvalidList) (.type "BaseException") = some true) (tC_InvalidList : PySem.W.typeIn K (.ref C_InvalidList) = some (.type "type")) (hD_InvalidList : PySem.W.hasDictIn K C_InvalidList = true) (iS_InvalidList : PySem.W.isClsIn K C_InvalidList = true) (mo_InvalidList : PySem.W.mroIn K C_InvalidList (.type "object") = some true) (sv_InvalidList : PySem.W.subIn K (.ref C_InvalidList) (.type "ValueError") = some true)
    {C_InvalidTable f_InvalidTable t_InvalidTable N_InvalidTable : Addr} {nm_InvalidTable q_InvalidTable : Str} {bs_InvalidTable sub_InvalidTable : List Value} {sn_InvalidTable : List Str} {ab_InvalidTable : Bool} {col_InvalidTable : Option Bool} {dd_InvalidTable od_InvalidTable an_InvalidTable tod_InvalidTable : Option Addr} {m0_InvalidTable m1_InvalidTable m2_InvalidTable m3_InvalidTable m5_InvalidTable : Option Value} {sl_InvalidTable tsl_InvalidTable : Array (Option Value)} {oc_InvalidTable kV_InvalidTable dc_InvalidTable pm_InvalidTable cd_InvalidTable ct_InvalidTable toc_InvalidTable : Value} {tn_InvalidTable : Nat} (aC_InvalidTable : PySem.W.nsIn K mainGlobals "InvalidTable" = some (some (.ref C_InvalidTable))) (xL_InvalidTable : K.lookup C_InvalidTable = some (PySem.excClassObj nm_InvalidTable q_InvalidTable C_InvalidTable N_InvalidTable bs_InvalidTable [.ref C_SheetError, .type "ValueError", .type "Exception", .type "BaseException", .type "object"] true sn_InvalidTable sub_InvalidTable ab_InvalidTable col_InvalidTable dd_InvalidTable m0_InvalidTable m1_InvalidTable m2_InvalidTable m3_InvalidTable m5_InvalidTable "ValueError.__new__")) (sa_InvalidTable : PySem.W.findIn K (.ref C_InvalidTable) "__setattr__" = some (some (.builtin "object.__setattr__"))) (nv_InvalidTable : PySem.W.findIn K (.ref C_InvalidTable) "value" = some none) (iC_InvalidTable : PySem.W.findIn K (.ref C_InvalidTable) "__init__" = some (some (.ref f_InvalidTable))) (tI_InvalidTable : PySem.W.typeIn K (.ref f_InvalidTable) = some (.type "function")) (l_InvalidTable : K.lookup f_InvalidTable = some ⟨oc_InvalidTable, od_InvalidTable, .func (PySem.W.fnOf "__init__" "InvalidTable.__init__" (defArgs s_iInvalidTable) (defBody s_iInvalidTable) (defScope s_iInvalidTable) (.ref t_InvalidTable) kV_InvalidTable dc_InvalidTable pm_InvalidTable an_InvalidTable cd_InvalidTable ct_InvalidTable), sl_InvalidTable⟩) (c_InvalidTable : PySem.W.codeIn K cd_InvalidTable "InvalidTable.__init__" = true) (kf_InvalidTable : PySem.W.keepIn K (.ref f_InvalidTable) = true) (lt_InvalidTable : K.lookup t_InvalidTable = some ⟨toc_InvalidTable, tod_InvalidTable, .seq (List.toArray [.none]) tn_InvalidTable, tsl_InvalidTable⟩) (ss_InvalidTable : PySem.W.subIn K (.ref C_InvalidTable) (.ref C_SheetError) = some true) (sf_InvalidTable : PySem.W.subIn K (.ref C_SheetError) (.ref C_InvalidTable) = some false) (ga_InvalidTable : PySem.W.findIn K (.ref C_InvalidTable) "__getattribute__" = some (some (.builtin "BaseException.__getattribute__"))) (gg_InvalidTable : PySem.W.findIn K (.ref C_InvalidTable) "__getattr__" = some none) (hc_InvalidTable : PySem.W.findIn K (.ref C_InvalidTable) "__class__" = some (some (.builtin "object.__class__"))) (kC_InvalidTable : PySem.W.keepIn K (.ref C_InvalidTable) = true) (eC_InvalidTable : PySem.W.subIn K (.ref C_InvalidTable) (.type "BaseException") = some true) (tC_InvalidTable : PySem.W.typeIn K (.ref C_InvalidTable) = some (.type "type")) (hD_InvalidTable : PySem.W.hasDictIn K C_InvalidTable = true) (iS_InvalidTable : PySem.W.isClsIn K C_InvalidTable = true) (mo_InvalidTable : PySem.W.mroIn K C_InvalidTable (.type "object") = some true) (sv_InvalidTable : PySem.W.subIn K (.ref C_InvalidTable) (.type "ValueError") = some true) (p_SheetError_SheetError : PySem.W.subIn K (.ref C_SheetError) (.ref C_SheetError) = some true) (p_InvalidList_InvalidList : PySem.W.subIn K (.ref C_InvalidList) (.ref C_InvalidList) = some true) (p_InvalidList_InvalidTable : PySem.W.subIn K (.ref C_InvalidList) (.ref C_InvalidTable) = some false) (p_InvalidTable_InvalidList : PySem.W.subIn K (.ref C_InvalidTable) (.ref C_InvalidList) = some false) (p_InvalidTable_InvalidTable : PySem.W.subIn K (.ref C_InvalidTable) (.ref C_InvalidTable) = some true) :
    ∃ fd : FuncData, (∀ (s : Shared) (v : Value), BindsTo s fd ⟨[v], []⟩ [("_law_script", v)]) ∧ ∀ base : Heap, K.In base → base.Ns mainGlobals mg → FnG l.prog w K mg base 10 fa fd ["_law_script"] (Kx.spLaw K) := by
  have e := hfa.symm.trans (PySem.W.mg_of X G a30)
  cases e
  have T : Txt K mg := ⟨PySem.W.mg_none_of X G z_all, PySem.W.mg_none_of X G z_bool, PySem.W.mg_none_of X G z_int, PySem.W.mg_none_of X G z_isinstance, PySem.W.mg_none_of X G z_len, PySem.W.mg_none_of X G z_list, PySem.W.mg_none_of X G z_max, PySem.W.mg_none_of X G z_range, PySem.W.mg_none_of X G z_repr, PySem.W.mg_none_of X G z_sum, PySem.W.mg_none_of X G z_zip, ⟨_, PySem.W.mg_of X G z_PARTNERS, fun _ => .inr ⟨_, _, _, y_PARTNERS, rfl, rfl, Nat.le_of_ble_eq_true rfl, .cons ⟨_, rfl⟩ (.cons ⟨_, rfl⟩ (.cons ⟨_, rfl⟩ (.cons ⟨_, rfl⟩ (.nil))))⟩⟩⟩
  have F0 := fun_mk (st := s_IsWhole) l0 c0 k0
  have b0 := F0.binds (ps := ["value"]) fun _ _ _ _ _ _ us hl => match us, hl with | [_], _ => rfl
  have F1 := fun_mk (st := s_UnmovingTable) l1 c1 k1
  have b1 := F1.binds (ps := []) fun _ _ _ _ _ _ us hl => match us, hl with | [], _ => rfl
  have F2 := fun_mk (st := s_Paired) l2 c2 k2
  have b2 := F2.binds (ps := ["row", "path"]) fun _ _ _ _ _ _ us hl => match us, hl with | [_, _], _ => rfl
  have F3 := fun_mk (st := s_TurnedOver) l3 c3 k3
  have b3 := F3.binds (ps := ["table"]) fun _ _ _ _ _ _ us hl => match us, hl with | [_], _ => rfl
  have F4 := fun_mk (st := s_CrossingSide) l4 c4 k4
  have b4 := F4.binds (ps := ["x", "y"]) fun _ _ _ _ _ _ us hl => match us, hl with | [_, _], _ => rfl
  have F5 := fun_mk (st := s_LawHash) l5 c5 k5
  have b5 := F5.binds (ps := ["_law_seed", "_law_index"]) fun _ _ _ _ _ _ us hl => match us, hl with | [_, _], _ => rfl
  have F6 := fun_mk (st := s_LawCell) l6 c6 k6
  have b6 := F6.binds (ps := ["_law_script", "_law_index"]) fun _ _ _ _ _ _ us hl => match us, hl with | [_, _], _ => rfl
  have F7 := fun_mk (st := s_LawCrossing) l7 c7 k7
  have b7 := F7.binds (ps := ["_law_one", "_law_other"]) fun _ _ _ _ _ _ us hl => match us, hl with | [_, _], _ => rfl
  have F8 := fun_mk (st := s_LawLed) l8 c8 k8
  have b8 := F8.binds (ps := ["_law_table", "_law_path_here"]) fun _ _ _ _ _ _ us hl => match us, hl with | [_, _], _ => rfl
  have F9 := fun_mk (st := s_LawColumns) l9 c9 k9
  have b9 := F9.binds (ps := ["_law_table"]) fun _ _ _ _ _ _ us hl => match us, hl with | [_], _ => rfl
  have F10 := fun_mk (st := s_LawBase) l10 c10 k10
  have b10 := F10.binds (ps := ["_law_at"]) fun _ _ _ _ _ _ us hl => match us, hl with | [_], _ => rfl
  have F11 := fun_mk (st := s_IsPath) l11 c11 k11
  have b11 := F11.binds (ps := ["value"]) fun _ _ _ _ _ _ us hl => match us, hl with | [_], _ => rfl
  have F12 := fun_mk (st := s_LawRandom) l12 c12 k12
  have b12 := F12.binds (ps := ["_law_generator_here", "_law_bound"]) fun _ _ _ _ _ _ us hl => match us, hl with | [_, _], _ => rfl
  have F13 := fun_mk (st := s_LawGenerator) l13 c13 k13
  have b13 := F13.binds (ps := ["_law_script", "_law_index"]) fun _ _ _ _ _ _ us hl => match us, hl with | [_, _], _ => rfl
  have F14 := fun_mk (st := s_LawProduct) l14 c14 k14
  have b14 := F14.binds (ps := ["_law_one", "_law_other"]) fun _ _ _ _ _ _ us hl => match us, hl with | [_, _], _ => rfl
  have F15 := fun_mk (st := s_LawSelf) l15 c15 k15
  have b15 := F15.binds (ps := []) fun _ _ _ _ _ _ us hl => match us, hl with | [], _ => rfl
  have F16 := fun_mk (st := s_LawKeeps) l16 c16 k16
  have b16 := F16.binds (ps := ["_law_table"]) fun _ _ _ _ _ _ us hl => match us, hl with | [_], _ => rfl
  have F17 := fun_mk (st := s_LawBack) l17 c17 k17
  have b17 := F17.binds (ps := ["_law_table"]) fun _ _ _ _ _ _ us hl => match us, hl with | [_], _ => rfl
  have F18 := fun_mk (st := s_CheckPath) l18 c18 k18
  have b18 := F18.binds (ps := ["path"]) fun _ _ _ _ _ _ us hl => match us, hl with | [_], _ => rfl
  have F19 := fun_mk (st := s_CheckTable) l19 c19 k19
  have b19 := F19.binds (ps := ["table"]) fun _ _ _ _ _ _ us hl => match us, hl with | [_], _ => rfl
  have F20 := fun_mk (st := s_LawPath) l20 c20 k20
  have b20 := F20.binds (ps := ["_law_generator_here"]) fun _ _ _ _ _ _ us hl => match us, hl with | [_], _ => rfl
  have F21 := fun_mk (st := s_LawStepped) l21 c21 k21
  have b21 := F21.binds (ps := ["_law_generator_here", "_law_table"]) fun _ _ _ _ _ _ us hl => match us, hl with | [_, _], _ => rfl
  have F22 := fun_mk (st := s_Crossing) l22 c22 k22
  have b22 := F22.binds (ps := ["one", "other"]) fun _ _ _ _ _ _ us hl => match us, hl with | [_, _], _ => rfl
  have F23 := fun_mk (st := s_LedPath) l23 c23 k23
  have b23 := F23.binds (ps := ["table", "path"]) fun _ _ _ _ _ _ us hl => match us, hl with | [_, _], _ => rfl
  have F24 := fun_mk (st := s_TableProduct) l24 c24 k24
  have b24 := F24.binds (ps := ["one", "other"]) fun _ _ _ _ _ _ us hl => match us, hl with | [_, _], _ => rfl
  have F25 := fun_mk (st := s_KeepsCrossings) l25 c25 k25
  have b25 := F25.binds (ps := ["table"]) fun _ _ _ _ _ _ us hl => match us, hl with | [_], _ => rfl
  have F26 := fun_mk (st := s_TableBack) l26 c26 k26
  have b26 := F26.binds (ps := ["table"]) fun _ _ _ _ _ _ us hl => match us, hl with | [_], _ => rfl
  have F27 := fun_mk (st := s_LawRefused) l27 c27 k27
  have b27 := F27.binds (ps := ["_law_table"]) fun _ _ _ _ _ _ us hl => match us, hl with | [_], _ => rfl
  have F28 := fun_mk (st := s_LawOneRight) l28 c28 k28
  have b28 := F28.binds (ps := ["_law_table"]) fun _ _ _ _ _ _ us hl => match us, hl with | [_], _ => rfl
  have F29 := fun_mk (st := s_LawRight) l29 c29 k29
  have b29 := F29.binds (ps := ["_law_generator_here"]) fun _ _ _ _ _ _ us hl => match us, hl with | [_], _ => rfl
  have F30 := fun_mk (st := s_Law) l30 c30 k30
  have b30 := F30.binds (ps := ["_law_script"]) fun _ _ _ _ _ _ us hl => match us, hl with | [_], _ => rfl
  have kb_KeepsCrossings_t : KB0 K _ ["table"] ["table"] g_KeepsCrossings_t g_KeepsCrossings_t := kb_mk F25 (fun _ _ _ _ _ _ ws hl => match ws, hl with | [_], _ => rfl) (fun {zs ws} hl r => match zs, hl, ws, r with | [_], _, _, (.cons r0 .nil) => (.cons r0 .nil)) (fun zs hl => match zs, hl with | [_], _ => rfl)
  have kb_TableProduct_oo : KB0 K _ ["one", "other"] ["other", "one"] g_TableProduct_oo g_TableProduct_oo := kb_mk F24 (fun _ _ _ _ _ _ ws hl => match ws, hl with | [_, _], _ => rfl) (fun {zs ws} hl r => match zs, hl, ws, r with | [_, _], _, _, (.cons r0 (.cons r1 .nil)) => (.cons r1 (.cons r0 .nil))) (fun zs hl => match zs, hl with | [_, _], _ => rfl)
  refine ⟨PySem.W.fnOf "law" "law" (defArgs s_Law) (defBody s_Law) (defScope s_Law) .none kV30 dc30 pm30 an30 cd30 ct30, fun s v => .of_eq rfl, fun base _ _ => ?_⟩
  have EC_SheetError : L2.ExcC K C_SheetError := ⟨ga_SheetError, gg_SheetError, eC_SheetError, hD_SheetError, hc_SheetError, hn_g, ht_g, mo_SheetError⟩
  have EC_InvalidList : L2.ExcC K C_InvalidList := ⟨ga_InvalidList, gg_InvalidList, eC_InvalidList, hD_InvalidList, hc_InvalidList, hn_g, ht_g, mo_InvalidList⟩
  have EC_InvalidTable : L2.ExcC K C_InvalidTable := ⟨ga_InvalidTable, gg_InvalidTable, eC_InvalidTable, hD_InvalidTable, hc_InvalidTable, hn_g, ht_g, mo_InvalidTable⟩
  have E_SheetError : ErrP K mg "SheetError" C_SheetError [.type "ValueError", .type "Exception", .type "BaseException", .type "object"] "ValueError" "ValueError.__new__" "ValueError.__init__" := ⟨F.excBase_ValueError, xS_SheetError, PySem.W.mg_of X G aC_SheetError, kC_SheetError, EC_SheetError⟩
  have T_InvalidList : OexC K C_InvalidList := ⟨⟨_, _, _, _, _, _, _, _, _, _, _, _, _, _, _, xL_InvalidList, rfl⟩, sa_InvalidList, eC_InvalidList, tC_InvalidList, kC_InvalidList⟩
  have FI_InvalidList : FunD K "__init__" "InvalidList.__init__" (defArgs s_iInvalidList) (defBody s_iInvalidList) (defScope s_iInvalidList) [V.non] [] f_InvalidList (PySem.W.fnOf "__init__" "InvalidList.__init__" (defArgs s_iInvalidList) (defBody s_iInvalidList) (defScope s_iInvalidList) (.ref t_InvalidList) kV_InvalidList dc_InvalidList pm_InvalidList an_InvalidList cd_InvalidList ct_InvalidList) := ⟨⟨oc_InvalidList, od_InvalidList, .ref t_InvalidList, kV_InvalidList, dc_InvalidList, pm_InvalidList, an_InvalidList, cd_InvalidList, ct_InvalidList, sl_InvalidList, rfl, l_InvalidList, c_InvalidList, .inr ⟨by simp, t_InvalidList, _, [.none], tn_InvalidList, rfl, lt_InvalidList, rfl, .cons rfl .nil⟩, .inl rfl⟩, kf_InvalidList⟩
  have E_InvalidList : ErrN l.prog w K mg base "InvalidList" C_InvalidList f_InvalidList _ := errN_mk iC_InvalidList tI_InvalidList (okiInvalidList FI_InvalidList T_InvalidList nv_InvalidList) (bdiInvalidList FI_InvalidList) T_InvalidList (PySem.W.mg_of X G aC_InvalidList) ga_InvalidList gg_InvalidList hD_InvalidList EC_InvalidList nv_InvalidList
  have T_InvalidTable : OexC K C_InvalidTable := ⟨⟨_, _, _, _, _, _, _, _, _, _, _, _, _, _, _, xL_InvalidTable, rfl⟩, sa_InvalidTable, eC_InvalidTable, tC_InvalidTable, kC_InvalidTable⟩
  have FI_InvalidTable : FunD K "__init__" "InvalidTable.__init__" (defArgs s_iInvalidTable) (defBody s_iInvalidTable) (defScope s_iInvalidTable) [V.non] [] f_InvalidTable (PySem.W.fnOf "__init__" "InvalidTable.__init__" (defArgs s_iInvalidTable) (defBody s_iInvalidTable) (defScope s_iInvalidTable) (.ref t_InvalidTable) kV_InvalidTable dc_InvalidTable pm_InvalidTable an_InvalidTable cd_InvalidTable ct_InvalidTable) := ⟨⟨oc_InvalidTable, od_InvalidTable, .ref t_InvalidTable, kV_InvalidTable, dc_InvalidTable, pm_InvalidTable, an_InvalidTable, cd_InvalidTable, ct_InvalidTable, sl_InvalidTable, rfl, l_InvalidTable, c_InvalidTable, .inr ⟨by simp, t_InvalidTable, _, [.none], tn_InvalidTable, rfl, lt_InvalidTable, rfl, .cons rfl .nil⟩, .inl rfl⟩, kf_InvalidTable⟩
  have E_InvalidTable : ErrN l.prog w K mg base "InvalidTable" C_InvalidTable f_InvalidTable _ := errN_mk iC_InvalidTable tI_InvalidTable (okiInvalidTable FI_InvalidTable T_InvalidTable nv_InvalidTable) (bdiInvalidTable FI_InvalidTable) T_InvalidTable (PySem.W.mg_of X G aC_InvalidTable) ga_InvalidTable gg_InvalidTable hD_InvalidTable EC_InvalidTable nv_InvalidTable
  have KT : KitE K [C_InvalidTable] C_SheetError := by
    refine ⟨fun C hC => ?_, fun i j C D hC hD => ?_, fun C hC => ?_, fun C hC => ?_, fun C hC => ?_, fun C hC => ?_⟩
    · simp only [List.mem_cons, List.not_mem_nil, or_false] at hC
      subst hC
      exact PySem.W.exm_ref eC_SheetError hD_SheetError tC_SheetError ss_InvalidTable
    · have hi : i < 1 := (List.getElem?_eq_some_iff.mp hC).1
      have hj : j < 1 := (List.getElem?_eq_some_iff.mp hD).1
      rcases (show i = 0 by omega) with rfl
      · cases hC
        rcases (show j = 0 by omega) with rfl
        · cases hD; exact kit_ref iS_InvalidTable tC_InvalidTable p_InvalidTable_InvalidTable p_InvalidTable_InvalidTable
    · simp only [List.mem_cons, List.not_mem_nil, or_false] at hC
      subst hC
      exact kit_ve sv_InvalidTable
    · simp only [List.mem_cons, List.not_mem_nil, or_false] at hC
      subst hC
      exact EC_InvalidTable
    · simp only [List.mem_cons, List.not_mem_nil, or_false] at hC
      subst hC
      exact E_InvalidTable.xf
    · simp only [List.mem_cons, List.not_mem_nil, or_false] at hC
      subst hC
      exact nv_InvalidTable
  have D_LawHash : DefAt l.prog w K mg base 1 "_law_hash" f5 _ ["_law_seed", "_law_index"] (spHash) := ⟨(okLawHash (P := l.prog) (w := w) (mg := mg) (base := base) F5 T    ), PySem.W.mg_of X G a5, k5, b5⟩
  have D_LawCell : DefAt l.prog w K mg base 1 "_law_cell" f6 _ ["_law_script", "_law_index"] (spCell K) := ⟨(okLawCell (P := l.prog) (w := w) (mg := mg) (base := base) F6 T    ), PySem.W.mg_of X G a6, k6, b6⟩
  have D_IsWhole : DefAt l.prog w K mg base 1 "is_whole" f0 _ ["value"] (spWhole) := ⟨(okIsWhole (P := l.prog) (w := w) (mg := mg) (base := base) F0 T    ), PySem.W.mg_of X G a0, k0, b0⟩
  have D_Paired : DefAt l.prog w K mg base 1 "_paired" f2 _ ["row", "path"] (spPaired) := ⟨(okPaired (P := l.prog) (w := w) (mg := mg) (base := base) F2 T    ), PySem.W.mg_of X G a2, k2, b2⟩
  have D_TurnedOver : DefAt l.prog w K mg base 1 "_turned_over" f3 _ ["table"] (spTurnedO) := ⟨(okTurnedOver (P := l.prog) (w := w) (mg := mg) (base := base) F3 T    ), PySem.W.mg_of X G a3, k3, b3⟩
  have D_UnmovingTable : DefAt l.prog w K mg base 1 "unmoving_table" f1 _ [] (spUnitT) := ⟨(okUnmovingTable (P := l.prog) (w := w) (mg := mg) (base := base) F1 T    ), PySem.W.mg_of X G a1, k1, b1⟩
  have D_CrossingSide : DefAt l.prog w K mg base 1 "_crossing_side" f4 _ ["x", "y"] (spSideT) := ⟨(okCrossingSide (P := l.prog) (w := w) (mg := mg) (base := base) F4 T    ), PySem.W.mg_of X G a4, k4, b4⟩
  have D_LawCrossing : DefAt l.prog w K mg base 1 "_law_crossing" f7 _ ["_law_one", "_law_other"] (spLawCross) := ⟨(okLawCrossing (P := l.prog) (w := w) (mg := mg) (base := base) F7 T    ), PySem.W.mg_of X G a7, k7, b7⟩
  have D_LawColumns : DefAt l.prog w K mg base 1 "_law_columns" f9 _ ["_law_table"] (spTurnedO) := ⟨(okLawColumns (P := l.prog) (w := w) (mg := mg) (base := base) F9 T    ), PySem.W.mg_of X G a9, k9, b9⟩
  have D_LawLed : DefAt l.prog w K mg base 1 "_law_led" f8 _ ["_law_table", "_law_path_here"] (spLedPath) := ⟨(okLawLed (P := l.prog) (w := w) (mg := mg) (base := base) F8 T    ), PySem.W.mg_of X G a8, k8, b8⟩
  have D_LawBase : DefAt l.prog w K mg base 1 "_law_base" f10 _ ["_law_at"] (spLawBase) := ⟨(okLawBase (P := l.prog) (w := w) (mg := mg) (base := base) F10 T    ), PySem.W.mg_of X G a10, k10, b10⟩
  have D_LawRandom : DefAt l.prog w K mg base 2 "_law_random" f12 _ ["_law_generator_here", "_law_bound"] (spRandom) := ⟨(okLawRandom (P := l.prog) (w := w) (mg := mg) (base := base) F12 T  D_LawHash  ), PySem.W.mg_of X G a12, k12, b12⟩
  have D_LawGenerator : DefAt l.prog w K mg base 2 "_law_generator" f13 _ ["_law_script", "_law_index"] (spGen K) := ⟨(okLawGenerator (P := l.prog) (w := w) (mg := mg) (base := base) F13 T  D_LawCell  ), PySem.W.mg_of X G a13, k13, b13⟩
  have D_IsPath : DefAt l.prog w K mg base 2 "is_path" f11 _ ["value"] (spIsPath0) := ⟨(okIsPath (P := l.prog) (w := w) (mg := mg) (base := base) F11 T  D_IsWhole  ), PySem.W.mg_of X G a11, k11, b11⟩
  have D_LawProduct : DefAt l.prog w K mg base 2 "_law_product" f14 _ ["_law_one", "_law_other"] (spTProd) := ⟨(okLawProduct (P := l.prog) (w := w) (mg := mg) (base := base) F14 T  D_LawColumns D_LawLed  ), PySem.W.mg_of X G a14, k14, b14⟩
  have D_LawSelf : DefAt l.prog w K mg base 2 "_law_self" f15 _ [] (spUnitT) := ⟨(okLawSelf (P := l.prog) (w := w) (mg := mg) (base := base) F15 T  D_LawBase  ), PySem.W.mg_of X G a15, k15, b15⟩
  have D_LawKeeps : DefAt l.prog w K mg base 2 "_law_keeps" f16 _ ["_law_table"] (spKeepsT) := ⟨(okLawKeeps (P := l.prog) (w := w) (mg := mg) (base := base) F16 T  D_LawColumns D_LawCrossing D_LawBase  ), PySem.W.mg_of X G a16, k16, b16⟩
  have D_LawBack : DefAt l.prog w K mg base 2 "_law_back" f17 _ ["_law_table"] (spTBack) := ⟨(okLawBack (P := l.prog) (w := w) (mg := mg) (base := base) F17 T  D_LawColumns D_LawCrossing D_LawBase  ), PySem.W.mg_of X G a17, k17, b17⟩
  have D_CheckPath : DefAt l.prog w K mg base 3 "check_path" f18 _ ["path"] (spCheckPath0) := ⟨(okCheckPath (P := l.prog) (w := w) (mg := mg) (base := base) F18 T E_InvalidList D_IsPath  ), PySem.W.mg_of X G a18, k18, b18⟩
  have D_CheckTable : DefAt l.prog w K mg base 3 "_check_table" f19 _ ["table"] (spCheckTab0) := ⟨(okCheckTable (P := l.prog) (w := w) (mg := mg) (base := base) F19 T E_InvalidTable D_IsPath  ), PySem.W.mg_of X G a19, k19, b19⟩
  have D_LawPath : DefAt l.prog w K mg base 3 "_law_path" f20 _ ["_law_generator_here"] (spLawPath) := ⟨(okLawPath (P := l.prog) (w := w) (mg := mg) (base := base) F20 T  D_LawRandom  ), PySem.W.mg_of X G a20, k20, b20⟩
  have D_LawStepped : DefAt l.prog w K mg base 3 "_law_stepped" f21 _ ["_law_generator_here", "_law_table"] (spStepT) := ⟨(okLawStepped (P := l.prog) (w := w) (mg := mg) (base := base) F21 T  D_LawRandom  ), PySem.W.mg_of X G a21, k21, b21⟩
  have D_Crossing : DefAt l.prog w K mg base 4 "crossing" f22 _ ["one", "other"] (spCross) := ⟨(okCrossing (P := l.prog) (w := w) (mg := mg) (base := base) F22 T  D_CheckPath  ), PySem.W.mg_of X G a22, k22, b22⟩
  have D_LedPath : DefAt l.prog w K mg base 4 "led_path" f23 _ ["table", "path"] (spLedPath) := ⟨(okLedPath (P := l.prog) (w := w) (mg := mg) (base := base) F23 T  D_CheckTable D_CheckPath D_Paired  ), PySem.W.mg_of X G a23, k23, b23⟩
  have D_TableProduct : DefAt l.prog w K mg base 4 "table_product" f24 _ ["one", "other"] (spTProd) := ⟨(okTableProduct (P := l.prog) (w := w) (mg := mg) (base := base) F24 T  D_CheckTable D_TurnedOver D_Paired  ), PySem.W.mg_of X G a24, k24, b24⟩
  have D_KeepsCrossings : DefAt l.prog w K mg base 5 "keeps_crossings" f25 _ ["table"] (spKeepsT) := ⟨(okKeepsCrossings (P := l.prog) (w := w) (mg := mg) (base := base) F25 T  D_CheckTable D_UnmovingTable D_TurnedOver D_Crossing  ), PySem.W.mg_of X G a25, k25, b25⟩
  have D_TableBack : DefAt l.prog w K mg base 6 "table_back" f26 _ ["table"] (spTBack) := ⟨(okTableBack (P := l.prog) (w := w) (mg := mg) (base := base) F26 T E_InvalidTable D_KeepsCrossings D_CrossingSide  ), PySem.W.mg_of X G a26, k26, b26⟩
  have X_TableBack : DefX l.prog w K mg base 6 "table_back" f26 _ ["table"] (spTBackX C_InvalidTable) := ⟨(okXTableBack (P := l.prog) (w := w) (mg := mg) (base := base) F26 T E_InvalidTable D_KeepsCrossings D_CrossingSide  ), PySem.W.mg_of X G a26, k26, b26⟩
  have D_LawRefused : DefG l.prog w K mg base 7 "_law_refused" f27 _ ["_law_table"] (spRefT) := ⟨(okLawRefused (P := l.prog) (w := w) (mg := mg) (base := base) F27 T E_InvalidTable E_SheetError X_TableBack KT ), PySem.W.mg_of X G a27, k27, b27⟩
  have D_LawOneRight : DefG l.prog w K mg base 8 "_law_one_right" f28 _ ["_law_table"] (spOneT) := ⟨(okLawOneRight (P := l.prog) (w := w) (mg := mg) (base := base) F28 T  D_TableBack D_LawKeeps D_LawRefused D_LawBack D_LawProduct D_LawSelf D_KeepsCrossings  kb_KeepsCrossings_t), PySem.W.mg_of X G a28, k28, b28⟩
  have D_LawRight : DefG l.prog w K mg base 9 "_law_right" f29 _ ["_law_generator_here"] (spRightT) := ⟨(okLawRight (P := l.prog) (w := w) (mg := mg) (base := base) F29 T  D_LawPath D_LawSelf D_LawStepped D_LawRandom D_LedPath D_LawLed D_LawColumns D_TableProduct D_LawProduct D_LawOneRight  kb_TableProduct_oo), PySem.W.mg_of X G a29, k29, b29⟩
  exact (okLaw (P := l.prog) (w := w) (mg := mg) (base := base) F30 T  D_LawRight D_KeepsCrossings D_TableBack D_LawSelf D_LawGenerator  )
theorem walk {l : PySem.W.OpenLaw} {q : Program} {loose : List Str} {XP : (Str → Option Value) → Heap → Prop} {YP : World → Heap → Prop} {d : DefRec} {K : Params → PySem.W.Frag} (hn : l.most = some 63) (hdf : d.params.defaults = [])
    (hY : ∀ (w : World) (h : Heap), YP w h → (K w.params).In h)
    (F : ∀ (w : World) (mg : Str → Option Value) (fa : Addr) (h : Heap), (K w.params).In h → h.Ns mainGlobals mg → mg d.name = some (.ref fa) →
      ∃ fd : FuncData, (∀ (s : Shared) (u : Value), BindsTo s fd ⟨[u], []⟩ [("_law_script", u)]) ∧ ∀ base : Heap, (K w.params).In base → base.Ns mainGlobals mg → FnG l.prog w (K w.params) mg base 10 fa fd ["_law_script"] (Kx.spLaw (K w.params))) :
    PySem.W.WalkO q loose XP YP l.row.toRowW d [] (fun f vs => PySem.call f vs) :=
  Kx.walkG (n := 63) (k := 10) (x := "_law_script") (sp := fun w => Kx.spLaw (K w.params)) hn (by decide) hdf ⟨rfl, by decide, by decide⟩ hY F (fun _ _ a ns hl _ hS => ⟨a, ns, rfl, hS, hl, fun _ => rfl⟩)
end L43

open PySem PySem.W PyProof.Rows
set_option maxRecDepth 100000 in
set_option maxHeartbeats 0 in
theorem PySem.Challenge.cw_slitsheets_k43_tables_that_keep_crossing_holds : PySem.Challenge.rw_slitsheets_k43_tables_that_keep_crossing.Holds := by
  w_on; o_law; k_head; (case hw => w_witness2)
  k_fill
  refine L43.walk (l := PySem.Challenge.rw_slitsheets_k43_tables_that_keep_crossing) rfl rfl (fun w h Y => PySem.W.kIn_of Y) ?F
  case F =>
    intro w mg fa h KX G hmg
    refine' L43.all_mk KX G hmg ?a0 ?l0 ?c0 ?k0 ?a1 ?l1 ?c1 ?k1 ?a2 ?l2 ?c2 ?k2 ?a3 ?l3 ?c3 ?k3 ?a4 ?l4 ?c4 ?k4 ?a5 ?l5 ?c5 ?k5 ?a6 ?l6 ?c6 ?k6 ?a7 ?l7 ?c7 ?k7 ?a8 ?l8 ?c8 ?k8 ?a9 ?l9 ?c9 ?k9 ?a10 ?l10 ?c10 ?k10 ?a11 ?l11 ?c11 ?k11 ?a12 ?l12 ?c12 ?k12 ?a13 ?l13 ?c13 ?k13 ?a14 ?l14 ?c14 ?k14 ?a15 ?l15 ?c15 ?k15 ?a16 ?l16 ?c16 ?k16 ?a17 ?l17 ?c17 ?k17 ?a18 ?l18 ?c18 ?k18 ?a19 ?l19 ?c19 ?k19 ?a20 ?l20 ?c20 ?k20 ?a21 ?l21 ?c21 ?k21 ?a22 ?l22 ?c22 ?k22 ?a23 ?l23 ?c23 ?k23 ?a24 ?l24 ?c24 ?k24 ?a25 ?l25 ?c25 ?k25 ?a26 ?l26 ?c26 ?k26 ?a27 ?l27 ?c27 ?k27 ?a28 ?l28 ?c28 ?k28 ?a29 ?l29 ?c29 ?k29 ?a30 ?l30 ?c30 ?k30 ?z_all ?z_bool ?z_int ?z_isinstance ?z_len ?z_list ?z_max ?z_range ?z_repr ?z_sum ?z_zip ?z_PARTNERS ?y_PARTNERS ?aC_SheetError ?xS_SheetError ?hn_g ?ht_g ?ga_SheetError ?gg_SheetError ?hc_SheetError ?kC_SheetError ?eC_SheetError ?tC_SheetError ?hD_SheetError ?iS_SheetError ?mo_SheetError ?sv_SheetError ?aC_InvalidList ?xL_InvalidList ?sa_InvalidList ?nv_InvalidList ?iC_InvalidList ?tI_InvalidList ?l_InvalidList ?c_InvalidList ?kf_InvalidList ?lt_InvalidList ?ss_InvalidList ?sf_InvalidList ?ga_InvalidList ?gg_InvalidList ?hc_InvalidList ?kC_InvalidList ?eC_InvalidList ?tC_InvalidList ?hD_InvalidList ?iS_InvalidList ?mo_InvalidList ?sv_InvalidList ?aC_InvalidTable ?xL_InvalidTable ?sa_InvalidTable ?nv_InvalidTable ?iC_InvalidTable ?tI_InvalidTable ?l_InvalidTable ?c_InvalidTable ?kf_InvalidTable ?lt_InvalidTable ?ss_InvalidTable ?sf_InvalidTable ?ga_InvalidTable ?gg_InvalidTable ?hc_InvalidTable ?kC_InvalidTable ?eC_InvalidTable ?tC_InvalidTable ?hD_InvalidTable ?iS_InvalidTable ?mo_InvalidTable ?sv_InvalidTable ?p_SheetError_SheetError ?p_InvalidList_InvalidList ?p_InvalidList_InvalidTable ?p_InvalidTable_InvalidList ?p_InvalidTable_InvalidTable
    (case a0 => first | k_is | rfl)
    (case l0 => first | k_is | rfl)
    (case c0 => first | k_is | rfl)
    (case k0 => first | k_is | rfl)
    (case a1 => first | k_is | rfl)
    (case l1 => first | k_is | rfl)
    (case c1 => first | k_is | rfl)
    (case k1 => first | k_is | rfl)
    (case a2 => first | k_is | rfl)
    (case l2 => first | k_is | rfl)
    (case c2 => first | k_is | rfl)
    (case k2 => first | k_is | rfl)
    (case a3 => first | k_is | rfl)
    (case l3 => first | k_is | rfl)
    (case c3 => first | k_is | rfl)
    (case k3 => first | k_is | rfl)
    (case a4 => first | k_is | rfl)
    (case l4 => first | k_is | rfl)
    (case c4 => first | k_is | rfl)
    (case k4 => first | k_is | rfl)
    (case a5 => first | k_is | rfl)
    (case l5 => first | k_is | rfl)
    (case c5 => first | k_is | rfl)
    (case k5 => first | k_is | rfl)
    (case a6 => first | k_is | rfl)
    (case l6 => first | k_is | rfl)
    (case c6 => first | k_is | rfl)
    (case k6 => first | k_is | rfl)
    (case a7 => first | k_is | rfl)
    (case l7 => first | k_is | rfl)
    (case c7 => first | k_is | rfl)
    (case k7 => first | k_is | rfl)
    (case a8 => first | k_is | rfl)
    (case l8 => first | k_is | rfl)
    (case c8 => first | k_is | rfl)
    (case k8 => first | k_is | rfl)
    (case a9 => first | k_is | rfl)
    (case l9 => first | k_is | rfl)
    (case c9 => first | k_is | rfl)
    (case k9 => first | k_is | rfl)
    (case a10 => first | k_is | rfl)
    (case l10 => first | k_is | rfl)
    (case c10 => first | k_is | rfl)
    (case k10 => first | k_is | rfl)
    (case a11 => first | k_is | rfl)
    (case l11 => first | k_is | rfl)
    (case c11 => first | k_is | rfl)
    (case k11 => first | k_is | rfl)
    (case a12 => first | k_is | rfl)
    (case l12 => first | k_is | rfl)
    (case c12 => first | k_is | rfl)
    (case k12 => first | k_is | rfl)
    (case a13 => first | k_is | rfl)
    (case l13 => first | k_is | rfl)
    (case c13 => first | k_is | rfl)
    (case k13 => first | k_is | rfl)
    (case a14 => first | k_is | rfl)
    (case l14 => first | k_is | rfl)
    (case c14 => first | k_is | rfl)
    (case k14 => first | k_is | rfl)
    (case a15 => first | k_is | rfl)
    (case l15 => first | k_is | rfl)
    (case c15 => first | k_is | rfl)
    (case k15 => first | k_is | rfl)
    (case a16 => first | k_is | rfl)
    (case l16 => first | k_is | rfl)
    (case c16 => first | k_is | rfl)
    (case k16 => first | k_is | rfl)
    (case a17 => first | k_is | rfl)
    (case l17 => first | k_is | rfl)
    (case c17 => first | k_is | rfl)
    (case k17 => first | k_is | rfl)
    (case a18 => first | k_is | rfl)
    (case l18 => first | k_is | rfl)
    (case c18 => first | k_is | rfl)
    (case k18 => first | k_is | rfl)
    (case a19 => first | k_is | rfl)
    (case l19 => first | k_is | rfl)
    (case c19 => first | k_is | rfl)
    (case k19 => first | k_is | rfl)
    (case a20 => first | k_is | rfl)
    (case l20 => first | k_is | rfl)
    (case c20 => first | k_is | rfl)
    (case k20 => first | k_is | rfl)
    (case a21 => first | k_is | rfl)
    (case l21 => first | k_is | rfl)
    (case c21 => first | k_is | rfl)
    (case k21 => first | k_is | rfl)
    (case a22 => first | k_is | rfl)
    (case l22 => first | k_is | rfl)
    (case c22 => first | k_is | rfl)
    (case k22 => first | k_is | rfl)
    (case a23 => first | k_is | rfl)
    (case l23 => first | k_is | rfl)
    (case c23 => first | k_is | rfl)
    (case k23 => first | k_is | rfl)
    (case a24 => first | k_is | rfl)
    (case l24 => first | k_is | rfl)
    (case c24 => first | k_is | rfl)
    (case k24 => first | k_is | rfl)
    (case a25 => first | k_is | rfl)
    (case l25 => first | k_is | rfl)
    (case c25 => first | k_is | rfl)
    (case k25 => first | k_is | rfl)
    (case a26 => first | k_is | rfl)
    (case l26 => first | k_is | rfl)
    (case c26 => first | k_is | rfl)
    (case k26 => first | k_is | rfl)
    (case a27 => first | k_is | rfl)
    (case l27 => first | k_is | rfl)
    (case c27 => first | k_is | rfl)
    (case k27 => first | k_is | rfl)
    (case a28 => first | k_is | rfl)
    (case l28 => first | k_is | rfl)
    (case c28 => first | k_is | rfl)
    (case k28 => first | k_is | rfl)
    (case a29 => first | k_is | rfl)
    (case l29 => first | k_is | rfl)
    (case c29 => first | k_is | rfl)
    (case k29 => first | k_is | rfl)
    (case a30 => first | k_is | rfl)
    (case l30 => first | k_is | rfl)
    (case c30 => first | k_is | rfl)
    (case k30 => first | k_is | rfl)
    (case z_all => first | k_is | rfl)
    (case z_bool => first | k_is | rfl)
    (case z_int => first | k_is | rfl)
    (case z_isinstance => first | k_is | rfl)
    (case z_len => first | k_is | rfl)
    (case z_list => first | k_is | rfl)
    (case z_max => first | k_is | rfl)
    (case z_range => first | k_is | rfl)
    (case z_repr => first | k_is | rfl)
    (case z_sum => first | k_is | rfl)
    (case z_zip => first | k_is | rfl)
    (case z_PARTNERS => first | k_is | rfl)
    (case y_PARTNERS => first | k_is | rfl)
    (case aC_SheetError => first | k_is | rfl)
    (case xS_SheetError => k_exc)
    (case hn_g => first | k_is | rfl)
    (case ht_g => first | k_is | rfl)
    (case ga_SheetError => first | k_is | rfl)
    (case gg_SheetError => first | k_is | rfl)
    (case hc_SheetError => first | k_is | rfl)
    (case kC_SheetError => first | k_is | rfl)
    (case eC_SheetError => first | k_is | rfl)
    (case tC_SheetError => first | k_is | rfl)
    (case hD_SheetError => first | k_is | rfl)
    (case iS_SheetError => first | k_is | rfl)
    (case mo_SheetError => first | k_is | rfl)
    (case sv_SheetError => first | k_is | rfl)
    (case aC_InvalidList => first | k_is | rfl)
    (case xL_InvalidList => first | k_is | rfl)
    (case sa_InvalidList => first | k_is | rfl)
    (case nv_InvalidList => first | k_is | rfl)
    (case iC_InvalidList => first | k_is | rfl)
    (case tI_InvalidList => first | k_is | rfl)
    (case l_InvalidList => first | k_is | rfl)
    (case c_InvalidList => first | k_is | rfl)
    (case kf_InvalidList => first | k_is | rfl)
    (case lt_InvalidList => first | k_is | rfl)
    (case ss_InvalidList => first | k_is | rfl)
    (case sf_InvalidList => first | k_is | rfl)
    (case ga_InvalidList => first | k_is | rfl)
    (case gg_InvalidList => first | k_is | rfl)
    (case hc_InvalidList => first | k_is | rfl)
    (case kC_InvalidList => first | k_is | rfl)
    (case eC_InvalidList => first | k_is | rfl)
    (case tC_InvalidList => first | k_is | rfl)
    (case hD_InvalidList => first | k_is | rfl)
    (case iS_InvalidList => first | k_is | rfl)
    (case mo_InvalidList => first | k_is | rfl)
    (case sv_InvalidList => first | k_is | rfl)
    (case aC_InvalidTable => first | k_is | rfl)
    (case xL_InvalidTable => first | k_is | rfl)
    (case sa_InvalidTable => first | k_is | rfl)
    (case nv_InvalidTable => first | k_is | rfl)
    (case iC_InvalidTable => first | k_is | rfl)
    (case tI_InvalidTable => first | k_is | rfl)
    (case l_InvalidTable => first | k_is | rfl)
    (case c_InvalidTable => first | k_is | rfl)
    (case kf_InvalidTable => first | k_is | rfl)
    (case lt_InvalidTable => first | k_is | rfl)
    (case ss_InvalidTable => first | k_is | rfl)
    (case sf_InvalidTable => first | k_is | rfl)
    (case ga_InvalidTable => first | k_is | rfl)
    (case gg_InvalidTable => first | k_is | rfl)
    (case hc_InvalidTable => first | k_is | rfl)
    (case kC_InvalidTable => first | k_is | rfl)
    (case eC_InvalidTable => first | k_is | rfl)
    (case tC_InvalidTable => first | k_is | rfl)
    (case hD_InvalidTable => first | k_is | rfl)
    (case iS_InvalidTable => first | k_is | rfl)
    (case mo_InvalidTable => first | k_is | rfl)
    (case sv_InvalidTable => first | k_is | rfl)
    (case p_SheetError_SheetError => first | k_is | rfl)
    (case p_InvalidList_InvalidList => first | k_is | rfl)
    (case p_InvalidList_InvalidTable => first | k_is | rfl)
    (case p_InvalidTable_InvalidList => first | k_is | rfl)
    (case p_InvalidTable_InvalidTable => first | k_is | rfl)
